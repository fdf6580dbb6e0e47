import PyProof.Rows.All
import Wide.All
import OpenK.AllK
import PySem.Challenge.RW_goneday_k09_papers_in_order
open PySem.W renaming Frag->DL,nsIn->Ej,mg_none_of->Ez,mg_of->Fo,excIn->F0,fnOf->Gp,mroIn->Gy,keepIn->GG,findIn->GZ,kitOne->Hl,cellsFrom_some->Hr,codeIn->HF,kitAny->HG,methodObj->HQ,callWith_K->IP,specialIn->Jh,takesIn->Jw,isClsIn->Jx
open PySem.Str renaming ofString->DM,ofString->DQ
open PySem.Heap renaming get?_push_of_some->DN,lt_size->DV,get?_push_size->D5,get?_update_self->FG,get?_update_other->Gn,SameBut->GI,size_push->Hk,get?_update_ne->IJ,FlyingW->IS,MadeExcOf->JA,ExtBut->JQ
open List renaming length_map->DP,getElem?_eq_some_iff->DZ,getElem?_eq_getElem->D1,mem_cons->D3,length_cons->D4,replicate->D6,getElem?_map->D7,map_cons->D9,size_toArray->Eb,mem_of_getElem?->Ef,getElem?_cons_succ->Eg,mem_append->Ei,getElem?_set_ne->El,lookup_cons->Eo,mem_cons_of_mem->Ep,append_nil->Er,mem_map->Es,mem_singleton->Et,getElem?_cons_zero->Ew,mem_append_right->Ey,getElem?_set_self->EC,nil_append->EJ,length_nil->EK,cons_append->EM,set_cons_zero->ER,set_cons_succ->ES,not_mem_nil->EU,map_nil->EW,getElem?_nil->EX,range->EZ,map_append->E3,map->E4,pairwise_cons->Fd,mem_cons_self->Ft,getElem?_eq_none->FF,getElem_mem->FH,any_cons->FV,mem_filter->FY,take_of_length_le->FZ,all_cons->F1,length_take->F4,length_append->F6,getElem?_append_left->F7,foldl_cons->F9,map_map->Ga,all_nil->Gb,any_nil->Gd,all_eq_true->Gi,filter_cons->Gk,nodup_cons->Gu,length_replicate->Gv,take_append_drop->Gw,getElem?_append_right->Gx,length_range->Gz,pairwise_map->GA,drop_eq_getElem_cons->GB,take_succ->GH,ext_getElem->GL,filterMap_cons->GN,getElem?_replicate->GP,mem_filterMap->GR,mem_range->GW,length_filter_le->G0,length_drop->G5,mem_of_mem_take->G7,getD_eq_getElem?_getD->G8,getElem?_set_self'->Ho,reverse_cons->Hq,map_take->Hw,getElem_inj->Hx,filterMap_append->Hy,mem_append_left->HA,mem_of_mem_drop->HC,eq_nil_of_length_eq_zero->HD,mem_replicate->HK,length_eraseIdx_of_lt->HN,take_sublist->HR,pairwise_iff_getElem->HZ,idxOf_lt_length_iff->Ig,of_mem_zip->Im,length->Io,drop_of_length_le->Ip,filter_eq_nil_iff->Ir,pairwise_append->IE,getElem_of_mem->IH,length_reverse->II,filter_eq_self->IK,replicate_succ->IL,contains_cons->IT,filterMap_map->IW,toArray->IY,getElem_idxOf->I0,filter_filter->Ja,append_assoc->Jf,nodup_append->Ji,not_lt->Jj,le_antisymm->Jm,nodup_range->Jn,map_snd_zip->Jr,forIn_cons->Js,range_succ->Ju,forIn_nil->Jz,lt_trans->JG,map_drop->JH,filter->JR,Nodup->JW,foldl->JX
open PySem renaming Spec->DR,mem_of_lookup->E8,Scope->Fg,boot_len->G1,Fin->IZ,call->JU
open Nat renaming le_refl->DU,lt_of_lt_of_le->D8,ne_of_lt->Ec,lt_irrefl->ET,le_trans->EV,zero_le->E1,lt_succ_of_lt->Fi,reduceAdd->Fp,reduceSub->Fq,reduceLeDiff->Fw,add_zero->FJ,zero_add->FK,sub_self->FL,reduceLT->FN,lt_succ_self->Gh,lt_or_ge->Gq,ne_of_gt->GJ,le_of_lt->GX,le_succ->Hs,le_of_succ_le->HS,le_of_not_lt->Ib,le_of_eq->JL
open PySem.PyData renaming str->DW,int->DY,eqv->Ea,strOk->Ed,tuple->Em,canLay0->EA,list->Fs,canLayAll0->FX,bool->G9,depthAll->Hb,depth->Hg,none->Iq,dict->JS
open Array renaming length_toList->D2,getD_eq_getD_getElem?->E9,toList_append->GO,getElem?_eq_getElem->Hd,getD->Hn,getElem?_eq_none->Ht,append_assoc->HH,perm_iff_toList_perm->HP,getElem?_toList->Iw,toArray_toList->IC,toList_push->Je,toList_inj->Jo,toList_map->Jp,toList_zip->Jq,toList->JI
open PySem.ScopeKind renaming function->Ee
open PySem.NameKind renaming free->Ek,free->Fc,globalImplicit->Fh,cell->Hu
open Bool renaming false_eq_true->Eu,not_eq_true'->EH,false_ne_true->EI,true_eq_false->E2,or_false->Fm,not_false->Fz,false_or->FQ,true_and->FT,not_true->FU,and_true->F2,and_eq_true->F5,or_eq_true->Jv,false_and->Jy,or_true->JK
open PySem.Heap.SameBut renaming update->EB
open Option.some renaming inj->ED,injEq->EY
open PySem.Value renaming ref->EF,str->Gf,none->Gm,bool->GQ,int->G2,type->G4,builtin->Hv,isStrOf_shape->IG,isStrOf->JC
open List.cons renaming injEq->EG
open PySem.PyData.int renaming injEq->EL
open PySem.Obj renaming mapSeq->EN,data_mapFields->FI,isFreed_of_fields->GY,cls_mapFields->HU,putSet->HW,mapFields->JF
open PySem.SeqAt renaming canLay_of_shaped->EO,shaped->Hf
open Option renaming join_some->E5,join_none->E6,map_some->FC,map_none->FD,isSome_iff_exists->F8,getD_none->Jk,bind->JP
open False renaming elim->E7
open Int renaming eq_ofNat_of_zero_le->Fb,reduceNeg->Fx,reducePow->Fy,reduceLT->FO,reduceLE->FP,toNat_natCast->FW,emod_lt_of_pos->Gs,emod_nonneg->GV,zero_add->Jb
open PySem.PyData.tuple renaming injEq->Fe
open PySem.PyData.bool renaming injEq->Fj
open PySem.PyData.list renaming injEq->Fl
open PySem.PyData.str renaming injEq->Fv
open PySem.Builtin.Int renaming intBits->FA
open PySem.Txt renaming mul->F3
open PySem.PassesOwn renaming never->Ge
open PySem.SetTable renaming grown->Gj,below->Hm,sizeAbove->IX,layClean->Jd,relaid->Jt,laid->JE
open PyProof.Rows.F renaming plain_set_update_loop->Gr,entry_set_update_loop->Hh
open PySem.Builtin.Slice renaming slicePlaces->GC,sliceAdjust->Hc,sliceApplied->HM
open PySem.Around renaming under_plainId->GF,frames_deeper->Iz
open PySem.Builtin.Tuple renaming tupleExact->GK,tupleItemsOf->JD
open PySem.W.WData renaming int->GS,weightAll->Ha,list->HV,layableAll->Jl,weight->JJ
open ForInStep renaming yield->GU
open PyProof.Rows renaming callWith_type1->G3,boot_sorted->Hi,slot_tuple_getitem->Hz,bubble->HE,boot_max->JT
open True renaming intro->G6
open PySem.W.KasT renaming kasWp_bind->He
open Sum renaming inr->Hj,inl->Ia
open Or renaming inr->HB,inl->Ic
open PySem.Builtin.List renaming listLengthHint->HI,listExtendWith->HJ,listSameRef->Ie,listUpdate->Ik
open PySem.Calls renaming Name_function_global->HL,call_function_entry->HY,evalArgs_plain->IA,spliced_cons->IM,spliced_nil->Jc
open PySem.F renaming plain_extend_loop->HX,plainAttrs_list->Ii,plain_list_iadd->Ij,slot_list_index->Il,plain_set_new->Iu,slot_set_iter->Iy
open Nat.succ renaming inj->Ih
open PySem.SeqAt.RcAt renaming tuple_str->IB,str_tuple->ID,str_str->IV
open PySem.Expr renaming BinOp->IF,Subscript->JB,List->J0
open PySem.Heap.IsSliceOf renaming new->IQ
open PySem.Code renaming quiet_builtin->IU
open PySem.SetTable.below renaming go->Jg
open List.Pairwise renaming imp_of_mem->JM
open PySem.Builtin.Str renaming occurrences->JN
open PySem.CmpOp renaming NotIn->JO
open PySem.Walks renaming list->JV
open PySem.SeqAt.EqAt renaming str_int->JY
open PyProof.Rows.IsTup renaming new->JZ
open PySem.Heap.DictOf renaming new->J1
open PySem renaming PyData->Kb,Value->Kc,wpAny_bind->Kd,Addr->Ke,Shared->Kf,wpAny_pure->Kg,wpAny->Kh,model->Ki,starEach->Kj,Expr->Kk,sizeLine->Kl,Heap->Km,mainGlobals->Kn,FuncData->Ko,Program->Kp,World->Kq,Around->Kr,Stmt->Ks,foldedSetIterable->Kt,sizeLine_eq->Kv,bootBuiltins->Kw,wpAny_newObj_type->Kx,wpAny_mono->Ky,Scope->Kz,backTo->KA,compareOp->KC,cellsFrom->KD,wpAny_call_entry->KG,NameKind->KI,swapsWith->KJ,behindInMarks->KL,wpAny_holding->KN,wpAny_loadPart'->KO,wpAny_callSpecial?_slot->KQ,codeAny_mono->KR,wpAny_Call_Name_kw->KS,codeAny_builtin->KU,wpAny_truthy_bool->KW,rawInt->KY,wpAny_setState_of->KZ,binaryOp->K0,wpAny_askSetting->K1,wpAny_setEntries_of->K2,codeAny->K3,scanBound->K4,wpAny_setField->K6,pyNext->K7,sliceBounds->K9,wpAny_execs_nil->La,wpAny_passesOwn->Lb,SetTable->Ld,builtinsNs->Le,assignEach->Lg,setNext->Lh,plainId_quiet->Lj,wpAny_attempt->Lk,wpAny_newList->Ll,relayAll->Lm,Keyword->Ln,letOwnedTupleGo->Lp,typeIs_str->Lq,call_meets->Lr,codeAny_call_builtin->Lu,wpAny_fieldsOf->Lv,firstArgMember->Lw,wpAny_of_eq->Lx,Arguments->Ly,pickOrder->Lz,attributeBase->LA,wpAny_pyIter_list->LB,wpAny_execs_cons->LC,wpAny_comprehension_free->LD,checkBuiltinCall->LG,wpAny_isInstance->LH,GenState->LJ
open PyProof.Rows renaming seqObj->Ku,StrsAre->KH,envOfC->K5,listUpdate_at->K8,get?_update_seq->Lc,AllBare->Lf
open PySem.W renaming hideAll_get->Li,kia_one->Lo
theorem td{p:Prop}[Decidable p](h:decide p=true:=by decide+kernel):p:=of_decide_eq_true h
theorem J3{p:Prop}(h:p:=by decide):p:=h
theorem J4{p:Prop}(h:p:=by omega):p:=h
theorem Ka{p:Prop}(h:p:=by simp):p:=h
theorem J5{c:Prop}{h:Decidable c}(k:¬c){α:Sort u}{t e:α}:ite c t e=e:=if_neg k
theorem J6{c:Prop}{h:Decidable c}(k:c){α:Sort u}{t e:α}:ite c t e=t:=if_pos k
abbrev LK:=PySem.NameKind.local
set_option compiler.extract_closed false
def rzT (n : String) : Lean.MacroM (Lean.TSyntax `tactic) := do
 let ts : Array (Lean.TSyntax `Lean.Parser.Tactic.simpLemma) <- ((n.splitOn " ").toArray).mapM λs =>do
  if s.startsWith "↓" then
   let i := Lean.mkIdent (s.drop 1).toString.toName
   `(Lean.Parser.Tactic.simpLemma| ↓ $i:ident)
  else
   let i := Lean.mkIdent s.toName
   `(Lean.Parser.Tactic.simpLemma| $i:ident)
 `(tactic| simp only [$ts,*])
local macro_rules|`(command|def $i:declId $s:optDeclSig $v:declVal)=>`(command|noncomputable def $i:declId $s:optDeclSig $v:declVal)|`(command|abbrev $i:declId $s:optDeclSig $v:declVal)=>`(command|noncomputable abbrev $i:declId $s:optDeclSig $v:declVal)
noncomputable section
set_option Elab.async false
set_option linter.all false
set_option maxRecDepth 100000
set_option maxHeartbeats 0
set_option genSizeOf false
namespace L2
open PySem PySem.Spec PyProof.Rows
abbrev aA:=Sum Int Str
def sP:aA->Kc->Bool
 | .inl k,v=>Value.isInt k v
 | .inr x,v=>JC x v
def wu(w:Kq):aA->Int
 | .inl k=>hashInt k
 | .inr x=>hashStr w x
theorem k6:∀{k:aA}{v:Kc},sP k v=true->(∃i t,k=Ia i/\v=G2 i t)\/(∃x t,k=Hj x/\v=Gf x t)
 | .inl i,v,h=>by
  obtain⟨t,e⟩:=Value.isInt_shape (k:=i) (v:=v) h;exact .inl ⟨i,t,rfl,e⟩
 | .inr x,v,h=>by
  obtain⟨t,e⟩:=IG (x:=x) (v:=v) h;exact .inr ⟨x,t,rfl,e⟩
theorem wx(a b:Int):decide ((Ia a:aA)=Ia b)=(a==b):=by
 by_cases e:a=b
 ·subst e;simp
 ·have h:¬(Ia a:aA)=Ia b:=λq=>e (Ia.inj q);rw [decide_eq_false h];exact(beq_eq_false_iff_ne.mpr e).symm
theorem wy(a b:Str):decide ((Hj a:aA)=Hj b)=decide (a=b):=by
 by_cases e:a=b
 ·subst e;simp
 ·have h:¬(Hj a:aA)=Hj b:=λq=>e (Hj.inj q);rw [decide_eq_false h,decide_eq_false e]
theorem wz(a:Int)(b:Str):decide ((Ia a:aA)=Hj b)=false:=decide_eq_false (λq=>nomatch q)
theorem wA(a:Str)(b:Int):decide ((Hj a:aA)=Ia b)=false:=decide_eq_false (λq=>nomatch q)
def sQ(prog:Kp)(w:Kq):PySem.KeyKind prog w aA where
 is:=sP
 hash:=wu w
 inj:=λv a b ha hb=>by
  rcases k6 ha with⟨i,t,rfl,rfl⟩ | ⟨x,t,rfl,rfl⟩
  ·rcases k6 hb with⟨j,u,rfl,e⟩ | ⟨y,u,rfl,e⟩
   ·injection e with e1 _;rw [e1]
   ·exact nomatch e
  ·rcases k6 hb with⟨j,u,rfl,e⟩ | ⟨y,u,rfl,e⟩
   ·exact nomatch e
   ·injection e with e1 _;rw [e1]
 byValue:=λk v h=>by
  rcases k6 h with⟨i,t,rfl,rfl⟩ | ⟨x,t,rfl,rfl⟩ <;> rfl
 pyHash:=λhv h=>by
  rcases k6 hv with⟨i,t,rfl,rfl⟩ | ⟨x,t,rfl,rfl⟩
  ·exact wpAny_pyHash_int h
  ·exact wpAny_pyHash_str h
 eqBool:=λhu hv h=>by
  rcases k6 hu with⟨i,t,rfl,rfl⟩ | ⟨x,t,rfl,rfl⟩
  ·rcases k6 hv with⟨j,u,rfl,rfl⟩ | ⟨y,u,rfl,rfl⟩
   ·rw [wx] at h;exact wpAny_eqBool_int h
   ·rw [wz] at h;exact SeqAt.EqAt.int_str i t y u _ _ _ _ h
  ·rcases k6 hv with⟨j,u,rfl,rfl⟩ | ⟨y,u,rfl,rfl⟩
   ·rw [wA] at h;exact JY x t j u _ _ _ _ h
   ·rw [wy] at h;exact wpAny_eqBool_str h
 «strs»:=λk x t v h=>by
  rcases k6 h with⟨i,u,rfl,e⟩ | ⟨y,u,rfl,e⟩
  ·exact nomatch e
  ·injection e with e1 _
   subst e1;cases v <;> rfl
inductive V where
 | non | bl (b:Bool) | int (i:Int) | str (x:Str) | byt (b:Array UInt8) | flt (b:UInt64) | ref (a:Ke) | ty (n:String)
 deriving DecidableEq
def aD:V->Kc->Prop
 | .non,u=>u=Gm
 | .bl b,u=>u=GQ b
 | .int i,u=>∃t,u=G2 i t
 | .str x,u=>∃t,u=Gf x t
 | .byt b,u=>∃t,u=Value.bytes b t
 | .flt b,u=>∃t,u=Value.float b t
 | .ref a,u=>u=EF a
 | .ty n,u=>u=G4 n
abbrev aq:List V->List Kc->Prop:=Paired aD
theorem aq.length{xs:List V}{us:List Kc}(r:aq xs us):xs.length=us.length:=Paired.length r
theorem aq.get:∀{xs:List V}{us:List Kc}{i:Nat}{x:V},aq xs us->xs[i]?=some x->∃u,us[i]?=some u/\aD x u
 | _,_,_,_,.nil,e=>by simp at e
 | _,_,0,_,.cons r _,e=>by simp at e;subst e;exact⟨_,rfl,r⟩
 | _,_,i+1,x,.cons _ t,e=>by
  obtain⟨u,h1,h2⟩:=aq.get (i:=i) (x:=x) t (by simpa using e);exact⟨u,by simpa using h1,h2⟩
theorem aq.append:∀{xs ys:List V}{us ws:List Kc},aq xs us->aq ys ws->aq (xs++ys) (us++ws)
 | _,_,_,_,.nil,s=>s
 | _,_,_,_,.cons r t,s=>.cons r (aq.append t s)
theorem aq.take:∀{xs:List V}{us:List Kc}(n:Nat),aq xs us->aq (xs.take n) (us.take n)
 | _,_,0,_=>.nil
 | _,_,_+1,.nil=>.nil
 | _,_,n+1,.cons r t=>.cons r (aq.take n t)
theorem aq.drop:∀{xs:List V}{us:List Kc}(n:Nat),aq xs us->aq (xs.drop n) (us.drop n)
 | _,_,0,r=>r
 | _,_,_+1,.nil=>.nil
 | _,_,n+1,.cons _ t=>aq.drop n t
def sR:Option V->Option Kc->Prop
 | some v,some u=>aD v u
 | none,none=>True
 | _,_=>False
def KV{κ:Type}:List (κ×V)->List (κ×Kc)->Prop:=Paired λ(p:κ×V) (q:κ×Kc)=>p.1=q.1/\aD p.2 q.2
def kV:aA->V
 | .inl i=>.int i
 | .inr x=>.str x
inductive HO where
 | lst (xs:List V)
 | tup (xs:List V)
 | dK (kvs:List (aA×V)) | dT (kvs:List (List aA×V))
 | set (S:Int->Bool) (n:Nat)
 | ins (C dx:Ke) (fs:List (Str×V))
 | own (x:Ke)
 | xd (fs:List (Str×V))
 | met (f x:Ke)
 | rng (lo hi:Int)
 | frz (o:Obj) (u:HO)
 | tbl (ps:Array Kc)
 | cod (q:Str)
 | ext (φ:Km->Prop)
abbrev Hp:=Ke->Option HO
def ai(H:Hp)(a:Ke)(o:HO):Hp:=λb=>if b=a then some o else H b
theorem bf{H:Hp}{a:Ke}{o:HO}:ai H a o a=some o:=by unfold ai;rw [J6 rfl]
theorem au{H:Hp}{a b:Ke}{o:HO}(h:b≠a):ai H a o b=H b:=by unfold ai;rw [J5 h]
theorem bV{H:Hp}{a b:Ke}{o:HO}(h:H a=some o)(h':H b=none):a≠b:=by
 intro e;subst e;rw [h] at h';cases h'
def wB(h:Km)(a:Ke)(q:Str):Prop:=∃oc vs t,h.get? a=some oc/\oc.data= .fields vs/\vs[1]?=some (.str q t)
def wC(H:Hp)(h:Km)(a:Ke)(q:Str):Prop:=∃ps:Array Kc,h.get? a=some {cls:= .none,data:= .fields ps}/\PySem.TriplesOk ps.toList/\∀pos cv,PySem.codeAmong pos ps.toList=some cv->∃c,cv= .ref c/\H c=some (.cod q)
section
variable (P:Kp) (w:Kq)
def bz(H:Hp)(h:Km)(a:Ke):HO->Prop
 | .lst xs=>xs.length<=Kl/\∃(its:List Kc)(n:Nat),aq xs its/\h.get? a=some {cls:= .type "list",data:= .seq its.toArray n}
 | .tup xs=>xs.length<=Kl/\∃its:List Kc,aq xs its/\IsTup h a its.toArray
 | .dK kvs=>kvs.length<=Kl/\(a==sysModules)=false/\∃vs,KV kvs vs/\h.DictOf (sQ P w) a vs
 | .dT kvs=>kvs.length<=Kl/\(a==sysModules)=false/\∃xs:List (List aA×Ke×Kc),
  Paired (λ(p:List aA×V) (q:List aA×Ke×Kc)=>p.1=q.1/\H q.2.1=some (.tup (p.1.map kV))/\aD p.2 q.2.2) kvs xs/\
  ∃o es ep,h.get? a=some o/\o.ExactDict/\o.data= .dict es ep/\es.toList=xs.map (entryOfKey (tupleKind (sQ P w)))/\(xs.map (·.1)).Nodup
 | .set S n=>h.SetOf (intKind P w) a S n
 | .ins C dx fs=>H dx=some (.own a)/\fs.length<=1000/\dx≠a/\h.get? a=some (PySem.W.instObj C dx)/\
  ∃mA,h.Ns1 dx mA/\(∀f,sR (fs.lookup f) (mA f))/\PySem.Within mA (fs.map (·.1))
 | .own _=>∃o,h.get? a=some o
 | .xd fs=>∃mA,h.Ns1 a mA/\∀f,sR (fs.lookup f) (mA f)
 | .rng lo hi=>∃t u v,h.get? a=some {cls:= .type "range",data:= .fields #[.int lo t,.int hi u,.int 1 v]}
 | .frz o u=>h.get? a=some o/\bz H h a u
 | .tbl ps=>∃q t,ps[0]?=some (.str q t)/\wC H h a q
 | .cod q=>wB h a q
 | .met f x=>h.get? a=some (HQ (.ref f) (.ref x))
 | .ext φ=>φ h/\(∃o,h.get? a=some o)/\∀h1 h2:Km,φ h1->(∀o,h1.get? a=some o->h2.get? a=some o)->φ h2
def aU(H:Hp)(h:Km):Prop:=∀a o,H a=some o->bz P w H h a o
end
section
variable {P:Kp} {w:Kq} {H H':Hp} {h h':Km} {a:Ke} {o:HO}
theorem bz.lt(x:bz P w H h a o):a < h.objs.size:=by
 cases o with
 | lst xs=>obtain⟨_,_,_,_,e⟩:=x;exact DV e
 | tup xs=>obtain⟨_,_,_,p⟩:=x;exact p.lt
 | dK kvs=>obtain⟨_,_,_,_,o,_,_,e,_⟩:=x;exact DV e
 | dT kvs=>obtain⟨_,_,_,_,o,_,_,e,_⟩:=x;exact DV e
 | set S n=>obtain⟨o,_,_,_,e,_⟩:=x;exact DV e
 | ins C dx fs=>obtain⟨_,_,_,e,_⟩:=x;exact DV e
 | own y=>obtain⟨_,e⟩:=x;exact DV e
 | xd fs=>obtain⟨_,⟨_,_,_,e,_⟩,_⟩:=x;exact DV e
 | rng lo hi=>obtain⟨_,_,_,e⟩:=x;exact DV e
 | frz ob u=>obtain⟨e,_⟩:=x;exact DV e
 | tbl ps=>obtain⟨_,_,_,_,e,_⟩:=x;exact DV e
 | cod q=>obtain⟨_,_,_,e,_⟩:=x;exact DV e
 | met f y=>exact DV (show h.get? a=some _ from x)
 | ext φ=>obtain⟨_,⟨_,e⟩,_⟩:=x;exact DV e
theorem Paired.mapP{α β:Type}{F G:α->β->Prop}:∀{l₁:List α}{l₂:List β},Paired F l₁ l₂->(∀a b,F a b->G a b)->Paired G l₁ l₂
 | _,_,.nil,_=>.nil
 | _,_,.cons r t,f=>.cons (f _ _ r) (Paired.mapP t f)
theorem bz.stay(x:bz P w H h a o)(k:∀b u,(b=a\/H b=some (.own a))->h.get? b=some u->h'.get? b=some u)
 (ho:∀b,H b=some (.own a)->H' b=some (.own a))(ht:∀b xs,H b=some (.tup xs)->H' b=some (.tup xs))(hc:∀b q,H b=some (.cod q)->H' b=some (.cod q)):bz P w H' h' a o:=by
 induction o with
 | lst xs=>obtain⟨z,its,n,r,e⟩:=x;exact⟨z,its,n,r,k _ _ (.inl rfl) e⟩
 | tup xs=>obtain⟨z,its,r,ob,e,c⟩:=x;exact⟨z,its,r,ob,k _ _ (.inl rfl) e,c⟩
 | dK kvs=>obtain⟨z,y,vs,r,ob,es,ep,e,c⟩:=x;exact⟨z,y,vs,r,ob,es,ep,k _ _ (.inl rfl) e,c⟩
 | dT kvs=>
  obtain⟨z,y,xs,r,ob,es,ep,e,c⟩:=x;exact⟨z,y,xs,Paired.mapP r λp q z=>⟨z.1,ht _ _ z.2.1,z.2.2⟩,ob,es,ep,k _ _ (.inl rfl) e,c⟩
 | set S n=>obtain⟨ob,es,ep,t,e,c⟩:=x;exact⟨ob,es,ep,t,k _ _ (.inl rfl) e,c⟩
 | ins C dx fs=>
  obtain⟨d,z,ne,e,mA,⟨od,es,ep,e2,c⟩,r⟩:=x;exact⟨ho _ d,z,ne,k _ _ (.inl rfl) e,mA,⟨od,es,ep,k _ _ (.inr d) e2,c⟩,r⟩
 | own y=>obtain⟨ob,e⟩:=x;exact⟨ob,k _ _ (.inl rfl) e⟩
 | xd fs=>obtain⟨mA,⟨od,es,ep,e,c⟩,r⟩:=x;exact⟨mA,⟨od,es,ep,k _ _ (.inl rfl) e,c⟩,r⟩
 | rng lo hi=>obtain⟨t,u,v,e⟩:=x;exact⟨t,u,v,k _ _ (.inl rfl) e⟩
 | frz ob u ih=>obtain⟨e,q⟩:=x;exact⟨k _ _ (.inl rfl) e,ih q⟩
 | tbl ps=>
  obtain⟨q,t,z,qs,e,tr,y⟩:=x;exact⟨q,t,z,qs,k _ _ (.inl rfl) e,tr,λpos cv w=>let ⟨c,e1,e2⟩:=y pos cv w;⟨c,e1,hc _ _ e2⟩⟩
 | cod q=>obtain⟨oc,vs,t,e,r⟩:=x;exact⟨oc,vs,t,k _ _ (.inl rfl) e,r⟩
 | met f y=>
  have e:h.get? a=some (HQ (.ref f) (.ref y)):=x;show h'.get? a=some (HQ (.ref f) (.ref y));exact k a _ (.inl rfl) e
 | ext φ=>obtain⟨p,⟨o,e⟩,st⟩:=x;exact⟨st _ _ p λo q=>k _ _ (.inl rfl) q,⟨o,k _ _ (.inl rfl) e⟩,st⟩
theorem aU.lt(x:aU P w H h)(e:H a=some o):a < h.objs.size:=(x a o e).lt
theorem aU.fresh(x:aU P w H h)(e:h.objs.size<=a):H a=none:=by
 cases q:H a with
 | none=>rfl
 | some u=>exact absurd (D8 (x.lt q) e) (ET _)
theorem aU.kept(x:aU P w H h)(k:∀b u,h.get? b=some u->h'.get? b=some u):aU P w H h':=λa o e=>
 (x a o e).stay (λb u _ q=>k b u q) (λ_ q=>q) (λ_ _ q=>q) λ_ _ q=>q
theorem aU.laid(x:aU P w H h)(k:∀b u,h.get? b=some u->h'.get? b=some u)(hp:h.objs.size<=a)(new:bz P w (ai H a o) h' a o):aU P w (ai H a o) h':=λb u e=>by
 have hn:=x.fresh hp;by_cases hb:b=a
 ·subst hb;rw [bf] at e;cases e;exact new
 ·rw [au hb] at e;exact(x b u e).stay (λc v _ q=>k c v q) (λc q=>by rw [au (bV q hn)];exact q) (λc xs q=>by rw [au (bV q hn)];exact q) λc xs q=>by rw [au (bV q hn)];exact q
end
def Rd(H:Hp)(a:Ke)(u:HO):Prop:=H a=some u\/∃o,H a=some (.frz o u)
theorem Rd.ok{P:Kp}{w:Kq}{H:Hp}{h:Km}{a:Ke}{u:HO}(r:Rd H a u)(x:aU P w H h):bz P w H h a u:=by
 rcases r with r | ⟨o,r⟩
 ·exact x a u r
 ·obtain⟨_,q⟩:=x a _ r;exact q
def ov:Option HO->Prop
 | some (.lst _)=>True
 | some (.dK _)=>True
 | some (.dT _)=>True
 | some (.set _ _)=>True
 | some (.ins _ _ _)=>True
 | some (.ext _)=>True
 | _=>False
section
variable {P:Kp} {w:Kq} {H:Hp} {h h':Km} {x e:Ke} {o':HO}
theorem aU.write(ok:aU P w H h)(mu:ov (H x))(he:e=x\/H e=some (.own x))(k:∀b u,b≠e->h.get? b=some u->h'.get? b=some u)(heo:∃u,h'.get? e=some u)
 (new:bz P w (ai H x o') h' x o'):aU P w (ai H x o') h':=λb u q=>by
 have nown:∀c y,H c=some (.own y)->c≠x:=λc y r z=>by subst z;rw [r] at mu;exact mu
 have ntup:∀c xs,H c=some (.tup xs)->c≠x:=λc xs r z=>by subst z;rw [r] at mu;exact mu
 have ncod:∀c xs,H c=some (.cod xs)->c≠x:=λc xs r z=>by subst z;rw [r] at mu;exact mu
 by_cases hb:b=x
 ·subst hb;rw [bf] at q;cases q;exact new
 ·rw [au hb] at q;by_cases hbe:b=e
  ·have q':H b=some (.own x):=by
    rcases he with z | z
    ·exact absurd (hbe.trans z) hb
    ·rw [hbe];exact z
   rw [q] at q';cases q';obtain⟨v,hv⟩:=heo;exact⟨v,by rw [hbe];exact hv⟩
  ·refine(ok b u q).stay (λc v hc r=>k c v ?_ r) (λc r=>by rw [au (nown c b r)];exact r) (λc xs r=>by rw [au (ntup c xs r)];exact r) λc xs r=>by rw [au (ncod c xs r)];exact r
   rcases hc with rfl | hc
   ·exact hbe
   ·rintro rfl;rcases he with z | z
    ·exact nown c b hc z
    ·rw [hc] at z;cases z;exact hb rfl
end
structure Un (fs ex:List Ke) (H H':Hp) (h h':Km):Prop where
 keep:∀b o,h.get? b=some o->H b=none->b ∉ fs->b ∉ ex->h'.get? b=some o
 slot:∀b o,h.get? b=some o->H b=none->b∈fs->b ∉ ex->∃sl,h'.get? b=some {o with slots:=sl}
 free:∀b o,h.get? b=some o->H b=none->b ∉ ex->H' b=none
 there:∀b o,h.get? b=some o->b ∉ ex->∃o',h'.get? b=some o'
 tups:∀b xs,H b=some (.tup xs)->H' b=some (.tup xs)
 frzs:∀b o u,H b=some (.frz o u)->H' b=some (.frz o u)
 tbls:∀b ps,H b=some (.tbl ps)->∃more,H' b=some (.tbl (ps++more))
section
variable {fs fs' ex ex':List Ke} {H H1 H2:Hp} {h h1 h2 h':Km} {a x e:Ke} {o:HO}
theorem Un.any(u:Un fs ex H H1 h h1){b:Ke}{ob:Obj}(q:h.get? b=some ob)(n:H b=none)(hx:b ∉ ex):∃sl,h1.get? b=some {ob with slots:=sl}:=by
 by_cases hb:b∈fs
 ·exact u.slot b ob q n hb hx
 ·exact⟨ob.slots,u.keep b ob q n hb hx⟩
theorem Un.kept(k:∀b u,h.get? b=some u->h'.get? b=some u):Un fs ex H H h h':=
 ⟨λb ob q _ _ _=>k b ob q,λb ob q _ _ _=>⟨ob.slots,k b ob q⟩,λ_ _ _ n _=>n,λb ob q _=>⟨ob,k b ob q⟩,λ_ _ q=>q,λ_ _ _ q=>q,λ_ ps q=>⟨#[],by rw [q];simp⟩⟩
theorem Un.refl:Un fs ex H H h h:=Un.kept λ_ _ q=>q
theorem Un.laid(k:∀b u,h.get? b=some u->h'.get? b=some u)(hp:h.objs.size<=a)(hn:H a=none):Un fs ex H (ai H a o) h h' where
 keep:=λb u q _ _ _=>k b u q
 slot:=λb u q _ _ _=>⟨u.slots,k b u q⟩
 free:=λb u q n _=>by rw [au (Ec (D8 (DV q) hp))];exact n
 there:=λb u q _=>⟨u,k b u q⟩
 tups:=λb xs q=>by rw [au (bV q hn)];exact q
 frzs:=λb u xs q=>by rw [au (bV q hn)];exact q
 tbls:=λb ps q=>⟨#[],by rw [au (bV q hn),q];simp⟩
theorem Un.write(mu:ov (H x))(he:e=x\/H e=some (.own x))(k:∀b u,b≠e->h.get? b=some u->h'.get? b=some u)(heo:∃u,h'.get? e=some u):Un fs ex H (ai H x o) h h':=by
 have hx:∀b,H b=none->b≠x:=λb n z=>by subst z;rw [n] at mu;exact mu
 have hb:∀b,H b=none->b≠e:=λb n z=>by
  subst z;rcases he with r | r
  ·exact hx b n r
  ·rw [n] at r;cases r
 have hm:∀b u,H b=some u->¬ov (some u)->b≠x:=λb u q nm z=>by subst z;rw [q] at mu;exact nm mu
 refine⟨λb u q n _ _=>k b u (hb b n) q,λb u q n _ _=>⟨u.slots,k b u (hb b n) q⟩,λb u q n _=>by rw [au (hx b n)];exact n,λb u q _=>?_,
  λb xs q=>by rw [au (hm b _ q λz=>z)];exact q,λb u xs q=>by rw [au (hm b _ q λz=>z)];exact q,λb ps q=>⟨#[],by rw [au (hm b _ q λz=>z),q];simp⟩⟩
 by_cases hbe:b=e
 ·subst hbe;exact heo
 ·exact⟨u,k b u hbe q⟩
end
def trk(h:Km)(H:Hp):List Ke:=(EZ h.objs.size).filter λa=>(H a).isSome
def fO(h:Km)(H:Hp):Km:=PySem.W.hideAll h (trk h H)
theorem wD(h:Km)(H:Hp):(fO h H).objs.size=h.objs.size:=PySem.W.hideAll_size _ _
theorem wF{h:Km}{H:Hp}{b:Ke}{o:Obj}(e:h.get? b=some o)(n:H b=none):(fO h H).get? b=some o:=
 PySem.W.hideAll_get _ e λhm=>by
  have q:(H b).isSome=true:=(FY.mp hm).2;rw [n] at q;simp at q
theorem wG{h:Km}{H:Hp}{b:Ke}{o:Obj}(e:(fO h H).get? b=some o):h.get? b=some o/\H b=none:=by
 have e':h.get? b=some o:=PySem.W.of_hideAll (trk h H) e;refine⟨e',?_⟩;cases q:H b with
 | none=>rfl
 | some x=>
  have hm:b∈trk h H:=FY.mpr ⟨GW.mpr (DV e'),by simp [q]⟩;have z:(fO h H).get? b=none:=PySem.W.hideAll_none (trk h H) hm;rw [z] at e;cases e
def wH(g h:Km)(L:Ke):List (Ke×Obj):=(EZ h.objs.size).filterMap λa=>if a=L\/(g.get? a).isSome=true then none else(h.get? a).map λo=>(a,o)
def rest(g h:Km)(L d:Ke):List (Ke×Obj):=(wH g h L).filter λp=>decide (p.1≠d)
structure Mod (K:DL) (mg:Str->Option Kc) (base:Km):Prop where
 kin:K.In base
 glob:base.Ns Kn mg
 blt:∃mb,base.Ns Le mb/\∀x:Str,x≠"__name__"->mb x=Kw x
 nolimit:base.NoLimit
structure Cx where
 prog:Kp
 w:Kq
 K:DL
 mg:Str->Option Kc
 base:Km
 A:Kr
 N:List Str
 s₀:Kf
 H₀:Hp
 env:Env
 outer:List Env
 stack:List Env
 ex:List Ke
 fn:Str->Bool
 calm:Bool
 pn:List (Ke×Obj)
 xe:Kc->Kf->Prop
def az(l:List Env):List Ke:=l.filterMap (·.frame)
abbrev Cx.fs(X:Cx):List Ke:=az X.outer
def mF(sc:Kz)(x:Str):Prop:=sc.names.lookup x=some .local\/sc.names.lookup x=some .cell\/sc.names.lookup x=some .free
def fP(sc:Kz)(x:Str):Prop:=sc.names.lookup x=some .local\/sc.names.lookup x=some .cell
def wI(env:Env)(h:Km)(m:Str->Option Kc)(x:Str)(u:Kc):Prop:=
 (env.kindOf x=some .local/\m x=some u)\/((env.kindOf x=some .cell\/env.kindOf x=some .free)/\∃c,env.cells.lookup x=some c/\h.IsCell c (some u))
structure Cx.Ok (X:Cx):Prop where
 mod:Mod X.K X.mg X.base
 kind:X.env.scope.kind= .function
 glob:X.env.globals=Kn
 blt:X.env.builtins=Le
 above:X.s₀.heap.objs.size<=X.env.locals
 inj:∀x y c,X.env.cells.lookup x=some c->X.env.cells.lookup y=some c->x=y
 has:∀x,(X.env.kindOf x=some .cell\/X.env.kindOf x=some .free)->∃c,X.env.cells.lookup x=some c
 cab:∀x c,X.fn x=true->X.env.cells.lookup x=some c->X.s₀.heap.objs.size<=c
 hd:X.calm=true->X.A.handled=none
 frames:X.A.frames=some X.stack
 stk:X.stack=X.outer\/(X.stack=X.env::X.outer/\X.env.frame=some X.env.locals)
 exf:∀b∈X.ex,b≠X.env.locals/\∀x c,X.env.cells.lookup x=some c->c≠b
 bs:∀b o,X.base.get? b=some o->X.s₀.heap.get? b=some o/\X.H₀ b=none
 bsz:X.base.objs.size<=X.s₀.heap.objs.size
 noex:∀b o,X.base.get? b=some o->b ∉ X.ex
 exfs:∀b∈X.ex,b ∉ X.fs
 funs:X.s₀.heap.FunFrames X.base X.outer
 frf:∀b∈X.fs,X.H₀ b=none
structure aa (X:Cx) (LL:List (Ke×Obj)) (σ:List (Option V)) (H:Hp) (s:Kf):Prop where
 ok:X.Ok
 os:s.os=X.s₀.os
 bare:Lf s.gens
 base:Un X.fs X.ex X.H₀ H X.s₀.heap s.heap
 loc:∃m,s.heap.Ns X.env.locals m/\∀(i:Nat)(x:Str)(v:V),X.N[i]?=some x->σ[i]?=some (some v)->mF X.env.scope x->∃u,aD v u/\wI X.env s.heap m x u
 cell:∀x c,X.env.cells.lookup x=some c->∃v,s.heap.IsCell c v
 free:H X.env.locals=none
 freeC:∀x c,X.env.cells.lookup x=some c->H c=none
 pin:∀p∈X.pn++LL,s.heap.get? p.1=some p.2/\H p.1=none/\p.1≠X.env.locals/\p.1 ∉ X.fs/\∀v,p.2.data≠ .cell v
 hok:aU X.prog X.w H s.heap
 len:σ.length=X.N.length
section
variable {X:Cx} {LL:List (Ke×Obj)} {σ:List (Option V)} {H H':Hp} {s:Kf} {h':Km}
theorem Cx.Ok.nofr(ok:X.Ok){b:Ke}{o:Obj}(e:X.base.get? b=some o):b ∉ X.fs:=λhb=>by
 have:=(ok.funs.mem hb).1;rw [e] at this;cases this
theorem aa.bs(I:aa X LL σ H s):∀b o,X.base.get? b=some o->s.heap.get? b=some o/\H b=none:=λb o e=>
 ⟨I.base.keep b o (I.ok.bs b o e).1 (I.ok.bs b o e).2 (I.ok.nofr e) (I.ok.noex b o e),I.base.free b o (I.ok.bs b o e).1 (I.ok.bs b o e).2 (I.ok.noex b o e)⟩
theorem aa.bk(I:aa X LL σ H s):∀b o,X.base.get? b=some o->s.heap.get? b=some o:=λb o e=>(I.bs b o e).1
theorem aa.mod(I:aa X LL σ H s):Mod X.K X.mg X.base:=I.ok.mod
theorem aa.kIn(I:aa X LL σ H s):X.K.In s.heap:=I.ok.mod.kin.keeps I.bk
theorem aa.fr(I:aa X LL σ H s):∃m,Fr X.base X.env.locals s.heap m:=
 let ⟨m,hn,_⟩:=I.loc
 ⟨m,hn,I.bk,EV I.ok.bsz I.ok.above⟩
theorem aa.lt(I:aa X LL σ H s):X.env.locals < s.heap.objs.size:=let ⟨_,hn,_⟩:=I.loc;hn.lt
theorem aa.sz(I:aa X LL σ H s):X.s₀.heap.objs.size<=s.heap.objs.size:=EV I.ok.above (GX I.lt)
theorem aa.nofs(I:aa X LL σ H s){a:Ke}(h:s.heap.objs.size<=a):a ∉ X.fs:=λhb=>by
 obtain⟨_,o,ho,_⟩:=I.ok.funs.mem hb;exact absurd (D8 (DV ho) (EV I.sz h)) (ET _)
theorem aa.cne(I:aa X LL σ H s):∀x c,X.env.cells.lookup x=some c->c≠X.env.locals:=λx c e z=>by
 obtain⟨v,o,ho,hd⟩:=I.cell x c e;obtain⟨m,⟨o',es,ep,ho',hd',_⟩,_⟩:=I.loc;rw [z,ho'] at ho;cases ho;rw [hd'] at hd;cases hd
theorem aa.funs(I:aa X LL σ H s):s.heap.FunFrames X.base X.outer:=by
 have all:∀(l:List Env),(∀b∈az l,b∈X.fs)->X.s₀.heap.FunFrames X.base l->s.heap.FunFrames X.base l:=by
  intro l
  induction l with
  | nil=>intro _ _;trivial
  | cons env r ih=>
   intro hs hl;obtain⟨hk,⟨L,o,hf,hn,ho,hd⟩,hr⟩:=hl;have hL:L∈X.fs:=hs L (by unfold az;rw [GN,hf];exact Ft);obtain⟨sl,e⟩:=I.base.slot L o ho (I.ok.frf L hL) hL λz=>I.ok.exfs L z hL;exact⟨hk,⟨L,_,hf,hn,e,hd⟩,ih (λb hb=>hs b (by unfold az;rw [GN,hf];exact Ep _ hb)) hr⟩
 exact all X.outer (λ_ hb=>hb) I.ok.funs
theorem aa.stack(I:aa X LL σ H s):s.heap.FunFrames X.base X.stack:=by
 rcases I.ok.stk with e | ⟨e,hf⟩
 ·rw [e];exact I.funs
 ·rw [e];obtain⟨m,hn,_⟩:=I.loc;refine .cons (by rw [I.ok.kind];decide) hf hn ?_ I.funs;exact Heap.get?_none_of_le (EV I.ok.bsz I.ok.above)
theorem aa.stkSub(I:aa X LL σ H s):∀b∈az X.stack,b∈X.env.locals::X.fs:=λb hb=>by
 rcases I.ok.stk with e | ⟨e,hf⟩
 ·rw [e] at hb;exact Ep _ hb
 ·rw [e] at hb;unfold az at hb;rw [GN,hf] at hb;exact hb
theorem aa.stkFree(I:aa X LL σ H s):∀b∈az X.stack,H b=none:=λb hb=>by
 rcases D3.mp (I.stkSub b hb) with e | hb
 ·rw [e];exact I.free
 ·obtain⟨_,o,ho,_⟩:=I.ok.funs.mem hb;exact I.base.free b o ho (I.ok.frf b hb) λz=>I.ok.exfs b z hb
theorem aa.step{g':Array LJ}{t':Nat}{d':Drawn}{ch:List Ke}(I:aa X LL σ H s)
 (hch:∀b∈ch,(b∈X.ex\/X.s₀.heap.objs.size<=b)/\b≠X.env.locals/\(∀x c,X.env.cells.lookup x=some c->c≠b)/\∀p∈X.pn++LL,p.1≠b)
 (keep:∀b o,b≠X.env.locals->b ∉ X.fs->b ∉ ch->s.heap.get? b=some o->H b=none->h'.get? b=some o)
 (slot:∀b o,b≠X.env.locals->b∈X.fs->b ∉ ch->s.heap.get? b=some o->H b=none->∃sl,h'.get? b=some {o with slots:=sl})(free:∀b o,b ∉ ch->s.heap.get? b=some o->H b=none->H' b=none)
 (there:∀b o,b ∉ ch->s.heap.get? b=some o->∃o',h'.get? b=some o')
 (tups:∀b xs,H b=some (.tup xs)->H' b=some (.tup xs))(frzs:∀b o u,H b=some (.frz o u)->H' b=some (.frz o u))(tbls:∀b ps,H b=some (.tbl ps)->∃more,H' b=some (.tbl (ps++more)))
 (ns:∀m,s.heap.Ns X.env.locals m->h'.Ns X.env.locals m)(hok:aU X.prog X.w H' h')(hg:Lf g'):
 aa X LL σ H' {s with heap:=h',gens:=g',drawn:=d',toks:=t'}:=by
 have neL:∀b o,X.s₀.heap.get? b=some o->b≠X.env.locals:=λb o e=>Ec (D8 (DV e) I.ok.above);have neC:∀b o,X.s₀.heap.get? b=some o->b ∉ X.ex->b ∉ ch:=λb o e hx hb=>by
  rcases(hch b hb).1 with z | z
  ·exact hx z
  ·exact absurd (D8 (DV e) z) (ET _)
 have cellK:∀x c,X.env.cells.lookup x=some c->∀v,s.heap.IsCell c v->h'.IsCell c v:=λx c e v uu1=>by
  obtain⟨o,ho,hd⟩:=uu1;have nch:c ∉ ch:=λz=>(hch c z).2.2.1 x c e rfl;by_cases hc:c∈X.fs
  ·obtain⟨sl,q⟩:=slot c o (I.cne x c e) hc nch ho (I.freeC x c e);exact⟨_,q,hd⟩
  ·exact⟨o,keep c o (I.cne x c e) hc nch ho (I.freeC x c e),hd⟩
 refine⟨I.ok,I.os,hg,⟨λb o e n hb hx=>?_,λb o e n hb hx=>?_,λb o e n hx=>?_,λb o e hx=>?_,λb xs e=>tups b xs (I.base.tups b xs e),λb o xs e=>frzs b o xs (I.base.frzs b o xs e),λb ps e=>?_⟩,?_,λx c e=>?_,?_,λx c e=>?_,λp hp=>?_,hok,I.len⟩
 ·exact keep b o (neL b o e) hb (neC b o e hx) (I.base.keep b o e n hb hx) (I.base.free b o e n hx)
 ·obtain⟨sl,e1⟩:=I.base.slot b o e n hb hx;obtain⟨sl',e2⟩:=slot b _ (neL b o e) hb (neC b o e hx) e1 (I.base.free b o e n hx);exact⟨sl',e2⟩
 ·obtain⟨o',e1⟩:=I.base.there b o e hx;exact free b o' (neC b o e hx) e1 (I.base.free b o e n hx)
 ·obtain⟨o',e1⟩:=I.base.there b o e hx;exact there b o' (neC b o e hx) e1
 ·obtain⟨m1,e1⟩:=I.base.tbls b ps e;obtain⟨m2,e2⟩:=tbls b _ e1;exact⟨m1++m2,by rw [e2,HH]⟩
 ·obtain⟨m,hn,hl⟩:=I.loc;refine⟨m,ns m hn,λi x v e1 e2 e3=>?_⟩;obtain⟨u,r,l⟩:=hl i x v e1 e2 e3;refine⟨u,r,?_⟩;rcases l with l | ⟨k,c,e,z⟩
  ·exact .inl l
  ·exact .inr ⟨k,c,e,cellK x c e _ z⟩
 ·obtain⟨v,z⟩:=I.cell x c e;exact⟨v,cellK x c e v z⟩
 ·obtain⟨m,⟨o,_,_,ho,_⟩,_⟩:=I.loc;exact free _ o (λz=>(hch _ z).2.1 rfl) ho I.free
 ·obtain⟨v,o,ho,hd⟩:=I.cell x c e;exact free c o (λz=>(hch c z).2.2.1 x c e rfl) ho (I.freeC x c e)
 ·obtain⟨e,n,ne,nf,d⟩:=I.pin p hp;have nch:p.1 ∉ ch:=λz=>(hch p.1 z).2.2.2 p hp rfl;exact⟨keep p.1 p.2 ne nf nch e n,free p.1 p.2 nch e n,ne,nf,d⟩
theorem aa.un{t':Nat}(I:aa X LL σ H s)(u:Un X.fs [] H H' s.heap h')(hok:aU X.prog X.w H' h'):aa X LL σ H' {s with heap:=h',toks:=t'}:=by
 obtain⟨m,⟨o,es,ep,ho,r⟩,_⟩:=id I.loc;obtain⟨sl,hL⟩:=u.any ho I.free Ka;exact I.step (g':=s.gens) (d':=s.drawn) (ch:=[]) (λ_ z=>nomatch z) (λb o _ hb _ e n=>u.keep b o e n hb Ka) (λb o _ hb _ e n=>u.slot b o e n hb Ka) (λb o _ e n=>u.free b o e n Ka) (λb o _ e=>u.there b o e Ka) u.tups u.frzs u.tbls (λm' hm=>by
  obtain⟨o',es',ep',ho',r'⟩:=hm;rw [ho] at ho';cases ho';exact⟨_,es',ep',hL,r'⟩) hok I.bare
theorem aa.call{g':Array LJ}{t':Nat}{d':Drawn}{ch:List Ke}(I:aa X LL σ H s)(u:Un (az X.stack) ch H H' s.heap h')(hok:aU X.prog X.w H' h')(hg:Lf g')
 (hch:∀b∈ch,(b∈X.ex\/X.s₀.heap.objs.size<=b)/\b≠X.env.locals/\(∀x c,X.env.cells.lookup x=some c->c≠b)/\∀p∈X.pn++LL,p.1≠b):
 aa X LL σ H' {s with heap:=h',gens:=g',drawn:=d',toks:=t'}:=by
 obtain⟨m,⟨o,es,ep,ho,r⟩,_⟩:=id I.loc;obtain⟨sl,hL⟩:=u.any ho I.free λz=>(hch _ z).2.1 rfl;exact I.step (ch:=ch) hch (λb o hL hb hc e n=>u.keep b o e n (λz=>(D3.mp (I.stkSub b z)).elim hL hb) hc) (λb o _ _ hc e n=>u.any e n hc) (λb o hc e n=>u.free b o e n hc) (λb o hc e=>u.there b o e hc) u.tups u.frzs u.tbls (λm' hm=>by
  obtain⟨o',es',ep',ho',r'⟩:=hm;rw [ho] at ho';cases ho';exact⟨_,es',ep',hL,r'⟩) hok hg
theorem aa.turned{t':Nat}{it:Ke}(I:aa X LL σ H s)(k:∀b o,b≠it->s.heap.get? b=some o->h'.get? b=some o)(hn:H it=none)(hL:it≠X.env.locals)
 (h1:it∈X.ex\/X.s₀.heap.objs.size<=it)(h2:∀x c,X.env.cells.lookup x=some c->c≠it)(h3:∀p∈X.pn++LL,p.1≠it):aa X LL σ H {s with heap:=h',toks:=t'}:=by
 have nit:∀b u,H b=some u->b≠it:=λb u e z=>by rw [z,hn] at e;cases e
 refine I.step (g':=s.gens) (d':=s.drawn) (ch:=[it]) (λb hb=>?_) (λb o _ _ hc e _=>k b o (λz=>hc (by simp [z])) e) (λb o _ _ hc e _=>⟨o.slots,k b o (λz=>hc (by simp [z])) e⟩) (λ_ _ _ _ n=>n)
  (λb o hc e=>⟨o,k b o (λz=>hc (by simp [z])) e⟩) (λ_ _ e=>e) (λ_ _ _ e=>e) (λb ps e=>⟨#[],by rw [e];simp⟩) (λm hm=>?_) (λb u e=>?_) I.bare
 ·have e:b=it:=by simpa using hb
  subst e;exact⟨h1,hL,h2,h3⟩
 ·obtain⟨o,es,ep,ho,r⟩:=hm;exact⟨o,es,ep,k _ o (Ne.symm hL) ho,r⟩
 ·refine(I.hok b u e).stay (λc v hc q=>k c v ?_ q) (λ_ q=>q) (λ_ _ q=>q) λ_ _ q=>q;rcases hc with z | z
  ·rw [z];exact nit b u e
  ·exact nit c _ z
theorem aa.tok(I:aa X LL σ H s)(t:Nat):aa X LL σ H {s with toks:=t}:=I.un (h':=s.heap) (t':=t) Un.refl I.hok
theorem aa.kept{t':Nat}(I:aa X LL σ H s)(k:∀b u,s.heap.get? b=some u->h'.get? b=some u):aa X LL σ H {s with heap:=h',toks:=t'}:=I.un (Un.kept k) (I.hok.kept k)
theorem aa.laid{a:Ke}{o:HO}{t':Nat}(I:aa X LL σ H s)(k:∀b u,s.heap.get? b=some u->h'.get? b=some u)(hp:s.heap.objs.size<=a)(new:bz X.prog X.w (ai H a o) h' a o):
 aa X LL σ (ai H a o) {s with heap:=h',toks:=t'}:=I.un (Un.laid k hp (I.hok.fresh hp)) (I.hok.laid k hp new)
theorem aa.write{x e:Ke}{o:HO}{t':Nat}(I:aa X LL σ H s)(mu:ov (H x))(he:e=x\/H e=some (.own x))(k:∀b u,b≠e->s.heap.get? b=some u->h'.get? b=some u)(heo:∃u,h'.get? e=some u)
 (new:bz X.prog X.w (ai H x o) h' x o):aa X LL σ (ai H x o) {s with heap:=h',toks:=t'}:=I.un (Un.write mu he k heo) (I.hok.write mu he k heo new)
theorem aa.weak{σ':List (Option V)}(I:aa X LL σ H s)(hl:σ'.length=σ.length)(w:∀(i:Nat) v,σ'[i]?=some (some v)->σ[i]?=some (some v)):aa X LL σ' H s:=
 ⟨I.ok,I.os,I.bare,I.base,let ⟨m,hn,hl'⟩:=I.loc;⟨m,hn,λi x v e1 e2 e3=>hl' i x v e1 (w i v e2) e3⟩,I.cell,I.free,I.freeC,I.pin,I.hok,hl.trans I.len⟩
theorem aa.pins_of{pins':List (Ke×Obj)}(I:aa X LL σ H s)(h:∀p∈pins',s.heap.get? p.1=some p.2/\H p.1=none/\p.1≠X.env.locals/\p.1 ∉ X.fs/\∀v,p.2.data≠ .cell v):aa X pins' σ H s:=
 ⟨I.ok,I.os,I.bare,I.base,I.loc,I.cell,I.free,I.freeC,λp hp=>(Ei.mp hp).elim (λz=>I.pin p (HA _ z)) (h p),I.hok,I.len⟩
theorem pQ{N:List Str}(hN:N.Nodup){i j:Nat}{x:Str}(a:N[i]?=some x)(b:N[j]?=some x):i=j:=by
 obtain⟨h1,e1⟩:=DZ.mp a;obtain⟨h2,e2⟩:=DZ.mp b;exact(Hx hN).mp (e1.trans e2.symm)
theorem sS{M:Model}{A:Kr}{E:Kc->Kf->Prop}{i:Nat}{x:Str}{v:V}{u:Kc}{Q:Unit->Kf->Prop}(I:aa X LL σ H s)(hN:X.N.Nodup)(hi:X.N[i]?=some x)(hx:fP X.env.scope x)(r:aD v u)
 (h:∀s',aa X LL (σ.set i (some v)) H s'->(∃a,GI a s.heap s'.heap/\(a=X.env.locals\/X.env.cells.lookup x=some a))->Q () s')(hf:X.fn x=true\/X.env.scope.names.lookup x=some .local:=by first | exact .inl rfl | exact .inr rfl | assumption):Kh M A (storeName X.env x u) Q E s:=by
 obtain⟨m,hn,hl⟩:=id I.loc;have hcls:(X.env.scope.kind== .class || (X.env.scope.kind== .module && X.env.locals !=X.env.globals))=false:=by rw [I.ok.kind];rfl
 have hiσ:i < σ.length:=by rw [I.len];exact(DZ.mp hi).1
 have cne:=I.cne;have tracked:∀{a:Ke}{h':Km},(∃o,s.heap.get? a=some o/\H a=none)->GI a s.heap h'->aU X.prog X.w H h':=λ{a h'} ha hs b ob e=>by
  obtain⟨_,_,hfree⟩:=ha;refine(I.hok b ob e).stay (λc w' hc q=>(hs.2 c ?_).trans q) (λ_ q=>q) (λ_ _ q=>q) λ_ _ q=>q;rintro rfl;rcases hc with rfl | hc
  ·rw [hfree] at e;cases e
  ·rw [hfree] at hc;cases hc
 rcases hx with hk | hk
 ·refine wpAny_storeName_local hk hn (λh' hn' hs=>?_) hcls;obtain⟨oL,_,_,hoL,_⟩:=id hn;refine h _ ⟨I.ok,I.os,I.bare,⟨λb o e n hb hx=>?_,λb o e n hb hx=>?_,I.base.free,λb o e hx=>?_,I.base.tups,I.base.frzs,I.base.tbls⟩,⟨_,hn',λj y v' e1 e2 e3=>?_⟩,λy c e=>?_,I.free,I.freeC,λp hp=>?_,tracked ⟨oL,hoL,I.free⟩ hs,by simpa using I.len⟩ ⟨_,hs,.inl rfl⟩
  ·exact(hs.2 b (Ec (D8 (DV e) I.ok.above))).trans (I.base.keep b o e n hb hx)
  ·obtain⟨sl,e1⟩:=I.base.slot b o e n hb hx;exact⟨sl,(hs.2 b (Ec (D8 (DV e) I.ok.above))).trans e1⟩
  ·obtain⟨o',e1⟩:=I.base.there b o e hx;exact⟨o',(hs.2 b (Ec (D8 (DV e) I.ok.above))).trans e1⟩
  ·by_cases hj:j=i
   ·subst hj;rw [hi] at e1;cases e1;rw [EC hiσ] at e2;cases e2;exact⟨u,r,.inl ⟨hk,Ka⟩⟩
   ·rw [El (Ne.symm hj)] at e2;obtain⟨u',r',q⟩:=hl j y v' e1 e2 e3;refine⟨u',r',?_⟩;rcases q with⟨k,e⟩ | ⟨k,c,e,z⟩
    ·refine .inl ⟨k,?_⟩;have:y≠x:=λe=>hj (pQ hN e1 (e▸hi));simp [this,e]
    ·exact .inr ⟨k,c,e,z.sameBut hs (cne y c e)⟩
  ·obtain⟨w',z⟩:=I.cell y c e;exact⟨w',z.sameBut hs (cne y c e)⟩
  ·obtain⟨e,n,ne,nf,d⟩:=I.pin p hp;exact⟨(hs.2 p.1 ne).trans e,n,ne,nf,d⟩
 ·have hfn:X.fn x=true:=by
   rcases hf with z | z
   ·exact z
   ·rw [z] at hk;cases hk
  obtain⟨c,hc⟩:=I.ok.has x (.inl hk);obtain⟨w',z⟩:=I.cell x c hc;refine wpAny_storeName_cell I.ok.kind hk hc z (λh' hc' hs=>?_);obtain⟨oc,hoc,hocd⟩:=id z;refine h {s with heap:=h'} ⟨I.ok,I.os,I.bare,⟨λb o e n hb hx=>?_,λb o e n hb hx=>?_,I.base.free,λb o e hx=>?_,I.base.tups,I.base.frzs,I.base.tbls⟩,⟨m,hn.sameBut hs (Ne.symm (cne x c hc)),λj y v' e1 e2 e3=>?_⟩,λy c' e=>?_,I.free,I.freeC,λp hp=>?_,tracked ⟨oc,hoc,I.freeC x c hc⟩ hs,by simpa using I.len⟩ ⟨c,hs,.inr hc⟩
  ·exact(hs.2 b (Ec (D8 (DV e) (I.ok.cab x c hfn hc)))).trans (I.base.keep b o e n hb hx)
  ·obtain⟨sl,e1⟩:=I.base.slot b o e n hb hx;exact⟨sl,(hs.2 b (Ec (D8 (DV e) (I.ok.cab x c hfn hc)))).trans e1⟩
  ·obtain⟨o',e1⟩:=I.base.there b o e hx;exact⟨o',(hs.2 b (Ec (D8 (DV e) (I.ok.cab x c hfn hc)))).trans e1⟩
  ·by_cases hj:j=i
   ·subst hj;rw [hi] at e1;cases e1;rw [EC hiσ] at e2;cases e2;exact⟨u,r,.inr ⟨.inl hk,c,hc,hc'⟩⟩
   ·rw [El (Ne.symm hj)] at e2;obtain⟨u',r',q⟩:=hl j y v' e1 e2 e3;refine⟨u',r',?_⟩;rcases q with q | ⟨k,c',e,z'⟩
    ·exact .inl q
    ·refine .inr ⟨k,c',e,z'.sameBut hs ?_⟩;rintro rfl;exact hj (pQ hN e1 (I.ok.inj _ _ _ e hc▸hi))
  ·by_cases hcc:c'=c
   ·subst hcc;exact⟨_,hc'⟩
   ·obtain⟨w2,z2⟩:=I.cell y c' e;exact⟨w2,z2.sameBut hs hcc⟩
  ·obtain⟨e,n,ne,nf,d⟩:=I.pin p hp;refine⟨(hs.2 p.1 ?_).trans e,n,ne,nf,d⟩;intro q;rw [q,hoc] at e;have q':oc=p.2:=ED e;exact d w' (by rw [<-q'];exact hocd)
theorem ox{M:Model}{A:Kr}{E:Kc->Kf->Prop}{i:Nat}{x:Str}{v:V}{u:Kc}{Q:Unit->Kf->Prop}(I:aa X LL σ H s)(hN:X.N.Nodup)(hi:X.N[i]?=some x)(hx:fP X.env.scope x)(r:aD v u)
 (h:∀s',aa X LL (σ.set i (some v)) H s'->Q () s')(hf:X.fn x=true\/X.env.scope.names.lookup x=some .local:=by first | exact .inl rfl | exact .inr rfl | assumption):Kh M A (storeName X.env x u) Q E s:=
 sS I hN hi hx r (λs' I' _=>h s' I') hf
theorem aa.call'{s':Kf}{ch:List Ke}(I:aa X LL σ H s)(ho:s'.os=s.os)(u:Un (az X.stack) ch H H' s.heap s'.heap)(hok:aU X.prog X.w H' s'.heap)(hg:Lf s'.gens)
 (hch:∀b∈ch,(b∈X.ex\/X.s₀.heap.objs.size<=b)/\b≠X.env.locals/\(∀x c,X.env.cells.lookup x=some c->c≠b)/\∀p∈X.pn++LL,p.1≠b):aa X LL σ H' s':=by
 obtain⟨h',g',d',t',o'⟩:=s';have e:o'=s.os:=ho;subst e;exact I.call (g':=g') (t':=t') (d':=d') u hok hg hch
end
abbrev XK:=Kc->Option Ke->Hp->Prop
abbrev St:=List (Option V)
abbrev VK:=V->Hp->Prop
abbrev TE:=St->Hp->VK->Prop
abbrev TT:=St->Hp->(Bool->Hp->Prop)->Prop
abbrev TA:=St->Hp->(List V->Hp->Prop)->Prop
structure fQ where
 nx:St->Hp->Prop
 rt:VK
 bk:St->Hp->Prop:=λ_ _=>False
 ct:St->Hp->Prop:=λ_ _=>False
abbrev TS:=fQ->St->Hp->Prop
inductive EP (X:Cx) (LL:List (Ke×Obj)) (σ:St) (Q:VK) (u:Kc) (s':Kf):Prop
 | mk (v:V) (H':Hp):aa X LL σ H' s'->aD v u->Q v H'->EP X LL σ Q u s'
inductive TP (X:Cx) (LL:List (Ke×Obj)) (σ:St) (Q:Bool->Hp->Prop) (b:Bool) (s':Kf):Prop
 | mk (H':Hp):aa X LL σ H' s'->Q b H'->TP X LL σ Q b s'
inductive AP (X:Cx) (LL:List (Ke×Obj)) (σ:St) (Q:List V->Hp->Prop) (us:List Kc) (s':Kf):Prop
 | mk (vs:List V) (H':Hp):aa X LL σ H' s'->aq vs us->Q vs H'->AP X LL σ Q us s'
def SP(X:Cx)(LL:List (Ke×Obj))(D:fQ)(f:Flow)(s':Kf):Prop:=
 match f with
 | .next=>∃σ' H',aa X LL σ' H' s'/\D.nx σ' H'
 | .brk=>∃σ' H',aa X LL σ' H' s'/\D.bk σ' H'
 | .cont=>∃σ' H',aa X LL σ' H' s'/\D.ct σ' H'
 | .ret u=>∃v σ' H',aa X LL σ' H' s'/\aD v u/\D.rt v H'
def PE(X:Cx)(e:Kk)(t:TE):Prop:=
 ∀(LL:List (Ke×Obj))(s:Kf)(σ:St)(H:Hp)(Q:VK),aa X LL σ H s->t σ H Q->Kh (Ki X.prog X.w) X.A (eval e X.env) (EP X LL σ Q) X.xe s
def PT(X:Cx)(e:Kk)(t:TT):Prop:=
 ∀(LL:List (Ke×Obj))(s:Kf)(σ:St)(H:Hp)(Q:Bool->Hp->Prop),aa X LL σ H s->t σ H Q->Kh (Ki X.prog X.w) X.A (isTrue e X.env (eval e X.env)) (TP X LL σ Q) X.xe s
def PW(X:Cx)(e:Kk)(t:TT):Prop:=
 ∀(whole:Sem Kc)(LL:List (Ke×Obj))(s:Kf)(σ:St)(H:Hp)(Q:Bool->Hp->Prop),aa X LL σ H s->t σ H Q->Kh (Ki X.prog X.w) X.A (isTrue e X.env whole) (TP X LL σ Q) X.xe s
theorem PW.pt{X:Cx}{e:Kk}{t:TT}(h:PW X e t):PT X e t:=h _
def PA(X:Cx)(es:List Kk)(t:TA):Prop:=
 ∀(pos:Pos)(LL:List (Ke×Obj))(s:Kf)(σ:St)(H:Hp)(Q:List V->Hp->Prop),aa X LL σ H s->t σ H Q->Kh (Ki X.prog X.w) X.A (spliced (KA pos (Kj es X.env))) (AP X LL σ Q) X.xe s
def PS(X:Cx)(st:Ks)(t:TS):Prop:=
 ∀(LL:List (Ke×Obj))(s:Kf)(σ:St)(H:Hp)(D:fQ),aa X LL σ H s->t D σ H->Kh (Ki X.prog X.w) X.A (exec st X.env) (SP X LL D) X.xe s
def bg(X:Cx)(st:List Ks)(t:TS):Prop:=
 ∀(LL:List (Ke×Obj))(s:Kf)(σ:St)(H:Hp)(D:fQ),aa X LL σ H s->t D σ H->Kh (Ki X.prog X.w) X.A (execs st X.env) (SP X LL D) X.xe s
theorem ao{α:Type}{t:Sem α}{Q Q':α->Kf->Prop}{M:Model}{A:Kr}{E:Kc->Kf->Prop}{s:Kf}(h:Kh M A t Q E s)(hQ:∀a s,Q a s->Q' a s):Kh M A t Q' E s:=Ky h hQ λ_ _ x=>x
section
variable {X:Cx}
theorem DD{a b:Kk}{ta tb:TE}(ha:PE X a ta)(hb:PE X b tb){LL:List (Ke×Obj)}{s:Kf}{σ:St}{H:Hp}{R:V->V->Hp->Prop}(I:aa X LL σ H s)(h:ta σ H λx H1=>tb σ H1 λy H2=>R x y H2)
 {α:Type}{Q:α->Kf->Prop}{f:Kc->Kc->Sem α}
 (hf:∀v u s2 x y H2,aa X LL σ H2 s2->aD x v->aD y u->R x y H2->Kh (Ki X.prog X.w) X.A (f v u) Q X.xe s2):
 Kh (Ki X.prog X.w) X.A (eval a X.env) (λv s₁=>Kh (Ki X.prog X.w) X.A (eval b X.env) (λu s₂=>Kh (Ki X.prog X.w) X.A (f v u) Q X.xe s₂) X.xe s₁) X.xe s:=by
 refine ao (ha LL s σ H _ I h) λv s1 ⟨x,H1,I1,r1,q1⟩=>?_;refine ao (hb LL s1 σ H1 _ I1 q1) λu s2 ⟨y,H2,I2,r2,q2⟩=>?_;exact hf v u s2 x y H2 I2 r1 r2 q2
def mG(i:Nat):TE:=λσ H Q=>∃v,σ[i]?=some (some v)/\Q v H
def tC(v:V):TE:=λ_ H Q=>Q v H
theorem oy{i:Nat}{x:Str}{pos:Pos}(hN:X.N[i]?=some x)(hv:mF X.env.scope x)(hd:(x==("__debug__":Str))=false:=by decide)(hcd:(x==("__classdict__":Str))=false:=by decide):PE X (.Name x pos) (mG i):=by
 intro LL s σ H Q I h;obtain⟨v,e,h⟩:=h;obtain⟨m,hn,hl⟩:=I.loc;obtain⟨u,r,l⟩:=hl i x v hN e hv;have fin:EP X LL σ Q u s:=⟨v,H,I,r,h⟩;rcases l with⟨hk,hm⟩ | ⟨hk,c,hc,hcell⟩
 ·exact wpAny_Name (wpAny_loadName_local I.ok.kind hk hn hm fin) hd
 ·rcases hk with hk | hk
  ·exact wpAny_Name (wpAny_loadName_cell I.ok.kind hk hc hcell fin) hd
  ·exact wpAny_Name (wpAny_loadName_free I.ok.kind hk hc hcell fin hcd) hd
theorem sT{i j pos}:PE X (.Constant (.int i) j pos) (tC (.int i)):=λ_ _ _ H _ I h=>wpAny_Constant_int ⟨.int i,H,I.tok _,⟨_,rfl⟩,h⟩
theorem pR{b j pos}:PE X (.Constant (.bool b) j pos) (tC (.bl b)):=λ_ _ _ H _ I h=>Constant_bool ⟨.bl b,H,I,rfl,h⟩
theorem wJ{j pos}:PE X (.Constant .none j pos) (tC .non):=λ_ _ _ H _ I h=>Constant_none ⟨.non,H,I,rfl,h⟩
theorem wK{x j pos}:PE X (.Constant (.str x) j pos) (tC (.str x)):=λ_ _ _ H _ I h=>Calls.Constant_str ⟨.str x,H,I.tok _,⟨_,rfl⟩,h⟩
def Gl(X:Cx)(x:Str):Prop:=X.env.kindOf x=some .globalImplicit
theorem mH{E:Kc->Kf->Prop}{LL:List (Ke×Obj)}{s:Kf}{σ:St}{H:Hp}{x:Str}{u:Kc}{pos:Pos}{Q:Kc->Kf->Prop}(I:aa X LL σ H s)(hg:Gl X x)(hm:X.mg x=some u)(h:Q u s)
 (hd:(x==("__debug__":Str))=false:=by decide):Kh (Ki X.prog X.w) X.A (eval (.Name x pos) X.env) Q E s:=
 HL I.ok.kind hg (Calls.loadGlobal_global (by rw [I.ok.glob];exact I.mod.glob.keeps I.bk) hm h) hd
theorem mI{E:Kc->Kf->Prop}{LL:List (Ke×Obj)}{s:Kf}{σ:St}{H:Hp}{x:Str}{u:Kc}{pos:Pos}{Q:Kc->Kf->Prop}(I:aa X LL σ H s)(hg:Gl X x)(hm:X.mg x=none)(hv:Kw x=some u)(h:Q u s)
 (hn:x≠"__name__":=by decide)(hd:(x==("__debug__":Str))=false:=by decide):Kh (Ki X.prog X.w) X.A (eval (.Name x pos) X.env) Q E s:=by
 obtain⟨mb,h1,h2⟩:=I.mod.blt;exact HL I.ok.kind hg (Calls.loadGlobal_builtin (by rw [I.ok.glob];exact I.mod.glob.keeps I.bk) hm (by rw [I.ok.blt];exact h1.keeps I.bk) ((h2 x hn).trans hv) h) hd
theorem dF{x:Str}{v:V}{u:Kc}{pos:Pos}(hg:Gl X x)(hm:X.mg x=some u)(r:aD v u)(hd:(x==("__debug__":Str))=false:=by decide):PE X (.Name x pos) (tC v):=
 λ_ _ _ H _ I h=>mH I hg hm ⟨v,H,I,r,h⟩ hd
theorem k7{x:Str}{v:V}{u:Kc}{pos:Pos}(hg:Gl X x)(hm:X.mg x=none)(hv:Kw x=some u)(r:aD v u)(hn:x≠"__name__":=by decide)(hd:(x==("__debug__":Str))=false:=by decide):PE X (.Name x pos) (tC v):=
 λ_ _ _ H _ I h=>mI I hg hm hv ⟨v,H,I,r,h⟩ hn hd
variable {a b:Kk} {ta tb:TE} {pos:Pos}
def PC(X:Cx)(op:CmpOp)(a b:Kk)(t:TE):Prop:=
 ∀(LL:List (Ke×Obj))(s:Kf)(σ:St)(H:Hp)(Q:VK),aa X LL σ H s->t σ H Q->
  Kh (Ki X.prog X.w) X.A (eval a X.env) (λv s₁=>Kh (Ki X.prog X.w) X.A (eval b X.env) (λu s₂=>Kh (Ki X.prog X.w) X.A (KC op v u) (EP X LL σ Q) X.xe s₂) X.xe s₁) X.xe s
theorem wL(b:Kk){op:CmpOp}(h:op≠ .In)(h2:op≠ .NotIn):KL op b=false:=by
 have e1:(op==CmpOp.In)=false:=by cases op <;> first | rfl | exact absurd rfl h
 have e2:(op==JO)=false:=by cases op <;> first | rfl | exact absurd rfl h2
 cases b <;> simp [KL,e1,e2]
def tB(t:TE):TT:=λσ H Q=>t σ H λx H1=>∃c,x= .bl c/\Q c H1
theorem DH{op:CmpOp}{t:TE}(h:PC X op a b t)(h1:KL op b=false:=by first | exact wL _ J3 J3 | rfl):PT X (.Compare a [op] [b] pos) (tB t):=by
 intro LL s σ H Q I hw;refine wpAny_isTrue_Compare1 (ao (h LL s σ H _ I hw) λv s1 h1=>ao h1 λu s2 h2=>ao h2 λc s3 ⟨x,H1,I1,r1,q1⟩=>?_) h1;obtain⟨d,rfl,q⟩:=q1;cases r1;exact KW ⟨H1,I1,q⟩
theorem sU{e:Kk}{t:TE}(h:PE X e t)(he:∀whole,isTrue e X.env whole=(do let v<-whole;standAt e.pos;holding [v] (truthy v)):=by intro _;rfl):PT X e (tB t):=by
 intro LL s σ H Q I hw;refine isTrue_plain (ao (h LL s σ H _ I hw) λv s1 ⟨x,H1,I1,r1,q1⟩=>?_) (he _);obtain⟨d,rfl,q⟩:=q1;cases r1;exact KW ⟨H1,I1,q⟩
variable {tA tB':TT} {rest:List Kk}
def pT(t u:TT):TT:=λσ H Q=>t σ H λc H1=>if c=true then u σ H1 Q else Q false H1
def pU(t u:TT):TT:=λσ H Q=>t σ H λc H1=>if c=true then Q true H1 else u σ H1 Q
def pV(t:TT):TT:=λσ H Q=>t σ H λc H1=>Q (!c) H1
theorem wM(ha:PT X a tA):PW X (.BoolOp .And [a] pos) tA:=by
 intro wh LL s σ H Q I h;refine isTrue_and (ao (ha LL s σ H Q I h) λc s1 e=>?_);cases c with
 | true=>exact isTrue_and_nil e
 | false=>exact e
theorem wN(ha:PT X a tA):PW X (.BoolOp .Or [a] pos) tA:=by
 intro wh LL s σ H Q I h;refine isTrue_or (ao (ha LL s σ H Q I h) λc s1 e=>?_);cases c with
 | false=>exact isTrue_or_nil e
 | true=>exact e
theorem wO(ha:PT X a tA)(hb:PW X (.BoolOp .And (b::rest) pos) tB'):PW X (.BoolOp .And (a::b::rest) pos) (pT tA tB'):=by
 intro wh LL s σ H Q I h;refine isTrue_and (ao (ha LL s σ H _ I h) λc s1 ⟨H1,I1,q1⟩=>?_);cases c with
 | true=>exact hb wh LL s1 σ H1 Q I1 q1
 | false=>exact⟨H1,I1,q1⟩
theorem wQ(ha:PT X a tA)(hb:PW X (.BoolOp .Or (b::rest) pos) tB'):PW X (.BoolOp .Or (a::b::rest) pos) (pU tA tB'):=by
 intro wh LL s σ H Q I h;refine isTrue_or (ao (ha LL s σ H _ I h) λc s1 ⟨H1,I1,q1⟩=>?_);cases c with
 | true=>exact⟨H1,I1,q1⟩
 | false=>exact hb wh LL s1 σ H1 Q I1 q1
theorem wR(ha:PT X a tA):PT X (.UnaryOp .Not a pos) (pV tA):=by
 intro LL s σ H Q I h;exact isTrue_not (ao (ha LL s σ H (λc H1=>Q (!c) H1) I h) λc s1 uu8=>by obtain⟨H1,I1,q⟩:=uu8;exact⟨H1,I1,q⟩)
def pW(ta tb:TE):TE:=λσ H Q=>ta σ H λx H1=>∃c,x= .bl c/\if c=true then tb σ H1 Q else Q (.bl false) H1
def pX(ta:TE):TE:=λσ H Q=>ta σ H λx H1=>∃c,x= .bl c/\Q (.bl (!c)) H1
theorem sV{op}{t:TE}(h:PE X a t):PE X (.BoolOp op [a] pos) t:=λLL s σ H Q I hw=>BoolOp_one (h LL s σ H Q I hw)
theorem sW(ha:PE X a ta)(hb:PE X (.BoolOp .And (b::rest) pos) tb):PE X (.BoolOp .And (a::b::rest) pos) (pW ta tb):=by
 intro LL s σ H Q I h;refine BoolOp_and (ao (ha LL s σ H _ I h) λv s1 ⟨x,H1,I1,r1,q1⟩=>?_);obtain⟨c,rfl,q1⟩:=q1;cases r1;refine KW ?_;cases c with
 | true=>exact hb LL s1 σ H1 Q I1 q1
 | false=>exact⟨.bl false,H1,I1,rfl,q1⟩
theorem wU(ha:PE X a ta):PE X (.UnaryOp .Not a pos) (pX ta):=by
 intro LL s σ H Q I h;refine UnaryOp_ (ao (ha LL s σ H _ I h) λv s1 ⟨x,H1,I1,r1,q1⟩=>?_);obtain⟨c,rfl,q1⟩:=q1;cases r1;exact not_of (KW ⟨.bl (!c),H1,I1,rfl,q1⟩)
end
def aI(K:DL)(H:Hp)(a:Ke)(xs:List V):Prop:=
 Rd H a (.lst xs)\/
  ∃(o:Obj)(its:Array Kc)(n:Nat),K.lookup a=some o/\o.cls= .type "list"/\o.dict=none/\o.data= .seq its n/\its.size<=Kl/\aq xs its.toList
def aY(K:DL)(H:Hp)(a:Ke)(xs:List V):Prop:=
 Rd H a (.tup xs)\/
  ∃(o:Obj)(its:Array Kc)(n:Nat),K.lookup a=some o/\o.cls= .type "tuple"/\o.data= .seq its n/\its.size<=Kl/\aq xs its.toList
def wV:Kc->Option V
 | .none=>some .non
 | .bool b=>some (.bl b)
 | .int i _=>some (.int i)
 | .str x _=>some (.str x)
 | .bytes b _=>some (.byt b)
 | .float b _=>some (.flt b)
 | .ref a=>some (.ref a)
 | .type n=>some (.ty n)
 | _=>none
theorem aD.abs{x:V}{u:Kc}(r:aD x u):wV u=some x:=by
 cases x with
 | non=>cases r;rfl
 | bl _=>cases r;rfl
 | int _=>obtain⟨t,rfl⟩:=r;rfl
 | str _=>obtain⟨t,rfl⟩:=r;rfl
 | byt _=>obtain⟨t,rfl⟩:=r;rfl
 | flt _=>obtain⟨t,rfl⟩:=r;rfl
 | ref _=>cases r;rfl
 | ty _=>cases r;rfl
theorem aD.inj{x y:V}{u:Kc}(r:aD x u)(q:aD y u):x=y:=ED (r.abs.symm.trans q.abs)
theorem aq.inj:∀{xs ys:List V}{us:List Kc},aq xs us->aq ys us->xs=ys
 | _,_,_,.nil,.nil=>rfl
 | _,_,_,.cons r t,.cons r' t'=>by rw [r.inj r',aq.inj t t']
section
variable {X:Cx} {LL:List (Ke×Obj)} {σ:St} {H:Hp} {s:Kf} {a:Ke} {xs ys:List V}
theorem aI.of{K:DL}(h:H a=some (.lst xs)):aI K H a xs:= .inl (.inl h)
theorem aY.of{K:DL}(h:H a=some (.tup xs)):aY K H a xs:= .inl (.inl h)
theorem aa.list(I:aa X LL σ H s)(h:aI X.K H a xs):∃its:List Kc,aq xs its/\PlainL s.heap a its.toArray/\xs.length<=Kl:=by
 rcases h with h | ⟨o,its,n,hk,hc,hd,hs,hz,r⟩
 ·obtain⟨z,its,n,r,e⟩:=h.ok I.hok;exact⟨its,r,⟨_,n,e,rfl,rfl,rfl⟩,z⟩
 ·refine⟨its.toList,r,⟨o,n,I.kIn a o hk,hc,hd,by simpa using hs⟩,?_⟩;have e:=r.length;simp only [D2] at e;omega
theorem aa.tuple(I:aa X LL σ H s)(h:aY X.K H a xs):∃its:List Kc,aq xs its/\IsTup s.heap a its.toArray/\xs.length<=Kl:=by
 rcases h with h | ⟨o,its,n,hk,hc,hs,hz,r⟩
 ·obtain⟨z,its,r,p⟩:=h.ok I.hok;exact⟨its,r,p,z⟩
 ·refine⟨its.toList,r,⟨o,I.kIn a o hk,hc,n,by simpa using hs⟩,?_⟩;have e:=r.length;simp only [D2] at e;omega
theorem aa.list_inj(I:aa X LL σ H s)(h:aI X.K H a xs)(h':aI X.K H a ys):xs=ys:=by
 obtain⟨its,r,⟨o,n,e,_,_,d⟩,_⟩:=I.list h;obtain⟨its',r',⟨o',n',e',_,_,d'⟩,_⟩:=I.list h';rw [e] at e';cases e';rw [d] at d';injection d' with d1 _
 have:its=its':=by simpa using congrArg JI d1
 subst this;exact r.inj r'
theorem aa.tuple_inj(I:aa X LL σ H s)(h:aY X.K H a xs)(h':aY X.K H a ys):xs=ys:=by
 obtain⟨its,r,⟨o,e,_,n,d⟩,_⟩:=I.tuple h;obtain⟨its',r',⟨o',e',_,n',d'⟩,_⟩:=I.tuple h';rw [e] at e';cases e';rw [d] at d';injection d' with d1 _
 have:its=its':=by simpa using congrArg JI d1
 subst this;exact r.inj r'
end
abbrev Cx.wish(X:Cx)(E:Kc->Kf->Prop):Cx:={X with xe:=E}
abbrev Cx.nox(X:Cx):Cx:=X.wish λ_ _=>False
theorem Cx.Ok.wish{X:Cx}(ok:X.Ok)(E:Kc->Kf->Prop):(X.wish E).Ok:=
 ⟨ok.mod,ok.kind,ok.glob,ok.blt,ok.above,ok.inj,ok.has,ok.cab,ok.hd,ok.frames,ok.stk,ok.exf,ok.bs,ok.bsz,ok.noex,ok.exfs,ok.funs,ok.frf⟩
theorem Cx.Ok.unwish{X:Cx}{E:Kc->Kf->Prop}(ok:(X.wish E).Ok):X.Ok:=
 ⟨ok.mod,ok.kind,ok.glob,ok.blt,ok.above,ok.inj,ok.has,ok.cab,ok.hd,ok.frames,ok.stk,ok.exf,ok.bs,ok.bsz,ok.noex,ok.exfs,ok.funs,ok.frf⟩
section
variable {X:Cx} {LL:List (Ke×Obj)} {σ:St} {H:Hp} {s:Kf} {E:Kc->Kf->Prop}
theorem aa.wish(I:aa X LL σ H s)(E:Kc->Kf->Prop):aa (X.wish E) LL σ H s:=⟨I.ok.wish E,I.os,I.bare,I.base,I.loc,I.cell,I.free,I.freeC,I.pin,I.hok,I.len⟩
theorem aa.unwish(I:aa (X.wish E) LL σ H s):aa X LL σ H s:=⟨I.ok.unwish,I.os,I.bare,I.base,I.loc,I.cell,I.free,I.freeC,I.pin,I.hok,I.len⟩
theorem SP.unwish{D:fQ}{f:Flow}{s':Kf}(h:SP (X.wish E) LL D f s'):SP X LL D f s':=by
 cases f with
 | next=>obtain⟨σ',H',I,q⟩:=h;exact⟨σ',H',I.unwish,q⟩
 | brk=>obtain⟨σ',H',I,q⟩:=h;exact⟨σ',H',I.unwish,q⟩
 | cont=>obtain⟨σ',H',I,q⟩:=h;exact⟨σ',H',I.unwish,q⟩
 | ret u=>obtain⟨v,σ',H',I,r,q⟩:=h;exact⟨v,σ',H',I.unwish,r,q⟩
theorem bg.nox{st:List Ks}{t:TS}(h:bg X.nox st t):bg X st t:=λLL s σ H D I hw=>
 Ky (h LL s σ H D (I.wish _) hw) (λ_ _ q=>q.unwish) λ_ _ z=>E7 z
end
section
variable {X:Cx} {st:Ks} {rest:List Ks} {t u:TS} {e:Kk} {te:TE} {pos:Pos}
def pY:TS:=λD σ H=>D.nx σ H
def pZ(t u:TS):TS:=λD σ H=>t {D with nx:=u D} σ H
theorem sX:bg X [] pY:=λ_ _ σ H _ I h=>La ⟨σ,H,I,h⟩
theorem p5(h1:PS X st t)(h2:bg X rest u):bg X (st::rest) (pZ t u):=by
 intro LL s σ H D I h;refine LC (ao (h1 LL s σ H {D with nx:=u D} I h) λf s1 q=>?_);cases f with
 | next=>
  obtain⟨σ',H',I',q⟩:=q;exact h2 LL s1 σ' H' D I' q
 | ret v=>exact q
 | brk=>exact q
 | cont=>exact q
theorem oz(h1:PS X st t):bg X [st] t:=by
 intro LL s σ H D I h;refine LC (ao (h1 LL s σ H D I h) λf s1 q=>?_);cases f with
 | next=>exact La q
 | ret v=>exact q
 | brk=>exact q
 | cont=>exact q
theorem aa.quiet{LL:List (Ke×Obj)}{σ:St}{H:Hp}{s:Kf}(I:aa X LL σ H s):interactive X.env=false:=by simp [interactive,I.ok.kind]
def p6(te:TE):TS:=λD σ H=>te σ H λ_ H1=>D.nx σ H1
theorem sY(he:PE X e te)(hs:KJ e none pos.line X.env=pure false:=by rfl):PS X (.Expr e pos) (p6 te):=by
 intro LL s σ H D I h;exact wpAny_Expr_any (ao (he LL s σ H _ I h) λv s1 uu11=>by obtain⟨x,H1,I1,r1,q1⟩:=uu11;exact⟨σ,H1,I1,q1⟩) I.quiet hs
def p7(te:TE):TS:=λD σ H=>te σ H D.rt
theorem nz(he:PE X e te):PS X (.Return (some e) pos) (p7 te):=by
 intro LL s σ H D I h;exact wpAny_Return_some (ao (he LL s σ H _ I h) λv s1 uu12=>by obtain⟨x,H1,I1,r1,q1⟩:=uu12;exact⟨x,σ,H1,I1,r1,q1⟩)
def p8(c:TT)(t u:TS):TS:=λD σ H=>c σ H λb H1=>if b=true then t D σ H1 else u D σ H1
theorem sZ{c:Kk}{a b:List Ks}{tc:TT}(hc:PT X c tc)(ha:bg X a t)(hb:bg X b u):PS X (.If c a b pos) (p8 tc t u):=by
 intro LL s σ H D I h;refine wpAny_If (ao (hc LL s σ H _ I h) λd s1 ⟨H1,I1,q1⟩=>?_);cases d with
 | true=>exact ha LL s1 σ H1 D I1 q1
 | false=>exact hb LL s1 σ H1 D I1 q1
def wX:TS:=λ_ _ _=>False
theorem wY:PS X st wX:=λ_ _ _ _ _ _ h=>h.elim
end
abbrev TG:=V->St->Hp->(St->Hp->Prop)->Prop
abbrev fS:=List V->St->Hp->(St->Hp->Prop)->Prop
def PG(X:Cx)(target:Kk)(t:TG):Prop:=
 ∀(LL:List (Ke×Obj))(s:Kf)(σ:St)(H:Hp)(v:V)(u:Kc)(Q:St->Hp->Prop),aa X LL σ H s->aD v u->t v σ H Q->
  Kh (Ki X.prog X.w) X.A (assign target X.env u) (λ_ s'=>∃σ' H',aa X LL σ' H' s'/\Q σ' H') X.xe s
def oA(X:Cx)(ts:List Kk)(t:fS):Prop:=
 ∀(LL:List (Ke×Obj))(s:Kf)(σ:St)(H:Hp)(vs:List V)(us:List Kc)(Q:St->Hp->Prop),aa X LL σ H s->aq vs us->t vs σ H Q->
  Kh (Ki X.prog X.w) X.A (assignInOrder ((Lg ts X.env).map (·.2)) us) (λ_ s'=>∃σ' H',aa X LL σ' H' s'/\Q σ' H') X.xe s
section
variable {X:Cx} {pos:Pos}
def fT(i:Nat):TG:=λv σ H Q=>Q (σ.set i (some v)) H
theorem bp{i:Nat}{x:Str}(hN:X.N.Nodup)(hi:X.N[i]?=some x)(hx:fP X.env.scope x)(hf:X.fn x=true\/X.env.scope.names.lookup x=some .local:=by first | exact .inl rfl | exact .inr rfl | assumption):PG X (.Name x pos) (fT i):=by
 intro LL s σ H v u Q I r h;exact wpAny_assign_Name (ox I hN hi hx r (λs' I'=>⟨_,H,I',h⟩) hf)
def nA:fS:=λvs σ H Q=>vs=[]/\Q σ H
def mJ(t:TG)(u:fS):fS:=λvs σ H Q=>∃v r,vs=v::r/\t v σ H λσ' H'=>u r σ' H' Q
theorem p9:oA X [] nA:=by
 intro LL s σ H vs us Q I r h;obtain⟨e,h⟩:=h;subst e;cases r;exact assignInOrder_nil ⟨σ,H,I,h⟩
theorem mK{e:Kk}{es:List Kk}{t:TG}{u:fS}(h1:PG X e t)(h2:oA X es u)
 (hs:(Lg (e::es) X.env).map (·.2)=assign e X.env::(Lg es X.env).map (·.2):=by rfl):oA X (e::es) (mJ t u):=by
 intro LL s σ H vs us Q I r h;obtain⟨v,vr,e1,h⟩:=h;subst e1;cases r with
 | cons r rr=>
  rw [hs];refine assignInOrder_cons (ao (h1 LL s σ H _ _ _ I r h) λ_ s1 ⟨σ1,H1,I1,q1⟩=>?_);exact h2 LL s1 σ1 H1 _ _ Q I1 rr q1
def nB(K:DL)(n:Nat)(t:fS):TG:=λv σ H Q=>∃a xs,v= .ref a/\aY K H a xs/\xs.length=n/\t xs σ H Q
theorem qa{es:List Kk}{k:Nat}{t:fS}{n:Nat}(hc:X.calm=true)(h:oA X es t)
 (hn:(Lg es X.env).length=n:=by rfl)(hst:(Lg es X.env).findIdx? (·.1)=none:=by rfl):PG X (.Tuple es k pos) (nB X.K n t):=by
 intro LL s σ H v u Q I r hw;obtain⟨a,xs,e1,hq,hl,hw⟩:=hw;subst e1;cases r;obtain⟨its,rv,ht,hz⟩:=I.tuple hq;refine assign_Tuple_tuple (I.ok.hd hc) ht (by simp [hn,<-hl,rv.length]) hst λh' hx=>?_;have I1:aa X LL σ H {s with heap:=h'}:=I.kept (t':=s.toks) λb o e=>hx b o (Ec (DV e)) e;exact h LL _ σ H xs _ Q I1 (by simpa using rv) hw
def mL(te:TE)(g:TG):TS:=λD σ H=>te σ H λx H1=>g x σ H1 D.nx
theorem wZ{tg e:Kk}{te:TE}{g:TG}(he:PE X e te)(hg:PG X tg g)(hs:swapsWithSole [tg] e pos.line X.env=pure false:=by rfl)(hw:swappedStores [tg] e X.env=pure none:=by rfl)
 (h1:(Lg [tg] X.env).map (·.2)=[assign tg X.env]:=by rfl):PS X (.Assign [tg] e pos) (mL te g):=by
 intro LL s σ H D I h;refine wpAny_Assign_stores (ao (he LL s σ H _ I h) λv s1 ⟨x,H1,I1,r1,q1⟩=>?_) hs hw;rw [h1];exact ao (hg LL s1 σ H1 x v _ I1 r1 q1) λ_ s2 q=>q
theorem ti{i:Nat}{x:Str}{e:Kk}{te:TE}{pos':Pos}(hN:X.N.Nodup)(hi:X.N[i]?=some x)(hx:fP X.env.scope x)(he:PE X e te)(hs:KJ e (some (.Name x pos')) pos.line X.env=pure false:=by rfl)(hf:X.fn x=true\/X.env.scope.names.lookup x=some .local:=by first | exact .inl rfl | exact .inr rfl | assumption):
 PS X (.Assign [.Name x pos'] e pos) (mL te (fT i)):=by
 intro LL s σ H D I h;refine wpAny_Assign_Name (ao (he LL s σ H _ I h) λv s1 ⟨y,H1,I1,r1,q1⟩=>?_) hs;exact ox I1 hN hi hx r1 (λs2 I2=>⟨_,H1,I2,q1⟩) hf
end
structure It where
 go:Nat->Hp->Prop
 yld:Nat->Hp->V->Hp->Prop
 stop:Nat->Hp->Prop
def dG(X:Cx)(LL:List (Ke×Obj))(H:Hp)(b:Ke):Prop:=
 H b=none/\b≠X.env.locals/\b ∉ X.fs/\(b∈X.ex\/X.s₀.heap.objs.size<=b)/\(∀x c,X.env.cells.lookup x=some c->c≠b)/\∀p∈X.pn++LL,p.1≠b
theorem aa.fpOk{X:Cx}{LL:List (Ke×Obj)}{σ:St}{H H':Hp}{s:Kf}{b:Ke}(I:aa X LL σ H s)(hb:s.heap.objs.size<=b)(hn:H' b=none):dG X LL H' b:=by
 refine⟨hn,GJ (D8 I.lt hb),I.nofs hb,.inr (EV I.sz hb),λx c e z=>?_,λp hp z=>?_⟩
 ·obtain⟨v,q⟩:=I.cell x c e;exact absurd (D8 q.lt (by rw [z];exact hb)) (ET _)
 ·exact absurd (D8 (DV (I.pin p hp).1) (by rw [z];exact hb)) (ET _)
structure nE (P:Kp) (w:Kq) (K:DL) (tg:Kk) (J:It) (fp:List Ke) (it:Ke) (tn:Nat->Km->Prop):Prop where
 mem:it∈fp
 obj:∀i h,tn i h->∀b∈fp,∃o,h.get? b=some o/\∀v,o.data≠ .cell v
 keep:∀i h h',tn i h->(∀b∈fp,∀o,h.get? b=some o->h'.get? b=some o)->tn i h'
 item:∀(X:Cx),X.prog=P->X.w=w->X.K=K->X.calm=true->∀(i:Nat)(LL:List (Ke×Obj))(s:Kf)(σ:St)(H:Hp)(E:Kc->Kf->Prop),aa X LL σ H s->(∀b∈fp,dG X LL H b)->tn i s.heap->J.go i H->
  Kh (Ki P w) X.A (K7 (.ref it)) (λr s1=>∃u,r=some u/\
   Kh (Ki P w) X.A (Lp tg (.ref it) u) (λ_ s2=>∃x H',aa X LL σ H' s2/\aD x u/\J.yld i H x H'/\tn (i+1) s2.heap/\∀b∈fp,H' b=none) E s1) E s
 done:∀(X:Cx),X.prog=P->X.w=w->X.K=K->X.calm=true->∀(i:Nat)(LL:List (Ke×Obj))(s:Kf)(σ:St)(H:Hp)(E:Kc->Kf->Prop),aa X LL σ H s->(∀b∈fp,dG X LL H b)->tn i s.heap->J.stop i H->
  Kh (Ki P w) X.A (K7 (.ref it)) (λr s1=>r=none/\aa X LL σ H s1) E s
 self:∀(A:Kr)(i:Nat)(s:Kf)(Q:Kc->Kf->Prop)(E:Kc->Kf->Prop),tn i s.heap->Q (.ref it) s->Kh (Ki P w) A (pyIter (.ref it)) Q E s
abbrev TI:=St->Hp->(It->Hp->Prop)->Prop
def tj(X:Cx)(LL:List (Ke×Obj))(σ:St)(tg:Kk)(R:It->Hp->Prop)(itv:Kc)(s2:Kf):Prop:=
 ∃(it:Ke)(fp:List Ke)(tn:Nat->Km->Prop)(J:It)(H':Hp),itv= .ref it/\aa X LL σ H' s2/\nE X.prog X.w X.K tg J fp it tn/\tn 0 s2.heap/\(∀b∈fp,dG X LL H' b)/\R J H'
def PI(X:Cx)(tg iter:Kk)(wi:TI):Prop:=
 ∀(LL:List (Ke×Obj))(s:Kf)(σ:St)(H:Hp)(R:It->Hp->Prop),aa X LL σ H s->wi σ H R->
  Kh (Ki X.prog X.w) X.A (eval iter X.env) (λv s1=>Kh (Ki X.prog X.w) X.A (pyIter v) (tj X LL σ tg R) X.xe s1) X.xe s
theorem qc{M:Model}{A:Kr}{E:Kc->Kf->Prop}{s:Kf}{tg:Kk}{it:Ke}{u:Kc}{o:Obj}{n:String}{vs:Array Kc}{Q:Unit->Kf->Prop}(ho:s.heap.get? it=some o)(hc:o.cls= .type n)(hd:o.data= .fields vs)
 (hn:["enumerate","zip","dict_itemiterator","dict_reverseitemiterator","odict_iterator","itertools.zip_longest","itertools.pairwise"].contains n=false)(hQ:Q () s):Kh M A (Lp tg (.ref it) u) Q E s:=by
 unfold Lp;cases tg <;> first
  | exact Kg hQ
  | (cases u <;> first
      | exact Kg hQ
      | (refine Kd (wpAny_load ho ?_)
         rw [hc,hd];show Kh M A (if (["enumerate","zip","dict_itemiterator","dict_reverseitemiterator","odict_iterator","itertools.zip_longest","itertools.pairwise"].contains n && vs[0]?==some (KY _))=true then _ else _) Q E s;rw [J5 (by intro h;rw [hn,Jy] at h;cases h)];exact Kg hQ))
def nF(K:DL)(a:Ke):It:=
 ⟨λi H=>∃xs x,aI K H a xs/\xs[i]?=some x,λi H x H'=>H'=H/\∀xs,aI K H a xs->xs[i]?=some x,λi H=>∃xs,aI K H a xs/\xs.length<=i⟩
def nG(K:DL)(a:Ke):It:=
 ⟨λi H=>∃xs x,aY K H a xs/\xs[i]?=some x,λi H x H'=>H'=H/\∀xs,aY K H a xs->xs[i]?=some x,λi H=>∃xs,aY K H a xs/\xs.length<=i⟩
def k8(lo:Int)(n:Nat):It:=⟨λi _=>i < n,λi H x H'=>H'=H/\x= .int (lo+i),λi _=>n<=i⟩
theorem xa{P:Kp}{w:Kq}{K:DL}{tg:Kk}(a it:Ke):nE P w K tg (nF K a) [it] it (λi h=>h.IsListIter it a i) where
 mem:=Ka
 obj:=λi h st b hb=>by
  have e:b=it:=by simpa using hb
  subst e;obtain⟨o,e,c,d⟩:=st;exact⟨o,e,λv z=>by rw [d] at z;cases z⟩
 keep:=λi h h' st k=>st.at λo e=>k it Ka o e
 item:=by
  intro X hP hw hK hc i LL s σ H E I hf st hg;subst hP hw hK;obtain⟨xs,x,hq,hx⟩:=hg;obtain⟨its,rv,p,hz⟩:=I.list hq;obtain⟨u,hu,ru⟩:=rv.get hx;obtain⟨f0,f1,f2,f3,f4,f5⟩:=hf it Ka;refine wpAny_pyNext_list_item st p.isList (x:=u) (by simpa using hu) λh' st' sb=>?_;have I1:aa X LL σ H {s with heap:=h'}:=I.turned (t':=s.toks) (λb o hb e=>(sb.2 b hb).trans e) f0 f1 f3 f4 f5;obtain⟨o,e,c,d⟩:=id st';exact⟨u,rfl,qc (s:={s with heap:=h'}) e c d J3 ⟨x,H,I1,ru,⟨rfl,λys hy=>by rw [I.list_inj hy hq];exact hx⟩,st',λb hb=>(hf b hb).1⟩⟩
 done:=by
  intro X hP hw hK hc i LL s σ H E I hf st hg;subst hP hw hK;obtain⟨xs,hq,hx⟩:=hg;obtain⟨its,rv,p,hz⟩:=I.list hq;obtain⟨f0,f1,f2,f3,f4,f5⟩:=hf it Ka;have hl:=rv.length;exact wpAny_pyNext_list_end (I.ok.hd hc) st p.isList (by simp;omega) λh' eb=>⟨rfl,I.turned (t':=s.toks) (λb o hb e=>eb b o hb e) f0 f1 f3 f4 f5⟩
 self:=λ_ _ _ _ _ st h=>wpAny_pyIter_listiter st h
theorem xb{P:Kp}{w:Kq}{K:DL}{tg:Kk}(a it:Ke):nE P w K tg (nG K a) [it] it (λi h=>h.IsTupleIter it a i) where
 mem:=Ka
 obj:=λi h st b hb=>by
  have e:b=it:=by simpa using hb
  subst e;obtain⟨o,e,c,d⟩:=st;exact⟨o,e,λv z=>by rw [d] at z;cases z⟩
 keep:=λi h h' st k=>st.at λo e=>k it Ka o e
 item:=by
  intro X hP hw hK hc i LL s σ H E I hf st hg;subst hP hw hK;obtain⟨xs,x,hq,hx⟩:=hg;obtain⟨its,rv,p,hz⟩:=I.tuple hq;obtain⟨u,hu,ru⟩:=rv.get hx;obtain⟨f0,f1,f2,f3,f4,f5⟩:=hf it Ka;refine wpAny_pyNext_tuple_item st (show s.heap.IsTuple a its.toArray from p) (x:=u) (by simpa using hu) λh' st' sb=>?_;have I1:aa X LL σ H {s with heap:=h'}:=I.turned (t':=s.toks) (λb o hb e=>(sb.2 b hb).trans e) f0 f1 f3 f4 f5;obtain⟨o,e,c,d⟩:=id st';exact⟨u,rfl,qc (s:={s with heap:=h'}) e c d J3 ⟨x,H,I1,ru,⟨rfl,λys hy=>by rw [I.tuple_inj hy hq];exact hx⟩,st',λb hb=>(hf b hb).1⟩⟩
 done:=by
  intro X hP hw hK hc i LL s σ H E I hf st hg;subst hP hw hK;obtain⟨xs,hq,hx⟩:=hg;obtain⟨its,rv,p,hz⟩:=I.tuple hq;obtain⟨f0,f1,f2,f3,f4,f5⟩:=hf it Ka;have hl:=rv.length;exact wpAny_pyNext_tuple_end (I.ok.hd hc) st (show s.heap.IsTuple a its.toArray from p) (by simp;omega) λh' eb=>⟨rfl,I.turned (t':=s.toks) (λb o hb e=>eb b o hb e) f0 f1 f3 f4 f5⟩
 self:=λ_ _ _ _ _ st h=>wpAny_pyIter_tupleiter st h
theorem xc{P:Kp}{w:Kq}{K:DL}{tg:Kk}(it:Ke)(lo:Int)(n:Nat):nE P w K tg (k8 lo n) [it] it (λi h=>IsRangeIter h it (lo+(i:Nat)*1) ((n:Int) - (i:Nat)) 1) where
 mem:=Ka
 obj:=λi h st b hb=>by
  have e:b=it:=by simpa using hb
  subst e;exact⟨_,st,λv z=>by
   have z':Data.fields _=Data.cell v:=z;cases z'⟩
 keep:=λi h h' st k=>k it Ka _ st
 item:=by
  intro X hP hw hK hc i LL s σ H E I hf st hg;subst hP hw hK;obtain⟨f0,f1,f2,f3,f4,f5⟩:=hf it Ka;have W:=Walks.range (prog:=X.prog) (w:=X.w) (I.ok.hd hc) it lo 1 n;refine W.item i s _ _ hg st λv h' tk hv st' kk=>?_;obtain⟨t,rfl⟩:=hv;have I1:aa X LL σ H {s with heap:=h',toks:=tk}:=I.turned (λb o hb e=>kk b o (by simpa using hb) e) f0 f1 f3 f4 f5;refine⟨_,rfl,qc (s:={s with heap:=h',toks:=tk}) (n:="range_iterator") st' rfl rfl J3 ⟨.int (lo+i),H,I1,⟨t,?_⟩,⟨rfl,rfl⟩,st',λb hb=>(hf b hb).1⟩⟩;rw [Int.mul_one]
 done:=by
  intro X hP hw hK hc i LL s σ H E I hf st hg;subst hP hw hK;obtain⟨f0,f1,f2,f3,f4,f5⟩:=hf it Ka;exact wpAny_pyNext_range_end (I.ok.hd hc) st (by have:n<=i:=hg;omega) λh' eb=>⟨rfl,I.turned (t':=s.toks) (λb o hb e=>eb b o hb e) f0 f1 f3 f4 f5⟩
 self:=λ_ _ _ _ _ st h=>wpAny_pyIter_rangeiter st h
section
variable {X:Cx} {tg:Kk}
def qf(K:DL)(tl:TE):TI:=λσ H R=>tl σ H λx H1=>∃a,x= .ref a/\(∃xs,aI K H1 a xs)/\R (nF K a) H1
def qg(K:DL)(tl:TE):TI:=λσ H R=>tl σ H λx H1=>∃a,x= .ref a/\(∃xs,aY K H1 a xs)/\R (nG K a) H1
theorem tm{l:Kk}{tl:TE}(hl:PE X l tl):PI X tg l (qf X.K tl):=by
 intro LL s σ H R I h;refine ao (hl LL s σ H _ I h) λv s1 ⟨x,H1,I1,r1,q1⟩=>?_;obtain⟨a,e,⟨xs,hq⟩,q⟩:=q1;subst e;cases r1;obtain⟨its,rv,p,hz⟩:=I1.list hq;refine LB p.isList ?_;refine⟨s1.heap.objs.size,[s1.heap.objs.size],_,_,H1,rfl,I1.kept (t':=s1.toks) λb o e=>DN _ e,xa a _,⟨_,D5 _ rfl,rfl,rfl⟩,λb hb=>?_,q⟩;have e:b=s1.heap.objs.size:=by simpa using hb
 subst e;exact I1.fpOk (DU _) (I1.hok.fresh (DU _))
theorem qh{l:Kk}{tl:TE}(hl:PE X l tl):PI X tg l (qg X.K tl):=by
 intro LL s σ H R I h;refine ao (hl LL s σ H _ I h) λv s1 ⟨x,H1,I1,r1,q1⟩=>?_;obtain⟨a,e,⟨xs,hq⟩,q⟩:=q1;subst e;cases r1;obtain⟨its,rv,p,hz⟩:=I1.tuple hq;refine wpAny_pyIter_tuple (show s1.heap.IsTuple a its.toArray from p) ?_;refine⟨s1.heap.objs.size,[s1.heap.objs.size],_,_,H1,rfl,I1.kept (t':=s1.toks) λb o e=>DN _ e,xb a _,⟨_,D5 _ rfl,rfl,rfl⟩,λb hb=>?_,q⟩;have e:b=s1.heap.objs.size:=by simpa using hb
 subst e;exact I1.fpOk (DU _) (I1.hok.fresh (DU _))
theorem xf{LL:List (Ke×Obj)}{σ:St}{H:Hp}{s:Kf}{R:It->Hp->Prop}{E:Kc->Kf->Prop}{lo hi:Int}{t u v:Tok}{tk:Nat}(I:aa X LL σ H s)(h1:-(2 ^ 62)<=lo)(h2:lo < 2 ^ 62)(h3:-(2 ^ 62)<=hi)(h4:hi < 2 ^ 62)
 (q:R (k8 lo (hi - lo).toNat) H):Kh (Ki X.prog X.w) X.A (pyIter (.ref s.heap.objs.size)) (tj X LL σ tg R) E {s with heap:=s.heap.push {cls:= .type "range",data:= .fields #[.int lo t,.int hi u,.int 1 v]},toks:=tk}:=by
 refine wpAny_pyIter_range (IsRange.new ..) (small_one h1 h2 h3 h4) ?_;have I1:aa X LL σ H {s with heap:=s.heap.push {cls:= .type "range",data:= .fields #[.int lo t,.int hi u,.int 1 v]},toks:=tk}:=I.kept λb o e=>DN _ e;refine⟨(s.heap.push {cls:= .type "range",data:= .fields #[.int lo t,.int hi u,.int 1 v]}).objs.size,[(s.heap.push {cls:= .type "range",data:= .fields #[.int lo t,.int hi u,.int 1 v]}).objs.size],_,_,H,rfl,
  I1.kept (t':=tk) λb o e=>DN _ e,xc _ lo (hi - lo).toNat,?_,λb hb=>?_,q⟩
 ·have e1:lo+((0:Nat):Int)*1=lo:=Ka
  have e2:(((hi - lo).toNat:Nat):Int) - ((0:Nat):Int)=Builtin.Range.rangeSize lo hi 1:=by rw [rangeSize_one];split <;> omega
  show IsRangeIter _ _ (lo+((0:Nat):Int)*1) ((((hi - lo).toNat:Nat):Int) - ((0:Nat):Int)) 1;rw [e1,e2];exact D5 _ rfl
 ·have e:b=(s.heap.push {cls:= .type "range",data:= .fields #[.int lo t,.int hi u,.int 1 v]}).objs.size:=by simpa using hb
  subst e;exact I1.fpOk (DU _) (I1.hok.fresh (DU _))
def qi(ta:TA):TI:=λσ H R=>ta σ H λvs H1=>∃j:Int,vs=[.int j]/\-(2 ^ 62)<=j/\j < 2 ^ 62/\R (k8 0 j.toNat) H1
def tq(ta:TA):TI:=λσ H R=>ta σ H λvs H1=>∃i j:Int,vs=[.int i,.int j]/\(-(2 ^ 62)<=i/\i < 2 ^ 62/\-(2 ^ 62)<=j/\j < 2 ^ 62)/\R (k8 i (j - i).toNat) H1
theorem qj{a:Kk}{ta:TA}{p pos:Pos}(hg:Gl X "range")(hm:X.mg "range"=none)(ha:PA X [a] ta)(hs:Kj [a] X.env=[(false,eval a X.env)]:=by rfl):PI X tg (.Call (.Name "range" p) [a] [] pos) (qi ta):=by
 intro LL s σ H R I h;refine Call_ (mI I hg hm boot_range (G3 (ao (ha pos LL s σ H _ I h) λus s1 ⟨vs,H1,I1,r1,q1⟩=>?_) hs rfl));obtain⟨j,e,q1,q2,q⟩:=q1;subst e;cases r1 with
 | cons r rr=>
  cases rr;obtain⟨t,rfl⟩:=r;exact call_range_1 (xf I1 J4 J4 q1 q2 (by simpa using q))
def nH(wi:TI)(g:TG)(tb:TS):TS:=λD σ H=>wi σ H λJ H1=>∃W:Nat->Nat->St->Hp->Prop,(∃m,W 0 m σ H1)/\∀i m σ H,W i m σ H->
 (J.stop i H/\D.nx σ H)\/(J.go i H/\∃N:St->Hp->Prop,(∀σ' H',N σ' H'->∃m',m' < m/\W (i+1) m' σ' H')/\∀x H',J.yld i H x H'->g x σ H' λσ2 H2=>tb {D with nx:=N,ct:=N,bk:=D.nx} σ2 H2)
def nI(fp:List Ke)(h:Km):List (Ke×Obj):=fp.filterMap λb=>(h.get? b).map λo=>(b,o)
theorem oB{fp:List Ke}{h:Km}{b:Ke}{o:Obj}(hb:b∈fp)(e:h.get? b=some o):(b,o)∈nI fp h:=GR.mpr ⟨b,hb,by rw [e];rfl⟩
theorem xh{fp:List Ke}{h:Km}{p:Ke×Obj}(hp:p∈nI fp h):p.1∈fp/\h.get? p.1=some p.2:=by
 obtain⟨b,hb,e⟩:=GR.mp hp;cases q:h.get? b with
 | none=>rw [q] at e;cases e
 | some o=>
  rw [q] at e;have e':(b,o)=p:=ED e;subst e';exact⟨hb,q⟩
theorem aa.pinned{LL:List (Ke×Obj)}{σ:St}{H:Hp}{s:Kf}{fp:List Ke}(I:aa X LL σ H s)(hf:∀b∈fp,dG X LL H b)(ho:∀b∈fp,∃o,s.heap.get? b=some o/\∀v,o.data≠ .cell v):aa X (LL++nI fp s.heap) σ H s:=
 I.pins_of λp hp=>(Ei.mp hp).elim (λz=>I.pin p (Ey _ z)) λz=>by
  obtain⟨hb,e⟩:=xh z;obtain⟨f0,f1,f2,_⟩:=hf p.1 hb;obtain⟨o,e',d⟩:=ho p.1 hb;rw [e] at e';cases e';exact⟨e,f0,f1,f2,d⟩
theorem aa.unpinned{LL pl:List (Ke×Obj)}{σ:St}{H:Hp}{s:Kf}(I:aa X (LL++pl) σ H s):aa X LL σ H s:=I.pins_of λp hp=>I.pin p (Ey _ (HA _ hp))
theorem oC{iter:Kk}{body:List Ks}{wi:TI}{g:TG}{tb:TS}{pos:Pos}(hp:PassesOwn (Ki X.prog X.w) X.A X.env X.xe)(hc:X.calm=true)(hi:PI X tg iter wi)(hg:PG X tg g)(hb:bg X body tb)
 (hs:∀x,Kt iter X.env x=pure x:=by intro _;rfl):PS X (.For tg iter body [] pos) (nH wi g tb):=by
 intro LL s σ H D I h;refine wpAny_For (ao (hi LL s σ H _ I h) λv s1 h1=>ao h1 λitv s2 h2=>?_) hs;obtain⟨it,fp,tn,J,H2,e,I2,T,st2,f2,W,⟨m0,w0⟩,turn⟩:=h2;subst e;have stat:∀{H':Hp},(∀b∈fp,H' b=none)->∀b∈fp,dG X LL H' b:=λhn b hb=>⟨hn b hb,(f2 b hb).2⟩;refine codeAny_forLoop_any (λn s'=>∃i σ' H',aa X LL σ' H' s'/\tn i s'.heap/\(∀b∈fp,H' b=none)/\W i n σ' H') ?_ m0 ⟨0,σ,H2,I2,st2,λb hb=>(f2 b hb).1,w0⟩;rintro n s3 ⟨i,σ3,H3,I3,st3,fr3,w3⟩;rcases turn i n σ3 H3 w3 with⟨stop,qn⟩ | ⟨go,N,hN,step⟩
 ·refine Lb hp (ao (T.done X rfl rfl rfl hc i LL s3 σ3 H3 X.xe I3 (stat fr3) st3 stop) λr s4 ⟨hr,I4⟩=>?_);subst hr;exact La ⟨σ3,H3,I4,qn⟩
 ·refine Lb hp (ao (T.item X rfl rfl rfl hc i LL s3 σ3 H3 X.xe I3 (stat fr3) st3 go) λr s4 ⟨u,hr,h4⟩=>?_);subst hr;refine Lb hp (ao h4 λ_ s5 ⟨x,H5,I5,r5,y5,st5,fr5⟩=>?_);have I5':=I5.pinned (stat fr5) (T.obj _ _ st5);refine Lb hp (ao (hg _ s5 σ3 H5 x u _ I5' r5 (step x H5 y5)) λ_ s6 ⟨σ6,H6,I6,q6⟩=>?_);refine Lb hp (ao (hb _ s6 σ6 H6 _ I6 q6) λf s7 q7=>?_);have again:∀{σ7:St}{H7:Hp},aa X (LL++nI fp s5.heap) σ7 H7 s7->N σ7 H7->∃m,m < n/\∃i σ' H',aa X LL σ' H' s7/\tn i s7.heap/\(∀b∈fp,H' b=none)/\W i m σ' H':=λ{σ7 H7} I7 n7=>by
   obtain⟨m',hm,w7⟩:=hN σ7 H7 n7;refine⟨m',hm,i+1,σ7,H7,I7.unpinned,T.keep _ _ _ st5 λb hb o e=>(I7.pin (b,o) (Ey _ (Ey _ (oB hb e)))).1,λb hb=>?_,w7⟩;obtain⟨o,e,d⟩:=T.obj _ _ st5 b hb;exact(I7.pin (b,o) (Ey _ (Ey _ (oB hb e)))).2.1
  cases f with
  | next=>obtain⟨σ7,H7,I7,n7⟩:=q7;exact again I7 n7
  | cont=>obtain⟨σ7,H7,I7,n7⟩:=q7;exact again I7 n7
  | brk=>obtain⟨σ7,H7,I7,q7⟩:=q7;exact⟨σ7,H7,I7.unpinned,q7⟩
  | ret v=>obtain⟨x7,σ7,H7,I7,r7,q7⟩:=q7;exact⟨x7,σ7,H7,I7.unpinned,r7,q7⟩
end
abbrev R2:=V->V->Hp->VK->Prop
def aZ(X:Cx)(f:Kc->Kc->Sem Kc)(r:R2):Prop:=
 ∀(LL:List (Ke×Obj))(s:Kf)(σ:St)(H:Hp)(x y:V)(v u:Kc)(Q:VK),aa X LL σ H s->aD x v->aD y u->r x y H Q->
  Kh (Ki X.prog X.w) X.A (f v u) (EP X LL σ Q) X.xe s
def qk(X:Cx)(f:Kc->Sem Kc)(r:V->Hp->VK->Prop):Prop:=
 ∀(LL:List (Ke×Obj))(s:Kf)(σ:St)(H:Hp)(x:V)(v:Kc)(Q:VK),aa X LL σ H s->aD x v->r x H Q->
  Kh (Ki X.prog X.w) X.A (f v) (EP X LL σ Q) X.xe s
def b7(X:Cx)(f:Kc)(r:List V->Hp->VK->Prop):Prop:=
 ∀(LL:List (Ke×Obj))(s:Kf)(σ:St)(H:Hp)(xs:List V)(us:List Kc)(Q:VK),aa X LL σ H s->aq xs us->r xs H Q->
  Kh (Ki X.prog X.w) X.A (call f us) (EP X LL σ Q) X.xe s
def l6(r:R2)(ta tb:TE):TE:=λσ H Q=>ta σ H λx H1=>tb σ H1 λy H2=>r x y H2 Q
def qm(r:V->Hp->VK->Prop)(ta:TE):TE:=λσ H Q=>ta σ H λx H1=>r x H1 Q
def rI(C:Int->Int->Prop)(g:Int->Int->V):R2:=λx y H Q=>∃i j,x= .int i/\y= .int j/\C i j/\Q (g i j) H
def dH(g:Int->Int->V):R2:=λx y H Q=>∃i j,x= .int i/\y= .int j/\Q (g i j) H
def rU(g:Int->V):V->Hp->VK->Prop:=λx H Q=>∃i,x= .int i/\Q (g i) H
section
variable {X:Cx} {a b c:Kk} {ta tb tc:TE} {pos:Pos}
theorem qo(ha:PE X a ta)(hb:PE X b tb){LL:List (Ke×Obj)}{s:Kf}{σ:St}{H:Hp}{R:V->V->Hp->Prop}(I:aa X LL σ H s)
 (h:ta σ H λx H1=>tb σ H1 λy H2=>R x y H2){Q:Kc->Kf->Prop}{f:Kc->Kc->Sem Kc}
 (hf:∀v u s2 x y H2,aa X LL σ H2 s2->aD x v->aD y u->R x y H2->Kh (Ki X.prog X.w) X.A (f v u) Q X.xe s2):
 Kh (Ki X.prog X.w) X.A (eval a X.env) (λv s₁=>Kh (Ki X.prog X.w) X.A (eval b X.env) (λu s₂=>Kh (Ki X.prog X.w) X.A (f v u) Q X.xe s₂) X.xe s₁) X.xe s:=by
 refine ao (ha LL s σ H _ I h) λv s1 ⟨x,H1,I1,r1,q1⟩=>?_;refine ao (hb LL s1 σ H1 _ I1 q1) λu s2 ⟨y,H2,I2,r2,q2⟩=>?_;exact hf v u s2 x y H2 I2 r1 r2 q2
theorem tu{op:Operator}{r:R2}(ho:aZ X (K0 op) r)(ha:PE X a ta)(hb:PE X b tb):PE X (.BinOp a op b pos) (l6 r ta tb):=by
 intro LL s σ H Q I h;exact wpAny_BinOp (qo ha hb I h λv u s2 x y H2 I2 rx ry q=>ho LL s2 σ H2 x y v u Q I2 rx ry q)
theorem tw{op:UnaryOp}{r:V->Hp->VK->Prop}(ho:qk X (unaryOp op) r)(ha:PE X a ta):PE X (.UnaryOp op a pos) (qm r ta):=by
 intro LL s σ H Q I h;exact UnaryOp_ (ao (ha LL s σ H _ I h) λv s1 uu26=>by obtain⟨x,H1,I1,r1,q1⟩:=uu26;exact ho LL s1 σ H1 x v Q I1 r1 q1)
theorem oE{f:Kc->Kc->Sem Kc}{C:Int->Int->Prop}{g:Int->Int->Int}
 (rule:∀(i j:Int) (t u:Tok) (s:Kf) (Q:Kc->Kf->Prop) (E:Kc->Kf->Prop),C i j->Q (.int (g i j) s.toks) {s with toks:=s.toks+1}->Kh (Ki X.prog X.w) X.A (f (.int i t) (.int j u)) Q E s):
 aZ X f (rI C λi j=>.int (g i j)):=by
 intro LL s σ H x y v u Q I rx ry h;obtain⟨i,j,rfl,rfl,hc,q⟩:=h;obtain⟨t,rfl⟩:=rx;obtain⟨t',rfl⟩:=ry;exact rule i j t t' s _ _ hc ⟨.int (g i j),H,I.tok _,⟨_,rfl⟩,q⟩
theorem tD{f:Kc->Kc->Sem Kc}{g:Int->Int->Int}
 (rule:∀(i j:Int) (t u:Tok) (s:Kf) (Q:Kc->Kf->Prop) (E:Kc->Kf->Prop),Q (.int (g i j) s.toks) {s with toks:=s.toks+1}->Kh (Ki X.prog X.w) X.A (f (.int i t) (.int j u)) Q E s):
 aZ X f (dH λi j=>.int (g i j)):=by
 intro LL s σ H x y v u Q I rx ry h;obtain⟨i,j,rfl,rfl,q⟩:=h;obtain⟨t,rfl⟩:=rx;obtain⟨t',rfl⟩:=ry;exact rule i j t t' s _ _ ⟨.int (g i j),H,I.tok _,⟨_,rfl⟩,q⟩
theorem qp{f:Kc->Kc->Sem Kc}{g:Int->Int->Bool}
 (rule:∀(i j:Int) (t u:Tok) (s:Kf) (Q:Kc->Kf->Prop) (E:Kc->Kf->Prop),Q (.bool (g i j)) s->Kh (Ki X.prog X.w) X.A (f (.int i t) (.int j u)) Q E s):
 aZ X f (dH λi j=>.bl (g i j)):=by
 intro LL s σ H x y v u Q I rx ry h;obtain⟨i,j,rfl,rfl,q⟩:=h;obtain⟨t,rfl⟩:=rx;obtain⟨t',rfl⟩:=ry;exact rule i j t t' s _ _ ⟨.bl (g i j),H,I,rfl,q⟩
def cC(i j:Int):Prop:=0 < j/\j < 1073741824
def cM(i j:Int):Prop:=0<=j/\j<=1000000/\i.natAbs < 2 ^ 64
def ck(i j:Int):Prop:=(-(2 ^ 64) < i/\i < 2 ^ 64)\/(-(2 ^ 64) < j/\j < 2 ^ 64)
theorem ck.ok{i j:Int}(h:ck i j):IntMulOk i j:=by
 rcases h with⟨h1,h2⟩ | ⟨h1,h2⟩
 ·exact .of_left (intBits_le_64 h1 h2)
 ·exact .of_right (intBits_le_64 h1 h2)
theorem cm:aZ X (K0 .Add) (dH λi j=>.int (i+j)):=tD λ_ _ _ _ _ _ _ q=>add_int q
theorem nJ:aZ X (K0 .Sub) (dH λi j=>.int (i - j)):=tD λ_ _ _ _ _ _ _ q=>sub_int q
theorem lH:aZ X (K0 .Mult) (rI ck λi j=>.int (i*j)):=oE λ_ _ _ _ _ _ _ hc q=>mul_int q hc.ok
theorem k9:aZ X (K0 .FloorDiv) (rI cC λi j=>.int (i / j)):=oE λi j _ _ _ _ _ hc q=>by
 have h1:(0:Int) < j:=hc.1;have h2:j < 1073741824:=hc.2;exact floordiv_int J4 (by rw [Int.fdiv_eq_ediv_of_nonneg i J4];exact q) (.inl (PyProof.noPylong_small J4))
theorem ba:aZ X (K0 .Mod) (rI (λ_ j=>0 < j) λi j=>.int (i % j)):=oE λi j _ _ _ _ _ hc q=>by
 have h1:(0:Int) < j:=hc;exact mod_int' J4 (by rw [Int.fmod_eq_emod_of_nonneg i J4];exact q)
theorem xi:aZ X (K0 .Pow) (rI cM λi j=>.int (i ^ j.toNat)):=oE λ_ _ _ _ _ _ _ hc q=>pow_int_small hc.1 hc.2.1 hc.2.2 q
theorem xj{f:Kc->Sem Kc}{g:Int->Int}
 (rule:∀(i:Int) (t:Tok) (s:Kf) (Q:Kc->Kf->Prop) (E:Kc->Kf->Prop),Q (.int (g i) s.toks) {s with toks:=s.toks+1}->Kh (Ki X.prog X.w) X.A (f (.int i t)) Q E s):
 qk X f (rU λi=>.int (g i)):=by
 intro LL s σ H x v Q I rx h;obtain⟨i,rfl,q⟩:=h;obtain⟨t,rfl⟩:=rx;exact rule i t s _ _ ⟨.int (g i),H,I.tok _,⟨_,rfl⟩,q⟩
theorem tE:qk X (unaryOp .USub) (rU λi=>.int (-i)):=xj λ_ _ _ _ _ q=>neg_int q
end
def mM:V->V->Bool
 | .non,.non=>true | .non,.int _=>true | .int _,.non=>true | .non,.bl _=>true | .bl _,.non=>true | .non,.str _=>true | .str _,.non=>true
 | .int _,.int _=>true | .bl _,.bl _=>true | .str _,.str _=>true | .byt _,.byt _=>true
 | .int _,.str _=>true | .str _,.int _=>true | .bl _,.str _=>true | .str _,.bl _=>true
 | _,_=>false
section
variable {X:Cx} {a b c:Kk} {ta tb tc:TE} {pos:Pos}
theorem lg{LL:List (Ke×Obj)}{σ:St}{H:Hp}{s:Kf}{Q:VK}{k k':Bool}(I:aa X LL σ H s)(q:Q (.bl k) H)(e:k=k'):EP X LL σ Q (.bool k') s:=by
 subst e;exact⟨.bl k,H,I,rfl,q⟩
theorem nK:aZ X (KC .Lt) (dH λi j=>.bl (decide (i < j))):=qp λ_ _ _ _ _ _ _ q=>lt_int q
theorem xk:aZ X (KC .Gt) (dH λi j=>.bl (decide (j < i))):=qp λ_ _ _ _ _ _ _ q=>gt_int q
theorem xl:aZ X (KC .GtE) (dH λi j=>.bl (decide (j<=i))):=qp λ_ _ _ _ _ _ _ q=>ge_int q
theorem tF:aZ X (KC .Is) (λx y H Q=>y= .non/\Q (.bl (decide (x= .non))) H):=by
 intro LL s σ H x y v u Q I rx ry h;obtain⟨rfl,q⟩:=h;cases ry;refine is_none_gen (lg I q ?_);cases x <;> first
  | (cases rx;rfl)
  | (obtain⟨t,rfl⟩:=rx;rfl)
theorem bo(b:Kk){op:CmpOp}(h:op≠ .In:=by decide)(h2:op≠ .NotIn:=by decide):KL op b=false:=by
 have e1:(op==CmpOp.In)=false:=by cases op <;> first | rfl | exact absurd rfl h
 have e2:(op==JO)=false:=by cases op <;> first | rfl | exact absurd rfl h2
 cases b <;> simp [KL,e1,e2]
theorem xn{op:CmpOp}{r:R2}(ho:aZ X (KC op) r)(ha:PE X a ta)(hb:PE X b tb)(hm:KL op b=false):PE X (.Compare a [op] [b] pos) (l6 r ta tb):=by
 intro LL s σ H Q I h;exact wpAny_Compare1 (qo ha hb I h λv u s2 x y H2 I2 rx ry q=>ho LL s2 σ H2 x y v u Q I2 rx ry q) hm
def qq(t:TE):TT:=λσ H Q=>t σ H λx H'=>∃k,x= .bl k/\Q k H'
theorem xo{op:CmpOp}{r:R2}(ho:aZ X (KC op) r)(ha:PE X a ta)(hb:PE X b tb)(hm:KL op b=false):PT X (.Compare a [op] [b] pos) (qq (l6 r ta tb)):=by
 intro LL s σ H Q I h;refine wpAny_isTrue_Compare1 (ao (ha LL s σ H _ I h) λv s1 ⟨x,H1,I1,r1,q1⟩=>ao (hb LL s1 σ H1 _ I1 q1) λu s2 ⟨y,H2,I2,r2,q2⟩=>
  ao (ho LL s2 σ H2 x y v u _ I2 r1 r2 q2) λc s3 ⟨z,H3,I3,r3,k,e,q3⟩=>?_) hm
 subst e;cases r3;exact KW ⟨H3,I3,q3⟩
theorem oF:(Kl:Nat) < 2 ^ 63:=by rw [Kv];decide
theorem nL:aZ X (K0 .Add) (λx y H Q=>∃i j,x= .str i/\y= .str j/\i.length+j.length<=Kl/\Q (.str (i++j)) H):=by
 intro LL s σ H x y v u Q I rx ry h;obtain⟨i,j,rfl,rfl,hz,q⟩:=h;obtain⟨t,rfl⟩:=rx;obtain⟨t',rfl⟩:=ry;exact add_str (λt' tk=>⟨.str (i++j),H,I.tok _,⟨_,rfl⟩,q⟩) hz
theorem fU{x:V}{us:List Kc}(r:aq [x] us):∃u,us=[u]/\aD x u:=by
 cases r with
 | cons r1 r2=>cases r2;exact⟨_,rfl,r1⟩
theorem oG{x y:V}{us:List Kc}(r:aq [x,y] us):∃u w',us=[u,w']/\aD x u/\aD y w':=by
 cases r with
 | cons r1 r2=>
  cases r2 with
  | cons r3 r4=>cases r4;exact⟨_,_,rfl,r1,r3⟩
theorem xp:b7 X (.builtin "abs") (λxs H Q=>∃i,xs=[.int i]/\Q (.int (if i < 0 then -i else i)) H):=by
 intro LL s σ H xs us Q I r h;obtain⟨i,rfl,q⟩:=h;obtain⟨u,rfl,t,rfl⟩:=fU r;exact call_abs_int λu tk=>⟨.int (if i < 0 then -i else i),H,I.tok _,⟨_,rfl⟩,q⟩
theorem xq(hc:X.calm=true):b7 X (.builtin "max") (λxs H Q=>∃i j,xs=[.int i,.int j]/\Q (.int (if j > i then j else i)) H):=by
 intro LL s σ H xs us Q I r h;obtain⟨i,j,rfl,q⟩:=h;obtain⟨u,w',rfl,⟨t,rfl⟩,⟨t',rfl⟩⟩:=oG r;refine max_two_ints (I.ok.hd hc) λh' tk k=>⟨_,H,I.kept k,?_,q⟩;by_cases hj:j > i
 ·rw [J6 hj,J6 hj];exact⟨_,rfl⟩
 ·rw [J5 hj,J5 hj];exact⟨_,rfl⟩
theorem qr:b7 X (.type "int") (λxs H Q=>(∃i,xs=[.int i]/\Q (.int i) H)\/∃k,xs=[.bl k]/\Q (.int (if k then 1 else 0)) H):=by
 intro LL s σ H xs us Q I r h;rcases h with⟨i,rfl,q⟩ | ⟨k,rfl,q⟩
 ·obtain⟨u,rfl,t,rfl⟩:=fU r;exact call_int_int ⟨.int i,H,I,⟨_,rfl⟩,q⟩
 ·obtain⟨u,rfl,r1⟩:=fU r;cases r1;exact call_int_bool ⟨.int (if k then 1 else 0),H,I.tok _,⟨_,rfl⟩,q⟩
end
structure aH (k:Nat) (A:Kr):Prop where
 hd:A.handled=none
 dp:A.depth+3*k+5 < recursionLimit
 un:A.units+16*k+200 < cLine
theorem aH.mono{j k:Nat}{A:Kr}(r:aH k A)(h:j<=k):aH j A:=⟨r.hd,by have:=r.dp;omega,by have:=r.un;omega⟩
theorem aH.deeper{k:Nat}{A:Kr}(r:aH (k+1) A)(env:Env):aH k (A.deeper env):=
 ⟨r.hd,by have:=r.dp;show A.depth+1+3*k+5 < _;omega,by have:=r.un;show A.units+3+16*k+200 < _;omega⟩
theorem aH.in1{k:Nat}{A:Kr}(r:aH (k+1) A):aH k A.in1:=
 ⟨r.hd,by have:=r.dp;show A.depth+3*k+5 < _;omega,by have:=r.un;show A.units+1+16*k+200 < _;omega⟩
theorem aH.depth{k:Nat}{A:Kr}(r:aH k A):A.depth < recursionLimit:=by have:=r.dp;omega
theorem aH.units{k:Nat}{A:Kr}(r:aH k A):A.units+64 < cLine:=by have:=r.un;omega
theorem aH.units0{k:Nat}{A:Kr}(r:aH k A):A.units < cLine:=by have:=r.un;omega
def qt:TA:=λ_ H Q=>Q [] H
def qu(ta:TE)(tr:TA):TA:=λσ H Q=>ta σ H λx H1=>tr σ H1 λxs H2=>Q (x::xs) H2
section
variable {X:Cx} {e:Kk} {es:List Kk} {te:TE} {t:TA} {pos:Pos}
theorem fV:PA X [] qt:=λ_ _ _ _ H Q I h=>Jc ⟨[],H,I,.nil,h⟩
theorem bG(ha:PE X e te)(hr:PA X es t)(hs:Kj (e::es) X.env=(false,eval e X.env)::Kj es X.env:=by rfl):PA X (e::es) (qu te t):=by
 intro pos LL s σ H Q I h;rw [hs];show Kh _ _ (spliced ((false,eval e X.env)::KA pos (Kj es X.env))) _ _ s;refine IM (ao (ha LL s σ H _ I h) λu s1 ⟨x,H1,I1,r1,q1⟩=>?_);exact ao (hr pos LL s1 σ H1 _ I1 q1) λus s2 uu31=>by obtain⟨xs,H2,I2,r2,q2⟩:=uu31;exact⟨x::xs,H2,I2,.cons r1 r2,q2⟩
def qv(t:TA):TE:=λσ H Q=>t σ H λxs H1=>xs.length<=Kl/\∀p,H1 p=none->Q (.ref p) (ai H1 p (.tup xs))
def qw(t:TA):TE:=λσ H Q=>t σ H λxs H1=>xs.length<=Kl/\∀p,H1 p=none->Q (.ref p) (ai H1 p (.lst xs))
theorem tG{x1}(h:PA X es t):PE X (.Tuple es x1 pos) (qv t):=by
 intro LL s σ H Q I hq;refine wpAny_Tuple_spliced (ao (h pos LL s σ H _ I hq) λus s1 ⟨xs,H1,I1,r,z,q⟩=>⟨by rw [<-r.length];exact z,?_⟩);have hf:H1 s1.heap.objs.size=none:=I1.hok.fresh (DU _);refine⟨.ref s1.heap.objs.size,ai H1 s1.heap.objs.size (.tup xs),I1.laid (t':=s1.toks) (λb u e=>DN _ e) (DU _) ?_,rfl,q _ hf⟩;exact⟨z,us,r,⟨_,D5 _ rfl,rfl,_,rfl⟩⟩
theorem xt(h:PA X es t):PE X (.List es pos) (qw t):=by
 intro LL s σ H Q I hq;refine wpAny_List_spliced (ao (h pos LL s σ H _ I hq) λus s1 ⟨xs,H1,I1,r,z,q⟩=>⟨by rw [<-r.length];exact z,?_⟩);have hf:H1 s1.heap.objs.size=none:=I1.hok.fresh (DU _);refine⟨.ref s1.heap.objs.size,ai H1 s1.heap.objs.size (.lst xs),I1.laid (t':=s1.toks) (λb u e=>DN _ e) (DU _) ?_,rfl,q _ hf⟩;exact⟨z,us,0,r,D5 _ rfl⟩
end
abbrev Sp:=List V->Hp->VK->XK->Prop
abbrev cn:=List Env->Hp->Kf->XK->Kc->Kf->Prop
structure lI (P:Kp) (w:Kq) (K:DL) (mg:Str->Option Kc) (base:Km) (A:Kr) (outer:List Env) (s:Kf) (H:Hp):Prop where
 frames:A.frames=some outer
 mod:Mod K mg base
 bs:∀b o,base.get? b=some o->s.heap.get? b=some o/\H b=none
 bsz:base.objs.size<=s.heap.objs.size
 funs:s.heap.FunFrames base outer
 frf:∀b∈az outer,H b=none
 hok:aU P w H s.heap
 bare:Lf s.gens
def CE(outer:List Env)(P:Kp)(w:Kq)(H:Hp)(s:Kf)(Q:VK)(u:Kc)(s':Kf):Prop:=
 ∃v H',s'.os=s.os/\Lf s'.gens/\Un (az outer) [] H H' s.heap s'.heap/\aU P w H' s'.heap/\aD v u/\Q v H'
def CR(CX:cn)(outer:List Env)(P:Kp)(w:Kq)(H:Hp)(s:Kf)(Q:VK)(E:XK)(r:Result)(s':Kf):Prop:=
 match r with
 | .ok (.ret u)=>CE outer P w H s Q u s'
 | .ok _=>False
 | .error e=>CX outer H s E e s'
structure ay (P:Kp) (w:Kq) (K:DL) (mg:Str->Option Kc) (base:Km) (CX:cn) (k:Nat) (f:Ke) (fd:Ko) (ps:List Str) (sp:Sp):Prop where
 len:∀vs H Q E,sp vs H Q E->vs.length=ps.length
 run:∀(A:Kr)(outer:List Env)(s:Kf)(H:Hp)(args:Args)(us:List Kc)(vs:List V)(Q:VK)(E:XK),aH k A->lI P w K mg base A outer s H->BindsTo s fd args (ps.zip us)->aq vs us->sp vs H Q E->
  K3 (Ki P w) A (.call (.ref f) args) (CR CX outer P w H s Q E) s
theorem ay.imp{P:Kp}{w:Kq}{K:DL}{mg:Str->Option Kc}{base:Km}{CX:cn}{k:Nat}{f:Ke}{fd:Ko}{ps:List Str}{sp sp':Sp}(F:ay P w K mg base CX k f fd ps sp)
 (h:∀vs H Q E,sp' vs H Q E->sp vs H Q E):ay P w K mg base CX k f fd ps sp':=
 ⟨λvs H Q E q=>F.len vs H Q E (h _ _ _ _ q),λA outer s H args us vs Q E hr he hb hv hs=>F.run A outer s H args us vs Q E hr he hb hv (h _ _ _ _ hs)⟩
theorem lI.in1{P:Kp}{w:Kq}{K:DL}{mg:Str->Option Kc}{base:Km}{A:Kr}{outer:List Env}{s:Kf}{H:Hp}(e:lI P w K mg base A outer s H):
 lI P w K mg base A.in1 outer s H:=⟨e.frames,e.mod,e.bs,e.bsz,e.funs,e.frf,e.hok,e.bare⟩
section
variable {X:Cx} {LL:List (Ke×Obj)} {σ:St} {H:Hp} {s s':Kf}
theorem aa.env0(I:aa X LL σ H s):lI X.prog X.w X.K X.mg X.base X.A X.stack s H:=
 ⟨I.ok.frames,I.ok.mod,I.bs,EV I.ok.bsz I.sz,I.stack,I.stkFree,I.hok,I.bare⟩
theorem aa.after{Q:VK}{u:Kc}(I:aa X LL σ H s)(h:CE X.stack X.prog X.w H s Q u s'):EP X LL σ Q u s':=by
 obtain⟨v,H',os,bare,un,hok,r,q⟩:=h;obtain⟨hh,g,d,t,os'⟩:=s';obtain rfl:os'=s.os:=os;exact⟨v,H',I.call (h':=hh) (g':=g) (d':=d) (t':=t) (ch:=[]) un hok bare (λb z=>absurd z Ka),r,q⟩
end
def nM(sp:Sp)(dvs:List V)(E:XK)(t:TA):TE:=λσ H Q=>t σ H λvs H1=>sp (vs++dvs) H1 Q E
def cq(K:DL)(fd:Ko)(ps:List Str)(ds:List Kc):Prop:=
 ∀(s:Kf)(us:List Kc),K.In s.heap->(us++ds).length=ps.length->BindsTo s fd ⟨us,[]⟩ (ps.zip (us++ds))
theorem cq.all{K:DL}{fd:Ko}{ps:List Str}(h:∀us:List Kc,us.length=ps.length->bindArgs fd ⟨us,[]⟩=pure (ps.zip us)):cq K fd ps []:=λs us _ hl=>by
 rw [Er] at hl⊢;exact .of_eq (h us hl)
def nN(CX:cn)(X:Cx)(E:XK):Prop:=∀(LL:List (Ke×Obj))(σ:St)(H:Hp)(s:Kf)(e:Kc)(s':Kf),aa X LL σ H s->CX X.stack H s E e s'->X.xe e s'
section
variable {X:Cx} {CX:cn} {k:Nat} {f C:Ke} {fd:Ko} {ps:List Str} {sp:Sp} {dvs:List V} {ds:List Kc} {E:XK} {x m:Str} {p pos apos:Pos} {e o:Kk} {es:List Kk} {ta:TE} {t:TA}
theorem xu{LL:List (Ke×Obj)}{σ:St}{H:Hp}{s:Kf}{Q:VK}{us:List Kc}{vs:List V}(F:ay X.prog X.w X.K X.mg X.base CX k f fd ps sp)(hr:aH k X.A)(hb:cq X.K fd ps ds)(hd:aq dvs ds)(hx:nN CX X E)
 (I:aa X LL σ H s)(r:aq vs us)(h:sp (vs++dvs) H Q E):Kh (Ki X.prog X.w) X.A (call (.ref f) us) (EP X LL σ Q) X.xe s:=by
 have r2:aq (vs++dvs) (us++ds):=r.append hd;have hl:(us++ds).length=ps.length:=by rw [<-r2.length];exact F.len _ _ _ _ h
 refine wpAny_call (KR (F.run X.A X.stack s H ⟨us,[]⟩ (us++ds) (vs++dvs) Q E hr I.env0 (hb s us I.kIn hl) r2 h) λr s' hq=>?_);cases r with
 | error e=>exact hx LL σ H s e s' I hq
 | ok fl=>
  cases fl with
  | ret u=>exact I.after hq
  | next=>exact E7 hq
  | brk=>exact E7 hq
  | cont=>exact E7 hq
theorem qx(F:ay X.prog X.w X.K X.mg X.base CX k f fd ps sp)(hr:aH k X.A)(hg:Gl X x)(hm:X.mg x=some (.ref f))(hk:GG X.K (.ref f)=true)(hb:cq X.K fd ps ds)(hd:aq dvs ds)(hx:nN CX X E)
 (ha:PA X (e::es) t)(hdb:(x==("__debug__":Str))=false:=by decide)(he:Kj (e::es) X.env=(false,eval e X.env)::Kj es X.env:=by rfl)(hpl:(KA pos (Kj es X.env)).any (·.1)=false:=by rfl):
 PE X (.Call (.Name x p) (e::es) [] pos) (nM sp dvs E t):=by
 intro LL s σ H Q I h;refine KS (mH I hg hm ?_ hdb);refine IP (h₀:=X.base) I.ok.mod.kin hk (ao (ha pos LL s σ H _ I h) λus s1 ⟨vs,H1,I1,r,q⟩=>⟨I1.kIn,?_⟩) he hpl;exact xu F hr hb hd hx I1 r q
end
section
variable {X:Cx} {CX:cn} {k:Nat} {f C:Ke} {fd:Ko} {ps ks:List Str} {sp:Sp} {E:XK} {x m:Str} {p pos apos kpos:Pos} {e o:Kk} {es:List Kk} {kws:List Ln} {te ta:TE} {t tk:TA} {nm:Option Str}
variable {g:List Kc->List Kc->List Kc} {gV:List V->List V->List V}
end
structure bb (N P:List Str) (sc:Kz):Prop where
 kind:sc.kind= .function
 co:sc.isCoroutine=false
 gen:sc.isGenerator=false
 nd:N.Nodup
 pre:N.take P.length=P
 par:∀x∈P,sc.names.lookup x=some .local\/sc.names.lookup x=some .cell
 nofree:∀y∈sc.names,y.2≠ .free
theorem tH{kindOf:Str->Option KI}{x:Str}:∀{binds:List (Str×Kc)}{m:Str->Option Kc},(∀v,(x,v)∉ binds)->bindL kindOf binds m x=m x
 | [],_,_=>rfl
 | (n,v)::r,m,h=>by
  unfold bindL;rw [tH λw hw=>h w (Ep _ hw)];split
  ·have:x≠n:=by rintro rfl;exact h v Ft
   simp [this]
  ·rfl
theorem tI{kindOf:Str->Option KI}{x:Str}:∀{binds:List (Str×Kc)}{m:Str->Option Kc},(∀v,(x,v)∉ binds)->bindC kindOf binds m x=m x
 | [],_,_=>rfl
 | (n,v)::r,m,h=>by
  unfold bindC;rw [tI λw hw=>h w (Ep _ hw)];split
  ·rfl
  ·have:x≠n:=by rintro rfl;exact h v Ft
   simp [this]
theorem tJ{kindOf:Str->Option KI}{x:Str}{v:Kc}:∀{P:List Str}{vs:List Kc}{i:Nat}{m:Str->Option Kc},P.Nodup->P[i]?=some x->vs[i]?=some v->kindOf x=some .local->
 bindL kindOf (P.zip vs) m x=some v
 | [],_,_,_,_,h,_,_=>by simp at h
 | _::_,[],_,_,_,_,h,_=>by simp at h
 | p::P,w::vs,0,m,nd,h1,h2,hk=>by
  simp at h1 h2;subst h1;subst h2;show bindL kindOf ((p,w)::P.zip vs) m p=_;unfold bindL;rw [tH λv hv=>(Gu.mp nd).1 (Im hv).1,J6 hk];simp
 | p::P,w::vs,i+1,m,nd,h1,h2,hk=>by
  show bindL kindOf ((p,w)::P.zip vs) m x=_;unfold bindL;exact tJ (i:=i) (Gu.mp nd).2 (by simpa using h1) (by simpa using h2) hk
theorem tK{kindOf:Str->Option KI}{x:Str}{v:Kc}:∀{P:List Str}{vs:List Kc}{i:Nat}{m:Str->Option Kc},P.Nodup->P[i]?=some x->vs[i]?=some v->kindOf x≠some .local->
 bindC kindOf (P.zip vs) m x=some v
 | [],_,_,_,_,h,_,_=>by simp at h
 | _::_,[],_,_,_,_,h,_=>by simp at h
 | p::P,w::vs,0,m,nd,h1,h2,hk=>by
  simp at h1 h2;subst h1;subst h2;show bindC kindOf ((p,w)::P.zip vs) m p=_;unfold bindC;rw [tI λv hv=>(Gu.mp nd).1 (Im hv).1,J5 hk];simp
 | p::P,w::vs,i+1,m,nd,h1,h2,hk=>by
  show bindC kindOf ((p,w)::P.zip vs) m x=_;unfold bindC;exact tK (i:=i) (Gu.mp nd).2 (by simpa using h1) (by simpa using h2) hk
def start(N:List Str)(vs:List V):St:=vs.map some++D6 (N.length - vs.length) none
def aN(CX:cn)(P:Kp)(w:Kq)(K:DL)(mg:Str->Option Kc)(base:Km)(N:List Str)(qual:Str)(scope:Kz)(f:Ke)(cd:Kc)(A:Kr)(outer:List Env)(s:Kf)(H:Hp)(E:XK):Cx where
 prog:=P
 w:=w
 K:=K
 mg:=mg
 base:=base
 A:=A.deeper (K5 qual scope s.heap.objs.size f cd)
 N:=N
 s₀:=s
 H₀:=H
 env:=K5 qual scope s.heap.objs.size f cd
 outer:=outer
 stack:=K5 qual scope s.heap.objs.size f cd::outer
 ex:=[]
 calm:=true
 fn:=λ_=>true
 pn:=[]
 xe:=λe s'=>Kh (Ki P w) (A.deeper (K5 qual scope s.heap.objs.size f cd)) (leaving (K5 qual scope s.heap.objs.size f cd) e) (λ_ s''=>CX outer H s E e s'') (λe' s''=>CX outer H s E e' s'') s'
theorem tL{sc:Kz}{n:Nat}{x:Str}(h:sc.names.lookup x=some .cell):∃c,(KD n sc.names []).lookup x=some c:=by
 have q:=Hr sc.names n [] (.inl h);exact F8.mp q
theorem xv{CX:cn}{P:Kp}{w:Kq}{K:DL}{mg:Str->Option Kc}{base:Km}{N ps:List Str}{qual:Str}{scope:Kz}{f:Ke}{cd:Kc}{A:Kr}{outer:List Env}{s s1:Kf}{H:Hp}{E:XK}{us:List Kc}{vs:List V}
 (S:bb N ps scope)(hd:A.handled=none)(e0:lI P w K mg base A outer s H)(hl:vs.length=ps.length)(r:aq vs us)
 (x:InCallC s s.heap.objs.size (bindL (K5 qual scope s.heap.objs.size f cd).kindOf (ps.zip us) λ_=>none) (KD (s.heap.objs.size+1) scope.names []) (bindC (K5 qual scope s.heap.objs.size f cd).kindOf (ps.zip us) λ_=>none) s1):
 aa (aN CX P w K mg base N qual scope f cd A outer s H E) [] (start N vs) H s1:=by
 have hpl:ps.length<=N.length:=by have:=congrArg Io S.pre;rw [F4] at this;omega
 obtain⟨h1,tk,rfl,hk⟩:=x.done;have noA:∀b:Ke,b ∉ (aN CX P w K mg base N qual scope f cd A outer s H E).ex:=λb z=>absurd (show b∈([]:List Ke) from z) Ka;refine⟨⟨e0.mod,S.kind,rfl,rfl,DU _,λy z c h1 h2=>?_,λy hy=>?_,λy c _ h=>?_,λ_=>hd,Iz e0.frames,.inr ⟨rfl,rfl⟩,λb z=>absurd z (noA b),e0.bs,e0.bsz,λb _ _=>noA b,λb z=>absurd z (noA b),e0.funs,e0.frf⟩,
  rfl,e0.bare,Un.kept hk,⟨_,x.toInCall.ns,λi y v h1 h2 h3=>?_⟩,λy c h=>⟨_,x.cell y c h⟩,e0.hok.fresh (DU _),λy c h=>?_,λp hp=>absurd (show p∈([]:List (Ke×Obj)) from hp) Ka,e0.hok.kept hk,?_⟩
 ·exact name_of_addr x.apart (E8 h1) (E8 h2)
 ·have hy:scope.names.lookup y=some .cell\/scope.names.lookup y=some .free:=hy;rcases hy with hy | hy
  ·exact tL hy
  ·exact absurd rfl (S.nofree _ (E8 hy))
 ·exact GX (x.above y c (E8 h))
 ·have hi:i < vs.length:=by
   unfold start at h2;by_cases hi:i < vs.length
   ·exact hi
   ·rw [Gx (by simpa using hi)] at h2;rw [GP] at h2;split at h2 <;> cases h2
  have ha:vs[i]?=some v:=by
   unfold start at h2;rw [F7 (by simpa using hi),D7] at h2;cases e:vs[i]? with
   | none=>rw [e] at h2;cases h2
   | some a=>rw [e] at h2;cases h2;rfl
  obtain⟨u,hu,rv⟩:=r.get ha;have hp:ps[i]?=some y:=by
   rw [<-S.pre,List.getElem?_take_of_lt J4];exact h1
  have ndP:ps.Nodup:=by rw [<-S.pre];exact S.nd.sublist (HR _ _)
  refine⟨u,rv,?_⟩;rcases S.par y (Ef hp) with k | k
  ·exact .inl ⟨k,tJ ndP hp hu k⟩
  ·obtain⟨c,e⟩:=tL (n:=s.heap.objs.size+1) k;refine .inr ⟨.inl k,c,e,?_⟩;have q:=x.cell y c e;rw [tK ndP hp hu (by show scope.names.lookup y≠_;rw [k];decide)] at q;exact q
 ·exact e0.hok.fresh (GX (x.above y c (E8 h)))
 ·unfold start;show _=N.length;rw [F6,DP,Gv];omega
theorem qy{CX:cn}{P:Kp}{w:Kq}{K:DL}{mg:Str->Option Kc}{base:Km}{k:Nat}{f:Ke}{name qual:Str}{params:Ly}{body:List Ks}{scope:Kz}{dV kV doc pm cdv ct oc:Kc}{an od:Option Ke}
 {osl:Array (Option Kc)}{N ps:List Str}{sp:Sp}(lk:K.lookup f=some ⟨oc,od,.func (Gp name qual params body scope dV kV doc pm an cdv ct),osl⟩)(hcd:HF K cdv qual=true)(S:bb N ps scope)
 (len:∀vs H Q E,sp vs H Q E->vs.length=ps.length)
 (hbody:∀(A:Kr) (outer:List Env) (s:Kf) (H:Hp) (vs:List V) (Q:VK) (E:XK),aH k (A.deeper (K5 qual scope s.heap.objs.size f cdv))->sp vs H Q E->
   ∃t,bg (aN CX P w K mg base N qual scope f cdv A outer s H E) body t/\t {nx:=λ_ H'=>Q .non H',rt:=Q} (start N vs) H):
 ay P w K mg base CX (k+1) f (Gp name qual params body scope dV kV doc pm an cdv ct) ps sp:=by
 refine⟨len,λA outer s H args us vs Q E hr e0 hb r hsp=>?_⟩;have hl:=len _ _ _ _ hsp;have KX:K.In s.heap:=e0.mod.kin.keeps λb o e=>(e0.bs b o e).1;have lim:s.heap.NoLimit:=e0.mod.nolimit.keeps λb o e=>(e0.bs b o e).1;have hkind:∀y∈ps.zip us,scope.names.lookup y.1=some .local\/(scope.names.lookup y.1=some .cell/\((KD (s.heap.objs.size+1) scope.names []).lookup y.1).isSome=true):=λuu35 hy=>by
  obtain⟨n,v⟩:=uu35;rcases S.par n (Im hy).1 with q | q
  ·exact .inl q
  ·exact .inr ⟨q,Hr _ _ _ (.inl q)⟩
 refine codeAny_call_function hr.depth (KX _ _ lk) rfl S.co S.gen rfl (PySem.W.codeRec_of KX hcd) (hb _ _ _ _ ?_);refine wpAny_newFunctionEnv_cells S.kind hkind λenv he s1 x=>?_;subst he;refine⟨lim.keeps x.toInCall.keep,codeAny_func ?_⟩;obtain⟨t,ht,hq⟩:=hbody A outer s H vs Q E (hr.deeper _) hsp;have I:aa (aN CX P w K mg base N qual scope f cdv A outer s H E) [] (start N vs) H s1:=xv S hr.hd e0 hl r x;refine Ky (ht [] s1 (start N vs) H _ I hq) (λfl s' hs=>?_) λe s' hs=>hs;have fin:∀{σ':St}{H':Hp}{v:V}{u:Kc},aa (aN CX P w K mg base N qual scope f cdv A outer s H E) [] σ' H' s'->aD v u->Q v H'->CE outer P w H s Q u s':=
  λ{σ' H' v u} J rv q=>⟨v,H',J.os,J.bare,J.base,J.hok,rv,q⟩
 cases fl with
 | ret u=>
  obtain⟨v,σ',H',J,rv,q⟩:=hs;exact fin J rv q
 | next=>
  obtain⟨σ',H',J,q⟩:=hs;exact fin (v:=V.non) (u:=Gm) J rfl q
 | brk=>
  obtain⟨_,_,_,q⟩:=hs;exact E7 q
 | cont=>
  obtain⟨_,_,_,q⟩:=hs;exact E7 q
section
variable {X:Cx} {x:Str} {p pos:Pos} {e:Kk} {es:List Kk} {t:TA} {id T:String} {r:List V->Hp->VK->Prop}
def nO(r:List V->Hp->VK->Prop)(t:TA):TE:=λσ H Q=>t σ H λvs H1=>r vs H1 Q
theorem cu(hc:b7 X (.builtin id) r)(hg:Gl X x)(hm:X.mg x=none)(hv:Kw x=some (.builtin id))(ha:PA X (e::es) t)(hn:x≠"__name__":=by decide)(hdb:(x==("__debug__":Str))=false:=by decide)
 (he:Kj (e::es) X.env=(false,eval e X.env)::Kj es X.env:=by rfl)(hpl:(KA pos (Kj es X.env)).any (·.1)=false:=by rfl):PE X (.Call (.Name x p) (e::es) [] pos) (nO r t):=by
 intro LL s σ H Q I h;refine KS (mI I hg hm hv ?_ hn hdb);exact PyProof.Rows.callWith_builtin1 (ao (ha pos LL s σ H _ I h) λus s1 uu36=>by obtain⟨vs,H1,I1,r1,q1⟩:=uu36;exact hc LL s1 σ H1 vs us Q I1 r1 q1) he hpl
theorem dJ(hc:b7 X (.type T) r)(hg:Gl X x)(hm:X.mg x=none)(hv:Kw x=some (.type T))(ha:PA X (e::es) t)(hn:x≠"__name__":=by decide)(hdb:(x==("__debug__":Str))=false:=by decide)
 (he:Kj (e::es) X.env=(false,eval e X.env)::Kj es X.env:=by rfl)(hpl:(KA pos (Kj es X.env)).any (·.1)=false:=by rfl):PE X (.Call (.Name x p) (e::es) [] pos) (nO r t):=by
 intro LL s σ H Q I h;refine KS (mI I hg hm hv ?_ hn hdb);exact G3 (ao (ha pos LL s σ H _ I h) λus s1 uu37=>by obtain⟨vs,H1,I1,r1,q1⟩:=uu37;exact hc LL s1 σ H1 vs us Q I1 r1 q1) he hpl
end
end L2
namespace HT
open PySem PyProof.Rows
def lexLt:List Int->List Int->Bool
 | [],[]=>false
 | [],_::_=>true
 | _::_,[]=>false
 | x::xs,y::ys=>if x=y then lexLt xs ys else decide (x < y)
theorem eqAt_int(A:Kr)(s:Kf)(a:Int)(t:Tok)(c:Int)(u:Tok):∃e,SeqAt.EqAt A s (.int a t) (.int c u) e/\(e=true↔a=c):=
 ⟨(a==c),SeqAt.EqAt.int_int a t c u,Ka⟩
theorem rcLt_int(A:Kr)(s:Kf)(a:Int)(t:Tok)(c:Int)(u:Tok)(prog:Kp)(w:Kq)(E:Kc->Kf->Prop)(Q:Kc->Kf->Prop)(h:Q (.bool (decide (a < c))) s):
 Kh (Ki prog w) A (richCompare .Lt (.int a t) (.int c u)) Q E s:=
 (PyProof.Rows.lt_int h:Kh (Ki prog w) A (KC .Lt (.int a t) (.int c u)) Q E s)
section
open PySem.SeqAt
open PySem.AutoSeq1 (wpAny_loadPart')
open PySem.MeetsSeq PySem.MeetsSeq2 PySem.MeetsSeq3
end
section
variable {prog:Kp} {w:Kq} {A:Kr} {E:Kc->Kf->Prop} {s:Kf}
def sIx(n d:Nat):Option Int->Nat
 | none=>d
 | some v=>if v < 0 then(v+(n:Int)).toNat else min v.toNat n
theorem oH(n d:Nat):sIx n d none=d:=rfl
theorem sIx_nat(n d k:Nat):sIx n d (some (k:Int))=min k n:=by
 show(if (k:Int) < 0 then((k:Int)+(n:Int)).toNat else min (k:Int).toNat n)=min k n;rw [J5 J4,FW]
end
end HT
namespace L2
open PySem PySem.Spec PyProof.Rows
abbrev TO:=St->Hp->(Option Int->Hp->Prop)->Prop
def PO(X:Cx)(e:Option Kk)(t:TO):Prop:=
 ∀(LL:List (Ke×Obj))(s:Kf)(σ:St)(H:Hp)(Q:Option Int->Hp->Prop),aa X LL σ H s->t σ H Q->
  Kh (Ki X.prog X.w) X.A (evalPart e X.env) (λu s'=>∃o H',aa X LL σ H' s'/\IsPart u o/\Q o H') X.xe s
def xw:TO:=λ_ H Q=>Q none H
def xx(t:TE):TO:=λσ H Q=>t σ H λx H1=>∃i,x= .int i/\Q (some i) H1
section
variable {X:Cx} {e:Kk} {te:TE} {lo hi:Option Kk} {tl th:TO} {pos p2:Pos}
theorem xy:PO X none xw:=by
 intro LL s σ H Q I h;rw [evalPart_none];exact Kg ⟨none,H,I,.none,h⟩
theorem xA(h:PE X e te):PO X (some e) (xx te):=by
 intro LL s σ H Q I hw;rw [evalPart_some];refine ao (h LL s σ H _ I hw) λu s1 ⟨x,H1,I1,r1,q1⟩=>?_;obtain⟨i,rfl,q⟩:=q1;obtain⟨t,rfl⟩:=r1;exact⟨some i,H1,I1,.int i t,q⟩
def tM(X:Cx)(r:V->Option Int->Option Int->Hp->VK->Prop):Prop:=
 ∀(LL:List (Ke×Obj))(s:Kf)(σ:St)(H:Hp)(x:V)(v vl vu:Kc)(lo hi:Option Int)(sl:Ke)(Q:VK),aa X LL σ H s->aD x v->s.heap.IsSliceOf sl vl vu .none->IsPart vl lo->IsPart vu hi->r x lo hi H Q->
  ∃T id,typeLookup (.type T) "__getitem__"=pure (some (.builtin id))/\s.TypeIs v T/\Kh (Ki X.prog X.w) X.A (getItem v (.ref sl)) (EP X LL σ Q) X.xe s
def xB(r:V->Option Int->Option Int->Hp->VK->Prop)(te:TE)(tl th:TO):TE:=λσ H Q=>te σ H λx H1=>tl σ H1 λl H2=>th σ H2 λu H3=>r x l u H3 Q
theorem tN{r:V->Option Int->Option Int->Hp->VK->Prop}(hr:tM X r)(he:PE X e te)(hl:PO X lo tl)(hu:PO X hi th):PE X (.Subscript e (.Slice lo hi none p2) pos) (xB r te tl th):=by
 intro LL s σ H Q I h;refine Subscript_ (ao (he LL s σ H _ I h) λv s1 ⟨x,H1,I1,r1,q1⟩=>?_);refine wpAny_Slice (ao (hl LL s1 σ H1 _ I1 q1) λvl s2 ⟨l,H2,I2,pl,q2⟩=>ao (hu LL s2 σ H2 _ I2 q2) λvu s3 ⟨u,H3,I3,pu,q3⟩=>?_);rw [evalPart_none];refine Kg ?_;have I4:aa X LL σ H3 {s3 with heap:=s3.heap.push {cls:= .type "slice",data:= .fields #[vl,vu,.none]}}:=I3.kept (t':=s3.toks) λb ob q=>DN _ q;obtain⟨T,id,hT,ht,hg⟩:=hr LL {s3 with heap:=s3.heap.push {cls:= .type "slice",data:= .fields #[vl,vu,.none]}} σ H3 x v vl vu l u s3.heap.objs.size Q I4 r1 (IQ ..) pl pu q3;show Kh (Ki X.prog X.w) X.A (subscriptTail e (.Slice lo hi none p2) v (.ref s3.heap.objs.size)) (EP X LL σ Q) X.xe {s3 with heap:=s3.heap.push {cls:= .type "slice",data:= .fields #[vl,vu,.none]}};exact tail_any (ops:=[.ref s3.heap.objs.size,v]) ht hT hg (by with_unfolding_all rfl)
def mO(xs:List V)(lo hi:Option Int):List V:=(xs.drop (HT.sIx xs.length 0 lo)).take (HT.sIx xs.length xs.length hi - HT.sIx xs.length 0 lo)
theorem xC(xs:List V)(lo hi:Option Int):(mO xs lo hi).length<=xs.length:=by
 unfold mO;rw [F4,G5];omega
end
def l7(n:Nat)(i:Int):Option Nat:=if 0<=i then(if i < n then some i.toNat else none) else if -(n:Int)<=i then some (i+n).toNat else none
def atI{α:Type}(xs:List α)(i:Int):Option α:=(l7 xs.length i).bind λj=>xs[j]?
theorem xD{n:Nat}{i:Int}{j:Nat}(h:l7 n i=some j):seqIndex? i n=some j/\j < n/\-(n:Int)<=i/\i < n:=by
 unfold l7 at h;by_cases h0:0<=i
 ·rw [J6 h0] at h;by_cases h1:i < n
  ·rw [J6 h1] at h;have e:i.toNat=j:=ED h;exact⟨by rw [seqIndex_of h0 h1,e],J4,J4,h1⟩
  ·rw [J5 h1] at h;cases h
 ·rw [J5 h0] at h;by_cases h1:-(n:Int)<=i
  ·rw [J6 h1] at h;have e:(i+n).toNat=j:=ED h;exact⟨by rw [seqIndex_neg J4 h1,e],J4,h1,J4⟩
  ·rw [J5 h1] at h;cases h
theorem qz{α:Type}{xs:List α}{i:Int}{v:α}(h:atI xs i=some v):∃j,seqIndex? i xs.length=some j/\xs[j]?=some v/\j < xs.length/\-(xs.length:Int)<=i/\i < xs.length:=by
 unfold atI at h;cases e:l7 xs.length i with
 | none=>rw [e] at h;cases h
 | some j=>
  rw [e] at h;obtain⟨h1,h2,h3,h4⟩:=xD e;exact⟨j,h1,h,h2,h3,h4⟩
theorem fW{α:Type}{xs:List α}{j:Nat}{v:α}(h:xs[j]?=some v):atI xs (j:Int)=some v:=by
 have hj:j < xs.length:=(DZ.mp h).1;have e:l7 xs.length (j:Int)=some j:=by
  unfold l7;rw [J6 J4,J6 J4];simp
 unfold atI;rw [e];exact h
def xE(b:Kk):Prop:=∀o i,subscripted b false o i=operate [o,i] (getItem o i)
def mP(X:Cx)(r:R2):Prop:=
 ∀(value slice:Kk)(LL:List (Ke×Obj))(s:Kf)(σ:St)(H:Hp)(x y:V)(v u:Kc)(Q:VK),aa X LL σ H s->aD x v->aD y u->r x y H Q->
  subscripted slice false v u=operate [v,u] (getItem v u)->Kh (Ki X.prog X.w) X.A (subscriptTail value slice v u) (EP X LL σ Q) X.xe s
def xF(X:Cx)(id:String)(r:V->List V->Hp->VK->Prop):Prop:=
 ∀(LL:List (Ke×Obj))(s:Kf)(σ:St)(H:Hp)(x:V)(xs:List V)(v:Kc)(us:List Kc)(Q:VK),aa X LL σ H s->aD x v->aq xs us->r x xs H Q->
  Kh (Ki X.prog X.w) X.A (call (.builtin id) (v::us)) (EP X LL σ Q) X.xe s
section
variable {X:Cx} {a b:Kk} {ta tb:TE} {pos:Pos}
theorem xG{r:R2}(hr:mP X r)(ha:PE X a ta)(hb:PE X b tb)(hs:xE b):PE X (.Subscript a b pos) (l6 r ta tb):=by
 intro LL s σ H Q I h;exact Subscript_ (qo ha hb I h λv u s2 x y H2 I2 rx ry q=>hr a b LL s2 σ H2 x y v u Q I2 rx ry q (hs _ _))
def qA(K:DL):R2:=λx y H Q=>∃p xs i v,x= .ref p/\y= .int i/\aI K H p xs/\atI xs i=some v/\Q v H
def tO(K:DL):R2:=λx y H Q=>∃p xs i v,x= .ref p/\y= .int i/\aY K H p xs/\atI xs i=some v/\Q v H
def tP:R2:=λx y H Q=>∃z i c,x= .str z/\y= .int i/\z.length<=Kl/\atI z.cps.toList i=some c/\Q (.str ⟨#[c]⟩) H
theorem aL:mP X (qA X.K):=by
 intro value slice LL s σ H x y v u Q I rx ry h hs;obtain⟨p,xs,i,z,rfl,rfl,hq,he,q⟩:=h;cases rx;obtain⟨t,rfl⟩:=ry;obtain⟨its,r,pl,hz⟩:=I.list hq;obtain⟨j,h1,h2,h3,h4,h5⟩:=qz he;obtain⟨w,ew,rw'⟩:=r.get h2;have hl:=r.length;have hn:=oF;have fin:EP X LL σ Q w s:=⟨z,H,I,rw',q⟩;by_cases h0:0<=i
 ·have hj:i.toNat=j:=by
   rw [seqIndex_of h0 h5] at h1;exact ED h1
  exact item_listR pl.isList h0 J4 (by rw [hj];simpa using ew) fin hs
 ·have hj:(i+(its.toArray.size:Int)).toNat=j:=by
   rw [seqIndex_neg J4 h4] at h1;rw [Eb,<-hl];exact ED h1
  exact subscriptTail_builtinR (x:=w) pl.isList.typeIs slot_list_getitem.lookup
   (wpAny_getItem_list_neg (Q:=λr s'=>r=w/\EP X LL σ Q r s') pl.isList J4 (by rw [Eb] <;> omega) J4 (by rw [hj];simpa using ew) ⟨rfl,fin⟩) hs
theorem bB:mP X (tO X.K):=by
 intro value slice LL s σ H x y v u Q I rx ry h hs;obtain⟨p,xs,i,z,rfl,rfl,hq,he,q⟩:=h;cases rx;obtain⟨t,rfl⟩:=ry;obtain⟨its,r,pl,hz⟩:=I.tuple hq;obtain⟨j,h1,h2,h3,h4,h5⟩:=qz he;obtain⟨w,ew,rw'⟩:=r.get h2;have hl:=r.length;have hn:=oF;have fin:EP X LL σ Q w s:=⟨z,H,I,rw',q⟩;exact subscriptTail_builtinR (x:=w) pl.typeIs slot_tuple_getitem.lookup
  (getItem_tuple (j:=j) (Q:=λr s'=>r=w/\EP X LL σ Q r s') pl J4 J4 (by rw [Eb,<-hl];exact h1) (by simpa using ew) ⟨rfl,fin⟩) hs
theorem oI:mP X tP:=by
 intro value slice LL s σ H x y v u Q I rx ry h hs;obtain⟨z,i,c,rfl,rfl,hz,he,q⟩:=h;obtain⟨t,rfl⟩:=rx;obtain⟨t',rfl⟩:=ry;obtain⟨j,h1,h2,h3,h4,h5⟩:=qz he;have hl:z.cps.toList.length=z.length:=by simp [Str.length]
 rw [hl] at h1 h4 h5;have hn:=oF;exact tail_any (Lq s z t) slot_str_getitem.lookup (getItem_str (c:=c) (by
  have e1:decide (i < -(2 ^ 63:Int))=false:=decide_eq_false J4;have e2:decide (i >= 2 ^ 63)=false:=decide_eq_false J4;rw [e1,e2,Fm]) (by rw [h1];simpa using h2) ⟨.str ⟨#[c]⟩,H,I.tok _,⟨_,rfl⟩,q⟩) hs
theorem xH(lo hi:Option Int)(n:Nat):(K9 lo hi none n).1=((HT.sIx n 0 lo:Nat):Int)/\(K9 lo hi none n).2.1=((HT.sIx n n hi:Nat):Int)/\(K9 lo hi none n).2.2=1:=by
 refine⟨?_,?_,rfl⟩
 ·cases lo with
  | none=>simp [K9,HT.sIx]
  | some i=>
   simp only [K9,HT.sIx,Jk,show(1:Int) > 0 by decide,if_true];by_cases h:i < 0
   ·simp only [h,if_true] <;> omega
   ·simp only [h,if_false] <;> omega
 ·cases hi with
  | none=>simp [K9,HT.sIx]
  | some i=>
   simp only [K9,HT.sIx,Jk,show(1:Int) > 0 by decide,if_true];by_cases h:i < 0
   ·simp only [h,if_true] <;> omega
   ·simp only [h,if_false] <;> omega
theorem xI(its:List Kc)(lo hi:Option Int):slicePick its.toArray lo hi none=((its.drop (HT.sIx its.length 0 lo)).take (HT.sIx its.length its.length hi - HT.sIx its.length 0 lo)).toArray:=by
 obtain⟨h1,h2,h3⟩:=xH lo hi its.toArray.size;unfold slicePick;rw [h1,h2,h3];simp only [sliceRange_one,pick_run,Eb] <;> rfl
def xJ(K:DL):V->Option Int->Option Int->Hp->VK->Prop:=λx lo hi H Q=>∃a xs,x= .ref a/\aI K H a xs/\∀p,H p=none->Q (.ref p) (ai H p (.lst (mO xs lo hi)))
theorem tQ:tM X (xJ X.K):=by
 intro LL s σ H x v vl vu lo hi sl Q I rx hs pl pu h;obtain⟨a,xs,rfl,hx,q⟩:=h;cases rx;obtain⟨its,r,ht,hz⟩:=I.list hx;have hlen:=r.length;refine⟨"list",_,slot_list_getitem.lookup,ht.isList.typeIs,?_⟩;refine wpAny_getItem_list_slice ht.isList hs pl pu .none Ka ?_ (by rw [Eb] <;> omega);rw [xI,<-hlen];refine⟨.ref s.heap.objs.size,_,I.laid (t':=s.toks) (o:= .lst (mO xs lo hi)) (λb ob q=>DN _ q) (DU _) ?_,rfl,q _ (I.hok.fresh (DU _))⟩;exact⟨EV (xC xs lo hi) hz,_,0,(r.drop (HT.sIx xs.length 0 lo)).take (HT.sIx xs.length xs.length hi - HT.sIx xs.length 0 lo),D5 _ rfl⟩
theorem mQ:b7 X (.builtin "len") (λxs H Q=>∃p ys,xs=[.ref p]/\(aI X.K H p ys\/aY X.K H p ys)/\Q (.int ys.length) H):=by
 intro LL s σ H xs us Q I r h;obtain⟨p,ys,rfl,hq,q⟩:=h;obtain⟨u,rfl,rx⟩:=fU r;cases rx;have hn:=oF;rcases hq with hq | hq
 ·obtain⟨its,r',pl,hz⟩:=I.list hq;have hlen:=r'.length;exact Calls.call_len_list pl.isList (by simp only [Eb] <;> omega) ⟨.int ys.length,H,I.tok _,⟨s.toks+1,by rw [Eb,hlen]⟩,q⟩
 ·obtain⟨its,r',pl,hz⟩:=I.tuple hq;have hlen:=r'.length;exact len_tuple pl (by simp only [Eb] <;> omega) ⟨.int ys.length,H,I.tok _,⟨s.toks+1,by rw [Eb,hlen]⟩,q⟩
theorem ma:b7 X (.type "tuple") (λxs H Q=>∃p ys,xs=[.ref p]/\((aI X.K H p ys/\∀l,H l=none->Q (.ref l) (ai H l (.tup ys)))\/(aY X.K H p ys/\Q (.ref p) H))):=by
 intro LL s σ H xs us Q I r h;obtain⟨p,ys,rfl,h⟩:=h;obtain⟨u,rfl,rx⟩:=fU r;cases rx;rcases h with⟨hq,q⟩ | ⟨hq,q⟩
 ·obtain⟨its,r',pl,hz⟩:=I.list hq;have hlen:=r'.length;refine call_tuple_list pl.isList (λh' kp=>?_) (by simp only [Eb] <;> omega);have I1:aa X LL σ H {s with heap:=h'}:=I.kept (t':=s.toks) kp;have I2:aa X LL σ (ai H h'.objs.size (.tup ys)) {s with heap:=h'.push {cls:= .type "tuple",data:= .seq its.toArray}}:=
   I1.laid (t':=s.toks) (λb o e=>DN _ e) (DU _) (show bz X.prog X.w _ _ _ (.tup ys) from⟨hz,its,r',JZ _ _⟩)
  exact⟨.ref h'.objs.size,_,I2,rfl,q _ (I1.hok.fresh (DU _))⟩
 ·obtain⟨its,r',pl,hz⟩:=I.tuple hq;exact call_tuple_same pl ⟨.ref p,H,I,rfl,q⟩
def tR(K:DL)(T:String)(x:V)(H:Hp):Prop:=match x with
 | .str _=>T="str"
 | .int _=>T="int"
 | .ref p=>(T="list"/\∃xs,aI K H p xs)\/(T="tuple"/\∃o,K.lookup p=some o/\o.cls= .type "tuple"/\o.dict=none)\/
  (T="dict"/\((∃kvs,H p=some (.dK kvs))\/∃kvs,H p=some (.dT kvs)))\/(T="set"/\∃S n,H p=some (.set S n))
 | _=>False
theorem xK{LL:List (Ke×Obj)}{σ:St}{H:Hp}{s:Kf}{T:String}{x:V}{v:Kc}(I:aa X LL σ H s)(r:aD x v)(ty:tR X.K T x H):
 s.TypeIs v T/\∀a,v= .ref a->∃ob,s.heap.get? a=some ob/\ob.dict=none:=by
 cases x with
 | str z=>
  obtain⟨t,rfl⟩:=r;cases (show T="str" from ty);exact⟨Lq s z t,λ_ e=>nomatch e⟩
 | int i=>
  obtain⟨t,rfl⟩:=r;cases (show T="int" from ty);exact⟨typeIs_int s i t,λ_ e=>nomatch e⟩
 | ref p=>
  cases r;rcases ty with⟨rfl,xs,hq⟩ | ⟨rfl,o,hk,hc,hd⟩ | ⟨rfl,hk⟩ | ⟨rfl,S,n,hk⟩
  ·obtain⟨its,_,pl,_⟩:=I.list hq;refine⟨pl.isList.typeIs,λa e=>?_⟩;cases e;obtain⟨o,n,e,c,hd,_⟩:=pl;exact⟨o,e,hd⟩
  ·refine⟨⟨o,I.kIn p o hk,hc⟩,λa e=>?_⟩;cases e;exact⟨o,I.kIn _ o hk,hd⟩
  ·have z:∃o,s.heap.get? p=some o/\o.ExactDict:=by
    rcases hk with⟨kvs,hk⟩ | ⟨kvs,hk⟩
    ·obtain⟨_,_,_,_,o,_,_,e,ex,_⟩:=I.hok p _ hk;exact⟨o,e,ex⟩
    ·obtain⟨_,_,_,_,o,_,_,e,ex,_⟩:=I.hok p _ hk;exact⟨o,e,ex⟩
   obtain⟨o,e,ex⟩:=z;refine⟨⟨o,e,ex.1⟩,λa e2=>?_⟩;cases e2;exact⟨o,e,ex.2.1⟩
  ·obtain⟨o,_,_,_,e,ex,_⟩:=I.hok p _ hk;refine⟨⟨o,e,ex.1⟩,λa e2=>?_⟩;cases e2;exact⟨o,e,ex.2.1⟩
 | _=>exact E7 ty
def xM(K:DL)(T:String)(r:V->List V->Hp->VK->Prop)(to:TE)(t:TA):TE:=λσ H Q=>to σ H λx H1=>tR K T x H1/\t σ H1 λxs H2=>r x xs H2 Q
variable {o e:Kk} {es:List Kk} {to:TE} {t:TA} {name:Str} {apos cpos:Pos} {T id:String} {r:V->List V->Hp->VK->Prop}
theorem tS(pa:PlainAttrs T)(slot:Slot T name id)(hty:typeOf (.builtin id)=pure (.type "method_descriptor"))(hm:xF X id r)(ho:PE X o to)(ha:PA X (e::es) t)
 (hbase:LA o name X.env (eval o X.env)=eval o X.env:=by rfl)
 (hfew:((KA cpos (Kj (e::es) X.env)).all (λx=>!x.1) && (backToKw cpos (keywordEach [] X.env)).all (λx=>x.1.isSome)
   && decide ((e::es).length+([]:List Ln).length+(if ([]:List Ln).isEmpty then 0 else 1) < 30))=true:=by rfl)
 (hline:(apos.endLine==cpos.line)=true:=by rfl)(hs:Kj (e::es) X.env=(false,eval e X.env)::Kj es X.env:=by rfl)(hplain:(KA cpos (Kj es X.env)).any (·.1)=false:=by rfl):
 PE X (.Call (.Attribute o name apos) (e::es) [] cpos) (xM X.K T r to t):=by
 intro LL s σ H Q I h;refine wpAny_Call_method_late hbase hfew hline rfl (ao (ho LL s σ H _ I h) λv s1 ⟨x,H1,I1,r1,ty,q1⟩=>?_);obtain⟨h1,h2⟩:=xK I1 r1 ty;refine⟨T,id,pa,slot,hty,h1,h2,?_⟩;have hA:=ha cpos LL s1 σ H1 _ I1 q1;rw [hs] at hA⊢;refine Calls.callWith_builtin (by show(false || (KA cpos (Kj es X.env)).any (·.1))=false;rw [hplain] <;> rfl) (IA ?_);exact ao hA λus s2 uu43=>by obtain⟨vs,H2,I2,r2,q2⟩:=uu43;exact hm LL s2 σ H2 x vs v us Q I2 r1 r2 q2
end
def tT(X:Cx)(id:String)(r:V->List V->Hp->VK->Prop):Prop:=
 ∀(LL:List (Ke×Obj))(s:Kf)(σ:St)(H:Hp)(x:V)(xs:List V)(v:Kc)(us:List Kc)(Q:VK),aa X LL σ H s->aD x v->aq xs us->r x xs H Q->
  Kh (Ki X.prog X.w) X.A (call (.builtin id) (v::us)) (EP X LL σ Q) X.xe s
theorem aq.one:∀{x:V}{us:List Kc},aq [x] us->∃u,us=[u]/\aD x u
 | _,_,.cons r .nil=>⟨_,rfl,r⟩
section
variable {X:Cx} {LL:List (Ke×Obj)} {σ:St} {H:Hp} {s:Kf} {l b:Ke} {xs ys zs:List V}
theorem aa.lset{its its':List Kc}{n:Nat}{f:Array Kc->Array Kc}{t':Nat}(I:aa X LL σ H s)(hH:H l=some (.lst xs))
 (e:s.heap.get? l=some {cls:= .type "list",data:= .seq its.toArray n})(hf:f its.toArray=its'.toArray)(hv:aq ys its')(hz:ys.length<=Kl):
 aa X LL σ (ai H l (.lst ys)) {s with heap:=s.heap.update l (EN f),toks:=t'}:=by
 have q:=PySem.IsL.update e f;rw [hf] at q;refine I.write (x:=l) (e:=l) (by rw [hH];exact trivial) (.inl rfl) (λb' u hb hu=>(Gn s.heap (EN f) (Ne.symm hb)).trans hu) ⟨_,q⟩ ?_;exact⟨hz,its',_,hv,q⟩
theorem aa.lnew{its:List Kc}{t':Nat}(I:aa X LL σ H s)(hv:aq ys its)(hz:ys.length<=Kl):
 aa X LL σ (ai H s.heap.objs.size (.lst ys)) {s with heap:=s.heap.push {cls:= .type "list",data:= .seq its.toArray},toks:=t'}:=
 I.laid (λ_ _ q=>DN _ q) (DU _) ⟨hz,its,0,hv,D5 _ rfl⟩
theorem aa.fresh(I:aa X LL σ H s):H s.heap.objs.size=none:=I.hok.fresh (DU _)
theorem aa.lstM(I:aa X LL σ H s)(hH:H l=some (.lst xs)):xs.length<=Kl/\∃(its:List Kc)(n:Nat),aq xs its/\xs.length=its.length/\s.heap.get? l=some {cls:= .type "list",data:= .seq its.toArray n}:=by
 obtain⟨z,its,n,r,e⟩:=I.hok l _ hH;exact⟨z,its,n,r,r.length,e⟩
end
section
variable {X:Cx}
def xN:V->List V->Hp->VK->Prop:=λx vs H Q=>∃l xs y,x= .ref l/\vs=[y]/\H l=some (.lst xs)/\xs.length < Kl/\Q .non (ai H l (.lst (xs++[y])))
theorem tU:tT X "list.append" xN:=by
 intro LL s σ H x vs v us Q I rx rv h;obtain⟨l,xs,y,rfl,rfl,hH,hz,q⟩:=h;cases rx;obtain⟨u,rfl,ru⟩:=rv.one;obtain⟨z,its,n,r,hl,e⟩:=I.lstM hH;refine Lr F.slot_list_append ⟨_,e,rfl⟩ F.entry_list_append (F.args_list_append_2 _ _) (PySem.list_append l its.toArray n u (by rw [Eb];omega)) ⟨e,?_⟩;refine⟨.non,_,I.lset (its':=its++[u]) hH e Ka (r.append (.cons ru .nil)) ?_,rfl,q⟩;rw [F6,List.length_singleton];omega
end
end L2
namespace Att
open PySem PySem.W PySem.Calls PyProof.Rows
theorem xO{P:Params}{h:Km}:∀(ns:List Int)(vs:List Kc),WellAll P h vs (ns.map GS)->IntsAre vs ns:=by
 intro ns
 induction ns with
 | nil=>
  intro vs w;rw [EW] at w;cases w;exact .nil
 | cons n ns ih=>
  intro vs w;rw [D9] at w;cases w with
  | cons a b=>
   cases a;exact .cons _ _ (ih _ b)
theorem xP{l:OpenLaw}{n:Nat}(hn:l.most=some n){P:Params}{h:Km}{args:List WData}{vals:List Kc}
 (hpre:l.row.toRowW.claim.pre args=true)(hwl:WellAll P h vals args):
 ∃a vs ns,vals=[EF a]/\args=[HV (ns.map GS)]/\h.get? a=some {cls:= .type "list",data:= .seq vs.toArray}/\IntsAre vs ns/\ns.length<=n:=by
 have hsh:WShape.hasAll [] args [.list .int]=true:=(pre_splitW hpre).1;have hc:l.pre.holds [] {args:=args}=true:=(pre_splitW hpre).2;obtain⟨d,r,rfl,h1,h2⟩:=hasAllW_cons hsh;obtain rfl:=hasAllW_nil h2;obtain⟨xs,rfl,h3⟩:=hasW_list h1;obtain⟨ns,rfl⟩:=items_int h3;have hlen:ns.length<=n:=by
  unfold OpenLaw.pre at hc;have h4:(WTm.not (.lt (.lit (.int (n:Int))) (.len (.arg 0)))).holds [] {args:=[.list (ns.map .int)]}=true:=by
   have h4:=(holds_andW hc).1;rw [hn] at h4;exact h4
  have h5:=condW_of h4 (w_not (w_lt w_lit (w_len_list (w_arg rfl))));rw [DP] at h5;refine Ib λq=>?_;have q':(n:Int) < ((ns.length:Nat):Int):=J4
  first
   | (rw [decide_eq_true q'] at h5;exact absurd h5 J3)
   | (simp at h5;omega)
 cases hwl with
 | cons w1 w2=>
  cases w2;cases w1 with
  | list ho hall=>exact⟨_,_,ns,rfl,rfl,ho,xO ns _ hall,hlen⟩
theorem xQ(l:OpenLaw)(args:List WData):l.row.toRowW.claim.post args (.bool true) args=true:=
 postW_of (r:=l.row.toRowW) (X:=(true==true))
  (show WShape.has [] (.bool true) .bool=true by first | rfl | decide | simp [WShape.has,WShape.arms,WShape.armsAll])
  (show(WTm.eq .res (.lit (.bool true))).value [] {args:=args,res:=some (.bool true),after:=args}=some (.bool (true==true)) from w_eq_bool (w_res rfl) w_lit) rfl
end Att
namespace L2
open PySem PySem.Spec PyProof.Rows
theorem tV:∀{vs:List Kc}{ns:List Int},IntsAre vs ns->aq (ns.map V.int) vs
 | _,_,.nil=>.nil
 | _,_,.cons n t h=>.cons ⟨t,rfl⟩ (tV h)
abbrev KOf{K:DL}{h:Km}(_:K.In h):DL:=K
def md(s:Ks):Ly:=match s with
 | .FunctionDef _ a _ _ _ _ _ _ _ _=>a
 | _=>{posonlyargs:=[],args:=[],vararg:=none,kwonlyargs:=[],kw_defaults:=[],kwarg:=none,defaults:=[]}
def cU(s:Ks):List Ks:=match s with
 | .FunctionDef _ _ b _ _ _ _ _ _ _=>b
 | _=>[]
def av(s:Ks):Kz:=match s with
 | .FunctionDef _ _ _ _ _ _ sc _ _ _=>sc
 | _=>{kind:= .function,names:=[],isGenerator:=false,isCoroutine:=false}
abbrev aK:cn:=λ_ _ _ _ _ _=>False
abbrev E0:XK:=λ_ _ _=>False
theorem xR{X:Cx}:nN aK X E0:=λ_ _ _ _ _ _ _ h=>h.elim
structure cw (K:DL) (x qual:Str) (st:Ks) (f:Ke) (fd:Ko):Prop where
 ex:∃(oc:Kc)(od:Option Ke)(kV doc pm:Kc)(an:Option Ke)(cdv ct:Kc)(osl:Array (Option Kc)),
  fd=Gp x qual (md st) (cU st) (av st) .none kV doc pm an cdv ct/\K.lookup f=some ⟨oc,od,.func fd,osl⟩/\HF K cdv qual=true
 kp:GG K (.ref f)=true
section
variable {P:Kp} {w:Kq} {K:DL} {mg:Str->Option Kc} {base:Km}
theorem cw.ok{x qual:Str}{st:Ks}{f:Ke}{fd:Ko}{N ps:List Str}{k:Nat}{sp:Sp}(F:cw K x qual st f fd)(S:bb N ps (av st))(len:∀vs H Q E,sp vs H Q E->vs.length=ps.length)
 (hbody:∀(cdv:Kc) (A:Kr) (outer:List Env) (s:Kf) (H:Hp) (vs:List V) (Q:VK) (E:XK),aH k (A.deeper (K5 qual (av st) s.heap.objs.size f cdv))->sp vs H Q E->
   ∃t,bg (aN aK P w K mg base N qual (av st) f cdv A outer s H E).nox (cU st) t/\t {nx:=λ_ H'=>Q .non H',rt:=Q} (start N vs) H):ay P w K mg base aK (k+1) f fd ps sp:=by
 obtain⟨oc,od,kV,doc,pm,an,cdv,ct,osl,rfl,lk,hcd⟩:=F.ex;refine qy lk hcd S len λA outer s H vs Q E hr hsp=>?_;obtain⟨t,h,q⟩:=hbody cdv A outer s H vs Q E hr hsp;exact⟨t,h.nox,q⟩
theorem cw.binds{x qual:Str}{st:Ks}{f:Ke}{fd:Ko}{ps:List Str}(F:cw K x qual st f fd)
 (h:∀(kV doc pm:Kc) (an:Option Ke) (cdv ct:Kc) (us:List Kc),us.length=ps.length->bindArgs (Gp x qual (md st) (cU st) (av st) .none kV doc pm an cdv ct) ⟨us,[]⟩=pure (ps.zip us)):cq K fd ps []:=by
 obtain⟨oc,od,kV,doc,pm,an,cdv,ct,osl,rfl,lk,hcd⟩:=F.ex;exact .all (h kV doc pm an cdv ct)
theorem xS{x qual:Str}{st:Ks}{f:Ke}{oc:Kc}{od an:Option Ke}{osl:Array (Option Kc)}{kV doc pm cdv ct:Kc}(l:K.lookup f=some ⟨oc,od,.func (Gp x qual (md st) (cU st) (av st) .none kV doc pm an cdv ct),osl⟩)
 (c:HF K cdv qual=true)(k:GG K (.ref f)=true):cw K x qual st f (Gp x qual (md st) (cU st) (av st) .none kV doc pm an cdv ct):=⟨⟨oc,od,kV,doc,pm,an,cdv,ct,osl,rfl,l,c⟩,k⟩
end
section
variable {X:Cx}
theorem pv(i:Nat){x:Str}{pos:Pos}(hN:X.N[i]?=some x:=by rfl)(hv:mF X.env.scope x:=by first | exact Ic rfl | exact HB (Ic rfl) | exact HB (HB rfl))(hd:(x==("__debug__":Str))=false:=by decide)
 (hcd:(x==("__classdict__":Str))=false:=by decide):PE X (.Name x pos) (mG i):=oy hN hv hd hcd
end
def ah(H H':Hp):Prop:=∀b o,H b=some o->H' b=some o
theorem ah.refl(H:Hp):ah H H:=λ_ _ h=>h
theorem ah.trans{H H1 H2:Hp}(a:ah H H1)(b:ah H1 H2):ah H H2:=λc o h=>b c o (a c o h)
def bR(env:Env)(names:List (Str×KI))(cs:List (Str×Ke)):List (Str×Ke):=
 names.foldl (λcs p=>if (p.2==Fc)=true then(p.1,(env.cells.lookup p.1).getD 0)::cs else cs) cs
theorem qB{scope:Kz}{env:Env}(h:∀y∈scope.names,y.2= .free->∃c,env.cells.lookup y.1=some c):closureFor scope env=pure (bR env scope.names []):=by
 unfold closureFor;have key:∀(l:List (Str×KI))(cs:List (Str×Ke)),(∀y∈l,y.2= .free->∃c,env.cells.lookup y.1=some c)->
  (forIn l cs λ(x:Str×KI) (r:List (Str×Ke))=>(if (x.2==Fc)=true then do let a<-cellOf env x.1;pure (GU ((x.1,a)::r)) else pure (GU r):Sem (ForInStep (List (Str×Ke)))))=pure (bR env l cs):=by
  intro l
  induction l with
  | nil=>intro cs _;rfl
  | cons p r ih=>
   intro cs hl;rw [Js];by_cases hk:(p.2==Fc)=true
   ·obtain⟨c,hc⟩:=hl p Ft (by simpa using hk);rw [J6 hk];have e:cellOf env p.1=pure c:=by unfold cellOf;rw [hc]
    rw [e];simp only [pure_bind];rw [ih _ λy hy=>hl y (Ep _ hy)];unfold bR;rw [F9,J6 hk,hc];rfl
   ·rw [J5 hk];simp only [pure_bind];rw [ih _ λy hy=>hl y (Ep _ hy)];unfold bR;rw [F9,J5 hk]
 have:=key scope.names [] h;simp only [bind_pure];exact this
theorem qC{env:Env}:∀(l:List (Str×KI))(cs:List (Str×Ke)){x:Str}{c:Ke},(∀y∈l,y.2= .free->∃c,env.cells.lookup y.1=some c)->(∀y d,cs.lookup y=some d->env.cells.lookup y=some d)->
 (bR env l cs).lookup x=some c->env.cells.lookup x=some c
 | [],cs,x,c,_,hc,h=>hc x c h
 | p::r,cs,x,c,hl,hc,h=>by
  unfold bR at h;rw [F9] at h;by_cases hk:(p.2==Fc)=true
  ·rw [J6 hk] at h;refine qC r _ (λy hy=>hl y (Ep _ hy)) (λy d e=>?_) h;obtain⟨a,ha⟩:=hl p Ft (by simpa using hk);rw [Eo] at e;cases hx:y==p.1 with
   | true=>
    rw [hx] at e;have hy:y=p.1:=by simpa using hx
    rw [ha] at e;cases e;rw [hy];exact ha
   | false=>rw [hx] at e;exact hc y d e
  ·rw [J5 hk] at h;exact qC r cs (λy hy=>hl y (Ep _ hy)) hc h
theorem qD{env:Env}:∀(l:List (Str×KI))(cs:List (Str×Ke)){x:Str},(∃c,cs.lookup x=some c)->∃c,(bR env l cs).lookup x=some c
 | [],cs,x,h=>h
 | p::r,cs,x,⟨c,h⟩=>by
  unfold bR;rw [F9];by_cases hk:(p.2==Fc)=true
  ·rw [J6 hk];refine qD r _ ?_;rw [Eo];cases hx:x==p.1 with
   | true=>exact⟨_,rfl⟩
   | false=>exact⟨c,h⟩
  ·rw [J5 hk];exact qD r cs ⟨c,h⟩
theorem nQ{env:Env}:∀(l:List (Str×KI))(cs:List (Str×Ke)){x:Str},(x,Fc)∈l->∃c,(bR env l cs).lookup x=some c
 | [],_,_,h=>by simp at h
 | p::r,cs,x,h=>by
  unfold bR;rw [F9];rcases D3.mp h with e | e
  ·subst e;rw [J6 (by rfl)];exact qD r _ ⟨(env.cells.lookup x).getD 0,by rw [Eo];simp⟩
  ·exact nQ r _ e
theorem xT{env:Env}{scope:Kz}{x:Str}(h:(relabel scope env).names.lookup x=some .cell\/(relabel scope env).names.lookup x=some .free):scope.names.lookup x=some .free\/scope.names.lookup x=some .cell:=by
 have key:∀(l:List (Str×KI)),
  ((l.map λ(n,k)=>if (k==Fc && env.scope.kind== .function && env.kindOf n==some .cell) then(n,Hu) else(n,k)).lookup x=some .cell\/
  (l.map λ(n,k)=>if (k==Fc && env.scope.kind== .function && env.kindOf n==some .cell) then(n,Hu) else(n,k)).lookup x=some .free)->l.lookup x=some .free\/l.lookup x=some .cell:=by
  intro l
  induction l with
  | nil=>intro h;simp at h
  | cons p r ih=>
   obtain⟨n,k⟩:=p;intro h;rw [D9] at h;rw [Eo];by_cases hx:x=n
   ·subst hx;rw [beq_self_eq_true];by_cases hq:(k==Fc && env.scope.kind== .function && env.kindOf x==some .cell)=true
    ·have:k= .free:=by simp only [F5,beq_iff_eq] at hq;exact hq.1.1
     subst this;exact .inl rfl
    ·simp only [J5 hq,Eo,beq_self_eq_true] at h;exact h.symm
   ·have hb:(x==n)=false:=by simpa using hx
    rw [hb];refine ih ?_;by_cases hq:(k==Fc && env.scope.kind== .function && env.kindOf n==some .cell)=true
    ·simpa only [J6 hq,Eo,hb] using h
    ·simpa only [J5 hq,Eo,hb] using h
 exact key scope.names h
theorem xU{env:Env}{scope:Kz}{x:Str}(h:scope.names.lookup x=some .cell\/scope.names.lookup x=some .free):(relabel scope env).names.lookup x=some .cell\/(relabel scope env).names.lookup x=some .free:=by
 have key:∀(l:List (Str×KI)),l.lookup x=some .cell\/l.lookup x=some .free->
  ((l.map λ(n,k)=>if (k==Fc && env.scope.kind== .function && env.kindOf n==some .cell) then(n,Hu) else(n,k)).lookup x=some .cell\/
  (l.map λ(n,k)=>if (k==Fc && env.scope.kind== .function && env.kindOf n==some .cell) then(n,Hu) else(n,k)).lookup x=some .free):=by
  intro l
  induction l with
  | nil=>intro h;simp at h
  | cons p r ih=>
   obtain⟨n,k⟩:=p;intro h;rw [D9];by_cases hx:x=n
   ·subst hx;rw [Eo,beq_self_eq_true] at h;by_cases hq:(k==Fc && env.scope.kind== .function && env.kindOf x==some .cell)=true
    ·left;simp only [J6 hq,Eo,beq_self_eq_true]
    ·simp only [J5 hq,Eo,beq_self_eq_true];exact h
   ·have hb:(x==n)=false:=by simpa using hx
    rw [Eo,hb] at h;by_cases hq:(k==Fc && env.scope.kind== .function && env.kindOf n==some .cell)=true
    ·simpa only [J6 hq,Eo,hb] using ih h
    ·simpa only [J5 hq,Eo,hb] using ih h
 exact key scope.names h
structure aQ (sc:Kz) (N N':List Str) (k:Nat) (fr:List Nat) (scope:Kz):Prop where
 kind:scope.kind= .function
 cell:∀y∈scope.names,y.2= .cell->scope.names.lookup y.1=some .cell
 names:∀y∈scope.names,y.2= .local->scope.names.lookup y.1=some .local
 nd:N'.Nodup
 slot:fr.map (λj=>N[j]?)=(N'.drop k).map some
 frees:∀x∈N'.drop k,scope.names.lookup x=some .free
 outer:∀y∈scope.names,y.2= .free->sc.names.lookup y.1=some .cell\/sc.names.lookup y.1=some .free
 outer':∀x∈N'.drop k,sc.names.lookup x=some .cell\/sc.names.lookup x=some .free
 len:N'.length=k+fr.length
theorem oJ:∀(l:List (Str×KI)){n:Nat}{a:List (Str×Ke)}{x:Str}{c:Ke},(KD n l a).lookup x=some c->n<=c\/a.lookup x=some c
 | [],_,_,_,_,h=>.inr h
 | (y,k)::r,n,a,x,c,h=>by
  unfold KD at h;split at h
  ·rcases oJ r h with z | z
   ·exact .inl J4
   ·rw [Eo] at z;split at z
    ·exact .inl (by cases z;exact DU _)
    ·exact .inr z
  ·exact oJ r h
theorem qE:∀(l:List (Str×KI)){n:Nat}{a:List (Str×Ke)}{x:Str}{c:Ke},l.lookup x=some .cell->(KD n l a).lookup x=some c->n<=c
 | [],_,_,_,_,e,_=>nomatch e
 | (y,k)::r,n,a,x,c,e,h=>by
  unfold KD at h;rw [Eo] at e;cases hx:x==y with
  | true=>
   rw [hx] at e;cases e;have h:List.lookup x (KD (n+1) r ((y,n)::a))=some c:=h;rcases oJ r h with z | z
   ·exact HS z
   ·rw [Eo,hx] at z;cases z;exact DU _
  | false=>
   rw [hx] at e;split at h
   ·exact HS (qE r e h)
   ·exact qE r e h
theorem qF:∀(l:List (Str×KI)){n:Nat}{a:List (Str×Ke)}{x:Str},(∀y∈l,y.2= .cell->y.1≠x)->(KD n l a).lookup x=a.lookup x
 | [],_,_,_,_=>rfl
 | (y,k)::r,n,a,x,h=>by
  unfold KD;split
  ·rename_i hk;rw [qF r λz hz=>h z (Ep _ hz),Eo];have:(x==y)=false:=by simpa using Ne.symm (h (y,k) Ft (by simpa using hk))
   rw [this]
  ·exact qF r λz hz=>h z (Ep _ hz)
theorem qG:∀(l:List (Str×KI)){n:Nat}{a:List (Str×Ke)},(∀x c,a.lookup x=some c->c < n)->(∀x y c,a.lookup x=some c->a.lookup y=some c->x=y)->∀x y c,(KD n l a).lookup x=some c->(KD n l a).lookup y=some c->x=y
 | [],_,_,_,h=>h
 | (z,k)::r,n,a,hl,hi=>by
  unfold KD;split
  ·have one:∀x c,((z,n)::a).lookup x=some c->x=z/\c=n\/c < n/\a.lookup x=some c:=λx c e=>by
    rw [Eo] at e;cases hx:x==z with
    | true=>rw [hx] at e;cases e;exact .inl ⟨by simpa using hx,rfl⟩
    | false=>rw [hx] at e;exact .inr ⟨hl x c e,e⟩
   refine qG r (λx c e=>?_) λx y c e1 e2=>?_
   ·rcases one x c e with⟨_,z⟩ | ⟨z,_⟩
    ·rw [z];exact Gh _
    ·exact Fi z
   ·rcases one x c e1 with⟨a1,b1⟩ | ⟨a1,b1⟩ <;> rcases one y c e2 with⟨a2,b2⟩ | ⟨a2,b2⟩
    ·rw [a1,a2]
    ·omega
    ·omega
    ·exact hi x y c b1 b2
  ·exact qG r hl hi
theorem qH:∀(l:List (Str×KI)){h:Km}{a:List (Str×Ke)},(∀x c,a.lookup x=some c->∃v,h.IsCell c v)->∀x c,(KD h.objs.size l a).lookup x=some c->∃v,(pushCells h l).IsCell c v
 | [],_,_,h=>h
 | (z,k)::r,h,a,ha=>by
  unfold KD pushCells;split
  ·have:=qH r (h:=h.push {cls:= .type "cell",data:= .cell none}) (a:=(z,h.objs.size)::a) λx c e=>by
    rw [Eo] at e;split at e
    ·cases e;exact⟨none,_,D5 _ rfl,rfl⟩
    ·obtain⟨v,q⟩:=ha x c e;exact⟨v,q.keeps λb o e=>DN _ e⟩
   rwa [Hk] at this
  ·exact qH r ha
def oK(X:Cx)(scope:Kz)(C:Ke):List (Str×Ke):=KD (C+1) scope.names (bR X.env scope.names [])
def aO(X:Cx)(scope:Kz)(N':List Str)(fp:List Ke)(C:Ke)(s:Kf)(H:Hp):Cx where
 prog:=X.prog
 w:=X.w
 K:=X.K
 mg:=X.mg
 base:=X.base
 A:=X.A
 N:=N'
 s₀:=s
 H₀:=H
 env:=compEnvC scope (oK X scope C) C X.env
 outer:=X.stack
 stack:=X.stack
 ex:=fp
 fn:=λx=>scope.names.lookup x==some .cell
 calm:=X.calm
 pn:=[]
 xe:=λ_ _=>False
def aG(k:Nat)(fr:List Nat)(σ:St):St:=D6 k none++fr.map λj=>(σ[j]?).join
def me(σ σ':St):Prop:=σ.length=σ'.length/\∀(i:Nat) v,σ[i]?=some (some v)->σ'[i]?=some (some v)
section
variable {X:Cx} {LL:List (Ke×Obj)} {σ:St} {H:Hp} {s:Kf} {scope:Kz} {N':List Str} {k:Nat} {fr:List Nat} {fp:List Ke}
theorem oM(S:aQ X.env.scope X.N N' k fr scope)(I:aa X LL σ H s):∀x c,(bR X.env scope.names []).lookup x=some c->X.env.cells.lookup x=some c:=λx c e=>qC scope.names [] (λy hy e=>I.ok.has y.1 (S.outer y hy e)) (λ_ _ z=>by simp at z) e
theorem tW(S:aQ X.env.scope X.N N' k fr scope)(I:aa X LL σ H s){x:Str}{c:Ke}(e:(oK X scope s.heap.objs.size).lookup x=some c):s.heap.objs.size < c\/X.env.cells.lookup x=some c:=
 (oJ _ e).imp (λz=>z) λz=>oM S I x c z
theorem xV(S:aQ X.env.scope X.N N' k fr scope)(I:aa X LL σ H s)(hf:∀b∈fp,dG X LL H b)(hlt:∀b∈fp,b < s.heap.objs.size):
 (aO X scope N' fp s.heap.objs.size s H).Ok:=by
 have hcl:=oM S I;refine⟨I.ok.mod,S.kind,I.ok.glob,I.ok.blt,DU _,qG _ (λx c e=>?_) (λx y c h1 h2=>I.ok.inj x y c (hcl x c h1) (hcl y c h2)),λx hx=>F8.mp (Hr _ _ _ ?_),λx c h e=>HS (qE _ (eq_of_beq h) e),I.ok.hd,I.ok.frames,.inl rfl,λb hb=>⟨Ec (hlt b hb),λx c e=>?_⟩,
  I.bs,EV I.ok.bsz I.sz,λb o e hb=>?_,λb hb hb'=>?_,I.stack,I.stkFree⟩
 ·obtain⟨v,o,ho,_⟩:=I.cell x c (hcl x c e);exact Fi (DV ho)
 ·rcases xT hx with z | z
  ·exact .inr (F8.mpr (nQ _ _ (E8 z)))
  ·exact .inl z
 ·rcases tW S I e with z | z
  ·exact λq=>absurd (hlt b hb) (by rw [<-q];exact Nat.lt_asymm z)
  ·exact(hf b hb).2.2.2.2.1 x c z
 ·rcases(hf b hb).2.2.2.1 with z | z
  ·exact I.ok.noex b o e z
  ·exact absurd (D8 (DV e) (EV I.ok.bsz z)) (ET _)
 ·rcases D3.mp (I.stkSub b hb') with z | z
  ·exact(hf b hb).2.1 z
  ·exact(hf b hb).2.2.1 z
theorem xW(S:aQ X.env.scope X.N N' k fr scope)(I:aa X LL σ H s)(hf:∀b∈fp,dG X LL H b)(hlt:∀b∈fp,b < s.heap.objs.size){o:Obj}{h':Km}(e':h'=pushCells (s.heap.push o) scope.names)
 (hn:h'.Ns s.heap.objs.size (λ_=>none))(hk:∀b o,s.heap.get? b=some o->h'.get? b=some o):
 aa (aO X scope N' fp s.heap.objs.size s H) [] (aG k fr σ) H {s with heap:=h'}:=by
 have hcl:=oM S I;refine⟨xV S I hf hlt,rfl,I.bare,Un.kept hk,⟨_,hn,λi x v h1 h2 h3=>?_⟩,λx c e=>?_,I.hok.fresh (DU _),λx c e=>?_,λp hp=>absurd hp (by simp [aO]),I.hok.kept hk,?_⟩
 ·have hi:k<=i:=by
   rcases Gq i k with z | z
   ·exfalso;unfold aG at h2;rw [F7 (by simpa using z),GP,J6 z] at h2;cases h2
   ·exact z
  have h2':(fr.map λj=>(σ[j]?).join)[i - k]?=some (some v):=by
   unfold aG at h2;rw [Gx (by simpa using hi)] at h2;simpa using h2
  have h1':(N'.drop k)[i - k]?=some x:=by
   rw [List.getElem?_drop,Nat.add_sub_cancel' hi];exact h1
  have hmem:x∈N'.drop k:=Ef h1';have e2:(fr.map λj=>X.N[j]?)[i - k]?=some (some x):=by
   rw [S.slot,D7,h1'];rfl
  obtain⟨j,hj,ej⟩:∃j,fr[i - k]?=some j/\X.N[j]?=some x:=by
   rw [D7] at e2;cases e:fr[i - k]? with
   | none=>rw [e] at e2;cases e2
   | some j=>rw [e] at e2;exact⟨j,rfl,ED e2⟩
  have hv:σ[j]?=some (some v):=by
   rw [D7,hj] at h2';have h3':(σ[j]?).join=some v:=ED h2';cases e:σ[j]? with
   | none=>rw [e] at h3';cases h3'
   | some o=>rw [e] at h3';rw [show o=some v from h3']
  obtain⟨m,hn0,hl⟩:=I.loc;have ho:=S.outer' x hmem;obtain⟨u,ru,lk⟩:=hl j x v ej hv (.inr ho);refine⟨u,ru,.inr ⟨xU (.inr (S.frees x hmem)),?_⟩⟩;rcases lk with⟨z,_⟩ | ⟨_,c,hc,hx⟩
  ·exfalso;rcases ho with ho | ho
   ·exact absurd (z.symm.trans ho) Ka
   ·exact absurd (z.symm.trans ho) Ka
  ·obtain⟨c',hc'⟩:=nQ (env:=X.env) scope.names [] (E8 (S.frees x hmem));have:=hcl x c' hc';rw [hc] at this;cases this;obtain⟨o,ho,hd⟩:=hx;exact⟨c,(qF _ λy hy ey ex=>by have q:=S.cell y hy ey;rw [ex,S.frees x hmem] at q;cases q).trans hc',o,hk c o ho,hd⟩
 ·subst e';have:=qH scope.names (h:=s.heap.push o) (a:=bR X.env scope.names []) (λx c e=>by
   obtain⟨v,q⟩:=I.cell x c (hcl x c e);exact⟨v,q.keeps λb o e=>DN _ e⟩) x c
  rw [Hk] at this;exact this e
 ·rcases tW S I e with z | z
  ·exact I.hok.fresh (GX z)
  ·exact I.freeC x c z
 ·unfold aG;show _=N'.length;rw [F6,Gv,DP,S.len]
end
section
variable {prog:Kp} {w:Kq} {A:Kr} {E:Kc->Kf->Prop} {R:Result->Kf->Prop} {s:Kf}
theorem xX{elt target iter:Kk}{ifs:List Kk}{scope:Kz}{pos:Pos}{it acc:Kc}{env:Env}(I:Nat->Kf->Prop)
 (turn:∀n s,I n s->Kh (Ki prog w) A (K7 it) (λr s₁=>match r with
  | none=>R (.ok .next) s₁
  | some v=>Kh (Ki prog w) A (Lp target it v) (λ_ s₁'=>Kh (Ki prog w) A (assign target env v) (λ_ s₂=>
   Kh (Ki prog w) A (forIn ifs true λc r=>if r=true then do let ok<-isTrue c env (eval c env);pure (GU ok) else pure (GU r)) (λok s₃=>
    if ok=true then Kh (Ki prog w) A (eval elt env) (λx s₄=>
     Kh (Ki prog w) A (call (.builtin "list.append") [acc,x]) (λ_ s₅=>∃m,m < n/\I m s₅) (λ_ _=>False) s₄) (λ_ _=>False) s₃
    else ∃m,m < n/\I m s₃) (λ_ _=>False) s₂) (λ_ _=>False) s₁') (λ_ _=>False) s₁) (λ_ _=>False) s)
 (n:Nat)(h:I n s):
 K3 (Ki prog w) A (.compLoop (.ListComp elt [⟨target,iter,ifs,0⟩] scope pos) 0 it acc env) R s:=by
 refine codeAny_loop rfl I (λn s hI=>?_) n h;show Kh _ A ((compTurn (.ListComp elt [⟨target,iter,ifs,0⟩] scope pos) 0 it acc env).onRaise (λx=>do noteFrame x env;theTreesLotGoes x)) _ _ s;refine wpAny_noted ?_;rw [compTurn_list];refine Kd (wpAny_standAt (Kd (Ky (turn n s hI) (λr s₁ h₁=>?_) λ_ _ h'=>h'.elim)));cases r with
 | none=>exact Kg h₁
 | some v=>
  refine Kd (Ky h₁ (λ_ s₁' h₁'=>?_) λ_ _ h'=>h'.elim);refine Kd (Ky h₁' (λ_ s₂ h₂=>Kd (Ky h₂ (λok s₃ h₃=>?_) λ_ _ h'=>h'.elim)) λ_ _ h'=>h'.elim);cases ok with
  | false=>exact Kg ⟨rfl,h₃⟩
  | true=>
   exact Kd (Kd (Ky h₃ (λx s₄ h₄=>Kd (Ky h₄ (λ_ s₅ h₅=>Kg (Kg ⟨rfl,h₅⟩)) λ_ _ h'=>h'.elim)) λ_ _ h'=>h'.elim))
end
def cD(X:Cx)(ifs:List Kk)(t:TT):Prop:=
 ∀(LL:List (Ke×Obj))(s:Kf)(σ:St)(H:Hp)(Q:Bool->Hp->Prop),aa X LL σ H s->t σ H Q->
  Kh (Ki X.prog X.w) X.A (forIn ifs true λc r=>if r=true then do let ok<-isTrue c X.env (eval c X.env);pure (GU ok) else pure (GU r)) (TP X LL σ Q) X.xe s
def xY:TT:=λ_ H Q=>Q true H
theorem xZ{X:Cx}:cD X [] xY:=λLL s σ H Q I h=>wpAny_tests_nil ⟨H,I,h⟩
theorem mf{X:Cx}{c:Kk}{t:TT}(h:PT X c t):cD X [c] t:=λLL s σ H Q I hq=>wpAny_tests_one (h LL s σ H Q I hq)
theorem aU.but{P:Kp}{w:Kq}{H:Hp}{h h':Km}{C:Ke}(x:aU P w H h)(hC:H C=none)(k:∀b o,b≠C->h.get? b=some o->h'.get? b=some o):aU P w H h':=λa o e=>by
 refine(x a o e).stay (λb u hb q=>k b u ?_ q) (λ_ q=>q) (λ_ _ q=>q) λ_ _ q=>q;intro z;subst z;rcases hb with z | z
 ·rw [<-z,hC] at e;cases e
 ·rw [hC] at z;cases z
theorem x5{M:Model}{A:Kr}{E:Kc->Kf->Prop}{s:Kf}{scope:Kz}{g:Ke}{cl:List (Str×Ke)}{qual:Str}{e:Env}{Q:Env->Kf->Prop}
 (hQ:∀h',h'=pushCells (s.heap.push {cls:= .type "dict",data:= .dict #[]}) scope.names->h'.Ns s.heap.objs.size (λ_=>none)->(∀b o,s.heap.get? b=some o->h'.get? b=some o)->
  Q (newEnv scope s.heap.objs.size g (KD (s.heap.objs.size+1) scope.names cl) qual none .none (some e) Le) {s with heap:=h'}):
 Kh M A (newFunctionEnv scope g cl [] qual none .none (some e)) Q E s:=by
 simp only [newFunctionEnv,Option.isSome_some,if_true];refine Kd (wpAny_alloc (Kd (wpAny_layCells _ (λname kind cells=>by cases hkc:kind==Hu <;> simp [hkc]) _ _ _ _ ?_)));rw [show({s with heap:=s.heap.push {cls:= .type "dict",data:= .dict #[]}}:Kf).heap.objs.size=s.heap.objs.size+1 from Hk ..];rw [Jz];exact Kd (Kg (Kg (hQ _ rfl ((Heap.Ns.new s.heap (.type "dict")).keeps (pushCells_keeps _ _)) λb o e=>pushCells_keeps _ _ b o (DN _ e))))
def lJ(wi:TI)(g:TG)(tc:TT)(te:TE)(k:Nat)(fr:List Nat):TE:=λσ H Q=>wi σ H λJ H1=>∀D,H1 D=none->∃W:Nat->Nat->Hp->Prop,(∃m,W 0 m (ai H1 D (.lst [])))/\∀i m H,W i m H->
 (J.stop i H/\Q (.ref D) H)\/(J.go i H/\∀x H',J.yld i H x H'->g x (aG k fr σ) H' λσ2 H2=>me (aG k fr σ) σ2/\tc σ2 H2 λok H3=>
  if ok=true then te σ2 H3 λy H4=>∃ys,H4 D=some (.lst ys)/\ys.length < Kl/\∃m',m' < m/\W (i+1) m' (ai H4 D (.lst (ys++[y])))
  else ∃m',m' < m/\W (i+1) m' H3)
section
variable {X:Cx} {tg iter elt:Kk} {ifs:List Kk} {scope:Kz} {N':List Str} {k:Nat} {fr:List Nat} {wi:TI} {g:TG} {tc:TT} {te:TE} {pos:Pos}
theorem tX{use:Option (Kc->Sem Unit)}{Q':Kc->Kf->Prop}{LL:List (Ke×Obj)}{s:Kf}{σ:St}{H:Hp}{Q:VK}(hc:X.calm=true)(S:aQ X.env.scope X.N N' k fr scope)(hi:PI X tg iter wi)
 (hg:∀fp C s H,PG (aO X scope N' fp C s H) tg g)(hf:∀fp C s H,cD (aO X scope N' fp C s H) ifs tc)(he:∀fp C s H,PE (aO X scope N' fp C s H) elt te)
 (I:aa X LL σ H s)(h:lJ wi g tc te k fr σ H Q)
 (hQ:∀D C s' H',C≠X.env.locals->aa X LL σ H' s'->(∀h',GI C s'.heap h'->aa X LL σ H' {s' with heap:=h'})->Q (.ref D) H'->(∃m,s'.heap.Ns C m)->X.env.locals < C->H' C=none/\(∀x c,X.env.cells.lookup x=some c->c≠C)/\(∀p∈X.pn++LL,p.1≠C)->compPost (Ki X.prog X.w) X.A X.xe use Q' (.ref D) C (.ok .next) s'):
 Kh (Ki X.prog X.w) X.A (eval iter X.env) (λx s₁=>Kh (Ki X.prog X.w) X.A (pyIter x) (λit s₂=>Kh (Ki X.prog X.w) X.A (newList []) (λacc s₃=>
  Kh (Ki X.prog X.w) X.A (newFunctionEnv scope X.env.globals (bR X.env scope.names []) [] X.env.qual none .none (some X.env)) (λcenv s₄=>
   K3 (Ki X.prog X.w) X.A (.compStart (.ListComp elt [⟨tg,iter,ifs,0⟩] scope pos) 0 it acc {cenv with scope:=relabel scope X.env}) (compPost (Ki X.prog X.w) X.A X.xe use Q' acc cenv.locals) s₄) X.xe s₃) X.xe s₂) X.xe s₁) X.xe s:=by
 refine ao (hi LL s σ H _ I h) λv s1 h1=>ao h1 λitv s2 h2=>?_;obtain⟨it,fp,tn,J,H2,e,I2,T,st2,f2,wW⟩:=h2;subst e;refine Kx ?_;have hD0:H2 s2.heap.objs.size=none:=I2.hok.fresh (DU _);obtain⟨W,⟨m0,w0⟩,turn⟩:=wW _ hD0;generalize hD:s2.heap.objs.size=D at*;have I3:aa X LL σ (ai H2 D (.lst [])) {s2 with heap:=s2.heap.push {cls:= .type "list",dict:=none,data:= .seq ([]:List Kc).toArray}}:=by
  have:=I2.lnew (ys:=[]) (its:=[]) (t':=s2.toks) .nil (E1 _);rw [hD] at this;exact this
 generalize hs3:({s2 with heap:=s2.heap.push {cls:= .type "list",dict:=none,data:= .seq ([]:List Kc).toArray}}:Kf)=s3 at*;have up23:∀b o,s2.heap.get? b=some o->s3.heap.get? b=some o:=λb o e=>by rw [<-hs3];exact DN _ e
 have fpD:∀b∈fp,b≠D:=λb hb z=>by
  obtain⟨o,ho,_⟩:=T.obj _ _ st2 b hb;have:=DV ho;rw [hD,z] at this;exact ET _ this
 have f3:∀b∈fp,dG X LL (ai H2 D (.lst [])) b:=λb hb=>⟨by rw [au (fpD b hb)];exact(f2 b hb).1,(f2 b hb).2⟩;have st3:tn 0 s3.heap:=T.keep _ _ _ st2 λb hb o e=>up23 b o e;have lt3:∀b∈fp,b < s3.heap.objs.size:=λb hb=>by obtain⟨o,ho,_⟩:=T.obj _ _ st3 b hb;exact DV ho
 refine x5 λh₁ e₁ hns₁ up34=>?_;have I4:=xW S I3 f3 lt3 e₁ hns₁ up34;have st4:tn 0 h₁:=T.keep _ _ _ st3 λb hb o e=>up34 b o e;generalize hX':aO X scope N' fp s3.heap.objs.size s3 (ai H2 D (.lst []))=X' at*;have hg':PG X' tg g:=by rw [<-hX'];exact hg _ _ _ _
 have hf':cD X' ifs tc:=by rw [<-hX'];exact hf _ _ _ _
 have he':PE X' elt te:=by rw [<-hX'];exact he _ _ _ _
 have eP:X'.prog=X.prog:=by rw [<-hX'];rfl
 have eW:X'.w=X.w:=by rw [<-hX'];rfl
 have eK:X'.K=X.K:=by rw [<-hX'];rfl
 have eA:X'.A=X.A:=by rw [<-hX'];rfl
 have eC:X'.calm=true:=by rw [<-hX'];exact hc
 have eE:X'.xe=λ_ _=>False:=by rw [<-hX'];rfl
 have eEnv:X'.env=compEnvC scope (oK X scope s3.heap.objs.size) s3.heap.objs.size X.env:=by rw [<-hX'];rfl
 have fpx:∀{H':Hp},(∀b∈fp,H' b=none)->∀b∈fp,dG X' [] H' b:=λ{H'} hn b hb=>by
  refine⟨hn b hb,?_,?_,.inl ?_,?_,?_⟩
  ·rw [eEnv];exact Ec (lt3 b hb)
  ·have:=I4.ok.exfs b (by rw [<-hX'];exact hb);exact this
  ·rw [<-hX'];exact hb
  ·have:=I4.ok.exf b (by rw [<-hX'];exact hb);exact this.2
  ·intro p hp;rw [<-hX'] at hp;simp [aO] at hp
 have fin:∀(s':Kf)(H':Hp)(σ':St),aa X' [] σ' H' s'->Q (.ref D) H'->compPost (Ki X.prog X.w) X.A X.xe use Q' (.ref D) s3.heap.objs.size (.ok .next) s':=λs' H' σ' J q=>by
  have un:Un (az X.stack) fp (ai H2 D (.lst [])) H' s3.heap s'.heap:=by have:=J.base;rw [<-hX'] at this;exact this
  have jos:s'.os=s3.os:=by have:=J.os;rw [<-hX'] at this;exact this
  have hC:H' s3.heap.objs.size=none:=by have:=J.free;rw [eEnv] at this;exact this
  have hok':aU X.prog X.w H' s'.heap:=by have:=J.hok;rw [eP,eW] at this;exact this
  have d6:∀h',GI s3.heap.objs.size s'.heap h'->aa X LL σ H' {s' with heap:=h'}:=λh' hs'=>by
   have un':Un (az X.stack) fp (ai H2 D (.lst [])) H' s3.heap h':=
    ⟨λb o e n h1 h2=>hs'.extBut b o (Ec (DV e)) (un.keep b o e n h1 h2),λb o e n h1 h2=>by
     obtain⟨sl,z⟩:=un.slot b o e n h1 h2;exact⟨sl,hs'.extBut b _ (Ec (DV e)) z⟩,un.free,λb o e h2=>by
     obtain⟨o',z⟩:=un.there b o e h2;exact⟨o',hs'.extBut b o' (Ec (DV e)) z⟩,un.tups,un.frzs,un.tbls⟩
   exact aa.call' (s':={s' with heap:=h'}) I3 jos un' (hok'.but hC hs'.extBut) J.bare λb hb=>⟨(f3 b hb).2.2.2.1,(f3 b hb).2.1,(f3 b hb).2.2.2.2.1,(f3 b hb).2.2.2.2.2⟩
  have nsC:∃m,s'.heap.Ns s3.heap.objs.size m:=by
   obtain⟨m,hn,_⟩:=J.loc;rw [eEnv] at hn;exact⟨m,hn⟩
  exact hQ D s3.heap.objs.size s' H' (GJ I3.lt) (d6 s'.heap (.refl ..)) d6 q nsC I3.lt
   ⟨hC,λx c e=>by obtain⟨v,o,ho,_⟩:=I3.cell x c e;exact Ec (DV ho),λp hp=>Ec (DV (I3.pin p hp).1)⟩
 have loop:∀s4:Kf,s4=({s3 with heap:=h₁}:Kf)->
  K3 (Ki X.prog X.w) X.A (.compLoop (.ListComp elt [⟨tg,iter,ifs,0⟩] scope pos) 0 (.ref it) (.ref D) X'.env) (compPost (Ki X.prog X.w) X.A X.xe use Q' (.ref D) s3.heap.objs.size) s4:=by
  rintro s4 rfl;refine xX (λn s'=>∃i H',aa X' [] (aG k fr σ) H' s'/\tn i s'.heap/\(∀b∈fp,H' b=none)/\W i n H') ?_ m0 ⟨0,_,I4,st4,λb hb=>(f3 b hb).1,w0⟩;rintro n s5 ⟨i,H5,I5,st5,fr5,w5⟩;rcases turn i n H5 w5 with⟨stop,qn⟩ | ⟨go,step⟩
  ·have:=T.done X' eP eW eK eC i [] s5 _ H5 (λ_ _=>False) I5 (fpx fr5) st5 stop;rw [eA] at this;refine ao this λr s6 ⟨hr,I6⟩=>?_;subst hr;exact fin s6 H5 _ I6 qn
  ·have:=T.item X' eP eW eK eC i [] s5 _ H5 (λ_ _=>False) I5 (fpx fr5) st5 go;rw [eA] at this;refine ao this λr s6 ⟨u,hr,h6⟩=>?_;subst hr;refine ao h6 λ_ s7 ⟨x,H7,I7,r7,y7,st7,fr7⟩=>?_;have I7':=I7.pinned (fpx fr7) (T.obj _ _ st7);have h8:=hg' _ s7 _ H7 x u _ I7' r7 (step x H7 y7);rw [eP,eW,eA,eE] at h8;refine ao h8 λ_ s8 ⟨σ8,H8,I8,kp,q8⟩=>?_;have h9:=hf' _ s8 σ8 H8 _ I8 q8;rw [eP,eW,eA,eE] at h9;have again:∀{s9:Kf}{H9:Hp}{n':Nat},aa X' ([]++nI fp s7.heap) σ8 H9 s9->n' < n->W (i+1) n' H9->∃m,m < n/\∃i H',aa X' [] (aG k fr σ) H' s9/\tn i s9.heap/\(∀b∈fp,H' b=none)/\W i m H':=λ{s9 H9 n'} I9 hn' w9=>by
    refine⟨n',hn',i+1,H9,I9.unpinned.weak kp.1 kp.2,T.keep _ _ _ st7 λb hb o e=>(I9.pin (b,o) (Ey _ (Ey _ (oB hb e)))).1,λb hb=>?_,w9⟩;obtain⟨o,e,d⟩:=T.obj _ _ st7 b hb;exact(I9.pin (b,o) (Ey _ (Ey _ (oB hb e)))).2.1
   refine ao h9 λok s9 ⟨H9,I9,q9⟩=>?_;cases ok with
   | false=>
    rw [J5 EI] at q9;obtain⟨m',hm',w9⟩:=q9;rw [J5 EI];exact again I9 hm' w9
   | true=>
    rw [J6 rfl] at q9;rw [J6 rfl];have h10:=he' _ s9 σ8 H9 _ I9 q9;rw [eP,eW,eA,eE] at h10;refine ao h10 λy s10 ⟨yv,H10,I10,r10,ys,hys,hz,m',hm',w10⟩=>?_;have h11:=tU (X:=X') _ s10 σ8 H10 (.ref D) [yv] (.ref D) [y] (λ_ H'=>W (i+1) m' H') I10 rfl (.cons r10 .nil) ⟨D,ys,yv,rfl,rfl,hys,hz,w10⟩;rw [eP,eW,eA,eE] at h11;exact ao h11 λ_ s11 uu50=>by obtain⟨_,H11,I11,_,q11⟩:=uu50;exact again I11 hm' q11
 have hE:({newEnv scope s3.heap.objs.size X.env.globals (oK X scope s3.heap.objs.size) X.env.qual none .none (some X.env) Le with scope:=relabel scope X.env}:Env)=X'.env:=by
  rw [eEnv];rfl
 have goal:=codeAny_compStart_list (elt:=elt) (target:=tg) (iter:=iter) (ifs:=ifs) (rest:=[]) (scope:=scope) (pos:=pos) (loop _ rfl) (T.self X.A 0 _ _ _ st4 (loop _ rfl));rw [<-hE] at goal;exact goal
theorem qI(hc:X.calm=true)(S:aQ X.env.scope X.N N' k fr scope)(hi:PI X tg iter wi)
 (hg:∀fp C s H,PG (aO X scope N' fp C s H) tg g)(hf:∀fp C s H,cD (aO X scope N' fp C s H) ifs tc)(he:∀fp C s H,PE (aO X scope N' fp C s H) elt te)
 (hs:∀x,Kt iter X.env x=pure x:=by intro _;rfl):PE X (.ListComp elt [⟨tg,iter,ifs,0⟩] scope pos) (lJ wi g tc te k fr):=by
 intro LL s σ H Q I h;have hcell:∀y∈scope.names,y.2= .free->∃c,X.env.cells.lookup y.1=some c:=λy hy e=>I.ok.has y.1 (S.outer y hy e);rw [eval_ListComp];refine LD (use:=none) rfl hs (qB hcell) S.kind S.names (tX hc S hi hg hf he I h ?_);intro D C s' H' hC J d6 q ns hlt _;obtain⟨m,hn⟩:=ns;exact⟨m,hn,λh' hs'=>⟨.ref D,H',d6 h' hs',rfl,q⟩⟩
theorem x6{i:Nat}{x:Str}{pos' spos:Pos}(hN:X.N.Nodup)(hxi:X.N[i]?=some x)(hx:fP X.env.scope x)(hc:X.calm=true)(S:aQ X.env.scope X.N N' k fr scope)(hi:PI X tg iter wi)
 (hg:∀fp C s H,PG (aO X scope N' fp C s H) tg g)(hf:∀fp C s H,cD (aO X scope N' fp C s H) ifs tc)(he:∀fp C s H,PE (aO X scope N' fp C s H) elt te)
 (hsw:KJ (.ListComp elt [⟨tg,iter,ifs,0⟩] scope pos) (some (.Name x pos')) spos.line X.env=pure true)
 (hs:∀x,Kt iter X.env x=pure x:=by intro _;rfl)(hfn:X.fn x=true\/X.env.scope.names.lookup x=some .local:=by first | exact .inl rfl | exact .inr rfl | assumption):
 PS X (.Assign [.Name x pos'] (.ListComp elt [⟨tg,iter,ifs,0⟩] scope pos) spos) (mL (lJ wi g tc te k fr) (fT i)):=by
 intro LL s σ H D I h;have hcell:∀y∈scope.names,y.2= .free->∃c,X.env.cells.lookup y.1=some c:=λy hy e=>I.ok.has y.1 (S.outer y hy e);rw [exec_Assign_Name_used _ _ _ _ hsw];refine Kd (wpAny_standAt (Kd ?_));show Kh _ X.A (do let _<-comprehension (.ListComp elt [⟨tg,iter,ifs,0⟩] scope pos) scope X.env _ (newList []) false (eval iter X.env) (some (assign (.Name x pos') X.env))) _ _ s;refine Kd (Ky (LD (use:=some (assign (.Name x pos') X.env)) (Q:=λ_ s'=>∃σ' H',aa X LL σ' H' s'/\D.nx σ' H') rfl hs (qB hcell) S.kind S.names (tX hc S hi hg hf he I h ?_)) (λ_ s' hq=>Kg (Kg hq)) λ_ _ e=>e);intro D' C s' H' hC J d6 q ns hlt ⟨c1,c2,c3⟩;obtain⟨m,hn⟩:=ns;show Kh _ X.A (assign (.Name x pos') X.env (.ref D')) _ _ _;refine wpAny_assign_Name (sS J hN hxi hx (v:= .ref D') rfl (λs2 J2 sb=>?_) hfn);obtain⟨a,sb,ha⟩:=sb;have hCa:C≠a:=by
  rcases ha with z | z
  ·rw [z];exact hC
  ·exact Ne.symm (c2 _ _ z)
 refine⟨m,hn.sameBut sb hCa,λh3 hs3=>⟨_,H',?_,q⟩⟩;exact J2.turned (t':=s2.toks) hs3.extBut c1 hC (.inr (EV J.ok.above (GX hlt))) c2 c3
end
end L2
namespace Att
open PySem PySem.W PySem.Calls PyProof.Rows
theorem x8{ns:List Int}(h:Jl [HV (ns.map GS)]=true):∀n∈ns,FA n<=1048576:=by
 have h1:(HV (ns.map GS)).layable=true:=by simpa [Jl] using h
 have h2:(HV (ns.map GS)).weight<=1048576:=(PySem.W.layableW_iff.mp h1).2.2;have key:∀l:List Int,∀n∈l,FA n<=Ha (l.map GS):=by
  intro l
  induction l with
  | nil=>intro n hn;simp at hn
  | cons x r ih=>
   intro n hn;have e:Ha ((x::r).map GS)=FA x+1+Ha (r.map GS):=by
    rw [D9,Ha,JJ];rfl
   rw [e];rcases D3.mp hn with z | z
   ·subst z;omega
   ·have:=ih n z;omega
 intro n hn;have e:(HV (ns.map GS)).weight=Ha (ns.map GS):=by rw [JJ]
 rw [e] at h2;exact EV (key ns n hn) h2
theorem attach_callB{l:OpenLaw}{n:Nat}{q:Kp}{loose:List Str}{XP:(Str->Option Kc)->Km->Prop}{YP:Kq->Km->Prop}{d:DefRec}
 (hn:l.most=some n)(hdf:d.params.defaults=[])
 (call:∀(w:Kq) (s₀ s₁:Kf) (mg mb:Str->Option Kc) (fa:Ke) (o:Obj) (pm cd doc:Kc) (a:Ke) (vs:List Kc) (ns:List Int),
  Ground q loose [] XP w s₀ mg mb s₁.heap->YP w s₁.heap->
  s₁.heap.get? fa=some o->o.data= .func (docDef d.name d.params d.body d.scope pm cd doc)->s₁.heap.CodeRec cd d.name->mg d.name=some (.ref fa)->
  s₁.heap.get? a=some {cls:= .type "list",data:= .seq vs.toArray}->IntsAre vs ns->ns.length<=n->(∀z∈ns,FA z<=1048576)->s₁.gens=#[]->
  K3 (Ki l.prog w) callerA (.call (.ref fa) ⟨[.ref a],[]⟩) (λr s'=>r= .ok (.ret (.bool true))/\OldK s₁.heap s'.heap/\s'.os=s₁.os/\Lf s'.gens) s₁):
 WalkO q loose XP YP l.row.toRowW d [] (λf vs=>JU f vs):=by
 intro w s₀ s₁ mg mb G Y fa o pm cd doc dV kV ho hd hcd hD hmg hg args vals as hpre hlay hrd hwl hlo;obtain rfl:dV= .none:=Dflts.none hD hdf;obtain rfl:kV= .none:=Dflts.noKw hD;obtain⟨a,vs,ns,rfl,rfl,hobj,hints,hlen⟩:=xP hn hpre hwl;have hb:∀z∈ns,FA z<=1048576:=x8 hlay;refine enter_call (KR (call w s₀ s₁ mg mb fa o pm cd doc a vs ns G Y ho (fd_plain hd) hcd hmg hobj hints hlen hb hg) λr s' hq=>?_);obtain⟨rfl,h2,h3,h4⟩:=hq;exact⟨.inl ⟨.bool true,.bool true,[],rfl,λ_=>rfl,.bool true,xQ l _,λ_=>⟨List.Pairwise.nil,λ_ hm=>(nomatch hm)⟩⟩,h2,h3,h4⟩
end Att
namespace L2
open PySem PySem.Spec PyProof.Rows
def mR(p:Ke)(H H':Hp):Prop:=∀b o,H b=some o->b≠p->H' b=some o
theorem ah.new{H:Hp}{p:Ke}{o:HO}(h:H p=none):ah H (ai H p o):=λb u e=>by rw [au (bV e h)];exact e
def FR(J:It)(g:TG)(tb:TS)(D:fQ)(σ:St)(H1:Hp):Prop:=∃W:Nat->Nat->St->Hp->Prop,(∃m,W 0 m σ H1)/\∀i m σ H,W i m σ H->
 (J.stop i H/\D.nx σ H)\/(J.go i H/\∃N:St->Hp->Prop,(∀σ' H',N σ' H'->∃m',m' < m/\W (i+1) m' σ' H')/\∀x H',J.yld i H x H'->g x σ H' λσ2 H2=>tb {D with nx:=N,ct:=N,bk:=D.nx} σ2 H2)
theorem tY{ta:TA}{g:TG}{tb:TS}:nH (qi ta) g tb=λD σ H=>ta σ H λvs H1=>∃j:Int,vs=[.int j]/\-(2 ^ 62)<=j/\j < 2 ^ 62/\FR (k8 0 j.toNat) g tb D σ H1:=rfl
theorem tZ{ta:TA}{g:TG}{tb:TS}:nH (tq ta) g tb=λD σ H=>ta σ H λvs H1=>∃i j:Int,vs=[.int i,.int j]/\(-(2 ^ 62)<=i/\i < 2 ^ 62/\-(2 ^ 62)<=j/\j < 2 ^ 62)/\FR (k8 i (j - i).toNat) g tb D σ H1:=rfl
theorem t5{K:DL}{tl:TE}{g:TG}{tb:TS}:nH (qf K tl) g tb=λD σ H=>tl σ H λx H1=>∃a,x= .ref a/\(∃xs,aI K H1 a xs)/\FR (nF K a) g tb D σ H1:=rfl
theorem t6{K:DL}{tl:TE}{g:TG}{tb:TS}:nH (qg K tl) g tb=λD σ H=>tl σ H λx H1=>∃a,x= .ref a/\(∃xs,aY K H1 a xs)/\FR (nG K a) g tb D σ H1:=rfl
def mS(J:It)(g:TG)(tc:TT)(te:TE)(k:Nat)(fr:List Nat)(σ:St)(H1:Hp)(Q:VK):Prop:=∀D,H1 D=none->∃W:Nat->Nat->Hp->Prop,(∃m,W 0 m (ai H1 D (.lst [])))/\∀i m H,W i m H->
 (J.stop i H/\Q (.ref D) H)\/(J.go i H/\∀x H',J.yld i H x H'->g x (aG k fr σ) H' λσ2 H2=>me (aG k fr σ) σ2/\tc σ2 H2 λok H3=>
  if ok=true then te σ2 H3 λy H4=>∃ys,H4 D=some (.lst ys)/\ys.length < Kl/\∃m',m' < m/\W (i+1) m' (ai H4 D (.lst (ys++[y])))
  else ∃m',m' < m/\W (i+1) m' H3)
theorem t7{ta:TA}{g:TG}{tc:TT}{te:TE}{k:Nat}{fr:List Nat}:lJ (qi ta) g tc te k fr=λσ H Q=>ta σ H λvs H1=>∃j:Int,vs=[.int j]/\-(2 ^ 62)<=j/\j < 2 ^ 62/\mS (k8 0 j.toNat) g tc te k fr σ H1 Q:=rfl
theorem t8{ta:TA}{g:TG}{tc:TT}{te:TE}{k:Nat}{fr:List Nat}:lJ (tq ta) g tc te k fr=λσ H Q=>ta σ H λvs H1=>∃i j:Int,vs=[.int i,.int j]/\(-(2 ^ 62)<=i/\i < 2 ^ 62/\-(2 ^ 62)<=j/\j < 2 ^ 62)/\mS (k8 i (j - i).toNat) g tc te k fr σ H1 Q:=rfl
theorem t9{K:DL}{tl:TE}{g:TG}{tc:TT}{te:TE}{k:Nat}{fr:List Nat}:lJ (qf K tl) g tc te k fr=λσ H Q=>tl σ H λx H1=>∃a,x= .ref a/\(∃xs,aI K H1 a xs)/\mS (nF K a) g tc te k fr σ H1 Q:=rfl
theorem ua{K:DL}{tl:TE}{g:TG}{tc:TT}{te:TE}{k:Nat}{fr:List Nat}:lJ (qg K tl) g tc te k fr=λσ H Q=>tl σ H λx H1=>∃a,x= .ref a/\(∃xs,aY K H1 a xs)/\mS (nG K a) g tc te k fr σ H1 Q:=rfl
theorem x9{fr:List Nat}{σ:St}{v:Option V}:me (aG 1 fr σ) ((aG 1 fr σ).set 0 v):=by
 refine⟨Ka,λi w h=>?_⟩;cases i with
 | zero=>simp [aG,D6] at h
 | succ i=>simpa [aG,D6] using h
theorem cxK{CX:cn}{P:Kp}{w:Kq}{K:DL}{mg:Str->Option Kc}{base:Km}{N:List Str}{qual:Str}{scope:Kz}{f:Ke}{cd:Kc}{A:Kr}{outer:List Env}{s:Kf}{H:Hp}{E:XK}:(aN CX P w K mg base N qual scope f cd A outer s H E).K=K:=rfl
theorem cmK{X:Cx}{scope:Kz}{N':List Str}{fp:List Ke}{C:Ke}{s:Kf}{H:Hp}:(aO X scope N' fp C s H).K=X.K:=rfl
theorem dM:Kw "isinstance"=some (.builtin "isinstance"):=td
theorem nR:Kw "int"=some (.type "int"):=td
theorem qJ:Kw "bool"=some (.type "bool"):=td
theorem yk:Kw "str"=some (.type "str"):=td
theorem lh:Kw "tuple"=some (.type "tuple"):=td
open PySem PySem.Spec PyProof.Rows PySem.W
def aJ(P:Kp)(w:Kq):cn:=λouter H s E ev s'=>∃(e:Ke)(cls a0:Kc)(B:Km)(H':Hp),ev= .ref e/\s'.os=s.os/\Lf s'.gens/\IS B outer e cls a0 s'.heap/\aU P w H' B/\
 Un (az outer) [] H H' s.heap s'.heap/\(∀b o,s.heap.get? b=some o->H b=none->b ∉ az outer->B.get? b=some o)/\(∀b o,s.heap.get? b=some o->b ∉ az outer->∃o',B.get? b=some o')/\E cls none H'
theorem aU.hide{P:Kp}{w:Kq}{H:Hp}{h:Km}{as:List Ke}(x:aU P w H h)(hn:∀b∈as,H b=none):aU P w H (hideAll h as):=λa o e=>by
 refine(x a o e).stay (λb u hb q=>Li _ q λhm=>?_) (λ_ q=>q) (λ_ _ q=>q) λ_ _ q=>q;have z:=hn b hm;rcases hb with r | r
 ·rw [r] at z;rw [z] at e;cases e
 ·rw [z] at r;cases r
section
variable {P:Kp} {w:Kq} {K:DL} {mg:Str->Option Kc} {base:Km} {N:List Str} {qual:Str} {scope:Kz} {f:Ke} {cd:Kc} {A:Kr} {outer:List Env} {s:Kf} {H:Hp} {E:XK}
theorem yo{LL:List (Ke×Obj)}{σ:St}{H1:Hp}{s1:Kf}{h':Km}{e:Ke}{cls:Kc}{args:List Kc}
 (I:aa (aN (aJ P w) P w K mg base N qual scope f cd A outer s H E) LL σ H1 s1)(hx:JA s1.heap h' e cls args)(q:E cls none H1):
 (aN (aJ P w) P w K mg base N qual scope f cd A outer s H E).xe (.ref e) {s1 with heap:=h'}:=by
 have st:=I.stack;have sf:=I.stkFree;have ub:Un (az outer) [] H H1 s.heap s1.heap:=I.base;have fo:s1.heap.FunFrames base outer:=I.funs;have hin:∀env∈(aN (aJ P w) P w K mg base N qual scope f cd A outer s H E).stack,∀a,env.frame=some a->a∈az (aN (aJ P w) P w K mg base N qual scope f cd A outer s H E).stack:=λenv he a hf=>GR.mpr ⟨env,he,hf⟩;show Kh (Ki P w) _ (leaving _ (.ref e)) _ _ _;refine wpAny_leaves_madeW (base:=hideAll s1.heap (az (aN (aJ P w) P w K mg base N qual scope f cd A outer s H E).stack)) (h:=s1.heap) I.ok.frames rfl (λb o z=>of_hideAll _ z) (funFrames_hide st hin) hx λh2 t x1 x2 x3 x4=>?_;have nst:∀b o,s.heap.get? b=some o->b ∉ az outer->b ∉ az (aN (aJ P w) P w K mg base N qual scope f cd A outer s H E).stack:=λb o eb hb hm=>by
  rcases D3.mp (I.stkSub b hm) with z | z
  ·have h1:=DV eb;have h2:=I.ok.above;rw [<-z] at h2;exact absurd (D8 h1 h2) (ET _)
  ·exact hb z
 have up:∀b∈az outer,∀o,s1.heap.get? b=some o->∃sl,h2.get? b=some {o with slots:=sl}:=λb hb o eo=>by
  obtain⟨_,o',ho',hd⟩:=fo.mem hb;rw [eo] at ho';cases ho';exact x4 b o (hx.keeps _ _ eo) hd
 refine⟨e,cls,.ref t,_,H1,rfl,I.os,I.bare,x1,I.hok.hide sf,⟨λb o eb n hb hx'=>?_,λb o eb n hb hx'=>?_,ub.free,λb o eb hx'=>?_,ub.tups,ub.frzs,ub.tbls⟩,λb o eb n hb=>?_,λb o eb hb=>?_,q⟩
 ·exact x1.1 b o (Li _ (ub.keep b o eb n hb hx') (nst b o eb hb))
 ·obtain⟨sl,es⟩:=ub.slot b o eb n hb hx';obtain⟨sl',es'⟩:=up b hb _ es;exact⟨sl',es'⟩
 ·obtain⟨o',eo'⟩:=ub.there b o eb hx';by_cases hb:b∈az outer
  ·obtain⟨sl',es'⟩:=up b hb _ eo';exact⟨_,es'⟩
  ·exact⟨o',x1.1 b o' (Li _ eo' (nst b o eb hb))⟩
 ·exact Li _ (ub.keep b o eb n hb Ka) (nst b o eb hb)
 ·obtain⟨o',eo'⟩:=ub.there b o eb Ka;exact⟨o',Li _ eo' (nst b o eb hb)⟩
theorem yp{E':XK}(hE:∀cls d H',E' cls d H'->E cls d H'):nN (aJ P w) (aN (aJ P w) P w K mg base N qual scope f cd A outer s H E) E':=by
 intro LL σ H1 s1 ev s2 I h;obtain⟨e,cls,a0,B,H2,rfl,ho,hg,fl,hb,un,kb,th,q⟩:=h;have ub:Un (az outer) [] H H1 s.heap s1.heap:=I.base;have stk:(aN (aJ P w) P w K mg base N qual scope f cd A outer s H E).stack=K5 qual scope s.heap.objs.size f cd::outer:=rfl;show Kh (Ki P w) _ (leaving _ (.ref e)) _ _ _;refine wpAny_leaves_onW I.ok.frames rfl fl λh2 x1 x2=>?_;have nst:∀b o,s.heap.get? b=some o->b ∉ az outer->b ∉ az (aN (aJ P w) P w K mg base N qual scope f cd A outer s H E).stack:=λb o eb hb hm=>by
  rcases D3.mp (I.stkSub b hm) with z | z
  ·have h1:=DV eb;have h2:=I.ok.above;rw [<-z] at h2;exact absurd (D8 h1 h2) (ET _)
  ·exact hb z
 have sub:∀b∈az outer,b∈az (aN (aJ P w) P w K mg base N qual scope f cd A outer s H E).stack:=λb hb=>by
  rw [stk];unfold az;rw [GN];exact Ep _ hb
 have up:∀b∈az outer,∀o,s2.heap.get? b=some o->∃sl,h2.get? b=some {o with slots:=sl}:=λb hb o eo=>by
  obtain⟨_,o',ho',hd⟩:=fl.2.2.1.mem (sub b hb);rw [eo] at ho';cases ho';exact x2 b o eo hd
 have kB:∀b o,s.heap.get? b=some o->H b=none->b ∉ az outer->B.get? b=some o:=λb o eb n hb=>kb b o (ub.keep b o eb n hb Ka) (ub.free b o eb n Ka) (nst b o eb hb);have tB:∀b o,s.heap.get? b=some o->b ∉ az outer->∃o',B.get? b=some o':=λb o eb hb=>by
  obtain⟨o',eo'⟩:=ub.there b o eb Ka;exact th b o' eo' (nst b o eb hb)
 refine⟨e,cls,a0,B,H2,rfl,ho.trans I.os,hg,x1,hb,⟨λb o eb n hb' hx'=>x1.1 b o (kB b o eb n hb'),λb o eb n hb' hx'=>?_,λb o eb n hx'=>?_,λb o eb hx'=>?_,λb xs z=>un.tups b xs (ub.tups b xs z),λb o u z=>un.frzs b o u (ub.frzs b o u z),λb ps z=>?_⟩,kB,tB,hE _ _ _ q⟩
 ·obtain⟨sl,es⟩:=ub.slot b o eb n hb' hx';obtain⟨sl1,es1⟩:=un.slot b _ es (ub.free b o eb n hx') (sub b hb') Ka;obtain⟨sl2,es2⟩:=up b hb' _ es1;exact⟨sl2,es2⟩
 ·obtain⟨o',eo'⟩:=ub.there b o eb hx';exact un.free b o' eo' (ub.free b o eb n hx') Ka
 ·by_cases hb':b∈az outer
  ·obtain⟨o',eo'⟩:=ub.there b o eb hx';obtain⟨o2,eo2⟩:=un.there b o' eo' Ka;obtain⟨sl',es'⟩:=up b hb' _ eo2;exact⟨_,es'⟩
  ·obtain⟨o',eo'⟩:=tB b o eb hb';exact⟨o',x1.1 b o' eo'⟩
 ·obtain⟨m1,e1⟩:=ub.tbls b ps z;obtain⟨m2,e2⟩:=un.tbls b _ e1;exact⟨m1++m2,by rw [e2,HH]⟩
end
theorem qK{K:DL}{h:Km}{mg:Str->Option Kc}{x:Str}{C:Ke}{bmB:List Kc}{newId:String}(X:K.In h)(hm:mg x=some (.ref C))(q:F0 K C bmB newId=true):OwnCls x C bmB newId mg h:=by
 refine⟨hm,?_⟩;unfold F0 at q;split at q
 ·rename_i dd cd sl ho;split at q
  ·rename_i C' bm k0 k1 k2 k3 n k5 hm hs;simp only [F5,beq_iff_eq,EH] at q;obtain⟨⟨⟨⟨⟨rfl,rfl⟩,hdel⟩,ht⟩,hok⟩,hni⟩:=q;obtain⟨nm,bs,mro,ns,qn,hd,sn,sub,ab,col,del⟩:=cd;dsimp only at hm hdel hok hni;subst hm hdel;have hsl:sl=#[k0,k1,k2,k3,some (.builtin n),k5]:=by
    obtain⟨l⟩:=sl;simp only at hs;rw [hs]
   subst hsl;exact⟨bm,ns,nm,qn,bs,hd,sn,sub,ab,col,dd,k0,k1,k2,k3,k5,_,X _ _ ho,.of_isNs (isNs_of_in X hok),nsMap_none_of_in X hok hni,tail_of_in X ht⟩
  ·cases q
 ·cases q
section
variable {X:Cx}
def uc(ta:TA)(Ex:Hp->Prop):TS:=λ_ σ H=>ta σ H λvs H1=>vs.length<=Kl/\Ex H1
theorem yq{x:Str}{C:Ke}{bm:List Kc}{B newId initId:String}{e:Kk}{es:List Kk}{np cpos pos:Pos}{ta:TA}{Ex:Hp->Prop}(hm:X.mg x=some (.ref C))(O:F0 X.K C bm newId=true)(FB:ExcBaseFacts B newId initId bm)(hc:X.calm=true)
 (hg:Gl X x)(ha:PA X (e::es) ta)(hxe:∀(LL:List (Ke×Obj)) (σ:St) (H:Hp) (s:Kf) (h':Km) (e:Ke) (args:List Kc),aa X LL σ H s->JA s.heap h' e (.ref C) args->Ex H->X.xe (.ref e) {s with heap:=h'})
 (hd:(x==("__debug__":Str))=false:=by decide)(he:Kj (e::es) X.env=(false,eval e X.env)::Kj es X.env:=by rfl)(hpl:(KA cpos (Kj es X.env)).any (·.1)=false:=by rfl):
 PS X (.Raise (some (.Call (.Name x np) (e::es) [] cpos)) none pos) (uc ta Ex):=by
 intro LL s σ H D I h;obtain⟨tl,N,nm,q,bs,hdct,sn,sub,ab,col,dd,k0,k1,k2,k3,k5,mN,hC,hN,hni,T⟩:=(qK (x:=x) I.ok.mod.kin hm O).obj;have h':=ha cpos LL s σ H _ I h;refine wpAny_Raise_call_subT (C:=C) (nm:=nm) (q:=q) (N:=N) (bs:=bs) (bm:=tl) (hdct:=hdct) (sn:=sn) (sub:=sub) (ab:=ab) (col:=col) (dd:=dd) (k0:=k0) (k1:=k1) (k2:=k2) (k3:=k3) (k5:=k5)
  FB (mN:=mN) (T.hasType FB.hasBase) (I.ok.hd hc) (by rw [he];show(false || (KA cpos (Kj es X.env)).any (·.1))=false;rw [hpl];rfl) hni (mH I hg hm ⟨rfl,?_⟩ hd)
 rw [he] at h'⊢;refine IA (ao h' λus s1 uu51=>by obtain⟨vs,H1,I1,r,hz,q1⟩:=uu51;exact⟨rfl,by rw [<-r.length];exact hz,I1.bk _ _ hC,hN.keeps I1.bk,T.keeps I1.bk,λh2 e2 hm2=>hxe LL σ H1 s1 h2 e2 us I1 hm2 q1⟩)
end
section
variable {P:Kp} {w:Kq} {K:DL} {mg:Str->Option Kc} {base:Km}
theorem cw.okR{x qual:Str}{st:Ks}{f:Ke}{fd:Ko}{N ps:List Str}{k:Nat}{sp:Sp}(F:cw K x qual st f fd)(S:bb N ps (av st))(len:∀vs H Q E,sp vs H Q E->vs.length=ps.length)
 (hbody:∀(cdv:Kc) (A:Kr) (outer:List Env) (s:Kf) (H:Hp) (vs:List V) (Q:VK) (E:XK),aH k (A.deeper (K5 qual (av st) s.heap.objs.size f cdv))->sp vs H Q E->
  ∃t,bg (aN (aJ P w) P w K mg base N qual (av st) f cdv A outer s H E) (cU st) t/\t {nx:=λ_ H'=>Q .non H',rt:=Q} (start N vs) H):ay P w K mg base (aJ P w) (k+1) f fd ps sp:=by
 obtain⟨oc,od,kV,doc,pm,an,cdv,ct,osl,rfl,lk,hcd⟩:=F.ex;exact qy lk hcd S len λA outer s H vs Q E hr hsp=>hbody cdv A outer s H vs Q E hr hsp
end
section
variable {M:Model} {A:Kr} {E:Kc->Kf->Prop}
variable {nm q:Str} {C N:Ke} {bs bm:List Kc} {hdct:Bool} {sn:List Str} {sub:List Kc} {ab:Bool} {col:Option Bool} {dd:Option Ke} {k0 k1 k2 k3 k5:Option Kc} {newId:String}
variable {nm' q':Str} {C' N':Ke} {bs' bm':List Kc} {hdct':Bool} {sn':List Str} {sub':List Kc} {ab':Bool} {col':Option Bool} {dd':Option Ke} {k0' k1' k2' k3' k5':Option Kc} {newId':String}
theorem yr{h:Km}{g:Array LJ}{d:Drawn}{t:Nat}{os:OsState}{e:Ke}{oe:Obj}{Q:Bool->Kf->Prop}
 (hC:h.get? C=some (excClassObj nm q C N bs bm hdct sn sub ab col dd k0 k1 k2 k3 k5 newId))(hC':h.get? C'=some (excClassObj nm' q' C' N' bs' bm' hdct' sn' sub' ab' col' dd' k0' k1' k2' k3' k5' newId'))
 (he:h.get? e=some oe)(hcls:oe.cls= .ref C)(hbase:bm'.contains (.type "BaseException")=true)(hin:(EF C::bm).contains (.ref C')=true)
 (hq:Q true ⟨h,g,d,t,os⟩):Kh M A (excMatches (.ref e) (.ref C')) Q E ⟨h,g,d,t,os⟩:=by
 have hcB:(EF C'::bm').contains (.type "BaseException")=true:=by rw [IT,hbase,JK]
 have f:=tc_notTuple;unfold excMatches
 repeat (first | (with_reducible refine wpAny_loadPart_at he ?_;rw [hcls]) | with_reducible refine wpAny_loadPart_at hC' ?_ | (with_reducible refine wpAny_isSubtype_exc hC' ?_;rw [hcB]) | (with_reducible refine wpAny_isSubtype_exc hC ?_;rw [hin]) | wp_step)
 exact hq
end
section
variable {X:Cx} {LL:List (Ke×Obj)} {σ:St} {H:Hp} {s:Kf}
theorem ue{M:Model}{A:Kr}{E:Kc->Kf->Prop}{i:Nat}{x:Str}{pos:Pos}{Q:Unit->Kf->Prop}(I:aa X LL σ H s)(hN:X.N.Nodup)(hi:X.N[i]?=some x)(hx:X.env.scope.names.lookup x=some .local)
 (h:∀s',aa X LL (σ.set i none) H s'->Q () s'):Kh M A (do bindName X.env x .none;unbindBehindTheSuite X.env x pos) Q E s:=by
 have hcls:(X.env.scope.kind== .class || (X.env.scope.kind== .module && X.env.locals !=X.env.globals))=false:=by rw [I.ok.kind];rfl
 have hiσ:i < σ.length:=by rw [I.len];exact(DZ.mp hi).1
 refine Kd (wpAny_bindName (ox I hN hi (.inl hx) (v:= .non) rfl (λs1 I1=>?_) (.inr hx)));obtain⟨m,hn,hl⟩:=id I1.loc;obtain⟨u0,r0,lk⟩:=hl i x .non hi (by rw [EC hiσ]) (.inl hx);have hv:∃v,m x=some v:=by
  rcases lk with⟨_,z⟩ | ⟨z,_⟩
  ·exact⟨_,z⟩
  ·rcases z with z | z
   ·exact absurd (z.symm.trans hx) Ka
   ·exact absurd (z.symm.trans hx) Ka
 obtain⟨v,hv⟩:=hv;unfold unbindBehindTheSuite;refine wpAny_onRaise (Ky (wpAny_unbindName_local (E:=λ_ _=>False) hx hn hv hcls λh' u hn' hs=>?_) (λ_ _ z=>z) λ_ _ z=>z.elim);obtain⟨oL,_,_,hoL,_⟩:=id hn;have cne:=I1.cne;have tracked:aU X.prog X.w H h':=λb ob e=>by
  refine(I1.hok b ob e).stay (λc w' hc q=>(hs.2 c ?_).trans q) (λ_ q=>q) (λ_ _ q=>q) λ_ _ q=>q;rintro rfl;rcases hc with z | hc
  ·rw [<-z,I1.free] at e;cases e
  ·rw [I1.free] at hc;cases hc
 refine h _ ⟨I1.ok,I1.os,I1.bare,⟨λb o e n hb hx'=>?_,λb o e n hb hx'=>?_,I1.base.free,λb o e hx'=>?_,I1.base.tups,I1.base.frzs,I1.base.tbls⟩,⟨_,hn',λj y v' e1 e2 e3=>?_⟩,λy c e=>?_,I1.free,I1.freeC,λp hp=>?_,tracked,by simpa using I.len⟩
 ·exact(hs.2 b (Ec (D8 (DV e) I.ok.above))).trans (I1.base.keep b o e n hb hx')
 ·obtain⟨sl,e1⟩:=I1.base.slot b o e n hb hx';exact⟨sl,(hs.2 b (Ec (D8 (DV e) I.ok.above))).trans e1⟩
 ·obtain⟨o',e1⟩:=I1.base.there b o e hx';exact⟨o',(hs.2 b (Ec (D8 (DV e) I.ok.above))).trans e1⟩
 ·by_cases hj:j=i
  ·subst hj;rw [EC hiσ] at e2;cases e2
  ·rw [El (Ne.symm hj)] at e2;obtain⟨u',r',q⟩:=hl j y v' e1 (by rw [El (Ne.symm hj)];exact e2) e3;refine⟨u',r',?_⟩;rcases q with⟨k,e⟩ | ⟨k,c,e,z⟩
   ·refine .inl ⟨k,?_⟩;have:y≠x:=λe=>hj (pQ hN e1 (e▸hi));simp [this,e]
   ·exact .inr ⟨k,c,e,z.sameBut hs (cne y c e)⟩
 ·obtain⟨w',z⟩:=I1.cell y c e;exact⟨w',z.sameBut hs (cne y c e)⟩
 ·obtain⟨e,n,ne,nf,d⟩:=I1.pin p hp;exact⟨(hs.2 p.1 ne).trans e,n,ne,nf,d⟩
end
def br(e:Ke)(C:Kc)(h:Km):Prop:=∃o,h.get? e=some o/\o.cls=C
theorem bz.there{P:Kp}{w:Kq}{H:Hp}{h:Km}{a:Ke}{o:HO}(x:bz P w H h a o):∃ob,h.get? a=some ob:=by
 cases o with
 | lst xs=>obtain⟨_,_,_,_,e⟩:=x;exact⟨_,e⟩
 | tup xs=>obtain⟨_,_,_,ob,e,_⟩:=x;exact⟨_,e⟩
 | dK kvs=>obtain⟨_,_,_,_,o,_,_,e,_⟩:=x;exact⟨_,e⟩
 | dT kvs=>obtain⟨_,_,_,_,o,_,_,e,_⟩:=x;exact⟨_,e⟩
 | set S n=>obtain⟨o,_,_,_,e,_⟩:=x;exact⟨_,e⟩
 | ins C dx fs=>obtain⟨_,_,_,e,_⟩:=x;exact⟨_,e⟩
 | own y=>exact x
 | xd fs=>obtain⟨_,⟨_,_,_,e,_⟩,_⟩:=x;exact⟨_,e⟩
 | rng lo hi=>obtain⟨_,_,_,e⟩:=x;exact⟨_,e⟩
 | frz ob u=>obtain⟨e,_⟩:=x;exact⟨_,e⟩
 | tbl ps=>obtain⟨_,_,_,_,e,_⟩:=x;exact⟨_,e⟩
 | cod q=>obtain⟨_,_,_,e,_⟩:=x;exact⟨_,e⟩
 | met f y=>exact⟨_,(show h.get? a=some _ from x)⟩
 | ext φ=>exact x.2.1
theorem uf{X:Cx}{outer:List Env}{H H':Hp}{h h1 h2 B:Km}{e:Ke}{cls a0:Kc}(un:Un (az outer) [] H H' h h1)(fl:IS B outer e cls a0 h1)(st:B.StaysIn h2)(sm:h1.UpToSlots h2)
 (kb:∀b o,h.get? b=some o->H b=none->b ∉ az outer->B.get? b=some o)(th:∀b o,h.get? b=some o->b ∉ az outer->∃o',B.get? b=some o'):Un (az outer) [] H H' h h2:=by
 have up:∀b∈az outer,∀o,h1.get? b=some o->∃sl,h2.get? b=some {o with slots:=sl}:=λb hb o eo=>by
  obtain⟨_,o',ho',hd⟩:=fl.2.2.1.mem hb;rw [eo] at ho';cases ho';exact sm b o eo hd
 refine⟨λb o eb n hb _=>st b o (kb b o eb n hb),λb o eb n hb hx=>?_,un.free,λb o eb hx=>?_,un.tups,un.frzs,un.tbls⟩
 ·obtain⟨sl,es⟩:=un.slot b o eb n hb hx;obtain⟨sl',es'⟩:=up b hb _ es;exact⟨sl',es'⟩
 ·by_cases hb:b∈az outer
  ·obtain⟨o',eo'⟩:=un.there b o eb hx;obtain⟨sl',es'⟩:=up b hb _ eo';exact⟨_,es'⟩
  ·obtain⟨o',eo'⟩:=th b o eb hb;exact⟨o',st b o' eo'⟩
abbrev Cx.inEx(X:Cx)(e:Ke):Cx:={X with A:=X.A.mark (some (.ref e)),calm:=false,xe:=λ_ _=>False}
theorem Cx.Ok.inEx{X:Cx}(ok:X.Ok)(e:Ke):(X.inEx e).Ok:=
 ⟨ok.mod,ok.kind,ok.glob,ok.blt,ok.above,ok.inj,ok.has,ok.cab,λz=>absurd z Ka,ok.frames,ok.stk,ok.exf,ok.bs,ok.bsz,ok.noex,ok.exfs,ok.funs,ok.frf⟩
theorem Cx.Ok.outEx{X:Cx}{e:Ke}(ok:(X.inEx e).Ok)(hd:X.calm=true->X.A.handled=none):X.Ok:=
 ⟨ok.mod,ok.kind,ok.glob,ok.blt,ok.above,ok.inj,ok.has,ok.cab,hd,ok.frames,ok.stk,ok.exf,ok.bs,ok.bsz,ok.noex,ok.exfs,ok.funs,ok.frf⟩
section
variable {X:Cx} {LL:List (Ke×Obj)} {σ:St} {H:Hp} {s:Kf}
theorem aa.inEx(I:aa X LL σ H s)(e:Ke):aa (X.inEx e) LL σ H s:=⟨I.ok.inEx e,I.os,I.bare,I.base,I.loc,I.cell,I.free,I.freeC,I.pin,I.hok,I.len⟩
theorem aa.outEx{e:Ke}(I:aa (X.inEx e) LL σ H s)(hd:X.calm=true->X.A.handled=none):aa X LL σ H s:=⟨I.ok.outEx hd,I.os,I.bare,I.base,I.loc,I.cell,I.free,I.freeC,I.pin,I.hok,I.len⟩
end
theorem yt{K:DL}{h:Km}{C C':Ke}{nm qn:Str}{N:Ke}{bs bm:List Kc}{hdct:Bool}{sn:List Str}{sub:List Kc}{ab:Bool}{col:Option Bool}{dd:Option Ke}{k0 k1 k2 k3 k5:Option Kc}{newId:String}(X:K.In h)(e:Gy K C (.ref C')=some true)
 (hC:h.get? C=some (excClassObj nm qn C N bs bm hdct sn sub ab col dd k0 k1 k2 k3 k5 newId)):(EF C::bm).contains (.ref C')=true:=by
 obtain⟨cd,a,b⟩:=Option.bind_eq_some_iff.mp e;unfold PySem.W.clsIn at a;split at a
 ·rename_i ho;cases a;have z:=(X _ _ ho).symm.trans hC;have z1:cd.mro=EF C::bm:=by unfold excClassObj at z;cases z;rfl
  split at b
  ·cases b
  ·rw [z1] at b;exact ED b
 ·cases a
section
variable {X:Cx}
theorem yu{bs:List Bool}{its:List Kc}(r:aq (bs.map V.bl) its):its=bs.map GQ:=by
 induction bs generalizing its with
 | nil=>cases r;rfl
 | cons b bs ih=>
  rw [D9] at r;cases r with
  | cons r1 r2=>
   rw [D9,<-ih r2];exact congrArg (·::_) r1
theorem yw(bs:List Bool)(f:Nat->Bool)(h:∀i,i < bs.length->f i=bs.getD i true):(EZ bs.length).all f=bs.all id:=by
 rw [Bool.eq_iff_iff,Gi,Gi];constructor
 ·intro z b hb;obtain⟨i,hi,e⟩:=IH hb;have:=z i (GW.mpr hi);rw [h i hi,G8,D1 hi] at this;rw [<-e];exact this
 ·intro z i hi;have hi:=GW.mp hi;rw [h i hi,G8,D1 hi];exact z _ (FH hi)
theorem yx{bs:List Bool}{i:Nat}{v:Kc}(h:(bs.map GQ).toArray[i]?=some v):v= .bool (bs.getD i true):=by
 have h':(bs.map GQ)[i]?=some v:=by simpa using h
 rw [D7] at h';cases e:bs[i]? with
 | none=>rw [e] at h';cases h'
 | some b=>
  rw [e] at h';rw [G8,e];exact(ED h').symm
theorem yz{prog:Kp}{w:Kq}{A:Kr}{E:Kc->Kf->Prop}{s:Kf}{l:Ke}{items:Array Kc}{Q:Kc->Kf->Prop}(hl:s.heap.IsList l items)
 (h:∀s₂:Kf,s₂={s with heap:=s.heap.push {cls:= .type "list_iterator",data:= .fields #[.ref l,.int 0 0]}}->
  (s₂.heap.IsListIter s.heap.objs.size l 0/\s₂.heap.IsList l items)->l≠s.heap.objs.size->Q (.ref s.heap.objs.size) s₂):Kh (Ki prog w) A (pyIter (.ref l)) Q E s:=by
 have hlt:l < s.heap.objs.size:=by obtain⟨_,e,_⟩:=hl;exact DV e
 exact LB hl (h _ rfl ⟨⟨_,D5 _ rfl,rfl,rfl⟩,hl.push _⟩ (Ec hlt))
theorem yA(hc:X.calm=true):b7 X (.builtin "all") (λxs H Q=>∃(a:Ke)(bs:List Bool),xs=[.ref a]/\aI X.K H a (bs.map V.bl)/\Q (.bl (bs.all id)) H):=by
 intro LL s σ H xs us Q I r h;obtain⟨a,bs,rfl,hl,q⟩:=h;obtain⟨u,rfl,rx⟩:=fU r;cases rx;obtain⟨its,rv,p,hz⟩:=I.list hl;have hi:=yu rv;subst hi;refine call_all_walk (yz p.isList λs₂ e st hlI=>?_);subst e;refine⟨_,_,_,_,_,_,λi=>bs.getD i true,rfl,JV (A:=X.A.in1) (I.ok.hd hc) _ a hlI _,st,λi v s' Q' E' hP hq=>by rw [yx hP];exact KW hq,λh' tk hk=>?_⟩;have e:=yw bs (λi=>bs.getD i true) λ_ _=>rfl;have e2:(E4 GQ bs).toArray.size=bs.length:=Ka
 rw [e2,e];exact⟨.bl (bs.all id),H,I.kept (old_kept hk),rfl,q⟩
end
open PySem PySem.Spec PyProof.Rows PySem.W PySem.Calls PySem.Builtin.ObjectAttr PySem.Builtin PySem.Builtin.Getset_descriptor
section
variable {prog:Kp} {w:Kq} {A:Kr} {E:Kc->Kf->Prop} {s:Kf} {K:DL} {x C:Ke}
theorem br.type{M:Model}{h:Km}(p:br x (.ref C) h):Looks M h (typeOf (.ref x)) (.ref C):=by
 obtain⟨o,h1,h2⟩:=p;exact h2▸(Looks.ld h1).andThen .now
theorem yB{tp:Kc}{R:Result->Kf->Prop}(X:K.In s.heap)(p:br x (.ref C) s.heap)(hm:mroIn K C (.type "object")=some true)(hq:R (.ok (.ret (.ref C))) s):
 K3 (Ki prog w) A (.call (.builtin "getset_descriptor.__get__") ⟨[.builtin "object.__class__",.ref x,tp],[]⟩) R s:=by
 obtain⟨hh,gg,dr,tt,os⟩:=s;have LT:=br.type (M:=Ki prog w) p;have LM:=looks_mroIn (M:=Ki prog w) X hm;refine Lu KF.slot_gs.plain KF.entry_gs (KF.slot_gs.check _ _ _ _ _ _ _ _ KF.type_class (KF.args_gs _ _ _) ?_);unfold Builtin.«getset_descriptor.__get__» descrGet;rw [dga_obj];refine Kd (Kg ?_);unfold descrGetter descrCheckInstance descrNameAndClass isInstance;simp only [KF.owner_class]
 repeat lk
 refine⟨IU _ td,KU KF.entry_class ?_⟩;unfold Builtin.«object.__class__» shownTypeOf;(repeat lk);exact hq
structure dN (K:DL) (C:Ke):Prop where
 ga:findIn K (.ref C) "__getattribute__"=some (some (.builtin "BaseException.__getattribute__"))
 hk:findIn K (.ref C) "__getattr__"=some none
 cl:findIn K (.ref C) "__class__"=some (some (.builtin "object.__class__"))
 gt:specialIn K (.builtin "object.__class__") "__get__"=some (some (.builtin "getset_descriptor.__get__"))
 tk:takesIn K (.builtin "object.__class__")=some true
 ob:mroIn K C (.type "object")=some true
 be:mroIn K C (.type "BaseException")=some true
 cd:(clsIn K C).isSome=true
theorem yC{nameV:Kc}{Q:Unit->Kf->Prop}(Z:dN K C)(X:K.In s.heap)(p:br x (.ref C) s.heap)(hq:Q () s):
 Kh (Ki prog w) A (LG "BaseException.__getattribute__" ⟨[.ref x,nameV],[]⟩) Q E s:=by
 have hk:builtinKind "BaseException.__getattribute__"=some .slot:=td
 have hsp:splitId "BaseException.__getattribute__"=some ("BaseException","__getattribute__"):=td
 have ha:=F.args_bexc_ga (.ref x) nameV;have LI:Looks (Ki prog w) s.heap (isInstance (.ref x) (.type "BaseException")) true:=(br.type p).andThen (looks_mroIn X Z.be);simp only [LG,hk,hsp];refine Kd (LI.at ?_)
 repeat (first | wp_step)
 exact hq
theorem yD{tk:Tok}{Q:Fin->Kf->Prop}(Z:dN K C)(X:K.In s.heap)(p:br x (.ref C) s.heap)(hq:Q (.done (.ret (.ref C))) s):
 Kh (Ki prog w) A (Builtin.«object.__getattribute__» ⟨[.ref x,.str "__class__" tk],[]⟩) Q E s:=by
 obtain⟨hh,gg,dr,tt,os⟩:=s;have L0:=br.type (M:=Ki prog w) p;have L1:=looks_findIn (M:=Ki prog w) X Z.cl;have L2:=looks_specialIn (M:=Ki prog w) X Z.gt;have L3:=looks_takesIn (M:=Ki prog w) X Z.tk;have LF:Looks (Ki prog w) hh (PySem.Builtin.ObjectAttr.find (.ref x) (.ref C) "__class__") (.bind (.builtin "getset_descriptor.__get__") (.builtin "object.__class__")):=
  L1.andThen (L2.andThen ((show Looks (Ki prog w) hh (dataDescriptor? (some (.builtin "object.__class__")) (some (.builtin "getset_descriptor.__get__"))) (some (.builtin "getset_descriptor.__get__",.builtin "object.__class__")) from L3.andThen .now).andThen (Looks.tag .now)))
 unfold Builtin.«object.__getattribute__»
 repeat (first | with_reducible refine Kd (L0.at ?_) | with_reducible refine Kd (LF.at ?_) | wp_step)
 refine yB X p Z.ob ?_
 repeat (first | wp_step)
 exact hq
theorem yE{tk:Tok}{R:Result->Kf->Prop}(Z:dN K C)(X:K.In s.heap)(p:br x (.ref C) s.heap)(hq:R (.ok (.ret (.ref C))) s):
 K3 (Ki prog w) A (.call (.builtin "BaseException.__getattribute__") ⟨[.ref x,.str "__class__" tk],[]⟩) R s:=
 Lu F.excAttr_ValueError.ga.plain F.entry_bexc_ga (yC Z X p (yD Z X p hq))
theorem yF{tk:Tok}{Q:Kc->Kf->Prop}(Z:dN K C)(X:K.In s.heap)(p:br x (.ref C) s.heap)(hq:Q (.ref C) s):
 Kh (Ki prog w) A (getAttrBy (.ref x) (.str "__class__" tk) false) Q E s:=by
 obtain⟨hh,gg,dr,tt,os⟩:=s;have L0:=br.type (M:=Ki prog w) p;have L1:=looks_findIn (M:=Ki prog w) X Z.ga;have L2:=looks_findIn (M:=Ki prog w) X Z.hk;have f3:=F.excAttr_ValueError.ga.bind (.ref x);have hx0:(false && onTheHeap (Hv "BaseException.__getattribute__"))=false:=rfl;have hx2:(Hv "BaseException.__getattribute__"==Hv "object.__getattribute__")=false:=td
 have hx1:(onTheHeap (EF C) && Hv "BaseException.__getattribute__"==Hv "object.__getattribute__")=false:=by rw [hx2];rfl
 repeat (first | with_reducible refine Kd (L0.at ?_) | with_reducible refine Kd (L1.at ?_) | with_reducible refine L2.at ?_ | wp_step)
 refine yE (s:=⟨hh,gg,dr,tt,os⟩) Z X p ?_
 repeat (first | wp_step)
 exact hq
theorem yG{Q:Option Kc->Kf->Prop}(Z:dN K C)(X:K.In s.heap)(p:br x (.ref C) s.heap)(hq:Q (some (.ref C)) {s with toks:=s.toks+1}):
 Kh (Ki prog w) A (getAttr? (.ref x) "__class__") Q E s:=by
 obtain⟨hh,gg,dr,tt,os⟩:=s;unfold getAttr? getAttrBy?
 repeat (any_goals (first | assumption | with_reducible apply yF (s:=⟨hh,gg,dr,tt+1,os⟩) Z X p | wp_step))
theorem ug(Z:dN K C):KitX K (.ref x) (.ref C) (br x (.ref C)) where
 ty:=λM h _ p=>br.type p
 it:=λM h X _=>by
  obtain⟨cdD,hcD⟩:=F8.mp Z.cd;unfold clsIn at hcD;split at hcD
  ·rename_i ho;intro A' Q' E' s' k q;unfold isType loadHead;exact Kd (wpAny_loadPart (k _ _ (X _ _ ho)) (Kg q))
  ·cases hcD
 ne:=λh tp dd its n sl X htp=>by
  obtain⟨cdD,hcD⟩:=F8.mp Z.cd;refine Bool.eq_false_iff.mpr λq=>?_;have e:=EF.inj (beq_iff_eq.mp q);subst e;unfold clsIn at hcD;split at hcD
  ·rename_i ho;have z:=(X _ _ ho).symm.trans htp;cases z
  ·cases hcD
 ca:=λX p k=>yG Z X p k
end
section
variable {X:Cx}
theorem yH:b7 X (.builtin "isinstance") (λxs H Q=>∃(e C:Ke)(c:V)(cv:Kc)(b:Bool),xs=[.ref e,c]/\H e=some (.ext (br e (.ref C)))/\dN X.K C/\(∀u,aD c u->u=cv)/\Hl X.K (.ref C) cv=some b/\Q (.bl b) H):=by
 intro LL s σ H xs us Q I r h;obtain⟨e,C,c,cv,b,rfl,he,Z,hc,hk,q⟩:=h;obtain⟨u,w',rfl,rx,rt⟩:=oG r;cases (show u=EF e from rx);have:=hc _ rt;subst this;have p:br e (.ref C) s.heap:=(show bz X.prog X.w H s.heap e (.ext (br e (.ref C))) from I.hok e _ he).1;exact PySem.W.kia_one (ug Z) I.kIn p hk (λz=>nomatch z) λtk=>⟨.bl b,H,I.tok tk,rfl,q⟩
end
section
variable {X:Cx}
abbrev bt(d:Kb):Prop:=Hf d=true
theorem yI{cs:List Ke}{its:List Kc}(r:aq (cs.map V.ref) its):its=cs.map EF:=by
 induction cs generalizing its with
 | nil=>cases r;rfl
 | cons b bs ih=>
  rw [D9] at r;cases r with
  | cons r1 r2=>
   rw [D9,<-ih r2];exact congrArg (·::_) r1
theorem yJ:b7 X (.builtin "isinstance") (λxs H Q=>∃(e C q:Ke)(cs:List Ke)(b:Bool),xs=[.ref e,.ref q]/\H e=some (.ext (br e (.ref C)))/\H q=some (.tup (cs.map V.ref))/\dN X.K C/\HG X.K (.ref C) (cs.map EF)=some b/\Q (.bl b) H):=by
 intro LL s σ H xs us Q I r h;obtain⟨e,C,q,cs,b,rfl,he,hq,Z,hk,k⟩:=h;obtain⟨u,w',rfl,rx,rt⟩:=oG r;cases (show u=EF e from rx);cases (show w'=EF q from rt);have p:br e (.ref C) s.heap:=(show bz X.prog X.w H s.heap e (.ext (br e (.ref C))) from I.hok e _ he).1;obtain⟨its,rv,⟨⟨oc,od,odt,osl⟩,eo,c,n,dd⟩,_⟩:=I.tuple (aY.of hq);have:=yI rv;subst this;simp only at c dd;subst c dd;exact PySem.W.kia_tup (ug Z) I.kIn p eo hk (λz=>nomatch z) λtk=>⟨.bl b,H,I.tok tk,rfl,k⟩
end
theorem yK:Kw "all"=some (.builtin "all"):=td
theorem yL:Kw "ValueError"=some (.type "ValueError"):=td
def yM(p:Ke)(h:Km):Prop:=∃(n:Int)(t:Tok)(k:Nat),h.get? p=some {cls:= .type "list",data:= .seq #[.int n t] k}
abbrev yN(p:Ke):HO:= .ext (yM p)
abbrev qL:Kb:= .dict [(.none,.none)]
def yO(p:Ke)(h:Km):Prop:=∃(a b c:Int)(t u v:Tok)(k:Nat),h.get? p=some {cls:= .type "list",data:= .seq #[.int a t,.int b u,.int c v] k}
abbrev yP(p:Ke):HO:= .ext (yO p)
abbrev yQ:Kb:= .dict [(.none,.bool true)]
abbrev cb(ds:List Kb):Kb:= .dict [(.none,.list ds)]
abbrev uh(C:Ke)(kp ds:List Kb):Kb:= .dict [(.none,.tuple [.int (C:Int),.list kp,.list ds])]
abbrev ui(kp ds:List Kb):Kb:= .dict [(.bool true,.tuple [.list kp,.list ds])]
abbrev Ex:=Ke->Prop
abbrev oN:Hp:=λ_=>none
mutual
inductive Dt (K:DL) (H:Hp) (O:Ex):V->Kb->Prop
 | non:Dt K H O .non .none
 | bl (b:Bool):Dt K H O (.bl b) (.bool b)
 | int (i:Int):Dt K H O (.int i) (.int i)
 | str (x:Str):Dt K H O (.str x) (.str x)
 | tup {a:Ke} {xs:List V} {ds:List Kb}:Rd H a (.tup xs)->¬O a->ag K H O xs ds->Dt K H O (.ref a) (.tuple ds)
 | tupK {a:Ke} {xs:List V} {ds:List Kb}:aY K oN a xs->ag K H O xs ds->Dt K H O (.ref a) (.tuple ds)
 | lst {a:Ke} {xs:List V} {ds:List Kb}:Rd H a (.lst xs)->¬O a->ag K H O xs ds->Dt K H O (.ref a) (.list ds)
 | pack {p:Ke}:H p=some (yN p)->¬O p->Dt K H O (.ref p) qL
 | purse {p:Ke}:H p=some (yP p)->¬O p->Dt K H O (.ref p) yQ
 | dct0 {a:Ke}:H a=some (.dK [])->¬O a->Dt K H O (.ref a) (.dict [])
 | obj {a C dx:Ke} {fs:List (Str×V)} {kp ds:List Kb}:H a=some (.ins C dx fs)->kp=fs.map (λp=>DW p.1)->¬O a->ag K H O (fs.map (·.2)) ds->Dt K H O (.ref a) (uh C kp ds)
 | dic {a:Ke} {ob:Obj} {kv:List (aA×V)} {ks:List Str} {kp ds:List Kb}:H a=some (.frz ob (.dK kv))->kv.map (·.1)=ks.map Hj->kp=ks.map DW->¬O a->ag K H O (kv.map (·.2)) ds->Dt K H O (.ref a) (ui kp ds)
 | scr {a:Ke} {xs:List V} {ds:List Kb}:(Rd H a (.lst xs)/\¬O a)\/aI K oN a xs->ag K H O xs ds->Dt K H O (.ref a) (cb ds)
inductive ag (K:DL) (H:Hp) (O:Ex):List V->List Kb->Prop
 | nil:ag K H O [] []
 | cons {v:V} {d:Kb} {vs:List V} {ds:List Kb}:Dt K H O v d->ag K H O vs ds->ag K H O (v::vs) (d::ds)
end
theorem Rd.same{H H':Hp}{a:Ke}{u:HO}(s:∀o,H a=some o->H' a=some o)(h:Rd H a u):Rd H' a u:=by
 rcases h with h | ⟨o,h⟩
 ·exact .inl (s _ h)
 ·exact .inr ⟨o,s _ h⟩
theorem Rd.trk{H:Hp}{a:Ke}{u:HO}(h:Rd H a u):H a≠none:=by
 rcases h with h | ⟨o,h⟩ <;> rw [h] <;> exact λz=>nomatch z
section
variable {K:DL}
structure aC (H H':Hp) (O O':Ex):Prop where
 keep:∀b o,H b=some o->¬O b->H' b=some o
 out:∀b,H b≠none->¬O b->¬O' b
mutual
theorem Dt.step{H H':Hp}{O O':Ex}(S:aC H H' O O'):∀{v:V}{d:Kb},Dt K H O v d->Dt K H' O' v d
 | _,_,.non=>.non
 | _,_,.bl b=>.bl b
 | _,_,.int i=>.int i
 | _,_,.str x=>.str x
 | _,_,.tup h n r=>.tup (h.same λo e=>S.keep _ o e n) (S.out _ h.trk n) (ag.step S r)
 | _,_,.tupK h r=>.tupK h (ag.step S r)
 | _,_,.lst h n r=>.lst (h.same λo e=>S.keep _ o e n) (S.out _ h.trk n) (ag.step S r)
 | _,_,.pack h n=>.pack (S.keep _ _ h n) (S.out _ (by rw [h];exact λz=>nomatch z) n)
 | _,_,.purse h n=>.purse (S.keep _ _ h n) (S.out _ (by rw [h];exact λz=>nomatch z) n)
 | _,_,.dct0 h n=>.dct0 (S.keep _ _ h n) (S.out _ (by rw [h];exact λz=>nomatch z) n)
 | _,_,.obj h e n r=>.obj (S.keep _ _ h n) e (S.out _ (by rw [h];exact λz=>nomatch z) n) (ag.step S r)
 | _,_,.dic h e1 e2 n r=>.dic (S.keep _ _ h n) e1 e2 (S.out _ (by rw [h];exact λz=>nomatch z) n) (ag.step S r)
 | _,_,.scr h r=>.scr (h.imp (λh=>⟨h.1.same λo e=>S.keep _ o e h.2,S.out _ h.1.trk h.2⟩) id) (ag.step S r)
theorem ag.step{H H':Hp}{O O':Ex}(S:aC H H' O O'):∀{vs:List V}{ds:List Kb},ag K H O vs ds->ag K H' O' vs ds
 | _,_,.nil=>.nil
 | _,_,.cons h r=>.cons (Dt.step S h) (ag.step S r)
end
theorem aC.same{H H':Hp}{O:Ex}(s:ah H H'):aC H H' O O:=⟨λb o e _=>s b o e,λ_ _ n=>n⟩
theorem Dt.mono{H H':Hp}{O:Ex}{v:V}{d:Kb}(s:ah H H')(h:Dt K H O v d):Dt K H' O v d:=h.step (.same s)
theorem ag.mono{H H':Hp}{O:Ex}{v:List V}{d:List Kb}(s:ah H H')(h:ag K H O v d):ag K H' O v d:=h.step (.same s)
theorem ag.length{H:Hp}{O:Ex}:∀{vs:List V}{ds:List Kb},ag K H O vs ds->vs.length=ds.length
 | _,_,.nil=>rfl
 | _,_,.cons _ r=>by rw [D4,D4,ag.length r]
theorem ag.get{H:Hp}{O:Ex}:∀{vs:List V}{ds:List Kb}{i:Nat}{v:V},ag K H O vs ds->vs[i]?=some v->∃d,ds[i]?=some d/\Dt K H O v d
 | _,_,_,_,.nil,e=>by simp at e
 | _,_,0,_,.cons h _,e=>by simp at e;subst e;exact⟨_,rfl,h⟩
 | _,_,i+1,_,.cons _ r,e=>by simpa using ag.get (i:=i) r (by simpa using e)
theorem ag.getD{H:Hp}{O:Ex}:∀{vs:List V}{ds:List Kb}{i:Nat}{d:Kb},ag K H O vs ds->ds[i]?=some d->∃v,vs[i]?=some v/\Dt K H O v d
 | _,_,_,_,.nil,e=>by simp at e
 | _,_,0,_,.cons h _,e=>by simp at e;subst e;exact⟨_,rfl,h⟩
 | _,_,i+1,_,.cons _ r,e=>by simpa using ag.getD (i:=i) r (by simpa using e)
theorem ag.append{H:Hp}{O:Ex}:∀{vs ws:List V}{ds es:List Kb},ag K H O vs ds->ag K H O ws es->ag K H O (vs++ws) (ds++es)
 | _,_,_,_,.nil,s=>s
 | _,_,_,_,.cons h r,s=>.cons h (ag.append r s)
theorem ag.take{H:Hp}{O:Ex}:∀{vs:List V}{ds:List Kb}(n:Nat),ag K H O vs ds->ag K H O (vs.take n) (ds.take n)
 | _,_,0,_=>.nil
 | _,_,_+1,.nil=>.nil
 | _,_,n+1,.cons h r=>.cons h (ag.take n r)
theorem ag.drop{H:Hp}{O:Ex}:∀{vs:List V}{ds:List Kb}(n:Nat),ag K H O vs ds->ag K H O (vs.drop n) (ds.drop n)
 | _,_,0,r=>r
 | _,_,_+1,.nil=>.nil
 | _,_,n+1,.cons _ r=>ag.drop n r
theorem ag.reverse{H:Hp}{O:Ex}:∀{vs:List V}{ds:List Kb},ag K H O vs ds->ag K H O vs.reverse ds.reverse
 | _,_,.nil=>.nil
 | _,_,.cons h r=>by rw [Hq,Hq];exact(ag.reverse r).append (.cons h .nil)
theorem ag.ints{H:Hp}{O:Ex}:∀(ns:List Int),ag K H O (ns.map V.int) (ns.map DY)
 | []=>.nil
 | n::r=>.cons (.int n) (ag.ints r)
inductive Sh (K:DL) (H:Hp) (O:Ex):V->Kb->Prop
 | dt {v:V} {d:Kb}:Dt K H O v d->Sh K H O v d
 | own {l:Ke} {vs:List V} {ds:List Kb}:H l=some (.lst vs)->ag K H O vs ds->Sh K H O (.ref l) (.list ds)
theorem Sh.mono{H H':Hp}{O:Ex}{v:V}{d:Kb}(s:ah H H'):Sh K H O v d->Sh K H' O v d
 | .dt h=>.dt (h.mono s)
 | .own h r=>.own (s _ _ h) (r.mono s)
theorem Dt.all{H:Hp}{O:Ex}{v:V}{d:Kb}(h:Dt K H O v d):Dt K H (λ_=>False) v d:=h.step ⟨λ_ _ e _=>e,λ_ _ _ z=>z⟩
theorem ag.all{H:Hp}{O:Ex}{v:List V}{d:List Kb}(h:ag K H O v d):ag K H (λ_=>False) v d:=h.step ⟨λ_ _ e _=>e,λ_ _ _ z=>z⟩
theorem Sh.all{H:Hp}{O:Ex}{v:V}{d:Kb}:Sh K H O v d->Dt K H (λ_=>False) v d
 | .dt h=>h.all
 | .own h r=>.lst (.inl h) (λz=>z) r.all
theorem aY.of0{H:Hp}{a:Ke}{xs:List V}(h:aY K oN a xs):aY K H a xs:=by
 rcases h with(h | ⟨o,h⟩) | h
 ·cases h
 ·cases h
 ·exact .inr h
theorem aI.of0{H:Hp}{a:Ke}{xs:List V}(h:aI K oN a xs):aI K H a xs:=by
 rcases h with(h | ⟨o,h⟩) | h
 ·cases h
 ·cases h
 ·exact .inr h
theorem Sh.tup{H:Hp}{O:Ex}{v:V}{ds:List Kb}(h:Sh K H O v (.tuple ds)):∃a xs,v= .ref a/\aY K H a xs/\ag K H O xs ds:=by
 cases h with
 | dt h=>
  cases h with
  | tup h _ r=>exact⟨_,_,rfl,.inl h,r⟩
  | tupK h r=>exact⟨_,_,rfl,h.of0,r⟩
theorem Sh.lstR{H:Hp}{O:Ex}{v:V}{ds:List Kb}(h:Sh K H O v (.list ds)):∃a xs,v= .ref a/\Rd H a (.lst xs)/\ag K H O xs ds:=by
 cases h with
 | dt h=>
  cases h with
  | lst h _ r=>exact⟨_,_,rfl,h,r⟩
 | own h r=>exact⟨_,_,rfl,.inl h,r⟩
theorem Sh.lst{H:Hp}{O:Ex}{v:V}{ds:List Kb}(h:Sh K H O v (.list ds)):∃a xs,v= .ref a/\aI K H a xs/\ag K H O xs ds:=by
 obtain⟨a,xs,e,h,r⟩:=h.lstR;exact⟨a,xs,e,.inl h,r⟩
theorem Sh.scr{H:Hp}{O:Ex}{v:V}{ds:List Kb}(h:Sh K H O v (cb ds)):∃a xs,v= .ref a/\aI K H a xs/\ag K H O xs ds:=by
 cases h with
 | dt h=>
  cases h with
  | scr h r=>
   rcases h with h | h
   ·exact⟨_,_,rfl,.inl h.1,r⟩
   ·exact⟨_,_,rfl,h.of0,r⟩
theorem Sh.int{H:Hp}{O:Ex}{v:V}{i:Int}(h:Sh K H O v (.int i)):v= .int i:=by cases h with | dt h=>cases h;rfl
theorem Sh.bl{H:Hp}{O:Ex}{v:V}{i:Bool}(h:Sh K H O v (.bool i)):v= .bl i:=by cases h with | dt h=>cases h;rfl
theorem Sh.str{H:Hp}{O:Ex}{v:V}{i:Str}(h:Sh K H O v (.str i)):v= .str i:=by cases h with | dt h=>cases h;rfl
theorem Sh.non{H:Hp}{O:Ex}{v:V}(h:Sh K H O v .none):v= .non:=by cases h with | dt h=>cases h;rfl
def cE:Kb->Bool
 | .none | .bool _ | .int _ | .str _=>true
 | _=>false
end
section
variable {X:Cx} {LL:List (Ke×Obj)} {σ:St} {H:Hp} {s:Kf}
mutual
theorem dO(I:aa X LL σ H s){O:Ex}:∀{v:V}{d:Kb}{u:Kc},Dt X.K H O v d->d.canLay0=true->aD v u->∃as,Reads s.heap u d as
 | _,_,_,.non,_,r=>by cases r;exact⟨_,Reads.none⟩
 | _,_,_,.bl b,_,r=>by cases r;exact⟨_,Reads.bool b⟩
 | _,_,_,.int i,_,r=>by obtain⟨t,rfl⟩:=r;exact⟨_,Reads.int i t⟩
 | _,_,_,.str x,_,r=>by obtain⟨t,rfl⟩:=r;exact⟨_,Reads.str x t⟩
 | _,_,_,.tup h _ hs,c,r=>by
  cases r;obtain⟨its,rv,⟨o,e,c',n,dd⟩,_⟩:=I.tuple (.inl h);obtain⟨as,q⟩:=oO I hs (by simpa [EA] using c) rv;exact⟨as,reads_tuple_at e c' dd (by simpa using q)⟩
 | _,_,_,.tupK h hs,c,r=>by
  cases r;obtain⟨its,rv,⟨o,e,c',n,dd⟩,_⟩:=I.tuple h.of0;obtain⟨as,q⟩:=oO I hs (by simpa [EA] using c) rv;exact⟨as,reads_tuple_at e c' dd (by simpa using q)⟩
 | _,_,_,.lst h _ hs,c,r=>by
  cases r;obtain⟨its,rv,⟨o,n,e,c',_,dd⟩,_⟩:=I.list (.inl h);obtain⟨as,q⟩:=oO I hs (by simpa [EA] using c) rv;exact⟨_,reads_list_at e c' dd (by simpa using q)⟩
 | _,_,_,.pack _ _,c,_=>by simp [EA] at c
 | _,_,_,.purse _ _,c,_=>by simp [EA] at c
 | _,_,_,.dct0 _ _,c,_=>by simp [EA] at c
 | _,_,_,.obj _ _ _ _,c,_=>by simp [EA] at c
 | _,_,_,.dic _ _ _ _ _,c,_=>by simp [EA] at c
 | _,_,_,.scr _ _,c,_=>by simp [EA] at c
theorem oO(I:aa X LL σ H s){O:Ex}:∀{vs:List V}{ds:List Kb}{us:List Kc},ag X.K H O vs ds->FX ds=true->aq vs us->∃as,ReadsAll s.heap us ds as
 | _,_,_,.nil,_,r=>by cases r;exact⟨_,ReadsAll.nil⟩
 | _,_,_,.cons h hs,c,r=>by
  rw [FX,F5] at c;cases r with
  | cons r1 r2=>
   obtain⟨as,q⟩:=dO I h c.1 r1;obtain⟨bs,p⟩:=oO I hs c.2 r2;exact⟨_,ReadsAll.cons q p⟩
end
end
inductive Sl where
 | v (d:Kb)
 | o (ds:List Kb)
 | k (kd:List (aA×Kb))
 | i (l C:Ke) (fd:List (Str×Kb))
 | r (l C g u:Ke) (fd:List (Str×Kb)) (gd ud:List (aA×Kb))
 | b (ds:List Kb)
abbrev Dl:=List (Option Sl)
inductive cF (K:DL) (H:Hp) (O:Ex):List (aA×V)->List (aA×Kb)->Prop
 | nil:cF K H O [] []
 | cons {k:aA} {v:V} {d:Kb} {r:List (aA×V)} {s:List (aA×Kb)}:Dt K H O v d->cF K H O r s->cF K H O ((k,v)::r) ((k,d)::s)
theorem cF.step{K:DL}{H H':Hp}{O O':Ex}(S:aC H H' O O'){r:List (aA×V)}{s:List (aA×Kb)}(h:cF K H O r s):cF K H' O' r s:=by
 induction h with
 | nil=>exact .nil
 | cons a _ ih=>exact .cons (a.step S) ih
theorem cF.mono{K:DL}{H H':Hp}{O:Ex}(S:ah H H'){r:List (aA×V)}{s:List (aA×Kb)}(h:cF K H O r s):cF K H' O r s:=h.step (.same S)
def qM(K:DL)(H:Hp)(O:Ex)(fs:List (Str×V))(fd:List (Str×Kb)):Prop:=fs.map (·.1)=fd.map (·.1)/\ag K H O (fs.map (·.2)) (fd.map (·.2))
def Sl.own:Sl->Prop
 | .v _=>False
 | .b _=>False
 | _=>True
abbrev yR:Str:=DM "gone"
abbrev yS:Str:=DM "used"
def uj(K:DL)(H:Hp)(O0 O:Ex)(l C g u:Ke)(fd:List (Str×Kb))(gd ud:List (aA×Kb)):Prop:=∃dx fs og ou gv uv,H l=some (.ins C dx (fs++[(yR,.ref g),(yS,.ref u)]))/\qM K H O fs fd/\g≠u/\
 (O g/\¬O0 g/\H g=some (.frz og (.dK gv))/\cF K H O gv gd)/\(O u/\¬O0 u/\H u=some (.frz ou (.dK uv))/\cF K H O uv ud)
def lq(K:DL)(H:Hp)(O0 O:Ex)(x:Option V):Option Sl->Prop
 | none=>True
 | some (.v d)=>∃v,x=some v/\Dt K H O v d
 | some (.o ds)=>∃l vs,x=some (.ref l)/\O l/\¬O0 l/\H l=some (.lst vs)/\ag K H O vs ds
 | some (.k kd)=>∃l kv,x=some (.ref l)/\O l/\¬O0 l/\H l=some (.dK kv)/\cF K H O kv kd
 | some (.i l C fd)=>∃dx fs,x=some (.ref l)/\O l/\¬O0 l/\H l=some (.ins C dx fs)/\qM K H O fs fd
 | some (.r l C g u fd gd ud)=>x=some (.ref l)/\O l/\¬O0 l/\uj K H O0 O l C g u fd gd ud
 | some (.b ds)=>∃l vs,x=some (.ref l)/\O0 l/\H l=some (.lst vs)/\ag K H O vs ds
structure Wd (K:DL) (H0:Hp) (O0:Ex) (H:Hp) (O:Ex) (σ:St) (δ:Dl):Prop where
 same:ah H0 H
 sub:∀l,O0 l->O l
 new:∀l,O l->O0 l\/H0 l=none
 trk:∀l,O l->H l≠none
 len:σ.length=δ.length
 sl:∀(i:Nat) y,δ[i]?=some y->lq K H O0 O ((σ[i]?).join) y
 dis:∀(i j:Nat) y z l,δ[i]?=some (some y)->y.own->δ[j]?=some (some z)->z.own->σ[i]?=some (some (.ref l))->σ[j]?=some (some (.ref l))->i=j
section
variable {K:DL} {H0 H H':Hp} {O0 O:Ex} {σ:St} {δ:Dl}
theorem lq.mono{x:Option V}{y:Option Sl}(s:ah H H')(h:lq K H O0 O x y):lq K H' O0 O x y:=by
 cases y with
 | none=>exact G6
 | some y=>
  cases y with
  | v d=>
   obtain⟨v,e,r⟩:=h;exact⟨v,e,r.mono s⟩
  | o ds=>
   obtain⟨l,vs,e,a,b,c,r⟩:=h;exact⟨l,vs,e,a,b,s _ _ c,r.mono s⟩
  | k ds=>
   obtain⟨l,vs,e,a,b,c,r⟩:=h;exact⟨l,vs,e,a,b,s _ _ c,r.mono s⟩
  | i l C ds=>
   obtain⟨dx,vs,e,a,b,c,r1,r2⟩:=h;exact⟨dx,vs,e,a,b,s _ _ c,r1,r2.mono s⟩
  | r l C g u fd gd ud=>
   obtain⟨e,a,b,dx,fs,og,ou,gv,uv,c,⟨r1,r2⟩,ne,⟨g1,g2,g3,g4⟩,u1,u2,u3,u4⟩:=h;exact⟨e,a,b,dx,fs,og,ou,gv,uv,s _ _ c,⟨r1,r2.mono s⟩,ne,⟨g1,g2,s _ _ g3,g4.mono s⟩,u1,u2,s _ _ u3,u4.mono s⟩
  | b ds=>
   obtain⟨l,vs,e,a,c,r⟩:=h;exact⟨l,vs,e,a,s _ _ c,r.mono s⟩
theorem lq.go{O':Ex}{x:Option V}{y:Option Sl}(h:lq K H O0 O x y)(S:aC H H' O O')(kp:∀l o,y.any (λz=>match z with | .v _=>false | .b _=>false | _=>true)=true->x=some (.ref l)->O l->¬O0 l->H l=some o->O' l/\H' l=some o)
 (kp2:∀a o u,O a->¬O0 a->H a=some (.frz o u)->O' a/\H' a=some (.frz o u))(kp3:∀a o,O0 a->H a=some o->H' a=some o):lq K H' O0 O' x y:=by
 cases y with
 | none=>exact G6
 | some y=>
  cases y with
  | v d=>
   obtain⟨v,e,r⟩:=h;exact⟨v,e,r.step S⟩
  | o ds=>
   obtain⟨l,vs,e,a,b,c,r⟩:=h;exact⟨l,vs,e,(kp l _ rfl e a b c).1,b,(kp l _ rfl e a b c).2,r.step S⟩
  | k ds=>
   obtain⟨l,vs,e,a,b,c,r⟩:=h;exact⟨l,vs,e,(kp l _ rfl e a b c).1,b,(kp l _ rfl e a b c).2,r.step S⟩
  | i l C ds=>
   obtain⟨dx,vs,e,a,b,c,r1,r2⟩:=h;exact⟨dx,vs,e,(kp l _ rfl e a b c).1,b,(kp l _ rfl e a b c).2,r1,r2.step S⟩
  | r l C g u fd gd ud=>
   obtain⟨e,a,b,dx,fs,og,ou,gv,uv,c,⟨r1,r2⟩,ne,⟨g1,g2,g3,g4⟩,u1,u2,u3,u4⟩:=h;exact⟨e,(kp l _ rfl e a b c).1,b,dx,fs,og,ou,gv,uv,(kp l _ rfl e a b c).2,⟨r1,r2.step S⟩,ne,⟨(kp2 _ _ _ g1 g2 g3).1,g2,(kp2 _ _ _ g1 g2 g3).2,g4.step S⟩,(kp2 _ _ _ u1 u2 u3).1,u2,(kp2 _ _ _ u1 u2 u3).2,u4.step S⟩
  | b ds=>
   obtain⟨l,vs,e,a,c,r⟩:=h;exact⟨l,vs,e,a,kp3 _ _ a c,r.step S⟩
theorem Wd.mono(s:ah H H')(w:Wd K H0 O0 H O σ δ):Wd K H0 O0 H' O σ δ:=
 ⟨w.same.trans s,w.sub,w.new,λl h z=>(by
  cases e:H l with
  | none=>exact w.trk l h e
  | some o=>rw [s _ _ e] at z;cases z),w.len,λi y e=>(w.sl i y e).mono s,w.dis⟩
theorem mh{i:Nat}{v:V}(h:(σ[i]?).join=some v):σ[i]?=some (some v):=by
 cases q:σ[i]? with
 | none=>rw [q] at h;cases h
 | some o=>rw [q] at h;rw [show o=some v from h]
theorem Wd.val(w:Wd K H0 O0 H O σ δ){i:Nat}{d:Kb}(e:δ[i]?=some (some (.v d))):∃v,σ[i]?=some (some v)/\Dt K H O v d:=by
 obtain⟨v,h,r⟩:=w.sl i _ e;exact⟨v,mh h,r⟩
theorem Wd.own(w:Wd K H0 O0 H O σ δ){i:Nat}{ds:List Kb}(e:δ[i]?=some (some (.o ds))):∃l vs,σ[i]?=some (some (.ref l))/\O l/\¬O0 l/\H l=some (.lst vs)/\ag K H O vs ds:=by
 obtain⟨l,vs,h,r⟩:=w.sl i _ e;exact⟨l,vs,mh h,r⟩
theorem Wd.ownK(w:Wd K H0 O0 H O σ δ){i:Nat}{kd:List (aA×Kb)}(e:δ[i]?=some (some (.k kd))):∃l kv,σ[i]?=some (some (.ref l))/\O l/\¬O0 l/\H l=some (.dK kv)/\cF K H O kv kd:=by
 obtain⟨l,vs,h,r⟩:=w.sl i _ e;exact⟨l,vs,mh h,r⟩
theorem Wd.ownI(w:Wd K H0 O0 H O σ δ){i:Nat}{l C:Ke}{fd:List (Str×Kb)}(e:δ[i]?=some (some (.i l C fd))):∃dx fs,σ[i]?=some (some (.ref l))/\O l/\¬O0 l/\H l=some (.ins C dx fs)/\qM K H O fs fd:=by
 obtain⟨dx,vs,h,r⟩:=w.sl i _ e;exact⟨dx,vs,mh h,r⟩
theorem Wd.adr(w:Wd K H0 O0 H O σ δ){i:Nat}{y:Sl}(e:δ[i]?=some (some y))(h:y.own):∃l,σ[i]?=some (some (.ref l))/\O l/\¬O0 l:=by
 match y,h,e with
 | .o ds,_,e=>obtain⟨l,vs,a,b,c,_⟩:=w.own e;exact⟨l,a,b,c⟩
 | .k ds,_,e=>obtain⟨l,vs,a,b,c,_⟩:=w.ownK e;exact⟨l,a,b,c⟩
 | .i l C ds,_,e=>obtain⟨dx,vs,a,b,c,_⟩:=w.ownI e;exact⟨l,a,b,c⟩
 | .r l C g u fd gd ud,_,e=>obtain⟨a,b,c,_⟩:=w.sl i _ e;exact⟨l,mh a,b,c⟩
theorem Wd.nofrz(w:Wd K H0 O0 H O σ δ){i:Nat}{y:Sl}{l:Ke}(e:δ[i]?=some (some y))(h:y.own)(hl:σ[i]?=some (some (.ref l)))(o:Obj)(u:HO):H l≠some (.frz o u):=by
 match y,h,e with
 | .o ds,_,e=>obtain⟨l',vs,a,b,c,d,_⟩:=w.own e;rw [hl] at a;cases a;rw [d];exact λz=>nomatch z
 | .k ds,_,e=>obtain⟨l',vs,a,b,c,d,_⟩:=w.ownK e;rw [hl] at a;cases a;rw [d];exact λz=>nomatch z
 | .i l C ds,_,e=>obtain⟨dx,vs,a,b,c,d,_⟩:=w.ownI e;rw [hl] at a;cases a;rw [d];exact λz=>nomatch z
 | .r l C g u fd gd ud,_,e=>obtain⟨a,b,c,_,_,_,_,_,_,d,_⟩:=w.sl i _ e;have a:=mh a;rw [hl] at a;cases a;rw [d];exact λz=>nomatch z
theorem Wd.set(w:Wd K H0 O0 H O σ δ){i:Nat}{v:V}{d:Kb}(h:Dt K H O v d):Wd K H0 O0 H O (σ.set i (some v)) (δ.set i (some (.v d))):=by
 refine⟨w.same,w.sub,w.new,w.trk,by simp [w.len],λj y e=>?_,λj k y z l e1 y1 e2 z2 e3 e4=>?_⟩
 ·by_cases hj:j=i
  ·subst hj;have hl:j < δ.length:=by
    have:=(DZ.mp e).1;simpa using this
   rw [EC hl] at e;cases e;rw [EC (by rw [w.len];exact hl)];exact⟨v,rfl,h⟩
  ·rw [El (Ne.symm hj)] at e⊢;exact w.sl j y e
 ·have ne:∀{j:Nat}{y:Sl},(δ.set i (some (.v d)))[j]?=some (some y)->y.own->j≠i:=λ{j y} e ho z=>by
   subst z;by_cases hl:j < δ.length
   ·rw [EC hl] at e;cases e;exact ho
   ·rw [FF (by simpa using hl)] at e;cases e
  have n1:=ne e1 y1;have n2:=ne e2 z2;rw [El (Ne.symm n1)] at e1 e3;rw [El (Ne.symm n2)] at e2 e4;exact w.dis j k y z l e1 y1 e2 z2 e3 e4
theorem Wd.setY(w:Wd K H0 O0 H O σ δ){i:Nat}{p:Ke}{ho:HO}{y0:Sl}(hy:y0.own)(hp:H p=none)(h:∀O',aC H (ai H p ho) O O'->O' p->¬O0 p->lq K (ai H p ho) O0 O' (some (.ref p)) (some y0)):
 Wd K H0 O0 (ai H p ho) (λl=>O l\/l=p) (σ.set i (some (.ref p))) (δ.set i (some y0)):=by
 have sm:ah H (ai H p ho):=ah.new hp;have np:∀l,O l->l≠p:=λl hl z=>w.trk l hl (by rw [z];exact hp);have p0:H0 p=none:=by
  cases e:H0 p with
  | none=>rfl
  | some o=>rw [w.same _ _ e] at hp;cases hp
 have S:aC H (ai H p ho) O (λl=>O l\/l=p):=⟨λb o e _=>sm b o e,λb hb hn z=>z.elim hn λq=>hb (by rw [q];exact hp)⟩;have n0:¬O0 p:=λz=>np p (w.sub p z) rfl;refine⟨w.same.trans sm,λl z=>.inl (w.sub l z),λl z=>z.elim (w.new l) λq=>.inr (by rw [q];exact p0),λl z=>?_,by simp [w.len],λj y e=>?_,λj k y z l e1 y1 e2 z2 e3 e4=>?_⟩
 ·by_cases q:l=p
  ·rw [q,bf];exact λz=>nomatch z
  ·rw [au q];exact w.trk l (z.resolve_right q)
 ·by_cases hj:j=i
  ·subst hj;have hl:j < δ.length:=by
    have:=(DZ.mp e).1;simpa using this
   rw [EC hl] at e;cases e;rw [EC (by rw [w.len];exact hl)];exact h _ S (.inr rfl) n0
  ·rw [El (Ne.symm hj)] at e⊢;exact(w.sl j y e).go S (λl o _ _ a _ c=>⟨.inl a,sm _ _ c⟩) (λa o u a1 _ a3=>⟨.inl a1,sm _ _ a3⟩) λa o _ a3=>sm _ _ a3
 ·by_cases hj:j=i
  ·by_cases hk:k=i
   ·rw [hj,hk]
   ·exfalso;rw [hj] at e1 e3;have hl:i < σ.length:=by
     have:=(DZ.mp e3).1;simpa using this
    rw [EC hl] at e3;cases e3;rw [El (Ne.symm hk)] at e2 e4;obtain⟨l',x1,x2,_⟩:=w.adr e2 z2;rw [e4] at x1;cases x1;exact np _ x2 rfl
  ·by_cases hk:k=i
   ·exfalso;rw [hk] at e2 e4;have hl:i < σ.length:=by
     have:=(DZ.mp e4).1;simpa using this
    rw [EC hl] at e4;cases e4;rw [El (Ne.symm hj)] at e1 e3;obtain⟨l',x1,x2,_⟩:=w.adr e1 y1;rw [e3] at x1;cases x1;exact np _ x2 rfl
   ·rw [El (Ne.symm hj)] at e1 e3;rw [El (Ne.symm hk)] at e2 e4;exact w.dis j k _ _ l e1 y1 e2 z2 e3 e4
theorem Wd.setO(w:Wd K H0 O0 H O σ δ){i:Nat}{p:Ke}{vs:List V}{ds:List Kb}(hp:H p=none)(h:ag K H O vs ds):
 Wd K H0 O0 (ai H p (.lst vs)) (λl=>O l\/l=p) (σ.set i (some (.ref p))) (δ.set i (some (.o ds))):=
 w.setY trivial hp λO' S a b=>⟨p,vs,rfl,a,b,bf,h.step S⟩
theorem Wd.putY(w:Wd K H0 O0 H O σ δ){i:Nat}{l:Ke}{ho:HO}{y0 y1:Sl}(h0:y0.own)(h1:y1.own)(e:δ[i]?=some (some y0))(hl:σ[i]?=some (some (.ref l)))(h:aC H (ai H l ho) O O->O l->¬O0 l->lq K (ai H l ho) O0 O (some (.ref l)) (some y1)):
 Wd K H0 O0 (ai H l ho) O σ (δ.set i (some y1)):=by
 obtain⟨l',x1,x2,x3⟩:=w.adr e h0;rw [hl] at x1;cases x1;have l0:H0 l=none:=(w.new l x2).resolve_left x3;have S:aC H (ai H l ho) O O:=⟨λb o q n=>by rw [au (λz=>n (by rw [z];exact x2))];exact q,λ_ _ n=>n⟩;have li:i < δ.length:=(DZ.mp e).1;refine⟨λb o q=>by rw [au (λz=>by rw [z,l0] at q;cases q)];exact w.same b o q,w.sub,w.new,λb z=>?_,by simp [w.len],λj y q=>?_,λj k y z b e1 y1' e2 z2 e3 e4=>?_⟩
 ·by_cases q:b=l
  ·rw [q,bf];exact λz=>nomatch z
  ·rw [au q];exact w.trk b z
 ·by_cases hj:j=i
  ·subst hj;rw [EC li] at q;cases q;rw [hl];exact h S x2 x3
  ·rw [El (Ne.symm hj)] at q;refine(w.sl j y q).go S (λb o ho' e' a1 a2 a3=>⟨a1,?_⟩) (λb o u a1 a2 a3=>⟨a1,by rw [au (λz=>w.nofrz e h0 hl o u (by rw [<-z];exact a3))];exact a3⟩) λb o a1 a3=>by rw [au (λz=>x3 (by rw [<-z];exact a1))];exact a3
   have nb:b≠l:=λz=>by
    subst z
    match y,ho',q with
    | some z,ho',q=>exact hj (w.dis j i z y0 b q (by cases z <;> first | trivial | cases ho') e h0 (mh e') hl)
   rw [au nb];exact a3
 ·have d6:∀{j:Nat}{y:Sl},(δ.set i (some y1))[j]?=some (some y)->y.own->∃y',δ[j]?=some (some y')/\y'.own:=λ{j y} q hq=>by
   by_cases hj:j=i
   ·subst hj;exact⟨_,e,h0⟩
   ·rw [El (Ne.symm hj)] at q;exact⟨_,q,hq⟩
  obtain⟨_,q1,r1⟩:=d6 e1 y1';obtain⟨_,q2,r2⟩:=d6 e2 z2;exact w.dis j k _ _ b q1 r1 q2 r2 e3 e4
theorem Wd.putO(w:Wd K H0 O0 H O σ δ){i:Nat}{l:Ke}{vs us:List V}{ds es:List Kb}(e:δ[i]?=some (some (.o ds)))(hl:σ[i]?=some (some (.ref l)))(h:ag K H O us es):
 Wd K H0 O0 (ai H l (.lst us)) O σ (δ.set i (some (.o es))):=
 w.putY (y0:= .o ds) (y1:= .o es) trivial trivial e hl λS a b=>⟨l,us,rfl,a,b,bf,h.step S⟩
end
abbrev DT:=Dl->(Kb->Prop)->Prop
abbrev DA:=Dl->(List Kb->Prop)->Prop
abbrev DB:=Dl->(Bool->Prop)->Prop
structure lK where
 nx:Dl->Prop
 rt:Kb->Prop
 bk:Dl->Prop:=λ_=>False
 ct:Dl->Prop:=λ_=>False
abbrev DS:=lK->Dl->Prop
section
variable (K:DL) (H0:Hp) (O0:Ex)
inductive up (t:DT) (σ:St) (H:Hp) (R:VK):Prop
 | mk (O:Ex) (δ:Dl) (Qd:Kb->Prop):Wd K H0 O0 H O σ δ->t δ Qd->(∀d v H',Qd d->ah H H'->Dt K H' O v d->R v H')->up t σ H R
inductive oP (t:DT) (σ:St) (H:Hp) (R:VK):Prop
 | mk (O:Ex) (δ:Dl) (Qd:Kb->Prop):Wd K H0 O0 H O σ δ->t δ Qd->(∀d v H',Qd d->ah H H'->Sh K H' O v d->R v H')->oP t σ H R
inductive cG (t:DA) (σ:St) (H:Hp) (R:List V->Hp->Prop):Prop
 | mk (O:Ex) (δ:Dl) (Qd:List Kb->Prop):Wd K H0 O0 H O σ δ->t δ Qd->(∀ds vs H',Qd ds->ah H H'->ag K H' O vs ds->R vs H')->cG t σ H R
inductive bu (t:DB) (σ:St) (H:Hp) (R:Bool->Hp->Prop):Prop
 | mk (O:Ex) (δ:Dl) (Qd:Bool->Prop):Wd K H0 O0 H O σ δ->t δ Qd->(∀b H',Qd b->ah H H'->R b H')->bu t σ H R
inductive aP (t:DS) (D:fQ) (σ:St) (H:Hp):Prop
 | mk (O:Ex) (δ:Dl) (E:lK):Wd K H0 O0 H O σ δ->t E δ->(∀O' δ' σ' H',E.nx δ'->Wd K H0 O0 H' O' σ' δ'->aC H H' O O'->D.nx σ' H')->(∀d v H',E.rt d->ah H0 H'->Dt K H' O0 v d->D.rt v H')->
 (∀O' δ' σ' H',E.bk δ'->Wd K H0 O0 H' O' σ' δ'->aC H H' O O'->D.bk σ' H')->(∀O' δ' σ' H',E.ct δ'->Wd K H0 O0 H' O' σ' δ'->aC H H' O O'->D.ct σ' H')->aP t D σ H
end
theorem PE.imp{X:Cx}{e:Kk}{t u:TE}(h:PE X e t)(i:∀σ H Q,u σ H Q->t σ H Q):PE X e u:=λLL s σ H Q I z=>h LL s σ H Q I (i σ H Q z)
theorem PT.imp{X:Cx}{e:Kk}{t u:TT}(h:PT X e t)(i:∀σ H Q,u σ H Q->t σ H Q):PT X e u:=λLL s σ H Q I z=>h LL s σ H Q I (i σ H Q z)
theorem PW.imp{X:Cx}{e:Kk}{t u:TT}(h:PW X e t)(i:∀σ H Q,u σ H Q->t σ H Q):PW X e u:=λwh LL s σ H Q I z=>h wh LL s σ H Q I (i σ H Q z)
theorem PA.imp{X:Cx}{e:List Kk}{t u:TA}(h:PA X e t)(i:∀σ H Q,u σ H Q->t σ H Q):PA X e u:=λpos LL s σ H Q I z=>h pos LL s σ H Q I (i σ H Q z)
theorem PS.imp{X:Cx}{e:Ks}{t u:TS}(h:PS X e t)(i:∀D σ H,u D σ H->t D σ H):PS X e u:=λLL s σ H D I z=>h LL s σ H D I (i D σ H z)
theorem bg.imp{X:Cx}{e:List Ks}{t u:TS}(h:bg X e t)(i:∀D σ H,u D σ H->t D σ H):bg X e u:=λLL s σ H D I z=>h LL s σ H D I (i D σ H z)
section
variable {X:Cx} {H0:Hp} {O0:Ex}
abbrev DE(X:Cx)(H0:Hp)(O0:Ex)(e:Kk)(t:DT):Prop:=PE X e (up X.K H0 O0 t)
abbrev DF(X:Cx)(H0:Hp)(O0:Ex)(e:Kk)(t:DT):Prop:=PE X e (oP X.K H0 O0 t)
theorem df{e:Kk}{t:DT}(h:DE X H0 O0 e t):DF X H0 O0 e t:=h.imp λσ H Q uu52=>by obtain⟨O,δ,Qd,w,q,k⟩:=uu52;exact⟨O,δ,Qd,w,q,λd v H' a b c=>k d v H' a b (.dt c)⟩
def qN(Q:Kb->Prop):Option (Option Sl)->Prop
 | some (some (.v d))=>Q d
 | _=>False
def bH(i:Nat):DT:=λδ Q=>qN Q δ[i]?
theorem uk{Q:Kb->Prop}{o:Option (Option Sl)}:qN Q o↔∃d,o=some (some (.v d))/\Q d:=by
 constructor
 ·intro h
  match o,h with
  | some (some (.v d)),h=>exact⟨d,rfl,h⟩
 ·rintro⟨d,rfl,h⟩;exact h
theorem yT{i:Nat}{δ:Dl}{Q:Kb->Prop}(h:bH i δ Q):∃d,δ[i]?=some (some (.v d))/\Q d:=uk.mp h
def dP(i:Nat):DT:=λδ Q=>∃ds,δ[i]?=some (some (.o ds))/\Q (.list ds)
def dC(d:Kb):DT:=λ_ Q=>Q d
theorem dv(i:Nat){x:Str}{pos:Pos}(hN:X.N[i]?=some x:=by rfl)(hv:mF X.env.scope x:=by first | exact Ic rfl | exact HB (Ic rfl) | exact HB (HB rfl))
 (hd:(x==("__debug__":Str))=false:=by decide)(hcd:(x==("__classdict__":Str))=false:=by decide):DE X H0 O0 (.Name x pos) (bH i):=
 (oy hN hv hd hcd).imp λσ H Q uu53=>by
  obtain⟨O,δ,Qd,w,dq,k⟩:=uu53;obtain⟨d,e,q⟩:=yT dq;obtain⟨v,h,r⟩:=w.val e;exact⟨v,h,k d v H q (ah.refl _) r⟩
theorem dw(i:Nat){x:Str}{pos:Pos}(hN:X.N[i]?=some x:=by rfl)(hv:mF X.env.scope x:=by first | exact Ic rfl | exact HB (Ic rfl) | exact HB (HB rfl))
 (hd:(x==("__debug__":Str))=false:=by decide)(hcd:(x==("__classdict__":Str))=false:=by decide):DF X H0 O0 (.Name x pos) (dP i):=
 (oy hN hv hd hcd).imp λσ H Q uu54=>by
  obtain⟨O,δ,Qd,w,⟨ds,e,q⟩,k⟩:=uu54;obtain⟨l,vs,h,_,_,r,rs⟩:=w.own e;exact⟨_,h,k _ _ H q (ah.refl _) (.own r rs)⟩
theorem dc{e:Kk}{v:V}{d:Kb}(h:PE X e (tC v))(r:∀H O,Dt X.K H O v d):DE X H0 O0 e (dC d):=h.imp λσ H Q uu55=>by obtain⟨O,δ,Qd,w,q,k⟩:=uu55;exact k d v H q (ah.refl _) (r H O)
theorem af{i j pos}:DE X H0 O0 (.Constant (.int i) j pos) (dC (.int i)):=dc sT λ_ _=>.int i
theorem dQ{b j pos}:DE X H0 O0 (.Constant (.bool b) j pos) (dC (.bool b)):=dc pR λ_ _=>.bl b
theorem qO{j pos}:DE X H0 O0 (.Constant .none j pos) (dC .none):=dc wJ λ_ _=>.non
theorem bI{x j pos}:DE X H0 O0 (.Constant (.str x) j pos) (dC (.str x)):=dc wK λ_ _=>.str x
def cV:DA:=λ_ Q=>Q []
def cN(t:DT)(u:DA):DA:=λδ Q=>t δ λd=>u δ λds=>Q (d::ds)
theorem aj:PA X [] (cG X.K H0 O0 cV):=fV.imp λσ H Q uu56=>by obtain⟨O,δ,Qd,w,q,k⟩:=uu56;exact k [] [] H q (ah.refl _) .nil
theorem ae{e:Kk}{es:List Kk}{t:DT}{u:DA}(h:DE X H0 O0 e t)(hs:PA X es (cG X.K H0 O0 u))(he:Kj (e::es) X.env=(false,eval e X.env)::Kj es X.env:=by rfl):PA X (e::es) (cG X.K H0 O0 (cN t u)):=
 (bG h hs he).imp λσ H Q uu57=>by obtain⟨O,δ,Qd,w,q,k⟩:=uu57;exact⟨O,δ,_,w,q,λd v H1 q1 s1 r1=>⟨O,δ,_,w.mono s1,q1,λds vs H2 q2 s2 r2=>k (d::ds) (v::vs) H2 q2 (s1.trans s2) (.cons (r1.mono s2) r2)⟩⟩
def dR(t:DA):DT:=λδ Q=>t δ λds=>ds.length<=Kl/\Q (.tuple ds)
def fX(t:DA):DT:=λδ Q=>t δ λds=>ds.length<=Kl/\Q (.list ds)
theorem nS{H:Hp}{O:Ex}{σ:St}{δ:Dl}{H1:Hp}{p:Ke}{K:DL}(w:Wd K H0 O0 H O σ δ)(s:ah H H1)(hp:H1 p=none):¬O p:=λz=>(w.mono s).trk p z hp
theorem cx{es:List Kk}{t:DA}{x1}{pos:Pos}(h:PA X es (cG X.K H0 O0 t)):DE X H0 O0 (.Tuple es x1 pos) (dR t):=
 (tG h).imp λσ H Q uu58=>by obtain⟨O,δ,Qd,w,q,k⟩:=uu58;exact⟨O,δ,_,w,q,λds vs H1 q1 s1 r1=>⟨by rw [r1.length];exact q1.1,λp hp=>k _ _ _ q1.2 (s1.trans (ah.new hp)) (.tup (.inl bf) (nS w s1 hp) (r1.mono (ah.new hp)))⟩⟩
end
theorem aC.refl(H:Hp)(O:Ex):aC H H O O:=⟨λ_ _ e _=>e,λ_ _ n=>n⟩
theorem aC.trans{H H1 H2:Hp}{O O1 O2:Ex}(a:aC H H1 O O1)(b:aC H1 H2 O1 O2):aC H H2 O O2:=by
 refine⟨λc o e n=>?_,λc e n=>?_⟩
 ·have h1:=a.keep c o e n;exact b.keep c o h1 (a.out c (by rw [e];exact λz=>nomatch z) n)
 ·cases q:H c with
  | none=>exact absurd q e
  | some o=>exact b.out c (by rw [a.keep c o q n];exact λz=>nomatch z) (a.out c e n)
section
variable {X:Cx} {H0:Hp} {O0:Ex}
def bC(K:DL)(r:R2)(rd:Kb->Kb->(Kb->Prop)->Prop):Prop:=
 ∀(H:Hp)(O:Ex)(x y:V)(dx dy:Kb)(Qd:Kb->Prop)(R:VK),(∀l,O l->H l≠none)->Sh K H O x dx->Sh K H O y dy->rd dx dy Qd->(∀d v H',Qd d->ah H H'->Dt K H' O v d->R v H')->r x y H R
def bw(rd:Kb->Kb->(Kb->Prop)->Prop)(ta tb:DT):DT:=λδ Q=>ta δ λx=>tb δ λy=>rd x y Q
theorem oQ{K:DL}{r:R2}{rd:Kb->Kb->(Kb->Prop)->Prop}{ta tb:DT}(hd:bC K r rd):∀σ H Q,up K H0 O0 (bw rd ta tb) σ H Q->l6 r (oP K H0 O0 ta) (oP K H0 O0 tb) σ H Q:=
 λσ H Q uu59=>by obtain⟨O,δ,Qd,w,q,k⟩:=uu59;exact⟨O,δ,_,w,q,λx v H1 q1 s1 r1=>⟨O,δ,_,w.mono s1,q1,λy u H2 q2 s2 r2=>hd H2 O v u x y Qd _ (w.mono (s1.trans s2)).trk (r1.mono s2) r2 q2 λd z H3 qd s3 r3=>k d z H3 qd (s1.trans (s2.trans s3)) r3⟩⟩
theorem yU{a b:Kk}{ta tb:DT}{op:Operator}{r:R2}{rd:Kb->Kb->(Kb->Prop)->Prop}{pos:Pos}(ho:aZ X (K0 op) r)(hd:bC X.K r rd)(ha:DF X H0 O0 a ta)(hb:DF X H0 O0 b tb):DE X H0 O0 (.BinOp a op b pos) (bw rd ta tb):=(tu ho ha hb).imp (oQ hd)
theorem lL{a b:Kk}{ta tb:DT}{op:CmpOp}{r:R2}{rd:Kb->Kb->(Kb->Prop)->Prop}{pos:Pos}(ho:aZ X (KC op) r)(hd:bC X.K r rd)(ha:DF X H0 O0 a ta)(hb:DF X H0 O0 b tb)(hm:KL op b=false):DE X H0 O0 (.Compare a [op] [b] pos) (bw rd ta tb):=(xn ho ha hb hm).imp (oQ hd)
def bW(t:DT):DB:=λδ Q=>t δ λd=>∃b,d= .bool b/\Q b
theorem yV{a b:Kk}{ta tb:DT}{op:CmpOp}{r:R2}{rd:Kb->Kb->(Kb->Prop)->Prop}{pos:Pos}(ho:aZ X (KC op) r)(hd:bC X.K r rd)(ha:DF X H0 O0 a ta)(hb:DF X H0 O0 b tb)(hm:KL op b=false):PT X (.Compare a [op] [b] pos) (bu X.K H0 O0 (bW (bw rd ta tb))):=
 (xo ho ha hb hm).imp λσ H Q uu60=>by obtain⟨O,δ,Qd,w,q,k⟩:=uu60;exact oQ hd σ H _ ⟨O,δ,_,w,q,λd v H' uu61 s r=>by obtain⟨b,e,qb⟩:=uu61;subst e;cases r;exact⟨b,rfl,k b H' qb s⟩⟩
theorem cO{e:Kk}{t:DT}(h:DE X H0 O0 e t)(he:∀whole,isTrue e X.env whole=(do let v<-whole;standAt e.pos;holding [v] (truthy v)):=by intro _;rfl):PT X e (bu X.K H0 O0 (bW t)):=
 (sU h he).imp λσ H Q uu62=>by obtain⟨O,δ,Qd,w,q,k⟩:=uu62;exact⟨O,δ,_,w,q,λd v H' uu63 s r=>by obtain⟨b,e,qb⟩:=uu63;subst e;cases r;exact⟨b,rfl,k b H' qb s⟩⟩
def dS(t u:DB):DB:=λδ Q=>t δ λc=>if c=true then u δ Q else Q false
def dU(t u:DB):DB:=λδ Q=>t δ λc=>if c=true then Q true else u δ Q
def dW(t:DB):DB:=λδ Q=>t δ λc=>Q (!c)
theorem mT{a:Kk}{t:DB}{pos:Pos}(h:PT X a (bu X.K H0 O0 t)):PW X (.BoolOp .And [a] pos) (bu X.K H0 O0 t):=wM h
theorem qP{a:Kk}{t:DB}{pos:Pos}(h:PT X a (bu X.K H0 O0 t)):PW X (.BoolOp .Or [a] pos) (bu X.K H0 O0 t):=wN h
theorem mU{a b:Kk}{rest:List Kk}{t u:DB}{pos:Pos}(h:PT X a (bu X.K H0 O0 t))(hb:PW X (.BoolOp .And (b::rest) pos) (bu X.K H0 O0 u)):PW X (.BoolOp .And (a::b::rest) pos) (bu X.K H0 O0 (dS t u)):=
 (wO h hb).imp λσ H Q uu64=>by obtain⟨O,δ,Qd,w,q,k⟩:=uu64;exact⟨O,δ,_,w,q,λc H1 q1 s1=>by
  cases c with
  | true=>exact⟨O,δ,_,w.mono s1,q1,λb H2 q2 s2=>k b H2 q2 (s1.trans s2)⟩
  | false=>exact k false H1 q1 s1⟩
theorem oR{a b:Kk}{rest:List Kk}{t u:DB}{pos:Pos}(h:PT X a (bu X.K H0 O0 t))(hb:PW X (.BoolOp .Or (b::rest) pos) (bu X.K H0 O0 u)):PW X (.BoolOp .Or (a::b::rest) pos) (bu X.K H0 O0 (dU t u)):=
 (wQ h hb).imp λσ H Q uu65=>by obtain⟨O,δ,Qd,w,q,k⟩:=uu65;exact⟨O,δ,_,w,q,λc H1 q1 s1=>by
  cases c with
  | false=>exact⟨O,δ,_,w.mono s1,q1,λb H2 q2 s2=>k b H2 q2 (s1.trans s2)⟩
  | true=>exact k true H1 q1 s1⟩
theorem fY{a:Kk}{t:DB}{pos:Pos}(h:PT X a (bu X.K H0 O0 t)):PT X (.UnaryOp .Not a pos) (bu X.K H0 O0 (dW t)):=
 (wR h).imp λσ H Q uu66=>by obtain⟨O,δ,Qd,w,q,k⟩:=uu66;exact⟨O,δ,_,w,q,λc H1 q1 s1=>k (!c) H1 q1 s1⟩
def dX(t u:DT):DT:=λδ Q=>t δ λd=>∃c,d= .bool c/\if c=true then u δ Q else Q (.bool false)
def fZ(t u:DT):DT:=λδ Q=>t δ λd=>∃c,d= .bool c/\if c=true then Q (.bool true) else u δ Q
def dY(t:DT):DT:=λδ Q=>t δ λd=>∃c,d= .bool c/\Q (.bool (!c))
theorem qQ{op}{a:Kk}{t:DT}{pos:Pos}(h:DE X H0 O0 a t):DE X H0 O0 (.BoolOp op [a] pos) t:=sV h
theorem oT{a b:Kk}{rest:List Kk}{t u:DT}{pos:Pos}(h:DE X H0 O0 a t)(hb:DE X H0 O0 (.BoolOp .And (b::rest) pos) u):DE X H0 O0 (.BoolOp .And (a::b::rest) pos) (dX t u):=
 (sW h hb).imp λσ H Q ⟨O,δ,Qd,w,q,k⟩=>⟨O,δ,_,w,q,λd v H1 uu68 s1 r=>by
  obtain⟨c,e,q1⟩:=uu68;subst e;cases r;refine⟨c,rfl,?_⟩;cases c with
  | true=>exact⟨O,δ,_,w.mono s1,q1,λd v H2 q2 s2 r2=>k d v H2 q2 (s1.trans s2) r2⟩
  | false=>exact k _ _ H1 q1 s1 (.bl false)⟩
theorem yW{a:Kk}{t:DT}{pos:Pos}(h:DE X H0 O0 a t):DE X H0 O0 (.UnaryOp .Not a pos) (dY t):=
 (wU h).imp λσ H Q uu69=>by obtain⟨O,δ,Qd,w,q,k⟩:=uu69;exact⟨O,δ,_,w,q,λd v H1 uu70 s1 r=>by
  obtain⟨c,e,q1⟩:=uu70;subst e;cases r;exact⟨c,rfl,k _ _ H1 q1 s1 (.bl _)⟩⟩
def gb(c:DB)(t u:DT):DT:=λδ Q=>c δ λb=>if b=true then t δ Q else u δ Q
def gc(rd rd':Kb->Kb->(Kb->Prop)->Prop)(ta tb tc:DT):DT:=λδ Q=>ta δ λx=>tb δ λy=>rd x y λz=>∃k,z= .bool k/\if k=true then tc δ λu=>rd' y u Q else Q (.bool false)
inductive aX (K:DL) (F:List Kb->(Kb->Prop)->Prop) (vs:List V) (H:Hp) (Q:VK) (E:XK):Prop
 | mk (O:Ex) (ds:List Kb) (Qd:Kb->Prop):(∀l,O l->H l≠none)->ag K H O vs ds->F ds Qd->(∀d v H',Qd d->ah H H'->Dt K H' O v d->Q v H')->aX K F vs H Q E
def cP(F:List Kb->(Kb->Prop)->Prop)(t:DA):DT:=λδ Q=>t δ λds=>F ds Q
theorem nT{K:DL}{F:List Kb->(Kb->Prop)->Prop}{t:DA}{E:XK}:∀σ H Q,up K H0 O0 (cP F t) σ H Q->nM (aX K F) [] E (cG K H0 O0 t) σ H Q:=
 λσ H Q uu71=>by obtain⟨O,δ,Qd,w,q,k⟩:=uu71;exact⟨O,δ,_,w,q,λds vs H1 q1 s1 r1=>⟨O,ds,Qd,(w.mono s1).trk,by rw [Er];exact r1,q1,λd v H2 q2 s2 r2=>k d v H2 q2 (s1.trans s2) r2⟩⟩
inductive mV (K:DL) (H:Hp) (O:Ex):List V->List Kb->Prop
 | nil:mV K H O [] []
 | cons {v:V} {d:Kb} {vs:List V} {ds:List Kb}:Sh K H O v d->mV K H O vs ds->mV K H O (v::vs) (d::ds)
inductive cW (K:DL) (H0:Hp) (O0:Ex) (t:DA) (σ:St) (H:Hp) (R:List V->Hp->Prop):Prop
 | mk (O:Ex) (δ:Dl) (Qd:List Kb->Prop):Wd K H0 O0 H O σ δ->t δ Qd->(∀ds vs H',Qd ds->ah H H'->mV K H' O vs ds->R vs H')->cW K H0 O0 t σ H R
theorem bA:PA X [] (cW X.K H0 O0 cV):=fV.imp λσ H Q uu72=>by obtain⟨O,δ,Qd,w,q,k⟩:=uu72;exact k [] [] H q (ah.refl _) .nil
theorem qR{e:Kk}{es:List Kk}{t:DT}{u:DA}(h:DF X H0 O0 e t)(hs:PA X es (cW X.K H0 O0 u))(he:Kj (e::es) X.env=(false,eval e X.env)::Kj es X.env:=by rfl):PA X (e::es) (cW X.K H0 O0 (cN t u)):=
 (bG h hs he).imp λσ H Q uu73=>by obtain⟨O,δ,Qd,w,q,k⟩:=uu73;exact⟨O,δ,_,w,q,λd v H1 q1 s1 r1=>⟨O,δ,_,w.mono s1,q1,λds vs H2 q2 s2 r2=>k (d::ds) (v::vs) H2 q2 (s1.trans s2) (.cons (r1.mono s2) r2)⟩⟩
def gf(F:List Kb->(Kb->Prop)->Prop)(t:DA):DT:=λδ Q=>t δ λds=>F ds λd=>cE d=true/\Q d
def lM(K:DL)(r:List V->Hp->VK->Prop)(rd:List Kb->(Kb->Prop)->Prop):Prop:=
 ∀(H:Hp)(O:Ex)(xs:List V)(ds:List Kb)(Qd:Kb->Prop)(R:VK),(∀l,O l->H l≠none)->mV K H O xs ds->rd ds Qd->(∀d v H',Qd d->ah H H'->Dt K H' O v d->R v H')->r xs H R
theorem bS{K:DL}{r:List V->Hp->VK->Prop}{rd:List Kb->(Kb->Prop)->Prop}{t:DA}(hd:lM K r rd):∀σ H Q,up K H0 O0 (cP rd t) σ H Q->nO r (cW K H0 O0 t) σ H Q:=
 λσ H Q uu74=>by obtain⟨O,δ,Qd,w,q,k⟩:=uu74;exact⟨O,δ,_,w,q,λds vs H1 q1 s1 r1=>hd H1 O vs ds Qd _ (w.mono s1).trk r1 q1 λd v H2 q2 s2 r2=>k d v H2 q2 (s1.trans s2) r2⟩
def dZ(t u:DS):DS:=λE δ=>t {E with nx:=u E} δ
theorem ar{st:Ks}{rest:List Ks}{t u:DS}(h:PS X st (aP X.K H0 O0 t))(h2:bg X rest (aP X.K H0 O0 u)):bg X (st::rest) (aP X.K H0 O0 (dZ t u)):=
 (p5 h h2).imp λD σ H uu75=>by obtain⟨O,δ,E,w,q,k1,k2,k3,k4⟩:=uu75;exact⟨O,δ,_,w,q,λO' δ' σ' H' z w' S=>⟨O',δ',E,w',z,λO2 δ2 σ2 H2 z2 w2 S2=>k1 O2 δ2 σ2 H2 z2 w2 (S.trans S2),k2,λO2 δ2 σ2 H2 z2 w2 S2=>k3 O2 δ2 σ2 H2 z2 w2 (S.trans S2),λO2 δ2 σ2 H2 z2 w2 S2=>k4 O2 δ2 σ2 H2 z2 w2 (S.trans S2)⟩,k2,k3,k4⟩
def d4:DS:=λE δ=>E.nx δ
theorem bN:bg X [] (aP X.K H0 O0 d4):=sX.imp λD σ H uu76=>by obtain⟨O,δ,E,w,q,k1,k2,k3,k4⟩:=uu76;exact k1 O δ σ H q w (aC.refl _ _)
theorem aB{st:Ks}{t:DS}(h:PS X st (aP X.K H0 O0 t)):bg X [st] (aP X.K H0 O0 t):=oz h
def cX(i:Nat)(t:DT):DS:=λE δ=>t δ λd=>E.nx (δ.set i (some (.v d)))
theorem bh{i:Nat}{x:Str}{e:Kk}{t:DT}{pos pos':Pos}(hN:X.N.Nodup)(hi:X.N[i]?=some x)(hx:fP X.env.scope x)(he:DE X H0 O0 e t)(hs:KJ e (some (.Name x pos')) pos.line X.env=pure false:=by rfl)(hf:X.fn x=true\/X.env.scope.names.lookup x=some .local:=by first | exact .inl rfl | exact .inr rfl | assumption):
 PS X (.Assign [.Name x pos'] e pos) (aP X.K H0 O0 (cX i t)):=
 (ti hN hi hx he hs hf).imp λD σ H uu77=>by obtain⟨O,δ,E,w,q,k1,k2,k3,k4⟩:=uu77;exact⟨O,δ,_,w,q,λd v H1 q1 s1 r1=>k1 O _ _ H1 q1 ((w.mono s1).set r1) (.same s1)⟩
def d5(t:DT):DS:=λE δ=>t δ E.rt
theorem d6{K:DL}{H:Hp}{O:Ex}{σ:St}{δ:Dl}(w:Wd K H0 O0 H O σ δ):aC H H O O0:=⟨λ_ _ e _=>e,λb _ n z=>n (w.sub b z)⟩
theorem aR{e:Kk}{t:DT}{pos:Pos}(he:DE X H0 O0 e t):PS X (.Return (some e) pos) (aP X.K H0 O0 (d5 t)):=
 (nz he).imp λD σ H uu78=>by obtain⟨O,δ,E,w,q,k1,k2,k3,k4⟩:=uu78;exact⟨O,δ,_,w,q,λd v H1 q1 s1 r1=>k2 d v H1 q1 (w.same.trans s1) (r1.step (d6 (w.mono s1)))⟩
def d7(i:Nat):DS:=λE δ=>∃ds,δ[i]?=some (some (.o ds))/\E.rt (.list ds)
theorem oU{e:Kk}{i:Nat}{pos:Pos}(he:PE X e (mG i)):PS X (.Return (some e) pos) (aP X.K H0 O0 (d7 i)):=
 (nz he).imp λD σ H uu79=>by
  obtain⟨O,δ,E,w,⟨ds,e,q⟩,k1,k2,k3,k4⟩:=uu79;obtain⟨l,vs,h,a,b,c,r⟩:=w.own e;exact⟨_,h,k2 _ _ H q w.same (.lst (.inl c) b (r.step (d6 w)))⟩
def d8(c:DB)(t u:DS):DS:=λE δ=>c δ λb=>if b=true then t E δ else u E δ
theorem bO{c:Kk}{a b:List Ks}{tc:DB}{t u:DS}{pos:Pos}(hc:PT X c (bu X.K H0 O0 tc))(ha:bg X a (aP X.K H0 O0 t))(hb:bg X b (aP X.K H0 O0 u)):PS X (.If c a b pos) (aP X.K H0 O0 (d8 tc t u)):=
 (sZ hc ha hb).imp λD σ H uu80=>by obtain⟨O,δ,E,w,q,k1,k2,k3,k4⟩:=uu80;exact⟨O,δ,_,w,q,λc H1 q1 s1=>by
  have g:∀{t':DS},t' E δ->aP X.K H0 O0 t' D σ H1:=λz=>⟨O,δ,E,w.mono s1,z,λO2 δ2 σ2 H2 z2 w2 S2=>k1 O2 δ2 σ2 H2 z2 w2 (aC.trans (.same s1) S2),k2,λO2 δ2 σ2 H2 z2 w2 S2=>k3 O2 δ2 σ2 H2 z2 w2 (aC.trans (.same s1) S2),λO2 δ2 σ2 H2 z2 w2 S2=>k4 O2 δ2 σ2 H2 z2 w2 (aC.trans (.same s1) S2)⟩;cases c with
  | true=>exact g q1
  | false=>exact g q1⟩
def d9(t:DT):DS:=λE δ=>t δ λ_=>E.nx δ
theorem yX{e:Kk}{t:DT}{pos:Pos}(he:DE X H0 O0 e t)(hs:KJ e none pos.line X.env=pure false:=by rfl):PS X (.Expr e pos) (aP X.K H0 O0 (d9 t)):=
 (sY he hs).imp λD σ H uu81=>by obtain⟨O,δ,E,w,q,k1,k2,k3,k4⟩:=uu81;exact⟨O,δ,_,w,q,λd v H1 q1 s1 r1=>k1 O δ σ H1 q1 (w.mono s1) (.same s1)⟩
inductive mW (K:DL) (H0:Hp) (O0:Ex) (t:DA) (σ:St) (H:Hp) (R:VK):Prop
 | mk (O:Ex) (δ:Dl) (Qd:List Kb->Prop):Wd K H0 O0 H O σ δ->t δ Qd->(∀ds vs p H',Qd ds->ah H H'->H' p=none->ag K H' O vs ds->R (.ref p) (ai H' p (.lst vs)))->mW K H0 O0 t σ H R
abbrev FE(X:Cx)(H0:Hp)(O0:Ex)(e:Kk)(t:DA):Prop:=PE X e (mW X.K H0 O0 t)
def dL(t:DA):DT:=λδ Q=>t δ λds=>Q (.list ds)
theorem fe{e:Kk}{t:DA}(h:FE X H0 O0 e t):DE X H0 O0 e (dL t):=
 h.imp λσ H Q uu82=>by obtain⟨O,δ,Qd,w,q,k⟩:=uu82;exact⟨O,δ,_,w,q,λds vs p H1 q1 s1 hp r1=>k _ _ _ q1 (s1.trans (ah.new hp)) (.lst (.inl bf) (nS w s1 hp) (r1.mono (ah.new hp)))⟩
def cY(t:DA):DA:=λδ Q=>t δ λds=>ds.length<=Kl/\Q ds
theorem cf{es:List Kk}{t:DA}{pos:Pos}(h:PA X es (cG X.K H0 O0 t)):FE X H0 O0 (.List es pos) (cY t):=
 (xt h).imp λσ H Q uu83=>by obtain⟨O,δ,Qd,w,q,k⟩:=uu83;exact⟨O,δ,_,w,q,λds vs H1 q1 s1 r1=>⟨by rw [r1.length];exact q1.1,λp hp=>k _ _ _ _ q1.2 s1 hp r1⟩⟩
def cZ(i:Nat)(t:DA):DS:=λE δ=>t δ λds=>E.nx (δ.set i (some (.o ds)))
theorem nU{i:Nat}{x:Str}{e:Kk}{t:DA}{pos pos':Pos}(hN:X.N.Nodup)(hi:X.N[i]?=some x)(hx:fP X.env.scope x)(he:FE X H0 O0 e t)(hs:KJ e (some (.Name x pos')) pos.line X.env=pure false:=by rfl)(hf:X.fn x=true\/X.env.scope.names.lookup x=some .local:=by first | exact .inl rfl | exact .inr rfl | assumption):
 PS X (.Assign [.Name x pos'] e pos) (aP X.K H0 O0 (cZ i t)):=
 (ti hN hi hx he hs hf).imp λD σ H ⟨O,δ,E,w,q,k1,k2,k3,k4⟩=>⟨O,δ,_,w,q,λds vs p H1 q1 s1 hp r1=>k1 _ _ _ _ q1 ((w.mono s1).setO hp r1)
  ⟨λb o e _=>(s1.trans (ah.new hp)) b o e,λb e n z=>z.elim n λy=>by
   cases q:H b with
   | none=>exact e q
   | some o=>have:=s1 _ _ q;rw [y,hp] at this;cases this⟩⟩
def ec(i:Nat)(t:DT):DS:=λE δ=>∃ds,δ[i]?=some (some (.o ds))/\t δ λd=>ds.length < Kl/\E.nx (δ.set i (some (.o (ds++[d]))))
theorem nV{i:Nat}{o e:Kk}{t:DT}{apos cpos pos:Pos}(ho:PE X o (mG i))(he:DE X H0 O0 e t)(hbase:LA o "append" X.env (eval o X.env)=eval o X.env:=by rfl)
 (hfew:((KA cpos (Kj [e] X.env)).all (λx=>!x.1) && (backToKw cpos (keywordEach [] X.env)).all (λx=>x.1.isSome) && decide ([e].length+([]:List Ln).length+(if ([]:List Ln).isEmpty then 0 else 1) < 30))=true:=by rfl)
 (hline:(apos.endLine==cpos.line)=true:=by rfl)(hst:Kj [e] X.env=(false,eval e X.env)::Kj [] X.env:=by rfl)(hplain:(KA cpos (Kj [] X.env)).any (·.1)=false:=by rfl)
 (hs:KJ (.Call (.Attribute o "append" apos) [e] [] cpos) none pos.line X.env=pure false:=by rfl):PS X (.Expr (.Call (.Attribute o "append" apos) [e] [] cpos) pos) (aP X.K H0 O0 (ec i t)):=
 (sY (tS Ii PySem.F.slot_list_append PySem.F.type_list_append tU ho (bG he fV hst) hbase hfew hline hst hplain) hs).imp λD σ H uu85=>by
  obtain⟨O,δ,E,w,⟨ds,e,q⟩,k1,k2,k3,k4⟩:=uu85;obtain⟨l,vs,h,a,b,c,r⟩:=w.own e;refine⟨_,h,.inl ⟨rfl,_,aI.of c⟩,O,δ,_,w,q,λd v H1 q1 s1 r1=>?_⟩;refine⟨l,vs,v,rfl,rfl,s1 _ _ c,by rw [r.length];exact q1.1,?_⟩;exact k1 _ _ _ _ q1.2 ((w.mono s1).putO (vs:=vs) e h ((r.mono s1).append (.cons r1 .nil))) ⟨λb' o' z n=>by rw [au (λy=>n (by rw [y];exact a))];exact s1 _ _ z,λ_ _ n=>n⟩
end
structure bX (J:It) (P:Hp->Prop) (vs:List V):Prop where
 go:∀i H',P H'->i < vs.length->J.go i H'
 yl:∀i H' x H'',P H'->i < vs.length->J.yld i H' x H''->H''=H'/\vs[i]?=some x
 st:∀i H',P H'->vs.length<=i->J.stop i H'
def oV(H1:Hp)(a:Ke)(H':Hp):Prop:=∀o,H1 a=some o->H' a=some o
theorem aI.keep{K:DL}{H H':Hp}{a:Ke}{xs:List V}(s:oV H a H')(h:aI K H a xs):aI K H' a xs:=by
 rcases h with(h | ⟨o,h⟩) | h
 ·exact .inl (.inl (s _ h))
 ·exact .inl (.inr ⟨o,s _ h⟩)
 ·exact .inr h
theorem aY.keep{K:DL}{H H':Hp}{a:Ke}{xs:List V}(s:oV H a H')(h:aY K H a xs):aY K H' a xs:=by
 rcases h with(h | ⟨o,h⟩) | h
 ·exact .inl (.inl (s _ h))
 ·exact .inl (.inr ⟨o,s _ h⟩)
 ·exact .inr h
theorem bX.list{K:DL}{H:Hp}{a:Ke}{vs:List V}(h:aI K H a vs):bX (nF K a) (oV H a) vs:=
 ⟨λi H' s hi=>⟨vs,vs[i],h.keep s,by simp [hi]⟩,λi H' x H'' s _ y=>⟨y.1,y.2 vs (h.keep s)⟩,λi H' s hi=>⟨vs,h.keep s,hi⟩⟩
theorem bX.tup{K:DL}{H:Hp}{a:Ke}{vs:List V}(h:aY K H a vs):bX (nG K a) (oV H a) vs:=
 ⟨λi H' s hi=>⟨vs,vs[i],h.keep s,by simp [hi]⟩,λi H' x H'' s _ y=>⟨y.1,y.2 vs (h.keep s)⟩,λi H' s hi=>⟨vs,h.keep s,hi⟩⟩
def c5(lo:Int)(n:Nat):List Kb:=(EZ n).map λ(k:Nat)=>.int (lo+k)
theorem bX.rng{lo:Int}{n:Nat}:bX (k8 lo n) (λ_=>True) ((EZ n).map λ(k:Nat)=>V.int (lo+k)):=by
 refine⟨λi H' s hi=>(by simpa using hi:i < n),λi H' x H'' s hi y=>⟨y.1,?_⟩,λi H' s hi=>(by simpa using hi:n<=i)⟩;obtain⟨_,rfl⟩:=y;have hn:i < n:=by simpa using hi
 simp [hn]
theorem ag.rng{K:DL}{H:Hp}{O:Ex}{lo:Int}:∀(l:List Nat),ag K H O (l.map λ(k:Nat)=>V.int (lo+k)) (l.map λ(k:Nat)=>DY (lo+k))
 | []=>.nil
 | n::r=>.cons (.int _) (ag.rng r)
abbrev DG:=Kb->Dl->(Dl->Prop)->Prop
def GD(K:DL)(g:TG)(dg:DG):Prop:=∀(H0:Hp)(O0:Ex)(H:Hp)(O:Ex)(σ:St)(δ:Dl)(v:V)(x:Kb)(R:St->Hp->Prop)(Qd:Dl->Prop),Wd K H0 O0 H O σ δ->Dt K H O v x->dg x δ Qd->(∀δ' σ',Qd δ'->Wd K H0 O0 H O σ' δ'->R σ' H)->g v σ H R
def eg(i:Nat):DG:=λx δ Q=>Q (δ.set i (some (.v x)))
theorem bq{K:DL}{i:Nat}:GD K (fT i) (eg i):=λH0 O0 H O σ δ v x R Qd w r q k=>k _ _ q (w.set r)
abbrev mi:=List Kb->Dl->(Dl->Prop)->Prop
def oW(K:DL)(g:fS)(dg:mi):Prop:=∀(H0:Hp)(O0:Ex)(H:Hp)(O:Ex)(σ:St)(δ:Dl)(vs:List V)(xs:List Kb)(R:St->Hp->Prop)(Qd:Dl->Prop),Wd K H0 O0 H O σ δ->ag K H O vs xs->dg xs δ Qd->(∀δ' σ',Qd δ'->Wd K H0 O0 H O σ' δ'->R σ' H)->g vs σ H R
def eh:mi:=λxs δ Q=>xs=[]/\Q δ
def ek(t:DG)(u:mi):mi:=λxs δ Q=>∃x r,xs=x::r/\t x δ λδ'=>u r δ' Q
theorem qS{K:DL}:oW K nA eh:=λH0 O0 H O σ δ vs xs R Qd w r uu86 k=>by obtain⟨e,q⟩:=uu86;subst e;cases r;exact⟨rfl,k _ _ q w⟩
theorem mX{K:DL}{t:TG}{u:fS}{dt:DG}{du:mi}(h:GD K t dt)(h2:oW K u du):oW K (mJ t u) (ek dt du):=λH0 O0 H O σ δ vs xs R Qd w r uu87 k=>by
 obtain⟨x,rr,e,q⟩:=uu87;subst e;cases r with
 | cons r1 r2=>exact⟨_,_,rfl,h H0 O0 H O σ δ _ _ _ _ w r1 q λδ' σ' q' w'=>h2 H0 O0 H O σ' δ' _ _ R Qd w' r2 q' k⟩
def er(n:Nat)(t:mi):DG:=λx δ Q=>∃xs,x= .tuple xs/\xs.length=n/\t xs δ Q
theorem qT{K:DL}{n:Nat}{t:fS}{dt:mi}(h:oW K t dt):GD K (nB K n t) (er n dt):=λH0 O0 H O σ δ v x R Qd w r uu88 k=>by
 obtain⟨xs,e,hl,q⟩:=uu88;subst e;obtain⟨a,vs,rfl,hs,rr⟩:=(Sh.dt r).tup;exact⟨a,vs,rfl,hs,by rw [rr.length];exact hl,h H0 O0 H O σ δ _ _ R Qd w rr q k⟩
section
variable {X:Cx} {H0:Hp} {O0:Ex}
def eu(t:DT)(g:DG):DS:=λE δ=>t δ λd=>g d δ E.nx
theorem yY{tg e:Kk}{t:DT}{g:TG}{dg:DG}{pos:Pos}(he:DE X H0 O0 e t)(hg:PG X tg g)(gd:GD X.K g dg)(hs:swapsWithSole [tg] e pos.line X.env=pure false:=by rfl)(hw:swappedStores [tg] e X.env=pure none:=by rfl)
 (h1:(Lg [tg] X.env).map (·.2)=[assign tg X.env]:=by rfl):PS X (.Assign [tg] e pos) (aP X.K H0 O0 (eu t dg)):=
 (wZ he hg hs hw h1).imp λD σ H uu89=>by obtain⟨O,δ,E,w,q,k1,k2,k3,k4⟩:=uu89;exact⟨O,δ,_,w,q,λd v H1 q1 s1 r1=>gd H0 O0 H1 O σ δ v d _ _ (w.mono s1) r1 q1 λδ' σ' q' w'=>k1 O δ' σ' H1 q' w' (.same s1)⟩
def gh(i j:Nat)(t:DA):DS:=λE δ=>t δ λds=>∃x y,ds=[x,y]/\E.nx ((δ.set i (some (.v x))).set j (some (.v y)))
def bT(g:DG)(tb:DS)(E:lK):List Kb->Dl->Prop
 | [],δ=>E.nx δ
 | x::xs,δ=>g x δ λδ2=>tb {E with nx:=bT g tb E xs,ct:=bT g tb E xs,bk:=E.nx} δ2
theorem DI{K:DL}{J:It}{P:Hp->Prop}{vs:List V}{xs:List Kb}{g:TG}{dg:DG}{tb:DS}{D:fQ}{E:lK}{σ:St}{H:Hp}{O:Ex}{δ:Dl}(S:bX J P vs)(gd:GD K g dg)
 (hP:∀H' O',aC H H' O O'->P H')(r:ag K H O vs xs)(w:Wd K H0 O0 H O σ δ)(q:bT dg tb E xs δ)
 (k1:∀O' δ' σ' H',E.nx δ'->Wd K H0 O0 H' O' σ' δ'->aC H H' O O'->D.nx σ' H')(k2:∀d v H',E.rt d->ah H0 H'->Dt K H' O0 v d->D.rt v H'):FR J g (aP K H0 O0 tb) D σ H:=by
 refine⟨λi m σ' H'=>∃O' δ',m=vs.length - i/\i<=vs.length/\Wd K H0 O0 H' O' σ' δ'/\aC H H' O O'/\bT dg tb E (xs.drop i) δ',⟨vs.length,O,δ,Ka,E1 _,w,aC.refl _ _,by simpa using q⟩,?_⟩;rintro i m σ1 H1 ⟨O1,δ1,rfl,hi,w1,S1,q1⟩;by_cases hlt:i < vs.length
 ·refine .inr ⟨S.go i H1 (hP _ _ S1) hlt,λσ' H'=>∃O' δ',Wd K H0 O0 H' O' σ' δ'/\aC H H' O O'/\bT dg tb E (xs.drop (i+1)) δ',λσ' H' uu90=>by obtain⟨O',δ',w',S',q'⟩:=uu90;exact⟨vs.length - (i+1),J4,O',δ',rfl,hlt,w',S',q'⟩,λx H' y=>?_⟩;have yy:=S.yl i H1 x H' (hP _ _ S1) hlt y;clear y;obtain⟨e,y⟩:=yy;subst e;obtain⟨d,ed,rd⟩:=r.get y;have hd:xs.drop i=d::xs.drop (i+1):=by
   rw [GB (h:=(DZ.mp ed).1),(DZ.mp ed).2]
  rw [hd] at q1;refine gd H0 O0 _ O1 σ1 δ1 x d _ _ w1 (rd.step S1) q1 λδ2 σ2 q2 w2=>?_;refine⟨O1,δ2,_,w2,q2,λO' δ' σ' H' z w' S'=>⟨O',δ',w',S1.trans S',z⟩,k2,λO' δ' σ' H' z w' S'=>k1 O' δ' σ' H' z w' (S1.trans S'),λO' δ' σ' H' z w' S'=>⟨O',δ',w',S1.trans S',z⟩⟩
 ·have e:i=vs.length:=J4
  subst e;refine .inl ⟨S.st _ H1 (hP _ _ S1) (DU _),?_⟩;rw [r.length,Ip (DU _)] at q1;exact k1 O1 δ1 σ1 H1 q1 w1 S1
def cQ(g:DG)(tb:DS)(E:lK)(xs:List Kb)(δ:Dl):Prop:=∃I:Nat->Dl->Prop,I 0 δ/\(∀i x δ,xs[i]?=some x->I i δ->g x δ λδ2=>tb {E with nx:=I (i+1),ct:=I (i+1),bk:=E.nx} δ2)/\∀δ,I xs.length δ->E.nx δ
theorem oX{K:DL}{J:It}{P:Hp->Prop}{vs:List V}{xs:List Kb}{g:TG}{dg:DG}{tb:DS}{D:fQ}{E:lK}{σ:St}{H:Hp}{O:Ex}{δ:Dl}(S:bX J P vs)(gd:GD K g dg)
 (hP:∀H' O',aC H H' O O'->P H')(r:ag K H O vs xs)(w:Wd K H0 O0 H O σ δ)(q:cQ dg tb E xs δ)
 (k1:∀O' δ' σ' H',E.nx δ'->Wd K H0 O0 H' O' σ' δ'->aC H H' O O'->D.nx σ' H')(k2:∀d v H',E.rt d->ah H0 H'->Dt K H' O0 v d->D.rt v H'):FR J g (aP K H0 O0 tb) D σ H:=by
 obtain⟨Iv,q0,qs,qe⟩:=q;refine⟨λi m σ' H'=>∃O' δ',m=vs.length - i/\i<=vs.length/\Wd K H0 O0 H' O' σ' δ'/\aC H H' O O'/\Iv i δ',⟨vs.length,O,δ,Ka,E1 _,w,aC.refl _ _,q0⟩,?_⟩;rintro i m σ1 H1 ⟨O1,δ1,rfl,hi,w1,S1,q1⟩;by_cases hlt:i < vs.length
 ·refine .inr ⟨S.go i H1 (hP _ _ S1) hlt,λσ' H'=>∃O' δ',Wd K H0 O0 H' O' σ' δ'/\aC H H' O O'/\Iv (i+1) δ',λσ' H' uu91=>by obtain⟨O',δ',w',S',q'⟩:=uu91;exact⟨vs.length - (i+1),J4,O',δ',rfl,hlt,w',S',q'⟩,λx H' y=>?_⟩;have yy:=S.yl i H1 x H' (hP _ _ S1) hlt y;clear y;obtain⟨e,y⟩:=yy;subst e;obtain⟨d,ed,rd⟩:=r.get y;refine gd H0 O0 _ O1 σ1 δ1 x d _ _ w1 (rd.step S1) (qs i d δ1 ed q1) λδ2 σ2 q2 w2=>?_;refine⟨O1,δ2,_,w2,q2,λO' δ' σ' H' z w' S'=>⟨O',δ',w',S1.trans S',z⟩,k2,λO' δ' σ' H' z w' S'=>k1 O' δ' σ' H' z w' (S1.trans S'),λO' δ' σ' H' z w' S'=>⟨O',δ',w',S1.trans S',z⟩⟩
 ·have e:i=vs.length:=J4
  subst e;refine .inl ⟨S.st _ H1 (hP _ _ S1) (DU _),?_⟩;rw [r.length] at q1;exact k1 O1 δ1 σ1 H1 (qe δ1 q1) w1 S1
def gi(t:DT)(g:DG)(tb:DS):DS:=λE δ=>t δ λd=>∃xs,d= .list xs/\bT g tb E xs δ
def gj(t:DT)(g:DG)(tb:DS):DS:=λE δ=>t δ λd=>∃xs,d= .tuple xs/\bT g tb E xs δ
def gm(t:DA)(g:DG)(tb:DS):DS:=λE δ=>t δ λds=>∃j:Int,ds=[.int j]/\-(2 ^ 62)<=j/\j < 2 ^ 62/\bT g tb E (c5 0 j.toNat) δ
def gn(t:DA)(g:DG)(tb:DS):DS:=λE δ=>t δ λds=>∃i j:Int,ds=[.int i,.int j]/\(-(2 ^ 62)<=i/\i < 2 ^ 62/\-(2 ^ 62)<=j/\j < 2 ^ 62)/\bT g tb E (c5 i (j - i).toNat) δ
def eD(t:DT)(g:DG)(tb:DS):DS:=λE δ=>t δ λd=>∃xs,d= .list xs/\cQ g tb E xs δ
def eF(t:DT)(g:DG)(tb:DS):DS:=λE δ=>t δ λd=>∃xs,d= .tuple xs/\cQ g tb E xs δ
def eG(t:DA)(g:DG)(tb:DS):DS:=λE δ=>t δ λds=>∃j:Int,ds=[.int j]/\-(2 ^ 62)<=j/\j < 2 ^ 62/\cQ g tb E (c5 0 j.toNat) δ
def gr(t:DA)(g:DG)(tb:DS):DS:=λE δ=>t δ λds=>∃i j:Int,ds=[.int i,.int j]/\(-(2 ^ 62)<=i/\i < 2 ^ 62/\-(2 ^ 62)<=j/\j < 2 ^ 62)/\cQ g tb E (c5 i (j - i).toNat) δ
section
variable {tg iter:Kk} {body:List Ks} {t:DT} {ta:DA} {g:TG} {dg:DG} {tb:DS} {pos p ps:Pos}
theorem qU(hp:PassesOwn (Ki X.prog X.w) X.A X.env X.xe)(hc:X.calm=true)(hi:DE X H0 O0 iter t)(hg:PG X tg g)(gd:GD X.K g dg)(hb:bg X body (aP X.K H0 O0 tb))(hs:∀x,Kt iter X.env x=pure x:=by intro _;rfl):
 PS X (.For tg iter body [] pos) (aP X.K H0 O0 (eD t dg tb)):=
 (oC hp hc (tm hi) hg hb hs).imp λD σ H uu92=>by obtain⟨O,δ,E,w,q,k1,k2,k3,k4⟩:=uu92;exact⟨O,δ,_,w,q,λd v H1 uu93 s1 r1=>by
  obtain⟨xs,e,q1⟩:=uu93;subst e;cases r1 with
  | lst h n r=>
   refine⟨_,rfl,⟨_,.inl h⟩,oX (bX.list (.inl h)) gd (λH' O' S o e=>S.keep _ _ e n) r (w.mono s1) q1 (λO' δ' σ' H' z w' S=>k1 O' δ' σ' H' z w' (aC.trans (.same s1) S)) k2⟩⟩
theorem um(hp:PassesOwn (Ki X.prog X.w) X.A X.env X.xe)(hc:X.calm=true)(hi:DE X H0 O0 iter t)(hg:PG X tg g)(gd:GD X.K g dg)(hb:bg X body (aP X.K H0 O0 tb))(hs:∀x,Kt iter X.env x=pure x:=by intro _;rfl):
 PS X (.For tg iter body [] pos) (aP X.K H0 O0 (eF t dg tb)):=
 (oC hp hc (qh hi) hg hb hs).imp λD σ H uu94=>by obtain⟨O,δ,E,w,q,k1,k2,k3,k4⟩:=uu94;exact⟨O,δ,_,w,q,λd v H1 uu95 s1 r1=>by
  obtain⟨xs,e,q1⟩:=uu95;subst e;cases r1 with
  | tup h n r=>
   refine⟨_,rfl,⟨_,.inl h⟩,oX (bX.tup (.inl h)) gd (λH' O' S o e=>S.keep _ _ e n) r (w.mono s1) q1 (λO' δ' σ' H' z w' S=>k1 O' δ' σ' H' z w' (aC.trans (.same s1) S)) k2⟩
  | tupK h r=>
   refine⟨_,rfl,⟨_,h.of0⟩,oX (P:=λ_=>True) ⟨λi H' _ hi=>⟨_,_,h.of0,by simp [hi];rfl⟩,λi H' x H'' _ _ y=>⟨y.1,y.2 _ h.of0⟩,λi H' _ hi=>⟨_,h.of0,hi⟩⟩ gd (λ_ _ _=>trivial) r (w.mono s1) q1 (λO' δ' σ' H' z w' S=>k1 O' δ' σ' H' z w' (aC.trans (.same s1) S)) k2⟩⟩
theorem qV(hp:PassesOwn (Ki X.prog X.w) X.A X.env X.xe)(hc:X.calm=true){a:Kk}(hgl:Gl X "range")(hm:X.mg "range"=none)(ha:PA X [a] (cG X.K H0 O0 ta))(hg:PG X tg g)(gd:GD X.K g dg)(hb:bg X body (aP X.K H0 O0 tb))
 (hst:Kj [a] X.env=[(false,eval a X.env)]:=by rfl)(hs:∀x,Kt (.Call (.Name "range" p) [a] [] ps) X.env x=pure x:=by intro _;rfl):
 PS X (.For tg (.Call (.Name "range" p) [a] [] ps) body [] pos) (aP X.K H0 O0 (eG ta dg tb)):=
 (oC hp hc (qj hgl hm ha hst) hg hb hs).imp λD σ H uu96=>by obtain⟨O,δ,E,w,q,k1,k2,k3,k4⟩:=uu96;exact⟨O,δ,_,w,q,λds vs H1 uu0 s1 r1=>by
  obtain⟨j,e,b1,b2,q1⟩:=uu0;subst e;cases r1 with
  | cons r1 r2=>
   cases r2;cases r1;exact⟨j,rfl,b1,b2,oX bX.rng gd (λ_ _ _=>trivial) (ag.rng _) (w.mono s1) q1 (λO' δ' σ' H' z w' S=>k1 O' δ' σ' H' z w' (aC.trans (.same s1) S)) k2⟩⟩
end
def gs(i:Nat)(t:DS):DS:=λE δ=>∃ds,δ[i]?=some (some (.o ds))/\t E (δ.set i (some (.v (.list ds))))
def bj(k:Nat)(fr:List Nat)(δ:Dl):Dl:=D6 k none++fr.map λj=>(δ[j]?).join
def mj(g:DG)(tc:DB)(te:DT)(δ0:Dl):List Kb->List Kb->(List Kb->Prop)->Prop
 | [],acc,Q=>Q acc
 | x::xs,acc,Q=>g x δ0 λδ2=>tc δ2 λok=>if ok=true then te δ2 λy=>mj g tc te δ0 xs (acc++[y]) Q else mj g tc te δ0 xs acc Q
theorem Wd.comp{K:DL}{H:Hp}{O:Ex}{σ:St}{δ:Dl}(w:Wd K H0 O0 H O σ δ){k:Nat}{fr:List Nat}(hf:fr.Nodup):Wd K H0 O0 H O (aG k fr σ) (bj k fr δ):=by
 have at1:∀{α:Type}(l:List (Option α))(i:Nat),(D6 k none++fr.map λj=>(l[j]?).join)[i]?=if i < k then some none else(fr[i - k]?).map λj=>(l[j]?).join:=by
  intro α l i;by_cases h:i < k
  ·rw [J6 h,F7 (by simpa using h),GP,J6 h]
  ·rw [J5 h,Gx (by simpa using Ib h),D7];simp
 have un:∀{α:Type}(l:List (Option α))(i:Nat)(x:α),(D6 k none++fr.map λj=>(l[j]?).join)[i]?=some (some x)->∃j,fr[i - k]?=some j/\k<=i/\l[j]?=some (some x):=by
  intro α l i x h;rw [at1] at h;split at h
  ·cases h
  ·cases e:fr[i - k]? with
   | none=>rw [e] at h;cases h
   | some j=>
    rw [e] at h;refine⟨j,rfl,J4,?_⟩;have h':(l[j]?).join=some x:=ED h;cases q:l[j]? with
    | none=>rw [q] at h';cases h'
    | some o=>rw [q] at h';rw [show o=some x from h']
 refine⟨w.same,w.sub,w.new,w.trk,by simp [aG,bj],λi y e=>?_,λi j y z l e1 y1 e2 z2 e3 e4=>?_⟩
 ·match y,e with
  | none,_=>exact G6
  | some x,e=>
   obtain⟨j,hj,hk,ej⟩:=un δ i x e;have q:=w.sl j _ ej;have e2:((aG k fr σ)[i]?).join=(σ[j]?).join:=by
    unfold aG;rw [at1,J5 J4,hj];rfl
   rw [e2];exact q
 ·obtain⟨a,ha,ka,ea⟩:=un δ i _ e1;obtain⟨b,hb,kb,eb⟩:=un δ j _ e2;obtain⟨a',ha',_,ea'⟩:=un σ i _ e3;obtain⟨b',hb',_,eb'⟩:=un σ j _ e4;rw [ha] at ha';cases ha';rw [hb] at hb';cases hb';have:=w.dis a b y z l ea y1 eb z2 ea' eb';subst this;have e5:=(List.getElem?_inj (l:=fr) (i:=i - k) (j:=j - k) (DZ.mp ha).1 hf).mp (by rw [ha,hb]);omega
theorem DJ{K:DL}{J:It}{P:Hp->Prop}{vs:List V}{xs:List Kb}{g:TG}{dg:DG}{tc:TT}{dc:DB}{te:TE}{de:DT}{k:Nat}{fr:List Nat}{σ:St}{H:Hp}{O:Ex}{δ:Dl}{Qd:List Kb->Prop}{Q:VK}(S:bX J P vs)(gd:GD K g dg)(hf:fr.Nodup)
 (hk:∀v:V,∀σ':St,∀H':Hp,∀R:St->Hp->Prop,g v (aG k fr σ) H' R->g v (aG k fr σ) H' λσ2 H2=>me (aG k fr σ) σ2/\R σ2 H2)
 (hc:∀σ H Q,bu K H0 O0 dc σ H Q->tc σ H Q)(he:∀σ H Q,up K H0 O0 de σ H Q->te σ H Q)
 (hP:∀D H',H D=none->mR D H H'->P H')(r:ag K H O vs xs)(w:Wd K H0 O0 H O σ δ)(hz:vs.length<=Kl)(q:mj dg dc de (bj k fr δ) xs [] Qd)
 (k1:∀ds us p H',Qd ds->ah H H'->H' p=none->ag K H' O us ds->Q (.ref p) (ai H' p (.lst us))):mS J g tc te k fr σ H Q:=by
 intro D hD;have w0:Wd K H0 O0 H O (aG k fr σ) (bj k fr δ):=w.comp hf;have nD:¬O D:=λz=>w.trk D z hD;have D0:H0 D=none:=by
  cases e:H0 D with
  | none=>rfl
  | some o=>rw [w.same _ _ e] at hD;cases hD
 have ex:∀H',mR D H H'->H' D≠none->Wd K H0 O0 H' (λa=>O a\/a=D) (aG k fr σ) (bj k fr δ):=λH' s' hd=>by
  have S':aC H H' O (λa=>O a\/a=D):=⟨λb o e _=>s' b o e (bV e hD),λb hb hn z=>z.elim hn λq=>hb (by rw [q];exact hD)⟩;refine⟨λb o e=>s' b o (w.same b o e) (λz=>by rw [z,D0] at e;cases e),λl z=>.inl (w.sub l z),λl z=>z.elim (w.new l) λq=>.inr (by rw [q];exact D0),λl z=>?_,w0.len,λj y e=>?_,w0.dis⟩
  ·by_cases ql:l=D
   ·rw [ql];exact hd
   ·have hl:=w.trk l (z.resolve_right ql);cases e:H l with
    | none=>exact absurd e hl
    | some o=>rw [s' l o e ql];exact λz=>nomatch z
  ·exact(w0.sl j y e).go S' (λl o _ _ a1 _ a3=>⟨.inl a1,s' _ _ a3 (λz=>nD (by rw [<-z];exact a1))⟩) (λa o u a1 _ a3=>⟨.inl a1,s' _ _ a3 (λz=>nD (by rw [<-z];exact a1))⟩) λa o a1 a3=>s' _ _ a3 (λz=>nD (by rw [<-z];exact w.sub _ a1))
 refine⟨λi m H'=>∃acc ys,m=vs.length - i/\i<=vs.length/\mR D H H'/\H' D=some (.lst ys)/\ys.length<=i/\ag K H' (λa=>O a\/a=D) ys acc/\mj dg dc de (bj k fr δ) (xs.drop i) acc Qd,⟨vs.length,[],[],Ka,E1 _,λb o e n=>by rw [au n];exact e,bf,E1 _,.nil,by simpa using q⟩,?_⟩;rintro i m H1 ⟨acc,ys,rfl,hi,s1,e1,hy,ra,q1⟩;by_cases hlt:i < vs.length
 ·refine .inr ⟨S.go i H1 (hP D H1 hD s1) hlt,λx H' y=>?_⟩;have yy:=S.yl i H1 x H' (hP D H1 hD s1) hlt y;clear y;obtain⟨e,y⟩:=yy;subst e;obtain⟨d,ed,rd⟩:=r.get y;have hd:xs.drop i=d::xs.drop (i+1):=by
   rw [GB (h:=(DZ.mp ed).1),(DZ.mp ed).2]
  rw [hd] at q1;have w1:=ex _ s1 (by rw [e1];exact λz=>nomatch z);have S':aC H H' O (λa=>O a\/a=D):=⟨λb o e _=>s1 b o e (bV e hD),λb hb hn z=>z.elim hn λq=>hb (by rw [q];exact hD)⟩;refine hk x σ _ _ (gd H0 O0 _ _ _ _ x d _ _ w1 (rd.step S') q1 λδ2 σ2 q2 w2=>?_);refine hc σ2 _ _ ⟨_,δ2,_,w2,q2,λok H3 q3 s3=>?_⟩;cases ok with
  | true=>
   rw [J6 rfl];refine he σ2 H3 _ ⟨_,δ2,_,w2.mono s3,q3,λd' v H4 q4 s4 r4=>?_⟩;have e4:=s4 _ _ (s3 _ _ e1);have sD:aC H4 (ai H4 D (.lst (ys++[v]))) (λa=>O a\/a=D) (λa=>O a\/a=D):=⟨λb o e n=>by rw [au (λz=>n (.inr z))];exact e,λ_ _ n=>n⟩;refine⟨ys,e4,J4,vs.length - (i+1),J4,acc++[d'],ys++[v],rfl,hlt,λb o e n=>by rw [au n];exact s4 _ _ (s3 _ _ (s1 b o e n)),bf,by simpa using hy,?_,q4⟩;exact((ra.mono (s3.trans s4)).append (.cons r4 .nil)).step sD
  | false=>
   rw [J5 J3];exact⟨vs.length - (i+1),J4,acc,ys,rfl,hlt,λb o e n=>s3 _ _ (s1 b o e n),s3 _ _ e1,J4,ra.mono s3,q3⟩
 ·have e:i=vs.length:=J4
  subst e;refine .inl ⟨S.st _ H1 (hP D H1 hD s1) (DU _),?_⟩;rw [r.length,Ip (DU _)] at q1;have hrest:∃H2:Hp,H2 D=none/\ah H H2/\H1=ai H2 D (.lst ys):=by
   refine⟨λb=>if b=D then none else H1 b,Ka,λb o e=>?_,?_⟩
   ·have n:=bV e hD;show(if b=D then none else H1 b)=some o;rw [J5 n];exact s1 b o e n
   ·funext b;by_cases z:b=D
    ·rw [z,bf];exact e1
    ·rw [au z];show H1 b=if b=D then none else H1 b;rw [J5 z]
  obtain⟨H2,h2,s2,rfl⟩:=hrest;refine k1 acc ys D H2 q1 s2 h2 (ra.step ⟨λb o e n=>?_,λb _ n z=>n (.inl z)⟩);rw [au (λz=>n (.inr z))] at e;exact e
def c6(g:DG)(tc:DB)(te:DT)(δ0:Dl)(xs:List Kb)(Q:List Kb->Prop):Prop:=∃I:Nat->List Kb->Prop,I 0 []/\(∀i x acc,xs[i]?=some x->I i acc->g x δ0 λδ2=>tc δ2 λok=>if ok=true then te δ2 λy=>I (i+1) (acc++[y]) else I (i+1) acc)/\∀acc,I xs.length acc->Q acc
theorem nW{K:DL}{J:It}{P:Hp->Prop}{vs:List V}{xs:List Kb}{g:TG}{dg:DG}{tc:TT}{dc:DB}{te:TE}{de:DT}{k:Nat}{fr:List Nat}{σ:St}{H:Hp}{O:Ex}{δ:Dl}{Qd:List Kb->Prop}{Q:VK}(S:bX J P vs)(gd:GD K g dg)(hf:fr.Nodup)
 (hk:∀v:V,∀σ':St,∀H':Hp,∀R:St->Hp->Prop,g v (aG k fr σ) H' R->g v (aG k fr σ) H' λσ2 H2=>me (aG k fr σ) σ2/\R σ2 H2)
 (hc:∀σ H Q,bu K H0 O0 dc σ H Q->tc σ H Q)(he:∀σ H Q,up K H0 O0 de σ H Q->te σ H Q)
 (hP:∀D H',H D=none->mR D H H'->P H')(r:ag K H O vs xs)(w:Wd K H0 O0 H O σ δ)(hz:vs.length<=Kl)(q:c6 dg dc de (bj k fr δ) xs Qd)
 (k1:∀ds us p H',Qd ds->ah H H'->H' p=none->ag K H' O us ds->Q (.ref p) (ai H' p (.lst us))):mS J g tc te k fr σ H Q:=by
 obtain⟨Iv,q0,qs,qe⟩:=q;intro D hD;have w0:Wd K H0 O0 H O (aG k fr σ) (bj k fr δ):=w.comp hf;have nD:¬O D:=λz=>w.trk D z hD;have D0:H0 D=none:=by
  cases e:H0 D with
  | none=>rfl
  | some o=>rw [w.same _ _ e] at hD;cases hD
 have ex:∀H',mR D H H'->H' D≠none->Wd K H0 O0 H' (λa=>O a\/a=D) (aG k fr σ) (bj k fr δ):=λH' s' hd=>by
  have S':aC H H' O (λa=>O a\/a=D):=⟨λb o e _=>s' b o e (bV e hD),λb hb hn z=>z.elim hn λq=>hb (by rw [q];exact hD)⟩;refine⟨λb o e=>s' b o (w.same b o e) (λz=>by rw [z,D0] at e;cases e),λl z=>.inl (w.sub l z),λl z=>z.elim (w.new l) λq=>.inr (by rw [q];exact D0),λl z=>?_,w0.len,λj y e=>?_,w0.dis⟩
  ·by_cases ql:l=D
   ·rw [ql];exact hd
   ·have hl:=w.trk l (z.resolve_right ql);cases e:H l with
    | none=>exact absurd e hl
    | some o=>rw [s' l o e ql];exact λz=>nomatch z
  ·exact(w0.sl j y e).go S' (λl o _ _ a1 _ a3=>⟨.inl a1,s' _ _ a3 (λz=>nD (by rw [<-z];exact a1))⟩) (λa o u a1 _ a3=>⟨.inl a1,s' _ _ a3 (λz=>nD (by rw [<-z];exact a1))⟩) λa o a1 a3=>s' _ _ a3 (λz=>nD (by rw [<-z];exact w.sub _ a1))
 refine⟨λi m H'=>∃acc ys,m=vs.length - i/\i<=vs.length/\mR D H H'/\H' D=some (.lst ys)/\ys.length<=i/\ag K H' (λa=>O a\/a=D) ys acc/\Iv i acc,⟨vs.length,[],[],Ka,E1 _,λb o e n=>by rw [au n];exact e,bf,E1 _,.nil,q0⟩,?_⟩;rintro i m H1 ⟨acc,ys,rfl,hi,s1,e1,hy,ra,q1⟩;by_cases hlt:i < vs.length
 ·refine .inr ⟨S.go i H1 (hP D H1 hD s1) hlt,λx H' y=>?_⟩;have yy:=S.yl i H1 x H' (hP D H1 hD s1) hlt y;clear y;obtain⟨e,y⟩:=yy;subst e;obtain⟨d,ed,rd⟩:=r.get y;have w1:=ex _ s1 (by rw [e1];exact λz=>nomatch z);have S':aC H H' O (λa=>O a\/a=D):=⟨λb o e _=>s1 b o e (bV e hD),λb hb hn z=>z.elim hn λq=>hb (by rw [q];exact hD)⟩;refine hk x σ _ _ (gd H0 O0 _ _ _ _ x d _ _ w1 (rd.step S') (qs i d acc ed q1) λδ2 σ2 q2 w2=>?_);refine hc σ2 _ _ ⟨_,δ2,_,w2,q2,λok H3 q3 s3=>?_⟩;cases ok with
  | true=>
   rw [J6 rfl];refine he σ2 H3 _ ⟨_,δ2,_,w2.mono s3,q3,λd' v H4 q4 s4 r4=>?_⟩;have e4:=s4 _ _ (s3 _ _ e1);have sD:aC H4 (ai H4 D (.lst (ys++[v]))) (λa=>O a\/a=D) (λa=>O a\/a=D):=⟨λb o e n=>by rw [au (λz=>n (.inr z))];exact e,λ_ _ n=>n⟩;refine⟨ys,e4,J4,vs.length - (i+1),J4,acc++[d'],ys++[v],rfl,hlt,λb o e n=>by rw [au n];exact s4 _ _ (s3 _ _ (s1 b o e n)),bf,by simpa using hy,?_,q4⟩;exact((ra.mono (s3.trans s4)).append (.cons r4 .nil)).step sD
  | false=>
   rw [J5 J3];exact⟨vs.length - (i+1),J4,acc,ys,rfl,hlt,λb o e n=>s3 _ _ (s1 b o e n),s3 _ _ e1,J4,ra.mono s3,q3⟩
 ·have e:i=vs.length:=J4
  subst e;refine .inl ⟨S.st _ H1 (hP D H1 hD s1) (DU _),?_⟩;rw [r.length] at q1;have hrest:∃H2:Hp,H2 D=none/\ah H H2/\H1=ai H2 D (.lst ys):=by
   refine⟨λb=>if b=D then none else H1 b,Ka,λb o e=>?_,?_⟩
   ·have n:=bV e hD;show(if b=D then none else H1 b)=some o;rw [J5 n];exact s1 b o e n
   ·funext b;by_cases z:b=D
    ·rw [z,bf];exact e1
    ·rw [au z];show H1 b=if b=D then none else H1 b;rw [J5 z]
  obtain⟨H2,h2,s2,rfl⟩:=hrest;refine k1 acc ys D H2 (qe acc q1) s2 h2 (ra.step ⟨λb o e n=>?_,λb _ n z=>n (.inl z)⟩);rw [au (λz=>n (.inr z))] at e;exact e
def gu(t:DT)(g:DG)(tc:DB)(te:DT)(k:Nat)(fr:List Nat):DA:=λδ Q=>t δ λd=>∃xs,d= .list xs/\xs.length<=Kl/\mj g tc te (bj k fr δ) xs [] Q
def gy(t:DT)(g:DG)(tc:DB)(te:DT)(k:Nat)(fr:List Nat):DA:=λδ Q=>t δ λd=>∃xs,d= .tuple xs/\xs.length<=Kl/\mj g tc te (bj k fr δ) xs [] Q
def gz(ta:DA)(g:DG)(tc:DB)(te:DT)(k:Nat)(fr:List Nat):DA:=λδ Q=>ta δ λds=>∃j:Int,ds=[.int j]/\-(2 ^ 62)<=j/\j < Kl/\mj g tc te (bj k fr δ) (c5 0 j.toNat) [] Q
def cH:DB:=λ_ Q=>Q true
def lN(g:TG)(k:Nat):Prop:=∀(fr:List Nat)(σ:St)(v:V)(H':Hp)(R:St->Hp->Prop),g v (aG k fr σ) H' R->g v (aG k fr σ) H' λσ2 H2=>me (aG k fr σ) σ2/\R σ2 H2
theorem cR:lN (fT 0) 1:=λfr σ v H' R h=>⟨x9,h⟩
def c8(t:DT)(g:DG)(tc:DB)(te:DT)(k:Nat)(fr:List Nat):DA:=λδ Q=>t δ λd=>∃xs,d= .list xs/\xs.length<=Kl/\c6 g tc te (bj k fr δ) xs Q
def cS(t:DT)(g:DG)(tc:DB)(te:DT)(k:Nat)(fr:List Nat):DA:=λδ Q=>t δ λd=>∃xs,d= .tuple xs/\xs.length<=Kl/\c6 g tc te (bj k fr δ) xs Q
def dh(ta:DA)(g:DG)(tc:DB)(te:DT)(k:Nat)(fr:List Nat):DA:=λδ Q=>ta δ λds=>∃j:Int,ds=[.int j]/\-(2 ^ 62)<=j/\j < Kl/\c6 g tc te (bj k fr δ) (c5 0 j.toNat) Q
section
variable {tg iter elt:Kk} {ifs:List Kk} {scope:Kz} {N':List Str} {k:Nat} {fr:List Nat} {g:TG} {dg:DG} {t:DT} {ta:DA} {tc:DB} {te:DT} {pos p ps:Pos}
theorem lO(hc:X.calm=true)(S:aQ X.env.scope X.N N' k fr scope)(hi:DF X H0 O0 iter t)(gd:GD X.K g dg)(hk:lN g k)(hfr:fr.Nodup)
 (hg:∀fp C s H,PG (aO X scope N' fp C s H) tg g)(hf:∀fp C s H,cD (aO X scope N' fp C s H) ifs (bu X.K H0 O0 tc))(he:∀fp C s H,PE (aO X scope N' fp C s H) elt (up X.K H0 O0 te))
 (hs:∀x,Kt iter X.env x=pure x:=by intro _;rfl):FE X H0 O0 (.ListComp elt [⟨tg,iter,ifs,0⟩] scope pos) (c8 t dg tc te k fr):=
 (qI hc S (tm hi) hg hf he hs).imp λσ H Q uu1=>by obtain⟨O,δ,Qd,w,q,kk⟩:=uu1;exact⟨O,δ,_,w,q,λd v H1 uu2 s1 r1=>by
  obtain⟨xs,e,hz,q1⟩:=uu2;subst e;obtain⟨a,vs,rfl,hq,rr⟩:=r1.lst;refine⟨a,rfl,⟨_,hq⟩,λD hD=>nW (bX.list hq) gd hfr (λv _ H' R h=>hk fr σ v H' R h) (λ_ _ _ z=>z) (λ_ _ _ z=>z) (λD H' hD s' o e=>s' _ _ e (bV e hD)) rr (w.mono s1) (by rw [rr.length];exact hz) q1 (λds us p H' z s' hp r'=>kk ds us p H' z (s1.trans s') hp r') D hD⟩⟩
theorem qW(hc:X.calm=true)(S:aQ X.env.scope X.N N' k fr scope)(hi:DF X H0 O0 iter t)(gd:GD X.K g dg)(hk:lN g k)(hfr:fr.Nodup)
 (hg:∀fp C s H,PG (aO X scope N' fp C s H) tg g)(hf:∀fp C s H,cD (aO X scope N' fp C s H) ifs (bu X.K H0 O0 tc))(he:∀fp C s H,PE (aO X scope N' fp C s H) elt (up X.K H0 O0 te))
 (hs:∀x,Kt iter X.env x=pure x:=by intro _;rfl):FE X H0 O0 (.ListComp elt [⟨tg,iter,ifs,0⟩] scope pos) (cS t dg tc te k fr):=
 (qI hc S (qh hi) hg hf he hs).imp λσ H Q uu3=>by obtain⟨O,δ,Qd,w,q,kk⟩:=uu3;exact⟨O,δ,_,w,q,λd v H1 uu4 s1 r1=>by
  obtain⟨xs,e,hz,q1⟩:=uu4;subst e;obtain⟨a,vs,rfl,hq,rr⟩:=r1.tup;refine⟨a,rfl,⟨_,hq⟩,λD hD=>nW (bX.tup hq) gd hfr (λv _ H' R h=>hk fr σ v H' R h) (λ_ _ _ z=>z) (λ_ _ _ z=>z) (λD H' hD s' o e=>s' _ _ e (bV e hD)) rr (w.mono s1) (by rw [rr.length];exact hz) q1 (λds us p H' z s' hp r'=>kk ds us p H' z (s1.trans s') hp r') D hD⟩⟩
theorem uo(hc:X.calm=true){a:Kk}(S:aQ X.env.scope X.N N' k fr scope)(hgl:Gl X "range")(hm:X.mg "range"=none)(ha:PA X [a] (cW X.K H0 O0 ta))(gd:GD X.K g dg)(hk:lN g k)(hfr:fr.Nodup)
 (hg:∀fp C s H,PG (aO X scope N' fp C s H) tg g)(hf:∀fp C s H,cD (aO X scope N' fp C s H) ifs (bu X.K H0 O0 tc))(he:∀fp C s H,PE (aO X scope N' fp C s H) elt (up X.K H0 O0 te))
 (hst:Kj [a] X.env=[(false,eval a X.env)]:=by rfl)(hs:∀x,Kt (.Call (.Name "range" p) [a] [] ps) X.env x=pure x:=by intro _;rfl):
 FE X H0 O0 (.ListComp elt [⟨tg,(.Call (.Name "range" p) [a] [] ps),ifs,0⟩] scope pos) (dh ta dg tc te k fr):=
 (qI hc S (qj hgl hm ha hst) hg hf he hs).imp λσ H Q uu5=>by obtain⟨O,δ,Qd,w,q,kk⟩:=uu5;exact⟨O,δ,_,w,q,λds vs H1 uu6 s1 r1=>by
  obtain⟨j,e,b1,b2,q1⟩:=uu6;subst e;cases r1 with
  | cons r1 r2=>
   cases r2;cases r1.int;have hb:(Kl:Int) < 2 ^ 62:=J3
   exact⟨j,rfl,b1,J4,λD hD=>nW (P:=λ_=>True) bX.rng gd hfr (λv _ H' R h=>hk fr σ v H' R h) (λ_ _ _ z=>z) (λ_ _ _ z=>z) (λ_ _ _ _=>trivial) (ag.rng _) (w.mono s1) (by rw [DP,Gz];omega) q1 (λds us p H' z s' hp r'=>kk ds us p H' z (s1.trans s') hp r') D hD⟩⟩
end
end
section
variable {K:DL}
def dI(g:Int->Int->Kb):Kb->Kb->(Kb->Prop)->Prop:=λx y Q=>∃i j,x= .int i/\y= .int j/\Q (g i j)
def eH(C:Int->Int->Prop)(g:Int->Int->Kb):Kb->Kb->(Kb->Prop)->Prop:=λx y Q=>∃i j,x= .int i/\y= .int j/\C i j/\Q (g i j)
theorem bP{g:Int->Int->Int}:bC K (dH λi j=>.int (g i j)) (dI λi j=>.int (g i j)):=λH O x y dx dy Qd R _ hx hy uu7 k=>by
 obtain⟨i,j,e1,e2,q⟩:=uu7;subst e1 e2;cases hx.int;cases hy.int;exact⟨i,j,rfl,rfl,k _ _ H q (ah.refl _) (.int _)⟩
theorem mm{g:Int->Int->Bool}:bC K (dH λi j=>.bl (g i j)) (dI λi j=>.bool (g i j)):=λH O x y dx dy Qd R _ hx hy uu8 k=>by
 obtain⟨i,j,e1,e2,q⟩:=uu8;subst e1 e2;cases hx.int;cases hy.int;exact⟨i,j,rfl,rfl,k _ _ H q (ah.refl _) (.bl _)⟩
theorem aE{C:Int->Int->Prop}{g:Int->Int->Int}:bC K (rI C λi j=>.int (g i j)) (eH C λi j=>.int (g i j)):=λH O x y dx dy Qd R _ hx hy uu9 k=>by
 obtain⟨i,j,e1,e2,c,q⟩:=uu9;subst e1 e2;cases hx.int;cases hy.int;exact⟨i,j,rfl,rfl,c,k _ _ H q (ah.refl _) (.int _)⟩
def uq(K:DL):R2:=λx y H Q=>∃O dx dy,Sh K H O x dx/\Sh K H O y dy/\bt dx/\bt dy/\Q (.bl (Ea dx dy)) H
def ur(K:DL):R2:=λx y H Q=>∃O dx dy,Sh K H O x dx/\Sh K H O y dy/\bt dx/\bt dy/\Q (.bl (!Ea dx dy)) H
theorem eJ{X:Cx}(hu:X.A.units+64 < cLine):aZ X (KC .Eq) (uq X.K):=by
 intro LL s σ H x y v u Q I rx ry h;obtain⟨O,dx,dy,hx,hy,sx,sy,q⟩:=h;obtain⟨as,ra⟩:=dO I hx.all (EO sx) rx;obtain⟨bs,rb⟩:=dO I hy.all (EO sy) ry;exact SeqAt.compareEq_shaped ra rb sx sy hu (lg I q rfl)
theorem yZ{X:Cx}(hu:X.A.units+64 < cLine):aZ X (KC .NotEq) (ur X.K):=by
 intro LL s σ H x y v u Q I rx ry h;obtain⟨O,dx,dy,hx,hy,sx,sy,q⟩:=h;obtain⟨as,ra⟩:=dO I hx.all (EO sx) rx;obtain⟨bs,rb⟩:=dO I hy.all (EO sy) ry;exact SeqAt.compareNe_shaped ra rb sx sy hu (lg I q rfl)
def eL:Kb->Kb->(Kb->Prop)->Prop:=λx y Q=>bt x/\bt y/\Q (.bool (Ea x y))
def eM:Kb->Kb->(Kb->Prop)->Prop:=λx y Q=>bt x/\bt y/\Q (.bool (!Ea x y))
theorem eN:bC K (uq K) eL:=λH O x y dx dy Qd R _ hx hy uu10 k=>by obtain⟨a,b,q⟩:=uu10;exact⟨O,dx,dy,hx,hy,a,b,k _ _ H q (ah.refl _) (.bl _)⟩
theorem y9:bC K (ur K) eM:=λH O x y dx dy Qd R _ hx hy uu11 k=>by obtain⟨a,b,q⟩:=uu11;exact⟨O,dx,dy,hx,hy,a,b,k _ _ H q (ah.refl _) (.bl _)⟩
def eO:Kb->Kb->(Kb->Prop)->Prop:=λx y Q=>∃ds i d,x= .list ds/\y= .int i/\atI ds i=some d/\Q d
def cy:Kb->Kb->(Kb->Prop)->Prop:=λx y Q=>∃ds i d,x= .tuple ds/\y= .int i/\atI ds i=some d/\Q d
theorem ag.atI{H:Hp}{O:Ex}{vs:List V}{ds:List Kb}{i:Int}{d:Kb}(r:ag K H O vs ds)(e:L2.atI ds i=some d):∃v,L2.atI vs i=some v/\Dt K H O v d:=by
 unfold L2.atI at e⊢;rw [r.length];cases q:l7 ds.length i with
 | none=>rw [q] at e;cases e
 | some j=>rw [q] at e;exact r.getD e
theorem aM:bC K (qA K) eO:=λH O x y dx dy Qd R _ hx hy uu12 k=>by
 obtain⟨ds,i,d,e1,e2,e3,q⟩:=uu12;subst e1 e2;obtain⟨a,vs,rfl,hs,r⟩:=hx.lst;cases hy.int;obtain⟨v,hv,rv⟩:=r.atI e3;exact⟨a,vs,i,v,rfl,rfl,hs,hv,k d v H q (ah.refl _) rv⟩
theorem bD:bC K (tO K) cy:=λH O x y dx dy Qd R _ hx hy uu13 k=>by
 obtain⟨ds,i,d,e1,e2,e3,q⟩:=uu13;subst e1 e2;obtain⟨a,vs,rfl,hs,r⟩:=hx.tup;cases hy.int;obtain⟨v,hv,rv⟩:=r.atI e3;exact⟨a,vs,i,v,rfl,rfl,hs,hv,k d v H q (ah.refl _) rv⟩
end
section
variable {X:Cx} {H0:Hp} {O0:Ex}
def z9:R2:=λx y H Q=>∃l b xs zs,x= .ref l/\y= .ref b/\Rd H l (.lst xs)/\Rd H b (.lst zs)/\xs.length+zs.length<=Kl/\∀p,H p=none->Q (.ref p) (ai H p (.lst (xs++zs)))
theorem Aa:aZ X (K0 .Add) z9:=by
 intro LL s σ H x y v u Q I rx ry h;obtain⟨l,b,xs,zs,rfl,rfl,hH,hB,hz,q⟩:=h;cases rx;cases ry;obtain⟨z,its,n,r,e⟩:=hH.ok I.hok;obtain⟨z2,its2,n2,r2,e2⟩:=hB.ok I.hok;have l1:=r.length;have l2:=r2.length;refine PySem.P.add_list e e2 ?_ (by rw [Eb,Eb];omega);have ea:its.toArray++its2.toArray=(its++its2).toArray:=Ka
 rw [ea];exact⟨.ref _,_,I.lnew (t':=s.toks) (r.append r2) (by rw [F6];omega),rfl,q _ I.fresh⟩
def eQ(ta tb:DT):DA:=λδ Q=>ta δ λx=>tb δ λy=>∃xs ys,x= .list xs/\y= .list ys/\xs.length+ys.length<=Kl/\Q (xs++ys)
theorem mY{a b:Kk}{ta tb:DT}{pos:Pos}(ha:DF X H0 O0 a ta)(hb:DF X H0 O0 b tb):FE X H0 O0 (.BinOp a .Add b pos) (eQ ta tb):=
 (tu Aa ha hb).imp λσ H Q uu14=>by obtain⟨O,δ,Qd,w,q,k⟩:=uu14;exact⟨O,δ,_,w,q,λx v H1 q1 s1 r1=>⟨O,δ,_,w.mono s1,q1,λy u H2 uu15 s2 r2=>by
  obtain⟨xs,ys,e1,e2,hz,q2⟩:=uu15;subst e1 e2;obtain⟨a,vs,rfl,h1,d1⟩:=(r1.mono s2).lstR;obtain⟨b,us,rfl,h2,d2⟩:=r2.lstR;exact⟨a,b,vs,us,rfl,rfl,h1,h2,by rw [d1.length,d2.length];exact hz,λp hp=>k _ _ _ _ q2 (s1.trans s2) hp (d1.append d2)⟩⟩⟩
def gA:Kb->Kb->(Kb->Prop)->Prop:=λx y Q=>∃xs ys,x= .tuple xs/\y= .tuple ys/\xs≠[]/\xs.length+ys.length<=Kl/\Q (.tuple (xs++ys))
def aS(xs:List Kb)(lo hi:Option Int):List Kb:=(xs.drop (HT.sIx xs.length 0 lo)).take (HT.sIx xs.length xs.length hi - HT.sIx xs.length 0 lo)
theorem ag.cut{K:DL}{H:Hp}{O:Ex}{vs:List V}{ds:List Kb}(r:ag K H O vs ds)(lo hi:Option Int):ag K H O (mO vs lo hi) (aS ds lo hi):=by
 unfold mO aS;rw [r.length];exact(r.drop _).take _
abbrev DO:=Dl->(Option Int->Prop)->Prop
inductive mq (K:DL) (H0:Hp) (O0:Ex) (t:DO) (σ:St) (H:Hp) (R:Option Int->Hp->Prop):Prop
 | mk (O:Ex) (δ:Dl) (Qd:Option Int->Prop):Wd K H0 O0 H O σ δ->t δ Qd->(∀d H',Qd d->ah H H'->R d H')->mq K H0 O0 t σ H R
def eR:DO:=λ_ Q=>Q none
def eT(t:DT):DO:=λδ Q=>t δ λd=>∃i,d= .int i/\Q (some i)
theorem PO.imp{X:Cx}{e:Option Kk}{t u:TO}(h:PO X e t)(i:∀σ H Q,u σ H Q->t σ H Q):PO X e u:=λLL s σ H Q I z=>h LL s σ H Q I (i σ H Q z)
theorem lr:PO X none (mq X.K H0 O0 eR):=xy.imp λσ H Q uu16=>by obtain⟨O,δ,Qd,w,q,k⟩:=uu16;exact k none H q (ah.refl _)
theorem lu{e:Kk}{t:DT}(h:DE X H0 O0 e t):PO X (some e) (mq X.K H0 O0 (eT t)):=(xA h).imp λσ H Q uu17=>by obtain⟨O,δ,Qd,w,q,k⟩:=uu17;exact⟨O,δ,_,w,q,λd v H1 uu18 s1 r1=>by obtain⟨i,e,q1⟩:=uu18;subst e;cases r1;exact⟨i,rfl,k _ H1 q1 s1⟩⟩
def eU(t:DT)(tl th:DO):DA:=λδ Q=>t δ λd=>tl δ λl=>th δ λu=>∃xs,d= .list xs/\Q (aS xs l u)
def gB(t:DT)(tl th:DO):DT:=λδ Q=>t δ λd=>tl δ λl=>th δ λu=>∃xs,d= .tuple xs/\¬(HT.sIx xs.length 0 l=0/\HT.sIx xs.length xs.length u=xs.length)/\Q (.tuple (aS xs l u))
theorem lP{e:Kk}{lo hi:Option Kk}{t:DT}{tl th:DO}{pos p2:Pos}(h:DF X H0 O0 e t)(hl:PO X lo (mq X.K H0 O0 tl))(hu:PO X hi (mq X.K H0 O0 th)):FE X H0 O0 (.Subscript e (.Slice lo hi none p2) pos) (eU t tl th):=
 (tN tQ h hl hu).imp λσ H Q uu19=>by obtain⟨O,δ,Qd,w,q,k⟩:=uu19;exact⟨O,δ,_,w,q,λd v H1 q1 s1 r1=>⟨O,δ,_,w.mono s1,q1,λl H2 q2 s2=>⟨O,δ,_,w.mono (s1.trans s2),q2,λu H3 uu20 s3=>by
  obtain⟨xs,e,q3⟩:=uu20;subst e;obtain⟨a,vs,rfl,h1,d1⟩:=(r1.mono (s2.trans s3)).lst;exact⟨a,vs,rfl,h1,λp hp=>k _ _ _ _ q3 (s1.trans (s2.trans s3)) hp (d1.cut l u)⟩⟩⟩⟩
theorem lx{a b:Kk}{ta tb:DT}{r:R2}{rd:Kb->Kb->(Kb->Prop)->Prop}{pos:Pos}(ho:mP X r)(hd:bC X.K r rd)(ha:DF X H0 O0 a ta)(hb:DF X H0 O0 b tb)(hs:∀v u,subscripted b false v u=operate [v,u] (getItem v u):=by intro _ _;rfl):DE X H0 O0 (.Subscript a b pos) (bw rd ta tb):=(xG ho ha hb hs).imp (oQ hd)
def eV:List Kb->(Kb->Prop)->Prop:=λds Q=>∃xs,(ds=[.list xs]\/ds=[.tuple xs])/\Q (.int xs.length)
def eX:List Kb->(Kb->Prop)->Prop:=λds Q=>∃xs,ds=[cb xs]/\Q (.int xs.length)
theorem nX{K:DL}:lM K (λxs H Q=>∃p ys,xs=[.ref p]/\(aI K H p ys\/aY K H p ys)/\Q (.int ys.length) H) eV:=λH O xs ds Qd R _ hs uu21 k=>by
 obtain⟨ys,e,q⟩:=uu21;rcases e with e | e <;> subst e
 ·cases hs with
  | cons h r=>
   cases r;obtain⟨a,vs,rfl,h1,d1⟩:=h.lst;exact⟨a,vs,rfl,.inl h1,by rw [d1.length];exact k _ _ H q (ah.refl _) (.int _)⟩
 ·cases hs with
  | cons h r=>
   cases r;obtain⟨a,vs,rfl,h1,d1⟩:=h.tup;exact⟨a,vs,rfl,.inr h1,by rw [d1.length];exact k _ _ H q (ah.refl _) (.int _)⟩
theorem Ab{K:DL}:lM K (λxs H Q=>∃p ys,xs=[.ref p]/\(aI K H p ys\/aY K H p ys)/\Q (.int ys.length) H) eX:=λH O xs ds Qd R _ hs uu22 k=>by
 obtain⟨ys,e,q⟩:=uu22;subst e;cases hs with
 | cons h r=>
  cases r;obtain⟨a,vs,rfl,h1,d1⟩:=h.scr;exact⟨a,vs,rfl,.inl h1,by rw [d1.length];exact k _ _ H q (ah.refl _) (.int _)⟩
def eY:List Kb->(Kb->Prop)->Prop:=λds Q=>∃xs,ds=[.list xs]/\Q (.tuple xs)
theorem mr{K:DL}:lM K (λxs H Q=>∃p ys,xs=[.ref p]/\((aI K H p ys/\∀l,H l=none->Q (.ref l) (ai H l (.tup ys)))\/(aY K H p ys/\Q (.ref p) H))) eY:=λH O xs ds Qd R tr hs uu23 k=>by
 obtain⟨ys,e,q⟩:=uu23;subst e;cases hs with
 | cons h r=>
  cases r;obtain⟨a,vs,rfl,h1,d1⟩:=h.lst;exact⟨a,vs,rfl,.inl ⟨h1,λl hl=>k _ _ _ q (ah.new hl) (.tup (.inl bf) (λz=>tr l z hl) (d1.mono (ah.new hl)))⟩⟩
theorem ag.bools{K:DL}{H:Hp}{O:Ex}:∀{bs:List Bool}{vs:List V},ag K H O vs (bs.map G9)->vs=bs.map V.bl
 | [],_,r=>by rw [EW] at r;cases r;rfl
 | b::bs,_,r=>by
  rw [D9] at r;cases r with
  | cons h r=>cases h;rw [D9,ag.bools r]
def eZ(g:List Bool->Bool):List Kb->(Kb->Prop)->Prop:=λds Q=>∃bs:List Bool,ds=[.list (bs.map .bool)]/\Q (.bool (g bs))
theorem Ac{K:DL}{g:List Bool->Bool}:lM K (λxs H Q=>∃(a:Ke)(bs:List Bool),xs=[.ref a]/\aI K H a (bs.map V.bl)/\Q (.bl (g bs)) H) (eZ g):=λH O xs ds Qd R tr hs uu24 k=>by
 obtain⟨bs,e,q⟩:=uu24;subst e;cases hs with
 | cons h r=>
  cases r;obtain⟨a,vs,rfl,h1,d1⟩:=h.lst;cases d1.bools;exact⟨a,bs,rfl,h1,k _ _ H q (ah.refl _) (.bl _)⟩
def fb(g:Int->Int->Int):List Kb->(Kb->Prop)->Prop:=λds Q=>∃i j,ds=[.int i,.int j]/\Q (.int (g i j))
theorem Ad{K:DL}{g:Int->Int->Int}:lM K (λxs H Q=>∃i j,xs=[.int i,.int j]/\Q (.int (g i j)) H) (fb g):=λH O xs ds Qd R tr hs uu25 k=>by
 obtain⟨i,j,e,q⟩:=uu25;subst e;cases hs with
 | cons h r=>
  cases r with
  | cons h2 r=>
   cases r;cases h.int;cases h2.int;exact⟨i,j,rfl,k _ _ H q (ah.refl _) (.int _)⟩
def mZ:Kb->String
 | .none=> "NoneType" | .bool _=> "bool" | .int _=> "int" | .str _=> "str" | .list _=> "list" | .tuple _=> "tuple" | .dict _=> "dict"
def gC(neg:Bool):Kb->Kb->(Kb->Prop)->Prop:=λx y Q=>∃ds,(y= .list ds\/y= .tuple ds)/\cE x=true/\ds.all cE=true/\Q (.bool (if neg then !(ds.any λd=>Ea d x) else ds.any λd=>Ea d x))
end
section
variable {P:Kp} {w:Kq} {K:DL} {mg:Str->Option Kc} {base:Km}
def bY(N:List Str)(ds:List Kb):Dl:=ds.map (λd=>some (.v d))++D6 (N.length - ds.length) none
theorem qX{H:Hp}{O:Ex}{N:List Str}{vs:List V}{ds:List Kb}(tr:∀l,O l->H l≠none)(r:ag K H O vs ds):Wd K H O H O (start N vs) (bY N ds):=by
 have hl:=r.length;have at1:∀(i:Nat) y,(bY N ds)[i]?=some y->(∃d,ds[i]?=some d/\y=some (.v d))\/y=none:=λi y e=>by
  unfold bY at e;by_cases h:i < ds.length
  ·rw [F7 (by simpa using h),D7] at e;cases q:ds[i]? with
   | none=>rw [q] at e;cases e
   | some d=>rw [q] at e;exact .inl ⟨d,rfl,(ED e).symm⟩
  ·rw [Gx (by simpa using Ib h),GP] at e;split at e
   ·exact .inr (ED e).symm
   ·cases e
 refine⟨ah.refl _,λ_ z=>z,λ_ z=>.inl z,tr,by simp [start,bY,hl],λi y e=>?_,λi j ds' es l e1=>?_⟩
 ·rcases at1 i y e with⟨d,hd,rfl⟩ | rfl
  ·obtain⟨v,hv,rv⟩:=r.getD hd;refine⟨v,?_,rv⟩;unfold start;rw [F7 (by simpa using(DZ.mp hv).1),D7,hv];rfl
  ·exact G6
 ·rcases at1 i _ e1 with⟨d,_,z⟩ | z
  ·cases z;intro h;exact h.elim
  ·cases z
theorem cw.okD{x qual:Str}{st:Ks}{f:Ke}{fd:Ko}{N ps:List Str}{k:Nat}{F:List Kb->(Kb->Prop)->Prop}(Fu:cw K x qual st f fd)(S:bb N ps (av st))(len:∀ds Q,F ds Q->ds.length=ps.length)
 (hbody:∀(cdv:Kc) (A:Kr) (outer:List Env) (s:Kf) (H:Hp) (O:Ex) (ds:List Kb) (Q:Kb->Prop) (E:XK),aH k (A.deeper (K5 qual (av st) s.heap.objs.size f cdv))->F ds Q->
  ∃t,bg (aN aK P w K mg base N qual (av st) f cdv A outer s H E).nox (cU st) (aP K H O t)/\t {nx:=λ_=>Q .none,rt:=Q} (bY N ds)):ay P w K mg base aK (k+1) f fd ps (aX K F):=by
 refine Fu.ok S (λvs H Q E h=>?_) (λcdv A outer s H vs Q E hr h=>?_)
 ·obtain⟨O,ds,Qd,_,r,q,_⟩:=h;rw [r.length];exact len _ _ q
 ·obtain⟨O,ds,Qd,tr,r,q,k⟩:=h;obtain⟨t,ht,q'⟩:=hbody cdv A outer s H O ds Qd E hr q;refine⟨_,ht,O,_,_,qX tr r,q',λO' δ' σ' H' z w' S'=>?_,λd v H' z s' r'=>k d v H' z s' r',λ_ _ _ _ z=>z.elim,λ_ _ _ _ z=>z.elim⟩;exact k _ _ _ z w'.same .non
end
section
variable {X:Cx} {H0:Hp} {O0:Ex}
theorem mv:cD X [] (bu X.K H0 O0 cH):=λLL s σ H Q I h=>by
 obtain⟨O,δ,Qd,w,q,k⟩:=h;exact xZ LL s σ H Q I (k true H q (ah.refl _))
theorem Ae:b7 X (.builtin "isinstance") (λxs H Q=>∃O d T b x,xs=[x,.ty T]/\Dt X.K H O x d/\(∀x,d≠ .dict [(.none,x)])/\kitOne X.K (.type (mZ d)) (.type T)=some b/\Q (.bl b) H):=by
 intro LL s σ H xs us Q I r h;obtain⟨O,d,T,b,x,rfl,hd,hp,hk,q⟩:=h;obtain⟨u,w',rfl,rx,rt⟩:=oG r;cases (show w'=G4 T from rt);have fin:∀tk,EP X LL σ Q (.bool b) {s with toks:=tk}:=λtk=>⟨.bl b,H,I.tok tk,rfl,q⟩;cases hd with
 | non=>cases (show u=Gm from rx);exact Lo kitx_none I.kIn G6 hk (λz=>nomatch z) fin
 | bl y=>cases (show u=GQ y from rx);exact Lo kitx_bool I.kIn G6 hk (λz=>nomatch z) fin
 | int i=>obtain⟨t,e⟩:=(show ∃t,u=G2 i t from rx);cases e;exact Lo kitx_int I.kIn G6 hk (λz=>nomatch z) fin
 | str y=>obtain⟨t,e⟩:=(show ∃t,u=Gf y t from rx);cases e;exact Lo kitx_str I.kIn G6 hk (λz=>nomatch z) fin
 | @tup a xs ds h n rr=>
  cases (show u=EF a from rx);obtain⟨its,rv,⟨o,e,c,_⟩,_⟩:=I.tuple (.inl h);exact Lo kitx_tuple I.kIn ⟨o,e,c⟩ hk (λz=>nomatch z) fin
 | @tupK a xs ds h rr=>
  cases (show u=EF a from rx);obtain⟨its,rv,⟨o,e,c,_⟩,_⟩:=I.tuple h.of0;exact Lo kitx_tuple I.kIn ⟨o,e,c⟩ hk (λz=>nomatch z) fin
 | @lst a xs ds h n rr=>
  cases (show u=EF a from rx);obtain⟨its,rv,⟨o,_,e,c,_⟩,_⟩:=I.list (.inl h);exact Lo kitx_list I.kIn ⟨o,e,c⟩ hk (λz=>nomatch z) fin
 | pack h n=>exact absurd rfl (hp _)
 | purse h n=>exact absurd rfl (hp _)
 | scr h r=>exact absurd rfl (hp _)
 | obj h e n r=>exact absurd rfl (hp _)
 | @dct0 a h n=>
  cases (show u=EF a from rx);obtain⟨_,_,_,_,o,_,_,e,c,_⟩:=(show bz X.prog X.w H s.heap a (.dK []) from I.hok a _ h);exact Lo kitx_dict I.kIn ⟨o,e,c.1⟩ hk (λz=>nomatch z) fin
 | @dic a ob kv ks kp ds h e1 e2 n rr=>
  cases (show u=EF a from rx);obtain⟨_,_,_,_,o,_,_,e,c,_⟩:=(show bz X.prog X.w H s.heap a (.dK kv) from(I.hok a _ h).2);exact Lo kitx_dict I.kIn ⟨o,e,c.1⟩ hk (λz=>nomatch z) fin
def di(K:DL)(T:String)(t:DT):DT:=λδ Q=>t δ λd=>∃b,kitOne K (.type (mZ d)) (.type T)=some b/\(∀x,d≠ .dict [(.none,x)])/\Q (.bool b)
theorem Af{T:String}{a c:Kk}{t:DT}{np p:Pos}(hg:Gl X "isinstance")(hm:X.mg "isinstance"=none)(hv:Kw "isinstance"=some (.builtin "isinstance"))(ha:DF X H0 O0 a t)(hc:PE X c (tC (.ty T)))
 (hs:Kj [a,c] X.env=(false,eval a X.env)::Kj [c] X.env:=by rfl)(hs2:Kj [c] X.env=[(false,eval c X.env)]:=by rfl)(hb:(KA p (Kj [c] X.env)).any (·.1)=false:=by rfl):DE X H0 O0 (.Call (.Name "isinstance" np) [a,c] [] p) (di X.K T t):=
 (cu Ae hg hm hv (bG ha (bG hc fV hs2) hs) (he:=hs) (hpl:=hb)).imp λσ H Q uu26=>by obtain⟨O,δ,Qd,w,q,k⟩:=uu26;exact⟨O,δ,_,w,q,λd v H1 uu27 s1 r1=>by obtain⟨b,e,hp,q1⟩:=uu27;exact⟨λ_=>False,d,T,b,v,rfl,r1.all,hp,e,k _ _ H1 q1 s1 (.bl b)⟩⟩
def fc:Kb->Kb->(Kb->Prop)->Prop:=λx y Q=>∃i j,x= .str i/\y= .str j/\i.length+j.length<=Kl/\Q (.str (i++j))
theorem nY{K:DL}:bC K (λx y H Q=>∃i j,x= .str i/\y= .str j/\i.length+j.length<=Kl/\Q (.str (i++j)) H) fc:=λH O x y dx dy Qd R tr hx hy uu28 k=>by
 obtain⟨i,j,e1,e2,hz,q⟩:=uu28;subst e1 e2;cases hx.str;cases hy.str;exact⟨i,j,rfl,rfl,hz,k _ _ H q (ah.refl _) (.str _)⟩
def fh:Kb->Kb->(Kb->Prop)->Prop:=λx y Q=>∃z i c,x= .str z/\y= .int i/\z.length<=Kl/\atI z.cps.toList i=some c/\Q (.str ⟨#[c]⟩)
theorem oY{K:DL}:bC K tP fh:=λH O x y dx dy Qd R tr hx hy uu29 k=>by
 obtain⟨z,i,c,e1,e2,hz,e3,q⟩:=uu29;subst e1 e2;cases hx.str;cases hy.int;exact⟨z,i,c,rfl,rfl,hz,e3,k _ _ H q (ah.refl _) (.str _)⟩
def gE(t:DT)(tl th:DO):DT:=λδ Q=>t δ λd=>tl δ λl=>th δ λu=>∃z,d= .str z/\z.length<=Kl/\Q (.str (Txt.slice z l u))
def gF(to:DT)(t:DT):DT:=λδ Q=>to δ λx=>∃z:Str,x= .str z/\t δ λy=>∃(ys:List Str),y= .list (ys.map .str)/\(ys.map (·.length)).sum+ys.length*z.length<=16777216/\Q (.str (Txt.join z ys))
def fi:List Kb->(Kb->Prop)->Prop:=λds Q=>(∃i,ds=[.int i]/\Q (.int i))\/∃b,ds=[.bool b]/\Q (.int (if b then 1 else 0))
theorem qY{K:DL}:lM K (λxs H Q=>(∃i,xs=[.int i]/\Q (.int i) H)\/∃k,xs=[.bl k]/\Q (.int (if k then 1 else 0)) H) fi:=λH O xs ds Qd R tr hs h k=>by
 rcases h with⟨i,e,q⟩ | ⟨b,e,q⟩ <;> subst e
 ·cases hs with
  | cons h r=>cases r;cases h.int;exact .inl ⟨i,rfl,k _ _ H q (ah.refl _) (.int _)⟩
 ·cases hs with
  | cons h r=>cases r;cases h.bl;exact .inr ⟨b,rfl,k _ _ H q (ah.refl _) (.int _)⟩
def gG(t:DA):DA:=λδ Q=>t δ λds=>∃xs,(ds=[.list xs]\/ds=[.tuple xs])/\Q xs
theorem Ag{xs:List V}{us:List Kc}(r:aq xs us):aq xs.reverse us.reverse:=by
 induction r with
 | nil=>exact .nil
 | cons h r ih=>rw [Hq,Hq];exact ih.append (.cons h .nil)
def gH(t:DT):DA:=λδ Q=>t δ λd=>∃xs,d= .list xs/\Q xs.reverse
end
def Ah:List Kb->(Kb->Prop)->Prop:=λds Q=>∃z:Int,ds=[qL,.int z]/\0 < z/\z<=1000000/\∀i:Int,0<=i->i < z->Q (.int i)
theorem bQ{α:Type}{a:α}{l:List α}:atI (a::l) 0=some a:=fW (j:=0) rfl
theorem bZ{α:Type}{a b:α}{l:List α}:atI (a::b::l) 1=some b:=fW (j:=1) rfl
theorem cz{α:Type}{a b c:α}{l:List α}:atI (a::b::c::l) 2=some c:=fW (j:=2) rfl
theorem cg{α:Type}{a b c d:α}{l:List α}:atI (a::b::c::d::l) 3=some d:=fW (j:=3) rfl
theorem cT{α:Type}{a b c d e:α}{l:List α}:atI (a::b::c::d::e::l) 4=some e:=fW (j:=4) rfl
theorem gI{i:Int}:bt (.int i):=rfl
theorem gJ{i:Bool}:bt (.bool i):=rfl
theorem gK:bt .none:=rfl
theorem cI{x y:Str}:Ea (.str x) (.str y)=(x==y):=by simp [Ea]
theorem dj{x y:Int}:Ea (.int x) (.int y)=(x==y):=by simp [Ea]
theorem fj{x y:Bool}:Ea (.bool x) (.bool y)=(x==y):=by simp [Ea]
theorem mw{x:Str}:bt (.str x)↔Ed x=true:=by
 unfold bt Hf;simp [EA,Hg]
theorem oH{n d:Nat}:HT.sIx n d none=d:=rfl
theorem oZ{n d:Nat}{i:Int}(h0:0<=i)(h1:i<=n):HT.sIx n d (some i)=i.toNat:=by
 obtain⟨j,rfl⟩:=Fb h0;rw [HT.sIx_nat,FW];omega
theorem mx{xs:List Kb}{i:Int}(h0:0<=i)(h1:i<=xs.length):aS xs none (some i)=xs.take i.toNat:=by
 unfold aS;rw [oH,oZ h0 h1];simp
theorem nZ{xs:List Kb}{i:Int}(h0:0<=i)(h1:i<=xs.length):aS xs (some i) none=xs.drop i.toNat:=by
 unfold aS;rw [oH,oZ h0 h1,FZ (by rw [G5];exact DU _)]
theorem m3{lo:Int}{n i:Nat}{x:Kb}(h:(c5 lo n)[i]?=some x):i < n/\x= .int (lo+i):=by
 unfold c5 at h;rw [D7] at h;by_cases hi:i < n
 ·rw [List.getElem?_range hi] at h;exact⟨hi,(ED h).symm⟩
 ·rw [FF (by simpa using hi)] at h;cases h
theorem o3{lo:Int}{n:Nat}:(c5 lo n).length=n:=by unfold c5;simp
section
variable {X:Cx} {LL:List (Ke×Obj)} {σ:St} {H:Hp} {s:Kf} {a:Ke} {y v:V} {u r:Kc} {o:Option V} {A:Kr} {E:Kc->Kf->Prop}
theorem aa.big(I:aa X LL σ H s):sysModules < s.heap.objs.size:=by
 have h:Kn < s.heap.objs.size:=(I.mod.glob.keeps I.bk).lt;exact Nat.lt_trans J3 h
end
theorem Ai{P:Kp}{w:Kq}{H:Hp}(h:Km)(hb:sysModules < h.objs.size):bz P w H (h.push {cls:= .type "dict",data:= .dict #[]}) h.objs.size (.dK []):=
 ⟨E1 _,beq_eq_false_iff_ne.mpr (Ne.symm (Ec hb)),[],.nil,J1 h⟩
def Aj:TE:=λ_ H Q=>∀p,H p=none->Q (.ref p) (ai H p (.dK []))
section
variable {X:Cx} {pos:Pos}
theorem Ak:PE X (.Dict [] [] pos) Aj:=λLL s σ H Q I h=>
 wpAny_Dict_empty ⟨.ref s.heap.objs.size,_,I.laid (a:=s.heap.objs.size) (o:= .dK []) (t':=s.toks) (λ_ _ q=>DN _ q) (DU _) (Ai s.heap I.big),rfl,h _ (I.hok.fresh (DU _))⟩
end
structure M2 (X:Cx) (o:Kk) (m:Str) (apos:Pos) (e f:Kk) (cpos:Pos):Prop where
 base:LA o m X.env (eval o X.env)=eval o X.env
 few:((KA cpos (Kj [e,f] X.env)).all (λx=>!x.1) && (backToKw cpos (keywordEach [] X.env)).all (λx=>x.1.isSome)
  && decide (([e,f]:List Kk).length+([]:List Ln).length+(if ([]:List Ln).isEmpty then 0 else 1) < 30))=true
 line:(apos.endLine==cpos.line)=true
 trees:KA cpos (Kj [e,f] X.env)=[(false,eval e X.env),(false,eval f X.env)]
section
variable {X:Cx} {H0:Hp} {O0:Ex}
def gL(a b c d:Str)(t:DT):DT:=λδ Q=>t δ λy=>(y= .str a/\Q (.str c))\/(y= .str b/\Q (.str d))
def litsOf:List Kk->Option (List Kb)
 | []=>some []
 | .Constant (.int i) _ _::r=>(litsOf r).map (.int i::·)
 | .Constant (.str x) _ _::r=>(litsOf r).map (.str x::·)
 | _::_=>none
def dn(ds:List Kb):DA:=λ_ Q=>Q ds
theorem qZ:∀{es:List Kk}{ds:List Kb},litsOf es=some ds->PA X es (cG X.K H0 O0 (dn ds))
 | [],ds,h=>by cases h;exact aj
 | e::r,ds,h=>by
  cases e with
  | Constant c j p=>
   cases c with
   | int i=>
    have h':(litsOf r).map (.int i::·)=some ds:=h;cases q:litsOf r with
    | none=>rw [q] at h';cases h'
    | some ms=>rw [q] at h';cases h';exact ae af (qZ q)
   | str x=>
    have h':(litsOf r).map (.str x::·)=some ds:=h;cases q:litsOf r with
    | none=>rw [q] at h';cases h'
    | some ms=>rw [q] at h';cases h';exact ae bI (qZ q)
   | _=>cases h
  | _=>cases h
def litsE:Kk->Option (List Kb)
 | .List es _=>litsOf es
 | _=>none
theorem Al{e:Kk}{ds:List Kb}(h:litsE e=some ds):FE X H0 O0 e (cY (dn ds)):=by
 cases e with
 | List es p=>exact cf (qZ h)
 | _=>cases h
end
structure Am (n:Nat) (x:Str):Prop where
 ok:Ed x=true
 le:x.length<=n
theorem uu{x:Str}:Ed x=true↔∀c∈x.cps.toList,c < 0x110000:=by
 unfold Ed;rw [<-Array.all_toList,Gi];simp
theorem q5(x y:Str):(x++y).cps=x.cps++y.cps:=rfl
theorem m4(x y:Str):(x++y).length=x.length+y.length:=by
 show(x.cps++y.cps).size=_;rw [Array.size_append];rfl
def cA:Str:="abcdefghijklmnopqrstuvwxyz"
theorem An:cA.cps.toList.length=26:=td
theorem uw:∀c∈cA.cps.toList,c < 0x110000:=td
theorem o4{j:Int}(h0:0<=j)(h1:j < 26):∃c,atI cA.cps.toList j=some c/\cA.cps.toList[j.toNat]?=some c/\c < 0x110000:=by
 obtain⟨k,rfl⟩:=Fb h0;have hk:k < cA.cps.toList.length:=by rw [An];omega
 refine⟨cA.cps.toList[k],fW (by simp [hk]),by simp [hk],uw _ (FH hk)⟩
def dz(j:Int):Nat:=(cA.cps.toList[j.toNat]?).getD 0
theorem ux{j:Int}(h0:0<=j)(h1:j < 26):atI cA.cps.toList j=some (dz j)/\dz j < 0x110000:=by
 obtain⟨c,e1,e2,e3⟩:=o4 h0 h1;have:dz j=c:=by unfold dz;rw [e2];rfl
 rw [this];exact⟨e1,e3⟩
structure m5 (n:Nat) (d:Kb):Prop where
 can:d.canLay0=true
 dep:d.depth<=n
theorem m5.mono{n m:Nat}{d:Kb}(h:m5 n d)(hn:n<=m):m5 m d:=⟨h.can,EV h.dep hn⟩
theorem Ao{x:Str}(h:Ed x=true):m5 1 (.str x):=⟨by simpa [EA] using h,by simp [Hg]⟩
theorem uy{n:Nat}:∀{ds:List Kb},(∀d∈ds,m5 n d)->FX ds=true/\Hb ds<=n
 | [],_=>⟨by simp [FX],by simp [Hb]⟩
 | d::r,h=>by
  obtain⟨a,b⟩:=uy (ds:=r) λe he=>h e (by simp [he]);have c:=h d Ka;refine⟨by rw [FX,c.can,a];rfl,?_⟩;rw [Hb];exact Nat.max_le.mpr ⟨c.dep,b⟩
def PU(X:Cx)(e:Kk)(te:TE):Prop:=∀(i:Nat)(x:Str)(pos' spos:Pos)(hN:X.N.Nodup)(hxi:X.N[i]?=some x)(hx:fP X.env.scope x)(hsw:KJ e (some (.Name x pos')) spos.line X.env=pure true)
 (hfn:X.fn x=true\/X.env.scope.names.lookup x=some .local),PS X (.Assign [.Name x pos'] e spos) (mL te (fT i))
theorem PU.imp{X:Cx}{e:Kk}{t u:TE}(h:PU X e t)(i:∀σ H Q,u σ H Q->t σ H Q):PU X e u:=λi' x p1 p2 hN hxi hx hsw hfn=>(h i' x p1 p2 hN hxi hx hsw hfn).imp λD σ H z=>i σ H _ z
section
variable {X:Cx} {H0:Hp} {O0:Ex}
section
variable {tg iter elt:Kk} {ifs:List Kk} {scope:Kz} {N':List Str} {k:Nat} {fr:List Nat} {g:TG} {dg:DG} {t:DT} {ta:DA} {tc:DB} {te:DT} {pos p ps:Pos}
theorem uz{wi:TI}{tc:TT}{te:TE}(hc:X.calm=true)(S:aQ X.env.scope X.N N' k fr scope)(hi:PI X tg iter wi)
 (hg:∀fp C s H,PG (aO X scope N' fp C s H) tg g)(hf:∀fp C s H,cD (aO X scope N' fp C s H) ifs tc)(he:∀fp C s H,PE (aO X scope N' fp C s H) elt te)
 (hs:∀x,Kt iter X.env x=pure x:=by intro _;rfl):PU X (.ListComp elt [⟨tg,iter,ifs,0⟩] scope pos) (lJ wi g tc te k fr):=
 λ_ _ _ _ hN hxi hx hsw hfn=>x6 hN hxi hx hc S hi hg hf he hsw hs hfn
theorem Ap(hc:X.calm=true){a:Kk}(S:aQ X.env.scope X.N N' k fr scope)(hgl:Gl X "range")(hm:X.mg "range"=none)(ha:PA X [a] (cW X.K H0 O0 ta))(gd:GD X.K g dg)(hk:lN g k)(hfr:fr.Nodup)
 (hg:∀fp C s H,PG (aO X scope N' fp C s H) tg g)(hf:∀fp C s H,cD (aO X scope N' fp C s H) ifs (bu X.K H0 O0 tc))(he:∀fp C s H,PE (aO X scope N' fp C s H) elt (up X.K H0 O0 te))
 (hst:Kj [a] X.env=[(false,eval a X.env)]:=by rfl)(hs:∀x,Kt (.Call (.Name "range" p) [a] [] ps) X.env x=pure x:=by intro _;rfl):
 PU X (.ListComp elt [⟨tg,(.Call (.Name "range" p) [a] [] ps),ifs,0⟩] scope pos) (mW X.K H0 O0 (dh ta dg tc te k fr)):=
 (uz hc S (qj hgl hm ha hst) hg hf he hs).imp λσ H Q uu30=>by obtain⟨O,δ,Qd,w,q,kk⟩:=uu30;exact⟨O,δ,_,w,q,λds vs H1 uu31 s1 r1=>by
  obtain⟨j,e,b1,b2,q1⟩:=uu31;subst e;cases r1 with
  | cons r1 r2=>
   cases r2;cases r1.int;have hb:(Kl:Int) < 2 ^ 62:=J3
   exact⟨j,rfl,b1,J4,λD hD=>nW (P:=λ_=>True) bX.rng gd hfr (λv _ H' R h=>hk fr σ v H' R h) (λ_ _ _ z=>z) (λ_ _ _ z=>z) (λ_ _ _ _=>trivial) (ag.rng _) (w.mono s1) (by rw [DP,Gz];omega) q1 (λds us p H' z s' hp r'=>kk ds us p H' z (s1.trans s') hp r') D hD⟩⟩
end
theorem Aq{i:Nat}{x:Str}{e:Kk}{t:DA}{pos pos':Pos}(hN:X.N.Nodup)(hi:X.N[i]?=some x)(hx:fP X.env.scope x)(he:PU X e (mW X.K H0 O0 t))(hs:KJ e (some (.Name x pos')) pos.line X.env=pure true:=by rfl)(hf:X.fn x=true\/X.env.scope.names.lookup x=some .local:=by first | exact .inl rfl | exact .inr rfl | assumption):
 PS X (.Assign [.Name x pos'] e pos) (aP X.K H0 O0 (cX i (dL t))):=
 (he _ _ _ _ hN hi hx hs hf).imp λD σ H ⟨O,δ,E,w,q,k1,k2,k3,k4⟩=>⟨O,δ,_,w,q,λds vs p H1 q1 s1 hp r1=>
  k1 O _ _ _ q1 ((w.mono (s1.trans (ah.new hp))).set (.lst (.inl bf) (nS w s1 hp) (r1.mono (ah.new hp)))) (.same (s1.trans (ah.new hp)))⟩
end
def Ar(z:Str):List Kb:=z.cps.toList.map λc=>.str ⟨#[c]⟩
section
variable {X:Cx} {H0:Hp} {O0:Ex}
def gM(t:DT)(g:DG)(tc:DB)(te:DT)(k:Nat)(fr:List Nat):DA:=λδ Q=>t δ λd=>∃z,d= .str z/\z.length<=Kl/\c6 g tc te (bj k fr δ) (Ar z) Q
def gN(ta:DA)(g:DG)(tc:DB)(te:DT)(k:Nat)(fr:List Nat):DA:=λδ Q=>ta δ λds=>∃i j:Int,ds=[.int i,.int j]/\-(2 ^ 62)<=i/\j - i < Kl/\i < 2 ^ 62/\-(2 ^ 62)<=j/\j < 2 ^ 62/\c6 g tc te (bj k fr δ) (c5 i (j - i).toNat) Q
def rg(K:DL)(neg:Bool):R2:=λx y H Q=>∃O dx ds dy,Sh K H O x dx/\Sh K H O y dy/\(dy= .list ds\/dy= .tuple ds)/\bt dx/\FX ds=true/\Q (.bl (if neg then !(ds.any λd=>Ea d dx) else ds.any λd=>Ea d dx)) H
theorem pb{A:Kr}{k:Nat}{xs:List Kb}{d:Kb}(hd:bt d)(hr:aH k A):A.units+1+min (Hb xs) d.depth < cLine:=by
 have:=SeqAt.depth_of_shaped hd;have h1:min (Hb xs) d.depth<=d.depth:=Nat.min_le_right _ _;have:=hr.un;omega
theorem uA{k:Nat}(hr:aH k X.A):aZ X (KC .In) (rg X.K false):=by
 intro LL s σ H x y v u Q I rx ry h;obtain⟨O,dx,ds,dy,hx,hy,e,sx,sy,q⟩:=h;obtain⟨as,ra⟩:=dO I hx.all (EO sx) rx;rcases e with e | e <;> subst e
 ·obtain⟨bs,rb⟩:=dO I hy.all (by simpa [EA] using sy) ry;exact SeqAt.in_list_reads rb ra sy (EO sx) (pb sx hr) (lg I q rfl)
 ·obtain⟨bs,rb⟩:=dO I hy.all (by simpa [EA] using sy) ry;exact SeqAt.in_tuple_reads rb ra sy (EO sx) (pb sx hr) (lg I q rfl)
theorem As{k:Nat}(hr:aH k X.A):aZ X (KC .NotIn) (rg X.K true):=by
 intro LL s σ H x y v u Q I rx ry h;obtain⟨O,dx,ds,dy,hx,hy,e,sx,sy,q⟩:=h;obtain⟨as,ra⟩:=dO I hx.all (EO sx) rx;rcases e with e | e <;> subst e
 ·obtain⟨bs,rb⟩:=dO I hy.all (by simpa [EA] using sy) ry;exact SeqAt.notIn_list_reads rb ra sy (EO sx) (pb sx hr) (lg I q rfl)
 ·obtain⟨bs,rb⟩:=dO I hy.all (by simpa [EA] using sy) ry;exact SeqAt.notIn_tuple_reads rb ra sy (EO sx) (pb sx hr) (lg I q rfl)
def fk(neg:Bool):Kb->Kb->(Kb->Prop)->Prop:=λx y Q=>∃ds,(y= .list ds\/y= .tuple ds)/\bt x/\FX ds=true/\Q (.bool (if neg then !(ds.any λd=>Ea d x) else ds.any λd=>Ea d x))
theorem rh{K:DL}{neg:Bool}:bC K (rg K neg) (fk neg):=λH O x y dx dy Qd R _ hx hy uu33 k=>by obtain⟨ds,e,a,b,q⟩:=uu33;exact⟨O,dx,ds,dy,hx,hy,e,a,b,k _ _ H q (ah.refl _) (.bl _)⟩
def gO:List Kb->(Kb->Prop)->Prop:=λds Q=>∃z:Str,ds=[.str z]/\z.length<=Kl/\Q (.int z.length)
def gQ:Kb->Kb->(Kb->Prop)->Prop:=λx y Q=>∃i j:Str,x= .str i/\y= .str j/\Q (.bool (decide (i.cps.toList < j.cps.toList)))
def gR:Kb->Kb->(Kb->Prop)->Prop:=λx y Q=>∃i j:Str,x= .str i/\y= .str j/\Q (.bool (!(JN j i 0 j.length 1).isEmpty))
def gS(t:DT)(tl th:DO):DT:=λδ Q=>t δ λd=>tl δ λl=>th δ λu=>∃xs,d= .tuple xs/\Q (.tuple (aS xs l u))
def cj(a b:Str):Bool:=decide (a.cps.toList<=b.cps.toList)
def cJ(l:List Str):List Str:=l.mergeSort cj
theorem uB(a b c:Str)(h:cj a b=true)(h':cj b c=true):cj a c=true:=
 decide_eq_true (List.le_trans (of_decide_eq_true h) (of_decide_eq_true h'))
theorem Au(a b:Str):(cj a b || cj b a)=true:=by
 rcases List.le_total a.cps.toList b.cps.toList with h | h
 ·unfold cj;rw [decide_eq_true h];rfl
 ·unfold cj;rw [decide_eq_true h,JK]
theorem uC{a b:Str}(h:a.cps.toList=b.cps.toList):a=b:=by
 cases a;cases b;congr 1;exact Array.ext' h
theorem Av{a b:Str}(h:cj a b=true)(h':cj b a=true):a=b:=uC (Jm (of_decide_eq_true h) (of_decide_eq_true h'))
theorem rj(l:List Str):(cJ l).Perm l:=List.mergeSort_perm l cj
theorem Aw(l:List Str):(cJ l).Pairwise λa b=>cj a b=true:=List.pairwise_mergeSort uB Au l
theorem Ax{l m:List Str}(h:m.Perm l)(p:m.Pairwise λa b=>cj a b=true):m=cJ l:=
 List.Perm.eq_of_pairwise (λa b _ _ x y=>Av x y) p (Aw l) (h.trans (rj l).symm)
theorem uD:∀(p:Str)(l:List Str),risingS p l=true->(p::l).Pairwise λa b=>cj a b=true
 | p,[],_=>by simp
 | p,x::r,h=>by
  rw [risingS,F5,EH,ltCps_eq,decide_eq_false_iff_not] at h;have h1:cj p x=true:=decide_eq_true (Jj.mp h.1);have h2:=uD x r h.2;rw [Fd];refine⟨λy hy=>?_,h2⟩;rcases D3.mp hy with z | z
  ·rw [z];exact h1
  ·exact uB p x y h1 ((Fd.mp h2).1 y z)
theorem Ay:∀(l:List Str),sortedS l=true->l.Pairwise λa b=>cj a b=true
 | [],_=>.nil
 | x::r,h=>uD x r h
theorem Az:∀{ys:List Str}{us:List Kc},aq (ys.map V.str) us->KH us ys:=by
 intro ys
 induction ys with
 | nil=>intro us rv;cases rv;exact .nil
 | cons y ys ih=>
  intro us rv;rw [D9] at rv;cases rv with
  | cons r1 r2=>obtain⟨t,rfl⟩:=r1;exact .cons y t (ih r2)
theorem uE:∀{ys:List Str}{us:List Kc},KH us ys->aq (ys.map V.str) us
 | _,_,.nil=>.nil
 | _,_,.cons y t r=>.cons ⟨t,rfl⟩ (uE r)
theorem ag.strs{K:DL}{H:Hp}{O:Ex}:∀{ss:List Str}{vs:List V},ag K H O vs (ss.map DW)->vs=ss.map V.str
 | [],_,r=>by rw [EW] at r;cases r;rfl
 | b::bs,_,r=>by
  rw [D9] at r;cases r with
  | cons h r=>cases h;rw [D9,ag.strs r]
theorem ag.ofStrs{K:DL}{H:Hp}{O:Ex}:∀(ss:List Str),ag K H O (ss.map V.str) (ss.map DW)
 | []=>.nil
 | s::r=>.cons (.str s) (ag.ofStrs r)
def gT(t:DA):DA:=λδ Q=>t δ λds=>∃ss:List Str,ds=[.list (ss.map .str)]/\ss.length < 64/\Q ((cJ ss).map .str)
end
end L2
namespace PySem.SeqAt
open AutoSeq1 (wpAny_loadPart')
open MeetsSeq
theorem uF(l:Ke)(es:Array DictEntry)(n:Nat)(dd:Option Ke)(sl:Array (Option Kc))(b:Str)(u:Tok):
 Meets (Builtin.«dict.__eq__» ⟨[.ref l,.str b u],[]⟩) (λ_ R s=>s.heap.get? l=some {cls:= .type "dict",dict:=dd,data:= .dict es n,slots:=sl}/\R (.ok (.ret .notImplemented)) s):=
 .of_wp λprog w A R s h=>by obtain⟨hp,g,d,tk,os⟩:=s;obtain⟨hl,h⟩:=h;have f1:=F.sub_str_dict;wp_walk using KO hl;exact⟨_,rfl,h⟩
theorem uG(b:Str)(u:Tok)(l:Ke)(c:Kc)(es:Array DictEntry)(n:Nat)(dd:Option Ke)(sl:Array (Option Kc)):
 Meets (Builtin.«str.__eq__» ⟨[.str b u,.ref l],[]⟩) (λ_ R s=>s.heap.get? l=some {cls:=c,dict:=dd,data:= .dict es n,slots:=sl}/\R (.ok (.ret .notImplemented)) s):=
 .of_wp λprog w A R s h=>by obtain⟨hp,g,d,tk,os⟩:=s;obtain⟨hl,h⟩:=h;wp_walk using KO hl,wpAny_load hl;exact⟨_,rfl,h⟩
section
variable {A:Kr} {s:Kf}
theorem RcAt.dict_str{l:Ke}{es:Array DictEntry}{n:Nat}{o:Obj}(b:Str)(u:Tok)(ho:s.heap.get? l=some o)(hc:o.cls= .type "dict")(hd:o.data= .dict es n)(hu:A.units < cLine):RcAt A s (.ref l) (.str b u) false:=λprog w E Q h=>by
 obtain⟨cls,dd,data,sl⟩:=o;simp only at hc hd;subst hc hd;exact rc_eq_decline_or (k:=false) ⟨_,ho,rfl⟩ (Lq s b u) J3 F.sub_str_dict F.slot_dict_eq F.slot_str_eq_refl
  (λ_ hq=>Lr F.slot_dict_eq ⟨_,ho,rfl⟩ F.entry_dict_eq (F.args_dict_eq_2 _ _) (uF l es n dd sl b u) ⟨ho,hq⟩)
  (λ_ hq=>Lr F.slot_str_eq_refl (Lq s b u) F.entry_str_eq (F.args_str_eq_2 _ _) (uG b u l (.type "dict") es n dd sl) ⟨ho,hq⟩)
  (λ_ hq=>Lx (rfl:isSame (.ref l) (.str b u)=pure false) hq) (.inr hu) h
theorem RcAt.str_dict{l:Ke}{es:Array DictEntry}{n:Nat}{o:Obj}(b:Str)(u:Tok)(ho:s.heap.get? l=some o)(hc:o.cls= .type "dict")(hd:o.data= .dict es n)(hu:A.units < cLine):RcAt A s (.str b u) (.ref l) false:=λprog w E Q h=>by
 obtain⟨cls,dd,data,sl⟩:=o;simp only at hc hd;subst hc hd;exact rc_eq_decline_or (k:=false) (Lq s b u) ⟨_,ho,rfl⟩ J3 F.sub_dict_str F.slot_str_eq F.slot_dict_eq_refl
  (λ_ hq=>Lr F.slot_str_eq (Lq s b u) F.entry_str_eq (F.args_str_eq_2 _ _) (uG b u l (.type "dict") es n dd sl) ⟨ho,hq⟩)
  (λ_ hq=>Lr F.slot_dict_eq_refl ⟨_,ho,rfl⟩ F.entry_dict_eq (F.args_dict_eq_2 _ _) (uF l es n dd sl b u) ⟨ho,hq⟩)
  (λ_ hq=>Lx (rfl:isSame (.str b u) (.ref l)=pure false) hq) (.inr hu) h
end
end PySem.SeqAt
namespace L2
open PySem PySem.Spec PyProof.Rows PySem.W
section
variable {X:Cx} {LL:List (Ke×Obj)} {σ:St} {H:Hp} {s:Kf}
def bJ:Kb->Bool
 | .dict [(.none,_)]=>false
 | _=>true
theorem AA(I:aa X LL σ H s){O:Ex}{v:V}{d:Kb}{u:Kc}(h:Dt X.K H O v d)(ht:bJ d=true)(r:aD v u)(y:Str)(t:Tok)(hu:X.A.units < cLine):SeqAt.RcAt X.A s u (.str y t) (Ea d (.str y)):=by
 cases h with
 | non=>cases (show u=Gm from r);simpa [Ea] using SeqAt.RcAt.none_str y t
 | bl b=>cases (show u=GQ b from r);simpa [Ea] using SeqAt.RcAt.bool_str b y t
 | int i=>obtain⟨k,e⟩:=(show ∃t,u=G2 i t from r);cases e;simpa [Ea] using SeqAt.RcAt.int_str i k y t
 | str x=>obtain⟨k,e⟩:=(show ∃t,u=Gf x t from r);cases e;simpa [Ea] using IV x k y t
 | @tup a xs ds h n rr=>
  cases (show u=EF a from r);obtain⟨its,rv,p,_⟩:=I.tuple (.inl h);simpa [Ea] using IB y t (show s.heap.IsTuple a its.toArray from p) hu
 | @tupK a xs ds h rr=>
  cases (show u=EF a from r);obtain⟨its,rv,p,_⟩:=I.tuple h.of0;simpa [Ea] using IB y t (show s.heap.IsTuple a its.toArray from p) hu
 | @lst a xs ds h n rr=>
  cases (show u=EF a from r);obtain⟨its,rv,p,_⟩:=I.list (.inl h);simpa [Ea] using SeqAt.RcAt.list_str y t p.isList hu
 | pack h n=>exact absurd ht (by simp [bJ])
 | purse h n=>exact absurd ht (by simp [bJ])
 | scr h r=>exact absurd ht (by simp [bJ])
 | obj h e n r=>exact absurd ht (by simp [bJ])
 | @dct0 a h n=>
  cases (show u=EF a from r);obtain⟨_,_,_,_,o,es,ep,e,c,dd,_⟩:=(show bz X.prog X.w H s.heap a (.dK []) from I.hok a _ h);simpa [Ea] using SeqAt.RcAt.dict_str y t e c.1 dd hu
 | @dic a ob kv ks kp ds h e1 e2 n rr=>
  cases (show u=EF a from r);obtain⟨_,_,_,_,o,es,ep,e,c,dd,_⟩:=(show bz X.prog X.w H s.heap a (.dK kv) from(I.hok a _ h).2);simpa [Ea] using SeqAt.RcAt.dict_str y t e c.1 dd hu
end
section
variable {X:Cx} {H0:Hp} {O0:Ex}
def uH(K:DL):R2:=λx y H Q=>∃O dx z,Dt K H O x dx/\bJ dx=true/\y= .str z/\Q (.bl (Ea dx (.str z))) H
theorem m7{k:Nat}(hr:aH k X.A):aZ X (KC .Eq) (uH X.K):=by
 intro LL s σ H x y v u Q I rx ry h;obtain⟨O,dx,z,hx,ht,rfl,q⟩:=h;obtain⟨t,rfl⟩:=ry;have hc:KC .Eq v (.str z t)=richCompare .Eq v (.str z t):=rfl;rw [hc];exact AA I hx ht rx z t hr.units0 X.prog X.w X.xe _ (lg I q rfl)
def cB:Kb->Kb->(Kb->Prop)->Prop:=λx y Q=>∃z,y= .str z/\bJ x=true/\Q (.bool (Ea x (.str z)))
theorem m8{K:DL}:bC K (uH K) cB:=λH O x y dx dy Qd R _ hx hy uu34 k=>by
 obtain⟨z,e,ht,q⟩:=uu34;subst e;cases hy.str;exact⟨_,dx,z,hx.all,ht,rfl,k _ _ H q (ah.refl _) (.bl _)⟩
def gU:Kb->Kb->(Kb->Prop)->Prop:=λx y Q=>∃zs:List Str,y= .tuple (zs.map .str)/\bJ x=true/\Q (.bool (zs.any λz=>Ea (.str z) x))
end
theorem gW{z:Int}{Q:Kb->Prop}:Ah [qL,.int z] Q↔(0 < z/\z<=1000000/\∀i:Int,0<=i->i < z->Q (.int i)):=by
 constructor
 ·rintro⟨z',e,a,b,c⟩;simp only [EG,EL,and_true,true_and] at e;subst e;exact⟨a,b,c⟩
 ·rintro⟨a,b,c⟩;exact⟨z,rfl,a,b,c⟩
def pd:Kb->Bool | .str _=>true | _=>false
def n3:Kb->Bool | .int _=>true | .bool _=>true | _=>false
def n4:Kb->Bool | .bool _=>true | _=>false
def m9:Kb->Bool | .tuple _=>true | _=>false
theorem AB{K:DL}(d:Kb):kitOne K (.type (mZ d)) (.type "str")=some (pd d):=by cases d <;> rfl
theorem AD{K:DL}(d:Kb):kitOne K (.type (mZ d)) (.type "int")=some (n3 d):=by cases d <;> rfl
theorem AE{K:DL}(d:Kb):kitOne K (.type (mZ d)) (.type "bool")=some (n4 d):=by cases d <;> rfl
theorem AF{K:DL}(d:Kb):kitOne K (.type (mZ d)) (.type "tuple")=some (m9 d):=by cases d <;> rfl
structure Nm (z:Str):Prop where
 lo:1<=z.length
 hi:z.length<=8
 ab:∀c∈z.cps.toList,c∈cA.cps.toList
theorem Nm.ok{z:Str}(h:Nm z):Ed z=true:=uu.mpr λc hc=>uw c (h.ab c hc)
theorem AG{g:DG}{te:DT}{δ0:Dl}{xs:List Kb}{Q:List Kb->Prop}(f:Kb->Kb)
 (h:∀x∈xs,∀R:Kb->Prop,R (f x)->g x δ0 λδ2=>te δ2 R)(q:Q (xs.map f)):c6 g cH te δ0 xs Q:=by
 refine⟨λi acc=>acc=(xs.take i).map f,rfl,?_,?_⟩
 ·rintro i x acc hx rfl;have:=h x (Ef hx) (λy=>(xs.take i).map f++[y]=(xs.take (i+1)).map f) (by rw [GH,hx];simp);simpa [cH] using this
 ·rintro acc rfl;rw [FZ (DU _)];exact q
theorem AH{g:DG}{te:DT}{δ0:Dl}{xs:List Kb}{p:Bool->Prop}{gg:List Bool->Bool}(f:Kb->Bool)
 (h:∀x∈xs,∀R:Kb->Prop,R (.bool (f x))->g x δ0 λδ2=>te δ2 R)(q:p (gg (xs.map f))):c6 g cH te δ0 xs λds=>∃bs:List Bool,ds=bs.map G9/\p (gg bs):=
 AG (λx=>.bool (f x)) h ⟨xs.map f,by rw [Ga];rfl,q⟩
theorem gX{a:Str}{P:List Str->Prop}:(∃zs,[DW a]=E4 DW zs/\P zs)↔P [a]:=by
 refine⟨λ⟨zs,e,h⟩=>?_,λh=>⟨_,rfl,h⟩⟩
 match zs,e with
 | [x],e=>simp at e;rw [e];exact h
theorem gY{a b:Str}{P:List Str->Prop}:(∃zs,[DW a,DW b]=E4 DW zs/\P zs)↔P [a,b]:=by
 refine⟨λ⟨zs,e,h⟩=>?_,λh=>⟨_,rfl,h⟩⟩
 match zs,e with
 | [x,y],e=>simp at e;rw [e.1,e.2];exact h
theorem gZ{a b c:Str}{P:List Str->Prop}:(∃zs,[DW a,DW b,DW c]=E4 DW zs/\P zs)↔P [a,b,c]:=by
 refine⟨λ⟨zs,e,h⟩=>?_,λh=>⟨_,rfl,h⟩⟩
 match zs,e with
 | [x,y,z],e=>simp at e;rw [e.1,e.2.1,e.2.2];exact h
theorem g6{x:Str}:bJ (.str x)=true:=rfl
theorem g8{x:Int}:bJ (.int x)=true:=rfl
theorem g9{x:Bool}:bJ (.bool x)=true:=rfl
theorem hG{x:List Kb}:bJ (.tuple x)=true:=rfl
theorem hJ{x:List Kb}:bJ (.list x)=true:=rfl
theorem uI(x:Str):x.length=x.cps.toList.length:=by rw [D2];rfl
theorem Nm.of{z:Str}{l:List Nat}(e:z.cps.toList=l)(lo:1<=l.length)(hi:l.length<=8)(ab:∀c∈l,c∈cA.cps.toList):Nm z:=
 ⟨by rw [uI,e];exact lo,by rw [uI,e];exact hi,by rw [e];exact ab⟩
theorem AI{n:Nat}{ms:List Str}(h:∀m∈ms,Ed m=true)(hn:1<=n:=by decide):∀d∈ms.map DW,m5 n d:=λd hd=>by
 obtain⟨m,hm,rfl⟩:=Es.mp hd;exact(Ao (h m hm)).mono hn
theorem hU{a:Kb}{l:List Kb}:aS (a::l) (some 1) none=l:=by
 rw [nZ J3 (by simp only [D4];omega)];rfl
theorem hV{a b:Kb}{l:List Kb}:aS (a::b::l) (some 2) none=l:=by
 rw [nZ J3 (by simp only [D4];omega)];rfl
theorem hW{a b c:Kb}{l:List Kb}:aS (a::b::c::l) (some 3) none=l:=by
 rw [nZ J3 (by simp only [D4];omega)];rfl
theorem hZ{a b c d:Kb}{l:List Kb}:aS (a::b::c::d::l) (some 4) none=l:=by
 rw [nZ J3 (by simp only [D4];omega)];rfl
theorem ia{a:Kb}{l:List Kb}:aS (a::l) none (some 1)=[a]:=by
 rw [mx J3 (by simp only [D4];omega)];rfl
theorem ib{a b:Kb}{l:List Kb}:aS (a::b::l) none (some 2)=[a,b]:=by
 rw [mx J3 (by simp only [D4];omega)];rfl
theorem ic{a b c:Kb}{l:List Kb}:aS (a::b::c::l) none (some 3)=[a,b,c]:=by
 rw [mx J3 (by simp only [D4];omega)];rfl
theorem ie{a b c d:Kb}{l:List Kb}:aS (a::b::c::d::l) none (some 4)=[a,b,c,d]:=by
 rw [mx J3 (by simp only [D4];omega)];rfl
theorem ig{a b c:Kb}{l:List Kb}:aS (a::b::c::l) (some 1) (some 3)=[b,c]:=by
 unfold aS;rw [oZ J3 (by simp only [D4];omega),oZ J3 (by simp only [D4];omega)];rfl
end L2
namespace PySem
open Builtin
open AutoSeq1 (wpAny_loadPart')
end PySem
namespace L2
open PySem PySem.Spec PyProof.Rows PySem.W
section
variable {X:Cx} {H0:Hp} {O0:Ex}
def ij:Kb->Kb->(Kb->Prop)->Prop:=λx y Q=>∃xs,x= .tuple xs/\y= .int 2/\xs≠[]/\xs.length<=1000/\Q (.tuple (xs++xs))
def fm:DT:=λ_ Q=>Q (.dict [])
theorem AJ{pos:Pos}:DE X H0 O0 (.Dict [] [] pos) fm:=Ak.imp λσ H Q uu38=>by obtain⟨O,δ,Qd,w,q,k⟩:=uu38;exact λp hp=>k _ _ _ q (ah.new hp) (.dct0 bf (nS w (ah.refl _) hp))
def fq(t:DT):DT:=λδ Q=>t δ λd=>∃i,d= .int i/\Q (.int (-i))
theorem AK{e:Kk}{t:DT}{pos:Pos}(h:DE X H0 O0 e t):DE X H0 O0 (.UnaryOp .USub e pos) (fq t):=
 (tw tE h).imp λσ H Q uu39=>by obtain⟨O,δ,Qd,w,q,k⟩:=uu39;exact⟨O,δ,_,w,q,λd v H1 uu40 s1 r1=>by obtain⟨i,e,q1⟩:=uu40;subst e;cases r1;exact⟨i,rfl,k _ _ H1 q1 s1 (.int _)⟩⟩
def ik(t:DT):DT:=λδ Q=>t δ λd=>∃z:Str,d= .str z/\z.length<=1000000/\Q (.str (Txt.upper z))
end
theorem AL(n:Nat):Hc none none (-1) (n:Int)=((n:Int) - 1,-1):=by
 unfold Hc;rfl
theorem AM(n:Nat):GC ((n:Int) - 1) (-1) (-1)=n:=by
 unfold GC;rw [J5 J3];split
 ·rw [show(- -1:Int)=1 by decide,Int.ediv_one];omega
 ·omega
theorem AN(xs:Array Kc):((EZ xs.size).filterMap λ(m:Nat)=>xs[((xs.size:Int) - 1+(m:Int)*(-1)).toNat]?).toArray=xs.toList.reverse.toArray:=by
 have e:(EZ xs.size).filterMap (λ(m:Nat)=>xs[((xs.size:Int) - 1+(m:Int)*(-1)).toNat]?)=((EZ xs.size).map λk=>xs.size - 1 - k).filterMap (xs[·]?):=by
  have e2:((EZ xs.size).map λk=>xs.size - 1 - k)=(EZ xs.size).map λ(m:Nat)=>((xs.size:Int) - 1+(m:Int)*(-1)).toNat:=
   List.map_congr_left λm hm=>by have:=GW.mp hm;omega
  rw [e2,IW];rfl
 have k:=krv_pick xs;unfold slicePick at k;rw [krv_bounds] at k;have k2:((sliceRange ((xs.size:Int) - 1) (-1) (-1)).filterMap (xs[·]?)).toArray=xs.toList.reverse.toArray:=k;rw [krv_sliceRange] at k2;rw [e];exact k2
theorem AO{prog:Kp}{w:Kq}{A:Kr}{E:Kc->Kf->Prop}{s:Kf}{sl:Ke}{tk:Tok}{n:Nat}{Q:Int×Int×Nat->Kf->Prop}(hs:s.heap.IsSliceOf sl .none .none (.int (-1) tk))
 (h:Q ((n:Int) - 1,-1,n) s):Kh (Ki prog w) A (HM (.ref sl) (pure (n:Int))) Q E s:=by
 obtain⟨os,hos,hcs,hds⟩:=id hs;unfold HM Builtin.Slice.sliceFields;refine Kd (Kd (wpAny_field hos hds (x:= .none) rfl (Kd (wpAny_field hos hds (x:= .none) rfl (Kd (wpAny_field hos hds (x:= .int (-1) tk) rfl (Kg ?_)))))));refine Kd (slicePart_int ?_);show Kh _ _ (if ((-1:Int)==0)=true then _ else _) _ _ s;rw [J5 J3];refine Kd (slicePart_none (Kd (slicePart_none (Kd (Kg ?_)))));show Kh _ _ (match Hc none none (-1) (n:Int) with | (lo,hi)=>pure (lo,(-1:Int),GC lo hi (-1))) _ _ s;rw [AL];show Kh _ _ (pure ((n:Int) - 1,(-1:Int),GC ((n:Int) - 1) (-1) (-1))) _ _ s;rw [AM];exact Kg h
theorem AQ{prog:Kp}{w:Kq}{A:Kr}{E:Kc->Kf->Prop}{s:Kf}{t sl:Ke}{items:Array Kc}{tk:Tok}{Q:Kc->Kf->Prop}(ht:IsTup s.heap t items)(hs:s.heap.IsSliceOf sl .none .none (.int (-1) tk))(hz:items.size<=Kl)
 (h:Q (.ref s.heap.objs.size) {s with heap:=s.heap.push {cls:= .type "tuple",data:= .seq items.toList.reverse.toArray}}):Kh (Ki prog w) A (getItem (.ref t) (.ref sl)) Q E s:=by
 have htake:sizeOk (.seq items.toList.reverse.toArray):=by
  show items.toList.reverse.toArray.size<=Kl;rw [Eb,II,D2];exact hz
 obtain⟨os,hos,hcs,hds⟩:=id hs;have hTs:s.TypeIs (.ref sl) "slice":=⟨os,hos,hcs⟩;unfold getItem
 try with_reducible refine KN ?_
 first | refine Kd (Kg ?_) | skip
 refine Kd (wpAny_sequenceKey ht.typeIs J3 ?_);refine Kd (KQ (name:=DM "__getitem__") ht.typeIs Hz
  (KG Hz ht.typeIs PyProof.Rows.entry_tuple_getitem ?_ (PyProof.Rows.args_tuple_getitem _ _)))
 show Kh _ _ (JD (.ref t) >>=_) _ _ s;refine Kd (tupleItemsOf_ ht ?_);refine Kd (wpAny_typeOf hTs ?_);rw [J6 J3];refine Kd (AO hs ?_);show Kh _ _ (if (((items.size:Int) - 1)==0 && (-1:Int)==1 && items.size==items.size)=true then _ else _) _ _ s;rw [J5 Ka,AN]
 first
  | exact Kd (m:=GK _) (Kx (Kg ⟨_,rfl,Kg h⟩) htake)
  | exact Kd (m:=GK _) (Kx (Kd (Kg (Kg ⟨_,rfl,Kg h⟩))) htake)
  | exact Kd (Kd (m:=GK _) (Kx (Kg (Kg ⟨_,rfl,Kg h⟩)) htake))
  | exact Kd (Kd (m:=GK _) (Kx (Kg ⟨_,rfl,Kg h⟩) htake))
section
variable {X:Cx} {H0:Hp} {O0:Ex}
theorem AR{e:Kk}{te:TE}{pos p2 up cp:Pos}{j}(he:PE X e te):PE X (.Subscript e (.Slice none none (some (.UnaryOp .USub (.Constant (.int 1) j cp) up)) p2) pos) (λσ H Q=>te σ H λx H1=>∃a xs,x= .ref a/\aY X.K H1 a xs/\∀p,H1 p=none->Q (.ref p) (ai H1 p (.tup xs.reverse))):=by
 intro LL s σ H Q I h;refine Subscript_ (ao (he LL s σ H _ I h) λv s1 ⟨x,H1,I1,r1,q1⟩=>?_);obtain⟨a,xs,rfl,hq,q⟩:=q1;cases r1;refine wpAny_Slice ?_;rw [evalPart_none];refine Kg (Kg ?_);rw [evalPart_some];refine ao (tw tE sT LL s1 σ H1 (λx H2=>x= .int (-1)/\H2=H1) I1 ⟨1,rfl,rfl,rfl⟩) λvk s3 ⟨x3,H3,I3,r3,e3,e4⟩=>?_;subst e3 e4;obtain⟨tk,rfl⟩:=r3;have I4:aa X LL σ H3 {s3 with heap:=s3.heap.push {cls:= .type "slice",data:= .fields #[.none,.none,.int (-1) tk]}}:=I3.kept (t':=s3.toks) λb ob q=>DN _ q;show Kh (Ki X.prog X.w) X.A (subscriptTail e (.Slice none none (some (.UnaryOp .USub (.Constant (.int 1) j cp) up)) p2) (.ref a) (.ref s3.heap.objs.size)) (EP X LL σ Q) X.xe {s3 with heap:=s3.heap.push {cls:= .type "slice",data:= .fields #[.none,.none,.int (-1) tk]}};obtain⟨its,r,ht,hz⟩:=I4.tuple hq;have hlen:=r.length;refine tail_any (ops:=[.ref a,.ref s3.heap.objs.size]) ht.typeIs Hz.lookup ?_ (by with_unfolding_all rfl);refine AQ ht (IQ ..) (by rw [Eb];omega) ?_;refine⟨.ref _,_,I4.laid (t':=s3.toks) (o:= .tup xs.reverse) (λb ob q=>DN _ q) (DU _) ?_,rfl,q _ (I4.hok.fresh (DU _))⟩;exact⟨by rw [II];exact hz,_,(show aq xs.reverse its.reverse from Ag r),JZ _ _⟩
def ft(t:DT):DT:=λδ Q=>t δ λd=>∃xs,d= .tuple xs/\Q (.tuple xs.reverse)
theorem AS{e:Kk}{t:DT}{pos p2 up cp:Pos}{j}(h:DF X H0 O0 e t):DE X H0 O0 (.Subscript e (.Slice none none (some (.UnaryOp .USub (.Constant (.int 1) j cp) up)) p2) pos) (ft t):=
 (AR h).imp λσ H Q uu43=>by obtain⟨O,δ,Qd,w,q,k⟩:=uu43;exact⟨O,δ,_,w,q,λd v H1 uu44 s1 r1=>by
  obtain⟨xs,e,q1⟩:=uu44;subst e;obtain⟨a,us,rfl,h1,d1⟩:=r1.tup;exact⟨a,us,rfl,h1,λp hp=>k _ _ _ q1 (s1.trans (ah.new hp)) (.tup (.inl bf) (nS w s1 hp) (d1.reverse.mono (ah.new hp)))⟩⟩
end
theorem il{xs:List Kb}:aS xs none (some (-1))=xs.dropLast:=by
 unfold aS;rw [oH];have e:HT.sIx xs.length xs.length (some (-1))=xs.length - 1:=by
  simp only [HT.sIx];rw [J6 J3];omega
 rw [e,List.drop_zero,Nat.sub_zero,List.dropLast_eq_take]
section
variable {x:Option Kk} {n:Nat} {env:Env}
theorem AU{a b}:KJ (.List a b) x n env=pure false:=rfl
theorem dA{a b c d}:KJ (.BinOp a b c d) x n env=pure false:=rfl
theorem pf{a b c d}:KJ (.Call a b c d) x n env=pure false:=rfl
theorem rn{a b c}:KJ (.Subscript a b c) x n env=pure false:=rfl
end
section
variable {X:Cx} {H0:Hp} {O0:Ex}
def ip(F:List Kb->(List Kb->Prop)->Prop)(t:DA):DA:=λδ Q=>t δ λds=>F ds Q
end
section
variable {X:Cx} {H0:Hp} {O0:Ex}
def iq(t:DA):DA:=λδ Q=>t δ λds=>ds.length<=1000/\Q (ds++ds)
end
theorem iu:(DM "paper"==DM "happens")=false:=td
theorem iv:(DM "paper"==DM "rule")=false:=td
theorem iw:(DM "paper"==DM "end")=false:=td
theorem ix:(DM "paper"==DM "hold")=false:=td
theorem iy:(DM "paper"==DM "lift")=false:=td
theorem iz:(DM "paper"==DM "leave")=false:=td
theorem iA:(DM "happens"==DM "paper")=false:=td
theorem iB:(DM "happens"==DM "rule")=false:=td
theorem iC:(DM "happens"==DM "end")=false:=td
theorem iD:(DM "happens"==DM "hold")=false:=td
theorem iE:(DM "happens"==DM "lift")=false:=td
theorem iF:(DM "happens"==DM "leave")=false:=td
theorem iG:(DM "rule"==DM "paper")=false:=td
theorem iH:(DM "rule"==DM "happens")=false:=td
theorem iI:(DM "rule"==DM "end")=false:=td
theorem iJ:(DM "rule"==DM "hold")=false:=td
theorem iK:(DM "rule"==DM "lift")=false:=td
theorem iL:(DM "rule"==DM "leave")=false:=td
theorem iM:(DM "end"==DM "paper")=false:=td
theorem iN:(DM "end"==DM "happens")=false:=td
theorem iO:(DM "end"==DM "rule")=false:=td
theorem iP:(DM "end"==DM "hold")=false:=td
theorem iQ:(DM "end"==DM "lift")=false:=td
theorem iR:(DM "end"==DM "leave")=false:=td
theorem iS:(DM "hold"==DM "paper")=false:=td
theorem iT:(DM "hold"==DM "happens")=false:=td
theorem iU:(DM "hold"==DM "rule")=false:=td
theorem iV:(DM "hold"==DM "end")=false:=td
theorem iW:(DM "hold"==DM "lift")=false:=td
theorem iX:(DM "hold"==DM "leave")=false:=td
theorem iY:(DM "lift"==DM "paper")=false:=td
theorem iZ:(DM "lift"==DM "happens")=false:=td
theorem i1:(DM "lift"==DM "rule")=false:=td
theorem i2:(DM "lift"==DM "end")=false:=td
theorem i3:(DM "lift"==DM "hold")=false:=td
theorem i4:(DM "lift"==DM "leave")=false:=td
theorem i5:(DM "leave"==DM "paper")=false:=td
theorem i6:(DM "leave"==DM "happens")=false:=td
theorem i7:(DM "leave"==DM "rule")=false:=td
theorem i8:(DM "leave"==DM "end")=false:=td
theorem i9:(DM "leave"==DM "hold")=false:=td
theorem ja:(DM "leave"==DM "lift")=false:=td
section
variable {X:Cx} {H0:Hp} {O0:Ex}
def jb:List Kb->(Kb->Prop)->Prop:=λds Q=>∃i:Int,ds=[.int i]/\i.natAbs.log2 < 1920/\Q (.str (toString i))
def jc:List Kb->(Kb->Prop)->Prop:=λds Q=>∃(z:Str)(n:Int),ds=[.str z]/\PySem.intText? z=some n/\z.length<=640/\Q (.int n)
def jd(to t:DT):DT:=λδ Q=>to δ λx=>∃z:Str,x= .str z/\t δ λy=>∃i:Int,y= .int i/\PadOk i=true/\Q (.str (Txt.zfill z i))
def je(to t:DT):DA:=λδ Q=>to δ λx=>∃z:Str,x= .str z/\t δ λy=>∃y':Str,y= .str y'/\(y'.length==0)=false/\z.length<=1000000/\Q ((Txt.split z y').map .str)
def fu:List DT->Str->DT
 | [],out=>λ_ Q=>out.length<=Kl/\Q (.str out)
 | t::ts,out=>λδ Q=>t δ λd=>∃z:Str,d= .str z/\z.length<=Kl/\(out++z).length<=Kl/\fu ts (out++z) δ Q
def fv:DS:=λ_ _=>False
theorem n5{st:Ks}:PS X st (aP X.K H0 O0 fv):=wY.imp λD σ H uu45=>by obtain⟨O,δ,E,w,q,_,_,_,_⟩:=uu45;exact q.elim
def uJ(ns:List Int):List Kb:=ns.map .int
def jf:Kb->Kb->(Kb->Prop)->Prop:=λx y Q=>(∃i j:Int,x= .int i/\y= .int j/\Q (.bool (decide (i < j))))\/(∃i j:Str,x= .str i/\y= .str j/\Q (.bool (decide (i.cps.toList < j.cps.toList))))\/
 (∃ns ms:List Int,x= .tuple (uJ ns)/\y= .tuple (uJ ms)/\Q (.bool (HT.lexLt ns ms)))
end
section
variable {α:Type} {P:α->Prop}
theorem fw{a:Kb}{r:Dl}{P:Kb->Prop}:bH 0 (some (Sl.v a)::r) P=P a:=rfl
theorem jg{x:Option Sl}{r:Dl}{i:Nat}{P:Kb->Prop}:bH (i+1) (x::r) P=bH i r P:=rfl
theorem DK{a:Kb}{l:Dl}{i:Nat}{P:Kb->Prop}:bH i (l.set i (some (Sl.v a))) P=(i < l.length/\P a):=by
 apply propext;show qN P _↔_;rw [uk,Ho];constructor
 ·rintro⟨d,e,p⟩;by_cases h:i < l.length
  ·rw [D1 h] at e;cases e;exact⟨h,p⟩
  ·rw [FF J4] at e;cases e
 ·rintro⟨h,p⟩;exact⟨a,by rw [D1 h];rfl,p⟩
theorem jh{a:List Kb}{r:Dl}{P:List Kb->Prop}:(∃d,(some (Sl.o a)::r)[0]?=some (some (Sl.o d))/\P d)=P a:=Ka
theorem ji{x:Option Sl}{r:Dl}{i:Nat}{P:List Kb->Prop}:(∃d,(x::r)[i+1]?=some (some (Sl.o d))/\P d)=(∃d,r[i]?=some (some (Sl.o d))/\P d):=Ka
theorem jj{a:List Kb}{l:Dl}{i:Nat}{P:List Kb->Prop}:(∃d,(l.set i (some (Sl.o a)))[i]?=some (some (Sl.o d))/\P d)=(i < l.length/\P a):=by
 apply propext;rw [Ho];constructor
 ·rintro⟨d,e,p⟩;by_cases h:i < l.length
  ·rw [D1 h] at e;cases e;exact⟨h,p⟩
  ·rw [FF J4] at e;cases e
 ·rintro⟨h,p⟩;exact⟨a,by rw [D1 h];rfl,p⟩
theorem jk{x:Option Sl}{l:Dl}{i j:Nat}{P:List Kb->Prop}(h:i≠j):(∃d,(l.set i x)[j]?=some (some (Sl.o d))/\P d)=(∃d,l[j]?=some (some (Sl.o d))/\P d):=by rw [El h]
theorem jl{a:Bool}{P:Bool->Prop}:(∃b,G9 a= .bool b/\P b)=P a:=Ka
theorem jm{a:Int}{P:Int->Prop}:(∃b,DY a= .int b/\P b)=P a:=Ka
theorem jn{a:Str}{P:Str->Prop}:(∃b,DW a= .str b/\P b)=P a:=Ka
theorem jo{a:List Kb}{P:List Kb->Prop}:(∃b,Em a= .tuple b/\P b)=P a:=Ka
theorem jq{a:List Kb}{P:List Kb->Prop}:(∃b,Fs a= .list b/\P b)=P a:=Ka
theorem jr{a b:Int}{P:Int->Int->Prop}:(∃i j,DY a= .int i/\DY b= .int j/\P i j)=P a b:=Ka
theorem jt{a b:Str}{P:Str->Str->Prop}:(∃i j,DW a= .str i/\DW b= .str j/\P i j)=P a b:=Ka
theorem ju{a b:List Kb}{P:List Kb->List Kb->Prop}:(∃i j,Em a= .tuple i/\Em b= .tuple j/\P i j)=P a b:=Ka
theorem jv{a b:List Kb}{P:List Kb->List Kb->Prop}:(∃i j,Fs a= .list i/\Fs b= .list j/\P i j)=P a b:=Ka
theorem jw{a:Kb}{r:List Kb}{P:Kb->List Kb->Prop}:(∃x y,a::r=x::y/\P x y)=P a r:=propext ⟨λuu46=>by obtain⟨_,_,e,p⟩:=uu46;cases e;exact p,λp=>⟨_,_,rfl,p⟩⟩
theorem jx{a b:Kb}{P:Kb->Kb->Prop}:(∃x y,[a,b]=[x,y]/\P x y)=P a b:=propext ⟨λuu47=>by obtain⟨_,_,e,p⟩:=uu47;cases e;exact p,λp=>⟨_,_,rfl,p⟩⟩
theorem jy{a:Kb}{r:List Kb}{P:Kb->Prop}:(∃ds i d,Em (a::r)= .tuple ds/\DY 0= .int i/\atI ds i=some d/\P d)=P a:=by simp [bQ]
theorem jz{a b:Kb}{r:List Kb}{P:Kb->Prop}:(∃ds i d,Em (a::b::r)= .tuple ds/\DY 1= .int i/\atI ds i=some d/\P d)=P b:=by simp [bZ]
theorem jA{a b c:Kb}{r:List Kb}{P:Kb->Prop}:(∃ds i d,Em (a::b::c::r)= .tuple ds/\DY 2= .int i/\atI ds i=some d/\P d)=P c:=by simp [cz]
theorem jB{a b c e:Kb}{r:List Kb}{P:Kb->Prop}:(∃ds i d,Em (a::b::c::e::r)= .tuple ds/\DY 3= .int i/\atI ds i=some d/\P d)=P e:=by simp [cg]
theorem jC{a:Kb}{r:List Kb}{P:Kb->Prop}:(∃ds i d,Fs (a::r)= .list ds/\DY 0= .int i/\atI ds i=some d/\P d)=P a:=by simp [bQ]
theorem jD{a b:Kb}{r:List Kb}{P:Kb->Prop}:(∃ds i d,Fs (a::b::r)= .list ds/\DY 1= .int i/\atI ds i=some d/\P d)=P b:=by simp [bZ]
theorem jE{a b c:Kb}{r:List Kb}{P:Kb->Prop}:(∃ds i d,Fs (a::b::c::r)= .list ds/\DY 2= .int i/\atI ds i=some d/\P d)=P c:=by simp [cz]
theorem jF{xs:List Kb}{k:Int}{P:Kb->Prop}:(∃ds i d,Em xs= .tuple ds/\DY k= .int i/\atI ds i=some d/\P d)=(∃d,atI xs k=some d/\P d):=Ka
theorem jG{xs:List Kb}{k:Int}{P:Kb->Prop}:(∃ds i d,Fs xs= .list ds/\DY k= .int i/\atI ds i=some d/\P d)=(∃d,atI xs k=some d/\P d):=Ka
end
theorem jH{w v:Str}{r:List Kb}{l:Dl}{Q:Bool->Prop}:bW (bw cB (bw cy (bH 0) (dC (.int 0))) (dC (.str v))) (some (.v (.tuple (.str w::r)))::l) Q=Q (w==v):=by
 simp [bW,bw,cB,cy,fw,dC,bQ,bJ,cI]
theorem jI{v:Str}{x:Option Sl}{l:Dl}{k:Nat}{Q:Bool->Prop}:bW (bw cB (bw cy (bH 0) (dC (.int 0))) (dC (.str v))) (l.set (k+1) x) Q=bW (bw cB (bw cy (bH 0) (dC (.int 0))) (dC (.str v))) l Q:=by
 simp only [bW,bw,bH,dC,El (show k+1≠0 by omega)]
def lz:aA->Kb
 | .inl i=>.int i
 | .inr x=>.str x
def pg(kd:List (aA×Kb))(k:aA):Option Kb:=(kd.find? λp=>decide (p.1=k)).map (·.2)
def ro(kd:List (aA×Kb))(k:aA)(d:Kb):List (aA×Kb):=if (kd.any λp=>decide (p.1=k))=true then kd.map (λp=>if p.1=k then(p.1,d) else p) else kd++[(k,d)]
section
variable {X:Cx} {H0:Hp} {O0:Ex}
abbrev nc:=Dl->(List (aA×Kb)->Prop)->Prop
inductive uK (K:DL) (H0:Hp) (O0:Ex) (t:nc) (σ:St) (H:Hp) (R:VK):Prop
 | mk (O:Ex) (δ:Dl) (Qd:List (aA×Kb)->Prop):Wd K H0 O0 H O σ δ->t δ Qd->(∀kd kv p H',Qd kd->ah H H'->H' p=none->cF K H' O kv kd->R (.ref p) (ai H' p (.dK kv)))->uK K H0 O0 t σ H R
abbrev KE(X:Cx)(H0:Hp)(O0:Ex)(e:Kk)(t:nc):Prop:=PE X e (uK X.K H0 O0 t)
def jJ:nc:=λ_ Q=>Q []
def jK(i:Nat)(t:nc):DS:=λE δ=>t δ λkd=>E.nx (δ.set i (some (.k kd)))
def jL(i:Nat)(tk tv:DT):DS:=λE δ=>tv δ λd=>∃kd,δ[i]?=some (some (.k kd))/\tk δ λy=>∃k,y=lz k/\kd.length < Kl/\E.nx (δ.set i (some (.k (ro kd k d))))
def jM(i:Nat)(tk:DT):DT:=λδ Q=>∃kd,δ[i]?=some (some (.k kd))/\tk δ λy=>∃k d,y=lz k/\pg kd k=some d/\Q d
def jN(i:Nat)(tk:DT):DT:=λδ Q=>∃kd,δ[i]?=some (some (.k kd))/\tk δ λy=>∃k,y=lz k/\Q ((pg kd k).getD .none)
def jO(neg:Bool)(i:Nat)(tk:DT):DT:=λδ Q=>tk δ λy=>∃k,y=lz k/\∃kd,δ[i]?=some (some (.k kd))/\Q (.bool (if neg then !(pg kd k).isSome else(pg kd k).isSome))
open PySem PySem.Spec PyProof.Rows PySem.W PySem.Calls
def jP(i:Nat):DA:=λδ Q=>∃kd,δ[i]?=some (some (.k kd))/\∃ss:List Str,kd.map (·.1)=ss.map Hj/\ss.length < 64/\Q ((cJ ss).map .str)
end
section
theorem jQ{a:List (aA×Kb)}{r:Dl}{P:List (aA×Kb)->Prop}:(∃d,(some (Sl.k a)::r)[0]?=some (some (Sl.k d))/\P d)=P a:=Ka
theorem jR{x:Option Sl}{r:Dl}{i:Nat}{P:List (aA×Kb)->Prop}:(∃d,(x::r)[i+1]?=some (some (Sl.k d))/\P d)=(∃d,r[i]?=some (some (Sl.k d))/\P d):=Ka
theorem jS{a:List (aA×Kb)}{l:Dl}{i:Nat}{P:List (aA×Kb)->Prop}:(∃d,(l.set i (some (Sl.k a)))[i]?=some (some (Sl.k d))/\P d)=(i < l.length/\P a):=by
 apply propext;rw [Ho];constructor
 ·rintro⟨d,e,p⟩;by_cases h:i < l.length
  ·rw [D1 h] at e;cases e;exact⟨h,p⟩
  ·rw [FF J4] at e;cases e
 ·rintro⟨h,p⟩;exact⟨a,by rw [D1 h];rfl,p⟩
theorem jT{x:Option Sl}{l:Dl}{i j:Nat}{P:List (aA×Kb)->Prop}(h:i≠j):(∃d,(l.set i x)[j]?=some (some (Sl.k d))/\P d)=(∃d,l[j]?=some (some (Sl.k d))/\P d):=by rw [El h]
theorem jU{x:Str}{P:aA->Prop}:(∃k,DW x=lz k/\P k)=P (.inr x):=propext ⟨λuu48=>by obtain⟨k,e,p⟩:=uu48;cases k with | inl i=>cases e | inr y=>cases e;exact p,λp=>⟨_,rfl,p⟩⟩
theorem jV{x:Int}{P:aA->Prop}:(∃k,DY x=lz k/\P k)=P (.inl x):=propext ⟨λuu49=>by obtain⟨k,e,p⟩:=uu49;cases k with | inr i=>cases e | inl y=>cases e;exact p,λp=>⟨_,rfl,p⟩⟩
end
def lA:Kb->Bool
 | .none=>true
 | _=>false
def fx:Kb->Kb->(Kb->Prop)->Prop:=λx y Q=>y= .none/\Q (.bool (lA x))
def jW:Kb->Kb->(Kb->Prop)->Prop:=λx y Q=>y= .none/\Q (.bool (!lA x))
theorem Sh.isN{K:DL}{H:Hp}{O:Ex}{x:V}{d:Kb}(h:Sh K H O x d):decide (x= .non)=lA d:=by
 cases h with
 | dt h=>cases h <;> simp [lA]
 | _=>simp [lA]
theorem uL{K:DL}:bC K (λx y H Q=>y= .non/\Q (.bl (decide (x= .non))) H) fx:=λH O x y dx dy Qd R _ hx hy uu50 k=>by
 obtain⟨e,q⟩:=uu50;subst e;refine⟨hy.non,?_⟩;rw [hx.isN];exact k _ _ H q (ah.refl _) (.bl _)
def fy:List Kb->(Kb->Prop)->Prop:=λds Q=>∃i:Int,ds=[.int i]/\Q (.int (if i < 0 then -i else i))
theorem AV{K:DL}:lM K (λxs H Q=>∃i,xs=[.int i]/\Q (.int (if i < 0 then -i else i)) H) fy:=λH O xs ds Qd R _ hs uu51 k=>by
 obtain⟨i,e,q⟩:=uu51;subst e;cases hs with
 | cons h r=>cases r;cases h.int;exact⟨i,rfl,k _ _ H q (ah.refl _) (.int _)⟩
def fz:Kb->Kb->(Kb->Prop)->Prop:=λx y Q=>∃ds i d,x=cb ds/\y= .int i/\atI ds i=some d/\Q d
theorem AW{K:DL}:bC K (qA K) fz:=λH O x y dx dy Qd R _ hx hy uu52 k=>by
 obtain⟨ds,i,d,e1,e2,e3,q⟩:=uu52;subst e1 e2;obtain⟨a,vs,rfl,hs,r⟩:=hx.scr;cases hy.int;obtain⟨v,hv,rv⟩:=r.atI e3;exact⟨a,vs,i,v,rfl,rfl,hs,hv,k d v H q (ah.refl _) rv⟩
section
variable {X:Cx} {H0:Hp} {O0:Ex}
def fA(t:DT)(tl th:DO):DA:=λδ Q=>t δ λd=>tl δ λl=>th δ λu=>∃xs,d=cb xs/\Q (aS xs l u)
theorem AX{e:Kk}{lo hi:Option Kk}{t:DT}{tl th:DO}{pos p2:Pos}(h:DF X H0 O0 e t)(hl:PO X lo (mq X.K H0 O0 tl))(hu:PO X hi (mq X.K H0 O0 th)):FE X H0 O0 (.Subscript e (.Slice lo hi none p2) pos) (fA t tl th):=
 (tN tQ h hl hu).imp λσ H Q uu53=>by obtain⟨O,δ,Qd,w,q,k⟩:=uu53;exact⟨O,δ,_,w,q,λd v H1 q1 s1 r1=>⟨O,δ,_,w.mono s1,q1,λl H2 q2 s2=>⟨O,δ,_,w.mono (s1.trans s2),q2,λu H3 uu54 s3=>by
  obtain⟨xs,e,q3⟩:=uu54;subst e;obtain⟨a,vs,rfl,h1,d1⟩:=(r1.mono (s2.trans s3)).scr;exact⟨a,vs,rfl,h1,λp hp=>k _ _ _ _ q3 (s1.trans (s2.trans s3)) hp (d1.cut l u)⟩⟩⟩⟩
end
theorem rz{X:Cx}:aZ X (K0 .Mult) (λx y H Q=>∃(z:Str)(n:Int),x= .str z/\y= .int n/\MulOk z n/\Q (.str (Txt.mul z n)) H):=by
 intro LL s σ H x y v u Q I rx ry h;obtain⟨z,n,rfl,rfl,hok,q⟩:=h;obtain⟨t,rfl⟩:=rx;obtain⟨t',rfl⟩:=ry;exact SB.mul hok λt' k=>⟨.str _,H,I.tok _,⟨_,rfl⟩,q⟩
def fB:Kb->Kb->(Kb->Prop)->Prop:=λx y Q=>∃(z:Str)(n:Int),x= .str z/\y= .int n/\MulOk z n/\Q (.str (Txt.mul z n))
theorem rA{K:DL}:bC K (λx y H Q=>∃(z:Str)(n:Int),x= .str z/\y= .int n/\MulOk z n/\Q (.str (Txt.mul z n)) H) fB:=λH O x y dx dy Qd R _ hx hy uu55 k=>by
 obtain⟨z,n,e1,e2,c,q⟩:=uu55;subst e1 e2;cases hx.str;cases hy.int;exact⟨z,n,rfl,rfl,c,k _ _ H q (ah.refl _) (.str _)⟩
structure Rw where
 w:Str
 n:Int
 nm:Str
 r:List Kb
abbrev Ls:=List (Str×Rw)
open PySem PySem.Spec PyProof.Rows PySem.W PySem.Calls
theorem AY(t:Ld)(n:Nat):(t.orStandIn n).led=t.led:=by unfold SetTable.orStandIn;split <;> rfl
theorem AZ(t:Ld)(es:Array (Int×Kc))(h:Int)(x:Kc):(layNew t es h x).2.1.led=t.led:=by
 unfold layNew;split
 ·exact AY _ _
 ·rfl
theorem A0(t:Ld)(es:Array (Int×Kc))(n:Nat):(Lm t es n).2.1.led=t.led:=by
 unfold Lm Jt JE;cases Jd (IX n - 1) (es.map (·.1)) with
 | none=>rfl
 | some ow=>simp only [bind,JP,pure];split <;> rfl
theorem A1(t:Ld)(es:Array (Int×Kc))(n:Nat):(Lm t es n).2.1.plain=true->t.plain=true:=by
 unfold Lm Jt JE;cases Jd (IX n - 1) (es.map (·.1)) with
 | none=>intro e;cases e
 | some ow=>
  simp only [bind,JP,pure];split
  ·exact id
  ·intro e;cases e
abbrev cK(w:Kq):Bool:=w.params.followText "set-order"
structure A2 (P:Kp) (w:Kq) (o:Obj) (ss:List Str):Prop where
 ex:o.ExactSet
 da:∃es ep t,o.data= .set es ep t/\ElemsOf (strKind P w) es.toList/\(∃ss',KH (es.toList.map (·.2)) ss'/\ss'.Perm ss)/\es.size < K4/\t.fits es.size=true/\(cK w=true\/t.led=true)/\(es.size≠0->t.plain=false)
def bK(P:Kp)(w:Kq)(h:Km)(a:Ke)(ss:List Str):Prop:=∃o,h.get? a=some o/\A2 P w o ss
theorem uM{k:Str}:∀{vs:List Kc}{ss:List Str},KH vs ss->((∃v∈vs,v.isStrOf k=true)↔k∈ss)
 | _,_,.nil=>by simp
 | _,_,.cons x t r=>by
  have ih:=uM (k:=k) r;constructor
  ·rintro⟨v,hv,e⟩;rcases D3.mp hv with z | z
   ·subst z;obtain⟨u,e'⟩:=IG e;cases e';exact Ft
   ·exact Ep _ (ih.mp ⟨v,z,e⟩)
  ·intro hk;rcases D3.mp hk with z | z
   ·subst z;exact⟨_,Ft,by simp [JC]⟩
   ·obtain⟨v,hv,e⟩:=ih.mpr z;exact⟨v,Ep _ hv,e⟩
theorem ph{vs vs':List Kc}(p:vs'.Perm vs):∀{ss:List Str},KH vs ss->∃ss',KH vs' ss'/\ss'.Perm ss:=by
 induction p with
 | nil=>intro ss h;exact⟨ss,h,.refl _⟩
 | cons x p ih=>
  intro ss h;cases h with
  | cons y t r=>obtain⟨s1,a,b⟩:=ih r;exact⟨y::s1,.cons y t a,b.cons y⟩
 | swap x y l=>
  intro ss h;cases h with
  | cons a t r=>cases r with | cons b u r=>exact⟨b::a::_,.cons b u (.cons a t r),.swap _ _ _⟩
 | trans p q ih1 ih2=>
  intro ss h;obtain⟨s1,a,b⟩:=ih2 h;obtain⟨s2,c,d⟩:=ih1 a;exact⟨s2,c,d.trans b⟩
theorem uN{x:Str}{t:Tok}:∀{vs:List Kc}{ss:List Str},KH vs ss->KH (vs++[.str x t]) (ss++[x])
 | _,_,.nil=>.cons x t .nil
 | _,_,.cons y u r=>.cons y u (uN r)
theorem n6:∀{vs:List Kc}{ss:List Str},KH vs ss->vs.length=ss.length
 | _,_,.nil=>rfl
 | _,_,.cons y u r=>by simp [n6 r]
def bL(ss:List Str)(x:Str):List Str:=if x∈ss then ss else ss++[x]
section
variable {P:Kp} {w:Kq} {A:Kr} {E:Kc->Kf->Prop} {s:Kf}
theorem bK.mk{h:Km}{a:Ke}{o:Obj}{es es':Array (Int×Kc)}{ep:Nat}{t t':Ld}{ss:List Str}(o1:h.get? a=some o)(x1:o.ExactSet)(d1:o.data= .set es ep t)
 (el:ElemsOf (strKind P w) es'.toList)(sp:∃ss',KH (es'.toList.map (·.2)) ss'/\ss'.Perm ss)(b1:es'.size < K4)(f1:t'.fits es'.size=true)(l1:cK w=true\/t'.led=true)(p1:es'.size≠0->t'.plain=false):
 (h.update a (HW es' t')).get? a=some {o with data:= .set es' (ep+1) t'}/\bK P w (h.update a (HW es' t')) a ss:=by
 have g:(h.update a (HW es' t')).get? a=some {o with data:= .set es' (ep+1) t'}:=by
  have z:=FG (HW es' t') o1 (by rw [putSet_of es' t' d1];rfl);rw [putSet_of es' t' d1] at z;exact z
 exact⟨g,_,g,x1,es',ep+1,t',rfl,el,sp,b1,f1,l1,p1⟩
theorem uO{g:Bool->Sem Unit}(hg:∀(b:Bool) (s₁:Kf) (Q':Unit->Kf->Prop),Q' () s₁->Kh (Ki P w) A (g b) Q' E s₁)
 {a:Ke}{o:Obj}{es:Array (Int×Kc)}{ep:Nat}{t:Ld}(o1:s.heap.get? a=some o)(x1:o.ExactSet)(d1:o.data= .set es ep t)
 {es1:Array (Int×Kc)}{t2:Ld}{ss:List Str}(el:ElemsOf (strKind P w) es1.toList)(sp:∃ss',KH (es1.toList.map (·.2)) ss'/\ss'.Perm ss)
 (b1:es1.size < K4)(f2:t2.fits es1.size=true)(l2:cK w=true\/t2.led=true)(p2:t2.plain=false){wd:Bool}{R:Option Bool->Kf->Prop}
 (h:∀h',GI a s.heap h'->bK P w h' a ss->R (some true) {s with heap:=h'}):
 Kh (Ki P w) A (do
  storeSet a es1 t2
  if (!wd && t2.tooFull)=true then do
   g (Lm t2 es1 (Gj es1.size)).2.2
   storeSet a (Lm t2 es1 (Gj es1.size)).1 (Lm t2 es1 (Gj es1.size)).2.1
   pure (some true)
   else pure (some true)) R E s:=by
 refine Kd (wpAny_storeSet_of o1 d1 ?_ (fits_of_scanBound b1));obtain⟨o2,S2⟩:=bK.mk (P:=P) o1 x1 d1 el sp b1 f2 l2 (λ_=>p2);have sb:=EB s.heap a (HW es1 t2);split
 ·have rp:=relayAll_perm t2 es1 (Gj es1.size);have rf:=relayAll_fits t2 es1 (Gj es1.size);have rl:=A0 t2 es1 (Gj es1.size);have rq:=A1 t2 es1 (Gj es1.size);generalize Lm t2 es1 (Gj es1.size)=Z at rp rf rl rq⊢;obtain⟨es2,t3,gv⟩:=Z;dsimp only at rp rf rl rq⊢;have sz:es2.size=es1.size:=by rw [<-D2,rp.length_eq,D2]
  obtain⟨ss',q1,q2⟩:=sp;obtain⟨ss2,q3,q4⟩:=ph (rp.map (·.2)) q1;refine Kd (hg _ _ _ (Kd (wpAny_storeSet_of o2 rfl ?_ (fits_of_scanBound (by rw [sz];exact b1)))));obtain⟨_,S3⟩:=bK.mk (P:=P) (w:=w) (t':=t3) o2 x1 rfl (el.perm rp) ⟨ss2,q3,q4.trans q2⟩ (by rw [sz];exact b1) rf (by rw [rl];exact l2) (λ_=>by
   cases hb:t3.plain with
   | false=>rfl
   | true=>rw [rq hb] at p2;cases p2)
  exact Kg (h _ (sb.trans (EB _ a _)) S3)
 ·exact Kg (h _ sb S2)
theorem A3{a:Ke}{ss:List Str}{x:Str}{tk:Tok}{Q:Bool->Kf->Prop}(hS:bK P w s.heap a ss)(hroom:ss.length+1 < K4)
 (h:∀h' b,GI a s.heap h'->bK P w h' a (bL ss x)->Q b {s with heap:=h'}):
 Kh (Ki P w) A (setAddHashed a (.str x tk) (hashStr w x)) Q E s:=by
 obtain⟨o,o1,x1,es,ep,t,d1,el,⟨ss',s1,s2⟩,b1,f1,l1,p1⟩:=hS;have hk:(strKind P w).is x (.str x tk)=true:=strKind_is _ _ _ _;have hsc:(Gf x tk).scannable=true:=rfl;have ln:es.size=ss.length:=by rw [<-s2.length_eq,<-n6 s1,DP,D2]
 unfold setAddHashed setAddHashedIn;refine KN (Kd (KZ o1 d1 f1 ?_));dsimp only;rw [byScan_of hsc b1 el,J6 rfl];unfold setAddByScan;refine Kd (Kd (wpAny_rule (Kd (wpAny_setScan_of hk o1 d1 f1 el ?_))));have mem:(∃e∈es.toList,(strKind P w).is x e.2=true)↔x∈ss:=by
  rw [<-s2.mem_iff,<-uM s1];constructor
  ·rintro⟨e,he,q⟩;exact⟨e.2,Es.mpr ⟨e,he,rfl⟩,q⟩
  ·rintro⟨v,hv,q⟩;obtain⟨e,he,rfl⟩:=Es.mp hv;exact⟨e,he,q⟩
 cases hr:List.findIdx? (λe=>(strKind P w).is x e.2) es.toList with
 | some j=>
  obtain⟨hj,hp,_⟩:=List.findIdx?_eq_some_iff_getElem.mp hr;have hx:x∈ss:=mem.mp ⟨_,FH hj,hp⟩;refine Kg (Kg ?_);have z:=h s.heap false (GI.refl a s.heap) (by unfold bL;rw [J6 hx];exact⟨o,o1,x1,es,ep,t,d1,el,⟨ss',s1,s2⟩,b1,f1,l1,p1⟩);have e:s={s with heap:=s.heap}:=by cases s;rfl
  rw [e];exact z
 | none=>
  dsimp only;have hx:x ∉ ss:=λz=>by
   obtain⟨e,he,q⟩:=mem.mpr z;have:=List.findIdx?_eq_none_iff.mp hr e he;rw [q] at this;cases this
  have eS:bL ss x=ss++[x]:=J5 hx;rw [eS] at h;have lp:=layNew_perm t es (hashStr w x) (.str x tk);have lf:=layNew_fits t es (hashStr w x) (.str x tk);have ll:=AZ t es (hashStr w x) (.str x tk);generalize layNew t es (hashStr w x) (.str x tk)=L at lp lf ll⊢;obtain⟨es1,t1,wd,gv⟩:=L;dsimp only at lp lf ll⊢;rw [Je] at lp;have el1:ElemsOf (strKind P w) es1.toList:=(el.push hk hsc).perm lp;have sp1:∃ss',KH (es1.toList.map (·.2)) ss'/\ss'.Perm (ss++[x]):=by
   have s3:KH ((es.toList++[(hashStr w x,Gf x tk)]).map (·.2)) (ss'++[x]):=by
    rw [E3];exact uN s1
   obtain⟨s4,q1,q2⟩:=ph (lp.map (·.2)) s3;exact⟨s4,q1,q2.trans (s2.append_right _)⟩
  have n1:es1.size=es.size+1:=by rw [<-D2,lp.length_eq];simp
  have b2:es1.size < K4:=J4
  have l2:cK w=true\/t1.led=true:=by rw [ll];exact l1
  have gw:∀(b:Bool)(s₁:Kf)(Q':Unit->Kf->Prop),Q' () s₁->Kh (Ki P w) A (match b with | true=>rule "set.scan.the-table-gave-way" | false=>pure ()) Q' E s₁:=
   λb s₁ Q' z=>by cases b <;> first | exact Kg z | exact wpAny_rule z
  refine Kd (gw _ _ _ ?_);split
  ·refine Kd ?_;rw [hashByValue_scannable 8 hsc];refine Kg ?_;refine uO gw o1 x1 d1 el1 sp1 b2 (SetTable.fits_plain_off lf) l2 rfl λh' sb S'=>Kg (h h' true sb S')
  ·rename_i hp;refine Kd (Kg ?_);rw [J6 rfl];exact uO gw o1 x1 d1 el1 sp1 b2 lf l2 (by simpa using hp) λh' sb S'=>Kg (h h' true sb S')
end
def lB(val:Nat->Str)(i:Nat):List Str:=((EZ i).map val).foldl bL []
theorem uP(val:Nat->Str)(i:Nat):lB val (i+1)=bL (lB val i) (val i):=by
 unfold lB;rw [Ju,E3,List.foldl_append];rfl
theorem uQ(val:Nat->Str):∀i,(lB val i).length<=i
 | 0=>DU _
 | i+1=>by
  have ih:=uQ val i;rw [uP];unfold bL;split
  ·omega
  ·simp;omega
theorem A4{ss:List Str}{x y:Str}:y∈bL ss x↔y∈ss\/y=x:=by
 unfold bL;split
 ·rename_i hx;exact⟨.inl,λz=>z.elim id λe=>by subst e;exact hx⟩
 ·simp
theorem uR{y:Str}:∀{l ss:List Str},y∈l.foldl bL ss↔y∈ss\/y∈l
 | [],ss=>by simp
 | a::l,ss=>by rw [F9,uR,A4,D3];exact or_assoc
theorem bK.stay{P:Kp}{w:Kq}{h h':Km}{a:Ke}{ss:List Str}(x:bK P w h a ss)(k:∀o,h.get? a=some o->h'.get? a=some o):bK P w h' a ss:=
 let ⟨o,e,r⟩:=x;⟨o,k o e,r⟩
section
variable {P:Kp} {w:Kq} {A:Kr} {R:Result->Kf->Prop} {I:Ke} {fp wr:List Ke} {G:Array LJ->Array LJ->Prop} {n:Nat} {Pv:Nat->Kc->Prop} {St:Nat->Kf->Prop}
theorem A5(W:WalksS P w A.in1 I fp wr G n Pv St)(S:Ke)(hSf:S ∉ fp)(val:Nat->Str)(hval:∀i v,Pv i v->∃t,v= .str (val i) t)(hb:n+1 < K4):
 ∀(k i:Nat)(s:Kf),n - i=k->i<=n->St i s->bK P w s.heap S (lB val i)->
  (∀s',Moved (S::wr) G s s'->bK P w s'.heap S (lB val n)->R (.ok (.ret .none)) s')->K3 (Ki P w) A (.builtin "set.update.loop" ⟨[.ref S,.ref I],[]⟩) R s:=by
 have sw:S ∉ wr:=λz=>hSf (W.sub _ z);have sub:∀b∈wr,b∈S::wr:=λb z=>Ep _ z;intro k
 induction k with
 | zero=>
  intro i s e1 e2 st hS q;obtain rfl:i=n:=J4
  refine KU Hh ?_;rw [GF Gr _];show Kh _ A.in1 (K7 (.ref I) >>=_) _ _ s;exact Kd (W.done s _ _ st λs' m=>Kg (q s' (m.mono sub) (hS.stay λo e=>m.heap S o sw e)))
 | succ k ih=>
  intro i s e1 e2 st hS q;have lt:i < n:=J4
  refine KU Hh ?_;rw [GF Gr _];show Kh _ A.in1 (K7 (.ref I) >>=_) _ _ s;refine Kd (W.item i s _ _ lt st λv s' hP st' m=>?_);obtain⟨t,rfl⟩:=hval i v hP;have hS':=hS.stay (h':=s'.heap) λo e=>m.heap S o sw e;show Kh _ A.in1 (holding [Gf (val i) t] (setAdd S (.str (val i) t)) >>=_) _ _ s';refine Kd (KN ?_);unfold setAdd;refine KN (Kd ((strKind P w).pyHash (k:=val i) (strKind_is _ _ _ _) ?_));have rm:(lB val i).length+1 < K4:=by have:=uQ val i;omega
  refine A3 (s:={s' with toks:=s'.toks+1}) hS' rm λh' b sb S2=>?_;rw [<-uP] at S2;refine Kg ⟨Lj Gr _,ih (i+1) _ J4 lt (W.frame _ s' _ _ st' (Hs _) λb hb o e=>?_) S2 λs2 m2 S3=>?_⟩
  ·rw [sb.2 b (λz:b=S=>hSf (by rw [<-z];exact hb))];exact e
  ·refine q s2 (Moved.trans W.gtrans ((m.mono sub).then_heap (Hs _) λb o hb e=>?_) m2) S3;rw [sb.2 b (λz:b=S=>hb (by rw [z];exact Ft))];exact e
end
section
variable {P:Kp} {w:Kq} {A:Kr} {E:Kc->Kf->Prop} {s:Kf}
theorem A6(a:Kc){Q₁:Kc->Kf->Prop}
 (h:Q₁ (.ref s.heap.objs.size) {s with heap:=s.heap.push {cls:= .type "set",dict:=none,data:= .set #[] 0 (.fresh 0 0 (!cK w))}}):
 K3 (Ki P w) A (.call (.builtin "set.__new__") ⟨[.type "set",a],[]⟩) (wants Q₁ E) s:=by
 refine codeAny_of_tree ?_;show Kh _ A.in1 (LG "set.__new__" ⟨[.type "set",a],[]⟩ >>=λ_=>again (.builtin "set.__new__" ⟨[.type "set",a],[]⟩)) _ _ s;refine Kd (Lx (PySem.F.newCall_set_1 a) (Kg ⟨Lj Iu _,KU PySem.F.entry_set_new ?_⟩));rw [GF Iu _];unfold Builtin.«set.__new__» Builtin.Frozenset.newClass;have hsb:=sub_set_self;obtain⟨hp,g,d,tk,os⟩:=s;dsimp only
 wp_walk
 refine K1 (Kg ?_);dsimp only;simp only [newObj];exact Kd (wpAny_alloc (Kg (Kg h)))
theorem bK.fresh{h:Km}{a:Ke}(e:h.get? a=some {cls:= .type "set",dict:=none,data:= .set #[] 0 (.fresh 0 0 (!cK w))}):bK P w h a []:=by
 refine⟨_,e,⟨rfl,rfl,rfl⟩,#[],0,_,rfl,λe he=>by simp at he,⟨[],.nil,.refl _⟩,J3,rfl,?_,λz=>absurd rfl z⟩;cases hb:cK w with
 | true=>exact .inl rfl
 | false=>exact .inr rfl
theorem A7{l:Ke}{items:Array Kc}{ss:List Str}{Q:Kc->Kf->Prop}
 (hh:A.handled=none)(hl:s.heap.IsList l items)(hi:KH items.toList ss)(hb:items.size+1 < K4)
 (h:∀(h':Km) (tk:Nat),bK P w h' s.heap.objs.size (ss.foldl bL [])->(∀b o,s.heap.get? b=some o->h'.get? b=some o)->Q (.ref s.heap.objs.size) {s with heap:=h',toks:=tk}):
 Kh (Ki P w) A (call (.type "set") [.ref l]) Q E s:=by
 obtain⟨c,tl,hmro⟩:=PySem.F.called_set.mro;have hmade:=PySem.F.called_set.made;have hsub:=PySem.F.called_set.sub;refine wpAny_call (codeAny_of_tree ?_);show Kh _ _ (callAny (.type "set") _) _ _ _;refine Kg ⟨IU _ td,KU PySem.F.entry_type_call ?_⟩;rw [Around.under_plain (weight_type_call_type "set" [.ref l] []) rfl];have h1:=PySem.F.called_set.notType;have h2:=PySem.F.called_set.canCreate;have hct:=PySem.F.typeCall_set_1 (.ref l)
 repeat (any_goals (first | assumption | wp_step))
 generalize hob:({cls:= .type "set",dict:=none,data:= .set #[] 0 (.fresh 0 0 (!cK w))}:Obj)=ob;refine KR (A6 (P:=P) (w:=w) (.ref l) (E:=E) (Q₁:=λu s₁=>u= .ref s.heap.objs.size/\s₁={s with heap:=s.heap.push ob}) (by subst hob;exact⟨rfl,rfl⟩)) λr s₁ hr=>?_;cases r with
 | error e=>exact hr
 | ok fl=>
  cases fl with
  | ret u=>
   obtain⟨rfl,rfl⟩:=hr;have hS:(s.heap.push ob).get? s.heap.objs.size=some ob:=D5 _ (by subst hob;rfl);have hT:Shared.TypeIs {s with heap:=s.heap.push ob} (.ref s.heap.objs.size) "set":=⟨_,hS,by subst hob;rfl⟩;have hli:=PySem.F.called_set.init.lookup;have hbi:=PySem.F.called_set.init.bind (.ref s.heap.objs.size)
   repeat (any_goals (first | assumption | wp_step))
   refine KR (Lu (R:=wants (λr s₂=>r= .none/\∃h' tk,s₂={s with heap:=h',toks:=tk}/\bK P w h' s.heap.objs.size (ss.foldl bL [])/\∀b o,s.heap.get? b=some o->h'.get? b=some o) E)
    PySem.F.called_set.init.plain PySem.F.entry_set_init (check_set_init_1 hT ?_)) λr₂ s₂ hr₂=>?_
   ·obtain⟨ol,o1,c1,nl,d1⟩:=hl;obtain⟨oc,od,oda,osl⟩:=ol;simp only at c1 d1;subst c1;subst d1;have o2:(s.heap.push ob).get? l=some {cls:= .type "list",dict:=od,data:= .seq items nl,slots:=osl}:=DN _ o1;have q1:=PySem.F.sub_list_set;have q2:=PySem.F.sub_list_frozenset;have q3:(G4 "list"==G4 "dict")=false:=J3
    have l1:(s.heap.push ob).IsList l items:=⟨_,o2,rfl,nl,rfl⟩;subst hob;unfold Builtin.«set.__init__» noKeywords Builtin.Frozenset.updateFrom;generalize hPI:pyIter=PI
    wp_walk
    subst hPI;refine LB l1 ?_;refine Kd (wpAny_runValue ?_);have ll:l < s.heap.objs.size:=DV o1;have sz:∀ob:Obj,(s.heap.push ob).objs.size=s.heap.objs.size+1:=λ_=>Hk _ _;have n1:∀ob:Obj,l≠(s.heap.push ob).objs.size:=λ_=>by rw [sz];exact Ec (Fi ll)
    have n2:∀ob:Obj,s.heap.objs.size ∉ [(s.heap.push ob).objs.size,l]:=λ_=>by
     rw [sz];simp only [D3,EU,or_false,not_or];exact⟨Ec (Gh _),GJ ll⟩
    have hv:∀(i:Nat)(v:Kc),items[i]?=some v->∃t,v= .str ((λi=>(ss[i]?).getD (DM "")) i) t:=λi v e=>by
     rw [<-Iw] at e;have:∀{vs:List Kc}{ss:List Str},KH vs ss->∀(i:Nat)(v:Kc),vs[i]?=some v->∃t,v= .str ((ss[i]?).getD (DM "")) t:=by
      intro vs ss x
      induction x with
      | nil=>intro i v e;simp at e
      | cons y t r ih=>
       intro i v e;cases i with
       | zero=>simp at e;exact⟨t,by rw [<-e];rfl⟩
       | succ i=>simp only [Eg] at e⊢;exact ih i v e
     exact this hi i v e
    have hm:lB (λi=>(ss[i]?).getD (DM "")) items.size=ss.foldl bL []:=by
     have e:items.size=ss.length:=by rw [<-n6 hi,D2]
     unfold lB;rw [e];congr 1;apply GL Ka;intro i a b;simp at a b⊢;rw [D1 J4];rfl
    refine A5 (JV (show A.in1.in1.in1.handled=none by simp [hh]) _ l (n1 _) items).toS s.heap.objs.size (n2 _) _ hv hb (items.size - 0) 0 _ J4 (E1 _)
     ⟨⟨_,D5 _ rfl,rfl,rfl⟩,l1.push _⟩ ?hS0 ?hR
    case hS0=>
     exact bK.fresh (DN _ hS)
    case hR=>
     intro s' m S';rw [hm] at S';obtain⟨h',g',d',tk',os'⟩:=s';obtain rfl:g'=s.gens:=m.gens;obtain rfl:d'=s.drawn:=m.drawn;obtain rfl:os'=s.os:=m.os;show Kh _ _ _ _ _ _;refine Kg (Kg ⟨rfl,h',tk',rfl,S',λb o e=>?_⟩);have hb1:b < s.heap.objs.size:=DV e;refine m.heap b o ?_ (DN _ (DN _ e));rw [sz];simp only [D3,EU,or_false,not_or];exact⟨Ec hb1,Ec (Fi hb1)⟩
   ·cases r₂ with
    | error e=>exact hr₂
    | ok fl₂=>
     cases fl₂ with
     | ret r=>
      obtain⟨rfl,h',tk,rfl,S',k'⟩:=hr₂
      repeat (any_goals (first | assumption | wp_step))
      exact h _ _ S' k'
     | _=>exact hr₂.elim
  | _=>exact hr.elim
end
theorem jX:Slot "set_iterator" "__next__" "set_iterator.__next__":=
 .of (owner:="set_iterator") (n:="__next__") (by rw [typeLookup_type,builtinLookup_eq_fast];kernel_rfl) td td td
  (by first | exact .inl td | exact .inr td) (by rw [isSubtype_type];kernel_rfl)
theorem pj:entryFor table "set_iterator.__next__"=some Builtin.«set_iterator.__next__»:=entryFor_of_tree (by kernel_rfl)
theorem uS:Manifest.owners.lookup (String.ofList ['r','o','t','a','r','e','t','i','_','t','e','s'].reverse)=some Manifest.sig_set_iterator:=by kernel_rfl
theorem pq(a:Kc):argsOk "set_iterator.__next__" ⟨[a],[]⟩:=by
 unfold argsOk;rw [signature?_of (id:="set_iterator.__next__") (n:=['_','_','t','x','e','n','_','_']) (o:=['r','o','t','a','r','e','t','i','_','t','e','s']) (by kernel_rfl) uS];kernel_rfl
theorem A8:entryFor table "set.__iter__"=some Builtin.«frozenset.__iter__»:=entryFor_alias (id':="frozenset.__iter__") (by kernel_rfl) rfl td (by kernel_rfl)
theorem rB{α:Type}:∀{l:List α}{i:Nat}(h:i < l.length),(l[i]::l.eraseIdx i).Perm l
 | a::l,0,h=>.refl _
 | a::l,i+1,h=>by
  have:=rB (l:=l) (i:=i) (by simpa using h);simp only [List.getElem_cons_succ,List.eraseIdx_cons_succ];exact(List.Perm.swap _ _ _).trans (this.cons a)
theorem uT{α:Type}(next:Nat->Nat):∀(f k:Nat)(left:List α)(out:Array α),f=left.length->(pickOrder.go next f k left out).toList.Perm (out.toList++left)
 | 0,k,left,out,e=>by
  rw [HD e.symm];unfold pickOrder.go;simp
 | f+1,k,left,out,e=>by
  unfold pickOrder.go;have hlt:next k % left.length < left.length:=Nat.mod_lt _ J4;rw [D1 hlt];refine(uT next f (k+1) _ _ (by rw [HN hlt];omega)).trans ?_;rw [Je,Jf];exact List.Perm.append_left _ (rB hlt)
theorem A9{α:Type}(next:Nat->Nat)(xs:Array α):(Lz next xs).toList.Perm xs.toList:=by
 have:=uT next xs.size 0 xs.toList #[] Ka;simpa [Lz] using this
section
variable {P:Kp} {w:Kq} {A:Kr} {E:Kc->Kf->Prop}
theorem uU{α:Type}:∀(n:Nat)(xs:List α)(s:Kf)(Q:List α->Kf->Prop),n=xs.length->(∀ys d,ys.Perm xs->Q ys {s with drawn:=d})->Kh (Ki P w) A (drawOrder n xs) Q E s
 | 0,xs,s,Q,e,q=>by
  rw [HD e.symm] at q⊢;unfold drawOrder;exact Kg (q [] s.drawn (.refl _))
 | n+1,[],s,Q,e,q=>by cases e
 | n+1,x::xs,s,Q,e,q=>by
  unfold drawOrder;refine Kd ?_;intro Γ p hΓ;refine⟨Ka,?_⟩;generalize hi:(Ki P w).w.draws .order (s.drawn.get .order)% (x::xs).length=i;have hlt:i < (x::xs).length:=by rw [<-hi];exact Nat.mod_lt _ Ka
  have key:Kh (Ki P w) A (match (x::xs)[i]? with | some y=>(do return y::(<-drawOrder n ((x::xs).eraseIdx i))) | none=>unsupported "internal:drawOrder") Q E {s with drawn:=s.drawn.bump .order}:=by
   rw [D1 hlt];refine Kd (uU n _ _ _ (by rw [HN hlt];simp at e⊢;omega) λys d hp=>Kg (q _ d ?_));exact(hp.cons _).trans (rB hlt)
  exact key
end
def cL(h:Km)(it:Ke)(f:Kc)(i:Nat)(a:Ke)(n ep:Nat):Prop:=∃o,h.get? it=some o/\o.cls= .type "set_iterator"/\o.data= .fields #[f,.int i 0,.ref a,.int n 0,.int ep 0]
theorem cL.typeIs{s:Kf}{it f i a n ep}(x:cL s.heap it f i a n ep):s.TypeIs (.ref it) "set_iterator":=let ⟨o,h,c,_⟩:=x;⟨o,h,c⟩
section
variable {P:Kp} {w:Kq} {A:Kr} {E:Kc->Kf->Prop} {s:Kf} {a:Ke} {o:Obj} {es:Array (Int×Kc)} {ep:Nat} {t:Ld}
theorem uV{slot i:Nat}{Q:Option (Kc×Nat)->Kf->Prop}(hb:cK w=true)(o1:s.heap.get? a=some o)(d1:o.data= .set es ep t)(f1:t.fits es.size=true)
 (h:Q (((Lz (w.params.setOrder a ep) es)[i]?).map λe=>(e.2,slot)) s):Kh (Ki P w) A (Lh a slot i ep) Q E s:=by
 unfold Lh setWalk setsByText;refine Kd (KZ o1 d1 f1 (Kd (Kd (K1 (Kg ?_)))));rw [J6 (show(Ki P w).w.params.followText "set-order"=true from hb)];rw [J5 Ka];refine Kd (Kd (KZ o1 d1 f1 (Kd (Kd (K1 (Kg ?_))))));rw [J6 (show(Ki P w).w.params.followText "set-order"=true from hb)];exact Kd (K1 (Kg (Kg h)))
theorem uW{slot i:Nat}{Q:Option (Kc×Nat)->Kf->Prop}(hb:cK w=false)(o1:s.heap.get? a=some o)(d1:o.data= .set es ep t)(f1:t.fits es.size=true)(hd:es.size<=1)(hl:t.led=true)
 (h:Q (match es[Hm t.place slot]?,t.place[Hm t.place slot]? with | some (_,x),some j=>some (x,j+1) | _,_=>none) s):Kh (Ki P w) A (Lh a slot i ep) Q E s:=by
 unfold Lh setsByText;refine Kd (KZ o1 d1 f1 (Kd (Kd (K1 (Kg ?_)))));rw [J5 (show ¬(Ki P w).w.params.followText "set-order"=true from by show ¬cK w=true;rw [hb];decide)];show Kh _ _ (if (!t.plain && decide (es.size > 1))=true then _ else _) _ _ _;rw [J5 (by simp;omega)];refine Kd (m:=if (!t.led && !es.isEmpty)=true then unsupported "set:maker-not-led" else pure ()) ?_;rw [J5 (by simp [hl])];exact Kg (Kg h)
theorem Ba{it:Ke}{slot slot' i:Nat}{x:Kc}{Q:Option Kc->Kf->Prop}(hit:cL s.heap it (.int slot 0) i a es.size ep)(o1:s.heap.get? a=some o)(d1:o.data= .set es ep t)(f1:t.fits es.size=true)
 (nx:∀E' Q',Q' (some (x,slot')) s->Kh (Ki P w) A.in1 (Lh a slot i ep) Q' E' s)
 (hQ:∀h',cL h' it (.int slot' 0) (i+1) a es.size ep->GI it s.heap h'->Q (some x) {s with heap:=h'}):Kh (Ki P w) A (K7 (.ref it)) Q E s:=by
 obtain⟨u,u1,c1,e1⟩:=id hit;unfold K7;refine Kd (Lk (KQ (name:=DM "__next__") hit.typeIs jX (KG jX hit.typeIs pj ?_ (pq _))));unfold Builtin.«set_iterator.__next__»;refine Kd (m:=slotArgs _ _ _) (Kg (Kd (Lv u1 e1 ?_)));show Kh _ _ (setEntries a >>=_) _ _ s;refine Kd (K2 o1 d1 f1 ?_);rw [J5 Ka];show Kh _ _ (Lh a ((slot:Int)).toNat ((i:Int)).toNat ((ep:Int)).toNat >>=_) _ _ s;simp only [FW];refine Kd (nx _ _ ?_);show Kh _ _ (setField (.ref it) 0 (KY (slot':Int)) >>=_) _ _ s;refine Kd (K6 u1 e1 Ka ?_);have g1:=FG (JF (·.setIfInBounds 0 (KY (slot':Int)))) u1 (GY (FI e1 _));have k1:=FI e1 (·.setIfInBounds 0 (KY (slot':Int)));refine Kd (K6 g1 k1 Ka (Kg ⟨x,rfl,Kg (hQ _ ?_ ((EB ..).trans (EB ..)))⟩));refine⟨_,FG _ g1 (GY (FI k1 _)),(HU ..).trans ((HU ..).trans c1),?_⟩;rw [FI k1];simp [KY]
theorem Bb{it pl:Ke}{i k:Nat}{hk:Int}{x:Kc}{ol:Obj}{ps:Array Kc}{nl:Nat}{Q:Option Kc->Kf->Prop}(hit:cL s.heap it (.ref pl) i a es.size ep)(o1:s.heap.get? a=some o)(d1:o.data= .set es ep t)(f1:t.fits es.size=true)
 (l1:s.heap.get? pl=some ol)(l2:ol.data= .seq ps nl)(p1:ps[i]?=some (.int (k:Int) 0))(x1:es[k]?=some (hk,x))
 (hQ:∀h',cL h' it (.ref pl) (i+1) a es.size ep->GI it s.heap h'->Q (some x) {s with heap:=h'}):Kh (Ki P w) A (K7 (.ref it)) Q E s:=by
 obtain⟨u,u1,c1,e1⟩:=id hit;unfold K7;refine Kd (Lk (KQ (name:=DM "__next__") hit.typeIs jX (KG jX hit.typeIs pj ?_ (pq _))));unfold Builtin.«set_iterator.__next__»;refine Kd (m:=slotArgs _ _ _) (Kg (Kd (Lv u1 e1 ?_)));show Kh _ _ (setEntries a >>=_) _ _ s;refine Kd (K2 o1 d1 f1 ?_);rw [J5 Ka];show Kh _ _ (seqItems? (.ref pl) >>=_) _ _ s;refine Kd (wpAny_seqItems l1 l2 ?_);simp only [FW,p1];refine Kd ?_;unfold setNextDrawn;refine Kd (KZ o1 d1 f1 ?_);simp only [FW];rw [J5 Ka,x1];refine Kg (Kd (K6 u1 e1 Ka (Kg ⟨x,rfl,Kg (hQ _ ?_ (EB ..))⟩)));refine⟨_,FG _ u1 (GY (FI e1 _)),(HU ..).trans c1,?_⟩;rw [FI e1];simp [KY]
theorem Bc{it:Ke}{slot i:Nat}{Q:Option Kc->Kf->Prop}(hh:A.handled=none)(hit:cL s.heap it (.int slot 0) i a es.size ep)(o1:s.heap.get? a=some o)(d1:o.data= .set es ep t)(f1:t.fits es.size=true)
 (nx:∀E' Q',Q' none s->Kh (Ki P w) A.in1 (Lh a slot i ep) Q' E' s)
 (hQ:∀h',JQ it s.heap h'->Q none {s with heap:=h'}):Kh (Ki P w) A (K7 (.ref it)) Q E s:=by
 obtain⟨u,u1,c1,e1⟩:=id hit;unfold K7;refine Kd (Lk (KQ (name:=DM "__next__") hit.typeIs jX (KG jX hit.typeIs pj ?_ (pq _))));unfold Builtin.«set_iterator.__next__»;refine Kd (m:=slotArgs _ _ _) (Kg (Kd (Lv u1 e1 ?_)));show Kh _ _ (setEntries a >>=_) _ _ s;refine Kd (K2 o1 d1 f1 ?_);rw [J5 Ka];show Kh _ _ (Lh a ((slot:Int)).toNat ((i:Int)).toNat ((ep:Int)).toNat >>=_) _ _ s;simp only [FW];refine Kd (nx _ _ ?_);show Kh _ _ (setField (.ref it) 2 .none >>=_) _ _ s;refine Kd (K6 u1 e1 Ka ?_);refine Kd (m:=newExc (.type "StopIteration") []) ?_;simp only [newExc,newTuple];refine Kd (Kx ?_ (by size_fits));refine Kd (m:=Lw _ _) (Lx (a:=Gm) (by first | rfl | (simp only [Lw];rfl)) ?_);refine Kx ?_ (by size_fits);simp only [raiseNew];refine Kd (wpAny_handled ?_);rw [show A.in1.handled=none from hh];refine Kd (Kg (wpAny_throw ?_));refine Kd (LH (T:="StopIteration") (b:=true) ⟨_,D5 _ rfl,rfl⟩ isSubtype_stop ?_);exact Kg (hQ _ (((EB ..).extBut.push _).push _))
theorem Bd{it pl:Ke}{i:Nat}{ol:Obj}{ps:Array Kc}{nl:Nat}{Q:Option Kc->Kf->Prop}(hh:A.handled=none)(hit:cL s.heap it (.ref pl) i a es.size ep)(o1:s.heap.get? a=some o)(d1:o.data= .set es ep t)(f1:t.fits es.size=true)
 (l1:s.heap.get? pl=some ol)(l2:ol.data= .seq ps nl)(p1:ps[i]?=none)
 (hQ:∀h',JQ it s.heap h'->Q none {s with heap:=h'}):Kh (Ki P w) A (K7 (.ref it)) Q E s:=by
 obtain⟨u,u1,c1,e1⟩:=id hit;unfold K7;refine Kd (Lk (KQ (name:=DM "__next__") hit.typeIs jX (KG jX hit.typeIs pj ?_ (pq _))));unfold Builtin.«set_iterator.__next__»;refine Kd (m:=slotArgs _ _ _) (Kg (Kd (Lv u1 e1 ?_)));show Kh _ _ (setEntries a >>=_) _ _ s;refine Kd (K2 o1 d1 f1 ?_);rw [J5 Ka];show Kh _ _ (seqItems? (.ref pl) >>=_) _ _ s;refine Kd (wpAny_seqItems l1 l2 ?_);simp only [FW,p1];show Kh _ _ (setField (.ref it) 0 (KY 0) >>=_) _ _ s;refine Kd (K6 u1 e1 Ka ?_);have g1:=FG (JF (·.setIfInBounds 0 (KY 0))) u1 (GY (FI e1 _));have k1:=FI e1 (·.setIfInBounds 0 (KY 0));refine Kd (K6 g1 k1 Ka ?_);refine Kd (m:=newExc (.type "StopIteration") []) ?_;simp only [newExc,newTuple];refine Kd (Kx ?_ (by size_fits));refine Kd (m:=Lw _ _) (Lx (a:=Gm) (by first | rfl | (simp only [Lw];rfl)) ?_);refine Kx ?_ (by size_fits);simp only [raiseNew];refine Kd (wpAny_handled ?_);rw [show A.in1.handled=none from hh];refine Kd (Kg (wpAny_throw ?_));refine Kd (LH (T:="StopIteration") (b:=true) ⟨_,D5 _ rfl,rfl⟩ isSubtype_stop ?_);exact Kg (hQ _ ((((EB ..).trans (EB ..)).extBut.push _).push _))
end
theorem uX:Slot "set_iterator" "__iter__" "set_iterator.__iter__":=
 .of (owner:="set_iterator") (n:="__iter__") (by rw [typeLookup_type,builtinLookup_eq_fast];kernel_rfl) td td td
  (by first | exact .inl td | exact .inr td) (by rw [isSubtype_type];kernel_rfl)
theorem Be:entryFor table "set_iterator.__iter__"=some Builtin.«dict_keyiterator.__iter__»:=entryFor_alias (id':="dict_keyiterator.__iter__") (by kernel_rfl) rfl td (by kernel_rfl)
theorem Bf(a:Kc):argsOk "set_iterator.__iter__" ⟨[a],[]⟩:=by
 unfold argsOk;rw [signature?_of (id:="set_iterator.__iter__") (n:=['_','_','r','e','t','i','_','_']) (o:=['r','o','t','a','r','e','t','i','_','t','e','s']) (by kernel_rfl) uS];kernel_rfl
theorem cL.at{h h':Km}{it f i a n ep}(x:cL h it f i a n ep)(e:∀o,h.get? it=some o->h'.get? it=some o):cL h' it f i a n ep:=let ⟨o,ho,r⟩:=x;⟨o,e _ ho,r⟩
section
variable {P:Kp} {w:Kq} {A:Kr} {E:Kc->Kf->Prop} {s:Kf} {a:Ke} {o:Obj} {es:Array (Int×Kc)} {ep:Nat} {t:Ld}
theorem uY{it:Ke}{f:Kc}{i n:Nat}{Q:Kc->Kf->Prop}(hit:cL s.heap it f i a n ep)(h:Q (.ref it) s):Kh (Ki P w) A (pyIter (.ref it)) Q E s:=by
 refine wpAny_pyIter_slot hit.typeIs uX (KG uX hit.typeIs Be ?_ (Bf _));exact Kd (m:=slotArgs _ _ _) (Kg (Kg ⟨_,rfl,"set_iterator",_,hit.typeIs,jX.lookup,h⟩))
theorem uZ(hh:A.handled=none)(it:Ke)(hne:a≠it)(d1:o.data= .set es ep t)(f1:t.fits es.size=true)(vs:List Kc)(hl:vs.length=es.size)(sl:Nat->Nat)
 (nx:∀(s:Kf) (i:Nat) (h:i < vs.length) E' Q',s.heap.get? a=some o->Q' (some (vs[i],sl (i+1))) s->Kh (Ki P w) A.in1 (Lh a (sl i) i ep) Q' E' s)
 (nd:∀(s:Kf) E' Q',s.heap.get? a=some o->Q' none s->Kh (Ki P w) A.in1 (Lh a (sl es.size) es.size ep) Q' E' s):
 Walks P w A it [it,a] [it] es.size (λi v=>vs[i]?=some v) (λi h=>cL h it (.int (sl i:Nat) 0) i a es.size ep/\h.get? a=some o) where
 sub:=λb hb=>by rw [Et] at hb;simp [hb]
 frame:=λ_ _ _ st hk=>⟨st.1.at λo e=>hk it Ka o e,hk a Ka o st.2⟩
 item:=λi s Q E hi st hQ=>by
  have hi':i < vs.length:=J4
  refine Ba st.1 st.2 d1 f1 (λE' Q' q=>nx s i hi' E' Q' st.2 q) λh' it' sb=>?_;exact hQ _ h' s.toks (by simp [hi']) ⟨it',by rw [sb.2 a hne];exact st.2⟩ λb u hb e=>sb.extBut b u (λz=>hb (by simp [z])) e
 done:=λs Q E st hQ=>Bc hh st.1 st.2 d1 f1 (λE' Q' q=>nd s E' Q' st.2 q) λh' he=>hQ h' s.toks λb u hb e=>he b u (λz=>hb (by simp [z])) e
 self:=λ_ _ _ _ st hQ=>uY st.1 hQ
theorem Bg(hh:A.handled=none)(it pl:Ke)(hne:a≠it)(hnp:pl≠it)(d1:o.data= .set es ep t)(f1:t.fits es.size=true)(vs:List Kc)(ks:List Nat){ol:Obj}{nl:Nat}(l2:ol.data= .seq (ks.map λ(k:Nat)=>G2 (k:Int) 0).toArray nl)
 (hl:ks.length=es.size)(hv:∀i k:Nat,ks[i]?=some k->∃h x,es[k]?=some (h,x)/\vs[i]?=some x):
 Walks P w A it [it,a,pl] [it] es.size (λi v=>vs[i]?=some v) (λi h=>cL h it (.ref pl) i a es.size ep/\h.get? a=some o/\h.get? pl=some ol) where
 sub:=λb hb=>by rw [Et] at hb;simp [hb]
 frame:=λ_ _ _ st hk=>⟨st.1.at λo e=>hk it Ka o e,hk a Ka o st.2.1,hk pl Ka ol st.2.2⟩
 item:=λi s Q E hi st hQ=>by
  have hi':i < ks.length:=J4
  obtain⟨h,x,e1,e2⟩:=hv i ks[i] (by simp [hi']);refine Bb st.1 st.2.1 d1 f1 st.2.2 l2 (k:=ks[i]) (by simp [hi']) e1 λh' it' sb=>?_;exact hQ _ h' s.toks e2 ⟨it',by rw [sb.2 a hne];exact st.2.1,by rw [sb.2 pl hnp];exact st.2.2⟩ λb u hb e=>sb.extBut b u (λz=>hb (by simp [z])) e
 done:=λs Q E st hQ=>Bd hh st.1 st.2.1 d1 f1 st.2.2 l2 (by simp [hl]) λh' he=>hQ h' s.toks λb u hb e=>he b u (λz=>hb (by simp [z])) e
 self:=λ_ _ _ _ st hQ=>uY st.1 hQ
theorem u5{j k:Nat}:Hm #[j] k=if j < k then 1 else 0:=by
 unfold Hm;show Jg #[j] k 1 0 1=_;simp [Jg]
theorem Bh{ss:List Str}{Q:Kc->Kf->Prop}(hh:A.handled=none)(hS:bK P w s.heap a ss)
 (q:∀(I:Ke) (h1:Km) (d1:Drawn) (vs:List Kc) (fp wr:List Ke) (n:Nat) (St:Nat->Km->Prop),(∀b u,s.heap.get? b=some u->h1.get? b=some u)->(∃ss',KH vs ss'/\ss'.Perm ss)->n=ss.length->
  Walks P w A I fp wr n (λi v=>vs[i]?=some v) St->St 0 h1->(∀b∈fp,b=a\/s.heap.objs.size<=b)->(∀b∈wr,s.heap.objs.size<=b)->vs.length=n->(∀b∈fp,b < h1.objs.size)->Q (.ref I) {s with heap:=h1,drawn:=d1}):
 Kh (Ki P w) A (pyIter (.ref a)) Q E s:=by
 obtain⟨o,o1,x1,es,ep,t,d1,el,⟨ss',s1,s2⟩,b1,f1,l1,p1⟩:=hS;have hT:s.TypeIs (.ref a) "set":=⟨o,o1,x1.1⟩;have la:a < s.heap.objs.size:=DV o1;have ln:es.size=ss.length:=by rw [<-s2.length_eq,<-n6 s1,DP,D2]
 refine wpAny_pyIter_slot hT Iy (KG Iy hT A8 ?_ (PySem.F.args_set_iter_1 _));unfold Builtin.«frozenset.__iter__»;refine Kd (m:=Builtin.Frozenset.slot0 _ _) (Kg ?_);refine Kd (m:=Builtin.Frozenset.sizeOf a) (Kd (K2 o1 d1 f1 (Kg ?_)));refine Kd (m:=setDrawn a) ?_;unfold setDrawn setsByText;refine Kd (KZ o1 d1 f1 (Kd (Kd (K1 (Kg (Kg ?_))))));show Kh _ _ (if (!(cK w) && (!t.plain && decide (es.size > 1)))=true then _ else _) _ _ _;have lastly:∀(f:Kc)(h1:Km)(d:Drawn),h1.get? a=some o->(∀I h2,h2=h1.push {cls:= .type "set_iterator",data:= .fields #[f,.int (0:Nat) 0,.ref a,.int es.size 0,.int ep 0]}->I=h1.objs.size->Q (.ref I) {s with heap:=h2,drawn:=d})->
  Kh (Ki P w) A.in1 (setEpoch a >>=λe=>newFields "set_iterator" [f,KY 0,.ref a,KY es.size,KY e] >>=λv=>ret v)
   (λfin s'=>∃v,fin= .done (.ret v)/\∃T' r,s'.TypeIs v T'/\typeLookup (.type T') "__next__"=pure (some r)/\Q v s') E {s with heap:=h1,drawn:=d}:=by
  intro f h1 d e1 k;refine Kd (wpAny_setEpoch_of (s:={s with heap:=h1,drawn:=d}) e1 d1 f1 ?_);refine Kd (Kx (Kg ?_));exact⟨_,rfl,"set_iterator",_,⟨_,D5 _ rfl,rfl⟩,jX.lookup,k _ _ rfl rfl⟩
 have szp:∀(h:Km)(ob:Obj),(h.push ob).objs.size=h.objs.size+1:=λ_ _=>Hk _ _;have n0:a≠s.heap.objs.size:=Ec la;by_cases hdr:(!(cK w) && (!t.plain && decide (es.size > 1)))=true
 ·rw [J6 hdr];refine Kd (uU es.size (EZ es.size) s _ Ka λks d hp=>Kd (m:=newTuple _) (Kx ?_ ?_))
  ·have lk:ks.length=es.size:=by rw [hp.length_eq,Gz]
   refine lastly _ (s.heap.push _) d (DN _ o1) λI h2 e2 eI=>?_;subst e2 eI;have k1:a≠(s.heap.push {cls:= .type "tuple",data:= .seq (ks.map λ(i:Nat)=>KY i).toArray}).objs.size:=by rw [szp];exact Ec (Fi la)
   have k2:s.heap.objs.size≠(s.heap.push {cls:= .type "tuple",data:= .seq (ks.map λ(i:Nat)=>KY i).toArray}).objs.size:=by rw [szp];exact Ec (Gh _)
   have pm:(ks.map λk=>((es[k]?).map (·.2)).getD .none).Perm (es.toList.map (·.2)):=by
    refine(hp.map _).trans (.of_eq ?_);apply GL Ka;intro i a b;simp at a b⊢;rw [Hd a];rfl
   obtain⟨ss2,q3,q4⟩:=ph pm s1;refine q _ _ d _ _ _ es.size _ (λb u e=>DN _ (DN _ e)) ⟨ss2,q3,q4.trans s2⟩ ln
    (Bg hh _ _ k1 k2 d1 f1 _ ks rfl lk (λi k e=>?_)) ⟨⟨_,D5 _ rfl,rfl,rfl⟩,DN _ (DN _ o1),DN _ (D5 _ rfl)⟩ (λb hb=>?_) (λb hb=>?_) (by simp [lk]) (λb hb=>?_)
   ·have hk:k < es.size:=by
     have:=hp.mem_iff.mp (Ef e);simpa using this
    refine⟨es[k].1,es[k].2,by simp [hk],?_⟩;rw [D7,e];simp [hk]
   ·simp only [D3,EU,or_false] at hb;rcases hb with rfl | rfl | rfl
    ·right;rw [szp];exact Hs _
    ·left;rfl
    ·right;exact DU _
   ·rw [Et] at hb;rw [hb,szp];exact Hs _
   ·simp only [D3,EU,or_false] at hb;rw [szp,szp];rcases hb with rfl | rfl | rfl
    ·rw [szp];exact Gh _
    ·exact Fi (Fi la)
    ·exact Fi (Gh _)
  ·unfold sizeOk;simp [hp.length_eq];have:K4=4096:=rfl;have:Kl=16777216:=by first | rfl | exact Kv
   omega
 ·rw [J5 hdr];refine Kd (Kg ?_);have e0:s={s with heap:=s.heap,drawn:=s.drawn}:=by cases s;rfl
  show Kh _ _ _ _ _ {s with heap:=s.heap,drawn:=s.drawn};refine lastly _ s.heap s.drawn o1 λI h2 e2 eI=>?_;subst e2 eI;have fpa:∀b∈[s.heap.objs.size,a],b=a\/s.heap.objs.size<=b:=λb hb=>by
   simp only [D3,EU,or_false] at hb;rcases hb with rfl | rfl
   ·right;exact DU _
   ·left;rfl
  have wra:∀b∈[s.heap.objs.size],s.heap.objs.size<=b:=λb hb=>by rw [Et] at hb;rw [hb];exact DU _
  have fpl:∀(ob:Obj),∀b∈[s.heap.objs.size,a],b < (s.heap.push ob).objs.size:=λob b hb=>by
   rw [szp];simp only [D3,EU,or_false] at hb;rcases hb with rfl | rfl
   ·exact Gh _
   ·exact Fi la
  cases hb:cK w with
  | true=>
   have pm:=A9 (w.params.setOrder a ep) es;obtain⟨ss2,q3,q4⟩:=ph (pm.map (·.2)) s1;have lp:((Lz (w.params.setOrder a ep) es).toList.map (·.2)).length=es.size:=by rw [DP,pm.length_eq,D2]
   refine q _ _ s.drawn _ _ _ es.size _ (λb u e=>DN _ e) ⟨ss2,q3,q4.trans s2⟩ ln
    (uZ hh _ n0 d1 f1 _ lp (λ_=>0) (λs i hi E' Q' g z=>uV hb g d1 f1 ?_) (λs E' Q' g z=>uV hb g d1 f1 ?_)) ⟨⟨_,D5 _ rfl,rfl,rfl⟩,DN _ o1⟩ fpa wra lp (fpl _)
   ·have hi':i < (Lz (w.params.setOrder a ep) es).size:=by rw [<-D2,<-DP (f:=(·.2))];exact hi
    rw [Hd hi'];simpa using z
   ·have:(Lz (w.params.setOrder a ep) es).size=es.size:=by rw [<-D2,pm.length_eq,D2]
    rw [Ht J4];exact z
  | false=>
   have hled:t.led=true:=by
    rcases l1 with l1 | l1
    ·rw [hb] at l1;cases l1
    ·exact l1
   have hsz:es.size<=1:=by
    rcases Gq 1 es.size with z | z
    ·exfalso;apply hdr;rw [hb,p1 J4];simpa using z
    ·exact z
   have hpl:t.place.size=es.size:=by
    simp only [SetTable.fits,F5,beq_iff_eq] at f1;exact f1.1
   have lp:(es.toList.map (·.2)).length=es.size:=by rw [DP,D2]
   refine q _ _ s.drawn _ _ _ es.size _ (λb u e=>DN _ e) ⟨ss',s1,s2⟩ ln
    (uZ hh _ n0 d1 f1 _ lp (λi=>if i=0 then 0 else t.place.getD 0 0+1) (λs i hi E' Q' g z=>uW hb g d1 f1 hsz hled ?_) (λs E' Q' g z=>uW hb g d1 f1 hsz hled ?_)) ⟨⟨_,D5 _ rfl,rfl,rfl⟩,DN _ o1⟩ fpa wra lp (fpl _)
   ·have i0:i=0:=J4
    subst i0;have h1:es.size=1:=J4
    obtain⟨j,hj⟩:∃j,t.place=#[j]:=by
     have:t.place.toList.length=1:=by rw [D2];omega
     match hq:t.place.toList,this with
     | [j],_=>exact⟨j,by rw [<-IC (xs:=t.place),hq]⟩
    rw [hj] at z⊢;rw [J6 rfl,u5,J5 J4];have:es[0]?=some es[0]:=by simp [h1]
    rw [this];simpa using z
   ·have hn:es[Hm t.place (if es.size=0 then 0 else t.place.getD 0 0+1)]?=none:=by
     by_cases h0:es.size=0
     ·rw [Ht J4]
     ·have h1:es.size=1:=J4
      obtain⟨j,hj⟩:∃j,t.place=#[j]:=by
       have:t.place.toList.length=1:=by rw [D2];omega
       match hq:t.place.toList,this with
       | [j],_=>exact⟨j,by rw [<-IC (xs:=t.place),hq]⟩
      rw [hj,J5 h0,u5,J6 Ka];rw [Ht J4]
    rw [hn];exact z
end
section
variable {P:Kp} {w:Kq} {A:Kr} {E:Kc->Kf->Prop} {s:Kf} {a:Ke}
theorem Bi{Q:Bool->Kf->Prop}(hT:s.TypeIs (.ref a) "set")(h:Q false s):Kh (Ki P w) A (HI (.ref a)) Q E s:=by
 unfold HI;refine Kd (wpAny_specialOf hT PySem.F.slot_set_len.lookup ?_);generalize hid:("set.__len__":String)=id0
 wp_delta
 rw [show splitId id0=some ("set","__len__") from by subst hid;decide+kernel];subst hid;refine Kd (LH (T:="set") (b:=true) hT (by rw [isSubtype_type];kernel_rfl) ?_);refine wpAny_ite_split (λz=>absurd z J3) (λ_=>?_);refine wpAny_ite_split (λ_=>?_) (λz=>absurd td z);exact Kd (wpAny_typeOf hT (Kg h))
theorem Bj{ss:List Str}{R:Result->Kf->Prop}(hh:A.handled=none)(hS:bK P w s.heap a ss)(S:Ke)(hSa:S≠a)(res:Kc)(c₀:Nat)(l1:s.heap.get? S=some {cls:= .type "list",data:= .seq #[] c₀})(hn:ss.length<=4096)
 (hR:∀h' tk d acc c',(∀b u,b≠S->s.heap.get? b=some u->h'.get? b=some u)->h'.get? S=some {cls:= .type "list",dict:=none,data:= .seq acc c',slots:=#[]}->(∃ss',KH acc.toList ss'/\ss'.Perm ss)->R (.ok (.ret res)) {s with heap:=h',toks:=tk,drawn:=d}):
 Kh (Ki P w) A.in1 (HJ (.ref S) (.ref a) res)
  (λfin s'=>match fin with | .done f=>R (.ok f) s' | .again c'=>c'.quiet=true/\K3 (Ki P w) A c' R s') (λe s'=>R (.error e) s') s:=by
 obtain⟨o,o1,x1,rest⟩:=id hS;have hT:s.TypeIs (.ref a) "set":=⟨o,o1,x1.1⟩;have lS:S < s.heap.objs.size:=DV l1;unfold HJ;refine Kd (wpAny_typeOf hT ?_);have e1:Ie (.ref S) (.ref a)=false:=by simp [Ie,hSa]
 have e2:(G4 "set"==G4 "list")=false:=J3
 have e3:(G4 "set"==G4 "tuple")=false:=J3
 simp only [e1,e2,e3,Fm,Eu,if_false];refine Kd (Bh (A:=A.in1) hh hS λI h1 d1 vs fp wr n St k1 sv en W st hf hw hlv hfl=>?_);have nf:S ∉ fp:=λz=>by
  rcases hf S z with e | e
  ·exact hSa e
  ·exact absurd lS (Nat.not_lt.mpr e)
 have key:∀(h:Km)(c₁ tk:Nat),St 0 h->(∀b u,b≠S->s.heap.get? b=some u->h.get? b=some u)->
  h.get? S=some {cls:= .type "list",data:= .seq #[] c₁}->K3 (Ki P w) A (.builtin "list.extend.loop" ⟨[.ref S,.ref I,res],[]⟩) R {s with heap:=h,toks:=tk,drawn:=d1}:=by
  intro h c₁ tk hst hk g;refine codeAny_extend_loopS W.toS (EV (by omega:n<=4096) J3) S nf res n 0 _ #[] c₁ rfl (E1 _) hst g (ItemsOf.nil _) λs' acc c' m gq hacc=>?_;obtain⟨h',g',d',tk',os'⟩:=s';obtain rfl:g'=s.gens:=m.gens;obtain rfl:d'=d1:=m.drawn;obtain rfl:os'=s.os:=m.os;refine hR h' tk' d' acc c' (λb u hb e=>m.heap b u (λz=>?_) (hk b u hb e)) gq ?_
  ·rcases D3.mp z with e' | z
   ·exact hb e'
   ·exact absurd (DV e) (Nat.not_lt.mpr (hw b z))
  ·have ea:acc.toList=vs:=by
    apply List.ext_getElem?;intro i;rcases Gq i n with z | z
    ·have hz:i < acc.size:=by rw [hacc.1];exact z
     have:acc[i]?=some acc[i]:=Hd hz;rw [Iw,this,hacc.2 i _ this]
    ·rw [FF (by rw [D2,hacc.1];exact z),FF J4]
   rw [ea];exact sv
 have g1:=k1 S _ l1;refine Kd (KN (Bi (s:={s with heap:=h1,drawn:=d1}) ⟨o,k1 a o o1,x1.1⟩ ?_));refine wpAny_ite_split (λ_=>?_) (λ_=>Kg ⟨Lj HX _,key _ c₀ _ st (λb u _ e=>k1 b u e) g1⟩);refine Kd (wpAny_rule (Kd ?_));show Kh _ _ (updateSeq S (·.push .none) >>=λ_=>updateSeq S (·.pop)) _ _ {s with heap:=h1,drawn:=d1};refine Kd (wpAny_updateSeq g1 rfl ?_);have g2:=FG (EN (·.push Gm)) g1 rfl;refine wpAny_updateSeq (hz:=by seq_fits) g2 rfl ?_;have g3:=FG (EN (·.pop)) g2 rfl;refine Kg ⟨Lj HX _,key _ _ _ (W.frame 0 _ _ st λb hb u e=>?_) (λb u hb e=>?_) g3⟩
 ·have hbS:b≠S:=λz=>nf (z▸hb);exact(Gn _ _ (Ne.symm hbS)).trans ((Gn _ _ (Ne.symm hbS)).trans e)
 ·exact(Gn _ _ (Ne.symm hb)).trans ((Gn _ _ (Ne.symm hb)).trans (k1 b u e))
theorem Bk{ss:List Str}{R:List Kc->Kf->Prop}(hh:A.handled=none)(hS:bK P w s.heap a ss)(hn:ss.length<=4096)
 (h:∀(h':Km) (tk:Nat) (d:Drawn) (vs:List Kc),(∀b u,s.heap.get? b=some u->h'.get? b=some u)->(∃ss',KH vs ss'/\ss'.Perm ss)->R vs {s with heap:=h',toks:=tk,drawn:=d}):
 Kh (Ki P w) A (collect (.ref a)) R E s:=by
 have la:a < s.heap.objs.size:=by obtain⟨o,o1,_⟩:=id hS;exact DV o1
 unfold collect;refine Kd (wpAny_runValue (KU entry_proto_collect' ?_));rw [GF PySem.F.plain_proto_collect _];refine Kd (m:=newList []) (Kx ?_);refine Kg ⟨Lj Ij _,KU entry_list_iadd' ?_⟩;rw [GF Ij _];have g1:(s.heap.push {cls:= .type "list",data:= .seq ([]:List Kc).toArray}).get? s.heap.objs.size=some {cls:= .type "list",data:= .seq #[]}:=D5 _ rfl;have key:=Bj (A:=A) (s:={s with heap:=s.heap.push {cls:= .type "list",data:= .seq ([]:List Kc).toArray}})
  (R:=λ(q:Result) (s':Kf)=>∃(h':Km)(tk:Nat)(d:Drawn)(acc:Array Kc)(c':Nat),q= .ok (.ret (.ref s.heap.objs.size))/\s'={s with heap:=h',toks:=tk,drawn:=d}/\
   (∀b u,s.heap.get? b=some u->h'.get? b=some u)/\h'.get? s.heap.objs.size=some {cls:= .type "list",dict:=none,data:= .seq acc c',slots:=#[]}/\(∃ss',KH acc.toList ss'/\ss'.Perm ss))
  hh (hS.stay λu e=>DN _ e) s.heap.objs.size (GJ la) (.ref s.heap.objs.size) 0 g1 hn
  (λh' tk d acc c' hk g' hacc=>⟨h',tk,d,acc,c',rfl,rfl,λb u e=>hk b u (Ec (DV e)) (DN _ e),g',hacc⟩)
 refine Ky key (λfin s' x=>?_) λe s' x=>?_
 ·cases fin with
  | done f=>
   obtain⟨h',tk,d,acc,c',e,rfl,hk,g',hacc⟩:=x;cases e;exact Kd (m:=load s.heap.objs.size) (wpAny_load g' (Kg (h h' tk d acc.toList hk hacc)))
  | again c₁=>
   refine⟨x.1,KR x.2 λq s₂ y=>?_⟩;obtain⟨h',tk,d,acc,c',rfl,rfl,hk,g',hacc⟩:=y;exact Kd (m:=load s.heap.objs.size) (wpAny_load g' (Kg (h h' tk d acc.toList hk hacc)))
 ·obtain⟨_,_,_,_,_,e',_⟩:=x;cases e'
theorem Bl{ss:List Str}{Q:Kc->Kf->Prop}(hh:A.handled=none)(hS:bK P w s.heap a ss)(hn:ss.length < 64)
 (h:∀(h' h2:Km) (tk:Nat) (d:Drawn) (out:Array Kc) (e:Nat) (ss':List Str),(∀b o,s.heap.get? b=some o->h'.get? b=some o)->(∀b o,h'.get? b=some o->h2.get? b=some o)->h2.get? h'.objs.size=some (Ku "list" out e)->KH out.toList ss'->ss'.Perm ss->sortedS ss'=true->Q (.ref h'.objs.size) {s with heap:=h2,toks:=tk,drawn:=d}):
 Kh (Ki P w) A (call (.builtin "sorted") [.ref a]) Q E s:=by
 refine HY kind_sorted plain_sorted entry_sorted (args_sorted1 _) ?_;unfold Builtin.«sorted»;refine Kd (m:=checkCount "sorted" 1 1 _) (Kg ?_);refine Kd (Bk (A:=A.in1) hh hS J4 λh' tk d vs hk ⟨s1,sv,sp⟩=>?_);have hl:vs.length=ss.length:=by rw [n6 sv,sp.length_eq]
 refine Kd (Ll ?_);have hoL:(h'.push (Ku "list" vs.toArray 0)).get? h'.objs.size=some (Ku "list" vs.toArray 0):=D5 _ rfl;refine Kd (KN (KG slot_list_sort ⟨_,hoL,rfl⟩ entry_list_sort (list_sort_treeK (s:={s with heap:=h'.push (Ku "list" vs.toArray 0),toks:=tk,drawn:=d}) strKind_oneLt hoL sv.keysOf (λv₁ v₂ rest e=>keyKind_strs (by rw [<-e];exact sv)) (by rw [hl];exact hn) λst' a1 a2=>⟨_,rfl,?_⟩) (args_list_sort _)));obtain⟨ss',h1,h2,h3⟩:=sorted_out_str sv a1 a2;obtain⟨e,he⟩:=sortedHeap_at (n:=0) (vs:=vs) (out:=(arrOf st').map (·.2)) hoL;refine Kg ⟨_,rfl,h h' _ tk d _ e ss' hk (λb o q=>?_) he h1 (h2.trans sp) h3⟩;have hlt:b < h'.objs.size:=DV q;rw [sortedHeap_old (Ec hlt) (by rw [size_push'];exact Fi hlt),Heap.get?_push_ne _ _ _ (Ec hlt)];exact q
end
def rC(P:Kp)(w:Kq)(a:Ke)(ss:List Str):HO:= .ext λh=>bK P w h a ss
theorem aa.drw{X:Cx}{LL:List (Ke×Obj)}{σ:List (Option V)}{H:Hp}{s:Kf}{d:Drawn}(I:aa X LL σ H s):aa X LL σ H {s with drawn:=d}:=⟨I.ok,I.os,I.bare,I.base,I.loc,I.cell,I.free,I.freeC,I.pin,I.hok,I.len⟩
theorem Bm{X:Cx}:b7 X (.type "set") (λxs H Q=>X.calm=true/\∃(p:Ke)(ss:List Str),xs=[.ref p]/\aI X.K H p (ss.map V.str)/\ss.length < 64/\∀l,H l=none->Q (.ref l) (ai H l (rC X.prog X.w l (ss.foldl bL [])))):=by
 intro LL s σ H xs us Q I r h;obtain⟨hc,p,ss,rfl,hq,h64,q⟩:=h;obtain⟨u,rfl,rx⟩:=fU r;cases rx;obtain⟨its,rv,pl,hz⟩:=I.list hq;have hlen:=rv.length;rw [DP] at hlen;refine A7 (I.ok.hd hc) pl.isList (by simpa using Az rv) (by have:K4=4096:=rfl;simp;omega) λh' tk S' k'=>?_;refine⟨.ref _,_,I.laid (t':=tk) (o:=rC X.prog X.w _ (ss.foldl bL [])) k' (DU _) ?_,rfl,q _ (I.hok.fresh (DU _))⟩;obtain⟨o,e,_⟩:=id S';exact⟨S',⟨o,e⟩,λh1 h2 x k=>x.stay k⟩
theorem Bn{X:Cx}:b7 X (.builtin "sorted") (λxs H Q=>X.calm=true/\∃(a:Ke)(ss:List Str),xs=[.ref a]/\H a=some (rC X.prog X.w a ss)/\ss.length < 64/\∀l,H l=none->Q (.ref l) (ai H l (.lst ((cJ ss).map V.str)))):=by
 intro LL s σ H xs us Q I r h;obtain⟨hc,a,ss,rfl,ha,h64,q⟩:=h;obtain⟨u,rfl,rx⟩:=fU r;cases rx;obtain⟨hS,_⟩:=I.hok a _ ha;refine Bl (I.ok.hd hc) hS h64 λh' h2 tk d out e ss' k1 k2 at2 s1 s2 s3=>?_;have es:ss'=cJ ss:=Ax s2 (Ay _ s3);subst es;have hl2:(cJ ss).length=ss.length:=s2.length_eq;have I1:aa X LL σ H {s with heap:=h',toks:=tk,drawn:=d}:=(I.kept (t':=tk) k1).drw;refine⟨.ref _,_,I1.laid (t':=tk) (o:= .lst ((cJ ss).map V.str)) k2 (DU _) ?_,rfl,q _ (I1.hok.fresh (DU _))⟩;refine⟨by rw [DP,hl2];exact EV (GX h64) J3,out.toList,e,uE s1,?_⟩;rw [at2]
theorem rD:∀(l ss:List Str),(l.foldl bL ss).length<=ss.length+l.length
 | [],ss=>by simp
 | a::l,ss=>by
  have:=rD l (bL ss a);have h:(bL ss a).length<=ss.length+1:=by unfold bL;split <;> simp
  simp only [F9,D4];omega
theorem Bo:Kw "set"=some (.type "set"):=td
section
variable {X:Cx} {H0:Hp} {O0:Ex}
def fC(t:DA):DA:=λδ Q=>t δ λds=>∃ss:List Str,ds=[.list (ss.map .str)]/\ss.length < 64/\Q ((cJ (ss.foldl bL [])).map .str)
theorem Bp{a:Kk}{t:DA}{np p np' p':Pos}(hc:X.calm=true)(hg:Gl X "sorted")(hm:X.mg "sorted"=none)(hv:Kw "sorted"=some (.builtin "sorted"))(hg':Gl X "set")(hm':X.mg "set"=none)(ha:PA X [a] (cW X.K H0 O0 t))
 (he:Kj [a] X.env=(false,eval a X.env)::Kj [] X.env:=by rfl)(hpl:(KA p' (Kj [] X.env)).any (·.1)=false:=by rfl)
 (he':Kj [.Call (.Name "set" np') [a] [] p'] X.env=(false,eval (.Call (.Name "set" np') [a] [] p') X.env)::Kj [] X.env:=by rfl)(hpl':(KA p (Kj [] X.env)).any (·.1)=false:=by rfl):
 FE X H0 O0 (.Call (.Name "sorted" np) [.Call (.Name "set" np') [a] [] p'] [] p) (fC t):=
 (cu Bn hg hm hv (bG (dJ Bm hg' hm' Bo ha (he:=he) (hpl:=hpl)) fV he') (he:=he') (hpl:=hpl')).imp λσ H Q ⟨O,δ,Qd,w,q,k⟩=>⟨O,δ,_,w,q,λds vs H1 uu58 s1 r1=>by
  obtain⟨ss,e,h64,q1⟩:=uu58;subst e;cases r1 with
  | cons h r=>
   cases r;obtain⟨a,us,rfl,h1,d1⟩:=h.lst;cases d1.strs;refine⟨hc,a,ss,rfl,h1,h64,λl hl=>⟨hc,l,_,rfl,bf,by have:=rD ss [];simp at this;omega,λl2 hl2=>?_⟩⟩;exact k _ _ _ _ q1 (s1.trans (ah.new hl)) hl2 (ag.ofStrs _)⟩
def jY(i:Nat)(t:DA):DS:=λE δ=>∃ds,δ[i]?=some (some (.o ds))/\t δ λes=>ds.length+es.length<=Kl/\E.nx (δ.set i (some (.o (ds++es))))
end
def jZ:List Kb->(Kb->Prop)->Prop:=λds Q=>∃ns:List Int,ds=[.list (ns.map .int)]/\ns≠[]/\∀M,M∈ns->(∀a∈ns,a<=M)->Q (.int M)
section
variable {X:Cx} {H0:Hp} {O0:Ex}
def j0(i:Nat)(dg:DG)(tb:DS):DS:=λE δ=>∃kd,δ[i]?=some (some (.k kd))/\cQ dg tb E (kd.map λp=>lz p.1) (δ.set i none)
end
def dB:List (DT×DT)->Dl->(List (Kb×Kb)->Prop)->Prop
 | [],_,Q=>Q []
 | (a,b)::r,δ,Q=>a δ λx=>b δ λy=>dB r δ λps=>Q ((x,y)::ps)
section
variable {X:Cx} {H0:Hp} {O0:Ex}
def j1(trs:List (DT×DT)):nc:=λδ Q=>dB trs δ λps=>∃kd:List (aA×Kb),ps=kd.map (λp=>(lz p.1,p.2))/\kd.length<=15/\(∀p∈kd,cE p.2=true)/\Q (kd.foldl (λa p=>ro a p.1 p.2) [])
def j2(i j k:Nat)(t:DA):DS:=λE δ=>t δ λds=>∃x y z,ds=[x,y,z]/\E.nx (((δ.set i (some (.v x))).set j (some (.v y))).set k (some (.v z)))
theorem Bq{N':List Str}{k:Nat}{fr:List Nat}{scope:Kz}{iter elt tg:Kk}{ifs:List Kk}{t te:DT}{tc:DB}{g:TG}{dg:DG}{pos:Pos}(hc:X.calm=true)(S:aQ X.env.scope X.N N' k fr scope)(hi:DF X H0 O0 iter t)(gd:GD X.K g dg)(hk:lN g k)(hfr:fr.Nodup)
 (hg:∀fp C s H,PG (aO X scope N' fp C s H) tg g)(hf:∀fp C s H,cD (aO X scope N' fp C s H) ifs (bu X.K H0 O0 tc))(he:∀fp C s H,PE (aO X scope N' fp C s H) elt (up X.K H0 O0 te))
 (hs:∀x,Kt iter X.env x=pure x:=by intro _;rfl):PU X (.ListComp elt [⟨tg,iter,ifs,0⟩] scope pos) (mW X.K H0 O0 (cS t dg tc te k fr)):=
 (uz hc S (qh hi) hg hf he hs).imp λσ H Q uu59=>by obtain⟨O,δ,Qd,w,q,kk⟩:=uu59;exact⟨O,δ,_,w,q,λd v H1 uu60 s1 r1=>by
  obtain⟨xs,e,hz,q1⟩:=uu60;subst e;obtain⟨a,vs,rfl,hq,rr⟩:=r1.tup;refine⟨a,rfl,⟨_,hq⟩,λD hD=>nW (bX.tup hq) gd hfr (λv _ H' R h=>hk fr σ v H' R h) (λ_ _ _ z=>z) (λ_ _ _ z=>z) (λD H' hD s' o e=>s' _ _ e (bV e hD)) rr (w.mono s1) (by rw [rr.length];exact hz) q1 (λds us p H' z s' hp r'=>kk ds us p H' z (s1.trans s') hp r') D hD⟩⟩
end
structure ng (n:Nat) (lt:Nat->Nat->Bool) (I:Kf->Prop) (cmp:Nat->Nat->(Bool->Kf->Prop)->Kf->Prop):Prop where
 as:∀i j C s,i < n->j < n->i≠j->I s->(∀s',I s'->C (lt i j) s')->cmp i j C s
structure j3 (n:Nat) (lt:Nat->Nat->Bool):Prop where
 tot:∀i j,i < n->j < n->i≠j->lt i j=!lt j i
 tr:∀i j k,i < n->j < n->k < n->lt i j=true->lt j k=true->lt i k=true
structure aV (n:Nat) (p:Array Nat):Prop where
 perm:p.toList.Perm (EZ n)
theorem aV.size{n:Nat}{p:Array Nat}(h:aV n p):p.size=n:=by rw [<-D2,h.perm.length_eq,Gz]
theorem aV.lt{n:Nat}{p:Array Nat}(h:aV n p){k:Nat}(hk:k < n):p.getD k 0 < n:=by
 have hs:=h.size;have e:p.getD k 0=p[k]'J4:=by simp [Hn,show k < p.size by omega]
 rw [e];have:=h.perm.mem_iff.mp (Array.mem_toList_iff.mpr (Array.getElem_mem (show k < p.size by omega)));simpa using this
theorem aV.ne{n:Nat}{p:Array Nat}(h:aV n p){i j:Nat}(hi:i < n)(hj:j < n)(hij:i≠j):p.getD i 0≠p.getD j 0:=by
 have hs:=h.size;have nd:p.toList.Nodup:=h.perm.nodup_iff.mpr Jn;have ei:p.getD i 0=p.toList[i]'(by simp;omega):=by simp [Hn,show i < p.size by omega]
 have ej:p.getD j 0=p.toList[j]'(by simp;omega):=by simp [Hn,show j < p.size by omega]
 rw [ei,ej];intro e;exact hij ((Hx nd).mp e)
theorem aV.bubble{n:Nat}{p:Array Nat}(h:aV n p)(a d:Nat):aV n (HE p a d):=⟨(HP.mp (bubble_perm p a d)).trans h.perm⟩
theorem aV.rev{n:Nat}{p:Array Nat}(h:aV n p)(i j:Nat):aV n (kas_rev p i j):=⟨(HP.mp (mirror_perm p i j _)).trans h.perm⟩
theorem rE(n:Nat):aV n (IY (EZ n)):=⟨Ka⟩
def Up(lt:Nat->Nat->Bool)(p:Array Nat)(k:Nat):Prop:=∀i j,i < j->j < k->lt (p.getD i 0) (p.getD j 0)=true
section
variable {n:Nat} {lt:Nat->Nat->Bool} {I:Kf->Prop} {cmp:Nat->Nat->(Bool->Kf->Prop)->Kf->Prop}
theorem Up.snoc(T:j3 n lt){p:Array Nat}(hp:aV n p){k:Nat}(hk:k < n)(h:Up lt p k)(h0:0 < k)(hl:lt (p.getD (k - 1) 0) (p.getD k 0)=true):Up lt p (k+1):=by
 intro i j hij hj;rcases Gq j k with z | z
 ·exact h i j hij z
 ·have:j=k:=J4
  subst this;rcases Gq i (j - 1) with w | w
  ·exact T.tr _ _ _ (hp.lt J4) (hp.lt J4) (hp.lt hk) (h i (j - 1) w J4) hl
  ·have:i=j - 1:=J4
   subst this;exact hl
theorem rF(A:ng n lt I cmp)(T:j3 n lt){p:Array Nat}(hp:aV n p){Q:Nat->Kf->Prop}:∀(f m:Nat)(s:Kf),1<=m->m+f=n->Up lt p m->I s->
 (∀k s',I s'->m<=k->k<=n->Up lt p k->(k < n->lt (p.getD k 0) (p.getD (k - 1) 0)=true)->Q k s')->(kas_asc p f m).kasWp cmp Q s
 | 0,m,s,h1,hf,hu,hI,q=>q m s hI (DU _) J4 hu (λz=>by omega)
 | f+1,m,s,h1,hf,hu,hI,q=>by
  have hm:m < n:=J4
  refine A.as _ _ _ s (hp.lt hm) (hp.lt J4) (hp.ne hm J4 J4) hI λs' hI'=>?_;cases hc:lt (p.getD m 0) (p.getD (m - 1) 0) with
  | true=>
   dsimp only;rw [J6 rfl];exact q m s' hI' (DU _) J4 hu (λ_=>hc)
  | false=>
   dsimp only;rw [J5 Ka];have hl:lt (p.getD (m - 1) 0) (p.getD m 0)=true:=by rw [T.tot _ _ (hp.lt J4) (hp.lt hm) (hp.ne J4 hm J4),hc];rfl
   exact rF A T hp f (m+1) s' J4 J4 (hu.snoc T hp hm J4 hl) hI' λk s2 a b c d e=>q k s2 a J4 c d e
def Dn(lt:Nat->Nat->Bool)(p:Array Nat)(k:Nat):Prop:=∀i j,i < j->j < k->lt (p.getD j 0) (p.getD i 0)=true
theorem Dn.snoc(T:j3 n lt){p:Array Nat}(hp:aV n p){k:Nat}(hk:k < n)(h:Dn lt p k)(h0:0 < k)(hl:lt (p.getD k 0) (p.getD (k - 1) 0)=true):Dn lt p (k+1):=by
 intro i j hij hj;rcases Gq j k with z | z
 ·exact h i j hij z
 ·have:j=k:=J4
  subst this;rcases Gq i (j - 1) with w | w
  ·exact T.tr _ _ _ (hp.lt hk) (hp.lt J4) (hp.lt J4) hl (h i (j - 1) w J4)
  ·have:i=j - 1:=J4
   subst this;exact hl
theorem u7(A:ng n lt I cmp)(T:j3 n lt){p:Array Nat}(hp:aV n p){Q:Array Nat×Nat×Nat->Kf->Prop}:∀(f m:Nat)(s:Kf),1<=m->m+f=n->Dn lt p m->I s->
 (∀k s',I s'->m<=k->k<=n->Dn lt p k->Q (p,k,0) s')->(kas_desc f p m 0).kasWp cmp Q s
 | 0,m,s,h1,hf,hu,hI,q=>q m s hI (DU _) J4 hu
 | f+1,m,s,h1,hf,hu,hI,q=>by
  have hm:m < n:=J4
  refine A.as _ _ _ s (hp.lt hm) (hp.lt J4) (hp.ne hm J4 J4) hI λs' hI'=>?_;cases hc:lt (p.getD m 0) (p.getD (m - 1) 0) with
  | true=>
   dsimp only;rw [J6 rfl,J5 Ka];exact u7 A T hp f (m+1) s' J4 J4 (hu.snoc T hp hm J4 hc) hI' λk s2 a b c d=>q k s2 a J4 c d
  | false=>
   dsimp only;rw [J5 Ka];refine A.as _ _ _ s' (hp.lt J4) (hp.lt hm) (hp.ne J4 hm J4) hI' λs2 hI2=>?_;have hl:lt (p.getD (m - 1) 0) (p.getD m 0)=true:=by rw [T.tot _ _ (hp.lt J4) (hp.lt hm) (hp.ne J4 hm J4),hc];rfl
   rw [hl];dsimp only;rw [J6 rfl];exact q m s2 hI2 (DU _) J4 hu
theorem u9{p:Array Nat}{j k:Nat}(hj:j<=p.size):(kas_rev p 0 j).getD k 0=if k < j then p.getD (j - 1 - k) 0 else p.getD k 0:=by
 have:=getElem?_mirror_all (xs:=p) (i:=0) (j:=j) hj k;unfold kas_rev;rw [E9,this];by_cases h:k < j
 ·simp [h,E9]
 ·simp [h,E9]
theorem Dn.rev{p:Array Nat}(hp:aV n p){k:Nat}(hk:k<=n)(h:Dn lt p k):Up lt (kas_rev p 0 k) k:=by
 intro i j hij hj;have hs:=hp.size;rw [u9 J4,u9 J4,J6 J4,J6 hj];exact h _ _ J4 J4
theorem Br(A:ng n lt I cmp)(T:j3 n lt)(h2:2<=n){p:Array Nat}(hp:aV n p){Q:Nat×Array Nat->Kf->Prop}{s:Kf}(hI:I s)
 (q:∀k p' s',I s'->1<=k->k<=n->aV n p'->Up lt p' k->Q (k,p') s'):(kas_count n p).kasWp cmp Q s:=by
 unfold kas_count;rw [He];refine rF A T hp (n - 1) 1 s (DU _) J4 (λi j a b=>by omega) hI λm s1 hI1 m1 m2 hu hs=>?_;by_cases hm:m=n
 ·subst hm;rw [J6 Ka];exact q m p s1 hI1 m1 (DU _) hp hu
 ·rw [J5 (by simpa using hm)];by_cases hm1:m > 1
  ·rw [J6 hm1];refine A.as _ _ _ s1 (hp.lt J4) (hp.lt J4) (hp.ne J4 J4 J4) hI1 λs2 hI2=>?_;rw [hu 0 (m - 1) J4 J4];dsimp only;rw [J6 rfl];exact q m p s2 hI2 m1 J4 hp hu
  ·rw [J5 hm1];have:m=1:=J4
   subst this;have h10:=hs J4;unfold kas_descPart;rw [He];refine u7 A T hp (n - (1+1)) (1+1) s1 J4 J4 (λi j a b=>?_) hI1 λk s2 hI2 k1 k2 hd=>?_
   ·have:i=0:=J4
    have:j=1:=J4
    subst_vars
    exact h10
   ·rw [J5 Ka];unfold kas_tail3;rw [He];have hp':=hp.rev 0 k;refine rF A T hp' (n - k) k s2 J4 J4 (hd.rev hp k2) hI2 λm s3 hI3 a b c d=>?_;exact q m _ s3 hI3 J4 b hp' c
theorem rG(A:ng n lt I cmp)(T:j3 n lt){p:Array Nat}(hp:aV n p){k:Nat}(hk:k < n)(hu:Up lt p k){Q:Nat->Kf->Prop}:∀(f l r:Nat)(s:Kf),r - l<=f->l<=r->r<=k->I s->
 (∀i,i < l->lt (p.getD i 0) (p.getD k 0)=true)->(∀i,r<=i->i < k->lt (p.getD k 0) (p.getD i 0)=true)->
 (∀l s',I s'->l<=k->(∀i,i < l->lt (p.getD i 0) (p.getD k 0)=true)->(∀i,l<=i->i < k->lt (p.getD k 0) (p.getD i 0)=true)->Q l s')->(kas_place p k f l r).kasWp cmp Q s
 | 0,l,r,s,hf,hlr,hrk,hI,h1,h2,q=>q l s hI J4 h1 (λi a b=>h2 i J4 b)
 | f+1,l,r,s,hf,hlr,hrk,hI,h1,h2,q=>by
  unfold kas_place;by_cases hge:l >= r
  ·rw [J6 hge];exact q l s hI J4 h1 (λi a b=>h2 i J4 b)
  ·rw [J5 hge];have hm:(l+r)/ 2 < k:=J4
   refine A.as _ _ _ s (hp.lt hk) (hp.lt J4) (hp.ne hk J4 J4) hI λs' hI'=>?_;cases hc:lt (p.getD k 0) (p.getD ((l+r)/ 2) 0) with
   | true=>
    dsimp only;rw [J6 rfl];refine rG A T hp hk hu f l ((l+r)/ 2) s' J4 J4 J4 hI' h1 (λi a b=>?_) q;rcases Gq ((l+r)/ 2) i with z | z
    ·exact T.tr _ _ _ (hp.lt hk) (hp.lt J4) (hp.lt J4) hc (hu _ _ z b)
    ·have:i=(l+r)/ 2:=J4
     rw [this];exact hc
   | false=>
    dsimp only;rw [J5 Ka];have hl:lt (p.getD ((l+r)/ 2) 0) (p.getD k 0)=true:=by rw [T.tot _ _ (hp.lt J4) (hp.lt hk) (hp.ne J4 hk J4),hc];rfl
    refine rG A T hp hk hu f ((l+r)/ 2+1) r s' J4 J4 hrk hI' (λi a=>?_) h2 q;rcases Gq i ((l+r)/ 2) with z | z
    ·exact T.tr _ _ _ (hp.lt J4) (hp.lt J4) (hp.lt hk) (hu _ _ z hm) hl
    ·have:i=(l+r)/ 2:=J4
     rw [this];exact hl
theorem va{p:Array Nat}{k d i:Nat}(hk:k < p.size)(hd:d<=k):(HE p k d).getD i 0=if i=k - d then p.getD k 0 else if k - d < i/\i<=k then p.getD (i - 1) 0 else p.getD i 0:=by
 rw [E9,getElem?_bubble hk d hd i];by_cases h1:i=k - d
 ·rw [J6 h1,J6 h1,E9]
 ·rw [J5 h1,J5 h1];by_cases h2:k - d < i/\i<=k
  ·rw [J6 h2,J6 h2,E9]
  ·rw [J5 h2,J5 h2,E9]
theorem Up.ins(T:j3 n lt){p:Array Nat}(hp:aV n p){k l:Nat}(hk:k < n)(hu:Up lt p k)(hl:l<=k)(h1:∀i,i < l->lt (p.getD i 0) (p.getD k 0)=true)(h2:∀i,l<=i->i < k->lt (p.getD k 0) (p.getD i 0)=true):Up lt (HE p k (k - l)) (k+1):=by
 have hs:=hp.size;intro i j hij hj;rw [va J4 J4,va J4 J4];have e:k - (k - l)=l:=J4
 rw [e];clear hs e hk;by_cases hi:i=l
 ·rw [J6 hi,J5 J4,J6 J4];exact h2 _ J4 J4
 ·rw [J5 hi];by_cases hi2:l < i/\i<=k
  ·rw [J6 hi2,J5 J4,J6 J4];exact hu _ _ J4 J4
  ·rw [J5 hi2];by_cases hj1:j=l
   ·rw [J6 hj1];exact h1 _ J4
   ·rw [J5 hj1];by_cases hj2:l < j/\j<=k
    ·rw [J6 hj2];exact hu _ _ J4 J4
    ·rw [J5 hj2];exact hu _ _ hij J4
theorem vb(A:ng n lt I cmp)(T:j3 n lt){Q:Array Nat->Kf->Prop}:∀(f:Nat)(p:Array Nat)(k:Nat)(s:Kf),k+f=n->aV n p->Up lt p k->I s->(∀p' s',I s'->aV n p'->Up lt p' n->Q p' s')->(kas_bin f p k).kasWp cmp Q s
 | 0,p,k,s,hf,hp,hu,hI,q=>q p s hI hp (by rw [show n=k by omega];exact hu)
 | f+1,p,k,s,hf,hp,hu,hI,q=>by
  unfold kas_bin;rw [He];have hk:k < n:=J4
  refine rG A T hp hk hu k 0 k s J4 J4 (DU _) hI (λi z=>by omega) (λi a b=>by omega) λl s' hI' hl h1 h2=>?_;exact vb A T f _ (k+1) s' J4 (hp.bubble _ _) (hu.ins T hp hk hl h1 h2) hI' q
theorem Bs(A:ng n lt I cmp)(T:j3 n lt)(h2:2<=n){Q:Array Nat->Kf->Prop}{s:Kf}(hI:I s)(q:∀p s',I s'->aV n p->Up lt p n->Q p s'):(kas_sort n).kasWp cmp Q s:=by
 unfold kas_sort;rw [He];refine Br A T h2 (rE n) hI λk p s1 hI1 k1 k2 hp hu=>?_;dsimp only;by_cases hk:k < n
 ·rw [J6 hk,show max k 1=k by omega];exact vb A T (n - k) p k s1 J4 hp hu hI1 q
 ·rw [J5 hk];exact q p s1 hI1 hp (by rw [show n=k by omega];exact hu)
end
def aw(p q:Int×Str):Bool:=decide (p.1 < q.1) || (decide (p.1=q.1) && decide (p.2.cps.toList < q.2.cps.toList))
def fD(h:Km)(v:Kc)(p:Int×Str):Prop:=∃a o n t u,v= .ref a/\h.get? a=some o/\o.cls= .type "tuple"/\o.data= .seq #[.int p.1 t,.str p.2 u] n
section
variable {P:Kp} {w:Kq} {A:Kr} {E:Kc->Kf->Prop} {s:Kf}
theorem Bt{v u:Kc}{p q:Int×Str}{Q:Bool->Kf->Prop}(hv:fD s.heap v p)(hu:fD s.heap u q)(h:Q (aw p q) s):Kh (Ki P w) A (keyLt' (tuples' true) v u) Q E s:=by
 obtain⟨a,oa,na,t1,t2,rfl,ha,_,da⟩:=hv;obtain⟨b,ob,nb,t3,t4,rfl,hb,_,db⟩:=hu;refine kat_lt ha da hb db (kat_cons ((intKind P w).eqBool (intKind_is _ _ _ _) (intKind_is _ _ _ _) (kat_go (λe1=>?_) λe1=>?_)))
 ·have e1:p.1=q.1:=by simpa using e1
  refine kat_yes (kat_cons ((PySem.strKind P w).eqBool (strKind_is _ _ _ _) (strKind_is _ _ _ _) (kat_go (λe2=>?_) λe2=>?_)))
  ·have e2:p.2=q.2:=by simpa using e2
   refine kat_yes (kat_nil ?_);have:aw p q=false:=by unfold aw;rw [e1,e2];simp
   rw [this] at h;simpa using h
  ·have e2:p.2≠q.2:=by simpa using e2
   refine kat_no (kat_one _ _ ?_);have:aw p q=decide (p.2.cps.toList < q.2.cps.toList):=by unfold aw;simp [e1]
   rw [this] at h;exact lt_str h
 ·have e1:p.1≠q.1:=by simpa using e1
  refine kat_no ?_;show Kh _ _ (oneLt' true _ _) _ _ _;refine oneLt_int ?_;have:aw p q=decide (p.1 < q.1):=by unfold aw;simp [e1]
  rw [this] at h;exact h
theorem vc{n:Nat}{kp:Nat->Int×Str}(hd:∀i j,i < n->j < n->kp i=kp j->i=j):j3 n λi j=>aw (kp i) (kp j):=by
 have tl:∀a b:Str,a≠b->(decide (a.cps.toList < b.cps.toList))=!decide (b.cps.toList < a.cps.toList):=λa b h=>by
  by_cases z:a.cps.toList < b.cps.toList
  ·rw [decide_eq_true z,decide_eq_false (List.lt_asymm z)];rfl
  ·have z2:b.cps.toList<=a.cps.toList:=Jj.mp z;have:b.cps.toList < a.cps.toList:=by
    rcases Classical.em (b.cps.toList < a.cps.toList) with y | y
    ·exact y
    ·exact absurd (uC (Jm (Jj.mp y) z2)) h
   rw [decide_eq_false z,decide_eq_true this];rfl
 refine⟨λi j hi hj hij=>?_,λi j k hi hj hk h1 h2=>?_⟩
 ·have hne:kp i≠kp j:=λe=>hij (hd i j hi hj e);unfold aw;by_cases e:(kp i).1=(kp j).1
  ·have e2:(kp i).2≠(kp j).2:=λz=>hne (Prod.ext e z);simp only [e,Int.lt_irrefl,decide_false,FQ,decide_true,FT];exact tl _ _ e2
  ·have e':(kp j).1≠(kp i).1:=λz=>e z.symm;simp only [e,e',decide_false,Jy,Fm];by_cases z:(kp i).1 < (kp j).1
   ·rw [decide_eq_true z,decide_eq_false J4];rfl
   ·rw [decide_eq_false z,decide_eq_true J4];rfl
 ·unfold aw at h1 h2⊢;simp only [Jv,F5,decide_eq_true_eq] at h1 h2⊢;rcases h1 with h1 | ⟨h1,h1'⟩ <;> rcases h2 with h2 | ⟨h2,h2'⟩
  ·left;omega
  ·left;omega
  ·left;omega
  ·right;exact⟨h1.trans h2,JG h1' h2'⟩
theorem vd{ks:List Kc}{kp:Nat->Int×Str}(hk:∀i v,ks[i]?=some v->fD s.heap v (kp i))(h2:2<=ks.length){Q:SortKind->Kf->Prop}(h:Q (tuples' true) s):Kh (Ki P w) A (keyKind' ks.toArray) Q E s:=by
 have key:∀(ks:List Kc)(kp:Nat->Int×Str),(∀i v,ks[i]?=some v->fD s.heap v (kp i))->∃fs:List Kc,KatTups s.heap ks fs/\fs.length=ks.length/\∀v∈fs,∃n t,v=G2 n t:=by
  intro ks
  induction ks with
  | nil=>intro kp _;exact⟨[],KatTups.nil,rfl,Ka⟩
  | cons v ks ih=>
   intro kp hk;obtain⟨fs,a,b,c⟩:=ih (λi=>kp (i+1)) λi v e=>hk (i+1) v (by simpa using e);obtain⟨ad,o,n,t,u,rfl,h1,h2,h3⟩:=hk 0 v rfl;refine⟨.int (kp 0).1 t::fs,KatTups.cons h1 h2 h3 rfl a,by simp [b],λx hx=>?_⟩;rcases D3.mp hx with rfl | hx
   ·exact⟨_,_,rfl⟩
   ·exact c x hx
 obtain⟨fs,a,b,c⟩:=key ks kp hk;refine kat_kind (T:= .type "int") a J4 (λv hv=>?_) J3 h;obtain⟨n,t,rfl⟩:=c v hv;exact .now
theorem ve{n:Nat}{ks:List Kc}{kp:Nat->Int×Str}(hn:ks.length=n)(h2:2<=n)(hk:∀i v,ks[i]?=some v->fD s.heap v (kp i))(hd:∀i j,i < n->j < n->kp i=kp j->i=j){G:Array Nat->Kf->Prop}
 (q:∀p,aV n p->Up (λi j=>aw (kp i) (kp j)) p n->G p s):(kas_sort n).kasWp (kas_ask P w A (tuples' true) ks) G s:=by
 refine Bs (lt:=λi j=>aw (kp i) (kp j)) (I:=λs'=>s'=s) ⟨λi j C s' hi hj hij e c=>?_⟩ (vc hd) h2 rfl λp s' e hp hu=>by subst e;exact q p hp hu
 subst e;have ei:ks[i]?=some (ks.getD i .none):=by simp [show i < ks.length by omega]
 have ej:ks[j]?=some (ks.getD j .none):=by simp [show j < ks.length by omega]
 exact Bt (hk i _ ei) (hk j _ ej) (c _ rfl)
def vf(kS D:Ke)(s:Kf)(out:List Kc)(C:Kf->Prop):Prop:=∀h' c,h'.get? D=some (Ku "list" out.toArray c)->(∀b u,b≠kS->b≠D->s.heap.get? b=some u->h'.get? b=some u)->C {s with heap:=h'}
theorem vg{st:SortSt}{kS D:Ke}{ks out:List Kc}{e e1:Nat}{C:IZ->Kf->Prop}(hk:s.heap.get? kS=some (Ku "list" ks.toArray e))(hD:s.heap.get? D=some (Ku "list" #[] e1))(hne:kS≠D)(hf:failedOf st=none)
 (ho:(arrOf st).map (·.2)=out.toArray)(h64:out.length < 64)(hk64:ks.length < 64)(q:vf kS D s out (C (.done (.ret .none)))):Kh (Ki P w) A (ksk_tail D false e1 (.ref kS) st) C E s:=by
 have hsl:Kl=16777216:=Kv;unfold ksk_tail;rw [ho];refine Kd (K8 hk rfl (Kd (wpAny_letGo ?_)) (by rw [Eb];omega) (E1 _));have u1:=EB s.heap kS (EN λ_=>(#[]:Array Kc));have hD1:(s.heap.update kS (EN λ_=>(#[]:Array Kc))).get? D=some (Ku "list" #[] e1):=(u1.2 D (Ne.symm hne)).trans hD;refine Kd (seqEpoch_at (s:={s with heap:=s.heap.update kS (EN λ_=>(#[]:Array Kc))}) hD1 rfl ?_);rw [J5 Ka];refine Kd (K8 (s:={s with heap:=s.heap.update kS (EN λ_=>(#[]:Array Kc))}) hD1 rfl ?_ (E1 _) (by show out.toArray.size<=_;rw [Eb];omega));have u2:=EB (s.heap.update kS (EN λ_=>(#[]:Array Kc))) D (EN λ_=>out.toArray);rw [hf];simp only [bne_self_eq_false,Eu,if_false];exact Kg (q _ _ (Lc hD1 λ_=>out.toArray) λb u n1 n2 z=>(u2.2 b n2).trans ((u1.2 b n1).trans z))
theorem Bu{kS D:Ke}{vs ks:List Kc}{n e e1:Nat}{kp:Nat->Int×Str}{C:IZ->Kf->Prop}(hv:vs.length=n)(hn:ks.length=n)(h64:n < 64)(hks:s.heap.get? kS=some (Ku "list" ks.toArray e))(hD:s.heap.get? D=some (Ku "list" #[] e1))(hne:kS≠D)
 (hk:∀i v,ks[i]?=some v->fD s.heap v (kp i))(hd:∀i j,i < n->j < n->kp i=kp j->i=j)
 (q:∀p,aV n p->Up (λi j=>aw (kp i) (kp j)) p n->vf kS D s (p.toList.map λi=>vs.getD i .none) (C (.done (.ret .none)))):Kh (Ki P w) A (ksk_end D false vs.toArray e1 (.ref kS) ks.toArray) C E s:=by
 unfold ksk_end;have hz:vs.toArray.size=n:=by rw [Eb];exact hv
 by_cases h2:n < 2
 ·simp only [Eu,if_false,hz,h2,if_true];refine Kd (Kg (Kd (Kg ?_)));refine vg hks hD hne rfl (out:=vs) ?_ J4 J4 ?_
  ·show(ks.toArray.zip vs.toArray).map (·.2)=vs.toArray;apply Jo.mp;simp only [Jp,Jq];rw [Jr J4]
  ·have:=q _ (rE n) (λi j a b=>by omega);have e:((IY (EZ n)).toList.map λi=>vs.getD i Gm)=vs:=by
    apply GL (by simp [hv]);intro i a b;simp at a b⊢;rw [D1 b];rfl
   rw [e] at this;exact this
 ·simp only [Eu,if_false,hz,h2];refine Kd (vd hk J4 ?_);have hl:ks.length=vs.length:=J4
  refine Kd (Ky (kat_run (κ:=tuples' true) (E:=λ_ _=>False) (Q:=λst' s'=>s'=s/\∃p,aV n p/\Up (λi j=>aw (kp i) (kp j)) p n/\arrOf st'=p.map (kas_item (ks.toArray.zip vs.toArray))/\failedOf st'=none) (G:=λp s'=>s'=s/\aV n p/\Up (λi j=>aw (kp i) (kp j)) p n) hl J4 J4
   (λp st' s' a b c d=>⟨d.1,p,d.2.1,d.2.2,b,c⟩) ?_) (λr s' hr=>?_) λ_ _ x=>x.elim)
  ·rw [hv];exact ve hn J4 hk hd λp a b=>⟨rfl,a,b⟩
  ·obtain⟨rfl,p,p1,p2,p3,p4⟩:=hr;refine vg hks hD hne p4 (kat_snds hl p3) ?_ J4 (q p p1 p2);rw [DP,D2,p1.size];exact h64
end
section
variable {X:Cx} {LL:List (Ke×Obj)} {σ:St} {H:Hp} {s:Kf}
theorem aa.track{o:HO}{D:Ke}{ch:List Ke}{t':Nat}{h':Km}(I:aa X LL σ H s)(hD:D∈ch)(f:∀b∈ch,dG X LL H b)(k:∀b u,b ∉ ch->s.heap.get? b=some u->h'.get? b=some u)(new:bz X.prog X.w (ai H D o) h' D o):aa X LL σ (ai H D o) {s with heap:=h',toks:=t'}:=by
 have nC:∀b u,H b=some u->b ∉ ch:=λb u e z=>by rw [(f b z).1] at e;cases e
 have nD:∀b u,H b=some u->b≠D:=λb u e z=>nC b u e (by rw [z];exact hD);refine I.step (g':=s.gens) (d':=s.drawn) (ch:=ch) (λb hb=>?_) (λb o _ _ hc e _=>k b o hc e) (λb o _ _ hc e _=>⟨o.slots,k b o hc e⟩) (λb o hc _ n=>by rw [au (λz=>hc (by rw [z];exact hD))];exact n)
  (λb o hc e=>⟨o,k b o hc e⟩) (λb xs e=>by rw [au (nD _ _ e)];exact e) (λb u xs e=>by rw [au (nD _ _ e)];exact e) (λb ps e=>⟨#[],by rw [au (nD _ _ e),e];simp⟩) (λm hm=>hm.at' λo e=>k _ o (λz=>(f _ z).2.1 rfl) e) (λb u e=>?_) I.bare
 ·obtain⟨f0,f1,f2,f3,f4,f5⟩:=f b hb;exact⟨f3,f1,f4,f5⟩
 ·by_cases hb:b=D
  ·subst hb;rw [bf] at e;cases e;exact new
  ·rw [au hb] at e;refine(I.hok b u e).stay (λc v hc q=>k c v (λz=>?_) q) (λc q=>by rw [au (nD _ _ q)];exact q) (λc xs q=>by rw [au (nD _ _ q)];exact q) (λc xs q=>by rw [au (nD _ _ q)];exact q);rcases hc with r | r
   ·subst r;exact nC _ _ e z
   ·exact nC _ _ r z
theorem Bv{k:Nat}{f:Ke}{fd:Ko}{ps:List Str}{sp:Sp}{v:V}{u:Kc}{Q:VK}(Fk:ay X.prog X.w X.K X.mg X.base aK k f fd ps sp)(hr:aH k X.A.in1.in1)(hb:cq X.K fd ps [])(I:aa X LL σ H s)(r:aD v u)(h:sp [v] H Q E0):
 Kh (Ki X.prog X.w) X.A.in1.in1 (call (.ref f) [u]) (EP X LL σ Q) (λ_ _=>False) s:=by
 have r2:aq [v] [u]:= .cons r .nil;have hl:([u]++[]).length=ps.length:=by
  have:=Fk.len _ _ _ _ h;simpa using this
 have hb2:=hb s [u] I.kIn hl;rw [Er] at hb2;refine wpAny_call (KR (Fk.run X.A.in1.in1 X.stack s H ⟨[u],[]⟩ [u] [v] Q E0 hr I.env0.in1.in1 hb2 r2 h) λr s' hq=>?_);cases r with
 | error e=>exact hq.elim
 | ok fl=>
  cases fl with
  | ret u=>exact I.after hq
  | next=>exact E7 hq
  | brk=>exact E7 hq
  | cont=>exact E7 hq
def lQ(X:Cx)(LL:List (Ke×Obj))(b:Ke):Prop:=b≠X.env.locals/\b ∉ X.fs/\(b∈X.ex\/X.s₀.heap.objs.size<=b)/\(∀x c,X.env.cells.lookup x=some c->c≠b)/\∀p∈X.pn++LL,p.1≠b
theorem aa.out(I:aa X LL σ H s){b:Ke}(hb:s.heap.objs.size<=b):lQ X LL b:=(I.fpOk (H':=H) hb (I.hok.fresh hb)).2
structure lR (X:Cx) (LL:List (Ke×Obj)) (σ:St) (H:Hp) (O:Ex) (kS D:Ke) (e1:Nat) (kds:List Kb) (ks:List Kc) (s:Kf):Prop where
 ex:∃H' kvs e,aa X (LL++[(kS,Ku "list" ks.toArray e),(D,Ku "list" #[] e1)]) σ H' s/\ah H H'/\ag X.K H' O kvs kds/\aq kvs ks
theorem lR.push{O:Ex}{kS D:Ke}{e1:Nat}{kds:List Kb}{ks:List Kc}{H':Hp}{kvs:List V}{e:Nat}{h':Km}{kv:V}{kd:Kb}{k:Kc}(oS:lQ X LL kS)(oD:lQ X LL D)(hne:kS≠D)
 (I:aa X (LL++[(kS,Ku "list" ks.toArray e),(D,Ku "list" #[] e1)]) σ H' s)(hs:ah H H')(hk:ag X.K H' O kvs kds)(hv:aq kvs ks)(k1:Dt X.K H' O kv kd)(k2:aD kv k)
 (hu:∃e',h'.get? kS=some (Ku "list" (ks++[k]).toArray e'))(kept:∀b u,b≠kS->s.heap.get? b=some u->h'.get? b=some u):lR X LL σ H O kS D e1 (kds++[kd]) (ks++[k]) {s with heap:=h'}:=by
 obtain⟨e',hu⟩:=hu;have pS:=I.pin (kS,Ku "list" ks.toArray e) Ka;have pD:=I.pin (D,Ku "list" #[] e1) Ka;have I1:aa X LL σ H' s:=I.pins_of λp hp=>I.pin p (by simp only [Ei] at hp⊢;exact .inr (.inl hp));have I2:aa X LL σ H' {s with heap:=h'}:=I1.turned (t':=s.toks) (it:=kS) kept pS.2.1 oS.1 oS.2.2.1 oS.2.2.2.1 oS.2.2.2.2;refine⟨H',kvs++[kv],e',I2.pins_of λp hp=>?_,hs,hk.append (.cons k1 .nil),hv.append (.cons k2 .nil)⟩;rcases Ei.mp hp with z | z
 ·exact I2.pin p (Ey _ z)
 ·simp only [D3,EU,or_false] at z;rcases z with rfl | rfl
  ·exact⟨hu,pS.2.1,oS.1,oS.2.1,λv z=>by cases z⟩
  ·exact⟨kept _ _ (Ne.symm hne) pD.1,pD.2.1,oD.1,oD.2.1,λv z=>by cases z⟩
theorem vh{k:Nat}{f:Ke}{fd:Ko}{ps:List Str}{F:List Kb->(Kb->Prop)->Prop}{O:Ex}{kS D:Ke}{e1:Nat}{kd:Kb->Kb}(Fk:ay X.prog X.w X.K X.mg X.base aK k f fd ps (aX X.K F))(hr:aH k X.A.in1.in1)(hb:cq X.K fd ps [])(trk:∀l,O l->H l≠none)
 (oS:lQ X LL kS)(oD:lQ X LL D)(hne:kS≠D){body:Kc->PUnit->Sem (ForInStep PUnit)}{E:Kc->Kf->Prop}
 (hbo:∀(x:Kc) (s:Kf) (Q':Kf->Prop),Kh (Ki X.prog X.w) X.A.in1.in1 (call (.ref f) [x]) (λk s'=>Kh (Ki X.prog X.w) X.A.in1.in1 (Ik (.ref kS) (·.push k)) (λ_ s''=>Q' s'') (λ_ _=>False) s') (λ_ _=>False) s->Kh (Ki X.prog X.w) X.A.in1.in1 (body x ⟨⟩) (λr s'=>r= .yield ⟨⟩/\Q' s') E s):
 ∀(r:List Kc)(xr:List V)(dr:List Kb)(kds:List Kb)(ks:List Kc)(s:Kf)(Q:Kf->Prop),aq xr r->ag X.K H O xr dr->(∀d∈dr,∀R:Kb->Prop,R (kd d)->F [d] R)->lR X LL σ H O kS D e1 kds ks s->ks.length+r.length < 64->
  (∀ks' s',lR X LL σ H O kS D e1 (kds++dr.map kd) ks' s'->ks'.length=ks.length+r.length->Q s')->Kh (Ki X.prog X.w) X.A.in1.in1 (forIn r PUnit.unit body) (λ_ s'=>Q s') E s
 | [],xr,dr,kds,ks,s,Q,hv,hd,hF,M,hl,q=>by
  cases hv;cases hd;rw [Jz];exact Kg (q ks s (by rw [EW,Er];exact M) Ka)
 | x::r,xr,dr,kds,ks,s,Q,hv,hd,hF,M,hl,q=>by
  cases hv with
  | @cons v _ xr _ h1 h2=>
   cases hd with
   | @cons _ d _ dr g1 g2=>
    rw [Js];rw [D4] at hl;obtain⟨H',kvs,e,I,hs,hk,hvk⟩:=M.ex;refine Kd (Ky (hbo x s (λs'=>∃k,lR X LL σ H O kS D e1 (kds++[kd d]) (ks++[k]) s') (Ky (Bv (Q:=λv2 H2=>ah H' H2/\Dt X.K H2 O v2 (kd d)) Fk hr hb I h1 ⟨O,[d],λy=>y=kd d,λl z e=>trk l z (by
     cases q:H l with
     | none=>rfl
     | some u=>rw [hs _ _ q] at e;cases e),.cons (g1.mono hs) .nil,hF d Ka _ rfl,λy v2 H2 e s2 r2=>by subst e;exact⟨s2,r2⟩⟩) (λkk s' hq=>?_) λ_ _ z=>z)) (λr' s' hq=>?_) λ_ _ z=>z)
    ·obtain⟨kv,H2,I2,rk,s2,dk⟩:=hq;have pS:=I2.pin (kS,Ku "list" ks.toArray e) Ka;refine K8 pS.1 rfl ⟨kk,?_⟩ (by rw [Eb];have:Kl=16777216:=Kv;omega) (by rw [Array.size_push,Eb];have:Kl=16777216:=Kv;omega);have u1:=EB s'.heap kS (EN (·.push kk));have gk:=Lc pS.1 (·.push kk);rw [show ks.toArray.push kk=(ks++[kk]).toArray by simp] at gk;exact lR.push oS oD hne I2 (hs.trans s2) (hk.mono s2) hvk dk rk ⟨_,gk⟩ λb u n z=>(u1.2 b n).trans z
    ·obtain⟨rfl,kk,M'⟩:=hq;refine vh Fk hr hb trk oS oD hne hbo r xr dr (kds++[kd d]) (ks++[kk]) s' Q h2 g2 (λy hy=>hF y (by simp [hy])) M' (by simp;omega) λks' s2 M2 l2=>q ks' s2 ?_ (by rw [l2];simp;omega);rw [D9,<-List.singleton_append,<-Jf];exact M2
def bx(p:Int×Str):Kb:= .tuple [.int p.1,.str p.2]
theorem rH{h:V}{u:Kc}{O:Ex}{p:Int×Str}(I:aa X LL σ H s)(d:Dt X.K H O h (bx p))(r:aD h u):fD s.heap u p:=by
 obtain⟨a,xs,rfl,hq,hd⟩:=(Sh.dt d).tup;cases r;obtain⟨its,rv,⟨o,e,c,n,dd⟩,_⟩:=I.tuple hq;cases hd with
 | cons g1 g2=>
  cases g2 with
  | cons g2 g3=>
   cases g3;cases g1;cases g2;cases rv with
   | cons r1 r2=>
    cases r2 with
    | cons r2 r3=>
     cases r3;obtain⟨t,rfl⟩:=r1;obtain⟨u,rfl⟩:=r2;exact⟨a,o,n,t,u,rfl,e,c,dd⟩
theorem n8{K:DL}{H:Hp}{O:Ex}:∀{xs:List V}{ds:List Kb}{i:Nat}{d:Kb},ag K H O xs ds->ds[i]?=some d->∃x,xs[i]?=some x/\Dt K H O x d
 | _,_,0,d,.cons h r,e=>by simp at e;subst e;exact⟨_,rfl,h⟩
 | _,_,i+1,d,.cons h r,e=>by simp only [Eg] at e⊢;exact n8 r e
theorem n9{xs:List V}{us:List Kc}:∀{i:Nat}{u:Kc},aq xs us->us[i]?=some u->∃x,xs[i]?=some x/\aD x u:=by
 intro i u h e;have hl:=h.length;have hi:i < us.length:=(DZ.mp e).1;obtain⟨u',e',r⟩:=h.get (show xs[i]?=some (xs[i]'J4) by simp);rw [e] at e';cases e';exact⟨_,Ka,r⟩
theorem Bw{O:Ex}{kS D:Ke}{e1:Nat}{kps:List (Int×Str)}{ks:List Kc}(M:lR X LL σ H O kS D e1 (kps.map bx) ks s):(∀i v,ks[i]?=some v->fD s.heap v (kps.getD i (0,DM "")))/\ks.length=kps.length:=by
 obtain⟨H',kvs,e,I,hs,hk,hv⟩:=M.ex;have hl:ks.length=kps.length:=by rw [<-hv.length,hk.length,DP]
 refine⟨λi v ei=>?_,hl⟩;have hi:i < kps.length:=by rw [<-hl];exact(DZ.mp ei).1
 obtain⟨x,ex,rx⟩:=n9 hv ei;obtain⟨y,ey,dy⟩:=n8 (i:=i) (d:=bx kps[i]) hk (by rw [D7,D1 hi];rfl);rw [ex] at ey;cases ey;have:kps.getD i (0,DM "")=kps[i]:=by simp [hi]
 rw [this];exact rH I dy rx
theorem Bx{k:Nat}{f:Ke}{fd:Ko}{ps:List Str}{F:List Kb->(Kb->Prop)->Prop}{O:Ex}{D:Ke}{n0:Nat}{kf:Kb->Int×Str}{vs:List Kc}{xs:List V}{ds:List Kb}{Q:V->Hp->Prop}{C:IZ->Kf->Prop}{E:Kc->Kf->Prop}
 (Fk:ay X.prog X.w X.K X.mg X.base aK k f fd ps (aX X.K F))(hr:aH k X.A.in1.in1)(hb:cq X.K fd ps [])(trk:∀l,O l->H l≠none)(I:aa X LL σ H s)(oD:lQ X LL D)(hHD:H D=none)(hD:s.heap.get? D=some (Ku "list" vs.toArray n0))
 (hv:aq xs vs)(hd:ag X.K H O xs ds)(hF:∀d∈ds,∀R:Kb->Prop,R (bx (kf d))->F [d] R)(h64:ds.length < 64)(nd:(ds.map kf).Nodup)
 (q:∀(H':Hp) (xs':List V) (ds':List Kb),ah H H'->H' D=none->ag X.K H' O xs' ds'->ds'.Perm ds->ds'.Pairwise (λa b=>aw (kf a) (kf b)=true)->Q (.ref D) (ai H' D (.lst xs')))
 (fin:∀s',EP X LL σ Q (.ref D) s'->C (.done (.ret .none)) s'):Kh (Ki X.prog X.w) X.A.in1.in1 (ksk_tree D (.ref f) false) C E s:=by
 have hsl:Kl=16777216:=Kv;have lv:vs.length=ds.length:=by rw [<-hv.length,hd.length]
 have lD:D < s.heap.objs.size:=DV hD;unfold ksk_tree;refine Kd (listItems_at hD rfl (Kd (K8 hD rfl ?_ (by rw [Eb];omega) (E1 _))));have u1:=EB s.heap D (EN λ_=>(#[]:Array Kc));have g1:=Lc hD λ_=>(#[]:Array Kc);have I1:aa X LL σ H {s with heap:=s.heap.update D (EN λ_=>(#[]:Array Kc))}:=I.turned (t':=s.toks) (it:=D) (λb u n z=>(u1.2 b n).trans z) hHD oD.1 oD.2.2.1 oD.2.2.2.1 oD.2.2.2.2;generalize s.heap.update D (EN λ_=>(#[]:Array Kc))=h1 at*;generalize (if (#[]:Array Kc).size==vs.toArray.size then n0 else n0+1)=e1 at*;refine Kd (seqEpoch_at (s:={s with heap:=h1}) g1 rfl ?_);refine Kd (wpAny_newTuple ?_ (by show vs.length<=_;omega));have I2:aa X LL σ H {s with heap:=h1.push {cls:= .type "tuple",data:= .seq vs.toArray}}:=I1.kept (t':=s.toks) λb u z=>DN _ z;have g2:(h1.push {cls:= .type "tuple",data:= .seq vs.toArray}).get? D=some (Ku "list" #[] e1):=DN _ g1;show Kh _ _ _ _ _ {s with heap:=h1.push {cls:= .type "tuple",data:= .seq vs.toArray}};generalize h1.push {cls:= .type "tuple",data:= .seq vs.toArray}=h2 at*;refine Kd (Ll (s:={s with heap:=h2}) ?_ (E1 _));have oS:lQ X LL h2.objs.size:=I2.out (DU _);have hne:h2.objs.size≠D:=GJ (DV g2);have I3:aa X LL σ H {s with heap:=h2.push (Ku "list" #[] 0)}:=I2.kept (t':=s.toks) λb u z=>DN _ z;have hS0:H h2.objs.size=none:=I2.hok.fresh (DU _);have M0:lR X LL σ H O h2.objs.size D e1 [] [] {s with heap:=h2.push (Ku "list" #[] 0)}:=by
  refine⟨H,[],0,I3.pins_of λp hp=>?_,ah.refl _,.nil,.nil⟩;rcases Ei.mp hp with z | z
  ·exact I3.pin p (Ey _ z)
  ·simp only [D3,EU,or_false] at z;rcases z with rfl | rfl
   ·exact⟨D5 _ rfl,hS0,oS.1,oS.2.1,λv z=>by cases z⟩
   ·exact⟨DN _ g2,hHD,oD.1,oD.2.1,λv z=>by cases z⟩
 refine KN ?_;unfold ksk_rest;refine Kd (wpAny_rule ?_);rw [List.forIn_toArray];refine Kd (vh (kd:=λd=>bx (kf d)) (E:=E) Fk hr hb trk oS oD hne (λx s' Q' hx=>?_) vs xs ds [] [] _ _ hv hd hF M0 (by simp;omega) λks s' M hkl=>?_)
 ·refine Kd (Lk (Ky hx (λkk s2 hk=>?_) λ_ _ z=>z.elim));exact Kd (Ky hk (λ_ s3 z=>Kg ⟨rfl,z⟩) λ_ _ z=>z.elim)
 ·rw [EJ,<-Function.comp_def,<-Ga] at M;obtain⟨hk,hkn⟩:=Bw M;rw [DP] at hkn;obtain⟨H',kvs,e,I4,hs,_,_⟩:=M.ex;have pS:=I4.pin (h2.objs.size,Ku "list" ks.toArray e) Ka;have pD:=I4.pin (D,Ku "list" #[] e1) Ka;have I5:aa X LL σ H' s':=I4.pins_of λp hp=>I4.pin p (by simp only [Ei] at hp⊢;exact .inr (.inl hp));refine Kd (listItems_at pS.1 rfl ?_);refine Bu (n:=ds.length) (kp:=λi=>(ds.map kf).getD i (0,DM "")) lv hkn h64 pS.1 pD.1 hne hk (λi j hi hj ee=>?_) λp pp pu h' c gD kept=>?_
  ·have e1':(ds.map kf).getD i (0,DM "")=(ds.map kf)[i]'(by simpa using hi):=by simp [hi]
   have e2':(ds.map kf).getD j (0,DM "")=(ds.map kf)[j]'(by simpa using hj):=by simp [hj]
   rw [e1',e2'] at ee;exact(Hx nd).mp ee
  ·refine fin _ ⟨.ref D,ai H' D (.lst (p.toList.map λi=>xs.getD i .non)),?_,rfl,q H' _ (p.toList.map λi=>ds.getD i .none) hs pD.2.1 ?_ ?_ ?_⟩
   ·refine I5.track (t':=s'.toks) (ch:=[h2.objs.size,D]) Ka (λb hb=>?_) (λb u hb z=>kept b u (λy=>hb (by simp [y])) (λy=>hb (by simp [y])) z) ⟨?_,_,c,?_,gD⟩
    ·simp only [D3,EU,or_false] at hb;rcases hb with rfl | rfl
     ·exact⟨pS.2.1,oS⟩
     ·exact⟨pD.2.1,oD⟩
    ·rw [DP,D2,pp.size];omega
    ·have:∀l:List Nat,(∀i∈l,i < ds.length)->aq (l.map λi=>xs.getD i .non) (l.map λi=>vs.getD i .none):=by
      intro l
      induction l with
      | nil=>intro _;exact .nil
      | cons a l ih=>
       intro hl;have ha:=hl a Ka;refine .cons ?_ (ih λi hi=>hl i (by simp [hi]));obtain⟨x,ex,rx⟩:=n9 hv (show vs[a]?=some (vs[a]'J4) by simp);have e1':xs.getD a .non=x:=by simp [ex]
       have e2':vs.getD a .none=vs[a]'J4:=by simp [show a < vs.length by omega]
       show aD (xs.getD a .non) (vs.getD a .none);rw [e1',e2'];exact rx
     exact this _ λi hi=>by simpa using pp.perm.mem_iff.mp hi
   ·have:∀l:List Nat,(∀i∈l,i < ds.length)->ag X.K H' O (l.map λi=>xs.getD i .non) (l.map λi=>ds.getD i .none):=by
     intro l
     induction l with
     | nil=>intro _;exact .nil
     | cons a l ih=>
      intro hl;have ha:=hl a Ka;refine .cons ?_ (ih λi hi=>hl i (by simp [hi]));obtain⟨x,ex,dx⟩:=n8 (i:=a) (d:=ds[a]) hd (by simp [ha]);have e1':xs.getD a .non=x:=by simp [ex]
      have e2':ds.getD a .none=ds[a]:=by simp [ha]
      show Dt X.K H' O (xs.getD a .non) (ds.getD a .none);rw [e1',e2'];exact dx.mono hs
    exact this _ λi hi=>by simpa using pp.perm.mem_iff.mp hi
   ·have h1:=pp.perm.map λi=>ds.getD i .none;have e:(EZ ds.length).map (λi=>ds.getD i Iq)=ds:=by
     apply GL Ka;intro i a b;simp at a b⊢;rw [D1 b];rfl
    rw [e] at h1;exact h1
   ·rw [GA,HZ];intro i j hi hj hij;have:=pu i j hij (by rw [D2,pp.size] at hj;exact hj);have ei:p.getD i 0=p.toList[i]:=by simp [Hn,show i < p.size by simpa using hi]
    have ej:p.getD j 0=p.toList[j]:=by simp [Hn,show j < p.size by simpa using hj]
    rw [ei,ej] at this;have li:p.toList[i] < ds.length:=by simpa using pp.perm.mem_iff.mp (FH hi)
    have lj:p.toList[j] < ds.length:=by simpa using pp.perm.mem_iff.mp (FH hj)
    have ff:∀a,a < ds.length->(ds.map kf).getD a (0,DM "")=kf (ds.getD a .none):=λa ha=>by simp [ha]
    dsimp only at this;rw [ff _ li,ff _ lj] at this;exact this
theorem By{k:Nat}{f l:Ke}{fd:Ko}{ps:List Str}{F:List Kb->(Kb->Prop)->Prop}{O:Ex}{kf:Kb->Int×Str}{xs:List V}{ds:List Kb}{Q:VK}
 (hc:X.calm=true)(Fk:ay X.prog X.w X.K X.mg X.base aK k f fd ps (aX X.K F))(hr:aH k X.A.in1.in1)(hb:cq X.K fd ps [])(trk:∀l,O l->H l≠none)(I:aa X LL σ H s)(hq:aI X.K H l xs)
 (hd:ag X.K H O xs ds)(hF:∀d∈ds,∀R:Kb->Prop,R (bx (kf d))->F [d] R)(h64:ds.length < 64)(nd:(ds.map kf).Nodup)
 (q:∀(H':Hp) (p:Ke) (xs':List V) (ds':List Kb),ah H H'->H' p=none->ag X.K H' O xs' ds'->ds'.Perm ds->ds'.Pairwise (λa b=>aw (kf a) (kf b)=true)->Q (.ref p) (ai H' p (.lst xs'))):
 Kh (Ki X.prog X.w) X.A (call (.builtin "sorted") [.ref l] [(DM "key",.ref f)]) (EP X LL σ Q) X.xe s:=by
 have hsl:Kl=16777216:=Kv;obtain⟨vs,hv,pl,hz⟩:=I.list hq;have lv:vs.length=ds.length:=by rw [<-hv.length,hd.length]
 refine call_function_entry_kw kind_sorted plain_sorted entry_sorted (ksk_s1 _ _) ?_;unfold Builtin.«sorted»;refine Kd (m:=checkCount "sorted" 1 1 _) (Kg ?_);refine Kd (collect_list pl.isList ?_ J4);have I1:aa X LL σ H {s with heap:=(s.heap.push (Ku "list" #[] 0)).update s.heap.objs.size (EN (·++vs.toArray))}:=by
  refine I.kept (t':=s.toks) λb u z=>?_;have hlt:b < s.heap.objs.size:=DV z;exact(IJ _ _ _ _ (Ec hlt)).trans (DN _ z)
 generalize (s.heap.push (Ku "list" #[] 0)).update s.heap.objs.size (EN (·++vs.toArray))=h1 at*;refine Kd (Ll (s:={s with heap:=h1}) ?_ J4);have I2:aa X LL σ H {s with heap:=h1.push (Ku "list" vs.toArray 0)}:=I1.kept (t':=s.toks) λb u z=>DN _ z;have gD:(h1.push (Ku "list" vs.toArray 0)).get? h1.objs.size=some (Ku "list" vs.toArray 0):=D5 _ rfl;refine Kd (KN (wpAny_call_entry_kw slot_list_sort ⟨_,gD,rfl⟩ entry_list_sort ?_ (ksk_l1 _ _)));rw [ksk_t1];refine Bx (kf:=kf) Fk hr hb trk I2 (I1.out (DU _)) (I1.hok.fresh (DU _)) gD hv hd hF h64 nd (Q:=Q) (λH' xs' ds' a b c d e=>q H' _ xs' ds' a b c d e) λs' hs'=>?_;exact⟨_,rfl,Kg ⟨_,rfl,hs'⟩⟩
end
section
variable {P:Kp} {w:Kq} {A:Kr} {E:Kc->Kf->Prop} {s:Kf}
theorem Bz{D:Ke}{vs:List Kc}{n n0:Nat}{kp:Nat->Int×Str}{C:IZ->Kf->Prop}(hv:vs.length=n)(h64:n < 64)(hD:s.heap.get? D=some (Ku "list" vs.toArray n0))(hk:∀i v,vs[i]?=some v->fD s.heap v (kp i)/\v≠ .ref D)(hd:∀i j,i < n->j < n->kp i=kp j->i=j)
 (q:∀p,aV n p->Up (λi j=>aw (kp i) (kp j)) p n->∀h' c,h'.get? D=some (Ku "list" (p.toList.map λi=>vs.getD i .none).toArray c)->(∀b u,b≠D->s.heap.get? b=some u->h'.get? b=some u)->C (.done (.ret .none)) {s with heap:=h'}):
 Kh (Ki P w) A (Builtin.«list.sort» ⟨[.ref D],[]⟩) C E s:=by
 have hsl:Kl=16777216:=Kv;rw [list_sort_plain];refine Kd (listItems_at hD rfl (Kd (K8 hD rfl ?_ (by rw [Eb];omega) (E1 _))));have u1:=EB s.heap D (EN λ_=>(#[]:Array Kc));have g1:=Lc hD λ_=>(#[]:Array Kc);have k1:∀b u,b≠D->s.heap.get? b=some u->(s.heap.update D (EN λ_=>(#[]:Array Kc))).get? b=some u:=λb u n z=>(u1.2 b n).trans z;generalize s.heap.update D (EN λ_=>(#[]:Array Kc))=h1 at*;generalize (if (#[]:Array Kc).size==vs.toArray.size then n0 else n0+1)=e1 at*;refine Kd (seqEpoch_at (s:={s with heap:=h1}) g1 rfl ?_);refine Kd (wpAny_newTuple ?_ (by show vs.length<=_;omega));refine Kd (Ll ?_ (E1 _));have g2:((h1.push {cls:= .type "tuple",data:= .seq vs.toArray}).push {cls:= .type "list",data:= .seq ([]:List Kc).toArray}).get? D=some (Ku "list" #[] e1):=DN _ (DN _ g1);have k2:∀b u,b≠D->s.heap.get? b=some u->((h1.push {cls:= .type "tuple",data:= .seq vs.toArray}).push {cls:= .type "list",data:= .seq ([]:List Kc).toArray}).get? b=some u:=λb u n z=>DN _ (DN _ (k1 b u n z));show Kh _ _ _ _ _ {s with heap:=(h1.push {cls:= .type "tuple",data:= .seq vs.toArray}).push {cls:= .type "list",data:= .seq ([]:List Kc).toArray}};generalize (h1.push {cls:= .type "tuple",data:= .seq vs.toArray}).push {cls:= .type "list",data:= .seq ([]:List Kc).toArray}=h2 at*;refine KN ?_;have hz:vs.toArray.size=n:=by rw [Eb];exact hv
 have last:∀(st:SortSt)(p:Array Nat),aV n p->Up (λi j=>aw (kp i) (kp j)) p n->failedOf st=none->(arrOf st).map (·.2)=(p.toList.map λi=>vs.getD i .none).toArray->
  Kh (Ki P w) A (do
   let touched:=(<-seqEpoch D) !=e1
   Ik (.ref D) λ_=>(arrOf st).map (·.2)
   if let some e:=failedOf st then rule "list.sort.comparison-raised";throw e
   if touched then rule "list.sort.modified";raiseError "ValueError" "list modified during sort"
   ret .none) C E {s with heap:=h2}:=by
  intro st p p1 p2 hf ho;rw [ho,hf];refine Kd (seqEpoch_at (s:={s with heap:=h2}) g2 rfl ?_);refine Kd (K8 (s:={s with heap:=h2}) g2 rfl ?_ (E1 _) (by rw [Eb,DP,D2,p1.size];omega));simp only [bne_self_eq_false,Eu,if_false];have u3:=EB h2 D (EN λ_=>(p.toList.map λi=>vs.getD i Gm).toArray);exact Kg (q p p1 p2 _ _ (Lc g2 λ_=>(p.toList.map λi=>vs.getD i Gm).toArray) λb u n z=>(u3.2 b n).trans (k2 b u n z))
 by_cases h2':n < 2
 ·simp only [hz,h2',if_true];refine Kd (Kg (Kd (Kg ?_)));refine last _ (IY (EZ n)) (rE n) (λi j a b=>by omega) rfl ?_;show(vs.toArray.zip vs.toArray).map (·.2)=_;apply Jo.mp;simp only [Jp,Jq];rw [Jr J4];apply GL (by simp [hv]);intro i a b;simp at a b⊢;rw [D1 a];rfl
 ·simp only [hz,h2',if_false];have hk2:∀i v,vs[i]?=some v->fD h2 v (kp i):=λi v e=>by
   obtain⟨⟨a,o,m,t,u,rfl,x1,x2,x3⟩,ne⟩:=hk i v e;exact⟨a,o,m,t,u,rfl,k2 a o (λz=>ne (by rw [z])) x1,x2,x3⟩
  refine Kd (vd (s:={s with heap:=h2}) hk2 J4 ?_);refine Kd (Ky (kat_run (κ:=tuples' true) (ks:=vs) (s:={s with heap:=h2}) (E:=λ_ _=>False) (Q:=λst' s'=>s'={s with heap:=h2}/\∃p,aV n p/\Up (λi j=>aw (kp i) (kp j)) p n/\arrOf st'=p.map (kas_item (vs.toArray.zip vs.toArray))/\failedOf st'=none) (G:=λp s'=>s'={s with heap:=h2}/\aV n p/\Up (λi j=>aw (kp i) (kp j)) p n) rfl J4 J4
   (λp st' s' a b c d=>⟨d.1,p,d.2.1,d.2.2,b,c⟩) ?_) (λr s' hr=>?_) λ_ _ x=>x.elim)
  ·rw [hv];exact ve (s:={s with heap:=h2}) hv J4 hk2 hd λp a b=>⟨rfl,a,b⟩
  ·obtain⟨rfl,p,p1,p2,p3,p4⟩:=hr;exact last _ p p1 p2 p4 (kat_snds rfl p3)
end
theorem BA{X:Cx}:b7 X (.builtin "sorted") (λxs H Q=>∃(p:Ke)(us:List V)(O:Ex)(ps:List (Int×Str)),xs=[.ref p]/\aI X.K H p us/\ag X.K H O us (ps.map bx)/\ps.length < 64/\ps.Nodup/\∀(l:Ke)(us':List V)(ps':List (Int×Str)),H l=none->ag X.K H O us' (ps'.map bx)->ps'.Perm ps->ps'.Pairwise (λa b=>aw a b=true)->Q (.ref l) (ai H l (.lst us'))):=by
 intro LL s σ H xs ws Q I r h;obtain⟨l,us,O,ps,rfl,hq,hd,h64,nd,q⟩:=h;obtain⟨u,rfl,rx⟩:=fU r;cases rx;have hsl:Kl=16777216:=Kv;obtain⟨vs,hv,pl,hz⟩:=I.list hq;have lv:vs.length=ps.length:=by rw [<-hv.length,hd.length,DP]
 refine HY kind_sorted plain_sorted entry_sorted (args_sorted1 _) ?_;unfold Builtin.«sorted»;refine Kd (m:=checkCount "sorted" 1 1 _) (Kg ?_);refine Kd (collect_list pl.isList ?_ J4);have I1:aa X LL σ H {s with heap:=(s.heap.push (Ku "list" #[] 0)).update s.heap.objs.size (EN (·++vs.toArray))}:=by
  refine I.kept (t':=s.toks) λb u z=>?_;have hlt:b < s.heap.objs.size:=DV z;exact(IJ _ _ _ _ (Ec hlt)).trans (DN _ z)
 generalize (s.heap.push (Ku "list" #[] 0)).update s.heap.objs.size (EN (·++vs.toArray))=h1 at*;refine Kd (Ll (s:={s with heap:=h1}) ?_ J4);have I2:aa X LL σ H {s with heap:=h1.push (Ku "list" vs.toArray 0)}:=I1.kept (t':=s.toks) λb u z=>DN _ z;have gD:(h1.push (Ku "list" vs.toArray 0)).get? h1.objs.size=some (Ku "list" vs.toArray 0):=D5 _ rfl;have hH:H h1.objs.size=none:=I1.hok.fresh (DU _);have oD:lQ X LL h1.objs.size:=I1.out (DU _);have isp:∀i v,vs[i]?=some v->fD (h1.push (Ku "list" vs.toArray 0)) v (ps.getD i (0,DM ""))/\v≠ .ref h1.objs.size:=λi v ei=>by
  have hi:i < ps.length:=by rw [<-lv];exact(DZ.mp ei).1
  obtain⟨x,ex,rx⟩:=n9 hv ei;obtain⟨y,ey,dy⟩:=n8 (i:=i) (d:=bx ps[i]) hd (by rw [D7,D1 hi];rfl);rw [ex] at ey;cases ey;have e:ps.getD i (0,DM "")=ps[i]:=by simp [hi]
  rw [e];have a:=rH I1 dy rx;refine⟨rH I2 dy rx,λz=>?_⟩;obtain⟨ad,o,m,t,u,e1,e2,_⟩:=a;rw [e1] at z;cases z;exact absurd (DV e2) (ET _)
 refine Kd (KN (KG slot_list_sort ⟨_,gD,rfl⟩ entry_list_sort ?_ (args_list_sort _)));refine Bz (s:={s with heap:=h1.push (Ku "list" vs.toArray 0)}) (n:=ps.length) (kp:=λi=>ps.getD i (0,DM "")) lv h64 gD isp (λi j hi hj ee=>?_) λp pp pu h' c g kept=>?_
 ·have e1':ps.getD i (0,DM "")=ps[i]:=by simp [hi]
  have e2':ps.getD j (0,DM "")=ps[j]:=by simp [hj]
  rw [e1',e2'] at ee;exact(Hx nd).mp ee
 ·have lt:∀i∈p.toList,i < ps.length:=λi hi=>by simpa using pp.perm.mem_iff.mp hi
  have dm:ag X.K H O (p.toList.map λi=>us.getD i .non) ((p.toList.map λi=>ps.getD i (0,DM "")).map bx):=by
   have:∀l:List Nat,(∀i∈l,i < ps.length)->ag X.K H O (l.map λi=>us.getD i .non) ((l.map λi=>ps.getD i (0,DM "")).map bx):=by
    intro l
    induction l with
    | nil=>intro _;exact .nil
    | cons a l ih=>
     intro hl;have ha:=hl a Ka;refine .cons ?_ (ih λi hi=>hl i (by simp [hi]));obtain⟨x,ex,dx⟩:=n8 (i:=a) (d:=bx ps[a]) hd (by rw [D7,D1 ha];rfl);have e1':us.getD a .non=x:=by simp [ex]
     have e2':ps.getD a (0,DM "")=ps[a]:=by simp [ha]
     show Dt X.K H O (us.getD a .non) (bx (ps.getD a (0,DM "")));rw [e1',e2'];exact dx
   exact this _ lt
  have vm:aq (p.toList.map λi=>us.getD i .non) (p.toList.map λi=>vs.getD i .none):=by
   have:∀l:List Nat,(∀i∈l,i < ps.length)->aq (l.map λi=>us.getD i .non) (l.map λi=>vs.getD i .none):=by
    intro l
    induction l with
    | nil=>intro _;exact .nil
    | cons a l ih=>
     intro hl;have ha:=hl a Ka;refine .cons ?_ (ih λi hi=>hl i (by simp [hi]));obtain⟨x,ex,rx⟩:=n9 hv (show vs[a]?=some (vs[a]'J4) by simp);have e1':us.getD a .non=x:=by simp [ex]
     have e2':vs.getD a .none=vs[a]'J4:=by simp [show a < vs.length by omega]
     show aD (us.getD a .non) (vs.getD a .none);rw [e1',e2'];exact rx
   exact this _ lt
  refine⟨_,rfl,Kg ⟨_,rfl,.ref h1.objs.size,ai H h1.objs.size (.lst (p.toList.map λi=>us.getD i .non)),?_,rfl,q _ _ (p.toList.map λi=>ps.getD i (0,DM "")) hH dm ?_ ?_⟩⟩
  ·refine I2.track (t':=s.toks) (ch:=[h1.objs.size]) Ka (λb hb=>?_) (λb u hb z=>kept b u (λy=>hb (by simp [y])) z) ⟨?_,_,c,vm,g⟩
   ·rw [Et] at hb;subst hb;exact⟨hH,oD⟩
   ·rw [DP,D2,pp.size];omega
  ·have h1:=pp.perm.map λi=>ps.getD i (0,DM "");have e:(EZ ps.length).map (λi=>ps.getD i (0,DM ""))=ps:=by
    apply GL Ka;intro i a b;simp at a b⊢;rw [D1 b];rfl
   rw [e] at h1;exact h1
  ·rw [GA,HZ];intro i j hi hj hij;have:=pu i j hij (by rw [D2,pp.size] at hj;exact hj);have ei:p.getD i 0=p.toList[i]:=by simp [Hn,show i < p.size by simpa using hi]
   have ej:p.getD j 0=p.toList[j]:=by simp [Hn,show j < p.size by simpa using hj]
   rw [ei,ej] at this;exact this
section
variable {X:Cx} {H0:Hp} {O0:Ex}
def fE(t:DA):DA:=λδ Q=>t δ λds=>∃ps:List (Int×Str),ds=[.list (ps.map bx)]/\ps.length < 64/\ps.Nodup/\∀ps':List (Int×Str),ps'.Perm ps->ps'.Pairwise (λa b=>aw a b=true)->Q (ps'.map bx)
theorem BB{a:Kk}{t:DA}{np p:Pos}(hg:Gl X "sorted")(hm:X.mg "sorted"=none)(hv:Kw "sorted"=some (.builtin "sorted"))(ha:PA X [a] (cW X.K H0 O0 t))(he:Kj [a] X.env=(false,eval a X.env)::Kj [] X.env:=by rfl)(hpl:(KA p (Kj [] X.env)).any (·.1)=false:=by rfl):
 FE X H0 O0 (.Call (.Name "sorted" np) [a] [] p) (fE t):=
 (cu BA hg hm hv ha (he:=he) (hpl:=hpl)).imp λσ H Q uu61=>by obtain⟨O,δ,Qd,w,q,k⟩:=uu61;exact⟨O,δ,_,w,q,λds vs H1 uu62 s1 r1=>by
  obtain⟨ps,e,h64,nd,q1⟩:=uu62;subst e;cases r1 with
  | cons h r=>
   cases r;obtain⟨a,us,rfl,h1,d1⟩:=h.lst;exact⟨a,us,O,ps,rfl,h1,d1,h64,nd,λl us' ps' hl hd hp hs=>k _ _ _ _ (q1 ps' hp hs) s1 hl hd⟩⟩
def fF(F:List Kb->(Kb->Prop)->Prop)(kf:Kb->Int×Str)(t:DA):DA:=λδ Q=>t δ λds0=>∃ds,ds0=[.list ds]/\(∀d∈ds,∀R:Kb->Prop,R (bx (kf d))->F [d] R)/\ds.length < 64/\(ds.map kf).Nodup/\∀ds',ds'.Perm ds->ds'.Pairwise (λa b=>aw (kf a) (kf b)=true)->Q ds'
theorem BC{a:Kk}{t:DA}{np p gp kp:Pos}{g:Str}{k:Nat}{f:Ke}{fd:Ko}{ps:List Str}{F:List Kb->(Kb->Prop)->Prop}(kf:Kb->Int×Str)(hc:X.calm=true)(Fk:ay X.prog X.w X.K X.mg X.base aK k f fd ps (aX X.K F))(hr:aH k X.A.in1.in1)(hb:cq X.K fd ps [])
 (hgg:Gl X g)(hgm:X.mg g=some (.ref f))(hg:Gl X "sorted")(hm:X.mg "sorted"=none)(hv:Kw "sorted"=some (.builtin "sorted"))(ha:PA X [a] (cW X.K H0 O0 t))(hdb:(g==("__debug__":Str))=false:=by decide)
 (he:KA p (Kj [a] X.env)=(false,eval a X.env)::KA p (Kj [] X.env):=by rfl)(hplain:(KA p (Kj [a] X.env)).any (·.1)=false:=by rfl):
 FE X H0 O0 (.Call (.Name "sorted" np) [a] [⟨some "key",.Name g gp,kp⟩] p) (fF F kf t):=by
 intro LL s σ H Q I h;obtain⟨O,δ,Qd,w,q,kk⟩:=h;refine KS (mI I hg hm hv ?_);refine callWith_kw (ao (ha p LL s σ H (λvs H1=>∃ds0,ah H H1/\mV X.K H1 O vs ds0/\∃ds,ds0=[.list ds]/\(∀d∈ds,∀R:Kb->Prop,R (bx (kf d))->F [d] R)/\ds.length < 64/\(ds.map kf).Nodup/\∀ds',ds'.Perm ds->ds'.Pairwise (λa b=>aw (kf a) (kf b)=true)->Qd ds') I ⟨O,δ,_,w,q,λds0 vs H1 q1 s1 r1=>⟨ds0,s1,r1,q1⟩⟩) λus s1 hus=>?_) he hplain rfl rfl;obtain⟨vs,H1,I1,rv,ds0,s1',r1,ds,e,hF,h64,nd,q1⟩:=hus;subst e;refine kws_cons (mH I1 hgg hgm (kws_nil ?_) hdb);cases r1 with
 | cons h r=>
  cases r;obtain⟨ad,xs,rfl,hq,hd⟩:=h.lst;obtain⟨u,rfl,rx⟩:=fU rv;cases rx;exact By (kf:=kf) hc Fk hr hb (w.mono s1').trk I1 hq hd hF h64 nd λH' l xs' ds' a b c d e=>kk _ _ _ _ (q1 ds' d e) (s1'.trans a) b c
end
section
open PySem.SeqAt
open PySem.AutoSeq1 (wpAny_loadPart')
open PySem.MeetsSeq PySem.MeetsSeq2 PySem.MeetsSeq3
theorem BD(l b:Ke)(n n2:Nat)(dd dd2:Option Ke)(sl sl2:Array (Option Kc))(p q:Int×Str)(t1 t2 t3 t4:Tok):
 Meets (Builtin.«tuple.__lt__» ⟨[.ref l,.ref b],[]⟩)
  (λ_ R s=>s.heap.get? l=some {cls:= .type "tuple",dict:=dd,data:= .seq #[.int p.1 t1,.str p.2 t2] n,slots:=sl}/\s.heap.get? b=some {cls:= .type "tuple",dict:=dd2,data:= .seq #[.int q.1 t3,.str q.2 t4] n2,slots:=sl2}/\
   R (.ok (.ret (.bool (aw p q)))) s):=
 .of_wp λprog w A R s h=>by
  obtain⟨hp,g,d,tk,os⟩:=s;obtain⟨hl,hb,h⟩:=h;have f2:=AutoSeq1.sub_tuple_tuple
  wp_walk using KO hl,KO hb,wpAny_forIn_list _ (λrest b s'=>b.1=none/\s'=⟨hp,g,d,tk,os⟩/\(rest=[(G2 p.1 t1,G2 q.1 t3),(Gf p.2 t2,Gf q.2 t4)]\/(rest=[(Gf p.2 t2,Gf q.2 t4)]/\p.1=q.1)\/(rest=[]/\p.1=q.1/\p.2=q.2))) _
  case turn=>
   rintro⟨y,x⟩ rest b s' ⟨hb',rfl,h3⟩;rcases h3 with h3 | ⟨h3,e1⟩ | ⟨h3,_⟩
   ·injection h3 with hyx hrest
    injection hyx with hy hx
    subst hy hx;obtain⟨e,he,hiff⟩:=HT.eqAt_int A.in1 ⟨hp,g,d,tk,os⟩ p.1 t1 q.1 t3;refine Kd (he prog w _ _ ?_);cases e with
    | true=>
     wp_walk
     exact⟨rfl,rfl,.inr (.inl ⟨hrest,hiff.mp rfl⟩)⟩
    | false=>
     have ne:p.1≠q.1:=λz=>absurd (hiff.mpr z) EI;have hri:=HT.rcLt_int A.in1 ⟨hp,g,d,tk,os⟩ p.1 t1 q.1 t3 prog w;have hv:aw p q=decide (p.1 < q.1):=by unfold aw;simp [ne]
     rw [hv] at h
     wp_walk using hri
     exact⟨_,rfl,by simpa using h⟩
   ·injection h3 with hyx hrest
    injection hyx with hy hx
    subst hy hx;have he:=EqAt.str_str (A:=A.in1) (s:=⟨hp,g,d,tk,os⟩) p.2 t2 q.2 t4;refine Kd (he prog w _ _ ?_);cases e:(p.2==q.2) with
    | true=>
     wp_walk
     exact⟨rfl,rfl,.inr (.inr ⟨hrest,e1,eq_of_beq e⟩)⟩
    | false=>
     have hri:∀(E:Kc->Kf->Prop)(Q:Kc->Kf->Prop),Q (.bool (decide (p.2.cps.toList < q.2.cps.toList))) ⟨hp,g,d,tk,os⟩->Kh (Ki prog w) A.in1 (richCompare .Lt (.str p.2 t2) (.str q.2 t4)) Q E ⟨hp,g,d,tk,os⟩:=λE Q z=>(lt_str z:Kh (Ki prog w) A.in1 (KC .Lt (.str p.2 t2) (.str q.2 t4)) Q E _);have hv:aw p q=decide (p.2.cps.toList < q.2.cps.toList):=by unfold aw;simp [e1]
     rw [hv] at h
     wp_walk using hri
     exact⟨_,rfl,by simpa using h⟩
   ·cases h3
  case fin=>
   rintro⟨b1,b2⟩ s' ⟨hb',rfl,h3⟩;simp only at hb';subst hb';rcases h3 with h3 | ⟨h3,e1⟩ | ⟨h3,e1,e2⟩
   ·cases h3
   ·cases h3
   ·have hv:aw p q=false:=by unfold aw;rw [e1,e2];simp
    rw [hv] at h
    wp_walk
    exact⟨_,rfl,by simpa [Builtin.Tuple.tupleCompareSizes] using h⟩
  case h=>
   exact⟨rfl,rfl,.inl rfl⟩
end
def vi(K:DL):R2:=λx y H Q=>∃a b p q,x= .ref a/\y= .ref b/\aY K H a [.int p.1,.str p.2]/\aY K H b [.int q.1,.str q.2]/\Q (.bl (aw p q)) H
theorem BE{X:Cx}(hu:X.A.units < cLine):aZ X (KC .Lt) (vi X.K):=by
 intro LL s σ H x y v u Q I rx ry h;obtain⟨a,b,p,q,rfl,rfl,ha,hb,z⟩:=h;cases rx;cases ry;obtain⟨its,r1,⟨⟨c1,d1,da1,s1⟩,o1,k1,n1,e1⟩,_⟩:=I.tuple ha;obtain⟨its2,r2,⟨⟨c2,d2,da2,s2⟩,o2,k2,n2,e2⟩,_⟩:=I.tuple hb;simp only at k1 e1 k2 e2;subst k1 e1 k2 e2;cases r1 with
 | cons x1 r1=>
  cases r1 with
  | cons x2 r1=>
   cases r1;obtain⟨t1,rfl⟩:=x1;obtain⟨t2,rfl⟩:=x2;cases r2 with
   | cons y1 r2=>
    cases r2 with
    | cons y2 r2=>
     cases r2;obtain⟨t3,rfl⟩:=y1;obtain⟨t4,rfl⟩:=y2;exact richCompare_meets_room (op:= .Lt) ⟨_,o1,rfl⟩ ⟨_,o2,rfl⟩ PySem.F.slot_tuple_lt PySem.F.entry_tuple_lt (PySem.F.args_tuple_lt_2 _ _) (BD a b n1 n2 d1 d2 s1 s2 p q t1 t2 t3 t4) ⟨o1,o2,(λx=>nomatch x),.bl (aw p q),H,I,rfl,z⟩ hu
def fG:Kb->Kb->(Kb->Prop)->Prop:=λx y Q=>∃p q:Int×Str,x=bx p/\y=bx q/\Q (.bool (aw p q))
theorem BF{K:DL}:bC K (vi K) fG:=λH O x y dx dy Qd R _ hx hy uu63 k=>by
 obtain⟨p,q,e1,e2,z⟩:=uu63;subst e1 e2;obtain⟨a,xs,rfl,h1,g1⟩:=hx.tup;obtain⟨b,ys,rfl,h2,g2⟩:=hy.tup;cases g1 with
 | cons x1 g1=>
  cases g1 with
  | cons x2 g1=>
   cases g1;cases x1;cases x2;cases g2 with
   | cons y1 g2=>
    cases g2 with
    | cons y2 g2=>
     cases g2;cases y1;cases y2;exact⟨a,b,p,q,rfl,rfl,h1,h2,k _ _ H z (ah.refl _) (.bl _)⟩
section
variable {X:Cx} {H0:Hp} {O0:Ex}
abbrev dD(ks:List Str)(ds:List Kb):Kb:=ui (ks.map .str) ds
def j4(i:Nat)(t:DS):DS:=λE δ=>∃kd,δ[i]?=some (some (.k kd))/\∃ks:List Str,kd.map (·.1)=ks.map Hj/\t E (δ.set i (some (.v (dD ks (kd.map (·.2))))))
def my:List Str->List Kb->Str->Option Kb
 | k::ks,d::ds,z=>if k=z then some d else my ks ds z
 | _,_,_=>none
def j5(to tk:DT):DT:=λδ Q=>to δ λx=>∃ks ds,x=dD ks ds/\tk δ λy=>∃z,y= .str z/\∃d,my ks ds z=some d/\Q d
end
def rJ(z:Str):Kc->Bool
 | .str y _=>y==z
 | _=>false
theorem rK:∀{ss:List Str}{us:List Kc}{i:Nat}{u:Kc},aq (ss.map V.str) us->us[i]?=some u->∃y t,ss[i]?=some y/\u= .str y t:=by
 intro ss us i u hv e;obtain⟨x,ex,rx⟩:=n9 hv e;rw [D7] at ex;cases hy:ss[i]? with
 | none=>rw [hy] at ex;cases ex
 | some y=>
  rw [hy] at ex;cases ex;obtain⟨t,rfl⟩:=rx;exact⟨y,t,rfl,rfl⟩
theorem vj{z:Str}:∀{ss:List Str}{j:Nat},j < ss.idxOf z->∀y,ss[j]?=some y->(y==z)=false
 | [],j,h,y,e=>by simp at e
 | a::ss,j,h,y,e=>by
  rw [List.idxOf_cons] at h;by_cases ha:(a==z)=true
  ·rw [ha] at h;simp at h
  ·rw [Bool.not_eq_true] at ha;rw [ha] at h;cases j with
   | zero=>simp at e;subst e;exact ha
   | succ j=>exact vj (ss:=ss) (j:=j) (by simpa using h) y (by simpa using e)
theorem BG{X:Cx}:tT X "list.index" (λx xs H Q=>∃(a:Ke)(ss:List Str)(z:Str),x= .ref a/\xs=[.str z]/\aI X.K H a (ss.map V.str)/\z∈ss/\Q (.int (ss.idxOf z:Nat)) H):=by
 intro LL s σ H x xs v us Q I rx rv h;obtain⟨a,ss,z,rfl,rfl,hq,hz,q⟩:=h;obtain⟨u,rfl,ru⟩:=rv.one;obtain⟨tz,rfl⟩:=ru;cases rx;obtain⟨its,ri,pl,hs⟩:=I.list hq;obtain⟨⟨cls,dd,data,sl⟩,ho,hc,n,hd⟩:=pl.isList;simp only at hc hd;subst hc hd;have hlen:=ri.length;rw [DP] at hlen;have hsl:Kl=16777216:=Kv;have hj:ss.idxOf z < ss.length:=Ig.mpr hz;refine Lr Il ⟨_,ho,rfl⟩ PySem.F.entry_list_index (PySem.F.args_list_index_2 _ _)
  (PySem.SeqAt.list_indexAt a its.toArray n dd sl (.str z tz) (rJ z) (ss.idxOf z) (by simp;omega) (by rw [DP] at hs;omega) ?_ ?_) ⟨ho,λy hy=>?_,.int _,H,I.tok _,⟨_,rfl⟩,q⟩
 ·obtain⟨y,t,e1,e2⟩:=rK (i:=ss.idxOf z) ri (show its[ss.idxOf z]?=some (its[ss.idxOf z]'J4) by simp);show rJ z (its[ss.idxOf z]'J4)=true;rw [e2];rw [D1 hj] at e1;cases e1;show(ss[ss.idxOf z]==z)=true;rw [I0 hj];exact beq_self_eq_true z
 ·intro m hm hlt;have hm':m < its.length:=by simpa using hm
  obtain⟨y,t,e1,e2⟩:=rK (i:=m) ri (show its[m]?=some (its[m]'hm') by simp);show rJ z (its[m]'hm')=false;rw [e2];exact vj hlt y e1
 ·have hy':y∈its:=by simpa using hy
  obtain⟨m,hm,rfl⟩:=IH hy';obtain⟨y,t,e1,e2⟩:=rK (i:=m) ri (show its[m]?=some (its[m]'hm) by simp);rw [e2];exact PySem.SeqAt.EqAt.str_str y t z tz
section
variable {X:Cx} {H0:Hp} {O0:Ex}
def fH(to t:DT):DT:=λδ Q=>to δ λx=>∃ss:List Str,x= .list (ss.map .str)/\t δ λy=>∃z,y= .str z/\z∈ss/\Q (.int (ss.idxOf z:Nat))
theorem BH{o e:Kk}{to t:DT}{apos cpos:Pos}(ho:DE X H0 O0 o to)(ha:DE X H0 O0 e t)(hbase:LA o "index" X.env (eval o X.env)=eval o X.env:=by rfl)
 (hfew:((KA cpos (Kj [e] X.env)).all (λx=>!x.1) && (backToKw cpos (keywordEach [] X.env)).all (λx=>x.1.isSome) && decide ([e].length+([]:List Ln).length+(if ([]:List Ln).isEmpty then 0 else 1) < 30))=true:=by rfl)
 (hline:(apos.endLine==cpos.line)=true:=by rfl)(hst:Kj [e] X.env=(false,eval e X.env)::Kj [] X.env:=by rfl)(hplain:(KA cpos (Kj [] X.env)).any (·.1)=false:=by rfl):
 DE X H0 O0 (.Call (.Attribute o "index" apos) [e] [] cpos) (fH to t):=
 (tS Ii Il PySem.F.type_list_index BG ho (bG ha fV hst) hbase hfew hline hst hplain).imp λσ H Q ⟨O,δ,Qd,w,q,k⟩=>⟨O,δ,_,w,q,λx v H1 uu65 s1 r1=>by
  obtain⟨ss,e,q1⟩:=uu65;subst e;obtain⟨a,us,rfl,h1,d1⟩:=(Sh.dt r1).lst;refine⟨.inl ⟨rfl,us,h1⟩,O,δ,_,w.mono s1,q1,λy u H2 ⟨z,ey,hz,q2⟩ s2 r2=>?_⟩;subst ey;cases r2;obtain⟨a',us',ea,h2,d2⟩:=(Sh.dt (r1.mono s2)).lst;cases ea;cases d2.strs;exact⟨a,ss,z,rfl,rfl,h2,hz,k _ _ H2 q2 (s1.trans s2) (.int _)⟩⟩
def j6(t:DA):DA:=λδ Q=>t δ λds=>∃n k:Int,ds=[.int 0,.int n,.int k]/\0<=n/\n < 1000/\0 < k/\k < 1000/\∀js:List Int,(∀j∈js,0<=j/\j < n)->js.length<=1000->Q (js.map .int)
def fI(t:DT)(g:DG)(tc:DB)(te:DT)(k:Nat)(fr:List Nat):DA:=λδ Q=>c8 t g tc te k fr δ Q\/cS t g tc te k fr δ Q
theorem BI{N':List Str}{k:Nat}{fr:List Nat}{scope:Kz}{iter elt tg:Kk}{ifs:List Kk}{t te:DT}{tc:DB}{g:TG}{dg:DG}{pos:Pos}(hc:X.calm=true)(S:aQ X.env.scope X.N N' k fr scope)(hi:DF X H0 O0 iter t)(gd:GD X.K g dg)(hk:lN g k)(hfr:fr.Nodup)
 (hg:∀fp C s H,PG (aO X scope N' fp C s H) tg g)(hf:∀fp C s H,cD (aO X scope N' fp C s H) ifs (bu X.K H0 O0 tc))(he:∀fp C s H,PE (aO X scope N' fp C s H) elt (up X.K H0 O0 te))
 (hs:∀x,Kt iter X.env x=pure x:=by intro _;rfl):FE X H0 O0 (.ListComp elt [⟨tg,iter,ifs,0⟩] scope pos) (fI t dg tc te k fr):=by
 intro LL s σ H Q I h;obtain⟨O,δ,Qd,w,q,kk⟩:=h;rcases q with q | q
 ·exact lO hc S hi gd hk hfr hg hf he hs LL s σ H Q I ⟨O,δ,Qd,w,q,kk⟩
 ·exact qW hc S hi gd hk hfr hg hf he hs LL s σ H Q I ⟨O,δ,Qd,w,q,kk⟩
end
theorem BJ{fr:List Nat}{σ:St}{v u:Option V}:me (aG 2 fr σ) (((aG 2 fr σ).set 0 v).set 1 u):=by
 refine⟨Ka,λi w h=>?_⟩
 match i with
 | 0=>simp [aG,D6] at h
 | 1=>simp [aG,D6] at h
 | i+2=>simpa [aG,D6] using h
theorem BK{K:DL}{n:Nat}:lN (nB K n (mJ (fT 0) (mJ (fT 1) nA))) 2:=λfr σ v H' R uu67=>by obtain⟨a,xs,e,h1,h2,x,r,e1,y,r2,e2,e3,h⟩:=uu67;exact⟨a,xs,e,h1,h2,x,r,e1,y,r2,e2,e3,BJ,h⟩
section
variable {X:Cx} {H0:Hp} {O0:Ex}
theorem lT{T:String}{a c:Kk}{t:DT}{np p:Pos}{K':DL}(hK:X.K=K')(hg:Gl X "isinstance")(hm:X.mg "isinstance"=none)(hv:Kw "isinstance"=some (.builtin "isinstance"))(ha:DF X H0 O0 a t)(hc:PE X c (tC (.ty T)))
 (hs:Kj [a,c] X.env=(false,eval a X.env)::Kj [c] X.env:=by rfl)(hs2:Kj [c] X.env=[(false,eval c X.env)]:=by rfl)(hb:(KA p (Kj [c] X.env)).any (·.1)=false:=by rfl):DE X H0 O0 (.Call (.Name "isinstance" np) [a,c] [] p) (di K' T t):=by
 subst hK;exact Af hg hm hv ha hc hs hs2 hb
end
def j7:Kb->Kb->(Kb->Prop)->Prop:=λx y Q=>∃xs ys,x= .tuple xs/\y= .tuple ys/\xs.length+ys.length<=Kl/\Q (.tuple (xs++ys))
theorem BL(a b:Int):mM (.int a) (.int b)=true:=rfl
theorem BM(a b:Str):mM (.str a) (.str b)=true:=rfl
theorem BN(a b:Bool):mM (.bl a) (.bl b)=true:=rfl
theorem BO(b:Int):mM .non (.int b)=true:=rfl
theorem BP(b:Int):mM (.int b) .non=true:=rfl
def vn(f:Str)(d:Kb):List (Str×Kb)->List (Str×Kb)
 | []=>[(f,d)]
 | (g,x)::r=>if g=f then(g,d)::r else(g,x)::vn f d r
section
variable {X:Cx} {H0:Hp} {O0:Ex}
def j8(C:Ke)(i:Nat)(f:Str)(t:DT):DS:=λE δ=>t δ λd=>∃l fd,δ[i]?=some (some (.i l C fd))/\fd.length < 1000/\E.nx (δ.set i (some (.i l C (vn f d fd))))
end
section
variable {X:Cx} {H0:Hp} {O0:Ex}
def j9(C:Ke)(f:Str)(t:DT):DT:=λδ Q=>t δ λx=>∃ks ds d,x=uh C (ks.map .str) ds/\my ks ds f=some d/\Q d
end
def BQ(ss:List Int)(x:Int):List Int:=if x∈ss then ss else ss++[x]
section
variable {X:Cx} {H0:Hp} {O0:Ex}
def kc(t:DA):DA:=λδ Q=>t δ λds=>∃ss:List Int,ds=[.list (ss.map .int)]/\ss.length < 4000/\(ss.foldl BQ []).length < 64/\∀ns:List Int,(∀z,z∈ns↔z∈ss)->ns.Pairwise (· < ·)->Q (ns.map .int)
end
def rL(K:DL)(a:Ke):It:=
 ⟨λi H=>∃xs x,aI K H a xs/\xs[i]?=some x,λi H x H'=>∃p v,H p=none/\x= .ref p/\H'=ai H p (.tup [.int (i:Int),v])/\∀xs,aI K H a xs->xs[i]?=some v,λi H=>∃xs,aI K H a xs/\xs.length<=i⟩
theorem BR{P:Kp}{w:Kq}{K:DL}{elts:List Kk}{k0}{pos:Pos}(a it e:Ke)(hei:e≠it):nE P w K (.Tuple elts k0 pos) (rL K a) [e,it] e (λi h=>(∃old,IsEnum h e it (i:Int) old)/\h.IsListIter it a i) where
 mem:=Ka
 obj:=λi h st b hb=>by
  simp only [D3,EU,or_false] at hb;obtain⟨⟨old,he⟩,o,eo,c,d⟩:=st;rcases hb with rfl | rfl
  ·exact⟨_,he,λv z=>by cases z⟩
  ·exact⟨o,eo,λv z=>by rw [d] at z;cases z⟩
 keep:=λi h h' st k=>⟨let ⟨old,he⟩:=st.1;⟨old,k e Ka _ he⟩,st.2.at λo q=>k it Ka o q⟩
 item:=by
  intro X hP hw hK hc i LL s σ H E I hf st hg;subst hP hw hK;obtain⟨xs,x,hq,hx⟩:=hg;obtain⟨its,rv,p,hz⟩:=I.list hq;obtain⟨u,hu,ru⟩:=rv.get hx;obtain⟨⟨old,he⟩,hit⟩:=st;refine wpAny_pyNext_enum_item he hit p.isList (x:=u) (by simpa using hu) hei λh' ho hit' hT hsz hk=>?_;have hT0:H s.heap.objs.size=none:=I.hok.fresh (DU _);have lte:e < s.heap.objs.size:=DV he;have lti:it < s.heap.objs.size:=by obtain⟨_,q,_⟩:=hit;exact DV q
  have I1:aa X LL σ (ai H s.heap.objs.size (.tup [.int (i:Int),x])) {s with heap:=h',toks:=s.toks+1}:=by
   refine I.track (t':=s.toks+1) (ch:=[s.heap.objs.size,e,it]) Ka (λb hb=>?_) (λb v hb q=>hk b v (λz=>hb (by simp [z])) (λz=>hb (by simp [z])) q) ?_
   ·rcases D3.mp hb with z | z
    ·rw [z];exact I.fpOk (DU _) hT0
    ·exact hf b z
   ·exact⟨by rw [Kv,D4,D4,EK];decide,[.int (i:Int) s.toks,u],.cons ⟨_,rfl⟩ (.cons ru .nil),_,hT,rfl,0,rfl⟩
  refine⟨_,rfl,wpAny_letOwnedTupleGo_enum ho λh2 he2 sb=>?_⟩;obtain⟨f0,f1,f2,f3,f4,f5⟩:=hf e Ka;have ne:s.heap.objs.size≠e:=GJ lte;have I2:aa X LL σ (ai H s.heap.objs.size (.tup [.int (i:Int),x])) {s with heap:=h2,toks:=s.toks+1}:=I1.turned (t':=s.toks+1) (λb o hb q=>(sb.2 b hb).trans q) (by rw [au (Ne.symm ne)];exact f0) f1 f3 f4 f5;refine⟨.ref s.heap.objs.size,_,I2,rfl,⟨_,x,hT0,rfl,rfl,λys hy=>by rw [I.list_inj hy hq];exact hx⟩,⟨⟨_,by simpa using he2⟩,hit'.at λo q=>(sb.2 it (Ne.symm hei)).trans q⟩,λb hb=>?_⟩;rw [au λz=>?_]
  ·exact(hf b hb).1
  ·simp only [D3,EU,or_false] at hb;rcases hb with y | y
   ·rw [<-z,y] at lte;exact ET _ lte
   ·rw [<-z,y] at lti;exact ET _ lti
 done:=by
  intro X hP hw hK hc i LL s σ H E I hf st hg;subst hP hw hK;obtain⟨xs,hq,hx⟩:=hg;obtain⟨its,rv,p,hz⟩:=I.list hq;obtain⟨⟨old,he⟩,hit⟩:=st;obtain⟨f0,f1,f2,f3,f4,f5⟩:=hf it Ka;have hl:=rv.length;exact wpAny_pyNext_enum_end (I.ok.hd hc) he hit p.isList (by simp;omega) λh' eb=>⟨rfl,I.turned (t':=s.toks) (λb o hb e=>eb b o hb e) f0 f1 f3 f4 f5⟩
 self:=λA i s Q E st h=>by
  obtain⟨⟨old,he⟩,_⟩:=st;exact wpAny_pyIter_enum he h
def BS(K:DL)(ta:TA):TI:=λσ H R=>ta σ H λvs H1=>∃a xs,vs=[.ref a]/\Rd H1 a (.lst xs)/\R (rL K a) H1
theorem BU{X:Cx}{elts:List Kk}{k0}{tp:Pos}{a:Kk}{ta:TA}{p pos:Pos}(hg:Gl X "enumerate")(hm:X.mg "enumerate"=none)(ha:PA X [a] ta)(hs:Kj [a] X.env=[(false,eval a X.env)]:=by rfl):PI X (.Tuple elts k0 tp) (.Call (.Name "enumerate" p) [a] [] pos) (BS X.K ta):=by
 intro LL s σ H R I h;refine Call_ (mI I hg hm boot_enumerate (G3 (ao (ha pos LL s σ H _ I h) λus s1 ⟨vs,H1,I1,r1,q1⟩=>?_) hs rfl));obtain⟨b,xs,e,hr,q⟩:=q1;subst e;cases r1 with
 | cons r rr=>
  cases rr;cases r;have ho:∃(its:List Kc)(n:Nat),s1.heap.get? b=some {cls:= .type "list",dict:=none,data:= .seq its.toArray n,slots:=#[]}:=by
   rcases hr with hr | ⟨o,hr⟩
   ·obtain⟨_,its,n,_,z⟩:=I1.hok b _ hr;exact⟨its,n,z⟩
   ·obtain⟨_,_,its,n,_,z⟩:=I1.hok b _ hr;exact⟨its,n,z⟩
  obtain⟨its,n,ho⟩:=ho;refine call_enumerate_1 ho λh' he hit hsz hk=>wpAny_pyIter_enum he ?_;have I2:aa X LL σ H1 {s1 with heap:=h'}:=I1.kept (t':=s1.toks) hk;refine⟨s1.heap.objs.size+1,[s1.heap.objs.size+1,s1.heap.objs.size],_,_,H1,rfl,I2,BR b s1.heap.objs.size (s1.heap.objs.size+1) (GJ (Gh _)),⟨⟨_,he⟩,hit⟩,λc hc=>?_,q⟩;simp only [D3,EU,or_false] at hc;rcases hc with rfl | rfl
  ·exact I1.fpOk (Hs _) (I1.hok.fresh (Hs _))
  ·exact I1.fpOk (DU _) (I1.hok.fresh (DU _))
def ke:Nat->List Kb->List Kb
 | _,[]=>[]
 | k,x::r=>.tuple [.int (k:Int),x]::ke (k+1) r
theorem rM:∀(k:Nat)(xs:List Kb),(ke k xs).length=xs.length
 | _,[]=>rfl
 | k,x::r=>by rw [ke,D4,rM,D4]
theorem rN:∀(k:Nat)(xs:List Kb)(i:Nat),(ke k xs)[i]?=(xs[i]?).map λx=>.tuple [.int ((k+i:Nat):Int),x]
 | _,[],i=>by simp [ke]
 | k,x::r,0=>by simp [ke]
 | k,x::r,i+1=>by
  rw [ke,Eg,Eg,rN (k+1) r i,show k+1+i=k+(i+1) by omega]
theorem BV{K:DL}{H0:Hp}{O0:Ex}{a:Ke}{vs:List V}{xs:List Kb}{g:TG}{dg:DG}{tb:DS}{D:fQ}{E:lK}{σ:St}{H:Hp}{O:Ex}{δ:Dl}(hr:Rd H a (.lst vs))(ho:¬O a)(gd:GD K g dg)
 (r:ag K H O vs xs)(w:Wd K H0 O0 H O σ δ)(q:cQ dg tb E (ke 0 xs) δ)
 (k1:∀O' δ' σ' H',E.nx δ'->Wd K H0 O0 H' O' σ' δ'->aC H H' O O'->D.nx σ' H')(k2:∀d v H',E.rt d->ah H0 H'->Dt K H' O0 v d->D.rt v H'):FR (rL K a) g (aP K H0 O0 tb) D σ H:=by
 obtain⟨Iv,q0,qs,qe⟩:=q;have hl:=r.length;have sq:∀H' O',aC H H' O O'->aI K H' a vs:=λH' O' S=>.inl (hr.same λo e=>S.keep _ o e ho);refine⟨λi m σ' H'=>∃O' δ',m=vs.length - i/\i<=vs.length/\Wd K H0 O0 H' O' σ' δ'/\aC H H' O O'/\Iv i δ',⟨vs.length,O,δ,Ka,E1 _,w,aC.refl _ _,q0⟩,?_⟩;rintro i m σ1 H1 ⟨O1,δ1,rfl,hi,w1,S1,q1⟩;by_cases hlt:i < vs.length
 ·refine .inr ⟨⟨vs,vs[i],sq _ _ S1,by simp [hlt]⟩,λσ' H'=>∃O' δ',Wd K H0 O0 H' O' σ' δ'/\aC H H' O O'/\Iv (i+1) δ',λσ' H' uu69=>by obtain⟨O',δ',w',S',q'⟩:=uu69;exact⟨vs.length - (i+1),J4,O',δ',rfl,hlt,w',S',q'⟩,λx H' y=>?_⟩;obtain⟨p,v,hp,rfl,rfl,hv⟩:=y;obtain⟨d,ed,rd⟩:=r.get (hv vs (sq _ _ S1));have sm:ah H1 (ai H1 p (.tup [.int (i:Int),v])):=ah.new hp;have w2:=w1.mono sm;have np:¬O1 p:=λz=>w1.trk p z hp;have dt:Dt K (ai H1 p (.tup [.int (i:Int),v])) O1 (.ref p) (.tuple [.int (i:Int),d]):= .tup (.inl bf) np (.cons (.int _) (.cons ((rd.step S1).mono sm) .nil));have S2:aC H (ai H1 p (.tup [.int (i:Int),v])) O O1:=S1.trans (.same sm);have e2:(ke 0 xs)[i]?=some (.tuple [.int (i:Int),d]):=by rw [rN,ed];simp
  refine gd H0 O0 _ O1 σ1 δ1 _ _ _ _ w2 dt (qs i _ δ1 e2 q1) λδ2 σ2 q2 w2=>?_;exact⟨O1,δ2,_,w2,q2,λO' δ' σ' H' z w' S'=>⟨O',δ',w',S2.trans S',z⟩,k2,λO' δ' σ' H' z w' S'=>k1 O' δ' σ' H' z w' (S2.trans S'),λO' δ' σ' H' z w' S'=>⟨O',δ',w',S2.trans S',z⟩⟩
 ·have e:i=vs.length:=J4
  subst e;refine .inl ⟨⟨vs,sq _ _ S1,DU _⟩,?_⟩;rw [hl,<-rM 0 xs] at q1;exact k1 O1 δ1 σ1 H1 (qe δ1 q1) w1 S1
section
variable {X:Cx} {H0:Hp} {O0:Ex}
def fJ(t:DA)(g:DG)(tb:DS):DS:=λE δ=>t δ λds=>∃xs,ds=[.list xs]/\cQ g tb E (ke 0 xs) δ
theorem BW{elts:List Kk}{k0}{tp:Pos}{a:Kk}{body:List Ks}{p pos pos':Pos}{ta:DA}{g:TG}{dg:DG}{tb:DS}(hp:PassesOwn (Ki X.prog X.w) X.A X.env X.xe)(hc:X.calm=true)(hgl:Gl X "enumerate")(hm:X.mg "enumerate"=none)(ha:PA X [a] (cG X.K H0 O0 ta))(hg:PG X (.Tuple elts k0 tp) g)(gd:GD X.K g dg)(hb:bg X body (aP X.K H0 O0 tb))
 (hst:Kj [a] X.env=[(false,eval a X.env)]:=by rfl)(hs:∀x,Kt (.Call (.Name "enumerate" p) [a] [] pos') X.env x=pure x:=by intro _;rfl):
 PS X (.For (.Tuple elts k0 tp) (.Call (.Name "enumerate" p) [a] [] pos') body [] pos) (aP X.K H0 O0 (fJ ta dg tb)):=
 (oC hp hc (BU hgl hm ha hst) hg hb hs).imp λD σ H uu70=>by obtain⟨O,δ,E,w,q,k1,k2,k3,k4⟩:=uu70;exact⟨O,δ,_,w,q,λds vs H1 uu71 s1 r1=>by
  obtain⟨xs,e,q1⟩:=uu71;subst e;cases r1 with
  | cons h r=>
   cases r;cases h with
   | lst h n r=>
    exact⟨_,_,rfl,h,BV h n gd r (w.mono s1) q1 (λO' δ' σ' H' z w' S=>k1 O' δ' σ' H' z w' (aC.trans (.same s1) S)) k2⟩⟩
end
def kh:List Kb->(Kb->Prop)->Prop:=λds Q=>∃i j:Int,ds=[.int i,.int j]/\cC i j/\Q (.tuple [.int (i / j),.int (i % j)])
def ki:List Kb->(Kb->Prop)->Prop:=λds Q=>∃ns:List Int,ds=[.list (ns.map .int)]/\Q (.int ns.sum)
def kj:List Kb->(Kb->Prop)->Prop:=λds Q=>∃ns:List Int,ds=[.list (ns.map .int)]/\ns≠[]/\∀M,M∈ns->(∀a∈ns,M<=a)->Q (.int M)
def km(c:Int->Int->Prop):Kb->Kb->(Kb->Prop)->Prop:=λx y Q=>∃i j:Int,x= .int i/\y= .int j/\c i j/\∀r:Int,Q (.int r)
section
variable {X:Cx} {H0:Hp} {O0:Ex}
def ko(n:Nat)(t:DA):DA:=λδ Q=>t δ λds=>ds.length<=1000/\Q (D6 n ds).flatten
def kq(i:Nat)(t:DT):DS:=λE δ=>∃ds,δ[i]?=some (some (.o ds))/\t δ λd=>∃es,d= .list es/\ds.length+es.length<=Kl/\E.nx (δ.set i (some (.o (ds++es))))
theorem BX{i:Nat}{x:Str}{e:Kk}{t:DA}{pos pos':Pos}(hN:X.N.Nodup)(hi:X.N[i]?=some x)(hx:fP X.env.scope x)(he:PU X e (mW X.K H0 O0 t))(hs:KJ e (some (.Name x pos')) pos.line X.env=pure true:=by rfl)(hf:X.fn x=true\/X.env.scope.names.lookup x=some .local:=by first | exact .inl rfl | exact .inr rfl | assumption):
 PS X (.Assign [.Name x pos'] e pos) (aP X.K H0 O0 (cZ i t)):=
 (he _ _ _ _ hN hi hx hs hf).imp λD σ H ⟨O,δ,E,w,q,k1,k2,k3,k4⟩=>⟨O,δ,_,w,q,λds vs p H1 q1 s1 hp r1=>k1 _ _ _ _ q1 ((w.mono s1).setO hp r1)
  ⟨λb o e _=>(s1.trans (ah.new hp)) b o e,λb e n z=>z.elim n λy=>by
   cases q:H b with
   | none=>exact e q
   | some o=>have:=s1 _ _ q;rw [y,hp] at this;cases this⟩⟩
end
end L2
namespace Day
def nh(y:Int):Bool:=decide (y % 400=0) || (decide (y % 4=0) && !decide (y % 100=0))
def ld(y:Int):Int:=if nh y=true then 1 else 0
def vo:List Int:=[31,28,31,30,31,30,31,31,30,31,30,31]
def ni(y m:Int):Int:=if m=2/\nh y=true then 29 else vo.getD (m - 1).toNat 0
def lb(y:Int):Int:=(y - 1)/ 4 - (y - 1)/ 100+(y - 1)/ 400
def BY(y:Int):Int:=365*(y - 2000)+lb y - lb 2000
def BZ(y m:Int):Int:=((EZ (m - 1).toNat).map λ(i:Nat)=>ni y (1+(i:Int))).sum
def B0(y m n:Int):Int:=BY y+BZ y m+n - 1
theorem vp(y:Int):nh y=true↔(y % 400=0\/(y % 4=0/\y % 100≠0)):=by
 unfold nh;simp
theorem B1(y:Int):ni y 2=28+ld y:=by
 unfold ni ld;by_cases h:nh y=true
 ·rw [J6 ⟨rfl,h⟩,J6 h];rfl
 ·rw [J5 (λz=>h z.2),J5 h];rfl
theorem B2{y m:Int}(h:m≠2):ni y m=vo.getD (m - 1).toNat 0:=by
 unfold ni;rw [J5 (λz=>h z.1)]
theorem B3{m:Int}(h1:1<=m)(h2:m<=12):m=1\/m=2\/m=3\/m=4\/m=5\/m=6\/m=7\/m=8\/m=9\/m=10\/m=11\/m=12:=by
 obtain⟨k,e⟩:=Fb (show 0<=m - 1 by omega);have e:m=(k:Int)+1:=J4
 have hk:k < 12:=J4
 have key:∀k:Fin 12,((k.1:Nat):Int)+1=1\/((k.1:Nat):Int)+1=2\/((k.1:Nat):Int)+1=3\/((k.1:Nat):Int)+1=4\/((k.1:Nat):Int)+1=5\/((k.1:Nat):Int)+1=6\/((k.1:Nat):Int)+1=7\/((k.1:Nat):Int)+1=8\/((k.1:Nat):Int)+1=9\/((k.1:Nat):Int)+1=10\/((k.1:Nat):Int)+1=11\/((k.1:Nat):Int)+1=12:=td
 rw [e];exact key ⟨k,hk⟩
theorem length_eq(y m:Int)(h1:1<=m)(h2:m<=12):(if m=2/\(y % 4≠0\/(y % 100=0/\y % 400≠0)) then(28:Int) else [31,29,31,30,31,30,31,31,30,31,30,31].getD (m - 1).toNat 0)=ni y m:=by
 by_cases h:m=2
 ·subst h;rw [B1];unfold ld;by_cases l:nh y=true
  ·rw [J6 l,J5 (by have:=(vp y).mp l;omega)];rfl
  ·rw [J5 l,J6 (by have:=mt (vp y).mpr l;omega)];rfl
 ·rw [B2 h,J5 (λz=>h z.1)];rcases B3 h1 h2 with z | z | z | z | z | z | z | z | z | z | z | z <;> subst z <;> first | rfl | exact absurd rfl h
def B4(M:Int):Int:=B0 (M / 12) (M % 12+1) 1
def Dn(M n:Int):Int:=B4 M+n - 1
end Day
namespace L2
open PySem PySem.Spec PyProof.Rows PySem.W
def d2(m:Nat):List Nat:=[48+m / 10,48+m % 10]
section
variable {X:Cx} {H0:Hp} {O0:Ex}
def kr(to:DT)(t:DT):DT:=λδ Q=>to δ λx=>∃z:Str,x= .str z/\t δ λy=>∃(ys:List Str),y= .tuple (ys.map .str)/\(ys.map (·.length)).sum+ys.length*z.length<=16777216/\Q (.str (Txt.join z ys))
def ku(t:DA)(u:DT):DA:=λδ Q=>t δ λds=>ds.length<=1000/\u δ λy=>∃i:Int,y= .int i/\0<=i/\i<=1000/\Q (D6 i.toNat ds).flatten
end
open PySem PySem.Spec PyProof.Rows PySem.W PySem.Calls
def B5(xs ys:List Kb):List Kb:=List.zipWith (λx y=>.tuple [x,y]) xs ys
def ky(ta:DA)(g:DG)(tc:DB)(te:DT)(k:Nat)(fr:List Nat):DA:=λδ Q=>ta δ λds=>∃xs ys,ds=[.tuple xs,.tuple ys]/\xs.length=ys.length/\xs.length<=Kl/\c6 g tc te (bj k fr δ) (B5 xs ys) Q
def B6{α:Type}(xs:List α)(n:Nat)(y:α):List α:=xs.take n++y::xs.drop n
section
variable {X:Cx} {H0:Hp} {O0:Ex}
def kz(i:Nat)(t1 t2:DT):DS:=λE δ=>∃ds,δ[i]?=some (some (.o ds))/\t1 δ λa=>t2 δ λd=>∃n:Nat,a= .int (n:Int)/\n<=ds.length/\ds.length < 1000000/\E.nx (δ.set i (some (.o (B6 ds n d))))
def kA(t:DT):DB:=λδ Q=>t δ λd=>∃ds,d= .list ds/\Q (!ds.isEmpty)
def kC(to tk:DT):DT:=λδ Q=>to δ λx=>∃ks ds,x=dD ks ds/\tk δ λy=>∃z,y= .str z/\Q ((my ks ds z).getD .none)
def kD(to tk tx:DT):DT:=λδ Q=>to δ λx=>∃ks ds,x=dD ks ds/\tk δ λy=>tx δ λu=>∃z,y= .str z/\Q ((my ks ds z).getD u)
end
section
variable {X:Cx} {H0:Hp} {O0:Ex}
def kF(t:DA):nc:=λδ Q=>t δ λds=>∃kd:List (aA×Kb),ds=[.list (kd.map λp=>.tuple [lz p.1,p.2])]/\Q (kd.foldl (λa p=>ro a p.1 p.2) [])
def kG(t:DT):DA:=λδ Q=>t δ λd=>∃ks ds,d=dD ks ds/\ks.length < 64/\Q ((cJ ks).map .str)
def kH(neg:Bool)(tk to:DT):DT:=λδ Q=>tk δ λy=>to δ λx=>∃z ks ds,y= .str z/\x=dD ks ds/\Q (.bool (if neg then !(my ks ds z).isSome else(my ks ds z).isSome))
def kI(t:DT)(dg:DG)(tb:DS):DS:=λE δ=>t δ λd=>∃ks ds,d=dD ks ds/\cQ dg tb E (ks.map .str) δ
def kJ:List Kb->(Kb->Prop)->Prop:=λds Q=>∃ks xs,ds=[dD ks xs]/\Q (dD ks xs)
def kK:DT:=λ_ Q=>Q (dD [] [])
def kL:Kb->Kb->(Kb->Prop)->Prop:=λx y Q=>∃(ks:List Str)(ns:List Int),x=dD ks (ns.map .int)/\y=dD ks (ns.map .int)/\Q (.bool false)
def kM(i j:Nat):DS:=λE δ=>E.nx ((δ.set i (some (.o []))).set j (some (.o [])))
end
section
variable {P:Kp} {w:Kq} {K:DL} {mg:Str->Option Kc} {base:Km}
inductive nj (K:DL) (C:Ke) (F:List Kb->List Kb->(List (Str×Kb)->List (aA×Kb)->List (aA×Kb)->Prop)->Prop) (vs:List V) (H:Hp) (Q:VK) (E:XK):Prop
 | mk (x dx:Ke) (vs':List V) (l:Ke) (ws:List V) (H1:Hp) (O:Ex) (ds es:List Kb) (Qd:List (Str×Kb)->List (aA×Kb)->List (aA×Kb)->Prop):vs= .ref x::(vs'++[.ref l])->H=ai (ai H1 dx (.own x)) x (.ins C dx [])->H1 x=none->H1 dx=none->dx≠x->
 (∀a,O a->H1 a≠none)->ag K H1 O vs' ds->O l->H1 l=some (.lst ws)->ag K H1 O ws es->F ds es Qd->
 (∀fd gd ud g u O' H',Qd fd gd ud->ah H1 H'->(∀a,O a->O' a)->(∀a,O' a->O a\/H1 a=none)->(∀a,O' a->H' a≠none)->O' x->¬O x->uj K H' O O' x C g u fd gd ud->Q .non H')->nj K C F vs H Q E
end
section
variable {x y z w:Option Sl} {l:Dl} {i j k m:Nat} {P:Kb->Prop}
theorem kN:bH j ((x::l).set 0 y) P=bH j (y::l) P:=rfl
theorem kO:bH j ((x::l).set (i+1) y) P=bH j (x::l.set i y) P:=rfl
theorem kP:bH j (((x::l).set 0 y).set k z) P=bH j ((y::l).set k z) P:=rfl
theorem kT:bH j (((x::l).set (i+1) y).set k z) P=bH j ((x::l.set i y).set k z) P:=rfl
theorem kU:bH j ((((x::l).set 0 y).set k z).set m w) P=bH j (((y::l).set k z).set m w) P:=rfl
theorem kW:bH j ((((x::l).set (i+1) y).set k z).set m w) P=bH j (((x::l.set i y).set k z).set m w) P:=rfl
end
section
variable {K:DL} {mg:Str->Option Kc} {h:Km} {x q:Str} {st:Ks} {f C:Ke} {fd:Ko} {ps:List Str}
structure Fn (K:DL) (mg:Str->Option Kc) (x:Str) (st:Ks) (f:Ke) (fd:Ko) (ps:List Str):Prop where
 F:cw K x x st f fd
 m:mg x=some (.ref f)
 b:cq K fd ps []
structure DfT (K:DL) (x:Str) (st:Ks) (f:Ke) (fd:Ko):Prop where
 a:Ej K Kn x=some (some (.ref f))
 F:cw K x x st f fd
theorem DfT.of{oc:Kc}{od an:Option Ke}{osl:Array (Option Kc)}{kV doc pm cdv ct:Kc}(a:Ej K Kn x=some (some (.ref f)))(l:K.lookup f=some ⟨oc,od,.func (Gp x x (md st) (cU st) (av st) .none kV doc pm an cdv ct),osl⟩)
 (c:HF K cdv x=true)(k:GG K (.ref f)=true):DfT K x st f (Gp x x (md st) (cU st) (av st) .none kV doc pm an cdv ct):=⟨a,xS l c k⟩
theorem DfT.fn(D:DfT K x st f fd)(X:K.In h)(G:h.Ns Kn mg)(hb:∀(kV doc pm:Kc) (an:Option Ke) (cdv ct:Kc) (us:List Kc),us.length=ps.length->bindArgs (Gp x x (md st) (cU st) (av st) .none kV doc pm an cdv ct) ⟨us,[]⟩=pure (ps.zip us):=by walk_at "b"):Fn K mg x st f fd ps:=⟨D.F,Fo X G D.a,D.F.binds hb⟩
theorem Fn.kp(N:Fn K mg x st f fd ps):GG K (.ref f)=true:=N.F.kp
end
section
variable {X:Cx} {k:Nat} {f:Ke} {fd:Ko} {ps:List Str} {sp:Sp} {st:Ks} {x:Str} {p pos:Pos} {e:Kk} {es:List Kk} {t:TA}
theorem oh(F:ay X.prog X.w X.K X.mg X.base aK k f fd ps sp)(hr:aH k X.A)(hg:Gl X x)(N:Fn X.K X.mg x st f fd ps)
 (ha:PA X (e::es) t)(hdb:(x==("__debug__":Str))=false:=by decide)(he:Kj (e::es) X.env=(false,eval e X.env)::Kj es X.env:=by rfl)(hpl:(KA pos (Kj es X.env)).any (·.1)=false:=by rfl):
 PE X (.Call (.Name x p) (e::es) [] pos) (nM sp [] E0 t):=qx F hr hg N.m N.kp N.b .nil xR ha hdb he hpl
end
theorem aQ.of{sc:Kz}{N N':List Str}{k:Nat}{fr:List Nat}{scope:Kz}(a:scope.kind= .function:=by rfl)(b:∀y∈scope.names,y.2= .cell->scope.names.lookup y.1=some .cell:=by decide+kernel)(c:∀y∈scope.names,y.2= .local->scope.names.lookup y.1=some .local:=by decide+kernel)(d:N'.Nodup:=by decide+kernel)(e:fr.map (λj=>N[j]?)=(N'.drop k).map some:=by rfl)(f:∀x∈N'.drop k,scope.names.lookup x=some .free:=by decide+kernel)(g:∀y∈scope.names,y.2= .free->sc.names.lookup y.1=some .cell\/sc.names.lookup y.1=some .free:=by decide+kernel)(h:∀x∈N'.drop k,sc.names.lookup x=some .cell\/sc.names.lookup x=some .free:=by decide+kernel)(i:N'.length=k+fr.length:=by rfl):aQ sc N N' k fr scope:=⟨a,b,c,d,e,f,g,h,i⟩
theorem bb.of{N P:List Str}{sc:Kz}(a:sc.kind= .function:=by rfl)(b:sc.isCoroutine=false:=by rfl)(c:sc.isGenerator=false:=by rfl)(d:N.Nodup:=by decide+kernel)(e:N.take P.length=P:=by rfl)(f:∀x∈P,sc.names.lookup x=some .local\/sc.names.lookup x=some .cell:=by decide+kernel)(g:∀y∈sc.names,y.2≠ .free:=by decide+kernel):bb N P sc:=⟨a,b,c,d,e,f,g⟩
section
variable {X:Cx} {H0:Hp} {O0:Ex} {pos:Pos} {a b e:Kk} {es:List Kk} {ta tb t:DT} {u:DA} {r:R2} {rd:Kb->Kb->(Kb->Prop)->Prop}
theorem ak{op:Operator}(ho:aZ X (K0 op) r)(hd:bC X.K r rd)(ha:DE X H0 O0 a ta)(hb:DE X H0 O0 b tb):DE X H0 O0 (.BinOp a op b pos) (bw rd ta tb):=yU ho hd (df ha) (df hb)
theorem ax(ho:mP X r)(hd:bC X.K r rd)(ha:DE X H0 O0 a ta)(hb:DE X H0 O0 b tb)(hs:∀v u,subscripted b false v u=operate [v,u] (getItem v u):=by intro _ _;rfl):DE X H0 O0 (.Subscript a b pos) (bw rd ta tb):=lx ho hd (df ha) (df hb) hs
theorem bE{op:CmpOp}(ho:aZ X (KC op) r)(hd:bC X.K r rd)(ha:DE X H0 O0 a ta)(hb:DE X H0 O0 b tb)(hm:KL op b=false):PT X (.Compare a [op] [b] pos) (bu X.K H0 O0 (bW (bw rd ta tb))):=yV ho hd (df ha) (df hb) hm
theorem bF(h:DE X H0 O0 e t)(hs:PA X es (cW X.K H0 O0 u))(he:Kj (e::es) X.env=(false,eval e X.env)::Kj es X.env:=by rfl):PA X (e::es) (cW X.K H0 O0 (cN t u)):=qR (df h) hs he
theorem aT{k j:Nat}{f:Ke}{fd:Ko}{ps:List Str}{F:List Kb->(Kb->Prop)->Prop}{st:Ks}{x:Str}{p:Pos}(G:ay X.prog X.w X.K X.mg X.base aK k f fd ps (aX X.K F))(hr:aH j X.A)(N:Fn X.K X.mg x st f fd ps)
 (ha:PA X (e::es) (cG X.K H0 O0 u))(hk:k<=j:=by decide)(hg:Gl X x:=by exact rfl)(hdb:(x==("__debug__":Str))=false:=by decide)(he:Kj (e::es) X.env=(false,eval e X.env)::Kj es X.env:=by rfl)(hpl:(KA pos (Kj es X.env)).any (·.1)=false:=by rfl):
 DE X H0 O0 (.Call (.Name x p) (e::es) [] pos) (cP F u):=PE.imp (oh G (hr.mono hk) hg N ha hdb he hpl) nT
end
structure mz (base:Km) (mg:Str->Option Kc) (c P:Ke):Prop where
 cd:CodeHd base c P
 gP:Kn≠P
 bl:base.BuiltinsAt mg P
theorem B7{pos p:Pos}{v cv:Kc}(l:List Kc)(h:TriplesOk l)(e:codeAmong pos (l++[KY p.line,KY p.col,v])=some cv):codeAmong pos l=some cv\/cv=v:=by
 fun_induction TriplesOk l with
 | case1=>
  simp only [EJ,codeAmong,KY] at e;split at e
  ·cases e;exact .inr rfl
  ·cases e
 | case2 a t b u x rest ih=>
  simp only [EM,codeAmong] at e⊢;split at e
  ·rename_i hc;rw [J6 hc];exact .inl e
  ·rename_i hc;rw [J5 hc];exact ih h e
 | case3 l h1 h2=>exact h.elim
abbrev dE(q:Str):HO:= .tbl #[.str q 0]
section
variable {X:Cx} {LL:List (Ke×Obj)} {σ:St} {H:Hp} {s:Kf}
theorem B8{h h':Km}{mg:Str->Option Kc}{P:Ke}(b:h.BuiltinsAt mg P)(k:∀b o,h.get? b=some o->h'.get? b=some o):h'.BuiltinsAt mg P:=
 let ⟨bm,o,a1,a2,a3,a4,a5,r⟩:=b;⟨bm,o,a1,a2,a3,a4,k _ _ a5,r⟩
theorem B9{E:Kc->Kf->Prop}{Q:Kc->Kf->Prop}{c P:Ke}{qual:Str}{body:Kk}{scope:Kz}{params:Ly}{pos:Pos}{clos:List (Str×Ke)}(I:aa X LL σ H s)(L:mz X.base X.mg c P)(hcode:X.env.code= .ref c)
 (hP:H P=some (dE qual))(hq:X.env.qual++"<lambda>"=qual)(hcl:closureFor scope X.env=pure clos)(hdef:defaultsOf params X.env=([],[]))
 (h:∀f c' pm ctv h' tk H',aa X LL σ H' {s with heap:=h',toks:=tk}->h'.get? f=some (kla_obj "<lambda>" qual params body scope clos pm c' ctv)->s.heap.objs.size<=f->H' f=none->H' c'=some (.cod qual)->ah H H'->
  Q (.ref f) {s with heap:=h',toks:=tk}):Kh (Ki X.prog X.w) X.A (eval (.Lambda params body scope pos) X.env) Q E s:=by
 refine kla_eval hdef ?_;rw [hq];obtain⟨q,t,z,ps,eP,tr,ent⟩:=id (I.hok P _ hP);have z:some (Gf qual 0)=some (.str q t):=z;cases z;have hg:s.heap.Ns Kn X.mg:=I.ok.mod.glob.keeps I.bk;have C:=L.cd.keeps I.bk;have hb:=B8 L.bl I.bk;cases hf:codeAmong pos ps.toList with
 | some cv=>
  obtain⟨c',rfl,hc'⟩:=ent pos cv hf;refine kla_makeFunctionHit hcl I.ok.glob hg hcode C eP tr hf hb λctv h' tk hk hsz=>?_;have k2:∀b o,s.heap.get? b=some o->(h'.push (kla_obj "<lambda>" qual params body scope clos ((X.mg "__name__").getD .none) c' ctv)).get? b=some o:=λb o e=>DN _ (hk b o e);exact h h'.objs.size c' _ ctv _ tk H (I.kept k2) (D5 _ rfl) hsz (I.hok.fresh hsz) hc' (ah.refl _)
 | none=>
  refine kla_makeFunction hcl I.ok.glob hg hcode C eP tr hf L.gP hb λc' ctv h' tk hx hge hlt hrec htb=>?_;have hn:H c'=none:=I.hok.fresh hge;have nP:∀b,H b=none->b≠P:=λb n e=>by rw [e,hP] at n;cases n
  have pk:∀{b o},h'.get? b=some o->(h'.push (kla_obj "<lambda>" qual params body scope clos ((X.mg "__name__").getD .none) c' ctv)).get? b=some o:=λe=>DN _ e;have sm:ah H (ai H c' (.cod qual)):=λb o e=>by rw [au (bV e hn)];exact e
  have hlt':s.heap.objs.size<=h'.objs.size:=EV hge (GX hlt);refine h h'.objs.size c' _ ctv _ tk (ai H c' (.cod qual)) (I.un ⟨λb o e n _ _=>pk (hx b o (nP b n) e),λb o e n _ _=>⟨o.slots,pk (hx b o (nP b n) e)⟩,λb o e n _=>by rw [au (Ec (D8 (DV e) hge))];exact n,λb o e _=>?_,
   λb xs e=>sm b _ e,λb o u e=>sm b _ e,λb qs e=>⟨#[],by rw [Array.append_empty];exact sm b _ e⟩⟩ λb u e=>?_) (D5 _ rfl) hlt' (by rw [au (GJ hlt)];exact I.hok.fresh hlt') bf sm
  ·by_cases hb':b=P
   ·exact⟨_,pk (by rw [hb'];exact htb)⟩
   ·exact⟨o,pk (hx b o hb' e)⟩
  ·by_cases hbc:b=c'
   ·subst hbc;rw [bf] at e;cases e;obtain⟨c₂,oc,vs,t',e2,hoc,hd,hv⟩:=hrec;cases e2;exact⟨oc,vs,t',pk hoc,hd,hv⟩
   ·rw [au hbc] at e;by_cases hbP:b=P
    ·subst hbP;rw [hP] at e;cases e;refine⟨qual,0,rfl,_,pk htb,?_,λp cv e=>?_⟩
     ·rw [GO];exact TriplesOk_snoc _ _ _ _ tr
     ·rw [GO] at e;rcases B7 _ tr e with e | e
      ·obtain⟨c2,e1,e2⟩:=ent p cv e;exact⟨c2,e1,sm _ _ e2⟩
      ·exact⟨c',e,bf⟩
    ·refine(I.hok b u e).stay (λc2 v hc r=>pk (hx c2 v (λw=>?_) r)) (λc2 r=>sm _ _ r) (λc2 xs r=>sm _ _ r) λc2 xs r=>sm _ _ r;rcases hc with hc | hc
     ·exact hbP (hc.symm.trans w)
     ·rw [w,hP] at hc;cases hc
def kX(X:Cx)(s:Kf)(H:Hp):Km:=hideAll s.heap (az X.stack++trk s.heap H)
theorem oi{b:Ke}{o:Obj}(e:s.heap.get? b=some o)(n:H b=none)(nf:b ∉ az X.stack):(kX X s H).get? b=some o:=
 Li _ e λhm=>by
  rcases Ei.mp hm with h | h
  ·exact nf h
  ·have q:(H b).isSome=true:=(FY.mp h).2;rw [n] at q;simp at q
theorem Ca{b:Ke}{o:Obj}(e:(kX X s H).get? b=some o):s.heap.get? b=some o/\H b=none:=by
 have e':s.heap.get? b=some o:=of_hideAll _ e;refine⟨e',?_⟩;cases q:H b with
 | none=>rfl
 | some x=>
  have hm:b∈az X.stack++trk s.heap H:=Ey _ (FY.mpr ⟨GW.mpr (DV e'),by simp [q]⟩);have z:(kX X s H).get? b=none:=hideAll_none _ hm;rw [z] at e;cases e
theorem aa.lamK(I:aa X LL σ H s){b:Ke}{o:Obj}(e:X.base.get? b=some o):(kX X s H).get? b=some o:=
 oi (I.bs b o e).1 (I.bs b o e).2 λhb=>by have:=(I.stack.mem hb).1;rw [e] at this;cases this
theorem aa.lamM(I:aa X LL σ H s):Mod X.K X.mg (kX X s H):=
 ⟨I.mod.kin.keeps λ_ _ e=>I.lamK e,I.mod.glob.keeps λ_ _ e=>I.lamK e,let ⟨mb,h1,h2⟩:=I.mod.blt;⟨mb,h1.keeps λ_ _ e=>I.lamK e,h2⟩,I.mod.nolimit.keeps λ_ _ e=>I.lamK e⟩
theorem aa.env0L(I:aa X LL σ H s):lI X.prog X.w X.K X.mg (kX X s H) X.A X.stack s H:=
 ⟨I.ok.frames,I.lamM,λ_ _ e=>Ca e,JL (hideAll_size _ _),funFrames_hide I.stack λenv he a hf=>HA _ (GR.mpr ⟨env,he,hf⟩),I.stkFree,I.hok,I.bare⟩
abbrev mB(scope:Kz)(qual:Str)(L f:Ke)(c':Ke)(cl:List (Str×Ke)):Env:=envX qual scope L f (.ref c') cl
def lC(X:Cx)(base:Km)(scope:Kz)(N':List Str)(cl:List (Str×Ke))(qual:Str)(f c':Ke)(A:Kr)(outer:List Env)(s:Kf)(H:Hp)(E:XK):Cx where
 prog:=X.prog
 w:=X.w
 K:=X.K
 mg:=X.mg
 base:=base
 A:=A.deeper (mB scope qual s.heap.objs.size f c' cl)
 N:=N'
 s₀:=s
 H₀:=H
 env:=mB scope qual s.heap.objs.size f c' cl
 outer:=outer
 stack:=mB scope qual s.heap.objs.size f c' cl::outer
 ex:=[]
 calm:=true
 fn:=λ_=>false
 pn:=[]
 xe:=λe s'=>Kh (Ki X.prog X.w) (A.deeper (mB scope qual s.heap.objs.size f c' cl)) (leaving (mB scope qual s.heap.objs.size f c' cl) e) (λ_ s''=>aJ X.prog X.w outer H s E e s'') (λe' s''=>aJ X.prog X.w outer H s E e' s'') s'
def vq(X:Cx)(base:Km)(σ:St)(scope:Kz)(N':List Str)(fr:List Nat)(cl:List (Str×Ke))(qual:Str)(f c' k:Nat)(body:Kk):Sp:=λvs H2 Q E=>vs=[]/\H2 c'=some (.cod qual)/\
 ∀(A:Kr)(outer:List Env)(s2:Kf),aH k (A.deeper (mB scope qual s2.heap.objs.size f c' cl))->∃t,PE (lC X base scope N' cl qual f c' A outer s2 H2 E) body t/\t (aG 0 fr σ) H2 Q
theorem Cb{f c' k:Nat}{pm ctv:Kc}{qual:Str}{body:Kk}{scope:Kz}{N':List Str}{fr:List Nat}{params:Ly}(S:aQ X.env.scope X.N N' 0 fr scope)(I:aa X LL σ H s)
 (ho:s.heap.get? f=some (kla_obj "<lambda>" qual params body scope (bR X.env scope.names []) pm c' ctv))(hf:H f=none)(hfs:f ∉ az X.stack)(hfn:∀x,X.fn x=true)
 (hco:scope.isCoroutine=false)(hgen:scope.isGenerator=false)(hcell:∀x∈scope.names,x.2≠ .cell):
 ay X.prog X.w X.K X.mg (kX X s H) (aJ X.prog X.w) (k+1) f (kla_fn "<lambda>" qual params body scope (bR X.env scope.names []) pm (.ref c') ctv) [] (vq X (kX X s H) σ scope N' fr (bR X.env scope.names []) qual f c' k body):=by
 have hcl:=oM S I;refine⟨λvs H2 Q E h=>by rw [h.1];rfl,λA outer s2 H2 args us vs Q E hr e0 hb rv hsp=>?_⟩;obtain⟨rfl,hc,hbody⟩:=hsp;cases rv;have fo:=(e0.bs f _ (oi ho hf hfs)).1;obtain⟨oc,vs,t,g1,g2,g3⟩:=id (e0.hok c' _ hc);have lim:s2.heap.NoLimit:=e0.mod.nolimit.keeps λb o e=>(e0.bs b o e).1;refine kla_callFunE hr.depth fo rfl hco hgen rfl ⟨c',oc,vs,t,rfl,g1,g2,g3⟩ (hb _ _ _ _ ?_);refine wpAny_newFunctionEnv hcell (λx hx=>absurd (show x∈([]:List (Str×Kc)) from hx) Ka) (λh₁ hns hsb=>⟨lim.fresh _ hsb,?_⟩) S.kind;obtain⟨t,ht,hq⟩:=hbody A outer s2 (hr.deeper _);have hk₁:∀b o,s2.heap.get? b=some o->h₁.get? b=some o:=λb o e=>hsb.extBut b o (Ec (DV e)) (DN _ e);have hcb:∀x c,(bR X.env scope.names []).lookup x=some c->∀u,s.heap.IsCell c u->s2.heap.IsCell c u:=λx c e u uu73=>by
  obtain⟨o,eo,d⟩:=uu73;have ex:=hcl x c e;refine⟨o,(e0.bs c o (oi eo (I.freeC x c ex) λhm=>?_)).1,d⟩;rcases D3.mp (I.stkSub c hm) with z | z
  ·exact I.cne x c ex z
  ·have h1:=I.ok.cab x c (hfn x) ex;obtain⟨_,o',ho',_⟩:=I.ok.funs.mem z;exact absurd (D8 (DV ho') h1) (ET _)
 have J:aa (lC X (kX X s H) scope N' (bR X.env scope.names []) qual f c' A outer s2 H2 E) [] (aG 0 fr σ) H2 {s2 with heap:=h₁,toks:=s2.toks+([]:List (Str×Kc)).length}:=by
  refine⟨⟨e0.mod,S.kind,rfl,rfl,DU _,λx y c h1 h2=>I.ok.inj x y c (hcl x c h1) (hcl y c h2),λx hx=>?_,λx c h=>absurd h (by simp [lC]),λ_=>hr.hd,Iz e0.frames,.inr ⟨rfl,rfl⟩,λb z=>absurd (show b∈([]:List Ke) from z) Ka,e0.bs,e0.bsz,λb _ _ z=>absurd (show b∈([]:List Ke) from z) Ka,λb z=>absurd (show b∈([]:List Ke) from z) Ka,e0.funs,e0.frf⟩,
   rfl,e0.bare,Un.kept hk₁,⟨_,hns,λi x v h1 h2 h3=>?_⟩,λx c e=>?_,e0.hok.fresh (DU _),λx c e=>?_,λp hp=>absurd (show p∈([]:List (Ke×Obj)) from hp) Ka,e0.hok.kept hk₁,?_⟩
  ·have hx:scope.names.lookup x=some .cell\/scope.names.lookup x=some .free:=hx;rcases hx with z | z
   ·exact absurd rfl (hcell _ (E8 z))
   ·exact nQ _ _ (E8 z)
  ·have h2':(fr.map λj=>(σ[j]?).join)[i]?=some (some v):=by
    unfold aG at h2;simpa using h2
   have h1':(N'.drop 0)[i]?=some x:=by simpa using(show N'[i]?=some x from h1)
   have hmem:x∈N'.drop 0:=Ef h1';have e2:(fr.map λj=>X.N[j]?)[i]?=some (some x):=by
    rw [S.slot,D7,h1'];rfl
   obtain⟨j,hj,ej⟩:∃j,fr[i]?=some j/\X.N[j]?=some x:=by
    rw [D7] at e2;cases e:fr[i]? with
    | none=>rw [e] at e2;cases e2
    | some j=>rw [e] at e2;exact⟨j,rfl,ED e2⟩
   have hv:σ[j]?=some (some v):=by
    rw [D7,hj] at h2';have h3':(σ[j]?).join=some v:=ED h2';cases e:σ[j]? with
    | none=>rw [e] at h3';cases h3'
    | some o=>rw [e] at h3';rw [show o=some v from h3']
   obtain⟨m,hn0,hl⟩:=I.loc;have ho:=S.outer' x hmem;obtain⟨u,ru,lk⟩:=hl j x v ej hv (.inr ho);refine⟨u,ru,.inr ⟨.inr (S.frees x hmem),?_⟩⟩;rcases lk with⟨z,_⟩ | ⟨_,c,hc,hx⟩
   ·exfalso;rcases ho with ho | ho
    ·exact absurd (z.symm.trans ho) Ka
    ·exact absurd (z.symm.trans ho) Ka
   ·obtain⟨c2,hc2⟩:=nQ (env:=X.env) scope.names [] (E8 (S.frees x hmem));have:=hcl x c2 hc2;rw [hc] at this;cases this;exact⟨c,hc2,(hcb x c hc2 _ hx).keeps hk₁⟩
  ·obtain⟨v,q⟩:=I.cell x c (hcl x c e);exact⟨v,(hcb x c e v q).keeps hk₁⟩
  ·cases q:H2 c with
   | none=>rfl
   | some u=>
    obtain⟨v,o,eo,d⟩:=I.cell x c (hcl x c e);have ex:=hcl x c e;have:=(e0.bs c o (oi eo (I.freeC x c ex) λhm=>?_)).2
    ·rw [q] at this;cases this
    ·rcases D3.mp (I.stkSub c hm) with z | z
     ·exact I.cne x c ex z
     ·have h1:=I.ok.cab x c (hfn x) ex;obtain⟨_,o',ho',_⟩:=I.ok.funs.mem z;exact absurd (D8 (DV ho') h1) (ET _)
  ·unfold aG;show _=N'.length;rw [F6,Gv,DP,S.len]
 refine kla_codeExpr (Ky (ht [] _ (aG 0 fr σ) H2 Q J hq) (λv s' hl=>?_) λ_ _ y=>y);obtain⟨v',H',J',rv,q⟩:=hl;exact⟨v',H',J'.os,J'.bare,J'.base,J'.hok,rv,q⟩
theorem Cc{base:Km}{scope:Kz}{N':List Str}{cl:List (Str×Ke)}{qual:Str}{f c':Ke}{A:Kr}{outer:List Env}{s:Kf}{H:Hp}{E E':XK}(hE:∀cls d H',E' cls d H'->E cls d H'):nN (aJ X.prog X.w) (lC X base scope N' cl qual f c' A outer s H E) E':=by
 intro LL σ H1 s1 ev s2 I h;obtain⟨e,cls,a0,B,H2,rfl,ho,hg,fl,hb,un,kb,th,q⟩:=h;have ub:Un (az outer) [] H H1 s.heap s1.heap:=I.base;have stk:(lC X base scope N' cl qual f c' A outer s H E).stack=mB scope qual s.heap.objs.size f c' cl::outer:=rfl;show Kh (Ki X.prog X.w) _ (leaving _ (.ref e)) _ _ _;refine wpAny_leaves_onW I.ok.frames rfl fl λh2 x1 x2=>?_;have nst:∀b o,s.heap.get? b=some o->b ∉ az outer->b ∉ az (lC X base scope N' cl qual f c' A outer s H E).stack:=λb o eb hb hm=>by
  rcases D3.mp (I.stkSub b hm) with z | z
  ·have h1:=DV eb;have h2:=I.ok.above;rw [<-z] at h2;exact absurd (D8 h1 h2) (ET _)
  ·exact hb z
 have sub:∀b∈az outer,b∈az (lC X base scope N' cl qual f c' A outer s H E).stack:=λb hb=>by
  rw [stk];unfold az;rw [GN];exact Ep _ hb
 have up:∀b∈az outer,∀o,s2.heap.get? b=some o->∃sl,h2.get? b=some {o with slots:=sl}:=λb hb o eo=>by
  obtain⟨_,o',ho',hd⟩:=fl.2.2.1.mem (sub b hb);rw [eo] at ho';cases ho';exact x2 b o eo hd
 have kB:∀b o,s.heap.get? b=some o->H b=none->b ∉ az outer->B.get? b=some o:=λb o eb n hb=>kb b o (ub.keep b o eb n hb Ka) (ub.free b o eb n Ka) (nst b o eb hb);have tB:∀b o,s.heap.get? b=some o->b ∉ az outer->∃o',B.get? b=some o':=λb o eb hb=>by
  obtain⟨o',eo'⟩:=ub.there b o eb Ka;exact th b o' eo' (nst b o eb hb)
 refine⟨e,cls,a0,B,H2,rfl,ho.trans I.os,hg,x1,hb,⟨λb o eb n hb' hx'=>x1.1 b o (kB b o eb n hb'),λb o eb n hb' hx'=>?_,λb o eb n hx'=>?_,λb o eb hx'=>?_,λb xs z=>un.tups b xs (ub.tups b xs z),λb o u z=>un.frzs b o u (ub.frzs b o u z),λb ps z=>?_⟩,kB,tB,hE _ _ _ q⟩
 ·obtain⟨sl,es⟩:=ub.slot b o eb n hb' hx';obtain⟨sl1,es1⟩:=un.slot b _ es (ub.free b o eb n hx') (sub b hb') Ka;obtain⟨sl2,es2⟩:=up b hb' _ es1;exact⟨sl2,es2⟩
 ·obtain⟨o',eo'⟩:=ub.there b o eb hx';exact un.free b o' eo' (ub.free b o eb n hx') Ka
 ·by_cases hb':b∈az outer
  ·obtain⟨o',eo'⟩:=ub.there b o eb hx';obtain⟨o2,eo2⟩:=un.there b o' eo' Ka;obtain⟨sl',es'⟩:=up b hb' _ eo2;exact⟨_,es'⟩
  ·obtain⟨o',eo'⟩:=tB b o eb hb';exact⟨o',x1.1 b o' eo'⟩
 ·obtain⟨m1,e1⟩:=ub.tbls b ps z;obtain⟨m2,e2⟩:=un.tbls b _ e1;exact⟨m1++m2,by rw [e2,HH]⟩
def Cd(X:Cx)(d:Nat)(C:Ke)(i:Nat)(ts:TS):TS:=λD σ H=>∃(f:Ke)(k:Nat)(fd:Ko)(sp:Sp)(o:Kc×Option Ke×Array (Option Kc)),σ[d]?=some (some (.ref f))/\X.base.get? f=some ⟨o.1,o.2.1,.func fd,o.2.2⟩/\aH k X.A/\
 ay X.prog X.w X.K X.mg X.base (aJ X.prog X.w) k f fd [] sp/\cq X.K fd [] []/\sp [] H (λ_ H2=>D.nx σ H2) (λcls _ H2=>cls= .ref C/\∀e,H2 e=none->
 ts {nx:=λσ' H'=>D.nx (σ'.set i none) H',rt:=D.rt} (σ.set i (some (.ref e))) (ai H2 e (.ext (br e (.ref C)))))
theorem Ce{C C':Ke}{x c n:Str}{p cp ep np hp tp:Pos}{b₀:Ks}{suite:List Ks}{i d:Nat}{ts:TS}{bmB bmB':List Kc}{newId newId':String}(hd:X.N[d]?=some x)(hv:mF X.env.scope x)
 (hst:X.stack=X.env::X.outer)(hfr:X.env.frame=some X.env.locals)
 (hmc:X.mg c=some (.ref C'))(hgc:Gl X c)(q:F0 X.K C bmB newId=true)(q':F0 X.K C' bmB' newId'=true)(hB:bmB'.contains (.type "BaseException")=true)
 (hin:Gy X.K C (.ref C')=some true)
 (hN:X.N.Nodup)(hi:X.N[i]?=some n)(hn:X.env.scope.names.lookup n=some .local)(hs:∀e,bg (X.inEx e) (b₀::suite) ts)
 (hdb:(x==("__debug__":Str))=false:=by decide)(hdc2:(x==("__classdict__":Str))=false:=by decide)(hdc:(c==("__debug__":Str))=false:=by decide)(hsw:KJ (.Call (.Name x p) [] [] cp) none ep.line X.env=pure false:=by rfl):
 PS X (.Try [.Expr (.Call (.Name x p) [] [] cp) ep] [.ExceptHandler (some (.Name c np)) (some n) (b₀::suite) hp] [] [] tp) (Cd X d C i ts):=by
 intro LL s σ H D I h;refine wpAny_Try_except ?_;generalize hEh:(λ(e:Kc) (s₁:Kf)=>Kh (Ki X.prog X.w) X.A (noteFrame e X.env) (λ_ s₂=>Kh (Ki X.prog X.w) X.A (setFlight e none) (λ_ s₃=>Kh (Ki X.prog X.w) X.A (handleBy e X.env [.ExceptHandler (some (.Name c np)) (some n) (b₀::suite) hp]) (SP X LL D) X.xe s₃) X.xe s₂) X.xe s₁)=Eh;have I':aa (X.wish Eh) LL σ H s:=I.wish Eh;have out:Kh (Ki X.prog X.w) X.A (eval (.Call (.Name x p) [] [] cp) X.env) (λ_ s₁=>∃H',aa X LL σ H' s₁/\D.nx σ H') Eh s:=by
  obtain⟨f,k,fd,sp,⟨oc,od,osl⟩,ef,ho,hr,F,hb,q1⟩:=h;refine KS (ao (oy (X:=X.wish Eh) hd hv hdb hdc2 LL s σ H (λv H'=>v=V.ref f/\H'=H) I' ⟨_,ef,rfl,rfl⟩) λu s1 ⟨x',H1,I1w,r,e1,e2⟩=>?_);subst e1;subst e2;cases r;have I1:aa X LL σ H1 s1:=I1w.unwish;have X1:DL.In [(f,⟨oc,od,.func fd,osl⟩)] s1.heap:=λa o e=>by
   rw [Eo] at e;split at e
   ·rename_i hh;cases e;have:a=f:=by simpa using hh
    rw [this];exact I1.bk _ _ ho
   ·cases e
  refine PySem.W.callWith_K0 (K:=[(f,⟨oc,od,.func fd,osl⟩)]) X1 (by simp [GG]) ?_;refine wpAny_call (KR (F.run X.A X.stack s1 H1 ⟨[],[]⟩ [] [] _ _ hr I1.env0 (hb s1 [] I1.kIn rfl) .nil q1) λr2 s2 hq=>?_);cases r2 with
  | ok fl=>
   cases fl with
   | ret u=>
    obtain⟨v,H2,I2,_,q2⟩:=I1.after hq;exact⟨H2,I2,q2⟩
   | next=>exact E7 hq
   | brk=>exact E7 hq
   | cont=>exact E7 hq
  | error ev=>
   obtain⟨e,cls,a0,B,H2,rfl,ho,hgn,fl,hB2,un,kb,th,rfl,hsu⟩:=hq;rw [<-hEh];have fl':IS B (X.env::X.outer) e (.ref C) a0 s2.heap:=by rw [<-hst];exact fl
   refine wpAny_looks_onW (by rw [I.ok.frames,hst]) hfr fl' λh4 held4 sm4=>?_;refine wpAny_landsW held4 λh5 fl5 sm5=>?_;have sm25:=sm4.trans sm5;have I5:aa X LL σ H2 {s2 with heap:=h5}:=aa.call' (ch:=[]) (s':={s2 with heap:=h5}) I1 ho (uf (X:=X) un fl fl5.1 sm25 kb th) (hB2.kept fl5.1) hgn (λ_ z=>nomatch z);have I5e:=I5.inEx e;obtain⟨ob,hob,hobc⟩:=fl5.there;have O:=(qK (x:=c) (mg:=X.mg) (C:=C') I.ok.mod.kin hmc q').obj;obtain⟨tl',N',nm',qn',bs',hd',sn',sub',ab',col',dd',k0',k1',k2',k3',k5',mN',hC',_,_,T'⟩:=O;have O2:=(qK (x:=c) (mg:=λ_=>some (.ref C)) (C:=C) I.ok.mod.kin rfl q).obj;obtain⟨tl,N,nm,qn,bs,hd,sn,sub,ab,col,dd,k0,k1,k2,k3,k5,mN,hC,_,_,T⟩:=O2;refine wpAny_handleBy_cons (codeAny_handlers_test (mH I5e hgc hmc ?_ hdc)) (by intro z;cases z);have hbase':tl'.contains (.type "BaseException")=true:=by rw [T'.hasType hB]
   refine yr (I5.bk _ _ hC) (I5.bk _ _ hC') hob hobc hbase' (yt I.ok.mod.kin hin hC) ?_;refine codeAny_handlers_suite_as ?_;refine lands_againW fl5 λh6 fl6 sm6=>?_;have eB:B.get? e=none:=fl.2.1;have nH2:H2 e=none:=by
    cases z:H2 e with
    | none=>rfl
    | some u=>
     obtain⟨ob',z'⟩:=(hB2 e u z).there;rw [eB] at z';cases z'
   have u6:=uf (X:=X) un fl fl6.1 (sm25.trans sm6) kb th;have n1:∀o,s1.heap.get? e=some o->False:=λo z=>by
    by_cases hbf:e∈az X.stack
    ·obtain⟨_,o',ho',hd'⟩:=fl.2.2.1.mem hbf;obtain⟨oe,ws,hoe,_,hoed,_⟩:=fl.first;rw [hoe] at ho';cases ho';exact hd' _ hoed
    ·obtain⟨o',z'⟩:=th e o z hbf;rw [eB] at z';cases z'
   have ne2:∀b u,H2 b=some u->b≠e:=λb u z w'=>by rw [w',nH2] at z;cases z
   have un6:Un (az X.stack) [] H1 (ai H2 e (.ext (br e (.ref C)))) s1.heap h6:=
    ⟨u6.keep,u6.slot,λb o z nn hx=>by rw [au (λw'=>n1 o (by rw [<-w'];exact z))];exact u6.free b o z nn hx,u6.there,
     λb xs z=>by rw [au (ne2 b _ (u6.tups b xs z))];exact u6.tups b xs z,λb o xs z=>by rw [au (ne2 b _ (u6.frzs b o xs z))];exact u6.frzs b o xs z,
     λb pss z=>by obtain⟨mo,z'⟩:=u6.tbls b pss z;exact⟨mo,by rw [au (ne2 b _ z')];exact z'⟩⟩
   have ok6:aU X.prog X.w (ai H2 e (.ext (br e (.ref C)))) h6:=λb u z=>by
    by_cases hbe:b=e
    ·subst hbe;rw [bf] at z;cases z;obtain⟨o6,ho6,hc6⟩:=fl6.there;exact⟨⟨o6,ho6,hc6⟩,⟨o6,ho6⟩,λh1 h2 uu75 kk=>by obtain⟨o,z1,z2⟩:=uu75;exact⟨o,kk o z1,z2⟩⟩
    ·rw [au hbe] at z;exact(hB2 b u z).stay (λcc v _ z'=>fl6.1 cc v z') (λcc z'=>by rw [au (ne2 cc _ z')];exact z') (λcc xs z'=>by rw [au (ne2 cc _ z')];exact z') λcc xs z'=>by rw [au (ne2 cc _ z')];exact z'
   have I6:aa X LL σ (ai H2 e (.ext (br e (.ref C)))) {s2 with heap:=h6}:=aa.call' (ch:=[]) (s':={s2 with heap:=h6}) I1 ho un6 ok6 hgn (λ_ z=>nomatch z);refine ox (X:=X.inEx e) (I6.inEx e) hN hi (.inl hn) (v:= .ref e) rfl (λs7 I7=>?_) (.inr hn);refine Ky (hs e LL s7 _ _ _ I7 (hsu e nH2)) (λf s8 q8=>?_) λ_ _ z=>z.elim;cases f with
   | next=>
    obtain⟨σ8,H8,J8,q8⟩:=q8;exact ue (J8.outEx I.ok.hd) hN hi hn λs9 J9=>⟨σ8.set i none,H8,J9,q8⟩
   | ret v=>
    obtain⟨v8,σ8,H8,J8,r8,q8⟩:=q8;exact ue (J8.outEx I.ok.hd) hN hi hn λs9 J9=>⟨v8,σ8.set i none,H8,J9,r8,q8⟩
   | brk=>obtain⟨_,_,_,z⟩:=q8;exact z.elim
   | cont=>obtain⟨_,_,_,z⟩:=q8;exact z.elim
 refine LC (wpAny_Expr_any (ao out λv s1 ⟨H',I1,q1⟩=>?_) I.quiet hsw);exact La (La ⟨σ,H',I1,q1⟩)
def Cf(X:Cx)(P:Ke)(qual:Str)(scope:Kz)(N':List Str)(fr:List Nat)(body:Kk)(k:Nat)(nj:Km->Sp):TE:=λσ H Q=>H P=some (dE qual)/\∀(base':Km)(f c':Ke)(fd:Ko)(o:Kc×Option Ke×Array (Option Kc))(cl:List (Str×Ke))(H':Hp),
 ah H H'->H' c'=some (.cod qual)->base'.get? f=some ⟨o.1,o.2.1,.func fd,o.2.2⟩->ay X.prog X.w X.K X.mg base' (aJ X.prog X.w) (k+1) f fd [] (vq X base' σ scope N' fr cl qual f c' k body)->cq X.K fd [] []->nj base' [.ref f] H' Q E0
theorem Cg{kR k:Nat}{fR c P:Ke}{fdR:Ko}{pn x:Str}{nj:Km->Sp}{qual:Str}{scope:Kz}{N':List Str}{fr:List Nat}{params:Ly}{body:Kk}{p lpos pos:Pos}(G:∀base':Km,ay X.prog X.w X.K X.mg base' aK kR fR fdR [pn] (nj base'))(hr:aH kR X.A)
 (hg:Gl X x)(hm:X.mg x=some (.ref fR))(hk:GG X.K (.ref fR)=true)(hb:cq X.K fdR [pn] [])(L:mz X.base X.mg c P)(hcode:X.env.code= .ref c)(hq:X.env.qual++"<lambda>"=qual)(S:aQ X.env.scope X.N N' 0 fr scope)(hfn:∀x,X.fn x=true)
 (hco:scope.isCoroutine=false)(hgen:scope.isGenerator=false)(hcell:∀x∈scope.names,x.2≠ .cell)(hdef:defaultsOf params X.env=([],[]))(hbp:∀(pm cv ctv:Kc) (cl:List (Str×Ke)),bindArgs (kla_fn "<lambda>" qual params body scope cl pm cv ctv) ⟨[],[]⟩=pure [])
 (hdb:(x==("__debug__":Str))=false:=by decide)(he:Kj [.Lambda params body scope lpos] X.env=(false,eval (.Lambda params body scope lpos) X.env)::Kj [] X.env:=by rfl)(hpl:(KA pos (Kj [] X.env)).any (·.1)=false:=by rfl):
 PE X (.Call (.Name x p) [.Lambda params body scope lpos] [] pos) (Cf X P qual scope N' fr body k nj):=by
 intro LL s σ H Q I ⟨hP,h⟩;refine KS (mH I hg hm ?_ hdb);refine IP (h₀:=X.base) I.ok.mod.kin hk ?_ he hpl;rw [he];show Kh _ _ (spliced ((false,eval (.Lambda params body scope lpos) X.env)::KA pos (Kj [] X.env))) _ _ s;refine IM (B9 I L hcode hP hq (qB λy hy e=>I.ok.has y.1 (S.outer y hy e)) hdef λf c' pm ctv h' tk H' I1 ho hsz hf hc' sm=>?_);refine Jc ⟨I1.kIn,?_⟩;have hfs:f ∉ az X.stack:=λhb'=>by
  obtain⟨_,o,ho',_⟩:=I.stack.mem hb';exact absurd (D8 (DV ho') hsz) (ET _)
 have h2:=h (kX X {s with heap:=h',toks:=tk} H') f c' _ (_,_,_) _ H' sm hc' (oi ho hf hfs) (Cb (k:=k) S I1 ho hf hfs hfn hco hgen hcell) (λs2 us _ hl=>by
  cases us with
  | nil=>exact .of_eq (hbp _ _ _ _)
  | cons a l=>simp at hl)
 refine wpAny_call (KR ((G _).run X.A X.stack _ H' ⟨[.ref f],[]⟩ [.ref f] [.ref f] Q E0 hr I1.env0L (hb _ [.ref f] I1.kIn rfl) (.cons rfl .nil) h2) λr s' hq=>?_);cases r with
 | error e=>exact hq.elim
 | ok fl=>
  cases fl with
  | ret u=>exact I1.after hq
  | next=>exact E7 hq
  | brk=>exact E7 hq
  | cont=>exact E7 hq
end
abbrev DX:=List Kb->(Kb->Prop)->Prop->Prop
inductive lU (K:DL) (C:Ke) (F:DX) (vs:List V) (H:Hp) (Q:VK) (E:XK):Prop
 | mk (O:Ex) (ds:List Kb) (Qd:Kb->Prop) (R:Prop):(∀l,O l->H l≠none)->ag K H O vs ds->F ds Qd R->(∀d v H',Qd d->ah H H'->Dt K H' O v d->Q v H')->(R->∀H',ah H H'->E (.ref C) none H')->lU K C F vs H Q E
section
variable {P:Kp} {w:Kq} {K:DL} {mg:Str->Option Kc} {base:Km}
theorem cw.okDX{C:Ke}{x qual:Str}{st:Ks}{f:Ke}{fd:Ko}{N ps:List Str}{k:Nat}{F:DX}(Fu:cw K x qual st f fd)(S:bb N ps (av st))(len:∀ds Q R,F ds Q R->ds.length=ps.length)
 (hbody:∀(cdv:Kc) (A:Kr) (outer:List Env) (s:Kf) (H:Hp) (O:Ex) (ds:List Kb) (Q:Kb->Prop) (R:Prop) (E:XK),aH k (A.deeper (K5 qual (av st) s.heap.objs.size f cdv))->F ds Q R->(R->∀H',ah H H'->E (.ref C) none H')->
  ∃t,bg (aN (aJ P w) P w K mg base N qual (av st) f cdv A outer s H E) (cU st) (aP K H O t)/\t {nx:=λ_=>Q .none,rt:=Q} (bY N ds)):ay P w K mg base (aJ P w) (k+1) f fd ps (lU K C F):=by
 refine Fu.okR S (λvs H Q E h=>?_) (λcdv A outer s H vs Q E hr h=>?_)
 ·obtain⟨O,ds,Qd,R,_,r,q,_⟩:=h;rw [r.length];exact len _ _ _ q
 ·obtain⟨O,ds,Qd,R,tr,r,q,k,kx⟩:=h;obtain⟨t,ht,q'⟩:=hbody cdv A outer s H O ds Qd R E hr q kx;refine⟨_,ht,O,_,_,qX tr r,q',λO' δ' σ' H' z w' S'=>?_,λd v H' z s' r'=>k d v H' z s' r',λ_ _ _ _ z=>z.elim,λ_ _ _ _ z=>z.elim⟩;exact k _ _ _ z w'.same .non
def fK(R:Prop)(u:DA):DS:=λ_ δ=>u δ λds=>ds.length<=Kl/\R
section
variable {N:List Str} {qual:Str} {scope:Kz} {f0:Ke} {cd:Kc} {A:Kr} {outer:List Env} {s:Kf} {H:Hp} {O:Ex} {E:XK} {R:Prop} {C:Ke}
theorem Ci{x:Str}{bm:List Kc}{B newId initId:String}{e:Kk}{es:List Kk}{np cpos pos:Pos}{u:DA}(hx:R->∀H',ah H H'->E (.ref C) none H')(hm:mg x=some (.ref C))(q:F0 K C bm newId=true)(FB:ExcBaseFacts B newId initId bm)
 (ha:PA (aN (aJ P w) P w K mg base N qual scope f0 cd A outer s H E) (e::es) (cG K H O u))(hg:Gl (aN (aJ P w) P w K mg base N qual scope f0 cd A outer s H E) x:=by exact rfl)(hd:(x==("__debug__":Str))=false:=by decide)
 (he:Kj (e::es) (aN (aJ P w) P w K mg base N qual scope f0 cd A outer s H E).env=(false,eval e (aN (aJ P w) P w K mg base N qual scope f0 cd A outer s H E).env)::Kj es (aN (aJ P w) P w K mg base N qual scope f0 cd A outer s H E).env:=by rfl)
 (hpl:(KA cpos (Kj es (aN (aJ P w) P w K mg base N qual scope f0 cd A outer s H E).env)).any (·.1)=false:=by rfl):
 PS (aN (aJ P w) P w K mg base N qual scope f0 cd A outer s H E) (.Raise (some (.Call (.Name x np) (e::es) [] cpos)) none pos) (aP K H O (fK R u)):=
 λLL s1 σ H1 D I ⟨O1,δ,EE,w1,q1,_,_,_,_⟩=>yq (Ex:=λH2=>R/\ah H H2) hm q FB rfl hg ha (λLL σ H2 s2 h' e args I2 hM uu78=>by obtain⟨r,sm⟩:=uu78;exact yo I2 hM (hx r H2 sm)) hd he hpl LL s1 σ H1 D I
  ⟨O1,δ,_,w1,q1,λds vs H2 uu79 s2 r2=>by obtain⟨hl,r⟩:=uu79;exact⟨by rw [r2.length];exact hl,r,w1.same.trans s2⟩⟩
def fL(F:DX)(R:Prop)(t:DA):DT:=λδ Q=>t δ λds=>F ds Q R
theorem rO{k j:Nat}{f:Ke}{fd:Ko}{ps:List Str}{F:DX}{st:Ks}{x:Str}{p pos:Pos}{e:Kk}{es:List Kk}{u:DA}(hx:R->∀H',ah H H'->E (.ref C) none H')(G:ay P w K mg base (aJ P w) k f fd ps (lU K C F))
 (hr:aH j (aN (aJ P w) P w K mg base N qual scope f0 cd A outer s H E).A)(Nf:Fn K mg x st f fd ps)(ha:PA (aN (aJ P w) P w K mg base N qual scope f0 cd A outer s H E) (e::es) (cG K H O u))(hk:k<=j:=by decide)
 (hg:Gl (aN (aJ P w) P w K mg base N qual scope f0 cd A outer s H E) x:=by exact rfl)(hdb:(x==("__debug__":Str))=false:=by decide)
 (he:Kj (e::es) (aN (aJ P w) P w K mg base N qual scope f0 cd A outer s H E).env=(false,eval e (aN (aJ P w) P w K mg base N qual scope f0 cd A outer s H E).env)::Kj es (aN (aJ P w) P w K mg base N qual scope f0 cd A outer s H E).env:=by rfl)
 (hpl:(KA pos (Kj es (aN (aJ P w) P w K mg base N qual scope f0 cd A outer s H E).env)).any (·.1)=false:=by rfl):
 DE (aN (aJ P w) P w K mg base N qual scope f0 cd A outer s H E) H O (.Call (.Name x p) (e::es) [] pos) (fL F R u):=
 PE.imp (qx (E:=λcls d H1=>cls= .ref C/\d=none/\R/\ah H H1) G (hr.mono hk) hg Nf.m Nf.kp Nf.b .nil (yp λcls d H' uu80=>by obtain⟨e,e2,r,sm⟩:=uu80;exact e▸e2▸hx r H' sm) ha hdb he hpl)
  λσ H1 Q uu81=>by obtain⟨O1,δ,Qd,w1,q,k1⟩:=uu81;exact⟨O1,δ,_,w1,q,λds vs H2 q1 s1 r1=>⟨O1,ds,Qd,R,(w1.mono s1).trk,by rw [Er];exact r1,q1,λd v H3 q2 s2 r2=>k1 d v H3 q2 (s1.trans s2) r2,λr H3 s2=>⟨rfl,rfl,r,w1.same.trans (s1.trans s2)⟩⟩⟩
end
def vt(P:Kp)(w:Kq)(K:DL)(mg:Str->Option Kc)(C:Ke)(k0:Nat)(base:Km):Sp:=λvs H Q _=>∃(f k:Nat)(fd:Ko)(sp:Sp)(o:Kc×Option Ke×Array (Option Kc)),vs=[.ref f]/\base.get? f=some ⟨o.1,o.2.1,.func fd,o.2.2⟩/\k<=k0/\
 ay P w K mg base (aJ P w) k f fd [] sp/\cq K fd [] []/\∀(Qn:VK)(En:XK),(∀v H2,Q (.bl false) H2->Qn v H2)->(∀d H2,(∀H3,ah H2 H3->Q (.bl true) H3)->En (.ref C) d H2)->sp [] H Qn En
end
section
variable {X:Cx} {H0:Hp} {O0:Ex}
def fM(F:DX)(fr:List Nat)(u:DA):DT:=λδ Q=>u (bj 0 fr δ) λds=>F ds (λ_=>Q (.bool false)) (Q (.bool true))
theorem rP{C c PT:Ke}{kR k0 kg:Nat}{fR fg:Ke}{fdR fdg:Ko}{pn x xg qual:Str}{psg:List Str}{stR stg:Ks}{F:DX}{scope:Kz}{N':List Str}{fr:List Nat}{params:Ly}{a:Kk}{as:List Kk}{p gp gpos lpos pos:Pos}{u:DA}
 (G:∀base':Km,ay X.prog X.w X.K X.mg base' aK kR fR fdR [pn] (vt X.prog X.w X.K X.mg C k0 base'))(Gg:∀base':Km,ay X.prog X.w X.K X.mg base' (aJ X.prog X.w) kg fg fdg psg (lU X.K C F))
 (hr:aH kR X.A)(NR:Fn X.K X.mg x stR fR fdR [pn])(Ng:Fn X.K X.mg xg stg fg fdg psg)(hP0:H0 PT=some (dE qual))(L:mz X.base X.mg c PT)(hcode:X.env.code= .ref c)(hq:X.env.qual++"<lambda>"=qual)
 (S:aQ X.env.scope X.N N' 0 fr scope)(hfr:fr.Nodup)(hfn:∀x,X.fn x=true)
 (ha:∀base' cl f c' A outer s2 H2 E,PA (lC X base' scope N' cl qual f c' A outer s2 H2 E) (a::as) (cG X.K H0 O0 u))(hk:kg+1<=k0:=by decide)
 (hg:Gl X x:=by exact rfl)(hgl:∀base' cl f c' A outer s2 H2 E,Gl (lC X base' scope N' cl qual f c' A outer s2 H2 E) xg:=by intros;exact rfl)
 (hco:scope.isCoroutine=false:=by rfl)(hgen:scope.isGenerator=false:=by rfl)(hcell:∀x∈scope.names,x.2≠ .cell:=by decide+kernel)(hdef:defaultsOf params X.env=([],[]):=by rfl)
 (hbp:∀(pm cv ctv:Kc) (cl:List (Str×Ke)),bindArgs (kla_fn "<lambda>" qual params (.Call (.Name xg gp) (a::as) [] gpos) scope cl pm cv ctv) ⟨[],[]⟩=pure []:=by intros;rfl)
 (hdb:(x==("__debug__":Str))=false:=by decide)(hdg:(xg==("__debug__":Str))=false:=by decide)(he:Kj [.Lambda params (.Call (.Name xg gp) (a::as) [] gpos) scope lpos] X.env=(false,eval (.Lambda params (.Call (.Name xg gp) (a::as) [] gpos) scope lpos) X.env)::Kj [] X.env:=by rfl)(hpl:(KA pos (Kj [] X.env)).any (·.1)=false:=by rfl)
 (heg:∀env:Env,Kj (a::as) env=(false,eval a env)::Kj as env:=by intro;rfl)(hplg:∀env:Env,(KA gpos (Kj as env)).any (·.1)=false:=by intro;rfl):
 DE X H0 O0 (.Call (.Name x p) [.Lambda params (.Call (.Name xg gp) (a::as) [] gpos) scope lpos] [] pos) (fM F fr u):=
 PE.imp (Cg (k:=kg) G hr hg NR.m NR.kp NR.b L hcode hq S hfn hco hgen hcell hdef hbp hdb he hpl) λσ H Q ⟨O,δ,Qd,w,q,kk⟩=>⟨w.same _ _ hP0,λbase' f c' fd o cl H' sm hc' hbf Ff hb'=>
  ⟨f,kg+1,fd,_,o,rfl,hbf,hk,Ff,hb',λQn En kQ kE=>⟨rfl,hc',λA outer s2 hr2=>⟨_,qx (E:=λcls _ H4=>cls= .ref C/\Qd (.bool true)/\ah H' H4) (Gg base') hr2 (hgl _ _ _ _ _ _ _ _ _) Ng.m Ng.kp Ng.b .nil
   (Cc λcls d H4 uu83=>by obtain⟨e,r,s4⟩:=uu83;exact e▸kE d H4 λH5 s5=>kk (.bool true) (.bl true) H5 r (sm.trans (s4.trans s5)) (.bl true)) (ha _ _ _ _ _ _ _ _ _) hdg (heg _) (hplg _),
   O,bj 0 fr δ,_,(w.mono sm).comp hfr,q,λds vs H3 q1 s1 r1=>⟨O,ds,_,_,((w.mono sm).mono s1).trk,by rw [Er];exact r1,q1,λd v H4 q2 s2 r2=>kQ v H4 (kk (.bool false) (.bl false) H4 q2 (sm.trans (s1.trans s2)) (.bl false)),λr H4 s2=>⟨rfl,r,s1.trans s2⟩⟩⟩⟩⟩⟩
end
section
variable {P:Kp} {w:Kq} {K:DL} {mg:Str->Option Kc} {base:Km}
def vv(PT:Ke)(q:Str)(K:DL)(F:List Kb->(Kb->Prop)->Prop):Sp:=λvs H Q E=>H PT=some (dE q)/\aX K F vs H Q E
theorem cw.okDL{x qual q:Str}{st:Ks}{f c PT:Ke}{fd:Ko}{N ps:List Str}{k:Nat}{F:List Kb->(Kb->Prop)->Prop}(Fu:cw K x qual st f fd)(hco:fd.code= .ref c)(S:bb N ps (av st))(len:∀ds Q,F ds Q->ds.length=ps.length)
 (hbody:∀(cdv:Kc) (A:Kr) (outer:List Env) (s:Kf) (H:Hp) (O:Ex) (ds:List Kb) (Q:Kb->Prop) (E:XK),cdv= .ref c->H PT=some (dE q)->aH k (A.deeper (K5 qual (av st) s.heap.objs.size f cdv))->F ds Q->
  ∃t,bg (aN aK P w K mg base N qual (av st) f cdv A outer s H E).nox (cU st) (aP K H O t)/\t {nx:=λ_=>Q .none,rt:=Q} (bY N ds)):ay P w K mg base aK (k+1) f fd ps (vv PT q K F):=by
 obtain⟨oc,od,kV,doc,pm,an,cdv,ct,osl,rfl,lk,hcd⟩:=Fu.ex;refine qy lk hcd S (λvs H Q E h=>?_) λA outer s H vs Q E hr hsp=>?_
 ·obtain⟨_,O,ds,Qd,_,r,q,_⟩:=h;rw [r.length];exact len _ _ q
 ·obtain⟨hP,O,ds,Qd,tr,r,q,k⟩:=hsp;obtain⟨t,ht,q'⟩:=hbody cdv A outer s H O ds Qd E hco hP hr q;refine⟨_,ht.nox,O,_,_,qX tr r,q',λO' δ' σ' H' z w' S'=>?_,λd v H' z s' r'=>k d v H' z s' r',λ_ _ _ _ z=>z.elim,λ_ _ _ _ z=>z.elim⟩;exact k _ _ _ z w'.same .non
end
section
variable {X:Cx} {LL:List (Ke×Obj)} {σ:St} {H:Hp} {s:Kf}
theorem Cj(I:aa X LL σ H s){O:Ex}{v:V}{d:Kb}{u:Kc}(h:Dt X.K H O v d)(ht:bJ d=true)(r:aD v u)(y:Str)(t:Tok)(hu:X.A.units < cLine):SeqAt.RcAt X.A s (.str y t) u (Ea (.str y) d):=by
 cases h with
 | non=>cases (show u=Gm from r);simpa [Ea] using SeqAt.RcAt.str_none y t
 | bl b=>cases (show u=GQ b from r);simpa [Ea] using SeqAt.RcAt.str_bool y t b
 | int i=>obtain⟨k,e⟩:=(show ∃t,u=G2 i t from r);cases e;simpa [Ea] using SeqAt.RcAt.str_int y t i k
 | str x=>obtain⟨k,e⟩:=(show ∃t,u=Gf x t from r);cases e;simpa [Ea] using IV y t x k
 | @tup a xs ds h n rr=>
  cases (show u=EF a from r);obtain⟨its,rv,p,_⟩:=I.tuple (.inl h);simpa [Ea] using ID y t (show s.heap.IsTuple a its.toArray from p) hu
 | @tupK a xs ds h rr=>
  cases (show u=EF a from r);obtain⟨its,rv,p,_⟩:=I.tuple h.of0;simpa [Ea] using ID y t (show s.heap.IsTuple a its.toArray from p) hu
 | @lst a xs ds h n rr=>
  cases (show u=EF a from r);obtain⟨its,rv,p,_⟩:=I.list (.inl h);simpa [Ea] using SeqAt.RcAt.str_list y t p.isList hu
 | pack h n=>exact absurd ht (by simp [bJ])
 | purse h n=>exact absurd ht (by simp [bJ])
 | scr h r=>exact absurd ht (by simp [bJ])
 | obj h e n r=>exact absurd ht (by simp [bJ])
 | @dct0 a h n=>
  cases (show u=EF a from r);obtain⟨_,_,_,_,o,es,ep,e,c,dd,_⟩:=(show bz X.prog X.w H s.heap a (.dK []) from I.hok a _ h);simpa [Ea] using SeqAt.RcAt.str_dict y t e c.1 dd hu
 | @dic a ob kv ks kp ds h e1 e2 n rr=>
  cases (show u=EF a from r);obtain⟨_,_,_,_,o,es,ep,e,c,dd,_⟩:=(show bz X.prog X.w H s.heap a (.dK kv) from(I.hok a _ h).2);simpa [Ea] using SeqAt.RcAt.str_dict y t e c.1 dd hu
end
section
variable {X:Cx}
def vw(K:DL):R2:=λx y H Q=>∃O dy z,Dt K H O y dy/\bJ dy=true/\x= .str z/\Q (.bl (Ea (.str z) dy)) H
theorem Ck{k:Nat}(hr:aH k X.A):aZ X (KC .Eq) (vw X.K):=by
 intro LL s σ H x y v u Q I rx ry h;obtain⟨O,dy,z,hy,ht,rfl,q⟩:=h;obtain⟨t,rfl⟩:=rx;exact Cj I hy ht ry z t hr.units0 X.prog X.w X.xe _ (lg I q rfl)
def fN:Kb->Kb->(Kb->Prop)->Prop:=λx y Q=>∃z,x= .str z/\bJ y=true/\Q (.bool (Ea (.str z) y))
theorem Cm{K:DL}:bC K (vw K) fN:=λH O x y dx dy Qd R _ hx hy uu84 k=>by
 obtain⟨z,e,ht,q⟩:=uu84;subst e;cases hx.str;exact⟨_,dy,z,hy.all,ht,rfl,k _ _ H q (ah.refl _) (.bl _)⟩
end
theorem vx{X:Cx}{K':DL}(h:X.K=K'):b7 X (.builtin "isinstance") (λxs H Q=>∃(e C:Ke)(c:V)(cv:Kc)(b:Bool),xs=[.ref e,c]/\H e=some (.ext (br e (.ref C)))/\dN K' C/\(∀u,aD c u->u=cv)/\Hl K' (.ref C) cv=some b/\Q (.bl b) H):=by
 subst h;exact yH
theorem Cn{X:Cx}{K':DL}(h:X.K=K'):b7 X (.builtin "isinstance") (λxs H Q=>∃(e C q:Ke)(cs:List Ke)(b:Bool),xs=[.ref e,.ref q]/\H e=some (.ext (br e (.ref C)))/\H q=some (.tup (cs.map V.ref))/\dN K' C/\HG K' (.ref C) (cs.map EF)=some b/\Q (.bl b) H):=by
 subst h;exact yJ
def Co(P:Ke)(q:Str)(H:Hp):Prop:=∀b,H b=none\/(∃o xs,H b=some (.frz o (.lst xs)))\/(b=P/\H b=some (dE q))
theorem Cp{P:Kp}{w:Kq}{K:DL}{mg mb:Str->Option Kc}{CX:cn}{k:Nat}{fa a c PT:Ke}{fd:Ko}{x q:Str}{sp:Sp}{s₁:Kf}{vs:List Kc}{ns:List Int}
 (KX:K.In s₁.heap)(hnt:noTabs K=true)(hns:s₁.heap.Ns Kn mg)(hb:s₁.heap.Ns Le mb)(hbb:∀x:Str,x≠"__name__"->mb x=Kw x)(hlim:s₁.heap.NoLimit)(hg:s₁.gens=#[])
 (hC:CodeHd s₁.heap c PT)(hPT:s₁.heap.get? PT=some (tabObj #[]))(hbm:∃bm ob,mg "__builtins__"=some (.ref bm)/\bm≠Le/\s₁.heap.get? bm=some ob/\ob.cls= .type "module"/\ob.dict=some Le/\ob.data= .plain)
 (ha:s₁.heap.get? a=some {cls:= .type "list",data:= .seq vs.toArray})(hi:IntsAre vs ns)(hl:ns.length<=Kl)(hr:aH k callerA)
 (F:∀base:Km,K.In base->base.Ns Kn mg->mz base mg c PT->ay P w K mg base CX k fa fd [x] sp)(hbind:∀(s:Kf) (u:Kc),BindsTo s fd ⟨[u],[]⟩ [(x,u)])
 (hsp:∀H:Hp,H PT=some (dE q)->aI K H a (ns.map V.int)->sp [.ref a] H (λv _=>v= .bl true) λ_ _ _=>False)
 (hCX:∀H e s',CX [] H s₁ (λ_ _ _=>False) e s'->False):
 K3 (Ki P w) callerA (.call (.ref fa) ⟨[.ref a],[]⟩) (λr s'=>r= .ok (.ret (.bool true))/\OldK s₁.heap s'.heap/\s'.os=s₁.os/\Lf s'.gens) s₁:=by
 have rv:=tV hi;have lenV:=hi.length;have naP:a≠PT:=λe=>by rw [e,hPT] at ha;cases ha
 have KP:K.lookup PT=none:=by
  cases q:K.lookup PT with
  | none=>rfl
  | some o=>
   have e:=KX PT o q;rw [hPT] at e;cases e;have h2:=Gi.mp hnt (PT,tabObj #[]) (mem_of_lookupK q);exact absurd (show false=true from h2) EI
 have core:∀H:Hp,Co PT q H->H PT=some (dE q)->aI K H a (ns.map V.int)->aU P w H s₁.heap->(∀b,H b≠none->b=a\/b=PT)->(H a≠none->K.lookup a=none)->
  K3 (Ki P w) callerA (.call (.ref fa) ⟨[.ref a],[]⟩) (λr s'=>r= .ok (.ret (.bool true))/\OldK s₁.heap s'.heap/\s'.os=s₁.os/\Lf s'.gens) s₁:=by
  intro H hO hHP hS hok hA hK;have base_of:∀{b:Ke}{o:Obj},s₁.heap.get? b=some o->H b=none->(fO s₁.heap H).get? b=some o:=λe n=>wF e n;have noA:∀{b:Ke}{o:Obj},s₁.heap.get? b=some o->(∀xs,o.data≠ .seq xs 0)->(∀xs,o.data≠ .fields xs)->H b=none:=λ{b o} e d d2=>by
   cases q:H b with
   | none=>rfl
   | some u=>
    rcases hA b (by rw [q];simp) with e' | e' <;> subst e'
    ·rw [ha] at e;cases e;exact absurd rfl (d _)
    ·rw [hPT] at e;cases e;exact absurd rfl (d2 _)
  have nsK:∀{b:Ke}{m:Str->Option Kc},s₁.heap.Ns b m->(fO s₁.heap H).Ns b m:=λ{b m} ⟨o,es,ep,e,d,r⟩=>⟨o,es,ep,base_of e (noA e (λ_ z=>by rw [d] at z;cases z) λ_ z=>by rw [d] at z;cases z),d,r⟩;have hKb:K.In (fO s₁.heap H):=λb o e=>base_of (KX b o e) (by
   cases q:H b with
   | none=>rfl
   | some u=>
    rcases hA b (by rw [q];simp) with e' | e' <;> subst e'
    ·rw [hK (by rw [q];simp)] at e;cases e
    ·rw [KP] at e;cases e)
  have hM:Mod K mg (fO s₁.heap H):=⟨hKb,nsK hns,⟨mb,nsK hb,hbb⟩,let ⟨mc,h1,h2⟩:=hlim;⟨mc,nsK h1,h2⟩⟩;have e0:lI P w K mg (fO s₁.heap H) callerA [] s₁ H:=⟨rfl,hM,λb o e=>wG e,JL (wD _ _),trivial,λb hb=>absurd (show b∈([]:List Ke) from hb) Ka,hok,.of_eq hg⟩;have hL:mz (fO s₁.heap H) mg c PT:=by
   refine⟨?_,λe=>?_,?_⟩
   ·obtain⟨o,vs,file,tf,flags,tg,inF,text,tt,g1,g2,r1,r2,r3,r4,r5,r6,r7,ne⟩:=hC;refine⟨o,vs,file,tf,flags,tg,inF,text,tt,base_of g1 ?_,g2,r1,r2,r3,r4,r5,r6,r7,ne⟩;cases q:H c with
    | none=>rfl
    | some u=>
     rcases hA c (by rw [q];simp) with e' | e'
     ·rw [e',ha] at g1;cases g1;exact absurd (show("list":String)="code" from by injection g2) J3
     ·exact absurd e' ne
   ·obtain⟨o,es,ep,g1,g2,_⟩:=hns;rw [e,hPT] at g1;cases g1;cases g2
   ·obtain⟨bm,ob,b1,b2,b3,b4,b5,b6⟩:=hbm;refine⟨bm,ob,b1,b2,λe=>?_,λe=>?_,base_of b3 (noA b3 (λ_ z=>by rw [b6] at z;cases z) λ_ z=>by rw [b6] at z;cases z),b4,b5,b6⟩
    ·obtain⟨o,es,ep,g1,g2,_⟩:=hns;rw [<-e,b3] at g1;cases g1;rw [b6] at g2;cases g2
    ·rw [e,hPT] at b3;cases b3;cases b4
  refine KR ((F _ hKb (nsK hns) hL).run callerA [] s₁ H ⟨[.ref a],[]⟩ [.ref a] [.ref a] _ _ hr e0 (hbind s₁ (.ref a)) (.cons rfl .nil) (hsp H hHP hS)) λr s' h=>?_;cases r with
  | error e=>exact(hCX H e s' h).elim
  | ok fl=>
   cases fl with
   | next=>exact E7 h
   | brk=>exact E7 h
   | cont=>exact E7 h
   | ret u=>
    obtain⟨v,H',os,bare,un,hok',r',q⟩:=h;have q':v= .bl true:=q;subst q';obtain rfl:u=GQ true:=r';refine⟨rfl,⟨λb o e=>?_,λb o e=>un.there b o e Ka⟩,os,bare⟩;cases q:H b with
    | none=>exact .inl (un.keep b o e q (by intro z;exact absurd (show b∈([]:List Ke) from z) Ka) Ka)
    | some u=>
     rcases hO b with z | ⟨ob,xs,z⟩ | ⟨rfl,z⟩
     ·rw [q] at z;cases z
     ·have z2:=un.frzs b ob _ z;obtain⟨e1,_⟩:=hok b _ z;obtain⟨e2,_⟩:=hok' b _ z2;rw [e] at e1;cases e1;exact .inl e2
     ·obtain⟨more,z2⟩:=un.tbls b _ z;obtain⟨_,_,_,ps,e2,_⟩:=hok' b _ z2;rw [hPT] at e;cases e;exact .inr (.inl ⟨(hC.tab hPT).isCodeTable,rfl,#[],ps,rfl,by rw [Array.empty_append];exact e2⟩)
 cases hk:K.lookup a with
 | some o=>
  have e:=KX a o hk;rw [ha] at e;cases e;refine core (λb=>if b=PT then some (dE q) else none) (λb=>?_) (J6 rfl) (.inr ⟨_,vs.toArray,_,hk,rfl,rfl,rfl,by rw [Eb,lenV];exact hl,by simpa using rv⟩) (λb u z=>?_) (λb z=>?_) λz=>absurd (J5 naP) z
  ·by_cases hb:b=PT
   ·exact .inr (.inr ⟨hb,J6 hb⟩)
   ·exact .inl (J5 hb)
  ·by_cases hb:b=PT
   ·have z':=(J6 hb).symm.trans z;cases z';subst hb;exact⟨q,0,rfl,#[],hPT,trivial,λ_ _ e=>nomatch e⟩
   ·have z':=(J5 hb).symm.trans z;cases z'
  ·by_cases hb:b=PT
   ·exact .inr hb
   ·exact absurd (J5 hb) z
 | none=>
  refine core (λb=>if b=PT then some (dE q) else if b=a then some (.frz {cls:= .type "list",data:= .seq vs.toArray} (.lst (ns.map V.int))) else none) (λb=>?_) (J6 rfl) (.inl (.inr ⟨{cls:= .type "list",data:= .seq vs.toArray},(J5 naP).trans (J6 rfl)⟩)) (λb u z=>?_) (λb z=>?_) λ_=>hk
  ·by_cases hb:b=PT
   ·exact .inr (.inr ⟨hb,J6 hb⟩)
   ·by_cases hb2:b=a
    ·exact .inr (.inl ⟨_,_,(J5 hb).trans (J6 hb2)⟩)
    ·exact .inl ((J5 hb).trans (J5 hb2))
  ·by_cases hb:b=PT
   ·have z':=(J6 hb).symm.trans z;cases z';subst hb;exact⟨q,0,rfl,#[],hPT,trivial,λ_ _ e=>nomatch e⟩
   ·have z:=(J5 hb).symm.trans z;by_cases hb2:b=a
    ·have z':=(J6 hb2).symm.trans z;cases z';subst hb2;exact⟨ha,by rw [DP];exact hl,vs,_,rv,ha⟩
    ·have z':=(J5 hb2).symm.trans z;cases z'
  ·by_cases hb:b=PT
   ·exact .inr hb
   ·by_cases hb2:b=a
    ·exact .inl hb2
    ·exact absurd ((J5 hb).trans (J5 hb2)) z
theorem tabIn_of{K:DL}{x:Str}{f c P:Ke}{oc o2:Kc}{od d2:Option Ke}{osl s2:Array (Option Kc)}{fd:Ko}{vs:Array Kc}(a:nsIn K Kn x=some (some (.ref f)))(b:K.lookup f=some ⟨oc,od,.func fd,osl⟩)(e:fd.code= .ref c)
 (g:K.lookup c=some ⟨o2,d2,.fields vs,s2⟩)(j:(vs[11]?:Option Kc)=some (.ref P)):tabIn K x=some (c,P):=by
 unfold tabIn;simp only [a,b,e,g,j]
theorem walk_ofTK{l:PySem.W.OpenLaw}{n k:Nat}{q:Kp}{loose:List Str}{XP:(Str->Option Kc)->Km->Prop}{YP:Kq->Km->Prop}{d dl:DefRec}{K:Params->DL}{sp:DL->Ke->Sp}{x qn:Str}{c PT:Ke}
 (hn:l.most=some n)(hn2:n<=Kl)(hdf:d.params.defaults=[])(hr:aH k callerA)
 (hY:∀(w:Kq) (h:Km),YP w h->(K w.params).In h)(hrec:(recsOf q).find? (λe=>e.name==d.name)=some dl)
 (F:∀(w:Kq) (mg:Str->Option Kc) (fa:Ke) (h:Km),(K w.params).In h->h.Ns Kn mg->mg d.name=some (.ref fa)->
  ∃fd:Ko,noTabs (K w.params)=true/\tabIn (K w.params) d.name=some (c,PT)/\(∀(s:Kf) (u:Kc),BindsTo s fd ⟨[u],[]⟩ [(x,u)])/\(∃oc od osl,(K w.params).lookup fa=some ⟨oc,od,.func fd,osl⟩)/\
   ∀base:Km,(K w.params).In base->base.Ns Kn mg->mz base mg c PT->fd.code= .ref c->ay l.prog w (K w.params) mg base aK k fa fd [x] (sp (K w.params) PT))
 (hsp:∀(K:DL) (H:Hp) (a:Ke) (ns:List Int),ns.length<=n->(∀z∈ns,FA z<=1048576)->H PT=some (dE qn)->aI K H a (ns.map V.int)->sp K PT [.ref a] H (λv _=>v= .bl true) λ_ _ _=>False):
 PySem.W.WalkO q loose XP YP l.row.toRowW d [] (λf vs=>JU f vs):=by
 refine Att.attach_callB hn hdf λw s₀ s₁ mg mb fa o pm cd doc a vs ns G Y ho hd hcd hmg hobj hints hlen hb hg=>?_;have KX:=hY w _ Y;obtain⟨fd,hnt,hti,hbi,⟨oc,od,osl,hl⟩,hF⟩:=F w mg fa _ KX G.T.g hmg;obtain⟨hC,hPT⟩:=tab_of G.T KX hrec hti;have hco:fd.code= .ref c:=law_code KX G.T.g hti hmg (KX _ _ hl) rfl;exact Cp (q:=qn) KX hnt G.T.g G.T.b G.T.builtins G.T.nolimit hg hC hPT G.T.bmain hobj hints (EV hlen hn2) hr (λbase h1 h2 h3=>hF base h1 h2 h3 hco) hbi (λH hO hS=>hsp _ H a ns hlen hb hO hS) λH e s' h=>h.elim
end L2
namespace K09
open PySem L2
def bM(i:Nat):Ks:=PySem.Challenge.pw_goneday_k09_papers_in_order.main.body.getD i (.Pass ⟨0,0,0,0⟩)
abbrev rQ:Ks:=bM 14
abbrev pw:Ks:=bM 15
abbrev rR:Ks:=bM 16
abbrev px:Ks:=bM 17
abbrev rS:Ks:=bM 18
abbrev oj:Ks:=bM 19
abbrev pz:Ks:=bM 20
abbrev rT:Ks:=bM 21
abbrev rV:Ks:=bM 23
abbrev rW:Ks:=bM 24
abbrev pA:Ks:=bM 25
abbrev rX:Ks:=bM 26
abbrev pB:Ks:=bM 27
abbrev rY:Ks:=bM 28
abbrev rZ:Ks:=bM 29
abbrev pC:Ks:=bM 30
abbrev om:Ks:=bM 31
abbrev pE:Ks:=bM 32
abbrev pF:Ks:=bM 33
abbrev sa:Ks:=bM 34
abbrev sd:Ks:=bM 35
abbrev mC:Ks:=bM 36
set_option genInjectivity false in
set_option genSizeOfSpec false in
structure lE where
 a_A:Ke
 d_A:Ko
 a_B:Ke
 d_B:Ko
 a_C:Ke
 d_C:Ko
 a_D:Ke
 d_D:Ko
 a_E:Ke
 d_E:Ko
 a_F:Ke
 d_F:Ko
 a_G:Ke
 d_G:Ko
 a_H:Ke
 d_H:Ko
 a_I:Ke
 d_I:Ko
 a_J:Ke
 d_J:Ko
 a_K:Ke
 d_K:Ko
 a_L:Ke
 d_L:Ko
 a_M:Ke
 d_M:Ko
 a_N:Ke
 d_N:Ko
 a_O:Ke
 d_O:Ko
 a_P:Ke
 d_P:Ko
 a_Q:Ke
 d_Q:Ko
 a_R:Ke
 d_R:Ko
 a_S:Ke
 d_S:Ko
 a_T:Ke
 d_T:Ko
 a_U:Ke
 d_U:Ko
 a_V:Ke
 d_V:Ko
 u_NoPaper:Ke
 u_ArchiveError:Ke
 u_GoneMaker:Ke
 u_Held:Ke
 u_MustStay:Ke
 u_NoCall:Ke
 u_NoDay:Ke
 u_NoDeed:Ke
 u_NoLeave:Ke
 u_NoNumber:Ke
 u_NoText:Ke
 u_Twice:Ke
structure Txt (K:DL) (mg:Str->Option Kc) (t:lE):Prop where
 F_A:Fn K mg "place_of" rQ t.a_A t.d_A ["deed"]
 F_B:Fn K mg "comings" pw t.a_B t.d_B ["deeds"]
 F_C:Fn K mg "coming_of" rR t.a_C t.d_C ["deeds","paper"]
 F_D:Fn K mg "papers" px t.a_D t.d_D ["deeds"]
 F_E:Fn K mg "kind_of" rS t.a_E t.d_E ["deeds","paper"]
 F_F:Fn K mg "maker_comings" oj t.a_F t.d_F ["deeds","coming"]
 F_G:Fn K mg "makers" pz t.a_G t.d_G ["deeds","paper"]
 F_H:Fn K mg "made_of" rT t.a_H t.d_H ["deeds","paper"]
 F_I:Fn K mg "_law_cell" rV t.a_I t.d_I ["_law_script","_law_k"]
 F_J:Fn K mg "_law_numbers" rW t.a_J t.d_J ["_law_cell_here","_law_many"]
 F_K:Fn K mg "_law_names" pA t.a_K t.d_K ["_law_xs","_law_many"]
 F_L:Fn K mg "_law_day" rX t.a_L t.d_L ["_law_x","_law_far"]
 F_M:Fn K mg "_law_papers" pB t.a_M t.d_M ["_law_script","_law_names_here","_law_kinds","_law_many","_law_far"]
 F_N:Fn K mg "_law_others" rY t.a_N t.d_N ["_law_script","_law_names_here","_law_kinds","_law_far"]
 F_O:Fn K mg "_law_drawn" rZ t.a_O t.d_O ["_law_script"]
 F_P:Fn K mg "_law_row" pC t.a_P t.d_P ["_law_deeds","_law_name"]
 F_Q:Fn K mg "_law_order" om t.a_Q t.d_Q ["_law_deeds"]
 F_R:Fn K mg "_law_makers" pE t.a_R t.d_R ["_law_deeds","_law_name"]
 F_S:Fn K mg "_law_is" pF t.a_S t.d_S ["_law_told","_law_due"]
 F_T:Fn K mg "_law_refused" sa t.a_T t.d_T ["_law_deed"]
 F_U:Fn K mg "_law_right" sd t.a_U t.d_U ["_law_deeds"]
 F_V:Fn K mg "law" mC t.a_V t.d_V ["_law_script"]
 bt_V:∀(s:Kf)(u:Kc),BindsTo s t.d_V ⟨[u],[]⟩ [("_law_script",u)]
 c_NoPaper:mg "NoPaper"=some (.ref t.u_NoPaper)
 c_ArchiveError:mg "ArchiveError"=some (.ref t.u_ArchiveError)
 c_GoneMaker:mg "GoneMaker"=some (.ref t.u_GoneMaker)
 c_Held:mg "Held"=some (.ref t.u_Held)
 c_MustStay:mg "MustStay"=some (.ref t.u_MustStay)
 c_NoCall:mg "NoCall"=some (.ref t.u_NoCall)
 c_NoDay:mg "NoDay"=some (.ref t.u_NoDay)
 c_NoDeed:mg "NoDeed"=some (.ref t.u_NoDeed)
 c_NoLeave:mg "NoLeave"=some (.ref t.u_NoLeave)
 c_NoNumber:mg "NoNumber"=some (.ref t.u_NoNumber)
 c_NoText:mg "NoText"=some (.ref t.u_NoText)
 c_Twice:mg "Twice"=some (.ref t.u_Twice)
 q_NoPaper:F0 K t.u_NoPaper [.type "ValueError",.type "Exception",.type "BaseException",.type "object"] "ValueError.__new__"=true
 q_ArchiveError:F0 K t.u_ArchiveError [.type "ValueError",.type "Exception",.type "BaseException",.type "object"] "ValueError.__new__"=true
 z1:GZ K (.ref t.u_NoPaper) "__getattribute__"=some (some (.builtin "BaseException.__getattribute__"))
 z2:GZ K (.ref t.u_NoPaper) "__getattr__"=some none
 z3:GZ K (.ref t.u_NoPaper) "__class__"=some (some (.builtin "object.__class__"))
 z4:Jh K (.builtin "object.__class__") "__get__"=some (some (.builtin "getset_descriptor.__get__"))
 z5:Jw K (.builtin "object.__class__")=some true
 z6:Gy K t.u_NoPaper (.type "object")=some true
 z7:Gy K t.u_NoPaper (.type "BaseException")=some true
 z8:Jx K t.u_NoPaper=true
 i_NoPaper_ArchiveError:Gy K t.u_NoPaper (.ref t.u_ArchiveError)=some true
 ka:HG K (.ref t.u_NoPaper) [.ref t.u_GoneMaker,.ref t.u_Held,.ref t.u_MustStay,.ref t.u_NoCall,.ref t.u_NoDay,.ref t.u_NoDeed,.ref t.u_NoLeave,.ref t.u_NoNumber,.ref t.u_NoText,.ref t.u_Twice]=some false
 kv:Hl K (.ref t.u_NoPaper) (.type "ValueError")=some true
 n_ValueError:mg "ValueError"=none
 n_abs:mg "abs"=none
 n_all:mg "all"=none
 n_any:mg "any"=none
 n_bool:mg "bool"=none
 n_enumerate:mg "enumerate"=none
 n_int:mg "int"=none
 n_isinstance:mg "isinstance"=none
 n_len:mg "len"=none
 n_max:mg "max"=none
 n_range:mg "range"=none
 n_set:mg "set"=none
 n_sorted:mg "sorted"=none
 n_str:mg "str"=none
 n_tuple:mg "tuple"=none
theorem Cq:bb ["deed"] ["deed"] (av rQ):= .of
theorem Cr:bb ["deeds"] ["deeds"] (av pw):= .of
theorem pG:bb ["deeds","paper","deed"] ["deeds","paper"] (av rR):= .of
theorem Cs:bb ["deeds"] ["deeds"] (av px):= .of
theorem vy:bb ["deeds","paper"] ["deeds","paper"] (av rS):= .of
theorem vz:bb ["deeds","coming","named"] ["deeds","coming"] (av oj):= .of
theorem vA:bb ["deeds","paper"] ["deeds","paper"] (av pz):= .of
theorem Ct:bb ["deeds","paper","reached","made","name"] ["deeds","paper"] (av rT):= .of
theorem pH:bb ["_law_script","_law_k","_law_state","_law_cell_here"] ["_law_script","_law_k"] (av rV):= .of
theorem lV:bb ["_law_cell_here","_law_many","_law_some","_law_state","_law_digits","_law_k"] ["_law_cell_here","_law_many"] (av rW):= .of
theorem lW:bb ["_law_xs","_law_many","_law_letters","_law_stem","_law_size","_law_at","_law_some","_law_k","_law_two"] ["_law_xs","_law_many"] (av pA):= .of
theorem Cu:bb ["_law_x","_law_far"] ["_law_x","_law_far"] (av rX):= .of
theorem nk:bb ["_law_script","_law_names_here","_law_kinds","_law_many","_law_far","_law_some","_law_k","_law_xs","_law_told"] ["_law_script","_law_names_here","_law_kinds","_law_many","_law_far"] (av pB):= .of
theorem lX:bb ["_law_script","_law_names_here","_law_kinds","_law_far","_law_some","_law_k","_law_name","_law_xs","_law_day_here","_law_deeds"] ["_law_script","_law_names_here","_law_kinds","_law_far"] (av rY):= .of
theorem lY:bb ["_law_script","_law_xs","_law_many","_law_names_here","_law_kinds","_law_some","_law_turn"] ["_law_script"] (av rZ):= .of
theorem Cv:bb ["_law_deeds","_law_name"] ["_law_deeds","_law_name"] (av pC):= .of
theorem Cw:bb ["_law_deeds"] ["_law_deeds"] (av om):= .of
theorem se:bb ["_law_deeds","_law_name","_law_row_here","_law_order_here"] ["_law_deeds","_law_name"] (av pE):= .of
theorem Cy:bb ["_law_told","_law_due"] ["_law_told","_law_due"] (av pF):= .of
theorem vB:bb ["_law_deed","e"] ["_law_deed"] (av sa):= .of
theorem sh:bb ["_law_deeds","_law_order_here","_law_name"] ["_law_deeds"] (av sd):= .of
theorem mD:bb ["_law_script","_law_names_here","_law_deeds","_law_known","_law_odd","_law_thing"] ["_law_script"] (av mC):= .of
theorem vC{α:Type}{us:List α}(h:us.length=1):∃a,us=[a]:=List.length_eq_one_iff.mp h
theorem vD{α:Type}{us:List α}(h0:us.length=2):∃a b,us=[a,b]:=by
 cases us with
 | nil=>cases h0
 | cons a us=>
  obtain⟨b,z0⟩:=vC (us:=us) (Ih h0);exact⟨a,b,by rw [z0]⟩
theorem vE{α:Type}{us:List α}(h0:us.length=3):∃a b c,us=[a,b,c]:=by
 cases us with
 | nil=>cases h0
 | cons a us=>
  obtain⟨b,c,z0⟩:=vD (us:=us) (Ih h0);exact⟨a,b,c,by rw [z0]⟩
theorem vF{α:Type}{us:List α}(h0:us.length=4):∃a b c d,us=[a,b,c,d]:=by
 cases us with
 | nil=>cases h0
 | cons a us=>
  obtain⟨b,c,d,z0⟩:=vE (us:=us) (Ih h0);exact⟨a,b,c,d,by rw [z0]⟩
theorem Cz{α:Type}{us:List α}(h0:us.length=5):∃a b c d p,us=[a,b,c,d,p]:=by
 cases us with
 | nil=>cases h0
 | cons a us=>
  obtain⟨b,c,d,p,z0⟩:=vF (us:=us) (Ih h0);exact⟨a,b,c,d,p,by rw [z0]⟩
local macro_rules | `(tactic| walk_at "b")=>`(tactic| (intro _ _ _ _ _ _ us hl;first | (cases ls0 (us:=us) hl;rfl) | (obtain⟨a,e⟩:=vC (us:=us) hl;subst e;rfl) | (obtain⟨a,b,e⟩:=vD (us:=us) hl;subst e;rfl) | (obtain⟨a,b,c,e⟩:=vE (us:=us) hl;subst e;rfl) | (obtain⟨a,b,c,d,e⟩:=vF (us:=us) hl;subst e;rfl) | (obtain⟨a,b,c,d,p,e⟩:=Cz (us:=us) hl;subst e;rfl)))
theorem txt_mk{K:DL}{h:Km}{mg:Str->Option Kc}(X:K.In h)(G:h.Ns Kn mg)
 {f0 f1 f2 f3 f4 f5 f6 f7 f8 f9 f10 f11 f12 f13 f14 f15 f16 f17 f18 f19 f20 f21:Ke}{e0 e1 e2 e3 e4 e5 e6 e7 e8 e9 e10 e11 e12 e13 e14 e15 e16 e17 e18 e19 e20 e21:Ko}
 {u_NoPaper u_ArchiveError u_GoneMaker u_Held u_MustStay u_NoCall u_NoDay u_NoDeed u_NoLeave u_NoNumber u_NoText u_Twice:Ke}
 (a0:DfT K "place_of" rQ f0 e0)
 (a1:DfT K "comings" pw f1 e1)
 (a2:DfT K "coming_of" rR f2 e2)
 (a3:DfT K "papers" px f3 e3)
 (a4:DfT K "kind_of" rS f4 e4)
 (a5:DfT K "maker_comings" oj f5 e5)
 (a6:DfT K "makers" pz f6 e6)
 (a7:DfT K "made_of" rT f7 e7)
 (a8:DfT K "_law_cell" rV f8 e8)
 (a9:DfT K "_law_numbers" rW f9 e9)
 (a10:DfT K "_law_names" pA f10 e10)
 (a11:DfT K "_law_day" rX f11 e11)
 (a12:DfT K "_law_papers" pB f12 e12)
 (a13:DfT K "_law_others" rY f13 e13)
 (a14:DfT K "_law_drawn" rZ f14 e14)
 (a15:DfT K "_law_row" pC f15 e15)
 (a16:DfT K "_law_order" om f16 e16)
 (a17:DfT K "_law_makers" pE f17 e17)
 (a18:DfT K "_law_is" pF f18 e18)
 (a19:DfT K "_law_refused" sa f19 e19)
 (a20:DfT K "_law_right" sd f20 e20)
 (a21:DfT K "law" mC f21 e21)
 (x_NoPaper:Ej K Kn "NoPaper"=some (some (.ref u_NoPaper)))
 (x_ArchiveError:Ej K Kn "ArchiveError"=some (some (.ref u_ArchiveError)))
 (x_GoneMaker:Ej K Kn "GoneMaker"=some (some (.ref u_GoneMaker)))
 (x_Held:Ej K Kn "Held"=some (some (.ref u_Held)))
 (x_MustStay:Ej K Kn "MustStay"=some (some (.ref u_MustStay)))
 (x_NoCall:Ej K Kn "NoCall"=some (some (.ref u_NoCall)))
 (x_NoDay:Ej K Kn "NoDay"=some (some (.ref u_NoDay)))
 (x_NoDeed:Ej K Kn "NoDeed"=some (some (.ref u_NoDeed)))
 (x_NoLeave:Ej K Kn "NoLeave"=some (some (.ref u_NoLeave)))
 (x_NoNumber:Ej K Kn "NoNumber"=some (some (.ref u_NoNumber)))
 (x_NoText:Ej K Kn "NoText"=some (some (.ref u_NoText)))
 (x_Twice:Ej K Kn "Twice"=some (some (.ref u_Twice)))
 (f_q_NoPaper:F0 K u_NoPaper [.type "ValueError",.type "Exception",.type "BaseException",.type "object"] "ValueError.__new__"=true)
 (f_q_ArchiveError:F0 K u_ArchiveError [.type "ValueError",.type "Exception",.type "BaseException",.type "object"] "ValueError.__new__"=true)
 (f_z1:GZ K (.ref u_NoPaper) "__getattribute__"=some (some (.builtin "BaseException.__getattribute__")))
 (f_z2:GZ K (.ref u_NoPaper) "__getattr__"=some none)
 (f_z3:GZ K (.ref u_NoPaper) "__class__"=some (some (.builtin "object.__class__")))
 (f_z4:Jh K (.builtin "object.__class__") "__get__"=some (some (.builtin "getset_descriptor.__get__")))
 (f_z5:Jw K (.builtin "object.__class__")=some true)
 (f_z6:Gy K u_NoPaper (.type "object")=some true)
 (f_z7:Gy K u_NoPaper (.type "BaseException")=some true)
 (f_z8:Jx K u_NoPaper=true)
 (f_i_NoPaper_ArchiveError:Gy K u_NoPaper (.ref u_ArchiveError)=some true)
 (f_ka:HG K (.ref u_NoPaper) [.ref u_GoneMaker,.ref u_Held,.ref u_MustStay,.ref u_NoCall,.ref u_NoDay,.ref u_NoDeed,.ref u_NoLeave,.ref u_NoNumber,.ref u_NoText,.ref u_Twice]=some false)
 (f_kv:Hl K (.ref u_NoPaper) (.type "ValueError")=some true)
 (n_ValueError:Ej K Kn "ValueError"=some none)
 (n_abs:Ej K Kn "abs"=some none)
 (n_all:Ej K Kn "all"=some none)
 (n_any:Ej K Kn "any"=some none)
 (n_bool:Ej K Kn "bool"=some none)
 (n_enumerate:Ej K Kn "enumerate"=some none)
 (n_int:Ej K Kn "int"=some none)
 (n_isinstance:Ej K Kn "isinstance"=some none)
 (n_len:Ej K Kn "len"=some none)
 (n_max:Ej K Kn "max"=some none)
 (n_range:Ej K Kn "range"=some none)
 (n_set:Ej K Kn "set"=some none)
 (n_sorted:Ej K Kn "sorted"=some none)
 (n_str:Ej K Kn "str"=some none)
 (n_tuple:Ej K Kn "tuple"=some none):∃t:lE,Txt K mg t:=by
 refine⟨⟨f0,e0,f1,e1,f2,e2,f3,e3,f4,e4,f5,e5,f6,e6,f7,e7,f8,e8,f9,e9,f10,e10,f11,e11,f12,e12,f13,e13,f14,e14,f15,e15,f16,e16,f17,e17,f18,e18,f19,e19,f20,e20,f21,e21,u_NoPaper,u_ArchiveError,u_GoneMaker,u_Held,u_MustStay,u_NoCall,u_NoDay,u_NoDeed,u_NoLeave,u_NoNumber,u_NoText,u_Twice⟩,?_⟩;have bl:∀(s:Kf)(u:Kc),BindsTo s e21 ⟨[u],[]⟩ [("_law_script",u)]:=λs v=>by
  obtain⟨oc,od,kV,doc,pm,an,cdv,ct,osl,rfl,_⟩:=a21.F.ex;exact .of_eq rfl
 exact⟨a0.fn X G,a1.fn X G,a2.fn X G,a3.fn X G,a4.fn X G,a5.fn X G,a6.fn X G,a7.fn X G,a8.fn X G,a9.fn X G,a10.fn X G,a11.fn X G,a12.fn X G,a13.fn X G,a14.fn X G,a15.fn X G,a16.fn X G,a17.fn X G,a18.fn X G,a19.fn X G,a20.fn X G,a21.fn X G,bl,Fo X G x_NoPaper,Fo X G x_ArchiveError,Fo X G x_GoneMaker,Fo X G x_Held,Fo X G x_MustStay,Fo X G x_NoCall,Fo X G x_NoDay,Fo X G x_NoDeed,Fo X G x_NoLeave,Fo X G x_NoNumber,Fo X G x_NoText,Fo X G x_Twice,f_q_NoPaper,f_q_ArchiveError,f_z1,f_z2,f_z3,f_z4,f_z5,f_z6,f_z7,f_z8,f_i_NoPaper_ArchiveError,f_ka,f_kv,Ez X G n_ValueError,Ez X G n_abs,Ez X G n_all,Ez X G n_any,Ez X G n_bool,Ez X G n_enumerate,Ez X G n_int,Ez X G n_isinstance,Ez X G n_len,Ez X G n_max,Ez X G n_range,Ez X G n_set,Ez X G n_sorted,Ez X G n_str,Ez X G n_tuple⟩
local macro_rules | `(tactic| walk_at "o")=>`(tactic| first | exact Ic rfl | exact HB rfl)
theorem J7{p:Prop}(h:p:=by walk_at "o"):p:=h
structure Pp where
 d:Int
 nm:Str
 kd:Str
 ms:List Str
def Pp.enc(p:Pp):Kb:= .tuple [.str (DM "paper"),.int p.d,.str p.nm,.str p.kd,.tuple (p.ms.map .str)]
def Pp.key(p:Pp):Int×Str:=(p.d,p.nm)
def lZ:Kb->Int×Str
 | .tuple (_:: .int d:: .str n::_)=>(d,n)
 | _=>(0,DM "")
def Pp.lt(a b:Pp):Prop:=aw a.key b.key=true
instance (a b:Pp):Decidable (a.lt b):=by unfold Pp.lt;infer_instance
theorem vG(p:Int×Str):aw p p=false:=by unfold aw;simp [List.lt_irrefl]
theorem vH{a b c:Int×Str}(h1:aw a b=true)(h2:aw b c=true):aw a c=true:=by
 unfold aw at h1 h2⊢;simp only [Jv,F5,decide_eq_true_eq] at h1 h2⊢;rcases h1 with h1 | ⟨h1,h1'⟩ <;> rcases h2 with h2 | ⟨h2,h2'⟩
 ·left;omega
 ·left;omega
 ·left;omega
 ·right;exact⟨h1.trans h2,JG h1' h2'⟩
theorem si{a b:Int×Str}(h:aw a b=true):¬aw b a=true:=λz=>by
 have:=vH h z;rw [vG] at this;cases this
theorem CA{a b:Int×Str}(h:a≠b):aw a b=true\/aw b a=true:=by
 have T:=vc (n:=2) (kp:=λi=>if i=0 then a else b) (λi j hi hj e=>by
  have:i=0\/i=1:=J4
  have:j=0\/j=1:=J4
  rcases ‹i=0\/i=1› with rfl | rfl <;> rcases ‹j=0\/j=1› with rfl | rfl
  ·rfl
  ·exact absurd e h
  ·exact absurd e.symm h
  ·rfl)
 have:=T.tot 0 1 J4 J4 J4;simp at this;cases hb:aw b a with
 | true=>exact .inr rfl
 | false=>rw [hb] at this;exact .inl (by simpa using this)
theorem Pp.lt_irr(a:Pp):¬a.lt a:=by unfold Pp.lt;rw [vG];simp
theorem Pp.lt_tr{a b c:Pp}(h1:a.lt b)(h2:b.lt c):a.lt c:=vH h1 h2
theorem pI{α:Type}{r:α->α->Prop}(as:∀a b,r a b->¬r b a):∀{l1 l2:List α},l1.Perm l2->l1.Pairwise r->l2.Pairwise r->l1=l2
 | [],l2,p,_,_=>by rw [p.nil_eq]
 | a::l1,[],p,_,_=>by have:=p.length_eq;simp at this
 | a::l1,b::l2,p,h1,h2=>by
  have e:a=b:=by
   have m1:a∈b::l2:=p.mem_iff.mp Ka;have m2:b∈a::l1:=p.mem_iff.mpr Ka;rcases D3.mp m1 with e | m1
   ·exact e
   ·rcases D3.mp m2 with e | m2
    ·exact e.symm
    ·exact absurd ((Fd.mp h1).1 b m2) (as _ _ ((Fd.mp h2).1 a m1))
  subst e;rw [pI as ((List.perm_cons a).mp p) (Fd.mp h1).2 (Fd.mp h2).2]
def nq(x:Pp):List Pp->List Pp
 | []=>[x]
 | y::l=>if x.lt y then x::y::l else y::nq x l
def aW(ps:List Pp):List Pp:=ps.foldr nq []
theorem sj(x:Pp):∀l,(nq x l).Perm (x::l)
 | []=>.refl _
 | y::l=>by
  unfold nq;split
  ·exact .refl _
  ·exact((sj x l).cons y).trans (.swap x y l)
theorem l3:∀ps:List Pp,(aW ps).Perm ps
 | []=>.refl _
 | x::ps=>(sj x (aW ps)).trans ((l3 ps).cons x)
theorem vI{x:Pp}:∀{l:List Pp},(∀y∈l,y.nm≠x.nm)->l.Pairwise Pp.lt->(nq x l).Pairwise Pp.lt
 | [],_,_=>List.pairwise_singleton _ _
 | y::l,hn,h=>by
  have hp:=Fd.mp h;unfold nq;split
  ·rename_i hl;refine Fd.mpr ⟨λz hz=>?_,h⟩;rcases D3.mp hz with e | e
   ·subst e;exact hl
   ·exact Pp.lt_tr hl (hp.1 z e)
  ·rename_i hl;refine Fd.mpr ⟨λz hz=>?_,vI (λz hz=>hn z (by simp [hz])) hp.2⟩;rcases D3.mp ((sj x l).mem_iff.mp hz) with e | e
   ·subst e;rcases CA (a:=y.key) (b:=z.key) (λz=>hn y Ka (congrArg Prod.snd z)) with w | w
    ·exact w
    ·exact absurd w hl
   ·exact hp.1 z e
theorem nr:∀{ps:List Pp},(ps.map (·.nm)).Nodup->(aW ps).Pairwise Pp.lt
 | [],_=>.nil
 | x::ps,h=>by
  rw [D9,Gu] at h;exact vI (λy hy e=>h.1 (by rw [<-e];exact Es.mpr ⟨y,(l3 ps).mem_iff.mp hy,rfl⟩)) (nr h.2)
theorem l4{ps:List Pp}{x:Pp}:x∈aW ps↔x∈ps:=(l3 ps).mem_iff
theorem oo{ps:List Pp}:(aW ps).length=ps.length:=(l3 ps).length_eq
theorem Pp.asym(a b:Pp)(h:a.lt b):¬b.lt a:=si h
theorem CB{ps os:List Pp}(nd:(ps.map (·.nm)).Nodup)(hp:os.Perm ps)(hs:os.Pairwise Pp.lt):os=aW ps:=
 pI Pp.asym (hp.trans (l3 ps).symm) hs (nr nd)
theorem sk{ps:List Pp}{f:Pp->Bool}(nd:(ps.map (·.nm)).Nodup):((ps.filter f).map (·.nm)).Nodup:=nd.sublist (List.filter_sublist.map _)
theorem vJ{ps:List Pp}{f:Pp->Bool}(nd:(ps.map (·.nm)).Nodup):aW (ps.filter f)=(aW ps).filter f:=
 (CB (sk nd) ((l3 ps).filter f) ((nr nd).sublist List.filter_sublist)).symm
theorem CC{ps:List Pp}{ds:List Kb}(nd:(ps.map (·.nm)).Nodup)(hp:ds.Perm (ps.map Pp.enc))(hs:ds.Pairwise λa b=>aw (lZ a) (lZ b)=true):ds=(aW ps).map Pp.enc:=by
 refine pI (λa b h=>si h) (hp.trans ((l3 ps).symm.map _)) hs ?_;rw [GA];exact nr nd
theorem CD{ps:List Pp}{ds:List (Int×Str)}(nd:(ps.map (·.nm)).Nodup)(hp:ds.Perm (ps.map Pp.key))(hs:ds.Pairwise λa b=>aw a b=true):ds=(aW ps).map Pp.key:=by
 refine pI (λa b h=>si h) (hp.trans ((l3 ps).symm.map _)) hs ?_;rw [GA];exact nr nd
theorem vK{ps:List Pp}(nd:(ps.map (·.nm)).Nodup){a b:Pp}(ha:a∈ps)(hb:b∈ps)(e:a.nm=b.nm):a=b:=by
 induction ps with
 | nil=>cases ha
 | cons x ps ih=>
  rw [D9,Gu] at nd;rcases D3.mp ha with ea | ha1 <;> rcases D3.mp hb with eb | hb1
  ·rw [ea,eb]
  ·subst ea;exact absurd (Es.mpr ⟨b,hb1,e.symm⟩) nd.1
  ·subst eb;exact absurd (Es.mpr ⟨a,ha1,e⟩) nd.1
  ·exact ih nd.2 ha1 hb1
theorem CF{os:List Pp}(h:os.Pairwise Pp.lt){i:Nat}{o m:Pp}(ho:os[i]?=some o)(hm:m∈os)(hl:m.lt o):m∈os.take i:=by
 rw [<-Gw i os] at hm h;rcases Ei.mp hm with z | z
 ·exact z
 ·have hd:os.drop i=o::os.drop (i+1):=by
   obtain⟨h1,h2⟩:=DZ.mp ho;rw [GB h1,h2]
  rw [hd] at z h;rcases D3.mp z with e | z
  ·rw [e] at hl;exact absurd hl (Pp.lt_irr o)
  ·have:=(Fd.mp (IE.mp h).2.1).1 m z;exact absurd hl (Pp.asym _ _ this)
theorem CG{os:List Pp}(h:os.Pairwise Pp.lt){i:Nat}{o m:Pp}(ho:os[i]?=some o)(hm:m∈os.take i):m.lt o:=by
 rw [<-Gw i os] at h;have hd:o∈os.drop i:=by
  obtain⟨h1,h2⟩:=DZ.mp ho;rw [GB h1,h2];simp
 exact(IE.mp h).2.2 m hm o hd
theorem CH{os:List Pp}(h:os.Pairwise Pp.lt){i:Nat}{o:Pp}(ho:os[i]?=some o):os.take i=os.filter λp=>aw p.key o.key:=by
 have e:os.filter (λp=>aw p.key o.key)=(os.take i).filter (λp=>aw p.key o.key)++(os.drop i).filter (λp=>aw p.key o.key):=by
  rw [<-List.filter_append,Gw]
 rw [e,IK.mpr λm hm=>CG h ho hm,Ir.mpr,Er];intro m hm hl;have hmo:m∈os:=HC hm;have:=CF h ho hmo hl;have nd:os.Nodup:=List.Pairwise.imp (R:=Pp.lt) (λ{a b} (z:a.lt b) (e:a=b)=>Pp.lt_irr a (by rw [<-e] at z;exact z)) h;rw [<-Gw i os] at nd;exact(Ji.mp nd).2.2 m this m hm rfl
structure kY (ps:List Pp):Prop where
 ln:ps.length<=41
 nd:(ps.map (·.nm)).Nodup
 nm:∀p∈ps,Ed p.nm=true
 kd:∀p∈ps,Ed p.kd=true
 ms:∀p∈ps,(∀m∈p.ms,Ed m=true)/\p.ms.length<=50
theorem kY.perm{ps qs:List Pp}(g:kY ps)(h:qs.Perm ps):kY qs:=
 ⟨by rw [h.length_eq];exact g.ln,(h.map _).nodup_iff.mpr g.nd,λp hp=>g.nm p (h.mem_iff.mp hp),λp hp=>g.kd p (h.mem_iff.mp hp),λp hp=>g.ms p (h.mem_iff.mp hp)⟩
theorem kY.filter{ps:List Pp}(g:kY ps)(f:Pp->Bool):kY (ps.filter f):=
 ⟨EV (G0 _ _) g.ln,sk g.nd,λp hp=>g.nm p (FY.mp hp).1,λp hp=>g.kd p (FY.mp hp).1,λp hp=>g.ms p (FY.mp hp).1⟩
def so(c p:Pp):Bool:=c.ms.contains p.nm && aw p.key c.key
def lF(ps:List Pp)(c:Pp):List Pp:=(aW ps).filter (so c)
inductive De where
 | pap (p:Pp)
 | oth (w:Str) (d:Int) (nm:Str) (r:List Kb)
def De.enc:De->Kb
 | .pap p=>p.enc
 | .oth w d nm r=>.tuple (.str w:: .int d:: .str nm::r)
def De.w:De->Str
 | .pap _=>DM "paper"
 | .oth w _ _ _=>w
def De.d:De->Int
 | .pap p=>p.d
 | .oth _ d _ _=>d
def De.nm:De->Str
 | .pap p=>p.nm
 | .oth _ _ nm _=>nm
def De.pp:De->Option Pp
 | .pap p=>some p
 | _=>none
def aF(xs:List De):List Pp:=xs.filterMap De.pp
structure bU (xs:List De):Prop where
 gp:kY (aF xs)
 np:∀w d nm r,De.oth w d nm r∈xs->w≠DM "paper"
 ln:xs.length<=41
 w:∀x∈xs,Ed x.w=true
 nm:∀x∈xs,Ed x.nm=true
theorem sr{xs:List De}{p:Pp}:p∈aF xs↔De.pap p∈xs:=by
 unfold aF;rw [GR];constructor
 ·rintro⟨x,hx,e⟩;cases x with
  | pap q=>cases e;exact hx
  | oth w d nm r=>cases e
 ·intro h;exact⟨_,h,rfl⟩
theorem bU.perm{xs ys:List De}(g:bU xs)(h:ys.Perm xs):bU ys:=
 ⟨g.gp.perm (h.filterMap _),λw d nm r z=>g.np w d nm r (h.mem_iff.mp z),by rw [h.length_eq];exact g.ln,λx hx=>g.w x (h.mem_iff.mp hx),λx hx=>g.nm x (h.mem_iff.mp hx)⟩
theorem pJ(ps:List Pp):aF (ps.map De.pap)=ps:=by
 unfold aF;rw [IW];exact List.filterMap_some
theorem CI(ps:List Pp):ps.map Pp.enc=(ps.map De.pap).map De.enc:=by rw [Ga];rfl
theorem CJ:Ed (DM "paper")=true:=td
theorem bU.of{ps:List Pp}(g:kY ps):bU (ps.map De.pap):=by
 refine⟨by rw [pJ];exact g,λw d nm r h=>?_,by rw [DP];exact g.ln,λx hx=>?_,λx hx=>?_⟩
 ·obtain⟨p,_,e⟩:=Es.mp h;cases e
 ·obtain⟨p,_,rfl⟩:=Es.mp hx;exact CJ
 ·obtain⟨p,hp,rfl⟩:=Es.mp hx;exact g.nm p hp
local macro_rules | `(tactic| walk_at "a") =>do let a <- rzT "bY D9 EW D4 EK Fp Fq D6 EM EJ"; let b <- rzT "↓jH ↓jQ ↓jR ↓jS ↓jT ↓jU ↓jV ↓jI ↓fw ↓jg ↓kN ↓kO ↓kP ↓kT ↓kU ↓kW ↓jh ↓ji ↓jj ↓jk ↓jl ↓jm ↓jn ↓jo ↓jq ↓jr ↓jt ↓ju ↓jv ↓jw ↓jx ↓jy ↓jz ↓jA ↓jB ↓jC ↓jD ↓jE ↓jF ↓jG dZ d4 d8 d5 d7 d9 cX cZ ec eu gh gs dP dC bw dI eH eL eM gC eO cy fh fc gA eQ dL cY dR fX cV cN bW dS dU dW dX fZ dY gb gc cP gf ip iu iv iw ix iy iz iA iB iC iD iE iF iG iH iI iJ iK iL iM iN iO iP iQ iR iS iT iU iV iW iX iY iZ i1 i2 i3 i4 i5 i6 i7 i8 i9 ja iq eU gB gE dn gL gH eR eT eV eX eY eZ fb di gF fi gG cH gu gy gz gi gj gm gn eD eF eG gr gS fm fq ik ft ij il fk gO gQ gR cB gU gT gM gN jb jc jd je fu fv jf jK jJ jL jM jN jO jP fx jW fB fz fA fy j2 jY jZ j0 j1 dB fC j4 j5 fE fF fG fH j6 fI j7 j8 j9 fJ kh ki kj km ko kc kq kr ku ky fN fK fL fM kz kC kD kA kG kH kI kJ kK kL kF kM gW hU hV hW hZ ia ib ic ie ig ne_eq g6 g8 g9 hG hJ gX gY gZ c8 cS dh eg er ek eh bT bY bj cC cM ck D9 EW D4 EK D6 EM EJ Er Fp Fq FJ FK FL Ew Eg EX ER ES EY exists_eq_left' exists_eq_left exists_and_left exists_and_right E5 E6 Sl.v.injEq Sl.o.injEq Sl.k.injEq EL Fj Fv Fe Fl EG and_true true_and FN Fw exists_const decide_eq_true_eq FO FP Fx Fy EH decide_eq_false_iff_not and_assoc or_true true_or ↓reduceIte if_true if_false Eu E2 not_true_eq_false not_false_eq_true FU Fz ite_true ite_false eq_self exists_eq reduceCtorEq false_and and_false or_false false_or exists_false FC FD cE F1 Gb FV Gd F2 Fm FT FQ bQ bZ cz cg cT cI dj fj beq_self_eq_true gI gJ gK bt sizeLine_eq"; `(tactic| ((try $a:tactic); $b:tactic))
theorem vL:aQ (av pw) ["deeds"] ["deed"] 1 [] ⟨Ee,[(DQ ".0",LK),(DQ "deed",LK)],false,false,[]⟩:= .of
theorem vM:aQ (av px) ["deeds"] ["deed"] 1 [] ⟨Ee,[(DQ ".0",LK),(DQ "deed",LK)],false,false,[]⟩:= .of
theorem vN:aQ (av oj) ["deeds","coming","named"] ["deed","coming"] 1 [1] ⟨Ee,[ (DQ ".0",LK),(DQ "deed",LK),(DQ "coming",Ek)],false,false,[]⟩:= .of
theorem vO:aQ (av oj) ["deeds","coming","named"] ["deed","coming"] 1 [1] ⟨Ee,[ (DQ ".0",LK),(DQ "deed",LK),(DQ "place_of",Fh),(DQ "coming",Ek)],false,false,[]⟩:= .of
theorem pK:aQ (av pz) ["deeds","paper"] ["deed"] 1 [] ⟨Ee,[(DQ ".0",LK),(DQ "deed",LK)],false,false,[]⟩:= .of
section
variable {P:Kp} {w:Kq} {K:DL} {mg:Str->Option Kc} {base:Km} {t:lE}
theorem l5{α:Type}{enc:α->Kb}{g:DG}{tc:DB}{te:DT}{δ0:Dl}{xs:List α}{Q:List Kb->Prop}(p:α->Bool)(f:α->Kb)
 (h:∀x∈xs,∀(R:Kb->Prop) (S:Prop),(if p x=true then R (f x) else S)->g (enc x) δ0 λδ2=>tc δ2 λok=>if ok=true then te δ2 R else S)(q:Q ((xs.filter p).map f)):c6 g tc te δ0 (xs.map enc) Q:=by
 refine⟨λi acc=>acc=((xs.take i).filter p).map f,rfl,?_,?_⟩
 ·rintro i z acc hz rfl;rw [D7] at hz;cases hz':xs[i]? with
  | none=>rw [hz'] at hz;cases hz
  | some x=>
   rw [hz'] at hz;cases hz;refine h x (Ef hz') (λy=>((xs.take i).filter p).map f++[y]=((xs.take (i+1)).filter p).map f) (((xs.take i).filter p).map f=((xs.take (i+1)).filter p).map f) ?_;rw [GH,hz'];by_cases e:p x=true
   ·rw [J6 e];simp [e]
   ·rw [J5 e];simp [e]
 ·rintro acc rfl;rw [DP,FZ (DU _)];exact q
theorem pL{α:Type}(l:List α):l.filter (λ_=>true)=l:=IK.mpr λ_ _=>rfl
theorem lG{a b:Str}(h:a≠b):(a==b)=false:=by simpa using h
theorem su{ws:List Str}{w:Str}:((ws.map DW).any λd=>Ea d (.str w))=ws.contains w:=by
 induction ws with
 | nil=>rfl
 | cons a ws ih=>
  rw [D9,FV,ih,cI,IT];congr 1;by_cases h:a=w
  ·simp [h]
  ·rw [lG h,lG (Ne.symm h)]
theorem sA{ms:List Str}(h:∀m∈ms,Ed m=true):FX (ms.map .str)=true:=(uy (n:=1) (AI h)).1
def b0(f:Pp->Bool):De->Bool
 | .pap p=>f p
 | _=>false
theorem nt{f:Pp->Bool}:∀xs:List De,(xs.filter (b0 f)).map De.enc=((aF xs).filter f).map Pp.enc
 | []=>rfl
 | .pap p::xs=>by
  have ih:=nt (f:=f) xs;show _=(JR f (p::aF xs)).map Pp.enc;rw [Gk,Gk];by_cases h:f p=true
  ·rw [J6 h,J6 (show b0 f (.pap p)=true from h),D9,D9,ih];rfl
  ·rw [J5 h,J5 (show ¬b0 f (.pap p)=true from h),ih]
 | .oth w d nm r::xs=>by
  have ih:=nt (f:=f) xs;show _=(JR f (aF xs)).map Pp.enc;rw [Gk,J5 (show ¬b0 f (.oth w d nm r)=true from EI),ih]
def sC:List Kb->(Kb->Prop)->Prop:=λds Q=>∃p:De,ds=[p.enc]/\Q (bx (p.d,p.nm))
theorem vP(T:Txt K mg t):ay P w K mg base aK 1 t.a_A t.d_A ["deed"] (aX K sC):=by
 refine T.F_A.F.okD Cq (λds Q h=>?_) (λ_ _ _ _ H O ds Q E hr h=>?_)
 ·obtain⟨p,rfl,_⟩:=h;rfl
 ·obtain⟨p,rfl,q⟩:=h;refine'⟨_,?A,?B⟩
  case A=>
   refine' aB ?C
   case' C=>refine' aR ?D
   case' D=>refine' cx ?E
   case' E=>refine' ae ?F ?G
   case F=>exact(ax bB bD (dv 0) af)
   case' G=>refine' ae ?H aj
   case H=>exact(ax bB bD (dv 0) af)
  case B=>
  clear hr T;cases p <;> simp only [De.enc,Pp.enc] <;> walk_at "a" <;> exact q
theorem CK{d:Kb}{ps:List Pp}(h:d∈ps.map Pp.enc)(R:Kb->Prop)(q:R (bx (lZ d))):sC [d] R:=by
 obtain⟨p,hp,rfl⟩:=Es.mp h;exact⟨.pap p,rfl,q⟩
theorem vQ{ps:List Pp}(nd:(ps.map (·.nm)).Nodup):(ps.map Pp.key).Nodup:=by
 rw [JW,GA] at nd⊢;exact nd.imp λh e=>h (congrArg Prod.snd e)
def F_B:List Kb->(Kb->Prop)->Prop:=λds Q=>∃xs:List De,(ds=[.list (xs.map De.enc)]\/ds=[.tuple (xs.map De.enc)])/\bU xs/\Q (.list ((aW (aF xs)).map Pp.enc))
theorem vR(T:Txt K mg t):ay P w K mg base aK 4 t.a_B t.d_B ["deeds"] (aX K F_B):=by
 have G_A:=@vP P w _ _ base _ T;refine T.F_B.F.okD Cr (λds Q h=>?_) (λ_ _ _ _ H O ds Q E hr h=>?_)
 ·obtain⟨ps,h | h,_⟩:=h <;> subst h <;> rfl
 ·obtain⟨xs,e,gd,q⟩:=h;refine'⟨_,?A,?B⟩
  case A=>
   refine' aB ?C
   case' C=>refine' aR ?D
   case D=>exact(fe (BC lZ rfl G_A (aH.in1 (aH.in1 (hr.mono J3))) T.F_A.b rfl T.F_A.m rfl T.n_sorted Hi (bF (fe (BI rfl vL (df (dv 0)) bq cR J3 (λ_ _ _ _=>(bp (i:=0) vL.nd rfl J7)) (λ_ _ _ _=>(mf (bE (m7 hr) m8 (ax bB bD (dv 0) af) bI (bo _)))) (λ_ _ _ _=>(dv 0)))) bA)))
  case B=>
  clear hr T G_A;have ln:=gd.ln;have pl:=gd.gp.ln;have step:∀x∈xs,∀(R:Kb->Prop)(S:Prop),(if b0 (λ_=>true) x=true then R x.enc else S)->(if (x.w==DM "paper")=true then R x.enc else S):=λx hx R S h=>by
   cases x with
   | pap p=>exact h
   | oth w d nm r=>
    rw [show((De.oth w d nm r).w==DM "paper")=false from lG (gd.np w d nm r hx),J5 EI];rw [J5 (show ¬b0 (λ_=>true) (.oth w d nm r)=true from EI)] at h;exact h
  have fin:∀ds':List Kb,ds'.Perm ((aF xs).map Pp.enc)->ds'.Pairwise (λa b=>aw (lZ a) (lZ b)=true)->Q (.list ds'):=λds' h1 h2=>by
   rw [CC gd.gp.nd h1 h2];exact q
  have tail:(∀d∈(aF xs).map Pp.enc,∀R:Kb->Prop,R (bx (lZ d))->sC [d] R)/\((aF xs).map Pp.enc).length < 64/\(((aF xs).map Pp.enc).map lZ).Nodup:=by
   refine⟨λd hd R z=>CK hd R z,by rw [DP];omega,?_⟩;rw [Ga];exact vQ gd.gp.nd
  rcases e with e | e <;> subst e <;> walk_at "a"
  ·refine⟨by rw [DP];omega,l5 (b0 λ_=>true) De.enc (λx hx R S h=>?_) ?_⟩
   ·have h:=step x hx R S h;cases x <;> simp only [De.enc,De.w,Pp.enc] at h⊢<;> walk_at "a" <;> exact h
   ·rw [nt,pL];exact⟨tail.1,tail.2.1,tail.2.2,fin⟩
  ·refine⟨by rw [DP];omega,l5 (b0 λ_=>true) De.enc (λx hx R S h=>?_) ?_⟩
   ·have h:=step x hx R S h;cases x <;> simp only [De.enc,De.w,Pp.enc] at h⊢<;> walk_at "a" <;> exact h
   ·rw [nt,pL];exact⟨tail.1,tail.2.1,tail.2.2,fin⟩
def vS:List Kb->(Kb->Prop)->Prop:=λds Q=>∃(xs:List De)(c:Pp),ds=[.tuple (xs.map De.enc),.str c.nm]/\bU xs/\c∈aF xs/\Q c.enc
theorem vT(T:Txt K mg t):ay P w K mg base aK 1 t.a_C t.d_C ["deeds","paper"] (aX K vS):=by
 refine T.F_C.F.okD pG (λds Q h=>?_) (λ_ _ _ _ H O ds Q E hr h=>?_)
 ·obtain⟨ps,c,rfl,_⟩:=h;rfl
 ·obtain⟨xs,c,rfl,gd,hc,q⟩:=h;refine'⟨_,?A,?B⟩
  case A=>
   refine' ar ?C ?D
   case C=>
    refine' um Ge rfl (dv 0) ?E bq ?F
    case E=>exact(bp (i:=2) pG.nd rfl J7)
    case' F=>refine' aB ?G
    case' G=>refine' bO ?H ?I bN
    case H=>exact(PW.pt (mU (bE (m7 hr) m8 (ax bB bD (dv 2) af) bI (bo _)) (mT (bE (eJ hr.units) eN (ax bB bD (dv 2) af) (dv 1) (bo _)))))
    case' I=>refine' aB ?J
    case J=>exact(aR (dv 2))
   case D=>refine' aB n5
  case B=>
  clear hr T;walk_at "a";refine⟨λi δ=>(∀x∈aF (xs.take i),x.nm≠c.nm)/\∃o2,δ=[some (Sl.v (.tuple (xs.map De.enc))),some (Sl.v (.str c.nm)),o2],⟨by simp [aF],_,rfl⟩,?_,?_⟩
  ·rintro i z δ hz ⟨hn,o2,rfl⟩;rw [D7] at hz;cases hz':xs[i]? with
   | none=>rw [hz'] at hz;cases hz
   | some x=>
    rw [hz'] at hz;cases hz;have hx:=Ef hz';cases x with
    | pap p=>
     simp only [De.enc,Pp.enc];walk_at "a";refine⟨mw.mpr (gd.nm _ hx),mw.mpr (gd.gp.nm c hc),?_⟩;split
     ·rename_i h;have e:=vK gd.gp.nd (sr.mpr hx) hc (eq_of_beq h);subst e;exact q
     ·rename_i h;refine⟨λy hy=>?_,_,rfl⟩;rw [GH,hz'] at hy;unfold aF at hy;rw [Hy] at hy;rcases Ei.mp hy with z | z
      ·exact hn y z
      ·have:y=p:=by simpa [De.pp] using z
       rw [this];exact λe=>h (by rw [e];exact beq_self_eq_true _)
    | oth w d nm r=>
     simp only [De.enc];walk_at "a";rw [lG (gd.np w d nm r hx),J5 EI];refine⟨λy hy=>?_,_,rfl⟩;rw [GH,hz'] at hy;unfold aF at hy;rw [Hy] at hy;rcases Ei.mp hy with z | z
     ·exact hn y z
     ·simp [De.pp] at z
  ·rintro δ ⟨hn,o2,rfl⟩;rw [DP,FZ (DU _)] at hn;exact absurd rfl (hn c hc)
def F_D:List Kb->(Kb->Prop)->Prop:=λds Q=>∃xs:List De,ds=[.tuple (xs.map De.enc)]/\bU xs/\Q (.tuple (((aW (aF xs)).map (·.nm)).map .str))
theorem CL(T:Txt K mg t):ay P w K mg base aK 5 t.a_D t.d_D ["deeds"] (aX K F_D):=by
 have G_B:=@vR P w _ _ base _ T;refine T.F_D.F.okD Cs (λds Q h=>?_) (λ_ _ _ _ H O ds Q E hr h=>?_)
 ·obtain⟨ps,rfl,_⟩:=h;rfl
 ·obtain⟨xs,rfl,gd,q⟩:=h;refine'⟨_,?A,?B⟩
  case A=>
   refine' aB ?C
   case' C=>refine' aR ?D
   case D=>exact(PE.imp (dJ ma rfl T.n_tuple lh (bF (fe (lO rfl vM (df (aT G_B hr T.F_B (ae (dv 0) aj))) bq cR J3 (λ_ _ _ _=>(bp (i:=0) vM.nd rfl J7)) (λ_ _ _ _=>mv) (λ_ _ _ _=>(ax bB bD (dv 0) af)))) bA)) (bS mr))
  case B=>
  clear hr T G_B;walk_at "a";refine⟨xs,.inr rfl,gd,_,rfl,by rw [DP,oo];have:=gd.gp.ln;omega,l5 (λ_=>true) (λp:Pp=>.str p.nm) (λx hx R S h=>?_) ?_⟩
  ·simp only [Pp.enc];walk_at "a";rw [J6 rfl] at h;exact h
  ·rw [pL];rw [Ga] at q;exact q
def CM:List Kb->(Kb->Prop)->Prop:=λds Q=>∃(xs:List De)(c:Pp),ds=[.tuple (xs.map De.enc),c.enc]/\bU xs/\c∈aF xs/\Q (.list ((lF (aF xs) c).map Pp.enc))
theorem vU(T:Txt K mg t):ay P w K mg base aK 5 t.a_F t.d_F ["deeds","coming"] (aX K CM):=by
 have G_B:=@vR P w _ _ base _ T;have G_A:=@vP P w _ _ base _ T;refine T.F_F.F.okD vz (λds Q h=>?_) (λ_ _ _ _ H O ds Q E hr h=>?_)
 ·obtain⟨ps,c,rfl,_⟩:=h;rfl
 ·obtain⟨xs,c,rfl,gd,hc,q⟩:=h;refine'⟨_,?A,?B⟩
  case A=>
   refine' ar ?C ?D
   case C=>exact(Aq (i:=2) vz.nd rfl J7 (Bq rfl vN (df (dv 0)) bq cR J3 (λ_ _ _ _=>(bp (i:=0) vN.nd rfl J7)) (λ_ _ _ _=>(mf (PW.pt (mU (bE (m7 hr) m8 (ax bB bD (dv 0) af) bI (bo _)) (mT (bE (uA hr) rh (ax bB bD (dv 0) af) (ax bB bD (dv 1) af) rfl)))))) (λ_ _ _ _=>(dv 0))))
   case' D=>refine' aB ?E
   case' E=>refine' aR ?F
   case F=>exact(aT G_B hr T.F_B (ae (fe (lO rfl vO (df (dv 2)) bq cR J3 (λ_ _ _ _=>(bp (i:=0) vO.nd rfl J7)) (λ_ _ _ _=>(mf (bE (BE hr.units0) BF (aT G_A hr T.F_A (ae (dv 0) aj)) (aT G_A hr T.F_A (ae (dv 1) aj)) (bo _)))) (λ_ _ _ _=>(dv 0)))) aj))
  case B=>
  clear hr T G_B G_A;have ln:=gd.ln;have pl:=gd.gp.ln;obtain⟨hm1,hm2⟩:=gd.gp.ms c hc;walk_at "a";refine⟨by rw [DP];omega,l5 (b0 λp=>c.ms.contains p.nm) De.enc (λx hx R S h=>?_) ?_⟩
  ·cases x with
   | pap p=>
    simp only [De.enc,Pp.enc];walk_at "a";refine⟨mw.mpr (gd.nm _ hx),sA hm1,?_⟩;rw [su];exact h
   | oth w d nm r=>
    simp only [De.enc];walk_at "a";rw [lG (gd.np w d nm r hx),J5 EI];rw [J5 (show ¬b0 _ (.oth w d nm r)=true from EI)] at h;exact h
  ·rw [nt];have fl:=G0 (λp:Pp=>c.ms.contains p.nm) (aF xs);refine⟨by rw [DP];omega,l5 (λp=>aw p.key c.key) Pp.enc (λx hx R S h=>?_) ?_⟩
   ·walk_at "a";exact⟨.pap x,rfl,.pap c,rfl,x.key,rfl,c.key,rfl,h⟩
   ·rw [CI];refine⟨_,.inl rfl,bU.of ((gd.gp.filter _).filter _),?_⟩;rw [pJ,vJ (sk gd.gp.nd),vJ gd.gp.nd,Ja];have e:(aW (aF xs)).filter (λa=>aw a.key c.key && c.ms.contains a.nm)=lF (aF xs) c:=by
     unfold lF so;congr 1;funext a;rw [Bool.and_comm]
    rw [e];exact q
theorem vV{ps:List Pp}{c:Pp}(g:kY ps):(lF ps c).length<=41:=by
 unfold lF;have h1:=G0 (so c) (aW ps);have h2:=oo (ps:=ps);have h3:=g.ln;omega
def F_G:List Kb->(Kb->Prop)->Prop:=λds Q=>∃(xs:List De)(c:Pp),ds=[.tuple (xs.map De.enc),.str c.nm]/\bU xs/\c∈aF xs/\Q (.tuple (((lF (aF xs) c).map (·.nm)).map .str))
theorem CN(T:Txt K mg t):ay P w K mg base aK 6 t.a_G t.d_G ["deeds","paper"] (aX K F_G):=by
 have G_F:=@vU P w _ _ base _ T;have G_C:=@vT P w _ _ base _ T;refine T.F_G.F.okD vA (λds Q h=>?_) (λ_ _ _ _ H O ds Q E hr h=>?_)
 ·obtain⟨ps,c,rfl,_⟩:=h;rfl
 ·obtain⟨xs,c,rfl,gd,hc,q⟩:=h;refine'⟨_,?A,?B⟩
  case A=>
   refine' aB ?C
   case' C=>refine' aR ?D
   case D=>exact(PE.imp (dJ ma rfl T.n_tuple lh (bF (fe (lO rfl pK (df (aT G_F hr T.F_F (ae (dv 0) (ae (aT G_C hr T.F_C (ae (dv 0) (ae (dv 1) aj))) aj)))) bq cR J3 (λ_ _ _ _=>(bp (i:=0) pK.nd rfl J7)) (λ_ _ _ _=>mv) (λ_ _ _ _=>(ax bB bD (dv 0) af)))) bA)) (bS mr))
  case B=>
  clear hr T G_F G_C;walk_at "a";refine⟨xs,c,rfl,gd,hc,xs,c,rfl,gd,hc,⟨_,rfl,by rw [DP];have:=vV (c:=c) gd.gp;omega,l5 (λ_=>true) (λp:Pp=>.str p.nm) (λx hx R S h=>?_) ?_⟩⟩
  ·simp only [Pp.enc];walk_at "a";rw [J6 rfl] at h;exact h
  ·rw [pL];rw [Ga] at q;exact q
def CO:List Kb->(Kb->Prop)->Prop:=λds Q=>∃(xs:List De)(c:Pp),ds=[.tuple (xs.map De.enc),.str c.nm]/\bU xs/\c∈aF xs/\Q (.str c.kd)
theorem CP(T:Txt K mg t):ay P w K mg base aK 2 t.a_E t.d_E ["deeds","paper"] (aX K CO):=by
 have G_C:=@vT P w _ _ base _ T;refine T.F_E.F.okD vy (λds Q h=>?_) (λ_ _ _ _ H O ds Q E hr h=>?_)
 ·obtain⟨ps,c,rfl,_⟩:=h;rfl
 ·obtain⟨xs,c,rfl,gd,hc,q⟩:=h;refine'⟨_,?A,?B⟩
  case A=>
   refine' aB ?C
   case C=>exact(aR (ax bB bD (aT G_C hr T.F_C (ae (dv 0) (ae (dv 1) aj))) af))
  case B=>
  clear hr T G_C;walk_at "a";exact⟨xs,c,rfl,gd,hc,_,rfl,_,cg,q⟩
end
theorem vW:aQ (av pC) ["_law_deeds","_law_name"] ["_law_deed","_law_name"] 1 [1] ⟨Ee,[ (DQ ".0",LK),(DQ "_law_deed",LK),(DQ "_law_name",Ek)],false,false,[]⟩:= .of
theorem vX:aQ (av om) ["_law_deeds"] ["_law_deed"] 1 [] ⟨Ee,[(DQ ".0",LK),(DQ "_law_deed",LK)],false,false,[]⟩:= .of
theorem sE:aQ (av om) ["_law_deeds"] ["_law_day_here","_law_name"] 2 [] ⟨Ee,[ (DQ ".0",LK),(DQ "_law_day_here",LK),(DQ "_law_name",LK)],false,false,[]⟩:= .of
theorem vY:aQ (av pE) ["_law_deeds","_law_name","_law_row_here","_law_order_here"] ["_law_one","_law_row_here"] 1 [2] ⟨Ee,[ (DQ ".0",LK),(DQ "_law_one",LK),(DQ "_law_row_here",Ek)],false,false,[]⟩:= .of
theorem vZ:aQ (av pF) ["_law_told","_law_due"] ["_law_k","_law_told","_law_due"] 1 [0,1] ⟨Ee,[ (DQ ".0",LK),(DQ "_law_k",LK),(DQ "_law_is",Fh),(DQ "_law_due",Ek),(DQ "_law_told",Ek)],false,false,[]⟩:= .of
section
variable {P:Kp} {w:Kq} {K:DL} {mg:Str->Option Kc} {base:Km} {t:lE}
theorem CQ{ps:List Pp}(nd:(ps.map (·.nm)).Nodup){c:Pp}(hc:c∈ps):ps.filter (λp=>p.nm==c.nm)=[c]:=by
 induction ps with
 | nil=>cases hc
 | cons x ps ih=>
  rw [D9,Gu] at nd;rcases D3.mp hc with e | h
  ·subst e;rw [Gk,J6 (beq_self_eq_true _),Ir.mpr];intro p hp e;exact nd.1 (by rw [<-eq_of_beq e];exact Es.mpr ⟨p,hp,rfl⟩)
  ·rw [Gk,J5,ih nd.2 h];intro e;exact nd.1 (by rw [eq_of_beq e];exact Es.mpr ⟨c,h,rfl⟩)
theorem v3(T:Txt K mg t):ay P w K mg base aK 1 t.a_P t.d_P ["_law_deeds","_law_name"] (aX K vS):=by
 refine T.F_P.F.okD Cv (λds Q h=>?_) (λ_ _ _ _ H O ds Q E hr h=>?_)
 ·obtain⟨xs,c,rfl,_⟩:=h;rfl
 ·obtain⟨xs,c,rfl,gd,hc,q⟩:=h;refine'⟨_,?A,?B⟩
  case A=>
   refine' aB ?C
   case' C=>refine' aR ?D
   case' D=>refine' lx aL aM (df ?E) (df af)
   case' E=>refine' fe ?F
   case F=>exact(qW rfl vW (df (dv 0)) bq cR J3 (λ_ _ _ _=>(bp (i:=0) vW.nd rfl J7)) (λ_ _ _ _=>(mf (PW.pt (mU (bE (m7 hr) m8 (ax bB bD (dv 0) af) bI (bo _)) (mT (bE (eJ hr.units) eN (ax bB bD (dv 0) af) (dv 1) (bo _))))))) (λ_ _ _ _=>(dv 0)))
  case B=>
  clear hr T;walk_at "a";refine⟨by rw [DP];have:=gd.ln;omega,l5 (b0 λp=>p.nm==c.nm) De.enc (λx hx R S h=>?_) ?_⟩
  ·cases x with
   | pap p=>
    simp only [De.enc,Pp.enc] at h⊢;walk_at "a";have hp:=sr.mpr hx;exact⟨mw.mpr (gd.gp.nm p hp),mw.mpr (gd.gp.nm c hc),h⟩
   | oth wo n nm l=>
    simp only [De.enc] at h⊢;walk_at "a";rw [lG (gd.np _ _ _ _ hx),J5 EI];rw [J5 (by simp [b0])] at h;exact h
  ·rw [nt,CQ gd.gp.nd hc];exact⟨_,bQ,q⟩
def CS:List Kb->(Kb->Prop)->Prop:=λds Q=>∃xs:List De,ds=[.tuple (xs.map De.enc)]/\bU xs/\Q (.list (((aW (aF xs)).map (·.nm)).map .str))
theorem CT{g:DG}{tc:DB}{te:DT}{δ0:Dl}{xs:List (Int×Str)}{Q:List Kb->Prop}(f:Int×Str->Kb)
 (h:∀x∈xs,∀(R:Kb->Prop) (S:Prop),R (f x)->g (bx x) δ0 λδ2=>tc δ2 λok=>if ok=true then te δ2 R else S)(q:Q (xs.map f)):c6 g tc te δ0 (xs.map bx) Q:=by
 refine⟨λi acc=>acc=(xs.take i).map f,rfl,?_,?_⟩
 ·rintro i z acc hz rfl;rw [D7] at hz;cases hz':xs[i]? with
  | none=>rw [hz'] at hz;cases hz
  | some x=>
   rw [hz'] at hz;cases hz;refine h x (Ef hz') (λy=>(xs.take i).map f++[y]=(xs.take (i+1)).map f) _ ?_;rw [GH,hz'];simp
 ·rintro acc rfl;rw [DP,FZ (DU _)];exact q
theorem sF(f:De->Kb):∀xs:List De,(xs.filter (b0 λ_=>true)).map f=(aF xs).map λp=>f (.pap p)
 | []=>rfl
 | .pap p::xs=>by
  rw [Gk,J6 (show b0 (λ_=>true) (De.pap p)=true from rfl),D9,sF f xs];rfl
 | .oth w d nm r::xs=>by
  rw [Gk,J5 (by simp [b0])];exact sF f xs
theorem sG(T:Txt K mg t):ay P w K mg base aK 1 t.a_Q t.d_Q ["_law_deeds"] (aX K CS):=by
 refine T.F_Q.F.okD Cw (λds Q h=>?_) (λ_ _ _ _ H O ds Q E hr h=>?_)
 ·obtain⟨xs,rfl,_⟩:=h;rfl
 ·obtain⟨xs,rfl,gd,q⟩:=h;refine'⟨_,?A,?B⟩
  case A=>
   refine' aB ?C
   case' C=>refine' aR ?D
   case' D=>refine' fe ?E
   case E=>exact(lO rfl sE (df (fe (BB rfl T.n_sorted Hi (bF (fe (qW rfl vX (df (dv 0)) bq cR J3 (λ_ _ _ _=>(bp (i:=0) vX.nd rfl J7)) (λ_ _ _ _=>(mf (bE (m7 hr) m8 (ax bB bD (dv 0) af) bI (bo _)))) (λ_ _ _ _=>(cx (ae (ax bB bD (dv 0) af) (ae (ax bB bD (dv 0) af) aj)))))) bA)))) (qT (mX bq (mX bq qS))) BK J3 (λ_ _ _ _=>(qa (n:=2) rfl (mK (bp (i:=0) sE.nd rfl J7) (mK (bp (i:=1) sE.nd rfl J7) p9)))) (λ_ _ _ _=>mv) (λ_ _ _ _=>(dv 1)))
  case B=>
  clear hr T;have ln:=gd.ln;have gp:=gd.gp;have pln:=gp.ln;walk_at "a";refine⟨by rw [DP];omega,l5 (b0 λ_=>true) (λx=>bx (x.d,x.nm)) (λx hx R S h=>?_) ?_⟩
  ·cases x with
   | pap p=>
    simp only [De.enc,Pp.enc] at h⊢;walk_at "a";rw [J6 (show b0 (λ_=>true) (De.pap p)=true from rfl)] at h;exact h
   | oth wo n nm l=>
    simp only [De.enc] at h⊢;walk_at "a";rw [lG (gd.np _ _ _ _ hx),J5 EI];rw [J5 (by simp [b0])] at h;exact h
  ·rw [sF];refine⟨(aF xs).map Pp.key,by rw [Ga];rfl,by rw [DP];omega,vQ gp.nd,λps' h1 h2=>?_⟩;rw [CD gp.nd h1 h2];refine⟨by rw [DP,DP,oo];omega,CT (λx=>.str x.2) (λx hx R S h=>?_) ?_⟩
   ·simp only [bx];walk_at "a";exact h
   ·rw [Ga];rw [Ga] at q;exact q
theorem CU{g:DG}{tc:DB}{te:DT}{δ0:Dl}{ss:List Str}{Q:List Kb->Prop}(p:Str->Bool)(f:Str->Kb)
 (h:∀x∈ss,∀(R:Kb->Prop) (S:Prop),(if p x=true then R (f x) else S)->g (.str x) δ0 λδ2=>tc δ2 λok=>if ok=true then te δ2 R else S)(q:Q ((ss.filter p).map f)):c6 g tc te δ0 (ss.map .str) Q:=by
 refine⟨λi acc=>acc=((ss.take i).filter p).map f,rfl,?_,?_⟩
 ·rintro i z acc hz rfl;rw [D7] at hz;cases hz':ss[i]? with
  | none=>rw [hz'] at hz;cases hz
  | some x=>
   rw [hz'] at hz;cases hz;refine h x (Ef hz') (λy=>((ss.take i).filter p).map f++[y]=((ss.take (i+1)).filter p).map f) (((ss.take i).filter p).map f=((ss.take (i+1)).filter p).map f) ?_;rw [GH,hz'];by_cases e:p x=true
   ·rw [J6 e];simp [e]
   ·rw [J5 e];simp [e]
 ·rintro acc rfl;rw [DP,FZ (DU _)];exact q
def CV:List Kb->(Kb->Prop)->Prop:=λds Q=>∃(xs:List De)(c:Pp),ds=[.tuple (xs.map De.enc),.str c.nm]/\bU xs/\c∈aF xs/\Q (.list (((lF (aF xs) c).map (·.nm)).map .str))
theorem CW(T:Txt K mg t):ay P w K mg base aK 2 t.a_R t.d_R ["_law_deeds","_law_name"] (aX K CV):=by
 have G_P:=@v3 P w _ _ base _ T;have G_Q:=@sG P w _ _ base _ T;refine T.F_R.F.okD se (λds Q h=>?_) (λ_ _ _ _ H O ds Q E hr h=>?_)
 ·obtain⟨xs,c,rfl,_⟩:=h;rfl
 ·obtain⟨xs,c,rfl,gx,hc,q⟩:=h;refine'⟨_,?A,?B⟩
  case A=>
   refine' ar ?C ?D
   case C=>exact(bh (i:=2) se.nd rfl J7 (aT G_P hr T.F_P (ae (dv 0) (ae (dv 1) aj))))
   case' D=>refine' ar ?E ?F
   case E=>exact(bh (i:=3) se.nd rfl J7 (aT G_Q hr T.F_Q (ae (dv 0) aj)))
   case' F=>refine' aB ?G
   case' G=>refine' aR ?H
   case' H=>refine' fe ?I
   case I=>exact(lO rfl vY (df (fe (lP (df (dv 3)) lr (lu (BH (dv 3) (dv 1)))))) bq cR J3 (λ_ _ _ _=>(bp (i:=0) vY.nd rfl J7)) (λ_ _ _ _=>(mf (bE (uA hr) rh (dv 0) (ax bB bD (dv 1) af) rfl))) (λ_ _ _ _=>(dv 0)))
  case B=>
  clear hr T G_P G_Q;walk_at "a";refine⟨xs,c,rfl,gx,hc,xs,rfl,gx,?_⟩;have gd:=gx.gp;have ln:=gd.ln;generalize aF xs=ps at*;walk_at "a";have hc':c.nm∈(aW ps).map (·.nm):=Es.mpr ⟨c,l4.mpr hc,rfl⟩;have hlt:((aW ps).map (·.nm)).idxOf c.nm < ((aW ps).map (·.nm)).length:=Ig.mpr hc';have hlt':((aW ps).map (·.nm)).idxOf c.nm < (aW ps).length:=by simpa using hlt
  have hat:(aW ps)[((aW ps).map (·.nm)).idxOf c.nm]?=some c:=by
   rw [D1 hlt'];have h1:=I0 hlt;rw [List.getElem_map] at h1;rw [vK gd.nd (l4.mp (FH hlt')) hc h1]
  have ecut:aS (E4 DW (E4 (λx=>x.nm) (aW ps))) none (some ((((aW ps).map (·.nm)).idxOf c.nm:Nat):Int))=(((aW ps).filter λp=>aw p.key c.key).map (·.nm)).map .str:=by
   rw [mx J4 (by rw [DP];omega),FW,<-CH (nr gd.nd) hat,<-Hw,<-Hw]
  refine⟨_,rfl,hc',?_⟩;rw [ecut];have fl:=G0 (λp:Pp=>aw p.key c.key) (aW ps);rw [oo] at fl;obtain⟨hm1,hm2⟩:=gd.ms c hc;refine⟨by rw [DP,DP];omega,CU (λz=>c.ms.contains z) .str (λx hx R S h=>?_) ?_⟩
  ·simp only [Pp.enc];walk_at "a";obtain⟨p,hp,rfl⟩:=Es.mp hx;refine⟨mw.mpr (gd.nm p (l4.mp (FY.mp hp).1)),sA hm1,?_⟩;rw [su];exact h
  ·have e:((((aW ps).filter λp=>aw p.key c.key).map (·.nm)).filter λz=>c.ms.contains z)=(lF ps c).map (·.nm):=by
    rw [List.filter_map,Ja];rfl
   rw [e];exact q
theorem CY{k:Nat}{f:Ke}{fd:Ko}{ps:List Str}:ay P w K mg base aK k f fd ps (aX K λ_ _=>False):=⟨λvs H Q E uu85=>by obtain⟨_,_,_,_,_,h,_⟩:=uu85;exact h.elim,λ_ _ _ _ _ _ _ _ _ _ _ _ _ uu86=>by obtain⟨_,_,_,_,_,h,_⟩:=uu86;exact h.elim⟩
def CZ(x:Kb):Prop:=x= .none\/(∃i,x= .int i)\/(∃s,x= .str s/\Ed s=true)\/∃b,x= .bool b
def sH:Nat->Kb->Prop
 | 0,_=>False
 | n+1,d=>CZ d\/∃ds,d= .tuple ds/\ds.length<=1000/\∀x∈ds,sH n x
def pM(n:Nat):List Kb->(Kb->Prop)->Prop:=λds Q=>∃x,ds=[x,x]/\sH n x/\Q (.bool true)
theorem sI{d n:Nat}(T:Txt K mg t)(G_S:ay P w K mg base aK d t.a_S t.d_S ["_law_told","_law_due"] (aX K (pM n))):
 ay P w K mg base aK (d+1) t.a_S t.d_S ["_law_told","_law_due"] (aX K (pM (n+1))):=by
 refine T.F_S.F.okD Cy (λds Q h=>?_) (λ_ _ _ _ H O ds Q E hr h=>?_)
 ·obtain⟨x,rfl,_⟩:=h;rfl
 ·obtain⟨x,rfl,hx,q⟩:=h;refine'⟨_,?A,?B⟩
  case A=>
   refine' ar ?C ?D
   case C=>
    refine' bO ?E ?F bN
    case E=>exact(cO (lT (K':=K) (T:="tuple") rfl rfl T.n_isinstance dM (df (dv 1)) (k7 (v:= .ty "tuple") rfl T.n_tuple lh rfl)))
    case' F=>refine' ar ?G ?H
    case G=>
     refine' bO ?I ?J bN
     case I=>exact(PW.pt (oR (fY (cO (lT (K':=K) (T:="tuple") rfl rfl T.n_isinstance dM (df (dv 0)) (k7 (v:= .ty "tuple") rfl T.n_tuple lh rfl)))) (qP (bE (yZ hr.units) y9 (PE.imp (cu mQ rfl T.n_len G1 (bF (dv 0) bA)) (bS nX)) (PE.imp (cu mQ rfl T.n_len G1 (bF (dv 1) bA)) (bS nX)) (bo _)))))
     case J=>refine' aB (aR dQ)
    case' H=>refine' aB ?K
    case' K=>refine' aR ?L
    case L=>exact(PE.imp (cu (yA rfl) rfl T.n_all yK (bF (fe (uo rfl vZ rfl T.n_range (bF (PE.imp (cu mQ rfl T.n_len G1 (bF (dv 1) bA)) (bS nX)) bA) bq cR J3 (λ_ _ _ _=>(bp (i:=0) vZ.nd rfl J7)) (λ_ _ _ _=>mv) (λ_ _ _ _=>(PE.imp (oh G_S (hr.mono (DU _)) rfl T.F_S (ae (ax bB bD (dv 1) (dv 0)) (ae (ax bB bD (dv 2) (dv 0)) aj))) nT)))) bA)) (bS Ac))
   case' D=>refine' ar ?M ?N
   case M=>
    refine' bO ?O ?P bN
    case O=>exact(bE tF uL (dv 1) qO (bo _))
    case' P=>refine' aB ?Q
    case Q=>exact(aR (lL tF uL (df (dv 0)) (df qO) (bo _)))
   case' N=>refine' ar ?R ?S
   case R=>
    refine' bO ?T ?U bN
    case T=>exact(cO (lT (K':=K) (T:="bool") rfl rfl T.n_isinstance dM (df (dv 1)) (k7 (v:= .ty "bool") rfl T.n_bool qJ rfl)))
    case' U=>refine' aB ?V
    case' V=>refine' aR ?W
    case W=>exact(oT (lT (K':=K) (T:="bool") rfl rfl T.n_isinstance dM (df (dv 0)) (k7 (v:= .ty "bool") rfl T.n_bool qJ rfl)) (qQ (lL (eJ hr.units) eN (df (dv 0)) (df (dv 1)) (bo _))))
   case' S=>refine' ar ?X ?Y
   case X=>
    refine' bO ?Z ?a bN
    case Z=>exact(cO (lT (K':=K) (T:="int") rfl rfl T.n_isinstance dM (df (dv 1)) (k7 (v:= .ty "int") rfl T.n_int nR rfl)))
    case' a=>refine' aB ?b
    case' b=>refine' aR ?c
    case c=>exact(oT (lT (K':=K) (T:="int") rfl rfl T.n_isinstance dM (df (dv 0)) (k7 (v:= .ty "int") rfl T.n_int nR rfl)) (oT (yW (lT (K':=K) (T:="bool") rfl rfl T.n_isinstance dM (df (dv 0)) (k7 (v:= .ty "bool") rfl T.n_bool qJ rfl))) (qQ (lL (eJ hr.units) eN (df (dv 0)) (df (dv 1)) (bo _)))))
   case' Y=>refine' aB ?d
   case' d=>refine' aR ?e
   case e=>exact(oT (lT (K':=K) (T:="str") rfl rfl T.n_isinstance dM (df (dv 0)) (k7 (v:= .ty "str") rfl T.n_str yk rfl)) (qQ (lL (eJ hr.units) eN (df (dv 0)) (df (dv 1)) (bo _))))
  case B=>
  clear hr T G_S;rcases hx with(rfl | ⟨i,rfl⟩ | ⟨s,rfl,hs⟩ | ⟨b,rfl⟩) | ⟨xs,rfl,hl,hF⟩ <;> walk_at "a" <;> simp only [AF,AE,AD,AB]
  ·simpa [m9,lA,n4,n3,dj,Hf,EA,Hg] using q
  ·simpa [m9,pd,lA,n4,n3,dj,Hf,EA,Hg] using q
  ·simpa [m9,pd,lA,n4,n3,cI,hs,Hf,EA,Hg] using q
  ·simpa [m9,pd,lA,n4,n3,fj,Hf,EA,Hg] using q
  ·simp only [m9];walk_at "a";refine⟨Ka,Ka,J4,J4,AH (p:=λb=>Q (.bool b)) (λ_=>true) (λx hx R hR=>?_) ?_⟩
   ·obtain⟨i,hi⟩:=List.getElem?_of_mem hx;obtain⟨hlt,rfl⟩:=m3 hi;have hj:i < xs.length:=J4
    have ha:atI xs (0+(i:Int))=some xs[i]:=by rw [Jb];exact fW (by simp [hj])
    walk_at "a";exact⟨xs[i],ha,xs[i],ha,_,rfl,hF _ (FH hj),hR⟩
   ·have e:∀l:List Kb,((l.map λ_=>true).all id)=true:=λl=>by rw [List.all_map];exact Gi.mpr λ_ _=>rfl
    rw [e];exact q
theorem C0(T:Txt K mg t):ay P w K mg base aK 5 t.a_S t.d_S ["_law_told","_law_due"] (aX K (pM 0)):=ay.imp CY λvs H Q E uu87=>by obtain⟨O,ds,Qd,a,b,⟨x,_,h,_⟩,_⟩:=uu87;exact h.elim
theorem C1(T:Txt K mg t):ay P w K mg base aK 8 t.a_S t.d_S ["_law_told","_law_due"] (aX K (pM 3)):=sI T (sI T (sI T (C0 T)))
def C2:List Kb->(Kb->Prop)->Prop:=λds Q=>∃xs:List De,ds=[.tuple (xs.map De.enc)]/\bU xs/\Q (.bool true)
theorem v5{ss:List Str}{n:Nat}(h:∀z∈ss,Ed z=true)(hl:ss.length<=1000):sH (n+2) (.tuple (ss.map .str)):= .inr ⟨_,rfl,by rw [DP];exact hl,λx hx=>by
 obtain⟨z,hz,rfl⟩:=Es.mp hx;exact .inl (.inr (.inr (.inl ⟨z,rfl,h z hz⟩)))⟩
theorem C3(T:Txt K mg t):ay P w K mg base aK 9 t.a_U t.d_U ["_law_deeds"] (aX K C2):=by
 have G_P:=@v3 P w _ _ base _ T;have G_Q:=@sG P w _ _ base _ T;have G_R:=@CW P w _ _ base _ T;have G_S:=@C1 P w _ _ base _ T;have G_D:=@CL P w _ _ base _ T;have G_E:=@CP P w _ _ base _ T;have G_G:=@CN P w _ _ base _ T;refine T.F_U.F.okD sh (λds Q h=>?_) (λ_ _ _ _ H O ds Q E hr h=>?_)
 ·obtain⟨xs,rfl,_⟩:=h;rfl
 ·obtain⟨xs,rfl,gd,q⟩:=h;refine'⟨_,?A,?B⟩
  case A=>
   refine' ar ?C ?D
   case C=>exact(bh (i:=1) sh.nd rfl J7 (aT G_Q hr T.F_Q (ae (dv 0) aj)))
   case' D=>refine' ar ?E ?F
   case E=>
    refine' bO ?G ?H bN
    case G=>exact(fY (cO (PE.imp (oh G_S (hr.mono (DU _)) rfl T.F_S (ae (aT G_D hr T.F_D (ae (dv 0) aj)) (ae (PE.imp (dJ ma rfl T.n_tuple lh (bF (dv 1) bA)) (bS mr)) aj))) nT)))
    case H=>refine' aB (aR dQ)
   case' F=>refine' ar ?I ?J
   case I=>
    refine' qU Ge rfl (dv 1) ?K bq ?L
    case K=>exact(bp (i:=2) sh.nd rfl J7)
    case' L=>refine' ar ?M ?N
    case M=>
     refine' bO ?O ?P bN
     case O=>exact(fY (cO (PE.imp (oh G_S (hr.mono (DU _)) rfl T.F_S (ae (aT G_E hr T.F_E (ae (dv 0) (ae (dv 2) aj))) (ae (ax bB bD (aT G_P hr T.F_P (ae (dv 0) (ae (dv 2) aj))) af) aj))) nT)))
     case P=>refine' aB (aR dQ)
    case' N=>refine' aB ?Q
    case' Q=>refine' bO ?R ?S bN
    case R=>exact(fY (cO (PE.imp (oh G_S (hr.mono (DU _)) rfl T.F_S (ae (aT G_G hr T.F_G (ae (dv 0) (ae (dv 2) aj))) (ae (PE.imp (dJ ma rfl T.n_tuple lh (bF (aT G_R hr T.F_R (ae (dv 0) (ae (dv 2) aj))) bA)) (bS mr)) aj))) nT)))
    case S=>refine' aB (aR dQ)
   case J=>refine' aB (aR dQ)
  case B=>
  clear hr T G_P G_Q G_R G_S G_D G_E G_G;have gp:=gd.gp;have pln:=gp.ln;walk_at "a";have sok:∀ps:List Pp,(∀p∈ps,p∈aF xs)->∀z∈ps.map (·.nm),Ed z=true:=λps h z hz=>by
   obtain⟨p,hp,rfl⟩:=Es.mp hz;exact gp.nm p (h p hp)
  have ol:=oo (ps:=aF xs);refine⟨xs,rfl,gd,xs,rfl,gd,_,rfl,_,rfl,v5 (n:=1) (sok _ λp hp=>l4.mp hp) (by rw [DP];omega),true,rfl,?_⟩;rw [J5 Ka];refine⟨_,rfl,λi δ=>∃o2,δ=[some (Sl.v (Em (E4 De.enc xs))),some (Sl.v (.list (((aW (aF xs)).map (·.nm)).map .str))),o2],⟨_,rfl⟩,?_,?_⟩
  ·rintro i z δ hz ⟨o2,rfl⟩;rw [D7,D7] at hz;cases hz':(aW (aF xs))[i]? with
   | none=>rw [hz'] at hz;cases hz
   | some c=>
    rw [hz'] at hz;cases hz;have hc:=l4.mp (Ef hz');have ml:(lF (aF xs) c).length<=41:=vV gp;walk_at "a";refine⟨xs,c,rfl,gd,hc,xs,c,rfl,gd,hc,_,rfl,_,cg,_,rfl,.inl (.inr (.inr (.inl ⟨_,rfl,gp.kd c hc⟩))),true,rfl,?_⟩;rw [J5 Ka];refine⟨xs,c,rfl,gd,hc,xs,c,rfl,gd,hc,_,rfl,_,rfl,v5 (n:=1) (sok _ λp hp=>l4.mp (FY.mp hp).1) (by rw [DP];omega),true,rfl,?_⟩;rw [J5 Ka];exact⟨_,rfl⟩
  ·rintro δ ⟨o2,rfl⟩;walk_at "a";exact q
local macro_rules | `(tactic| walk_at "c") =>rzT "pZ pY p8 p7 p6 mL fT mG tC l6 qm rI dH rU BL BM BN BO BP qq tB pT pU pV pW pX nM qu qt nO qv qw nB mJ nA tY tZ t5 t6 t7 t8 t9 ua cC cM ck L2.start D9 EW D4 EK D6 EM EJ Er Fp Fq FJ FK FL Ew Eg ER ES EY exists_eq_left' exists_eq_left exists_and_left exists_and_right V.int.injEq V.bl.injEq V.str.injEq V.ref.injEq EG and_true true_and FN exists_const decide_eq_true_eq FO FP Fx Fy EH decide_eq_false_iff_not and_assoc aG E5 EX E6 L2.cxK L2.cmK or_true true_or"
local macro_rules | `(tactic| walk_at "d") =>rzT "pZ pY p8 p7 p6 mL fT mG tC l6 qm rI dH rU mM qq tB pT pU pV pW pX nM qu qt nO qv qw nB mJ nA tY tZ t5 t6 t7 t8 t9 ua cC cM ck L2.start D9 EW D4 EK D6 EM EJ Er Fp Fq FJ FK FL Ew Eg ER ES EY exists_eq_left' exists_eq_left exists_and_left exists_and_right V.int.injEq V.bl.injEq V.str.injEq V.ref.injEq EG and_true true_and FN exists_const decide_eq_true_eq FO FP Fx Fy EH decide_eq_false_iff_not and_assoc aG E5 EX E6 L2.cxK L2.cmK or_true true_or if_true if_false Eu E2 not_true_eq_false not_false_eq_true FU Fz ite_true ite_false eq_self uc L2.E0 exists_eq forall_eq'"
def sJ(xs:List De)(d:Kb):Prop:=bJ d=true/\∀p∈aF xs,(DW p.nm).eqv d=false
def oq:DX:=λds _ R=>∃(xs:List De)(d:Kb),ds=[.tuple (xs.map De.enc),d]/\bU xs/\sJ xs d/\R
theorem sL(T:Txt K mg t):ay P w K mg base (aJ P w) 1 t.a_C t.d_C ["deeds","paper"] (lU K t.u_NoPaper oq):=by
 refine T.F_C.F.okDX pG (λds Q R h=>?_) (λcdv A outer s H O ds Q R E hr h hx=>?_)
 ·obtain⟨xs,d,rfl,_⟩:=h;rfl
 ·obtain⟨xs,d,rfl,g,⟨ht,hn⟩,r⟩:=h;refine'⟨_,?A,?B⟩
  case A=>
   refine' ar ?C ?D
   case C=>
    refine' um PassesOwn.leaving rfl (dv 0) ?E bq ?F
    case E=>exact(bp (i:=2) pG.nd rfl J7)
    case' F=>refine' aB ?G
    case' G=>refine' bO ?H ?I bN
    case H=>exact(PW.pt (mU (bE (m7 hr) m8 (ax bB bD (dv 2) af) bI (bo _)) (mT (bE (Ck hr) Cm (ax bB bD (dv 2) af) (dv 1) (bo _)))))
    case' I=>refine' aB ?J
    case J=>exact(aR (dv 2))
   case' D=>refine' aB ?K
   case K=>exact(Ci hx T.c_NoPaper T.q_NoPaper PySem.F.excBase_ValueError (ae bI aj))
  case B=>
  clear hr T hx;walk_at "a";refine⟨λi δ=>∃o2,δ=[some (Sl.v (Em (E4 De.enc xs))),some (Sl.v d),o2],⟨_,rfl⟩,?_,?_⟩
  ·rintro i z δ hz ⟨o2,rfl⟩;rw [D7] at hz;cases hz':xs[i]? with
   | none=>rw [hz'] at hz;cases hz
   | some x=>
    rw [hz'] at hz;cases hz;have hx:=Ef hz';cases x with
    | pap p=>
     simp only [De.enc,Pp.enc];walk_at "a";rw [hn p (sr.mpr hx)];exact⟨ht,_,rfl⟩
    | oth wo n nm l=>
     simp only [De.enc];walk_at "a";rw [lG (g.np _ _ _ _ hx),J5 EI];exact⟨_,rfl⟩
  ·rintro δ ⟨o2,rfl⟩;walk_at "a";exact r
theorem C4(T:Txt K mg t):ay P w K mg base (aJ P w) 2 t.a_E t.d_E ["deeds","paper"] (lU K t.u_NoPaper oq):=by
 have G_C:=@sL P w _ _ base _ T;refine T.F_E.F.okDX vy (λds Q R h=>?_) (λcdv A outer s H O ds Q R E hr h hx=>?_)
 ·obtain⟨xs,d,rfl,_⟩:=h;rfl
 ·obtain⟨xs,d,rfl,h⟩:=h;refine'⟨_,?A,?B⟩
  case A=>
   refine' aB ?C
   case C=>exact(aR (ax bB bD (rO hx G_C hr T.F_C (ae (dv 0) (ae (dv 1) aj))) af))
  case B=>
  clear hr T hx G_C;walk_at "a";exact⟨xs,d,rfl,h⟩
theorem C5(T:Txt K mg t):ay P w K mg base (aJ P w) 6 t.a_G t.d_G ["deeds","paper"] (lU K t.u_NoPaper oq):=by
 have G_C:=@sL P w _ _ base _ T;have G_F:=@vU P w _ _ base _ T;refine T.F_G.F.okDX vA (λds Q R h=>?_) (λcdv A outer s H O ds Q R E hr h hx=>?_)
 ·obtain⟨xs,d,rfl,_⟩:=h;rfl
 ·obtain⟨xs,d,rfl,h⟩:=h;refine'⟨_,?A,?B⟩
  case A=>
   refine' aB ?C
   case' C=>refine' aR ?D
   case D=>exact(PE.imp (dJ ma rfl T.n_tuple lh (bF (fe (lO rfl pK (df (aT G_F hr T.F_F (ae (dv 0) (ae (rO hx G_C hr T.F_C (ae (dv 0) (ae (dv 1) aj))) aj)))) bq cR J3 (λ_ _ _ _=>(bp (i:=0) pK.nd rfl J7)) (λ_ _ _ _=>mv) (λ_ _ _ _=>(ax bB bD (dv 0) af)))) bA)) (bS mr))
  case B=>
  clear hr T hx G_C G_F;walk_at "a";exact⟨xs,d,rfl,h⟩
theorem C6(T:Txt K mg t):ay P w K mg base (aJ P w) 7 t.a_H t.d_H ["deeds","paper"] (lU K t.u_NoPaper oq):=by
 have G_C:=@sL P w _ _ base _ T;refine T.F_H.F.okDX Ct (λds Q R h=>?_) (λcdv A outer s H O ds Q R E hr h hx=>?_)
 ·obtain⟨xs,d,rfl,_⟩:=h;rfl
 ·obtain⟨xs,d,rfl,h⟩:=h;refine'⟨_,?A,?B⟩
  case A=>
   refine' ar ?C ?D
   case C=>exact(yX (rO hx G_C hr T.F_C (ae (dv 0) (ae (dv 1) aj))))
   case' D=>refine' ar n5 ?E
   case' E=>refine' ar n5 ?F
   case' F=>refine' ar n5 ?G
   case G=>refine' aB n5
  case B=>
  clear hr T hx G_C;walk_at "a";exact⟨xs,d,rfl,h⟩
theorem C7(T:Txt K mg t):ay P w K mg base aK 14 t.a_T t.d_T ["_law_deed"] (vt P w K mg t.u_NoPaper 13 base):=by
 refine T.F_T.F.ok vB (λvs H Q E h=>?_) (λcdv A outer s H vs Q E hr h=>?_)
 ·obtain⟨f,k,fd,sp,o,rfl,_⟩:=h;rfl
 ·obtain⟨f,k,fd,sp,o,rfl,hbf,hk,Ff,hb,hsp⟩:=h;refine'⟨_,?A,?B⟩
  case A=>
   refine' p5 ?C ?D
   case C=>
    exact(Ce (C:=t.u_NoPaper) (i:=1) (d:=0) rfl (Ic rfl) rfl rfl T.c_ArchiveError rfl T.q_NoPaper T.q_ArchiveError J3 T.i_NoPaper_ArchiveError vB.nd rfl rfl (λe=>(p5 (sZ (sU (cu (Cn (K':=K) rfl) rfl T.n_isinstance dM (bG (pv 1) (bG (tG (bG (dF (v:= .ref t.u_GoneMaker) rfl T.c_GoneMaker rfl) (bG (dF (v:= .ref t.u_Held) rfl T.c_Held rfl) (bG (dF (v:= .ref t.u_MustStay) rfl T.c_MustStay rfl) (bG (dF (v:= .ref t.u_NoCall) rfl T.c_NoCall rfl) (bG (dF (v:= .ref t.u_NoDay) rfl T.c_NoDay rfl) (bG (dF (v:= .ref t.u_NoDeed) rfl T.c_NoDeed rfl) (bG (dF (v:= .ref t.u_NoLeave) rfl T.c_NoLeave rfl) (bG (dF (v:= .ref t.u_NoNumber) rfl T.c_NoNumber rfl) (bG (dF (v:= .ref t.u_NoText) rfl T.c_NoText rfl) (bG (dF (v:= .ref t.u_Twice) rfl T.c_Twice rfl) fV))))))))))) fV)))) (oz (nz pR)) sX)
   (oz (nz (sW (cu (vx (K':=K) rfl) rfl T.n_isinstance dM (bG (pv 1) (bG (dF (v:= .ref t.u_NoPaper) rfl T.c_NoPaper rfl) fV))) (sV (cu (vx (K':=K) rfl) rfl T.n_isinstance dM (bG (pv 1) (bG (k7 (v:= .ty "ValueError") rfl T.n_ValueError yL rfl) fV))))))))))
   case D=>
    refine' oz ?E
    case E=>refine' nz pR
  case B=>
  walk_at "d";refine⟨f,k,fd,sp,o,rfl,hbf,hr.mono hk,Ff,hb,hsp _ _ (λv H2 q=>?_) (λd H2 q=>⟨rfl,λe he=>?_⟩)⟩
  ·walk_at "d";exact q
  ·walk_at "d";refine⟨J3,λq' hq=>?_⟩;have ne:e≠q':=bV bf hq;have Z:dN K t.u_NoPaper:=⟨T.z1,T.z2,T.z3,T.z4,T.z5,T.z6,T.z7,T.z8⟩;refine⟨t.u_NoPaper,(au ne).trans bf,[t.u_GoneMaker,t.u_Held,t.u_MustStay,t.u_NoCall,t.u_NoDay,t.u_NoDeed,t.u_NoLeave,t.u_NoNumber,t.u_NoText,t.u_Twice],bf,Z,false,T.ka,?_⟩;rw [J5 J3];refine⟨t.u_NoPaper,(au ne).trans bf,Z,.ref t.u_NoPaper,λu h=>h,true,by unfold Hl;rw [J6 Ka],?_⟩;rw [J6 rfl];refine⟨t.u_NoPaper,(au ne).trans bf,Z,.type "ValueError",λu h=>h,true,T.kv,?_⟩;exact q _ ((ah.new he).trans (ah.new hq))
theorem C8{g:DG}{tb:DS}{E:lK}{xs:List Kb}{δf:Int->Dl}{C D p q X:Prop} [Decidable C] [Decidable D]{d1 d2 d3:Int}(hp:p)(hq:q)(hX:X)(key:∀dg,cQ g tb E xs (δf dg)):
 if C then p/\q/\cQ g tb E xs (δf d1) else X/\if D then p/\q/\cQ g tb E xs (δf d2) else p/\q/\cQ g tb E xs (δf d3):=by
 split
 ·exact⟨hp,hq,key _⟩
 ·refine⟨hX,?_⟩;split
  ·exact⟨hp,hq,key _⟩
  ·exact⟨hp,hq,key _⟩
def v7:List Kb->(Kb->Prop)->Prop:=λds Q=>∃(ns:List Int)(k:Int),ds=[cb (ns.map .int),.int k]/\0<=k/\k<=1000/\∀c:Int,Q (.int c)
theorem sM(T:Txt K mg t):ay P w K mg base aK 1 t.a_I t.d_I ["_law_script","_law_k"] (aX K v7):=by
 refine T.F_I.F.okD pH (λds Q h=>?_) (λ_ _ _ _ H O ds Q E hr h=>?_)
 ·obtain⟨ns,k,rfl,_⟩:=h;rfl
 ·obtain⟨ns,k,rfl,k0,k1,q⟩:=h;refine'⟨_,?A,?B⟩
  case A=>
   refine' ar ?C ?D
   case C=>
    refine' bO ?E ?F bN
    case E=>exact(bE nK mm (dv 1) (PE.imp (cu mQ rfl T.n_len G1 (bF (dv 0) bA)) (bS Ab)) (bo _))
    case' F=>refine' aB ?G
    case G=>exact(aR (ax aL AW (dv 0) (dv 1)))
   case' D=>refine' ar ?H ?I
   case H=>
    refine' bh (i:=2) pH.nd rfl J7 ?J (hs:=dA)
    case J=>exact(ak ba aE (ak lH aE af (ak cm bP (ak cm bP (ak lH aE (dv 1) (dv 1)) (ak lH aE af (dv 1))) af)) af)
   case' I=>refine' ar ?K ?L
   case K=>
    refine' qU Ge rfl (fe (AX (df (dv 0)) lr (lu af))) ?M bq ?N
    case M=>exact(bp (i:=3) pH.nd rfl J7)
    case' N=>refine' aB ?O
    case' O=>refine' bh (i:=2) pH.nd rfl J7 ?P (hs:=dA)
    case P=>exact(ak ba aE (ak cm bP (ak lH aE (dv 2) af) (dv 3)) af)
   case' L=>refine' aB ?Q
   case Q=>exact(aR (dv 2))
  case B=>
  clear hr T;walk_at "a";refine⟨_,rfl,?_⟩;rw [DP];split
  ·rename_i hlt;obtain⟨j,rfl⟩:=Fb k0;have hj:j < ns.length:=J4
   exact⟨_,rfl,.int ns[j],fW (by simp [hj]),q _⟩
  ·refine⟨.inl ⟨J4,J4⟩,_,rfl,λi δ=>∃(st:Int)(o:Option Sl),δ=[some (Sl.v (cb (ns.map .int))),some (Sl.v (.int k)),some (Sl.v (.int st)),o],⟨_,_,rfl⟩,?_,?_⟩
   ·rintro i x δ hx ⟨st,o,rfl⟩;have hm:=Ef hx;unfold aS at hm;have hm2:=HC (G7 hm);obtain⟨c,_,rfl⟩:=Es.mp hm2;walk_at "a"
    first | exact⟨_,_,rfl,rfl⟩ | exact⟨⟨_,rfl⟩,⟨_,rfl⟩⟩ | exact⟨_,_,rfl⟩ | exact⟨_,rfl⟩
   ·rintro δ ⟨st,o,rfl⟩;walk_at "a";exact q _
def v9:List Kb->(Kb->Prop)->Prop:=λds Q=>∃c m:Int,ds=[.int c,.int m]/\0<=m/\m<=64/\∀ns:List Int,(ns.length:Int)=m->(∀z∈ns,0<=z/\z < 2000000000)->Q (.list (ns.map .int))
theorem sN(T:Txt K mg t):ay P w K mg base aK 1 t.a_J t.d_J ["_law_cell_here","_law_many"] (aX K v9):=by
 refine T.F_J.F.okD lV (λds Q h=>?_) (λ_ _ _ _ H O ds Q E hr h=>?_)
 ·obtain⟨c,m,rfl,_⟩:=h;rfl
 ·obtain⟨c,m,rfl,m0,m1,q⟩:=h;refine'⟨_,?A,?B⟩
  case A=>
   refine' ar ?C ?D
   case C=>exact(nU (i:=2) lV.nd rfl J7 (cf aj))
   case' D=>refine' ar ?E ?F
   case E=>
    refine' bh (i:=3) lV.nd rfl J7 ?G (hs:=dA)
    case G=>exact(ak ba aE (ak lH aE (ak cm bP (ak ba aE (dv 0) af) af) af) af)
   case' F=>refine' ar ?H ?I
   case H=>exact(bh (i:=4) lV.nd rfl J7 af)
   case' I=>refine' ar ?J ?K
   case J=>
    refine' bO ?L ?M bN
    case L=>exact(PW.pt (oR (bE nK mm (dv 0) af (bo _)) (qP (bE xl mm (dv 0) (ak xi aE af af) (bo _)))))
    case' M=>refine' aB ?N
    case N=>exact(bh (i:=4) lV.nd rfl J7 (PE.imp (cu xp rfl T.n_abs PyProof.Rows.boot_abs (bF (dv 0) bA)) (bS AV)))
   case' K=>refine' ar ?O ?P
   case O=>
    refine' qV Ge rfl rfl T.n_range (ae (dv 1) aj) ?Q bq ?R
    case Q=>exact(bp (i:=5) lV.nd rfl J7)
    case' R=>refine' ar ?S ?T
    case S=>
     generalize hG15:IF _ _ _ _=eg15;refine' bh (i:=3) lV.nd rfl J7 ?U (hs:=by subst hG15;exact dA)
     case' U=>subst hG15
     exact(ak ba aE (ak cm bP (ak cm bP (ak lH aE (dv 3) (ak cm bP (ak ba aE (dv 3) af) af)) (ak lH aE af (dv 5))) af) af)
    case' T=>refine' ar ?V ?W
    case V=>
     refine' nV (i:=2) (pv 2) ?X
     case' X=>refine' lx aL aM (df ?Y) ?Z
     case Y=>exact(fe (cf (ae (dv 3) (ae (ak ba aE (dv 4) af) aj))))
     case Z=>exact(df (PE.imp (dJ qr rfl T.n_int nR (bF (lL xk mm (df (dv 4)) (df af) (bo _)) bA)) (bS qY)))
    case' W=>refine' aB ?a
    case a=>exact(bh (i:=4) lV.nd rfl J7 (ak k9 aE (dv 4) af))
   case' P=>refine' aB ?b
   case b=>exact(oU (pv 2))
  case B=>
  clear hr T;walk_at "a";have aG:0<=(c % 1999999871+53)*598371041 % 1999999871/\(c % 1999999871+53)*598371041 % 1999999871 < 1999999871:=⟨GV _ J3,Gs _ J3⟩;generalize (c % 1999999871+53)*598371041 % 1999999871=st at*;have b1:-4611686018427387904<=m:=J4
  have b2:m < 4611686018427387904:=J4
  refine C8 (δf:=λdg=>[some (Sl.v (.int c)),some (Sl.v (.int m)),some (Sl.o []),some (Sl.v (.int st)),some (Sl.v (.int dg)),none]) b1 b2 J3 ?c
  case c=>
   intro dg;refine⟨λi δ=>∃(ns:List Int)(st dg:Int)(o:Option Sl),ns.length=i/\(∀z∈ns,0<=z/\z < 2000000000)/\0<=st/\st < 1999999871/\δ=[some (Sl.v (.int c)),some (Sl.v (.int m)),some (Sl.o (ns.map .int)),some (Sl.v (.int st)),some (Sl.v (.int dg)),o],⟨[],st,dg,none,rfl,Ka,aG.1,aG.2,rfl⟩,?_,?_⟩
   ·rintro i x δ hx ⟨ns,st,dg,o,hl,hn,s0,s1,rfl⟩;obtain⟨hi,rfl⟩:=m3 hx;clear aG;walk_at "a";have n0:0<=(st*(st % 63443+41201)+13*(0+(i:Int))+7)% 1999999871:=GV _ J3;have n1:(st*(st % 63443+41201)+13*(0+(i:Int))+7)% 1999999871 < 1999999871:=Gs _ J3;generalize (st*(st % 63443+41201)+13*(0+(i:Int))+7)% 1999999871=nx at*;have d0:0<=dg % 1000000:=GV _ J3;have d1:dg % 1000000 < 1000000:=Gs _ J3;obtain⟨z,hz,z0,z1⟩:∃z:Int,atI [DY nx,DY (dg % 1000000)] (if 0 < dg then 1 else 0)=some (.int z)/\0<=z/\z < 2000000000:=by
     split
     ·exact⟨_,bZ,d0,J4⟩
     ·exact⟨_,bQ,n0,J4⟩
    refine⟨.inl ⟨J4,J4⟩,.int z,hz,by rw [DP];omega,ns++[z],by simp [hl],λy hy=>?_,nx,n0,n1,Ka,rfl,_,rfl⟩;rcases Ei.mp hy with h | h
    ·exact hn y h
    ·rw [Et] at h;rw [h];exact⟨z0,z1⟩
   ·rintro δ ⟨ns,st,dg,o,hl,hn,s0,s1,rfl⟩;walk_at "a";have hm:(ns.length:Int)=m:=by rw [hl];unfold c5;simp;omega
    exact q ns hm hn
end
theorem wa:aQ (av pA) ["_law_xs","_law_many","_law_letters","_law_stem","_law_size","_law_at","_law_some","_law_k","_law_two"] ["_law_k","_law_letters","_law_stem","_law_xs"] 1 [2,3,0] ⟨Ee,[ (DQ ".0",LK),(DQ "_law_k",LK),(DQ "_law_letters",Ek),(DQ "_law_stem",Ek),(DQ "_law_xs",Ek)],false,false,[]⟩:= .of
section
variable {P:Kp} {w:Kq} {K:DL} {mg:Str->Option Kc} {base:Km} {t:lE}
def C9:List Kb->(Kb->Prop)->Prop:=λds Q=>∃(a b c d e:Int)(r:List Kb)(m:Int),ds=[.list (.int a:: .int b:: .int c:: .int d:: .int e::r),.int m]/\0<=m/\m<=50/\∀ss:List Str,(ss.length:Int)=m->(∀z∈ss,Nm z)->ss.Nodup->Q (.list (ss.map .str))
theorem ot{c:Nat}{n:Int}(h0:0<=n):(F3 ⟨#[c]⟩ n).cps.toList=D6 n.toNat c:=by
 have key:∀(k:Nat)(a:Array Nat),((D6 k #[c]).foldl (·++·) a).toList=a.toList++D6 k c:=by
  intro k
  induction k with
  | zero=>intro a;simp
  | succ k ih=>intro a;rw [IL,F9,ih];simp [IL]
 unfold F3;split
 ·rw [show n.toNat=0 by omega];rfl
 ·split
  ·rename_i h;have:n=1:=by
    rw [show(⟨#[c]⟩:Str).length=1 from rfl] at h;simpa using h
   subst this;rfl
  ·show((D6 n.toNat #[c]).foldl (·++·) #[]).toList=_;rw [key];rfl
theorem mul_one{c:Nat}(hc:c < 0x110000){n:Int}(h0:0<=n)(h1:n<=50):PySem.MulOk ⟨#[c]⟩ n/\Am n.toNat (F3 ⟨#[c]⟩ n):=by
 have lc:(⟨#[c]⟩:Str).length=1:=rfl;constructor
 ·refine⟨by simp;omega,λa b=>?_,λa b=>?_⟩
  ·rw [lc];have:(2 ^ 63 - 1:Int)/ n >= 1:=by rw [ge_iff_le,Int.le_ediv_iff_mul_le J4];omega
   omega
  ·rw [lc];obtain⟨k,rfl⟩:=Fb h0;rw [Nat.one_mul];unfold PySem.Builtin.Str.tooLong;simp;have:Kl=16777216:=by first | rfl | decide | exact Kv
   omega
 ·have l:=ot (c:=c) h0;refine⟨uu.mpr λd hd=>?_,?_⟩
  ·rw [l] at hd;rw [(HK.mp hd).2];exact hc
  ·show(F3 ⟨#[c]⟩ n).cps.size<=_;rw [<-D2,l,Gv];exact DU _
theorem Dc{p x y A B C:Prop}{_:Decidable p}{_:Decidable x}{_:Decidable y}(hA:p->A)(hB:p->B)(hC:C):if p then(if x then A else if p then(if y then B else C) else C) else(if p then(if y then B else C) else C):=by
 by_cases hp:p
 ·rw [J6 hp,J6 hp];split
  ·exact hA hp
  ·split
   ·exact hB hp
   ·exact hC
 ·rw [J5 hp,J5 hp];exact hC
def nu:List Str:=["coming","paper","kind","first","rule","last","hold","end"]
theorem Dd:∀z∈nu,Nm z:=by
 intro z hz;have a:nu.all (λz=>decide (1<=z.length) && decide (z.length<=8) && z.cps.toList.all λc=>decide (c∈cA.cps.toList))=true:=td
 have:=Gi.mp a z hz;simp only [F5,decide_eq_true_eq,Gi] at this;exact⟨this.1.1,this.1.2,this.2⟩
theorem Df:nu.Nodup:=td
theorem wb{c:Nat}{n:Int}(h0:0<=n):(F3 ⟨#[c]⟩ n).length=n.toNat:=by
 show(F3 ⟨#[c]⟩ n).cps.size=_;rw [<-D2,ot h0,Gv]
theorem pN{j:Int}(h0:0<=j)(h1:j < 26):(dz j:Int)=97+j:=by
 have:∀k:Nat,k < 26->dz (k:Int)=97+k:=td
 obtain⟨k,rfl⟩:=Fb h0;rw [this k J4];omega
theorem wc{j:Int}(h0:0<=j)(h1:j < 26):dz j∈cA.cps.toList:=by
 obtain⟨c,_,hc,_⟩:=o4 h0 h1;unfold dz;rw [hc];exact Ef hc
def mE(x:Nat)(a r d e k:Int):Str:=F3 ⟨#[x]⟩ a++(⟨#[dz ((d+3*(0+k))% 26)]⟩++⟨#[dz ((e+(0+k)/ 26)% 26)]⟩)++F3 ⟨#[x]⟩ r
theorem Dg{x:Nat}{a r d e k k':Int}(h0:0<=k)(h1:k < 50)(h2:0<=k')(h3:k' < 50)(h:mE x a r d e k=mE x a r d e k'):k=k':=by
 have h:=congrArg (λz:Str=>z.cps.toList) h;unfold mE at h;simp only [q5,GO] at h;have h:=List.append_cancel_left (List.append_cancel_right h);simp at h;have e1:=pN (j:=(d+3*(0+k))% 26) J4 J4;have e2:=pN (j:=(d+3*(0+k'))% 26) J4 J4;have e3:=pN (j:=(e+(0+k)/ 26)% 26) J4 J4;have e4:=pN (j:=(e+(0+k')/ 26)% 26) J4 J4;simp only [Jb] at e1 e2 e3 e4;rw [h.1] at e1;rw [h.2] at e3;have f1:(d+3*k)% 26=(d+3*k')% 26:=J4
 have f2:(e+k / 26)% 26=(e+k' / 26)% 26:=J4
 clear e1 e2 e3 e4 h;omega
theorem Dh{x:Nat}{a r d e k:Int}(hx:x∈cA.cps.toList)(ha:0<=a)(hr:0<=r)(h8:a+r+2<=8):Nm (mE x a r d e k):=by
 refine Nm.of (l:=D6 a.toNat x++([dz ((d+3*(0+k))% 26)]++[dz ((e+(0+k)/ 26)% 26)])++D6 r.toNat x) ?_ ?_ ?_ λc hc=>?_
 ·unfold mE;simp only [q5,GO,ot ha,ot hr]
 ·simp;omega
 ·simp;omega
 ·simp only [Ei,HK,Et] at hc;rcases hc with(⟨_,h⟩ | h | h) | ⟨_,h⟩
  ·rw [h];exact hx
  ·rw [h];exact wc J4 J4
  ·rw [h];exact wc J4 J4
  ·rw [h];exact hx
theorem Di{x y:Nat}{i:Int}(hx:x∈cA.cps.toList)(hy:y∈cA.cps.toList)(h0:0<=i)(h7:i<=7):Nm (⟨#[y]⟩++F3 ⟨#[x]⟩ i):=by
 refine Nm.of (l:=y::D6 i.toNat x) (by rw [q5,GO,ot h0];rfl) Ka (by simp;omega) λc hc=>?_;rcases D3.mp hc with e | e
 ·rw [e];exact hy
 ·rw [(HK.mp e).2];exact hx
def kZ(x:Nat)(a r d e:Int)(i:Nat):List Str:=(EZ i).map λk:Nat=>mE x a r d e (k:Int)
theorem Dj{x:Nat}{a r d e:Int}{i:Nat}(hi:i<=50):(kZ x a r d e i).Nodup:=by
 unfold kZ;rw [JW,GA];refine JM (λ{k k'} hk hk' h z=>?_) Jn;rw [GW] at hk hk';have:=Dg J4 J4 J4 J4 z;exact h J4
theorem we{x:Nat}{a r d e:Int}{i:Nat}:kZ x a r d e (i+1)=kZ x a r d e i++[mE x a r d e i]:=by
 unfold kZ;rw [Ju,E3];rfl
theorem Dk(T:Txt K mg t):ay P w K mg base aK 1 t.a_K t.d_K ["_law_xs","_law_many"] (aX K C9):=by
 refine T.F_K.F.okD lW (λds Q h=>?_) (λ_ _ _ _ H O ds Q E hr h=>?_)
 ·obtain⟨a,b,c,d,e,r,m,rfl,_⟩:=h;rfl
 ·obtain⟨a,b,c,d,e,r,m,rfl,m0,m1,q⟩:=h;refine'⟨_,?A,?B⟩
  case A=>
   refine' ar ?C ?D
   case C=>exact(bh (i:=2) lW.nd rfl J7 bI)
   case' D=>refine' ar ?E ?F
   case E=>
    refine' bh (i:=3) lW.nd rfl J7 ?G (hs:=rn)
    case G=>exact(ax oI oY (dv 2) (ak ba aE (ax aL aM (dv 0) af) af))
   case' F=>refine' ar ?H ?I
   case H=>
    refine' bO ?J ?K bN
    case J=>exact(PW.pt (mU (bE nK mm (dv 1) af (bo _)) (mT (bE (eJ hr.units) eN (ak ba aE (ax aL aM (dv 0) af) af) af (bo _)))))
    case' K=>refine' aB ?L
    case' L=>refine' aR ?M
    case' M=>refine' fe ?N
    case N=>exact(uo rfl wa rfl T.n_range (bF (dv 1) bA) bq cR J3 (λ_ _ _ _=>(bp (i:=0) wa.nd rfl J7)) (λ_ _ _ _=>mv) (λ_ _ _ _=>(ak nL nY (ax oI oY (dv 1) (ak ba aE (ax aL aM (dv 3) af) af)) (ak rz rA (dv 2) (dv 0)))))
   case' I=>refine' ar ?O ?P
   case O=>
    refine' bO ?Q ?R bN
    case Q=>exact(PW.pt (mU (bE nK mm (dv 1) af (bo _)) (mT (bE (eJ hr.units) eN (ak ba aE (ax aL aM (dv 0) af) af) af (bo _)))))
    case' R=>refine' aB ?S
    case' S=>generalize hE15_0:J0 _ _=ee15_0
    exact(aR (fe (lP (df (fe (Al (ds:=[.str "coming",.str "paper",.str "kind",.str "first",.str "rule",.str "last",.str "hold",.str "end"]) (by first | (subst hE15_0;rfl))))) lr (lu (dv 1)))))
   case' P=>refine' ar ?T ?U
   case T=>
    refine' bh (i:=4) lW.nd rfl J7 ?V (hs:=dA)
    case V=>exact(ak cm bP af (ak ba aE (ak k9 aE (ax aL aM (dv 0) af) af) af))
   case' U=>refine' ar ?W ?X
   case W=>
    refine' bh (i:=5) lW.nd rfl J7 ?Y (hs:=dA)
    case Y=>exact(ak ba aE (ax aL aM (dv 0) af) (ak nJ bP (dv 4) af))
   case' X=>refine' ar ?Z ?a
   case Z=>exact(nU (i:=6) lW.nd rfl J7 (cf aj))
   case' a=>refine' ar ?b ?c
   case b=>
    refine' qV Ge rfl rfl T.n_range (ae (dv 1) aj) ?d bq ?e
    case d=>exact(bp (i:=7) lW.nd rfl J7)
    case' e=>refine' ar ?f ?g
    case f=>
     generalize hG27:IF _ _ _ _=eg27;refine' bh (i:=8) lW.nd rfl J7 ?h (hs:=by subst hG27;exact dA)
     case' h=>subst hG27
     exact(ak nL nY (ax oI oY (dv 2) (ak ba aE (ak cm bP (ax aL aM (dv 0) af) (ak lH aE af (dv 7))) af)) (ax oI oY (dv 2) (ak ba aE (ak cm bP (ax aL aM (dv 0) af) (ak k9 aE (dv 7) af)) af)))
    case' g=>refine' aB ?i
    case' i=>refine' nV (i:=6) (pv 6) ?j
    case j=>exact(ak nL nY (ak nL nY (ak rz rA (dv 3) (dv 5)) (dv 8)) (ak rz rA (dv 3) (ak nJ bP (ak nJ bP (dv 4) af) (dv 5))))
   case' c=>refine' aB ?k
   case k=>exact(oU (pv 6))
  case B=>
  clear hr T;simp only [bQ,bZ,cz,cg,cT,↓jH,↓jQ,↓jR,↓jS,↓jT,↓jU,↓jV,↓jI,↓fw,↓jg,↓kN,↓kO,↓kP,↓kT,↓kU,↓kW,↓jh,↓ji,↓jj,↓jk,↓jl,↓jm,↓jn,↓jo,↓jq,↓jr,↓jt,↓ju,↓jv,↓jw,↓jx,↓jy,↓jz,↓jA,↓jB,↓jC,↓jD,↓jE,↓jF,↓jG,dZ,d4,d8,d5,d7,d9,cX,cZ,ec,eu,gh,gs,dP,dC,bw,dI,eH,eL,eM,gC,eO,cy,fh,fc,gA,eQ,dL,cY,dR,fX,cV,cN,bW,dS,dU,dW,dX,fZ,dY,gb,gc,cP,gf,ip,iu,iv,iw,ix,iy,iz,iA,iB,iC,iD,iE,iF,iG,iH,iI,iJ,iK,iL,iM,iN,iO,iP,iQ,iR,iS,iT,iU,iV,iW,iX,iY,iZ,i1,i2,i3,i4,i5,i6,i7,i8,i9,ja,iq,eU,gB,gE,dn,gL,gH,eR,eT,eV,eX,eY,eZ,fb,di,gF,fi,gG,cH,gu,gy,gz,gi,gj,gm,gn,eD,eF,eG,gr,gS,fm,fq,ik,ft,ij,il,fk,gO,gQ,gR,cB,gU,gT,gM,gN,jb,jc,jd,je,fu,fv,jf,jK,jJ,jL,jM,jN,jO,jP,fx,jW,fB,fz,fA,fy,j2,jY,jZ,j0,j1,dB,fC,j4,j5,fE,fF,fG,fH,j6,fI,j7,j8,j9,fJ,kh,ki,kj,km,ko,kc,kq,kr,ku,ky,fN,fK,fL,fM,kz,kC,kD,kA,kG,kH,kI,kJ,kK,kL,kF,kM,gW,hU,hV,hW,hZ,ia,ib,ic,ie,ig,ne_eq,g6,g8,g9,hG,hJ,gX,gY,gZ,c8,cS,dh,eg,er,ek,eh,bT,bY,bj,cC,cM,ck,D9,EW,D4,EK,D6,EM,EJ,Er,Fp,Fq,FJ,FK,FL,Ew,Eg,EX,ER,ES,EY,exists_eq_left',exists_eq_left,exists_and_left,exists_and_right,E5,E6,Sl.v.injEq,Sl.o.injEq,Sl.k.injEq,EL,Fj,Fv,Fe,Fl,EG,and_true,true_and,FN,Fw,exists_const,decide_eq_true_eq,FO,FP,Fx,Fy,EH,decide_eq_false_iff_not,and_assoc,or_true,true_or,↓reduceIte,if_true,if_false,Eu,E2,not_true_eq_false,not_false_eq_true,FU,Fz,ite_true,ite_false,eq_self,exists_eq,reduceCtorEq,false_and,and_false,or_false,false_or,exists_false,FC,FD,cE,F1,Gb,FV,Gd,F2,Fm,FT,FQ,bQ,bZ,cz,cg,cT,cI,dj,fj,beq_self_eq_true,gI,gJ,gK,bt,Kv];obtain⟨x,e1,xm,x1⟩:=o4 (j:=a % 26) J4 J4
  refine⟨td,x,e1,?_⟩;refine Dc (λhm=>?_) (λhm=>?_) ?_
  ·refine⟨J4,by have:(16777216:Nat)=(16777216:Int):=rfl;omega,?_⟩;refine⟨λi acc=>∃ys:List Str,acc=ys.map .str/\ys.length=i/\(∀y∈ys,Nm y)/\(∀y∈ys,y.length<=i)/\ys.Nodup,⟨[],rfl,rfl,Ka,Ka,Ka⟩,?_,?_⟩
   ·rintro i z acc hz ⟨ys,rfl,hl,hg,hs,hnd⟩;obtain⟨hi,rfl⟩:=m3 hz;simp only [bQ,bZ,cz,cg,cT,↓jH,↓jQ,↓jR,↓jS,↓jT,↓jU,↓jV,↓jI,↓fw,↓jg,↓kN,↓kO,↓kP,↓kT,↓kU,↓kW,↓jh,↓ji,↓jj,↓jk,↓jl,↓jm,↓jn,↓jo,↓jq,↓jr,↓jt,↓ju,↓jv,↓jw,↓jx,↓jy,↓jz,↓jA,↓jB,↓jC,↓jD,↓jE,↓jF,↓jG,dZ,d4,d8,d5,d7,d9,cX,cZ,ec,eu,gh,gs,dP,dC,bw,dI,eH,eL,eM,gC,eO,cy,fh,fc,gA,eQ,dL,cY,dR,fX,cV,cN,bW,dS,dU,dW,dX,fZ,dY,gb,gc,cP,gf,ip,iu,iv,iw,ix,iy,iz,iA,iB,iC,iD,iE,iF,iG,iH,iI,iJ,iK,iL,iM,iN,iO,iP,iQ,iR,iS,iT,iU,iV,iW,iX,iY,iZ,i1,i2,i3,i4,i5,i6,i7,i8,i9,ja,iq,eU,gB,gE,dn,gL,gH,eR,eT,eV,eX,eY,eZ,fb,di,gF,fi,gG,cH,gu,gy,gz,gi,gj,gm,gn,eD,eF,eG,gr,gS,fm,fq,ik,ft,ij,il,fk,gO,gQ,gR,cB,gU,gT,gM,gN,jb,jc,jd,je,fu,fv,jf,jK,jJ,jL,jM,jN,jO,jP,fx,jW,fB,fz,fA,fy,j2,jY,jZ,j0,j1,dB,fC,j4,j5,fE,fF,fG,fH,j6,fI,j7,j8,j9,fJ,kh,ki,kj,km,ko,kc,kq,kr,ku,ky,fN,fK,fL,fM,kz,kC,kD,kA,kG,kH,kI,kJ,kK,kL,kF,kM,gW,hU,hV,hW,hZ,ia,ib,ic,ie,ig,ne_eq,g6,g8,g9,hG,hJ,gX,gY,gZ,c8,cS,dh,eg,er,ek,eh,bT,bY,bj,cC,cM,ck,D9,EW,D4,EK,D6,EM,EJ,Er,Fp,Fq,FJ,FK,FL,Ew,Eg,EX,ER,ES,EY,exists_eq_left',exists_eq_left,exists_and_left,exists_and_right,E5,E6,Sl.v.injEq,Sl.o.injEq,Sl.k.injEq,EL,Fj,Fv,Fe,Fl,EG,and_true,true_and,FN,Fw,exists_const,decide_eq_true_eq,FO,FP,Fx,Fy,EH,decide_eq_false_iff_not,and_assoc,or_true,true_or,↓reduceIte,if_true,if_false,Eu,E2,not_true_eq_false,not_false_eq_true,FU,Fz,ite_true,ite_false,eq_self,exists_eq,reduceCtorEq,false_and,and_false,or_false,false_or,exists_false,FC,FD,cE,F1,Gb,FV,Gd,F2,Fm,FT,FQ,bQ,bZ,cz,cg,cT,cI,dj,fj,beq_self_eq_true,gI,gJ,gK,bt,Kv]
    obtain⟨y,g1,ym,y1⟩:=o4 (j:=c % 26) J4 J4;obtain⟨mo,mg⟩:=mul_one x1 (n:=0+(i:Int)) J4 J4;have ml:=mg.le;have lc:(⟨#[y]⟩:Str).length=1:=rfl;have lm:m.toNat < 9:=J4
    refine⟨td,y,g1,mo,by rw [lc];omega,ys++[⟨#[y]⟩++F3 ⟨#[x]⟩ (0+(i:Int))],by rw [E3];rfl,by simp [hl],λz hz=>?_,λz hz=>?_,?_⟩
    ·rcases Ei.mp hz with h | h
     ·exact hg z h
     ·rw [Et] at h;rw [h];exact Di (Ef xm) (Ef ym) J4 J4
    ·rcases Ei.mp hz with h | h
     ·exact Nat.le_succ_of_le (hs z h)
     ·rw [Et] at h;rw [h,m4,lc,wb J4];omega
    ·rw [Ji];refine⟨hnd,Ka,λa ha b hb e=>?_⟩;rw [Et] at hb;have l1:=hs a ha;rw [e,hb,m4,lc,wb J4] at l1;omega
   ·rintro acc ⟨ys,rfl,hl,hg,hs,hnd⟩;rw [o3] at hl;exact q ys J4 hg hnd
  ·obtain⟨k,rfl⟩:=Fb m0;rw [mx J4 (by simp;omega)];rw [show ∀l:List Kb,l.take ((k:Int)).toNat=l.take k from λl=>by simp];have ew:=(Hw (f:=DW) (l:=nu) (i:=k)).symm;refine Eq.mp (congrArg (λz=>Q (Fs z)) ew.symm) ?_;refine q (nu.take k) ?_ (λz hz=>Dd z (G7 hz)) (Df.sublist (HR _ _));rw [F4,show nu.length=8 from rfl];omega
  ·refine⟨J4,J4,J4,?_⟩;generalize hsz:2+b / 4 % 7=sz;have s0:2<=sz:=J4
   have s1:sz<=8:=J4
   generalize hat:c % (sz - 1)=at0;have a0:0<=at0:=by rw [<-hat];exact GV _ J4
   have a1:at0 < sz - 1:=by rw [<-hat];exact Gs _ J4
   obtain⟨mo,gg⟩:=mul_one x1 a0 J4;obtain⟨mo2,gg2⟩:=mul_one x1 (n:=sz - 2 - at0) J4 J4;clear hsz hat;refine⟨λi δ=>∃(o7 o8:Option Sl),(∀z∈kZ x at0 (sz - 2 - at0) d e i,Nm z)/\δ=[some (Sl.v (Fs (DY a::DY b::DY c::DY d::DY e::r))),
    some (Sl.v (DY m)),some (Sl.v (DW (DM "abcdefghijklmnopqrstuvwxyz"))),some (Sl.v (DW {cps:=#[x]})),some (Sl.v (DY sz)),
    some (Sl.v (DY at0)),some (Sl.o ((kZ x at0 (sz - 2 - at0) d e i).map .str)),o7,o8],⟨_,_,by simp [kZ],rfl⟩,?_,?_⟩
   ·rintro i z δ hz ⟨o7,o8,hg,rfl⟩;obtain⟨hi,rfl⟩:=m3 hz;simp only [bQ,bZ,cz,cg,cT,↓jH,↓jQ,↓jR,↓jS,↓jT,↓jU,↓jV,↓jI,↓fw,↓jg,↓kN,↓kO,↓kP,↓kT,↓kU,↓kW,↓jh,↓ji,↓jj,↓jk,↓jl,↓jm,↓jn,↓jo,↓jq,↓jr,↓jt,↓ju,↓jv,↓jw,↓jx,↓jy,↓jz,↓jA,↓jB,↓jC,↓jD,↓jE,↓jF,↓jG,dZ,d4,d8,d5,d7,d9,cX,cZ,ec,eu,gh,gs,dP,dC,bw,dI,eH,eL,eM,gC,eO,cy,fh,fc,gA,eQ,dL,cY,dR,fX,cV,cN,bW,dS,dU,dW,dX,fZ,dY,gb,gc,cP,gf,ip,iu,iv,iw,ix,iy,iz,iA,iB,iC,iD,iE,iF,iG,iH,iI,iJ,iK,iL,iM,iN,iO,iP,iQ,iR,iS,iT,iU,iV,iW,iX,iY,iZ,i1,i2,i3,i4,i5,i6,i7,i8,i9,ja,iq,eU,gB,gE,dn,gL,gH,eR,eT,eV,eX,eY,eZ,fb,di,gF,fi,gG,cH,gu,gy,gz,gi,gj,gm,gn,eD,eF,eG,gr,gS,fm,fq,ik,ft,ij,il,fk,gO,gQ,gR,cB,gU,gT,gM,gN,jb,jc,jd,je,fu,fv,jf,jK,jJ,jL,jM,jN,jO,jP,fx,jW,fB,fz,fA,fy,j2,jY,jZ,j0,j1,dB,fC,j4,j5,fE,fF,fG,fH,j6,fI,j7,j8,j9,fJ,kh,ki,kj,km,ko,kc,kq,kr,ku,ky,fN,fK,fL,fM,kz,kC,kD,kA,kG,kH,kI,kJ,kK,kL,kF,kM,gW,hU,hV,hW,hZ,ia,ib,ic,ie,ig,ne_eq,g6,g8,g9,hG,hJ,gX,gY,gZ,c8,cS,dh,eg,er,ek,eh,bT,bY,bj,cC,cM,ck,D9,EW,D4,EK,D6,EM,EJ,Er,Fp,Fq,FJ,FK,FL,Ew,Eg,EX,ER,ES,EY,exists_eq_left',exists_eq_left,exists_and_left,exists_and_right,E5,E6,Sl.v.injEq,Sl.o.injEq,Sl.k.injEq,EL,Fj,Fv,Fe,Fl,EG,and_true,true_and,FN,Fw,exists_const,decide_eq_true_eq,FO,FP,Fx,Fy,EH,decide_eq_false_iff_not,and_assoc,or_true,true_or,↓reduceIte,if_true,if_false,Eu,E2,not_true_eq_false,not_false_eq_true,FU,Fz,ite_true,ite_false,eq_self,exists_eq,reduceCtorEq,false_and,and_false,or_false,false_or,exists_false,FC,FD,cE,F1,Gb,FV,Gd,F2,Fm,FT,FQ,bQ,bZ,cz,cg,cT,cI,dj,fj,beq_self_eq_true,gI,gJ,gK,bt,Kv]
    obtain⟨g1,y1⟩:=ux (j:=(d+3*(0+(i:Int)))% 26) J4 J4;obtain⟨g2,v1⟩:=ux (j:=(e+(0+(i:Int))/ 26)% 26) J4 J4;have ly:∀y:Nat,(⟨#[y]⟩:Str).length=1:=λ_=>rfl;have l1:=gg.le;have l2:=gg2.le;refine⟨td,_,g1,td,_,g2,by rw [ly,ly];decide,mo,by rw [m4,ly,ly];omega,mo2,by rw [m4,m4,ly,ly];omega,by rw [DP,kZ,DP,Gz];omega,λz hz=>?_,by rw [we,E3];rfl,_,rfl⟩;rw [we] at hz;rcases Ei.mp hz with h | h
    ·exact hg z h
    ·rw [Et] at h;rw [h];exact Dh (Ef xm) a0 J4 J4
   ·rintro δ ⟨o7,o8,hg,rfl⟩;walk_at "a";rw [o3] at hg⊢;exact q _ (by rw [kZ,DP,Gz];omega) hg (Dj J4)
end
theorem wg:aQ (av pB) ["_law_script","_law_names_here","_law_kinds","_law_many","_law_far","_law_some","_law_k","_law_xs","_law_told"] ["_law_j","_law_names_here","_law_xs"] 1 [1,7] ⟨Ee,[ (DQ ".0",LK),(DQ "_law_j",LK),(DQ "len",Fh),(DQ "_law_names_here",Ek),(DQ "_law_xs",Ek)],false,false,[]⟩:= .of
section
variable {P:Kp} {w:Kq} {K:DL} {mg:Str->Option Kc} {base:Km} {t:lE}
def nv(ss:List Str):Prop:=∀z∈ss,Nm z
theorem ny{ss:List Str}{i:Int}(h:nv ss)(h0:0<=i)(h1:i < ss.length):∃s∈ss,atI (ss.map DW) i=some (.str s)/\Nm s:=by
 obtain⟨k,rfl⟩:=Fb h0;have hk:k < ss.length:=J4
 exact⟨ss[k],FH hk,fW (by simp [hk]),h _ (FH hk)⟩
def wj:List Kb->(Kb->Prop)->Prop:=λds Q=>∃(x:Int)(far:Bool),ds=[.int x,.bool far]/\0<=x/\∀d:Int,Q (.int d)
theorem wk(T:Txt K mg t):ay P w K mg base aK 1 t.a_L t.d_L ["_law_x","_law_far"] (aX K wj):=by
 refine T.F_L.F.okD Cu (λds Q h=>?_) (λ_ _ _ _ H O ds Q E hr h=>?_)
 ·obtain⟨x,far,rfl,_⟩:=h;rfl
 ·obtain⟨x,far,rfl,x0,q⟩:=h;refine'⟨_,?A,?B⟩
  case A=>
   refine' aB ?C
   case' C=>generalize hG2:JB _ _ _=eg2
   refine' aR ?D
   case' D=>subst hG2
   refine' lx aL aM (df ?E) ?F
   case E=>
    refine' fe ?G
    case' G=>refine' cf ?H
    case' H=>refine' ae ?I ?J
    case I=>exact(ak ba aE (dv 0) af)
    case' J=>refine' ae ?K aj
    case K=>exact(ak ba aE (ax aL aM (fe (cf (ae (dv 0) (ae (ak nJ bP af (ak ba aE (dv 0) af)) aj)))) (ak k9 aE (ak ba aE (dv 0) af) af)) af)
   case F=>exact(df (PE.imp (dJ qr rfl T.n_int nR (bF (dv 1) bA)) (bS qY)))
  case B=>
  clear hr T;walk_at "a";have h1:∃i:Int,atI [DY x,DY (99999 - x % 3)] (x % 4 / 3)=some (.int i):=by
   have:x % 4 / 3=0\/x % 4 / 3=1:=J4
   rcases this with h | h <;> rw [h] <;> exact⟨_,rfl⟩
  obtain⟨i,e1⟩:=h1;refine⟨_,e1,i,rfl,?_⟩;split
  ·exact⟨_,bZ,q _⟩
  ·exact⟨_,bQ,q _⟩
theorem pO{ns:List Int}{k:Int}{Q:Kb->Prop}:v7 [cb (ns.map .int),.int k] Q↔(0<=k/\k<=1000/\∀c:Int,Q (.int c)):=by
 constructor
 ·rintro⟨ns',k',e,a,b,q⟩;simp only [EG,EL,and_true] at e;rw [e.2];exact⟨a,b,q⟩
 ·rintro⟨a,b,q⟩;exact⟨ns,k,rfl,a,b,q⟩
theorem pP{c m:Int}{Q:Kb->Prop}:v9 [.int c,.int m] Q↔(0<=m/\m<=64/\∀ns:List Int,(ns.length:Int)=m->(∀z∈ns,0<=z/\z < 2000000000)->Q (.list (ns.map .int))):=by
 constructor
 ·rintro⟨c',m',e,a,b,q⟩;simp only [EG,EL,and_true] at e;obtain⟨rfl,rfl⟩:=e;exact⟨a,b,q⟩
 ·rintro⟨a,b,q⟩;exact⟨c,m,rfl,a,b,q⟩
theorem Dm{ns:List Int}(h:(ns.length:Int)=9):∃a0 a1 a2 a3 a4 a5 a6 a7 a8,ns=[a0,a1,a2,a3,a4,a5,a6,a7,a8]:=by
 match ns,(show ns.length=9 by omega) with
 | [a0,a1,a2,a3,a4,a5,a6,a7,a8],_=>exact⟨_,_,_,_,_,_,_,_,_,rfl⟩
theorem Dp{ns:List Int}(h:(ns.length:Int)=4):∃a0 a1 a2 a3,ns=[a0,a1,a2,a3]:=by
 match ns,(show ns.length=4 by omega) with
 | [a0,a1,a2,a3],_=>exact⟨_,_,_,_,rfl⟩
theorem Dq{ns:List Int}(h:(ns.length:Int)=12):∃a0 a1 a2 a3 a4 a5 a6 a7 a8 a9 a10 a11,ns=[a0,a1,a2,a3,a4,a5,a6,a7,a8,a9,a10,a11]:=by
 match ns,(show ns.length=12 by omega) with
 | [a0,a1,a2,a3,a4,a5,a6,a7,a8,a9,a10,a11],_=>exact⟨_,_,_,_,_,_,_,_,_,_,_,_,rfl⟩
theorem wm{x:Int}{far:Bool}{Q:Kb->Prop}:wj [.int x,.bool far] Q↔(0<=x/\∀d:Int,Q (.int d)):=by
 constructor
 ·rintro⟨x',far',e,a,q⟩;simp only [EG,EL,and_true] at e;rw [e.1];exact⟨a,q⟩
 ·rintro⟨a,q⟩;exact⟨x,far,rfl,a,q⟩
theorem wq{ns:List Str}{lo hi:Option Int}:∃ss:List Str,aS (ns.map .str) lo hi=ss.map .str/\(∀z∈ss,z∈ns)/\ss.length<=ns.length:=by
 unfold aS;refine⟨(ns.drop (HT.sIx (ns.map DW).length 0 lo)).take (HT.sIx (ns.map DW).length (ns.map DW).length hi - HT.sIx (ns.map DW).length 0 lo),by rw [Hw,JH],λz hz=>HC (G7 hz),?_⟩;rw [F4,G5];omega
def Dr:List Kb->(Kb->Prop)->Prop:=λds Q=>∃(cs:List Int)(ns ks:List Str)(m:Int)(far:Bool),ds=[cb (cs.map .int),.list (ns.map .str),.list (ks.map .str),.int m,.bool far]/\nv ns/\(ns.length:Int)=m+2/\nv ks/\ks.length=3/\0<=m/\m<=40/\
 ∀ps:List Pp,ps.map (·.nm)=ns.take m.toNat->(∀p∈ps,Ed p.kd=true/\(∀z∈p.ms,Ed z=true)/\p.ms.length<=50)->Q (.list (ps.map Pp.enc))
theorem Ds(T:Txt K mg t):ay P w K mg base aK 2 t.a_M t.d_M ["_law_script","_law_names_here","_law_kinds","_law_many","_law_far"] (aX K Dr):=by
 have G_I:=@sM P w _ _ base _ T;have G_J:=@sN P w _ _ base _ T;have G_L:=@wk P w _ _ base _ T;refine T.F_M.F.okD nk (λds Q h=>?_) (λ_ _ _ _ H O ds Q E hr h=>?_)
 ·obtain⟨cs,ns,ks,m,far,rfl,_⟩:=h;rfl
 ·obtain⟨cs,ns,ks,m,far,rfl,nn,nl,kn,kl,m0,m1,q⟩:=h;refine'⟨_,?A,?B⟩
  case A=>
   refine' ar ?C ?D
   case C=>exact(nU (i:=5) nk.nd rfl J7 (cf aj))
   case' D=>refine' ar ?E ?F
   case E=>
    refine' qV Ge rfl rfl T.n_range (ae (dv 3) aj) ?G bq ?H
    case G=>exact(bp (i:=6) nk.nd rfl J7)
    case' H=>refine' ar ?I ?J
    case I=>
     refine' bh (i:=7) nk.nd rfl J7 ?K (hs:=pf)
     case K=>exact(aT G_J hr T.F_J (ae (aT G_I hr T.F_I (ae (dv 0) (ae (ak cm bP af (dv 6)) aj))) (ae af aj)))
    case' J=>refine' ar ?L ?M
    case L=>exact(BX (i:=8) nk.nd rfl J7 (Ap rfl wg rfl T.n_range (bF (ak ba aE (ax aL aM (dv 7) af) af) bA) bq cR J3 (λ_ _ _ _=>(bp (i:=0) wg.nd rfl J7)) (λ_ _ _ _=>mv) (λ_ _ _ _=>(ax aL aM (dv 1) (ak ba aE (ax aL aM (dv 2) (ak cm bP af (dv 0))) (PE.imp (cu mQ rfl T.n_len G1 (bF (dv 1) bA)) (bS nX)))))))
    case' M=>refine' ar ?N ?O
    case N=>
     refine' bO ?P ?Q bN
     case P=>exact(bE (eJ hr.units) eN (ak ba aE (ak k9 aE (ax aL aM (dv 7) af) af) af) af (bo _))
     case' Q=>refine' aB ?R
     case' R=>refine' nV (i:=8) (pv 8) ?S
     case' S=>refine' lx aL aM (df (dv 1)) ?T
     case T=>exact(df (PE.imp (cu (xq rfl) rfl T.n_max JT (bF af (bF (ak nJ bP (dv 6) af) bA))) (bS Ad)))
    case' O=>refine' ar ?U ?V
    case U=>
     refine' nU (i:=8) nk.nd rfl J7 ?W (hs:=rn)
     case W=>exact(lP (df (fe (Bp rfl rfl T.n_sorted Hi rfl T.n_set (qR (dw 8) bA)))) lr (lu af))
    case' V=>refine' aB ?X
    case' X=>refine' nV (i:=5) (pv 5) ?Y
    case' Y=>refine' cx ?Z
    case' Z=>refine' ae bI ?a
    case' a=>refine' ae ?b ?c
    case b=>exact(aT G_L hr T.F_L (ae (ax aL aM (dv 7) af) (ae (dv 4) aj)))
    case' c=>refine' ae ?d ?e
    case d=>exact(ax aL aM (dv 1) (dv 6))
    case' e=>refine' ae ?f ?g
    case f=>
     refine' lx aL aM (df (dv 2)) ?h
     case h=>exact(df (ak ba aE (ax aL aM (dv 7) af) af))
    case' g=>refine' ae ?i aj
    case i=>exact(PE.imp (dJ ma rfl T.n_tuple lh (qR (dw 8) bA)) (bS mr))
   case' F=>refine' aB ?j
   case j=>exact(oU (pv 5))
  case B=>
  clear hr T G_I G_J G_L;walk_at "a";refine⟨J4,J4,?_⟩;refine⟨λi δ=>∃(ps:List Pp)(o6 o7 o8:Option Sl),ps.map (·.nm)=ns.take i/\(∀p∈ps,Ed p.kd=true/\(∀z∈p.ms,Ed z=true)/\p.ms.length<=50)/\δ=[some (Sl.v (cb (cs.map .int))),some (Sl.v (.list (ns.map .str))),some (Sl.v (.list (ks.map .str))),some (Sl.v (.int m)),some (Sl.v (.bool far)),some (Sl.o (ps.map Pp.enc)),o6,o7,o8],⟨[],_,_,_,rfl,Ka,rfl⟩,?_,?_⟩
  ·rintro i z δ hz ⟨ps,o6,o7,o8,hn,hg,rfl⟩;obtain⟨hi,rfl⟩:=m3 hz;have hpl:ps.length=i:=by
    have:=congrArg Io hn;rw [DP,F4] at this;omega
   simp only [pO,pP,↓jH,↓jQ,↓jR,↓jS,↓jT,↓jU,↓jV,↓jI,↓fw,↓jg,↓kN,↓kO,↓kP,↓kT,↓kU,↓kW,↓jh,↓ji,↓jj,↓jk,↓jl,↓jm,↓jn,↓jo,↓jq,↓jr,↓jt,↓ju,↓jv,↓jw,↓jx,↓jy,↓jz,↓jA,↓jB,↓jC,↓jD,↓jE,↓jF,↓jG,dZ,d4,d8,d5,d7,d9,cX,cZ,ec,eu,gh,gs,dP,dC,bw,dI,eH,eL,eM,gC,eO,cy,fh,fc,gA,eQ,dL,cY,dR,fX,cV,cN,bW,dS,dU,dW,dX,fZ,dY,gb,gc,cP,gf,ip,iu,iv,iw,ix,iy,iz,iA,iB,iC,iD,iE,iF,iG,iH,iI,iJ,iK,iL,iM,iN,iO,iP,iQ,iR,iS,iT,iU,iV,iW,iX,iY,iZ,i1,i2,i3,i4,i5,i6,i7,i8,i9,ja,iq,eU,gB,gE,dn,gL,gH,eR,eT,eV,eX,eY,eZ,fb,di,gF,fi,gG,cH,gu,gy,gz,gi,gj,gm,gn,eD,eF,eG,gr,gS,fm,fq,ik,ft,ij,il,fk,gO,gQ,gR,cB,gU,gT,gM,gN,jb,jc,jd,je,fu,fv,jf,jK,jJ,jL,jM,jN,jO,jP,fx,jW,fB,fz,fA,fy,j2,jY,jZ,j0,j1,dB,fC,j4,j5,fE,fF,fG,fH,j6,fI,j7,j8,j9,fJ,kh,ki,kj,km,ko,kc,kq,kr,ku,ky,fN,fK,fL,fM,kz,kC,kD,kA,kG,kH,kI,kJ,kK,kL,kF,kM,gW,hU,hV,hW,hZ,ia,ib,ic,ie,ig,ne_eq,g6,g8,g9,hG,hJ,gX,gY,gZ,c8,cS,dh,eg,er,ek,eh,bT,bY,bj,cC,cM,ck,D9,EW,D4,EK,D6,EM,EJ,Er,Fp,Fq,FJ,FK,FL,Ew,Eg,EX,ER,ES,EY,exists_eq_left',exists_eq_left,exists_and_left,exists_and_right,E5,E6,Sl.v.injEq,Sl.o.injEq,Sl.k.injEq,EL,Fj,Fv,Fe,Fl,EG,and_true,true_and,FN,Fw,exists_const,decide_eq_true_eq,FO,FP,Fx,Fy,EH,decide_eq_false_iff_not,and_assoc,or_true,true_or,↓reduceIte,if_true,if_false,Eu,E2,not_true_eq_false,not_false_eq_true,FU,Fz,ite_true,ite_false,eq_self,exists_eq,reduceCtorEq,false_and,and_false,or_false,false_or,exists_false,FC,FD,cE,F1,Gb,FV,Gd,F2,Fm,FT,FQ,bQ,bZ,cz,cg,cT,cI,dj,fj,beq_self_eq_true,gI,gJ,gK,bt,Kv];refine⟨J4,J4,λc1 ys yl yn=>?_⟩;obtain⟨y0,y1,y2,y3,y4,y5,y6,y7,y8,rfl⟩:=Dm yl
   clear yl hz;simp only [wm,true_and,↓jH,↓jQ,↓jR,↓jS,↓jT,↓jU,↓jV,↓jI,↓fw,↓jg,↓kN,↓kO,↓kP,↓kT,↓kU,↓kW,↓jh,↓ji,↓jj,↓jk,↓jl,↓jm,↓jn,↓jo,↓jq,↓jr,↓jt,↓ju,↓jv,↓jw,↓jx,↓jy,↓jz,↓jA,↓jB,↓jC,↓jD,↓jE,↓jF,↓jG,dZ,d4,d8,d5,d7,d9,cX,cZ,ec,eu,gh,gs,dP,dC,bw,dI,eH,eL,eM,gC,eO,cy,fh,fc,gA,eQ,dL,cY,dR,fX,cV,cN,bW,dS,dU,dW,dX,fZ,dY,gb,gc,cP,gf,ip,iu,iv,iw,ix,iy,iz,iA,iB,iC,iD,iE,iF,iG,iH,iI,iJ,iK,iL,iM,iN,iO,iP,iQ,iR,iS,iT,iU,iV,iW,iX,iY,iZ,i1,i2,i3,i4,i5,i6,i7,i8,i9,ja,iq,eU,gB,gE,dn,gL,gH,eR,eT,eV,eX,eY,eZ,fb,di,gF,fi,gG,cH,gu,gy,gz,gi,gj,gm,gn,eD,eF,eG,gr,gS,fm,fq,ik,ft,ij,il,fk,gO,gQ,gR,cB,gU,gT,gM,gN,jb,jc,jd,je,fu,fv,jf,jK,jJ,jL,jM,jN,jO,jP,fx,jW,fB,fz,fA,fy,j2,jY,jZ,j0,j1,dB,fC,j4,j5,fE,fF,fG,fH,j6,fI,j7,j8,j9,fJ,kh,ki,kj,km,ko,kc,kq,kr,ku,ky,fN,fK,fL,fM,kz,kC,kD,kA,kG,kH,kI,kJ,kK,kL,kF,kM,gW,hU,hV,hW,hZ,ia,ib,ic,ie,ig,ne_eq,g6,g8,g9,hG,hJ,gX,gY,gZ,c8,cS,dh,eg,er,ek,eh,bT,bY,bj,cC,cM,ck,D9,EW,D4,EK,D6,EM,EJ,Er,Fp,Fq,FJ,FK,FL,Ew,Eg,EX,ER,ES,EY,exists_eq_left',exists_eq_left,exists_and_left,exists_and_right,E5,E6,Sl.v.injEq,Sl.o.injEq,Sl.k.injEq,EL,Fj,Fv,Fe,Fl,EG,and_true,true_and,FN,Fw,exists_const,decide_eq_true_eq,FO,FP,Fx,Fy,EH,decide_eq_false_iff_not,and_assoc,or_true,true_or,↓reduceIte,if_true,if_false,Eu,E2,not_true_eq_false,not_false_eq_true,FU,Fz,ite_true,ite_false,eq_self,exists_eq,reduceCtorEq,false_and,and_false,or_false,false_or,exists_false,FC,FD,cE,F1,Gb,FV,Gd,F2,Fm,FT,FQ,bQ,bZ,cz,cg,cT,cI,dj,fj,beq_self_eq_true,gI,gJ,gK,bt,Kv];have nl':(ns.length:Int)<=42:=J4
   have fin:∀(ts:List Str)(d:Int),(∀z∈ts,z∈ns)->ts.length<=6->∃x,atI (E4 DW ns) (0+(i:Int))=some x/\∃x_1,atI (E4 DW ks) (y1 % 3)=some x_1/\(E4 Pp.enc ps).length < 16777216/\∃ps_1:List Pp,E4 (λx=>x.nm) ps_1=List.take (i+1) ns/\(∀p∈ps_1,Ed p.kd=true/\(∀z∈p.ms,Ed z=true)/\p.ms.length<=50)/\E4 Pp.enc ps++[Em [DW (DM "paper"),DY d,x,x_1,Em (aS (E4 DW (cJ (JX bL [] ts))) none (some 4))]]=E4 Pp.enc ps_1/\∃x,some (Sl.o (aS (E4 DW (cJ (JX bL [] ts))) none (some 4)))=x:=λts d ht hl=>by
    have his:i < ns.length:=J4
    have e3:atI (ns.map DW) (0+(i:Int))=some (.str ns[i]):=by
     rw [Jb];exact fW (by rw [D7,D1 his];rfl)
    obtain⟨kd,_,e4,gk⟩:=ny kn (i:=y1 % 3) J4 J4;obtain⟨ms,em,hms,lms⟩:=wq (ns:=cJ (ts.foldl bL [])) (lo:=none) (hi:=some 4);have l1:=rD ts [];rw [(rj _).length_eq] at lms;refine⟨_,e3,_,e4,by rw [DP];omega,ps++[⟨d,ns[i],kd,ms⟩],?_,λp hp=>?_,?_,_,rfl⟩
    ·rw [E3,hn,GH,D1 his];rfl
    ·rcases Ei.mp hp with h | h
     ·exact hg p h
     ·rw [Et] at h;rw [h];refine⟨gk.ok,λz hz=>?_,?_⟩
      ·have:=(rj _).mem_iff.mp (hms z hz);rw [uR] at this;rcases this with h | h
       ·cases h
       ·exact(nn z (ht z h)).ok
      ·simp only [EK] at l1;show ms.length<=50;omega
    ·rw [em,E3];rfl
   refine⟨J4,J4,λk acc=>∃ts:List Str,acc=ts.map .str/\ts.length=k/\∀z∈ts,z∈ns,⟨[],rfl,rfl,Ka⟩,?_,?_⟩
   ·rintro k z acc hk ⟨ts,rfl,tl,tn⟩;obtain⟨hk,rfl⟩:=m3 hk;walk_at "a";have hk5:k < 5:=J4
    have hy:∃y:Int,atI [DY y0,DY y1,DY y2,DY y3,DY y4,DY y5,DY y6,DY y7,DY y8] (3+(0+(k:Int)))=some (.int y):=by
     have:k=0\/k=1\/k=2\/k=3\/k=4:=J4
     rcases this with h | h | h | h | h <;> subst h <;> exact⟨_,rfl⟩
    obtain⟨y,ey⟩:=hy;have l0:0 < (ns.length:Int):=J4
    obtain⟨z,hz,ez,_⟩:=ny nn (i:=y % (ns.length:Int)) (GV _ J4) (Gs _ l0);refine⟨_,ey,y,rfl,by rw [DP];omega,_,by rw [DP];exact ez,ts++[z],by rw [E3];rfl,by simp [tl],λz' hz'=>?_⟩;rcases Ei.mp hz' with h | h
    ·exact tn z' h
    ·rw [Et.mp h];exact hz
   ·rintro acc ⟨ts,rfl,tl,tn⟩;rw [o3] at tl;split
    ·obtain⟨z,hz,ez,_⟩:=ny nn (i:=if 0+(i:Int) - 1 > 0 then 0+(i:Int) - 1 else 0) (by split <;> omega) (by split <;> omega);refine⟨_,ez,by rw [DP];omega,ts++[z],by rw [E3];rfl,by simp;omega,(yn y0 Ka).1,λd=>fin _ d (λz' hz'=>?_) (by simp;omega)⟩;rcases Ei.mp hz' with h | h
     ·exact tn z' h
     ·rw [Et.mp h];exact hz
    ·exact⟨ts,rfl,J4,(yn y0 Ka).1,λd=>fin _ d tn J4⟩
  ·rintro δ ⟨ps,o6,o7,o8,hn,hg,rfl⟩;walk_at "a";rw [o3] at hn;exact q ps hn hg
def Du:List Kb->(Kb->Prop)->Prop:=λds Q=>∃(cs:List Int)(ns ks:List Str)(far:Bool),ds=[cb (cs.map .int),.list (ns.map .str),.list (ks.map .str),.bool far]/\nv ns/\ns.length<=50/\nv ks/\ks.length=3/\
 ∀os:List De,(∀x∈os,x.pp=none/\x.w≠DM "paper"/\Ed x.w=true/\Ed x.nm=true)->os.length<=6->Q (.list (os.map De.enc))
theorem Dv(T:Txt K mg t):ay P w K mg base aK 2 t.a_N t.d_N ["_law_script","_law_names_here","_law_kinds","_law_far"] (aX K Du):=by
 have G_I:=@sM P w _ _ base _ T;have G_J:=@sN P w _ _ base _ T;have G_L:=@wk P w _ _ base _ T;refine T.F_N.F.okD lX (λds Q h=>?_) (λ_ _ _ _ H O ds Q E hr h=>?_)
 ·obtain⟨cs,ns,ks,far,rfl,_⟩:=h;rfl
 ·obtain⟨cs,ns,ks,far,rfl,nn,nl,kn,kl,q⟩:=h;refine'⟨_,?A,?B⟩
  case A=>
   refine' ar ?C ?D
   case C=>exact(nU (i:=4) lX.nd rfl J7 (cf aj))
   case' D=>refine' ar ?E ?F
   case E=>
    refine' BW Ge rfl rfl T.n_enumerate (ae (fe (lP (df (dv 1)) (lu (AK af)) lr)) aj) ?G (qT (mX bq (mX bq qS))) ?H
    case G=>exact(qa (n:=2) rfl (mK (bp (i:=5) lX.nd rfl J7) (mK (bp (i:=6) lX.nd rfl J7) p9)))
    case' H=>refine' ar ?I ?J
    case I=>
     refine' bh (i:=7) lX.nd rfl J7 ?K (hs:=pf)
     case K=>exact(aT G_J hr T.F_J (ae (aT G_I hr T.F_I (ae (dv 0) (ae (ak cm bP af (dv 5)) aj))) (ae af aj)))
    case' J=>refine' ar ?L ?M
    case L=>exact(bh (i:=8) lX.nd rfl J7 (aT G_L hr T.F_L (ae (ax aL aM (dv 7) af) (ae (dv 3) aj))))
    case' M=>refine' ar ?N ?O
    case N=>
     generalize hG11:J0 _ _=eg11;refine' bh (i:=9) lX.nd rfl J7 ?P (hs:=by subst hG11;exact AU)
     case' P=>subst hG11
     refine' fe ?Q
     case' Q=>refine' cf ?R
     case' R=>refine' ae ?S ?T
     case S=>
      refine' cx ?U
      case' U=>refine' ae bI ?V
      case' V=>refine' ae (dv 8) ?W
      case' W=>refine' ae (dv 6) ?X
      case' X=>refine' ae ?Y aj
      case Y=>exact(ax aL aM (dv 2) af)
     case' T=>refine' ae ?Z aj
     case' Z=>refine' cx ?a
     case' a=>refine' ae bI ?b
     case' b=>refine' ae (dv 8) ?c
     case' c=>refine' ae (dv 6) ?d
     case' d=>refine' ae ?e aj
     case' e=>refine' cx ?f
     case' f=>refine' ae bI ?g
     case' g=>refine' ae ?h aj
     case' h=>refine' lx aL aM (df (dv 2)) ?i
     case i=>exact(df (ak ba aE (ax aL aM (dv 7) af) af))
    case' O=>refine' ar ?j ?k
    case j=>
     generalize hG44:IF _ _ _ _=eg44;refine' bh (i:=9) lX.nd rfl J7 ?l (hs:=by subst hG44;exact dA)
     case' l=>subst hG44
     refine' fe ?m
     case' m=>refine' mY (df (dv 9)) (df ?n)
     case' n=>refine' fe ?o
     case' o=>refine' cf ?p
     case' p=>refine' ae ?q ?r
     case q=>exact(cx (ae bI (ae (dv 8) (ae (dv 6) aj))))
     case' r=>refine' ae ?s ?t
     case s=>
      refine' cx ?u
      case' u=>refine' ae bI ?v
      case' v=>refine' ae (dv 8) ?w
      case' w=>refine' ae (dv 6) ?x
      case' x=>refine' ae ?y ?z
      case y=>exact(cx (ae bI (ae (dv 6) aj)))
      case z=>refine' ae dQ aj
     case' t=>refine' ae ?A0 aj
     case A0=>exact(cx (ae bI (ae (dv 8) (ae (dv 6) aj))))
    case' k=>refine' aB ?A1
    case' A1=>refine' nV (i:=4) (pv 4) ?A2
    case' A2=>refine' lx aL aM (df ?A3) ?A4
    case A3=>
     refine' fe ?A5
     case' A5=>refine' mY (df (dv 9)) (df ?A6)
     case' A6=>refine' fe ?A7
     case' A7=>refine' cf ?A8
     case' A8=>refine' ae ?A9 aj
     case' A9=>refine' cx ?AA
     case' AA=>refine' ae bI ?AB
     case' AB=>refine' ae (dv 8) ?AC
     case' AC=>refine' ae (dv 6) ?AD
     case' AD=>refine' ae ?AE aj
     case AE=>exact(ax aL aM (dv 2) af)
    case A4=>exact(df (ak ba aE (ax aL aM (dv 7) af) af))
   case' F=>refine' aB ?AF
   case AF=>exact(oU (pv 4))
  case B=>
  clear hr T G_I G_J G_L;walk_at "a";obtain⟨ms,em,hm,ml⟩:=wq (ns:=ns) (lo:=some (-6)) (hi:=none);have m6:ms.length<=6:=by
   have:=congrArg Io em;rw [DP] at this;rw [<-this];unfold aS;rw [F4,G5];have e1:(ns.map DW).length<=HT.sIx (ns.map DW).length 0 (some (-6))+6:=by
    unfold HT.sIx;simp only [];split <;> omega
   omega
  rw [em];refine⟨λi δ=>∃(os:List De)(o5 o6 o7 o8 o9:Option Sl),os.length=i/\(∀x∈os,x.pp=none/\x.w≠DM "paper"/\Ed x.w=true/\Ed x.nm=true)/\δ=[some (Sl.v (cb (cs.map .int))),some (Sl.v (.list (ns.map .str))),some (Sl.v (.list (ks.map .str))),some (Sl.v (.bool far)),some (Sl.o (os.map De.enc)),o5,o6,o7,o8,o9],⟨[],_,_,_,_,_,rfl,Ka,rfl⟩,?_,?_⟩
  ·rintro i z δ hz ⟨os,o5,o6,o7,o8,o9,hl,hg,rfl⟩;rw [rN,D7] at hz;obtain⟨nm,hz',rfl⟩:∃nm,ms[i]?=some nm/\z= .tuple [.int ((0+i:Nat):Int),.str nm]:=by
    cases e:ms[i]? with
    | none=>rw [e] at hz;cases hz
    | some nm=>rw [e] at hz;cases hz;exact⟨nm,rfl,rfl⟩
   have hi:i < ms.length:=(DZ.mp hz').1;have hn:=Ef hz';simp only [pO,pP,↓jH,↓jQ,↓jR,↓jS,↓jT,↓jU,↓jV,↓jI,↓fw,↓jg,↓kN,↓kO,↓kP,↓kT,↓kU,↓kW,↓jh,↓ji,↓jj,↓jk,↓jl,↓jm,↓jn,↓jo,↓jq,↓jr,↓jt,↓ju,↓jv,↓jw,↓jx,↓jy,↓jz,↓jA,↓jB,↓jC,↓jD,↓jE,↓jF,↓jG,dZ,d4,d8,d5,d7,d9,cX,cZ,ec,eu,gh,gs,dP,dC,bw,dI,eH,eL,eM,gC,eO,cy,fh,fc,gA,eQ,dL,cY,dR,fX,cV,cN,bW,dS,dU,dW,dX,fZ,dY,gb,gc,cP,gf,ip,iu,iv,iw,ix,iy,iz,iA,iB,iC,iD,iE,iF,iG,iH,iI,iJ,iK,iL,iM,iN,iO,iP,iQ,iR,iS,iT,iU,iV,iW,iX,iY,iZ,i1,i2,i3,i4,i5,i6,i7,i8,i9,ja,iq,eU,gB,gE,dn,gL,gH,eR,eT,eV,eX,eY,eZ,fb,di,gF,fi,gG,cH,gu,gy,gz,gi,gj,gm,gn,eD,eF,eG,gr,gS,fm,fq,ik,ft,ij,il,fk,gO,gQ,gR,cB,gU,gT,gM,gN,jb,jc,jd,je,fu,fv,jf,jK,jJ,jL,jM,jN,jO,jP,fx,jW,fB,fz,fA,fy,j2,jY,jZ,j0,j1,dB,fC,j4,j5,fE,fF,fG,fH,j6,fI,j7,j8,j9,fJ,kh,ki,kj,km,ko,kc,kq,kr,ku,ky,fN,fK,fL,fM,kz,kC,kD,kA,kG,kH,kI,kJ,kK,kL,kF,kM,gW,hU,hV,hW,hZ,ia,ib,ic,ie,ig,ne_eq,g6,g8,g9,hG,hJ,gX,gY,gZ,c8,cS,dh,eg,er,ek,eh,bT,bY,bj,cC,cM,ck,D9,EW,D4,EK,D6,EM,EJ,Er,Fp,Fq,FJ,FK,FL,Ew,Eg,EX,ER,ES,EY,exists_eq_left',exists_eq_left,exists_and_left,exists_and_right,E5,E6,Sl.v.injEq,Sl.o.injEq,Sl.k.injEq,EL,Fj,Fv,Fe,Fl,EG,and_true,true_and,FN,Fw,exists_const,decide_eq_true_eq,FO,FP,Fx,Fy,EH,decide_eq_false_iff_not,and_assoc,or_true,true_or,↓reduceIte,if_true,if_false,Eu,E2,not_true_eq_false,not_false_eq_true,FU,Fz,ite_true,ite_false,eq_self,exists_eq,reduceCtorEq,false_and,and_false,or_false,false_or,exists_false,FC,FD,cE,F1,Gb,FV,Gd,F2,Fm,FT,FQ,bQ,bZ,cz,cg,cT,cI,dj,fj,beq_self_eq_true,gI,gJ,gK,bt,Kv];refine⟨J4,J4,λc1 ys yl yn=>?_⟩
   obtain⟨y0,y1,y2,y3,rfl⟩:=Dp yl;clear yl hz;simp only [wm,true_and,↓jH,↓jQ,↓jR,↓jS,↓jT,↓jU,↓jV,↓jI,↓fw,↓jg,↓kN,↓kO,↓kP,↓kT,↓kU,↓kW,↓jh,↓ji,↓jj,↓jk,↓jl,↓jm,↓jn,↓jo,↓jq,↓jr,↓jt,↓ju,↓jv,↓jw,↓jx,↓jy,↓jz,↓jA,↓jB,↓jC,↓jD,↓jE,↓jF,↓jG,dZ,d4,d8,d5,d7,d9,cX,cZ,ec,eu,gh,gs,dP,dC,bw,dI,eH,eL,eM,gC,eO,cy,fh,fc,gA,eQ,dL,cY,dR,fX,cV,cN,bW,dS,dU,dW,dX,fZ,dY,gb,gc,cP,gf,ip,iu,iv,iw,ix,iy,iz,iA,iB,iC,iD,iE,iF,iG,iH,iI,iJ,iK,iL,iM,iN,iO,iP,iQ,iR,iS,iT,iU,iV,iW,iX,iY,iZ,i1,i2,i3,i4,i5,i6,i7,i8,i9,ja,iq,eU,gB,gE,dn,gL,gH,eR,eT,eV,eX,eY,eZ,fb,di,gF,fi,gG,cH,gu,gy,gz,gi,gj,gm,gn,eD,eF,eG,gr,gS,fm,fq,ik,ft,ij,il,fk,gO,gQ,gR,cB,gU,gT,gM,gN,jb,jc,jd,je,fu,fv,jf,jK,jJ,jL,jM,jN,jO,jP,fx,jW,fB,fz,fA,fy,j2,jY,jZ,j0,j1,dB,fC,j4,j5,fE,fF,fG,fH,j6,fI,j7,j8,j9,fJ,kh,ki,kj,km,ko,kc,kq,kr,ku,ky,fN,fK,fL,fM,kz,kC,kD,kA,kG,kH,kI,kJ,kK,kL,kF,kM,gW,hU,hV,hW,hZ,ia,ib,ic,ie,ig,ne_eq,g6,g8,g9,hG,hJ,gX,gY,gZ,c8,cS,dh,eg,er,ek,eh,bT,bY,bj,cC,cM,ck,D9,EW,D4,EK,D6,EM,EJ,Er,Fp,Fq,FJ,FK,FL,Ew,Eg,EX,ER,ES,EY,exists_eq_left',exists_eq_left,exists_and_left,exists_and_right,E5,E6,Sl.v.injEq,Sl.o.injEq,Sl.k.injEq,EL,Fj,Fv,Fe,Fl,EG,and_true,true_and,FN,Fw,exists_const,decide_eq_true_eq,FO,FP,Fx,Fy,EH,decide_eq_false_iff_not,and_assoc,or_true,true_or,↓reduceIte,if_true,if_false,Eu,E2,not_true_eq_false,not_false_eq_true,FU,Fz,ite_true,ite_false,eq_self,exists_eq,reduceCtorEq,false_and,and_false,or_false,false_or,exists_false,FC,FD,cE,F1,Gb,FV,Gd,F2,Fm,FT,FQ,bQ,bZ,cz,cg,cT,cI,dj,fj,beq_self_eq_true,gI,gJ,gK,bt,Kv];obtain⟨k0,_,e0,g0⟩:=ny kn (i:=0) J3 J4
   obtain⟨k1,_,e1,g1⟩:=ny kn (i:=y1 % 3) J4 J4;have nok:=(nn nm (hm nm hn)).ok;refine⟨(yn y0 Ka).1,λd=>⟨_,e0,_,e1,_,e0,?_⟩⟩;have oth:∀(w:Str)(r:List Kb),w∈(["happens","rule","end","hold","lift","leave"]:List Str)->(De.oth w d nm r).pp=none/\(De.oth w d nm r).w≠DM "paper"/\Ed (De.oth w d nm r).w=true/\Ed (De.oth w d nm r).nm=true:=λw r hw=>by
    have wf:∀w∈(["happens","rule","end","hold","lift","leave"]:List Str),w≠DM "paper"/\Ed w=true:=td
    exact⟨rfl,(wf w hw).1,(wf w hw).2,nok⟩
   obtain⟨x,ex,hx⟩:∃x:De,atI [Em [DW (DM "happens"),DY d,DW nm,.str k0],Em [DW (DM "rule"),DY d,DW nm,Em [DW (DM "follow"),.str k1]],Em [DW (DM "end"),DY d,DW nm],Em [DW (DM "hold"),DY d,DW nm,Em [DW (DM "paper"),DW nm],G9 true],Em [DW (DM "lift"),DY d,DW nm],Em [DW (DM "leave"),DY d,DW nm,.str k0]] (y2 % 6)=some x.enc/\x.pp=none/\x.w≠DM "paper"/\Ed x.w=true/\Ed x.nm=true:=by
    have:y2 % 6=0\/y2 % 6=1\/y2 % 6=2\/y2 % 6=3\/y2 % 6=4\/y2 % 6=5:=J4
    rcases this with h | h | h | h | h | h <;> rw [h]
    ·exact⟨.oth "happens" d nm [.str k0],rfl,oth _ _ Ka⟩
    ·exact⟨.oth "rule" d nm [.tuple [.str (DM "follow"),.str k1]],rfl,oth _ _ Ka⟩
    ·exact⟨.oth "end" d nm [],rfl,oth _ _ Ka⟩
    ·exact⟨.oth "hold" d nm [.tuple [.str (DM "paper"),.str nm],.bool true],rfl,oth _ _ Ka⟩
    ·exact⟨.oth "lift" d nm [],rfl,oth _ _ Ka⟩
    ·exact⟨.oth "leave" d nm [.str k0],rfl,oth _ _ Ka⟩
   refine⟨_,ex,by rw [DP];omega,os++[x],by simp [hl],λx' hx'=>?_,by rw [E3];rfl,_,rfl⟩;rcases Ei.mp hx' with h | h
   ·exact hg x' h
   ·rw [Et.mp h];exact hx
  ·rintro δ ⟨os,o5,o6,o7,o8,o9,hl,hg,rfl⟩;walk_at "a";rw [rM,DP] at hl;exact q os hg J4
def Dw:List Kb->(Kb->Prop)->Prop:=λds Q=>∃cs:List Int,ds=[cb (cs.map .int)]/\∀(ns:List Str)(xs:List De),bU xs->nv ns->2<=ns.length->ns.length<=42->(∀p∈aF xs,p.nm∈ns)->Q (.tuple [.list (ns.map .str),.tuple (xs.map De.enc)])
theorem Dx(T:Txt K mg t):ay P w K mg base aK 3 t.a_O t.d_O ["_law_script"] (aX K Dw):=by
 have G_I:=@sM P w _ _ base _ T;have G_J:=@sN P w _ _ base _ T;have G_K:=@Dk P w _ _ base _ T;have G_M:=@Ds P w _ _ base _ T;have G_N:=@Dv P w _ _ base _ T;refine T.F_O.F.okD lY (λds Q h=>?_) (λ_ _ _ _ H O ds Q E hr h=>?_)
 ·obtain⟨ns,rfl,_⟩:=h;rfl
 ·obtain⟨ns,rfl,q⟩:=h;refine'⟨_,?A,?B⟩
  case A=>
   refine' ar ?C ?D
   case C=>exact(bh (i:=1) lY.nd rfl J7 (aT G_J hr T.F_J (ae (aT G_I hr T.F_I (ae (dv 0) (ae af aj))) (ae af aj))))
   case' D=>refine' ar ?E ?F
   case E=>
    generalize hG4:JB _ _ _=eg4;refine' bh (i:=2) lY.nd rfl J7 ?G (hs:=by subst hG4;exact rn)
    case' G=>subst hG4
    refine' lx aL aM (df ?H) ?I
    case H=>
     refine' fe ?J
     case' J=>refine' cf ?K
     case' K=>refine' ae ?L ?M
     case L=>exact(ak ba aE (ax aL aM (dv 1) af) af)
     case' M=>refine' ae ?N aj
     case N=>exact(ak ba aE (ak k9 aE (ax aL aM (dv 1) af) af) af)
    case I=>exact(df (PE.imp (dJ qr rfl T.n_int nR (bF (lL (eJ hr.units) eN (df (ak ba aE (ax aL aM (dv 1) af) af)) (df af) (bo _)) bA)) (bS qY)))
   case' F=>refine' ar ?O ?P
   case O=>
    refine' bh (i:=3) lY.nd rfl J7 ?Q (hs:=pf)
    case Q=>exact(aT G_K hr T.F_K (ae (fe (lP (df (dv 1)) (lu af) lr)) (ae (ak cm bP (dv 2) af) aj)))
   case' P=>refine' ar ?R ?S
   case R=>exact(bh (i:=4) lY.nd rfl J7 (aT G_K hr T.F_K (ae (fe (lP (df (dv 1)) (lu af) lr)) (ae af aj))))
   case' S=>refine' ar ?T ?U
   case T=>
    refine' bh (i:=5) lY.nd rfl J7 ?V (hs:=pf)
    case V=>exact(aT G_M hr T.F_M (ae (dv 0) (ae (dv 3) (ae (dv 4) (ae (dv 2) (ae (lL (eJ hr.units) eN (df (ak ba aE (ak k9 aE (ax aL aM (dv 1) af) af) af)) (df af) (bo _)) aj))))))
   case' U=>refine' ar ?W ?X
   case W=>
    refine' bO ?Y ?Z bN
    case Y=>exact(bE nK mm (dv 2) af (bo _))
    case' Z=>refine' aB ?a
    case' a=>refine' bh (i:=5) lY.nd rfl J7 ?b (hs:=dA)
    case' b=>refine' fe ?c
    case' c=>refine' mY (df (dv 5)) (df ?d)
    case d=>exact(aT G_N hr T.F_N (ae (dv 0) (ae (dv 3) (ae (dv 4) (ae (lL (eJ hr.units) eN (df (ak ba aE (ak k9 aE (ax aL aM (dv 1) af) af) af)) (df af) (bo _)) aj)))))
   case' X=>refine' ar ?e ?f
   case e=>
    refine' bh (i:=6) lY.nd rfl J7 ?g (hs:=dA)
    case g=>exact(ak ba aE (ak k9 aE (ax aL aM (dv 1) af) af) (ak cm bP (PE.imp (cu mQ rfl T.n_len G1 (bF (dv 5) bA)) (bS nX)) af))
   case' f=>refine' aB ?h
   case' h=>refine' aR ?i
   case' i=>refine' cx ?j
   case' j=>refine' ae (dv 3) ?k
   case' k=>refine' ae ?l aj
   case l=>exact(PE.imp (dJ ma rfl T.n_tuple lh (bF (fe (mY (df (fe (lP (df (dv 5)) (lu (dv 6)) lr))) (df (fe (lP (df (dv 5)) lr (lu (dv 6))))))) bA)) (bS mr))
  case B=>
  clear hr T G_I G_J G_K G_M G_N;simp only [pO,pP,↓jH,↓jQ,↓jR,↓jS,↓jT,↓jU,↓jV,↓jI,↓fw,↓jg,↓kN,↓kO,↓kP,↓kT,↓kU,↓kW,↓jh,↓ji,↓jj,↓jk,↓jl,↓jm,↓jn,↓jo,↓jq,↓jr,↓jt,↓ju,↓jv,↓jw,↓jx,↓jy,↓jz,↓jA,↓jB,↓jC,↓jD,↓jE,↓jF,↓jG,dZ,d4,d8,d5,d7,d9,cX,cZ,ec,eu,gh,gs,dP,dC,bw,dI,eH,eL,eM,gC,eO,cy,fh,fc,gA,eQ,dL,cY,dR,fX,cV,cN,bW,dS,dU,dW,dX,fZ,dY,gb,gc,cP,gf,ip,iu,iv,iw,ix,iy,iz,iA,iB,iC,iD,iE,iF,iG,iH,iI,iJ,iK,iL,iM,iN,iO,iP,iQ,iR,iS,iT,iU,iV,iW,iX,iY,iZ,i1,i2,i3,i4,i5,i6,i7,i8,i9,ja,iq,eU,gB,gE,dn,gL,gH,eR,eT,eV,eX,eY,eZ,fb,di,gF,fi,gG,cH,gu,gy,gz,gi,gj,gm,gn,eD,eF,eG,gr,gS,fm,fq,ik,ft,ij,il,fk,gO,gQ,gR,cB,gU,gT,gM,gN,jb,jc,jd,je,fu,fv,jf,jK,jJ,jL,jM,jN,jO,jP,fx,jW,fB,fz,fA,fy,j2,jY,jZ,j0,j1,dB,fC,j4,j5,fE,fF,fG,fH,j6,fI,j7,j8,j9,fJ,kh,ki,kj,km,ko,kc,kq,kr,ku,ky,fN,fK,fL,fM,kz,kC,kD,kA,kG,kH,kI,kJ,kK,kL,kF,kM,gW,hU,hV,hW,hZ,ia,ib,ic,ie,ig,ne_eq,g6,g8,g9,hG,hJ,gX,gY,gZ,c8,cS,dh,eg,er,ek,eh,bT,bY,bj,cC,cM,ck,D9,EW,D4,EK,D6,EM,EJ,Er,Fp,Fq,FJ,FK,FL,Ew,Eg,EX,ER,ES,EY,exists_eq_left',exists_eq_left,exists_and_left,exists_and_right,E5,E6,Sl.v.injEq,Sl.o.injEq,Sl.k.injEq,EL,Fj,Fv,Fe,Fl,EG,and_true,true_and,FN,Fw,exists_const,decide_eq_true_eq,FO,FP,Fx,Fy,EH,decide_eq_false_iff_not,and_assoc,or_true,true_or,↓reduceIte,if_true,if_false,Eu,E2,not_true_eq_false,not_false_eq_true,FU,Fz,ite_true,ite_false,eq_self,exists_eq,reduceCtorEq,false_and,and_false,or_false,false_or,exists_false,FC,FD,cE,F1,Gb,FV,Gd,F2,Fm,FT,FQ,bQ,bZ,cz,cg,cT,cI,dj,fj,beq_self_eq_true,gI,gJ,gK,bt,Kv];intro c0 ms ml mn;obtain⟨a0,a1,a2,a3,a4,a5,a6,a7,a8,a9,a10,a11,rfl⟩:=Dq ml
  clear ml;simp only [pO,pP,↓jH,↓jQ,↓jR,↓jS,↓jT,↓jU,↓jV,↓jI,↓fw,↓jg,↓kN,↓kO,↓kP,↓kT,↓kU,↓kW,↓jh,↓ji,↓jj,↓jk,↓jl,↓jm,↓jn,↓jo,↓jq,↓jr,↓jt,↓ju,↓jv,↓jw,↓jx,↓jy,↓jz,↓jA,↓jB,↓jC,↓jD,↓jE,↓jF,↓jG,dZ,d4,d8,d5,d7,d9,cX,cZ,ec,eu,gh,gs,dP,dC,bw,dI,eH,eL,eM,gC,eO,cy,fh,fc,gA,eQ,dL,cY,dR,fX,cV,cN,bW,dS,dU,dW,dX,fZ,dY,gb,gc,cP,gf,ip,iu,iv,iw,ix,iy,iz,iA,iB,iC,iD,iE,iF,iG,iH,iI,iJ,iK,iL,iM,iN,iO,iP,iQ,iR,iS,iT,iU,iV,iW,iX,iY,iZ,i1,i2,i3,i4,i5,i6,i7,i8,i9,ja,iq,eU,gB,gE,dn,gL,gH,eR,eT,eV,eX,eY,eZ,fb,di,gF,fi,gG,cH,gu,gy,gz,gi,gj,gm,gn,eD,eF,eG,gr,gS,fm,fq,ik,ft,ij,il,fk,gO,gQ,gR,cB,gU,gT,gM,gN,jb,jc,jd,je,fu,fv,jf,jK,jJ,jL,jM,jN,jO,jP,fx,jW,fB,fz,fA,fy,j2,jY,jZ,j0,j1,dB,fC,j4,j5,fE,fF,fG,fH,j6,fI,j7,j8,j9,fJ,kh,ki,kj,km,ko,kc,kq,kr,ku,ky,fN,fK,fL,fM,kz,kC,kD,kA,kG,kH,kI,kJ,kK,kL,kF,kM,gW,hU,hV,hW,hZ,ia,ib,ic,ie,ig,ne_eq,g6,g8,g9,hG,hJ,gX,gY,gZ,c8,cS,dh,eg,er,ek,eh,bT,bY,bj,cC,cM,ck,D9,EW,D4,EK,D6,EM,EJ,Er,Fp,Fq,FJ,FK,FL,Ew,Eg,EX,ER,ES,EY,exists_eq_left',exists_eq_left,exists_and_left,exists_and_right,E5,E6,Sl.v.injEq,Sl.o.injEq,Sl.k.injEq,EL,Fj,Fv,Fe,Fl,EG,and_true,true_and,FN,Fw,exists_const,decide_eq_true_eq,FO,FP,Fx,Fy,EH,decide_eq_false_iff_not,and_assoc,or_true,true_or,↓reduceIte,if_true,if_false,Eu,E2,not_true_eq_false,not_false_eq_true,FU,Fz,ite_true,ite_false,eq_self,exists_eq,reduceCtorEq,false_and,and_false,or_false,false_or,exists_false,FC,FD,cE,F1,Gb,FV,Gd,F2,Fm,FT,FQ,bQ,bZ,cz,cg,cT,cI,dj,fj,beq_self_eq_true,gI,gJ,gK,bt,Kv];have hm:∃m:Int,atI [DY (a0 % 13),DY (a0 / 4 % 41)] (if (a1 % 4==1)=true then 1 else 0)=some (.int m)/\0<=m/\m<=40:=by
   split
   ·exact⟨_,bZ,J4,J4⟩
   ·exact⟨_,bQ,J4,J4⟩
  obtain⟨m,em,m0,m1⟩:=hm;have cd2:aS [DY a0,DY a1,DY a2,DY a3,DY a4,DY a5,DY a6,DY a7,DY a8,DY a9,DY a10,DY a11] (some 7) none=[.int a7,.int a8,.int a9,.int a10,.int a11]:=rfl;refine⟨_,em,m,rfl,a2,a3,a4,a5,a6,_,m+2,rfl,J4,J4,λss sl sg snd=>?_⟩;rw [cd2];refine⟨a7,a8,a9,a10,a11,[],3,rfl,J3,J3,λks kl kg _=>?_⟩;have hne:ss.length<=42:=J4
  have fin:∀(ys:List De)(l:List Kb),l=ys.map De.enc->bU ys->(∀p∈aF ys,p.nm∈ss)->0 < (l.length:Int)+1/\(aS l (some (a1 / 8 % ((l.length:Int)+1))) none).length+(aS l none (some (a1 / 8 % ((l.length:Int)+1)))).length<=16777216/\Q (.tuple [.list (ss.map .str),.tuple (aS l (some (a1 / 8 % ((l.length:Int)+1))) none++aS l none (some (a1 / 8 % ((l.length:Int)+1))))]):=λys l el g hp=>by
   subst el;have ll:(ys.map De.enc).length=ys.length:=DP _;have yl:=g.ln;generalize htn:a1 / 8 % (((ys.map De.enc).length:Int)+1)=tn;have t0:0<=tn:=by rw [<-htn];exact GV _ J4
   have t1:tn < ((ys.map De.enc).length:Int)+1:=by rw [<-htn];exact Gs _ J4
   refine⟨J4,?_⟩;rw [nZ t0 J4,mx t0 J4];refine⟨by rw [G5,F4];omega,?_⟩;rw [<-JH,<-Hw,<-E3];have hpm:(ys.drop tn.toNat++ys.take tn.toNat).Perm ys:=by
    refine List.perm_append_comm.trans ?_;rw [Gw]
   refine q ss _ (g.perm hpm) sg J4 hne λp h=>hp p ?_;unfold aF at h⊢;exact(hpm.filterMap _).mem_iff.mp h
  have sok:∀z∈ss,Ed z=true:=λz hz=>(sg z hz).ok;refine⟨ns,ss,ks,m,_,rfl,sg,J4,kg,J4,m0,m1,λps hn hg=>⟨m,rfl,?_⟩⟩;have hpl:ps.length=m.toNat:=by
   have:=congrArg Io hn;rw [DP,F4] at this;omega
  have pin:∀p∈ps,p.nm∈ss:=λp hp=>G7 (by rw [<-hn];exact Es.mpr ⟨p,hp,rfl⟩);have gp:kY ps:=⟨J4,by rw [hn];exact snd.sublist (HR _ _),λp hp=>sok _ (pin p hp),λp hp=>(hg p hp).1,λp hp=>(hg p hp).2⟩;have ee:ps.map Pp.enc=(ps.map De.pap).map De.enc:=by rw [Ga];rfl
  split
  ·rename_i h35;refine⟨ns,ss,ks,_,rfl,sg,J4,kg,J4,λos ho ol=>⟨_,rfl,_,rfl,by rw [DP,DP];omega,?_⟩⟩;have pe:aF (ps.map De.pap++os)=ps:=by
    have h2:os.filterMap De.pp=[]:=List.filterMap_eq_nil_iff.mpr λx hx=>(ho x hx).1;have h1:(ps.map De.pap).filterMap De.pp=ps:=pJ ps;unfold aF;rw [Hy,h1,h2,Er]
   refine fin (ps.map De.pap++os) _ (by rw [E3,ee]) ⟨by rw [pe];exact gp,λw d nm r hx=>?_,by rw [F6,DP];omega,λx hx=>?_,λx hx=>?_⟩ (by rw [pe];exact pin)
   ·rcases Ei.mp hx with h | h
    ·obtain⟨p,_,e⟩:=Es.mp h;cases e
    ·exact(ho _ h).2.1
   ·rcases Ei.mp hx with h | h
    ·obtain⟨p,_,rfl⟩:=Es.mp h;show Ed (DM "paper")=true;decide+kernel
    ·exact(ho _ h).2.2.1
   ·rcases Ei.mp hx with h | h
    ·obtain⟨p,hp,rfl⟩:=Es.mp h;exact gp.nm p hp
    ·exact(ho _ h).2.2.2
  ·obtain⟨f1,f2⟩:=fin (ps.map De.pap) _ ee (bU.of gp) (by rw [pJ];exact pin);exact⟨_,.inl rfl,f1,_,rfl,_,rfl,f2⟩
end
theorem wt:aQ (av mC) ["_law_script","_law_names_here","_law_deeds","_law_known","_law_odd","_law_thing"] ["_law_name","_law_known"] 1 [3] ⟨Ee,[ (DQ ".0",LK),(DQ "_law_name",LK),(DQ "_law_known",Ek)],false,false,[]⟩:= .of
theorem Dy:aQ (av mC) ["_law_script","_law_names_here","_law_deeds","_law_known","_law_odd","_law_thing"] ["_law_deeds","_law_thing"] 0 [2,5] ⟨Ee,[ (DQ "_law_deeds",Ek),(DQ "_law_thing",Ek),(DQ "kind_of",Fh)],false,false,[]⟩:= .of
theorem Dz:aQ (av mC) ["_law_script","_law_names_here","_law_deeds","_law_known","_law_odd","_law_thing"] ["_law_deeds","_law_thing"] 0 [2,5] ⟨Ee,[ (DQ "_law_deeds",Ek),(DQ "_law_thing",Ek),(DQ "makers",Fh)],false,false,[]⟩:= .of
theorem DC:aQ (av mC) ["_law_script","_law_names_here","_law_deeds","_law_known","_law_odd","_law_thing"] ["_law_deeds","_law_thing"] 0 [2,5] ⟨Ee,[ (DQ "_law_deeds",Ek),(DQ "_law_thing",Ek),(DQ "made_of",Fh)],false,false,[]⟩:= .of
section
variable {P:Kp} {w:Kq} {K:DL} {mg:Str->Option Kc} {base:Km} {t:lE}
def F_V:List Kb->(Kb->Prop)->Prop:=λds Q=>∃ns:List Int,ds=[cb (ns.map .int)]/\ns.length<=63/\(∀z∈ns,FA z<=1048576)/\Q (.bool true)
def lamQ:Str:="law.<locals>.<lambda>"
theorem sO:(DM "law"++DM ".<locals>.")++DM "<lambda>"=lamQ:=td
def sp_law(K:DL)(PT:Ke):Sp:=vv PT lamQ K F_V
theorem start_law{K:DL}{H:Hp}{a PT:Ke}{ns:List Int}(hl:ns.length<=63)(hb:∀z∈ns,FA z<=1048576)(hP:H PT=some (dE lamQ))(hS:aI K H a (ns.map V.int)):sp_law K PT [.ref a] H (λv _=>v= .bl true) λ_ _ _=>False:=
 ⟨hP,λ_=>False,[cb (ns.map .int)],λd=>d= .bool true,λ_ z=>z.elim,.cons (.scr (by
  rcases hS with h | h
  ·exact .inl ⟨h,λz=>z⟩
  ·exact .inr (.inr h)) (ag.ints ns)) .nil,⟨ns,rfl,hl,hb,rfl⟩,λd v H' e _ r=>by subst e;cases r;rfl⟩
theorem ok_law{c PT:Ke}(T:Txt K mg t)(LF:mz base mg c PT)(hco:t.d_V.code= .ref c):ay P w K mg base aK 15 t.a_V t.d_V ["_law_script"] (sp_law K PT):=by
 have G_O:=@Dx P w _ _ base _ T;have G_U:=@C3 P w _ _ base _ T;have G_Q:=@sG P w _ _ base _ T;have G_T:=λbase':Km=>C7 (P:=P) (w:=w) (base:=base') T;have X_kind_of:=λbase':Km=>C4 (P:=P) (w:=w) (base:=base') T;have X_makers:=λbase':Km=>C5 (P:=P) (w:=w) (base:=base') T;have X_made_of:=λbase':Km=>C6 (P:=P) (w:=w) (base:=base') T;refine T.F_V.F.okDL hco mD (λds Q h=>?_) (λcdv A outer s H O ds Q E hcode hP0 hr h=>?_)
 ·obtain⟨ns,rfl,_⟩:=h;rfl
 ·obtain⟨cs,rfl,hl,hb,q⟩:=h;refine'⟨_,?A,?B⟩
  case A=>
   refine' ar ?C ?D
   case C=>exact(yY (aT G_O hr T.F_O (ae (dv 0) aj)) (qa (n:=2) rfl (mK (bp (i:=1) mD.nd rfl J7) (mK (bp (i:=2) mD.nd rfl J7) p9))) (qT (mX bq (mX bq qS))))
   case' D=>refine' ar ?E ?F
   case E=>
    refine' bO ?G ?H bN
    case G=>exact(PW.pt (oR (fY (cO (aT G_U hr T.F_U (ae (dv 2) aj)))) (oR (fY (cO (aT G_U hr T.F_U (ae (AS (df (dv 2))) aj)))) (qP (fY (cO (aT G_U hr T.F_U (ae (dv 2) aj))))))))
    case H=>refine' aB (aR dQ)
   case' F=>refine' ar ?I ?J
   case I=>exact(bh (i:=3) mD.nd rfl J7 (aT G_Q hr T.F_Q (ae (dv 2) aj)))
   case' J=>refine' ar ?K ?L
   case K=>
    generalize hG10:IF _ _ _ _=eg10;refine' bh (i:=4) mD.nd rfl J7 ?M (hs:=by subst hG10;exact dA)
    case' M=>subst hG10
    refine' fe ?N
    case' N=>refine' mY (df ?O) (df ?P)
    case O=>
     refine' fe ?Q
     case Q=>exact(lO rfl wt (df (dv 1)) bq cR J3 (λ_ _ _ _=>(bp (i:=0) wt.nd rfl J7)) (λ_ _ _ _=>(mf (bE (As hr) rh (dv 0) (dv 1) rfl))) (λ_ _ _ _=>(dv 0)))
    case' P=>refine' fe ?R
    case' R=>refine' cf ?S
    case' S=>refine' ae bI ?T
    case' T=>refine' ae bI ?U
    case' U=>refine' ae ?V ?W
    case V=>exact(ak nL nY (ax aL aM (dv 1) af) bI)
    case' W=>refine' ae qO ?X
    case' X=>refine' ae af ?Y
    case' Y=>refine' ae dQ ?Z
    case Z=>refine' ae af aj
   case' L=>refine' ar ?a ?b
   case a=>
    refine' bh (i:=4) mD.nd rfl J7 ?c (hs:=dA)
    case' c=>refine' fe ?d
    case' d=>refine' mY (df (dv 4)) (df ?e)
    case' e=>refine' fe ?f
    case' f=>refine' cf ?g
    case' g=>refine' ae ?h ?i
    case h=>exact(cx (ae (ax aL aM (dv 1) af) aj))
    case' i=>refine' ae ?j ?k
    case j=>exact(fe (cf (ae (ax aL aM (dv 1) af) aj)))
    case' k=>refine' ae AJ ?l
    case' l=>refine' ae ?m ?n
    case m=>exact(cx (ae (fe (cf aj)) aj))
    case' n=>refine' ae ?o aj
    case o=>exact(cx (ae bI (ae (ax aL aM (dv 1) af) aj)))
   case' b=>refine' ar ?p ?q
   case p=>
    refine' qU Ge rfl (dv 4) ?r bq ?s
    case r=>exact(bp (i:=5) mD.nd rfl J7)
    case' s=>refine' ar ?t ?u
    case t=>
     refine' bO ?v ?w bN
     case v=>exact(fY (cO (rP (C:=t.u_NoPaper) (k0:=13) G_T X_kind_of (hr.mono J3) T.F_T T.F_E hP0 LF hcode sO Dy J3 (λ_=>rfl) (λ_ _ _ _ _ _ _ _ _=>(ae (dv 0) (ae (dv 1) aj))))))
     case w=>refine' aB (aR dQ)
    case' u=>refine' ar ?x ?y
    case x=>
     refine' bO ?z ?A0 bN
     case z=>exact(fY (cO (rP (C:=t.u_NoPaper) (k0:=13) G_T X_makers (hr.mono J3) T.F_T T.F_G hP0 LF hcode sO Dz J3 (λ_=>rfl) (λ_ _ _ _ _ _ _ _ _=>(ae (dv 0) (ae (dv 1) aj))))))
     case A0=>refine' aB (aR dQ)
    case' y=>refine' aB ?A1
    case' A1=>refine' bO ?A2 ?A3 bN
    case A2=>exact(fY (cO (rP (C:=t.u_NoPaper) (k0:=13) G_T X_made_of (hr.mono J3) T.F_T T.F_H hP0 LF hcode sO DC J3 (λ_=>rfl) (λ_ _ _ _ _ _ _ _ _=>(ae (dv 0) (ae (dv 1) aj))))))
    case A3=>refine' aB (aR dQ)
   case' q=>refine' aB ?A4
   case A4=>exact(aR (aT G_U hr T.F_U (ae (dv 2) aj)))
  case B=>
  clear G_O G_U G_Q G_T X_kind_of X_makers X_made_of hr T LF hcode hP0;walk_at "a";refine⟨cs,rfl,λns xs g nn n2 n42 hin=>⟨_,rfl,rfl,_,_,rfl,_,_,rfl,rfl,xs,rfl,g,true,rfl,?_⟩⟩;rw [J5 Ka];refine⟨_,rfl,xs.reverse,by rw [List.map_reverse],g.perm (List.reverse_perm xs),true,rfl,?_⟩;rw [J5 Ka];refine⟨xs,rfl,g,true,rfl,?_⟩;rw [J5 Ka];refine⟨xs,rfl,g,_,rfl,by rw [DP];omega,?_⟩;refine⟨λk acc=>∃zs:List Str,acc=zs.map .str/\zs.length<=k/\∀z∈zs,z∈ns/\∀p∈aF xs,p.nm≠z,⟨[],rfl,Ka,Ka⟩,?_,?_⟩
  ·rintro k z acc hz ⟨zs,rfl,zl,zn⟩;rw [D7] at hz;cases hz':ns[k]? with
   | none=>rw [hz'] at hz;cases hz
   | some n=>
    rw [hz'] at hz;cases hz;walk_at "a";have hn:=Ef hz';have sok:∀z∈(aW (aF xs)).map (·.nm),Ed z=true:=λz hz=>by
     obtain⟨p,hp,rfl⟩:=Es.mp hz;exact g.gp.nm p (l4.mp hp)
    refine⟨mw.mpr (nn n hn).ok,sA sok,?_⟩;rw [su];by_cases hc:((aW (aF xs)).map (·.nm)).contains n=true
    ·rw [J5 (by rw [hc];simp)];exact⟨zs,rfl,J4,zn⟩
    ·rw [J6 (by simpa using hc)];refine⟨zs++[n],by rw [E3];rfl,by simp;omega,λz hz=>?_⟩;rcases Ei.mp hz with h | h
     ·exact zn z h
     ·rw [Et.mp h];exact⟨hn,λp hp e=>hc (List.contains_iff_mem.mpr (Es.mpr ⟨p,l4.mpr hp,e⟩))⟩
  ·rintro acc ⟨zs,rfl,zl,zn⟩;rw [DP] at zl;obtain⟨n0,hn0,e0,g0⟩:=ny nn (i:=0) J3 J4;refine⟨_,rfl,_,e0,n0,rfl,?_⟩;have l8:=g0.hi;have l9:(DM "aaaaaaaa").length=8:=td
   refine⟨J4,by rw [DP];omega,_,rfl,_,e0,_,rfl,_,e0,_,rfl,_,e0,?_⟩;have odd:∀z∈(E4 DW zs++[DW (DM ""),DW (DM "A"),DW (n0++DM "aaaaaaaa"),Iq,DY 0,G9 true,DY 5]++[Em [.str n0],Fs [.str n0],JS [],Em [Fs []],Em [DW (DM "paper"),.str n0]]),sJ xs z:=λz hz=>by
    have st:∀y:Str,(∀p∈aF xs,p.nm≠y)->sJ xs (.str y):=λy h=>⟨rfl,λp hp=>by rw [cI];exact lG (h p hp)⟩;simp only [Ei,D3,EU,or_false,Es] at hz;rcases hz with(⟨y,hy,rfl⟩ | h | h | h | h | h | h | h) | h | h | h | h | h
    ·exact st y λp hp=>(zn y hy).2 p hp
    ·rw [h];refine st _ λp hp e=>?_;have:=(nn _ (hin p hp)).lo;rw [e] at this
     revert this;decide+kernel
    ·rw [h];refine st _ λp hp e=>?_;have:=(nn _ (hin p hp)).ab 65;rw [e] at this
     revert this;decide+kernel
    ·rw [h];refine st _ λp hp e=>?_;have:=(nn _ (hin p hp)).hi;rw [e,m4,show(DM "aaaaaaaa").length=8 by decide+kernel] at this;have:=g0.lo;omega
    all_goals (rw [h];exact⟨rfl,λp hp=>by simp [Ea]⟩)
   have ol:(E4 DW zs++[DW (DM ""),DW (DM "A"),DW (n0++DM "aaaaaaaa"),Iq,DY 0,G9 true,DY 5]).length<=16777211:=by
    rw [F6,DP];simp;omega
   refine⟨ol,?_⟩;generalize E4 DW zs++[DW (DM ""),DW (DM "A"),DW (n0++DM "aaaaaaaa"),Iq,DY 0,G9 true,DY 5]++[Em [.str n0],Fs [.str n0],JS [],Em [Fs []],Em [DW (DM "paper"),.str n0]]=L at odd⊢;clear ol;refine⟨λi δ=>∃o5,δ=[some (Sl.v (cb (E4 DY cs))),some (Sl.v (Fs (E4 DW ns))),some (Sl.v (Em (E4 De.enc xs))),some (Sl.v (Fs (E4 DW (E4 (λx=>x.nm) (aW (aF xs)))))),some (Sl.v (.list L)),o5],⟨_,rfl⟩,?_,?_⟩
   ·rintro i z δ hz ⟨o5,rfl⟩;have np:=odd z (Ef hz);walk_at "a";have one:∀{R:Kb->Prop}{S:Prop},S->oq [.tuple (xs.map De.enc),z] R S:=λs=>⟨xs,z,rfl,g,np,s⟩;exact one (one (one ⟨_,rfl⟩))
   ·rintro δ ⟨o5,rfl⟩;walk_at "a";exact⟨xs,rfl,g,q⟩
end
end K09
namespace PySem.W.Fast
def tw2434478332259932591:=0
def tw15192347818965842595:=0
def tw10262512858394520090:=0
def tw9158467495183706983:=0
def tw2637611555613084510:=0
def tw321873288879416113:=0
def tw17837839680010986406:=0
def tw15225176514364339571:=0
def tw4227021976996953218:=0
def tw8694290999830212684:=0
def tw3616929919832474684:=0
def tw17391789749994117944:=0
def tw9298869712050968525:=0
def tw17823633196916491201:=0
def tw9046836799003751126:=0
def tw10051971523916168387:=0
def tw14509585930774489127:=0
def tw14625849477830066227:=0
def tw18373232760022865983:=0
def tw2060705963413777330:=0
def tw4931280556500457822:=0
def tw2401477106983335162:=0
def tw1001710657765572730:=0
def tw8444788102389574028:=0
def tw14778293413656813286:=0
def tw13066186289852520257:=0
def tw14938954382725143890:=0
def tw6864852440738209136:=0
def tw4535505546046084911:=0
def tw2149913551273752670:=0
def tw3516227207556497386:=0
def tw18428881597971833739:=0
def tw14711849016901227138:=0
def tw14110993903540295177:=0
def tw5164810923979173760:=0
def tw11553483516383959237:=0
def tw8973287951859672287:=0
def tw5676053122696843416:=0
def tw14209493854208662924:=0
def tw103845962885427040:=0
def tw7827810525747240256:=0
def tw5157599075060995796:=0
def tw7043117375766415123:=0
def tw1778634550196731026:=0
def tw2305439176036136420:=0
def tw4724649538346835017:=0
def tw10287835793760601462:=0
def tw4743362598629474834:=0
def tw10861199682116913275:=0
def tw4468874218556251126:=0
def tw895097787279472218:=0
def tw7090114102753387761:=0
def tw4207207519403682326:=0
def tw16770496044376330780:=0
def tw18288689172220004200:=0
def tw11721247030530814842:=0
def tw1766745272659340423:=0
def tw2823050214665405444:=0
def tw2093399206223849270:=0
def tw7404645610312341588:=0
def tw17047146081309354752:=0
def tw12250380381425973498:=0
def tw15096231035457653765:=0
def tw5880576316978087967:=0
def tw4444202311811278464:=0
def tw6318367808050293879:=0
def tw6856137797426337411:=0
def tw4660283189837411216:=0
def tw2263183947379625087:=0
def tw16322760753439726702:=0
def tw10890255709973050215:=0
def tw15700580653207183372:=0
def tw14252074034144874067:=0
def tw6696917155038246714:=0
def tw402269538715145229:=0
def tw471627508941971898:=0
def tw384637074257843086:=0
def tw10213053573680173376:=0
def tw1853769127489569874:=0
def tw11267547136811850029:=0
def tw1767910574536519816:=0
def tw1785364264373364035:=0
def tw15346383624051615080:=0
def tw13198221234542041173:=0
def tw17024317319359174702:=0
def tw2958400963885325550:=0
def tw4552090435553152199:=0
def tw1767602791554010001:=0
def tw12224761862368084620:=0
def tw11383266539191662489:=0
def tw13806140798680571932:=0
def tw14136169443302521581:=0
def tw2972055326394033652:=0
def tw16996698936863662884:=0
def tw17908447639585090990:=0
def tw921476355376307944:=0
def tw5223979788370535039:=0
def tw11719084337811076075:=0
def tw8093037725384384947:=0
def tw2780571798918474932:=0
def tw782577801937928735:=0
def tw6461430278408673231:=0
def tw7131307282728995830:=0
def tw9618069062021678648:=0
def tw13648202264555374421:=0
def tw8781235067672695869:=0
def tw8019514083561292598:=0
def tw5432173056245075815:=0
def tw5403038390188642584:=0
def tw2074130566261120668:=0
def tw1981580202721945208:=0
def tw14743371295548774329:=0
def tw1445187683375161227:=0
def tw792803674860520564:=0
def tw1732490502289536573:=0
def tw863999137459912878:=0
def tw4806123903939004615:=0
def tw13591546713493297683:=0
def tw17338789360562744048:=0
def tw13529483472086996069:=0
def tw1838966355727887217:=0
def tw7839338300204184617:=0
def tw3632000214148276599:=0
def tw15927299527668670464:=0
def tw7396455055472310946:=0
def tw4587544827766550075:=0
def tw15524560759177346310:=0
def tw15640366172375953061:=0
def tw8851058941915662230:=0
def tw697971092259227403:=0
def tw11349341917668914658:=0
def tw2895759096406003154:=0
def tw9215744273578616766:=0
def tw17498942682056078160:=0
def tw16794050793062256371:=0
def tw11497848464960897658:=0
def tw14663859094280045678:=0
def tw6860550358684200649:=0
def tw4282687410300808751:=0
def tw8157064289128802263:=0
def tw3433618374341302327:=0
def tw17303435074593440425:=0
def tw8048697448600920682:=0
def tw18283607340837671503:=0
def tw16750331093543755647:=0
def tw3087739253108648378:=0
def tw12399035190614123756:=0
def tw4127193160497623676:=0
def tw12094470047093940746:=0
def tw15496447143301521129:=0
def tw12320703200104682044:=0
def tw7480521704851955589:=0
def tw18414308461406648015:=0
def tw8962479016916180507:=0
def tw15468686975140443770:=0
def tw17482217700958835991:=0
def tw5863017597637873846:=0
def tw18278486598452422343:=0
def tw1450558919558077864:=0
def tw14222319143726826594:=0
def tw8871030104885820681:=0
def tw15639148347336470607:=0
def tw18236269800040729628:=0
def tw5839813392416644551:=0
def tw11785532012947271404:=0
def tw6195530474043325948:=0
def tw4077342264620241600:=0
def tw11636302378851648620:=0
def tw5991782632385085333:=0
def tw2772420111872008163:=0
def tw4441529472932804350:=0
def tw15289520731874979420:=0
def tw3633197153289730003:=0
def tw3326204081142366120:=0
def tw9372624826470964582:=0
def tw7515095247982239579:=0
def tw10957045773457211127:=0
def tw17432916896243171932:=0
def tw12089904617204477419:=0
def tw12445908928116941564:=0
def tw6815520353209263415:=0
def tw7500854337062559366:=0
def tw18083086176288321908:=0
def tw16925870227548260316:=0
def tw13464128020452313386:=0
def tw2787864480315966042:=0
def tw1082443918169841175:=0
def tw18177745500174479080:=0
def tw16506148144929130604:=0
def tw16768041397875467514:=0
def tw6640478806137723848:=0
def tw18174976086490949831:=0
def tw6601381813779769677:=0
def tw4240604191241451896:=0
def tw18343092805230978464:=0
def tw13598626130978134067:=0
def tw16054881864585430715:=0
def tw17918622863268111059:=0
def tw12782825681225574590:=0
def tw9219255715699002441:=0
def tw6496932878655382286:=0
def tw6288452372383428723:=0
def tw6184640653015733787:=0
def tw4787437644855371035:=0
def tw4635426232271077857:=0
def tw1989992712501326030:=0
def tw17230576056115209448:=0
def tw16411296752119001893:=0
def tw14519152532132921766:=0
def tw1335534158726886192:=0
def tw13235607015322934699:=0
def tw967444688548345985:=0
def tw2325590434044946147:=0
def tw14353566225064831130:=0
def tw11557269239258520208:=0
def tw10017001640921179313:=0
def tw3030565115000821294:=0
def tw10543495856173192814:=0
def tw17704275669289312433:=0
def tw14173599650543604376:=0
def tw16058296484903721123:=0
def tw7412413425316821849:=0
def tw2383257610005127237:=0
def tw3014543345951860429:=0
def tw4680341004746254661:=0
def tw10364007097920646215:=0
def tw9002387292827949423:=0
def tw7089763309443005325:=0
def tw8989752990308931799:=0
def tw9461460693023394489:=0
def tw6146230959825120461:=0
def tw602066912000844350:=0
def tw5807381895351040610:=0
def tw359724774941872695:=0
def tw3373274075103009867:=0
def tw16461768132042382413:=0
def tw13945408057605282181:=0
def tw11062510118007458917:=0
def tw10315510802744977987:=0
def tw10257683747072152239:=0
def tw1003293651674088629:=0
def tw17406905672873342317:=0
def tw8208590509359535096:=0
def tw5641870362118158512:=0
def tw4563308920449703950:=0
def tw2387841196652367482:=0
def tw16406362160270211433:=0
def tw15310637580599945843:=0
def tw13747574479040758639:=0
def tw12925907494131359523:=0
def tw12825398026916156475:=0
def tw1194487238571851749:=0
def tw11005211777674217795:=0
def tw10403028562752730031:=0
def tw5733758683326452715:=0
def tw9243176872008063270:=0
def tw8943786223770545277:=0
def tw8632974885417457044:=0
def tw8358301894431840048:=0
def tw4941473701257111343:=0
def tw4738877038591606534:=0
def tw14757954778523201366:=0
def tw12788095431024752144:=0
def tw12479203018398627064:=0
def tw10435978357153686097:=0
def tw1015576073160431219:=0
def tw9036830292236797854:=0
def tw8967445505191873201:=0
def tw5518749900536123230:=0
def tw4926780561408596895:=0
def tw482489463516597102:=0
def tw1685177116515884822:=0
def tw16427878745231114625:=0
def tw15571255468360734695:=0
def tw14735752578363166213:=0
def tw13914043251154630809:=0
def tw13877099419970705845:=0
def tw13459618681710195095:=0
def tw9880519624696467879:=0
def tw9590732968856294980:=0
def tw9508917304788327680:=0
def tw9236534140172772160:=0
def tw8911849330564671924:=0
def tw8016838812528831302:=0
def tw788742730379403615:=0
def tw7767436045175888268:=0
def tw7765618590752368026:=0
def tw7276526546740009008:=0
def tw7054771516348232449:=0
def tw7018117258917674505:=0
def tw6974766289562734705:=0
def tw672211344047141786:=0
def tw6545957094742272868:=0
def tw6387710209708380686:=0
def tw6316849044228698667:=0
def tw517290174867307076:=0
def tw4768322811996647267:=0
def tw3404130771370768596:=0
def tw3201018738833270920:=0
def tw3180056662112692901:=0
def tw2654034964951571751:=0
def tw2612631410318666787:=0
def tw2570456735217198600:=0
def tw2503626751890710215:=0
def tw2488509572008494680:=0
def tw2228175764014621824:=0
def tw18427548836605668516:=0
def tw18379683560674503551:=0
def tw18137218966151368554:=0
def tw17639774652966973949:=0
def tw17191573723071871815:=0
def tw17177760847776803725:=0
def tw17001965572775232842:=0
def tw16922661717058499910:=0
def tw16104694782978566471:=0
def tw16031373750406739818:=0
def tw15742964224266095287:=0
def tw15624716780122906270:=0
def tw15204394203982446531:=0
def tw14963763518878698005:=0
def tw14959715652415705699:=0
def tw14751538886316559790:=0
def tw14465166362827640700:=0
def tw14396372162850831104:=0
def tw13906661251284249599:=0
def tw13753476692214629574:=0
def tw1366735871499513333:=0
def tw1365210462048753143:=0
def tw1327060136403000015:=0
def tw13112139564287250489:=0
def tw13061333780704985244:=0
def tw13042388699276472430:=0
def tw12963390078147037396:=0
def tw12920852918571197632:=0
def tw12402383602415291030:=0
def tw12066105832875523821:=0
def tw11611414762796699249:=0
def tw10951695527524866781:=0
def tw10564223153268435782:=0
def tw10324800556713328229:=0
def tw10324548423220718895:=0
end PySem.W.Fast
open PySem PySem.W PyProof.Rows
local macro_rules | `(tactic| walk_at "f")=>`(tactic| (refine' L2.DfT.of ?a ?l ?c ?k;(case a=>k_is);(case l=>k_is);(case c=>k_is);(case k=>k_is)))
set_option maxRecDepth 100000 in
theorem PySem.Challenge.cw_goneday_k09_papers_in_order_holds : PySem.Challenge.rw_goneday_k09_papers_in_order.Holds := by
 w_on;o_law;k_head;(case hw=>w_witness2)
 k_fill
 refine' L2.walk_ofTK (l:=PySem.Challenge.rw_goneday_k09_papers_in_order) (n:=63) (k:=15) (x:="_law_script") (qn:=K09.lamQ) (c:=?cc) (PT:=?pp) (sp:=K09.sp_law) rfl J3 rfl ⟨rfl,J3,J3⟩ (λw h Y=>PySem.W.km_in_of Y) rfl ?F ?S
 case F=>
  intro w mg fa h KX G hmg;have hnt:PySem.W.noTabs (L2.KOf KX)=true:=by
   dsimp only [L2.KOf]
   kernel_rfl
  have hti:PySem.W.tabIn (L2.KOf KX) "law"=some (?cc,?pp):=by
   dsimp only [L2.KOf];refine' L2.tabIn_of ?a ?b ?c ?d ?e
   (case a | b=>k_is)
   (case c=>rfl)
   (case d=>k_is)
   (case e=>rfl)
  have T:∃t,K09.Txt (L2.KOf KX) mg t:=by
   dsimp only [L2.KOf];refine' K09.txt_mk KX G ?za ?zb ?zc ?zd ?ze ?zf ?zg ?zh ?zi ?zj ?zk ?zl ?zm ?zn ?zo ?zp ?zq ?zr ?zs ?zt ?zu ?zv ?zw ?zx ?zy ?zz ?zA ?zB ?zC ?zD ?zE ?zF ?zG ?zH ?zI ?zJ ?zK ?zL ?zM ?zN ?zO ?zP ?zQ ?zR ?zS ?zT ?zU ?zV ?zW ?zX ?zY ?zZ ?ya ?yb ?yc ?yd ?ye ?yf ?yg ?yh ?yi ?yj
   (case za | zb | zc | zd | ze | zf | zg | zh | zi | zj | zk | zl | zm | zn | zo | zp | zq | zr | zs | zt | zu | zv=>walk_at "f")
   (case zw | zx | zy | zz | zA | zB | zC | zD | zE | zF | zG | zH=>k_is)
   (case zI | zJ | zK | zL | zM | zN | zO | zP | zQ | zR | zS | zT | zU=>first | k_is | k_exc | kit_is)
   (case zV | zW | zX | zY | zZ | ya | yb | yc | yd | ye | yf | yg | yh | yi | yj=>k_is)
  obtain⟨t,T⟩:=T;have e0:=hmg.symm.trans T.F_V.m;cases e0;have hF:∃oc od osl,(L2.KOf KX).lookup t.a_V=some ⟨oc,od,.func t.d_V,osl⟩:=by
   obtain⟨oc,od,kV,doc,pm,an,cdv,ct,osl,e,lk,_⟩:=T.F_V.F.ex;exact⟨oc,od,osl,lk⟩
  exact⟨t.d_V,hnt,hti,T.bt_V,hF,λbase kb nb LF hco=>K09.ok_law T LF hco⟩
 case S=>exact λK H a ns hl hb hP hS=>K09.start_law hl hb hP hS
