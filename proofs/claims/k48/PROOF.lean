import PyProof.Rows.All
import Wide.All
import OpenK.AllK
import PySem.Challenge.RW_goneday_k48_claims_of_making
open PySem.W renaming Frag->Hx,nsIn->Iz,mg_none_of->IA,fnOf->JM,mg_of->JT,keepIn->KC,cellsFrom_some->KO,codeIn->K9,methodObj->Ln,OpenLaw->MO,WalkO->MY
open PySem.PyData renaming str->Hy,eqv->HA,int->HG,tuple->HI,strOk->Im,canLay0->IC,canLayAll0->IX,bool->IZ,eqvAll->Jr,list->JF,depthAll->JI,none->Kc,depth->Kf
open PySem.Str renaming ofString->Hz,ofString->HD,join->MF
open List renaming length_map->HB,map_cons->HF,size_toArray->HK,getElem?_eq_getElem->HL,mem_cons->HM,length_cons->HN,getElem?_eq_some_iff->HP,map->HQ,mem_map->HR,length_append->HU,mem_cons_self->HZ,replicate->Ia,mem_cons_of_mem->Ic,getElem?_map->Ie,mem_singleton->Ig,getElem?_set_ne->Ii,mem_append->Ij,mem_of_getElem?->Ik,map_append->Io,getD_eq_getElem?_getD->Iq,getElem?_set_self->Ir,take_of_length_le->Iu,lookup_cons->Iw,map_map->Iy,mem_of_find?_eq_some->ID,mem_append_right->IE,range->IG,length_take->IH,getElem_mem->IP,pairwise_cons->IQ,mem_of_mem_take->IS,mem_filter->IT,not_mem_nil->IW,all_eq_true->Ja,length_singleton->Jb,nodup_cons->Jk,find?_cons->Jm,find?_some->Jn,find?_eq_none->Jo,map_nil->Jq,take_succ->Js,length_nil->Jt,pairwise_map->Jw,nil_append->Jx,replicate_succ->Jz,length_drop->JB,contains_iff_mem->JD,getElem?_append_left->JE,append_nil->JH,any_cons->JK,mem_range->JL,foldl_cons->JN,range_succ->JO,getElem?_append_right->JP,take_sublist->JU,flatten_cons->JW,mem_append_left->JX,mem_of_mem_drop->JY,any_eq_true->J1,getElem?_replicate->J5,getElem?_cons_succ->J6,length_replicate->Kd,length_filter_le->Kg,foldl->Kj,filter_cons->Kk,map_take->Km,drop_eq_getElem_cons->Kq,pairwise_iff_getElem->Kt,mem_filterMap->Kv,all_map->KA,reverse_cons->KJ,length_range->KL,drop_of_length_le->KR,cons_append->KW,getElem?_eq_none->KY,getLast?_append->K4,filterMap_cons->K5,getElem_of_mem->K6,length_reverse->K7,dropLast_concat_getLast->Lb,filterMap_map->Ld,all_cons->Ll,append_assoc->Lp,any_eq_false->Lw,nodup_append->Lx,Nodup->LB,getElem_inj->LD,ext_getElem->LI,any_map->LN,length_filterMap_le->LO,getElem?_cons_zero->LU,pairwise_singleton->LV,of_mem_zip->LX,filterMap_append->Ma,pairwise_append->Mg,lt_trans->Mi,map_congr_left->Ml,set_cons_zero->Ms,set_cons_succ->Mt,getElem_range->Mv,getElem?_inj->Mx,getElem?_nil->My,reverse_perm->MA,not_lt->MB,le_antisymm->MG,any_toArray->MH,cons_ne_nil->MI,forIn_cons->MM,forIn_nil->MR,drop_zero->MS,take_zero->MT,sum_cons->MZ,map_drop->M3,Pairwise->M7,toArray->Na,any_nil->Nj,length->Np,filter->Nr
open PySem renaming Spec->HC,boot_len->HW,Scope->IM,mem_of_lookup->Jy,call->MN,Fin->MV
open Nat renaming le_refl->HE,le_trans->Il,ne_of_lt->Ip,lt_of_lt_of_le->IF,zero_le->Jl,lt_irrefl->J7,lt_or_ge->Ke,le_of_lt->Ku,le_succ->Lc,le_of_succ_le->Lq,ne_of_gt->LF,le_of_not_lt->LG,lt_trans->LH,le_of_ble_eq_true->L9,reduceAdd->Mj,reduceSub->Mk,lt_succ_of_lt->Mw,min_le_right->MC,add_zero->Nc,zero_add->Nd,sub_self->Nf,reduceLT->Ng
open PySem.Heap renaming get?_push_of_some->HH,lt_size->HV,get?_push_size->IB,SameBut->K0,get?_update_other->L0,size_push->L5
open PySem.SeqAt renaming shaped->HJ,canLay_of_shaped->IL,depth_of_shaped->L6,EqAt->Mb,pairEq->Nb
open PySem.ScopeKind renaming function->HS
open Bool renaming and_eq_true->HX,false_ne_true->IJ,true_and->IK,and_true->Jg,false_or->JS,false_and->J0,false_eq_true->Ka,or_eq_true->Ks,and_false->KD,eq_false_iff->KN,eq_iff_iff->K3,or_false->Lk,not_eq_true'->Lu,not_eq_false->Mz,and_comm->M6
open PySem.NameKind renaming free->HY,globalImplicit->Ib,free->Jf,cell->KS
open PySem.Value renaming ref->Ih,bool->JG,str->JJ,int->JZ,none->Ki,isStrOf->MX,isInt->Nl,type->Nv
open Option.some renaming inj->II,injEq->Lv
open PySem.PassesOwn renaming never->IU
open Array renaming length_toList->IV,getD_eq_getD_getElem?->Jc,toList_append->J4,perm_iff_toList_perm->Lm,getD->LA,toList_inj->MJ,toList->M8
open PySem.Builtin.Slice renaming slicePlaces->IY,sliceAdjust->Ju,sliceApplied->JQ,sliceFields->Ly
open PySem.Builtin.Tuple renaming tupleExact->I0,tupleItemsOf->Kl
open PyProof.Rows renaming slot_tuple_getitem->Jd,callWith_type1->Kh,entry_tuple_getitem->KU,args_tuple_getitem->KZ,bubble->K8,boot_sorted->LM,boot_sum->Nt,boot_max->Nu
open Sum renaming inr->Je,inl->LC
open True renaming intro->Jh
open PySem.Builtin.Int renaming intBits->Ji
open PySem.Obj renaming mapSeq->Jj
open Int renaming eq_ofNat_of_zero_le->Jp,toNat_natCast->JV,emod_lt_of_pos->Lg,fdiv_eq_ediv_of_nonneg->Li,fmod_eq_emod_of_nonneg->Lj,emod_nonneg->LY,ediv_one->Mo,zero_add->Mu,reduceNeg->M4,reducePow->M5,reduceLT->Nh,reduceLE->Ni
open List.cons renaming injEq->Jv
open False renaming elim->JA
open PySem.F renaming slot_dict_get->JC,entry_dict_get->Kb,args_tuple_add_2->Ky,entry_tuple_add->KH,plainAttrs_list->KI,slot_tuple_add->KP,slot_list_insert->LJ,args_dict_get_2->LP,args_dict_get_3->LQ,plainAttrs_dict->LR,type_dict_get->L7
open PySem.Builtin.List renaming listFitsIndex->JR,listTooLong->Kz,listUpdate->Nk
open PySem.PyData.str renaming injEq->J3
open PySem.W.WData renaming int->J8,weightAll->Kp,list->Lz,layableAll->ME,weight->M9
open ForInStep renaming yield->J9
open Sum.inr renaming inj->Kn
open PySem.Heap.SameBut renaming update->Ko
open PySem.W.KasT renaming kasWp_bind->Kr
open PySem.Calls renaming spliced_cons->Kw,callWith_builtin->KQ,evalArgs_plain->K1,Name_function_global->Lh,spliced_nil->Lo
open Option renaming isSome_iff_exists->Kx,isSome_map->Lr,isSome_some->Mq,getD_none->MD,join_some->MK,join_none->ML
open PySem.Builtin.Str renaming occurrences->KG,strSliceIndices->Le
open Or renaming inr->K2,inl->L4
open BEq renaming comm->La
open PySem.PyData.tuple renaming injEq->Lf
open Nat.succ renaming inj->LK
open PySem.PyData.int renaming injEq->LL
open PySem.Builtin.Dict renaming updateFrom->LS
open PyProof.Rows.IsTup renaming new->LW
open PyProof renaming noPylong_small->LZ
open PySem.SeqAt.RcNeAt renaming tuple_str->L1
open List.Perm renaming pairwise_iff->L3
open PySem.StrLaws renaming glued_eq_join->L8
open PySem.SeqAt.RcAt renaming tuple_str->Mc
open PySem.SeqAt.EqAt renaming str_tuple->Md,tuple_str->Mf,int_str->Mm,str_int->Mn,str_str->Mr
open PySem.Around renaming under_plainId->Me
open PySem.Paired renaming length->Mh,snoc->Nq
open PySem.Heap.IsSliceOf renaming new->Mp
open PySem.Walks renaming list->MP
open PySem.Heap.DictOf renaming new->MQ
open PySem.Expr renaming Subscript->MU,List->MW,BinOp->Nw
open PySem.CmpOp renaming NotIn->Nn
open PySem.Flow renaming next->Nx
open PySem.PyData.bool renaming injEq->Ny
open PySem.PyData.list renaming injEq->Nz
open PySem renaming PyData->NI,Value->NJ,Addr->NK,Shared->NL,wpAny_bind->NM,Expr->NN,sizeLine->NO,starEach->NP,wpAny_pure->NR,wpAny->NS,model->NT,FuncData->NU,Program->NV,mainGlobals->NW,World->NX,compareOp->NY,Heap->NZ,foldedSetIterable->N0,Stmt->N1,Around->N2,bootBuiltins->N3,cLine->N4,wpAny_truthy_bool->N5,behindInMarks->N6,backTo->N7,wpAny_mono->N8,wpAny_loadPart'->N9,swapsWith->Oa,wpAny_newObj_type->Ob,wpAny_holding->Oc,cellsFrom->Od,Scope->Of,NameKind->Og,sysModules->Oh,binaryOp->Oi,call_meets->Oj,DictEntry->Ol,tupleKind_room_in1->Om,wpAny_passesOwn->Oo,Keyword->Oq,getItem->Ot,attributeBase->Ou,PassesOwn->Ov,typeIs_str->Ow,sizeLine_eq->Ox,sliceBounds->Oy,keywordEach->Oz,wpAny_Call_Name_kw->OA,wpAny_typeOf->OB,CmpOp->OC,assignEach->OD,wpAny_callSpecial?_slot->OE,wpAny_field->OF,subscripted->OG,strIterType->OH,swapsWithSole->OI,swappedStores->OJ,tupleKind->OK,wpAny_execs_nil->ON,letOwnedTupleGo->OO,backToKw->OQ,richCompare->OR,wpAny_standAt->OT,wpAny_pyIter_list->OW,wpAny_sequenceKey->OX,noFill_tuple_add->OY,wpAny_call_entry->OZ,wpAny_comprehension_free->O3,GenState->O4
open PyProof.Rows renaming seqObj->Oe,AllBare->OL,slicePart_none->OP,assignInOrder_cons->OS,subscriptTail->OU,listUpdate_at->OV
open PySem.W renaming kia_one->OM
theorem NA{p:Prop}[Decidable p](h:decide p=true:=by decide+kernel):p:=of_decide_eq_true h
theorem NB{p:Prop}(h:p:=by decide):p:=h
theorem NC{p:Prop}(h:p:=by omega):p:=h
theorem NH{p:Prop}(h:p:=by simp):p:=h
theorem ND{c:Prop}{h:Decidable c}(k:¬c){α:Sort u}{t e:α}:ite c t e=e:=if_neg k
theorem NF{c:Prop}{h:Decidable c}(k:c){α:Sort u}{t e:α}:ite c t e=t:=if_pos k
abbrev O5:=PySem.NameKind.local
set_option compiler.extract_closed false
def rzT (n : String) : Lean.MacroM (Lean.TSyntax `tactic) := do
 let ts : Array (Lean.TSyntax `Lean.Parser.Tactic.simpLemma) <- ((n.splitOn " ").toArray).mapM λs =>do
  if s.startsWith "↓" then
   let i := Lean.mkIdent (s.drop 1).toString.toName
   `(Lean.Parser.Tactic.simpLemma| ↓ $i:ident)
  else
   let i := Lean.mkIdent s.toName
   `(Lean.Parser.Tactic.simpLemma| $i:ident)
 `(tactic| simp only [$ts,*])
local macro_rules|`(command|def $i:declId $s:optDeclSig $v:declVal)=>`(command|noncomputable def $i:declId $s:optDeclSig $v:declVal)|`(command|abbrev $i:declId $s:optDeclSig $v:declVal)=>`(command|noncomputable abbrev $i:declId $s:optDeclSig $v:declVal)
noncomputable section
set_option Elab.async false
set_option linter.all false
set_option maxRecDepth 100000
set_option maxHeartbeats 0
set_option genSizeOf false
namespace L2
open PySem PySem.Spec PyProof.Rows
abbrev ah:=Sum Int Str
def iE:ah->NJ->Bool
 | .inl k,v=>Nl k v
 | .inr x,v=>MX x v
def yH(w:NX):ah->Int
 | .inl k=>hashInt k
 | .inr x=>hashStr w x
theorem fB:∀{k:ah}{v:NJ},iE k v=true->(∃i t,k=LC i/\v=JZ i t)\/(∃x t,k=Je x/\v=JJ x t)
 | .inl i,v,h=>by
  obtain⟨t,e⟩:=Value.isInt_shape (k:=i) (v:=v) h;exact .inl ⟨i,t,rfl,e⟩
 | .inr x,v,h=>by
  obtain⟨t,e⟩:=Value.isStrOf_shape (x:=x) (v:=v) h;exact .inr ⟨x,t,rfl,e⟩
theorem yI(i:Int)(t:Tok):iE (.inl i) (.int i t)=true:=by simp [iE,Nl]
theorem yJ(x:Str)(t:Tok):iE (.inr x) (.str x t)=true:=by simp [iE,MX]
theorem yK(a b:Int):decide ((LC a:ah)=LC b)=(a==b):=by
 by_cases e:a=b
 ·subst e;simp
 ·have h:¬(LC a:ah)=LC b:=λq=>e (LC.inj q);rw [decide_eq_false h];exact(beq_eq_false_iff_ne.mpr e).symm
theorem yL(a b:Str):decide ((Je a:ah)=Je b)=decide (a=b):=by
 by_cases e:a=b
 ·subst e;simp
 ·have h:¬(Je a:ah)=Je b:=λq=>e (Kn q);rw [decide_eq_false h,decide_eq_false e]
theorem yM(a:Int)(b:Str):decide ((LC a:ah)=Je b)=false:=decide_eq_false (λq=>nomatch q)
theorem yN(a:Str)(b:Int):decide ((Je a:ah)=LC b)=false:=decide_eq_false (λq=>nomatch q)
def bQ(prog:NV)(w:NX):PySem.KeyKind prog w ah where
 is:=iE
 hash:=yH w
 inj:=λv a b ha hb=>by
  rcases fB ha with⟨i,t,rfl,rfl⟩ | ⟨x,t,rfl,rfl⟩
  ·rcases fB hb with⟨j,u,rfl,e⟩ | ⟨y,u,rfl,e⟩
   ·injection e with e1 _;rw [e1]
   ·exact nomatch e
  ·rcases fB hb with⟨j,u,rfl,e⟩ | ⟨y,u,rfl,e⟩
   ·exact nomatch e
   ·injection e with e1 _;rw [e1]
 byValue:=λk v h=>by
  rcases fB h with⟨i,t,rfl,rfl⟩ | ⟨x,t,rfl,rfl⟩ <;> rfl
 pyHash:=λhv h=>by
  rcases fB hv with⟨i,t,rfl,rfl⟩ | ⟨x,t,rfl,rfl⟩
  ·exact wpAny_pyHash_int h
  ·exact wpAny_pyHash_str h
 eqBool:=λhu hv h=>by
  rcases fB hu with⟨i,t,rfl,rfl⟩ | ⟨x,t,rfl,rfl⟩
  ·rcases fB hv with⟨j,u,rfl,rfl⟩ | ⟨y,u,rfl,rfl⟩
   ·rw [yK] at h;exact wpAny_eqBool_int h
   ·rw [yM] at h;exact Mm i t y u _ _ _ _ h
  ·rcases fB hv with⟨j,u,rfl,rfl⟩ | ⟨y,u,rfl,rfl⟩
   ·rw [yN] at h;exact Mn x t j u _ _ _ _ h
   ·rw [yL] at h;exact wpAny_eqBool_str h
 «strs»:=λk x t v h=>by
  rcases fB h with⟨i,u,rfl,e⟩ | ⟨y,u,rfl,e⟩
  ·exact nomatch e
  ·injection e with e1 _
   subst e1;cases v <;> rfl
theorem yO(prog:NV)(w:NX)(i:Int)(t:Tok):(bQ prog w).is (.inl i) (.int i t)=true:=yI i t
theorem yP(prog:NV)(w:NX)(x:Str)(t:Tok):(bQ prog w).is (.inr x) (.str x t)=true:=yJ x t
inductive V where
 | non | bl (b:Bool) | int (i:Int) | str (x:Str) | byt (b:Array UInt8) | flt (b:UInt64) | ref (a:NK) | ty (n:String)
 deriving DecidableEq
def ax:V->NJ->Prop
 | .non,u=>u=Ki
 | .bl b,u=>u=JG b
 | .int i,u=>∃t,u=JZ i t
 | .str x,u=>∃t,u=JJ x t
 | .byt b,u=>∃t,u=Value.bytes b t
 | .flt b,u=>∃t,u=Value.float b t
 | .ref a,u=>u=Ih a
 | .ty n,u=>u=Nv n
abbrev az:List V->List NJ->Prop:=Paired ax
theorem az.length{xs:List V}{us:List NJ}(r:az xs us):xs.length=us.length:=Mh r
theorem az.get:∀{xs:List V}{us:List NJ}{i:Nat}{x:V},az xs us->xs[i]?=some x->∃u,us[i]?=some u/\ax x u
 | _,_,_,_,.nil,e=>by simp at e
 | _,_,0,_,.cons r _,e=>by simp at e;subst e;exact⟨_,rfl,r⟩
 | _,_,i+1,x,.cons _ t,e=>by
  obtain⟨u,h1,h2⟩:=az.get (i:=i) (x:=x) t (by simpa using e);exact⟨u,by simpa using h1,h2⟩
theorem az.set{x:V}{u:NJ}(r:ax x u):∀{xs:List V}{us:List NJ}(i:Nat),az xs us->az (xs.set i x) (us.set i u)
 | _,_,_,.nil=>.nil
 | _,_,0,.cons _ t=>.cons r t
 | _,_,i+1,.cons q t=>.cons q (az.set r i t)
theorem az.append:∀{xs ys:List V}{us ws:List NJ},az xs us->az ys ws->az (xs++ys) (us++ws)
 | _,_,_,_,.nil,s=>s
 | _,_,_,_,.cons r t,s=>.cons r (az.append t s)
theorem az.take:∀{xs:List V}{us:List NJ}(n:Nat),az xs us->az (xs.take n) (us.take n)
 | _,_,0,_=>.nil
 | _,_,_+1,.nil=>.nil
 | _,_,n+1,.cons r t=>.cons r (az.take n t)
theorem az.drop:∀{xs:List V}{us:List NJ}(n:Nat),az xs us->az (xs.drop n) (us.drop n)
 | _,_,0,r=>r
 | _,_,_+1,.nil=>.nil
 | _,_,n+1,.cons _ t=>az.drop n t
def eD:Option V->Option NJ->Prop
 | some v,some u=>ax v u
 | none,none=>True
 | _,_=>False
def KV{κ:Type}:List (κ×V)->List (κ×NJ)->Prop:=Paired λ(p:κ×V) (q:κ×NJ)=>p.1=q.1/\ax p.2 q.2
def kV:ah->V
 | .inl i=>.int i
 | .inr x=>.str x
inductive HO where
 | lst (xs:List V)
 | tup (xs:List V)
 | dK (kvs:List (ah×V)) | dT (kvs:List (List ah×V))
 | set (S:Int->Bool) (n:Nat)
 | ins (C dx:NK) (fs:List (Str×V))
 | own (x:NK)
 | xd (fs:List (Str×V))
 | met (f x:NK)
 | rng (lo hi:Int)
 | frz (o:Obj) (u:HO)
 | tbl (ps:Array NJ)
 | ext (φ:NZ->Prop)
abbrev Hp:=NK->Option HO
def ak(H:Hp)(a:NK)(o:HO):Hp:=λb=>if b=a then some o else H b
theorem bj{H:Hp}{a:NK}{o:HO}:ak H a o a=some o:=by unfold ak;rw [NF rfl]
theorem aB{H:Hp}{a b:NK}{o:HO}(h:b≠a):ak H a o b=H b:=by unfold ak;rw [ND h]
theorem yQ{H:Hp}{a b:NK}{o u:HO}(h:H a=some o)(h':H b=some u)(d:o≠u):a≠b:=by
 intro e;subst e;rw [h] at h';exact d (II h')
theorem cC{H:Hp}{a b:NK}{o:HO}(h:H a=some o)(h':H b=none):a≠b:=by
 intro e;subst e;rw [h] at h';cases h'
section
variable (P:NV) (w:NX)
def bD(H:Hp)(h:NZ)(a:NK):HO->Prop
 | .lst xs=>xs.length<=NO/\∃(its:List NJ)(n:Nat),az xs its/\h.get? a=some {cls:= .type "list",data:= .seq its.toArray n}
 | .tup xs=>xs.length<=NO/\∃its:List NJ,az xs its/\IsTup h a its.toArray
 | .dK kvs=>kvs.length<=NO/\(a==Oh)=false/\∃vs,KV kvs vs/\h.DictOf (bQ P w) a vs
 | .dT kvs=>kvs.length<=NO/\(a==Oh)=false/\∃xs:List (List ah×NK×NJ),
  Paired (λ(p:List ah×V) (q:List ah×NK×NJ)=>p.1=q.1/\H q.2.1=some (.tup (p.1.map kV))/\ax p.2 q.2.2) kvs xs/\
  ∃o es ep,h.get? a=some o/\o.ExactDict/\o.data= .dict es ep/\es.toList=xs.map (entryOfKey (OK (bQ P w)))/\(xs.map (·.1)).Nodup
 | .set S n=>h.SetOf (intKind P w) a S n
 | .ins C dx fs=>H dx=some (.own a)/\fs.length<=1000/\dx≠a/\h.get? a=some (PySem.W.instObj C dx)/\
  ∃mA,h.Ns1 dx mA/\(∀f,eD (fs.lookup f) (mA f))/\PySem.Within mA (fs.map (·.1))
 | .own _=>∃o,h.get? a=some o
 | .xd fs=>∃mA,h.Ns1 a mA/\∀f,eD (fs.lookup f) (mA f)
 | .rng lo hi=>∃t u v,h.get? a=some {cls:= .type "range",data:= .fields #[.int lo t,.int hi u,.int 1 v]}
 | .frz o u=>h.get? a=some o/\bD H h a u
 | .tbl ps=>h.get? a=some {cls:= .none,data:= .fields ps}
 | .met f x=>h.get? a=some (Ln (.ref f) (.ref x))
 | .ext φ=>φ h/\(∃o,h.get? a=some o)/\∀h1 h2:NZ,φ h1->(∀o,h1.get? a=some o->h2.get? a=some o)->φ h2
def bG(H:Hp)(h:NZ):Prop:=∀a o,H a=some o->bD P w H h a o
end
section
variable {P:NV} {w:NX} {H H':Hp} {h h':NZ} {a:NK} {o:HO}
theorem bD.lt(x:bD P w H h a o):a < h.objs.size:=by
 cases o with
 | lst xs=>obtain⟨_,_,_,_,e⟩:=x;exact HV e
 | tup xs=>obtain⟨_,_,_,p⟩:=x;exact p.lt
 | dK kvs=>obtain⟨_,_,_,_,o,_,_,e,_⟩:=x;exact HV e
 | dT kvs=>obtain⟨_,_,_,_,o,_,_,e,_⟩:=x;exact HV e
 | set S n=>obtain⟨o,_,_,_,e,_⟩:=x;exact HV e
 | ins C dx fs=>obtain⟨_,_,_,e,_⟩:=x;exact HV e
 | own y=>obtain⟨_,e⟩:=x;exact HV e
 | xd fs=>obtain⟨_,⟨_,_,_,e,_⟩,_⟩:=x;exact HV e
 | rng lo hi=>obtain⟨_,_,_,e⟩:=x;exact HV e
 | frz ob u=>obtain⟨e,_⟩:=x;exact HV e
 | tbl ps=>exact HV (show h.get? a=some _ from x)
 | met f y=>exact HV (show h.get? a=some _ from x)
 | ext φ=>obtain⟨_,⟨_,e⟩,_⟩:=x;exact HV e
theorem Paired.mapP{α β:Type}{F G:α->β->Prop}:∀{l₁:List α}{l₂:List β},Paired F l₁ l₂->(∀a b,F a b->G a b)->Paired G l₁ l₂
 | _,_,.nil,_=>.nil
 | _,_,.cons r t,f=>.cons (f _ _ r) (Paired.mapP t f)
theorem bD.stay(x:bD P w H h a o)(k:∀b u,(b=a\/H b=some (.own a))->h.get? b=some u->h'.get? b=some u)
 (ho:∀b,H b=some (.own a)->H' b=some (.own a))(ht:∀b xs,H b=some (.tup xs)->H' b=some (.tup xs)):bD P w H' h' a o:=by
 induction o with
 | lst xs=>obtain⟨z,its,n,r,e⟩:=x;exact⟨z,its,n,r,k _ _ (.inl rfl) e⟩
 | tup xs=>obtain⟨z,its,r,ob,e,c⟩:=x;exact⟨z,its,r,ob,k _ _ (.inl rfl) e,c⟩
 | dK kvs=>obtain⟨z,y,vs,r,ob,es,ep,e,c⟩:=x;exact⟨z,y,vs,r,ob,es,ep,k _ _ (.inl rfl) e,c⟩
 | dT kvs=>
  obtain⟨z,y,xs,r,ob,es,ep,e,c⟩:=x;exact⟨z,y,xs,Paired.mapP r λp q z=>⟨z.1,ht _ _ z.2.1,z.2.2⟩,ob,es,ep,k _ _ (.inl rfl) e,c⟩
 | set S n=>obtain⟨ob,es,ep,t,e,c⟩:=x;exact⟨ob,es,ep,t,k _ _ (.inl rfl) e,c⟩
 | ins C dx fs=>
  obtain⟨d,z,ne,e,mA,⟨od,es,ep,e2,c⟩,r⟩:=x;exact⟨ho _ d,z,ne,k _ _ (.inl rfl) e,mA,⟨od,es,ep,k _ _ (.inr d) e2,c⟩,r⟩
 | own y=>obtain⟨ob,e⟩:=x;exact⟨ob,k _ _ (.inl rfl) e⟩
 | xd fs=>obtain⟨mA,⟨od,es,ep,e,c⟩,r⟩:=x;exact⟨mA,⟨od,es,ep,k _ _ (.inl rfl) e,c⟩,r⟩
 | rng lo hi=>obtain⟨t,u,v,e⟩:=x;exact⟨t,u,v,k _ _ (.inl rfl) e⟩
 | frz ob u ih=>obtain⟨e,q⟩:=x;exact⟨k _ _ (.inl rfl) e,ih q⟩
 | tbl ps=>
  have e:h.get? a=some {cls:= .none,data:= .fields ps}:=x;show h'.get? a=some {cls:= .none,data:= .fields ps};exact k a _ (.inl rfl) e
 | met f y=>
  have e:h.get? a=some (Ln (.ref f) (.ref y)):=x;show h'.get? a=some (Ln (.ref f) (.ref y));exact k a _ (.inl rfl) e
 | ext φ=>obtain⟨p,⟨o,e⟩,st⟩:=x;exact⟨st _ _ p λo q=>k _ _ (.inl rfl) q,⟨o,k _ _ (.inl rfl) e⟩,st⟩
theorem bG.lt(x:bG P w H h)(e:H a=some o):a < h.objs.size:=(x a o e).lt
theorem bG.fresh(x:bG P w H h)(e:h.objs.size<=a):H a=none:=by
 cases q:H a with
 | none=>rfl
 | some u=>exact absurd (IF (x.lt q) e) (J7 _)
theorem bG.kept(x:bG P w H h)(k:∀b u,h.get? b=some u->h'.get? b=some u):bG P w H h':=λa o e=>
 (x a o e).stay (λb u _ q=>k b u q) (λ_ q=>q) λ_ _ q=>q
theorem bG.laid(x:bG P w H h)(k:∀b u,h.get? b=some u->h'.get? b=some u)(hp:h.objs.size<=a)(new:bD P w (ak H a o) h' a o):bG P w (ak H a o) h':=λb u e=>by
 have hn:=x.fresh hp;by_cases hb:b=a
 ·subst hb;rw [bj] at e;cases e;exact new
 ·rw [aB hb] at e;exact(x b u e).stay (λc v _ q=>k c v q) (λc q=>by rw [aB (cC q hn)];exact q) λc xs q=>by rw [aB (cC q hn)];exact q
end
def Rd(H:Hp)(a:NK)(u:HO):Prop:=H a=some u\/∃o,H a=some (.frz o u)
theorem Rd.ok{P:NV}{w:NX}{H:Hp}{h:NZ}{a:NK}{u:HO}(r:Rd H a u)(x:bG P w H h):bD P w H h a u:=by
 rcases r with r | ⟨o,r⟩
 ·exact x a u r
 ·obtain⟨_,q⟩:=x a _ r;exact q
def iF:Option HO->Prop
 | some (.lst _)=>True
 | some (.dK _)=>True
 | some (.dT _)=>True
 | some (.set _ _)=>True
 | some (.ins _ _ _)=>True
 | some (.ext _)=>True
 | _=>False
section
variable {P:NV} {w:NX} {H:Hp} {h h':NZ} {x e:NK} {o':HO}
theorem bG.write(ok:bG P w H h)(mu:iF (H x))(he:e=x\/H e=some (.own x))(k:∀b u,b≠e->h.get? b=some u->h'.get? b=some u)(heo:∃u,h'.get? e=some u)
 (new:bD P w (ak H x o') h' x o'):bG P w (ak H x o') h':=λb u q=>by
 have nown:∀c y,H c=some (.own y)->c≠x:=λc y r z=>by subst z;rw [r] at mu;exact mu
 have ntup:∀c xs,H c=some (.tup xs)->c≠x:=λc xs r z=>by subst z;rw [r] at mu;exact mu
 by_cases hb:b=x
 ·subst hb;rw [bj] at q;cases q;exact new
 ·rw [aB hb] at q;by_cases hbe:b=e
  ·have q':H b=some (.own x):=by
    rcases he with z | z
    ·exact absurd (hbe.trans z) hb
    ·rw [hbe];exact z
   rw [q] at q';cases q';obtain⟨v,hv⟩:=heo;exact⟨v,by rw [hbe];exact hv⟩
  ·refine(ok b u q).stay (λc v hc r=>k c v ?_ r) (λc r=>by rw [aB (nown c b r)];exact r) λc xs r=>by rw [aB (ntup c xs r)];exact r
   rcases hc with rfl | hc
   ·exact hbe
   ·rintro rfl;rcases he with z | z
    ·exact nown c b hc z
    ·rw [hc] at z;cases z;exact hb rfl
end
structure Un (fs ex:List NK) (H H':Hp) (h h':NZ):Prop where
 keep:∀b o,h.get? b=some o->H b=none->b ∉ fs->b ∉ ex->h'.get? b=some o
 slot:∀b o,h.get? b=some o->H b=none->b∈fs->b ∉ ex->∃sl,h'.get? b=some {o with slots:=sl}
 free:∀b o,h.get? b=some o->H b=none->b ∉ ex->H' b=none
 there:∀b o,h.get? b=some o->b ∉ ex->∃o',h'.get? b=some o'
 tups:∀b xs,H b=some (.tup xs)->H' b=some (.tup xs)
 frzs:∀b o u,H b=some (.frz o u)->H' b=some (.frz o u)
 tbls:∀b ps,H b=some (.tbl ps)->∃more,H' b=some (.tbl (ps++more))
section
variable {fs fs' ex ex':List NK} {H H1 H2:Hp} {h h1 h2 h':NZ} {a x e:NK} {o:HO}
theorem Un.any(u:Un fs ex H H1 h h1){b:NK}{ob:Obj}(q:h.get? b=some ob)(n:H b=none)(hx:b ∉ ex):∃sl,h1.get? b=some {ob with slots:=sl}:=by
 by_cases hb:b∈fs
 ·exact u.slot b ob q n hb hx
 ·exact⟨ob.slots,u.keep b ob q n hb hx⟩
theorem Un.kept(k:∀b u,h.get? b=some u->h'.get? b=some u):Un fs ex H H h h':=
 ⟨λb ob q _ _ _=>k b ob q,λb ob q _ _ _=>⟨ob.slots,k b ob q⟩,λ_ _ _ n _=>n,λb ob q _=>⟨ob,k b ob q⟩,λ_ _ q=>q,λ_ _ _ q=>q,λ_ ps q=>⟨#[],by rw [q];simp⟩⟩
theorem Un.refl:Un fs ex H H h h:=Un.kept λ_ _ q=>q
theorem Un.laid(k:∀b u,h.get? b=some u->h'.get? b=some u)(hp:h.objs.size<=a)(hn:H a=none):Un fs ex H (ak H a o) h h' where
 keep:=λb u q _ _ _=>k b u q
 slot:=λb u q _ _ _=>⟨u.slots,k b u q⟩
 free:=λb u q n _=>by rw [aB (Ip (IF (HV q) hp))];exact n
 there:=λb u q _=>⟨u,k b u q⟩
 tups:=λb xs q=>by rw [aB (cC q hn)];exact q
 frzs:=λb u xs q=>by rw [aB (cC q hn)];exact q
 tbls:=λb ps q=>⟨#[],by rw [aB (cC q hn),q];simp⟩
theorem Un.write(mu:iF (H x))(he:e=x\/H e=some (.own x))(k:∀b u,b≠e->h.get? b=some u->h'.get? b=some u)(heo:∃u,h'.get? e=some u):Un fs ex H (ak H x o) h h':=by
 have hx:∀b,H b=none->b≠x:=λb n z=>by subst z;rw [n] at mu;exact mu
 have hb:∀b,H b=none->b≠e:=λb n z=>by
  subst z;rcases he with r | r
  ·exact hx b n r
  ·rw [n] at r;cases r
 have hm:∀b u,H b=some u->¬iF (some u)->b≠x:=λb u q nm z=>by subst z;rw [q] at mu;exact nm mu
 refine⟨λb u q n _ _=>k b u (hb b n) q,λb u q n _ _=>⟨u.slots,k b u (hb b n) q⟩,λb u q n _=>by rw [aB (hx b n)];exact n,λb u q _=>?_,
  λb xs q=>by rw [aB (hm b _ q λz=>z)];exact q,λb u xs q=>by rw [aB (hm b _ q λz=>z)];exact q,λb ps q=>⟨#[],by rw [aB (hm b _ q λz=>z),q];simp⟩⟩
 by_cases hbe:b=e
 ·subst hbe;exact heo
 ·exact⟨u,k b u hbe q⟩
end
def trk(h:NZ)(H:Hp):List NK:=(IG h.objs.size).filter λa=>(H a).isSome
def fT(h:NZ)(H:Hp):NZ:=PySem.W.hideAll h (trk h H)
theorem yR(h:NZ)(H:Hp):(fT h H).objs.size=h.objs.size:=PySem.W.hideAll_size _ _
theorem yS{h:NZ}{H:Hp}{b:NK}{o:Obj}(e:h.get? b=some o)(n:H b=none):(fT h H).get? b=some o:=
 PySem.W.hideAll_get _ e λhm=>by
  have q:(H b).isSome=true:=(IT.mp hm).2;rw [n] at q;simp at q
theorem yT{h:NZ}{H:Hp}{b:NK}{o:Obj}(e:(fT h H).get? b=some o):h.get? b=some o/\H b=none:=by
 have e':h.get? b=some o:=PySem.W.of_hideAll (trk h H) e;refine⟨e',?_⟩;cases q:H b with
 | none=>rfl
 | some x=>
  have hm:b∈trk h H:=IT.mpr ⟨JL.mpr (HV e'),by simp [q]⟩;have z:(fT h H).get? b=none:=PySem.W.hideAll_none (trk h H) hm;rw [z] at e;cases e
def yU(g h:NZ)(L:NK):List (NK×Obj):=(IG h.objs.size).filterMap λa=>if a=L\/(g.get? a).isSome=true then none else(h.get? a).map λo=>(a,o)
def rest(g h:NZ)(L d:NK):List (NK×Obj):=(yU g h L).filter λp=>decide (p.1≠d)
structure Mod (K:Hx) (mg:Str->Option NJ) (base:NZ):Prop where
 kin:K.In base
 glob:base.Ns NW mg
 blt:∃mb,base.Ns builtinsNs mb/\∀x:Str,x≠"__name__"->mb x=N3 x
 nolimit:base.NoLimit
structure Cx where
 prog:NV
 w:NX
 K:Hx
 mg:Str->Option NJ
 base:NZ
 A:N2
 N:List Str
 s₀:NL
 H₀:Hp
 env:Env
 outer:List Env
 stack:List Env
 ex:List NK
 fn:Str->Bool
 calm:Bool
 pn:List (NK×Obj)
 xe:NJ->NL->Prop
def dZ(l:List Env):List NK:=l.filterMap (·.frame)
abbrev Cx.fs(X:Cx):List NK:=dZ X.outer
def jw(sc:Of)(x:Str):Prop:=sc.names.lookup x=some .local\/sc.names.lookup x=some .cell\/sc.names.lookup x=some .free
def fc(sc:Of)(x:Str):Prop:=sc.names.lookup x=some .local\/sc.names.lookup x=some .cell
def yV(env:Env)(h:NZ)(m:Str->Option NJ)(x:Str)(u:NJ):Prop:=
 (env.kindOf x=some .local/\m x=some u)\/((env.kindOf x=some .cell\/env.kindOf x=some .free)/\∃c,env.cells.lookup x=some c/\h.IsCell c (some u))
structure Cx.Ok (X:Cx):Prop where
 mod:Mod X.K X.mg X.base
 kind:X.env.scope.kind= .function
 glob:X.env.globals=NW
 blt:X.env.builtins=builtinsNs
 above:X.s₀.heap.objs.size<=X.env.locals
 inj:∀x y c,X.env.cells.lookup x=some c->X.env.cells.lookup y=some c->x=y
 has:∀x,(X.env.kindOf x=some .cell\/X.env.kindOf x=some .free)->∃c,X.env.cells.lookup x=some c
 cab:∀x c,X.fn x=true->X.env.cells.lookup x=some c->X.s₀.heap.objs.size<=c
 hd:X.calm=true->X.A.handled=none
 frames:X.A.frames=some X.stack
 stk:X.stack=X.outer\/(X.stack=X.env::X.outer/\X.env.frame=some X.env.locals)
 exf:∀b∈X.ex,b≠X.env.locals/\∀x c,X.env.cells.lookup x=some c->c≠b
 bs:∀b o,X.base.get? b=some o->X.s₀.heap.get? b=some o/\X.H₀ b=none
 bsz:X.base.objs.size<=X.s₀.heap.objs.size
 noex:∀b o,X.base.get? b=some o->b ∉ X.ex
 exfs:∀b∈X.ex,b ∉ X.fs
 funs:X.s₀.heap.FunFrames X.base X.outer
 frf:∀b∈X.fs,X.H₀ b=none
structure ae (X:Cx) (O6:List (NK×Obj)) (σ:List (Option V)) (H:Hp) (s:NL):Prop where
 ok:X.Ok
 os:s.os=X.s₀.os
 bare:OL s.gens
 base:Un X.fs X.ex X.H₀ H X.s₀.heap s.heap
 loc:∃m,s.heap.Ns X.env.locals m/\∀(i:Nat)(x:Str)(v:V),X.N[i]?=some x->σ[i]?=some (some v)->jw X.env.scope x->∃u,ax v u/\yV X.env s.heap m x u
 cell:∀x c,X.env.cells.lookup x=some c->∃v,s.heap.IsCell c v
 free:H X.env.locals=none
 freeC:∀x c,X.env.cells.lookup x=some c->H c=none
 pin:∀p∈X.pn++O6,s.heap.get? p.1=some p.2/\H p.1=none/\p.1≠X.env.locals/\p.1 ∉ X.fs/\∀v,p.2.data≠ .cell v
 hok:bG X.prog X.w H s.heap
 len:σ.length=X.N.length
section
variable {X:Cx} {O6:List (NK×Obj)} {σ:List (Option V)} {H H':Hp} {s:NL} {h':NZ}
theorem Cx.Ok.nofr(ok:X.Ok){b:NK}{o:Obj}(e:X.base.get? b=some o):b ∉ X.fs:=λhb=>by
 have:=(ok.funs.mem hb).1;rw [e] at this;cases this
theorem ae.bs(I:ae X O6 σ H s):∀b o,X.base.get? b=some o->s.heap.get? b=some o/\H b=none:=λb o e=>
 ⟨I.base.keep b o (I.ok.bs b o e).1 (I.ok.bs b o e).2 (I.ok.nofr e) (I.ok.noex b o e),I.base.free b o (I.ok.bs b o e).1 (I.ok.bs b o e).2 (I.ok.noex b o e)⟩
theorem ae.bk(I:ae X O6 σ H s):∀b o,X.base.get? b=some o->s.heap.get? b=some o:=λb o e=>(I.bs b o e).1
theorem ae.mod(I:ae X O6 σ H s):Mod X.K X.mg X.base:=I.ok.mod
theorem ae.kIn(I:ae X O6 σ H s):X.K.In s.heap:=I.ok.mod.kin.keeps I.bk
theorem ae.fr(I:ae X O6 σ H s):∃m,Fr X.base X.env.locals s.heap m:=
 let ⟨m,hn,_⟩:=I.loc
 ⟨m,hn,I.bk,Il I.ok.bsz I.ok.above⟩
theorem ae.lt(I:ae X O6 σ H s):X.env.locals < s.heap.objs.size:=let ⟨_,hn,_⟩:=I.loc;hn.lt
theorem ae.sz(I:ae X O6 σ H s):X.s₀.heap.objs.size<=s.heap.objs.size:=Il I.ok.above (Ku I.lt)
theorem ae.nofs(I:ae X O6 σ H s){a:NK}(h:s.heap.objs.size<=a):a ∉ X.fs:=λhb=>by
 obtain⟨_,o,ho,_⟩:=I.ok.funs.mem hb;exact absurd (IF (HV ho) (Il I.sz h)) (J7 _)
theorem ae.cne(I:ae X O6 σ H s):∀x c,X.env.cells.lookup x=some c->c≠X.env.locals:=λx c e z=>by
 obtain⟨v,o,ho,hd⟩:=I.cell x c e;obtain⟨m,⟨o',es,ep,ho',hd',_⟩,_⟩:=I.loc;rw [z,ho'] at ho;cases ho;rw [hd'] at hd;cases hd
theorem ae.funs(I:ae X O6 σ H s):s.heap.FunFrames X.base X.outer:=by
 have all:∀(l:List Env),(∀b∈dZ l,b∈X.fs)->X.s₀.heap.FunFrames X.base l->s.heap.FunFrames X.base l:=by
  intro l
  induction l with
  | nil=>intro _ _;trivial
  | cons env r ih=>
   intro hs hl;obtain⟨hk,⟨L,o,hf,hn,ho,hd⟩,hr⟩:=hl;have hL:L∈X.fs:=hs L (by unfold dZ;rw [K5,hf];exact HZ);obtain⟨sl,e⟩:=I.base.slot L o ho (I.ok.frf L hL) hL λz=>I.ok.exfs L z hL;exact⟨hk,⟨L,_,hf,hn,e,hd⟩,ih (λb hb=>hs b (by unfold dZ;rw [K5,hf];exact Ic _ hb)) hr⟩
 exact all X.outer (λ_ hb=>hb) I.ok.funs
theorem ae.stack(I:ae X O6 σ H s):s.heap.FunFrames X.base X.stack:=by
 rcases I.ok.stk with e | ⟨e,hf⟩
 ·rw [e];exact I.funs
 ·rw [e];obtain⟨m,hn,_⟩:=I.loc;refine .cons (by rw [I.ok.kind];decide) hf hn ?_ I.funs;exact Heap.get?_none_of_le (Il I.ok.bsz I.ok.above)
theorem ae.stkSub(I:ae X O6 σ H s):∀b∈dZ X.stack,b∈X.env.locals::X.fs:=λb hb=>by
 rcases I.ok.stk with e | ⟨e,hf⟩
 ·rw [e] at hb;exact Ic _ hb
 ·rw [e] at hb;unfold dZ at hb;rw [K5,hf] at hb;exact hb
theorem ae.stkFree(I:ae X O6 σ H s):∀b∈dZ X.stack,H b=none:=λb hb=>by
 rcases HM.mp (I.stkSub b hb) with e | hb
 ·rw [e];exact I.free
 ·obtain⟨_,o,ho,_⟩:=I.ok.funs.mem hb;exact I.base.free b o ho (I.ok.frf b hb) λz=>I.ok.exfs b z hb
theorem ae.step{g':Array O4}{t':Nat}{d':Drawn}{ch:List NK}(I:ae X O6 σ H s)
 (hch:∀b∈ch,(b∈X.ex\/X.s₀.heap.objs.size<=b)/\b≠X.env.locals/\(∀x c,X.env.cells.lookup x=some c->c≠b)/\∀p∈X.pn++O6,p.1≠b)
 (keep:∀b o,b≠X.env.locals->b ∉ X.fs->b ∉ ch->s.heap.get? b=some o->H b=none->h'.get? b=some o)
 (slot:∀b o,b≠X.env.locals->b∈X.fs->b ∉ ch->s.heap.get? b=some o->H b=none->∃sl,h'.get? b=some {o with slots:=sl})(free:∀b o,b ∉ ch->s.heap.get? b=some o->H b=none->H' b=none)
 (there:∀b o,b ∉ ch->s.heap.get? b=some o->∃o',h'.get? b=some o')
 (tups:∀b xs,H b=some (.tup xs)->H' b=some (.tup xs))(frzs:∀b o u,H b=some (.frz o u)->H' b=some (.frz o u))(tbls:∀b ps,H b=some (.tbl ps)->∃more,H' b=some (.tbl (ps++more)))
 (ns:∀m,s.heap.Ns X.env.locals m->h'.Ns X.env.locals m)(hok:bG X.prog X.w H' h')(hg:OL g'):
 ae X O6 σ H' {s with heap:=h',gens:=g',drawn:=d',toks:=t'}:=by
 have neL:∀b o,X.s₀.heap.get? b=some o->b≠X.env.locals:=λb o e=>Ip (IF (HV e) I.ok.above);have neC:∀b o,X.s₀.heap.get? b=some o->b ∉ X.ex->b ∉ ch:=λb o e hx hb=>by
  rcases(hch b hb).1 with z | z
  ·exact hx z
  ·exact absurd (IF (HV e) z) (J7 _)
 have cellK:∀x c,X.env.cells.lookup x=some c->∀v,s.heap.IsCell c v->h'.IsCell c v:=λx c e v uu1=>by
  obtain⟨o,ho,hd⟩:=uu1;have nch:c ∉ ch:=λz=>(hch c z).2.2.1 x c e rfl;by_cases hc:c∈X.fs
  ·obtain⟨sl,q⟩:=slot c o (I.cne x c e) hc nch ho (I.freeC x c e);exact⟨_,q,hd⟩
  ·exact⟨o,keep c o (I.cne x c e) hc nch ho (I.freeC x c e),hd⟩
 refine⟨I.ok,I.os,hg,⟨λb o e n hb hx=>?_,λb o e n hb hx=>?_,λb o e n hx=>?_,λb o e hx=>?_,λb xs e=>tups b xs (I.base.tups b xs e),λb o xs e=>frzs b o xs (I.base.frzs b o xs e),λb ps e=>?_⟩,?_,λx c e=>?_,?_,λx c e=>?_,λp hp=>?_,hok,I.len⟩
 ·exact keep b o (neL b o e) hb (neC b o e hx) (I.base.keep b o e n hb hx) (I.base.free b o e n hx)
 ·obtain⟨sl,e1⟩:=I.base.slot b o e n hb hx;obtain⟨sl',e2⟩:=slot b _ (neL b o e) hb (neC b o e hx) e1 (I.base.free b o e n hx);exact⟨sl',e2⟩
 ·obtain⟨o',e1⟩:=I.base.there b o e hx;exact free b o' (neC b o e hx) e1 (I.base.free b o e n hx)
 ·obtain⟨o',e1⟩:=I.base.there b o e hx;exact there b o' (neC b o e hx) e1
 ·obtain⟨m1,e1⟩:=I.base.tbls b ps e;obtain⟨m2,e2⟩:=tbls b _ e1;exact⟨m1++m2,by rw [e2,Array.append_assoc]⟩
 ·obtain⟨m,hn,hl⟩:=I.loc;refine⟨m,ns m hn,λi x v e1 e2 e3=>?_⟩;obtain⟨u,r,l⟩:=hl i x v e1 e2 e3;refine⟨u,r,?_⟩;rcases l with l | ⟨k,c,e,z⟩
  ·exact .inl l
  ·exact .inr ⟨k,c,e,cellK x c e _ z⟩
 ·obtain⟨v,z⟩:=I.cell x c e;exact⟨v,cellK x c e v z⟩
 ·obtain⟨m,⟨o,_,_,ho,_⟩,_⟩:=I.loc;exact free _ o (λz=>(hch _ z).2.1 rfl) ho I.free
 ·obtain⟨v,o,ho,hd⟩:=I.cell x c e;exact free c o (λz=>(hch c z).2.2.1 x c e rfl) ho (I.freeC x c e)
 ·obtain⟨e,n,ne,nf,d⟩:=I.pin p hp;have nch:p.1 ∉ ch:=λz=>(hch p.1 z).2.2.2 p hp rfl;exact⟨keep p.1 p.2 ne nf nch e n,free p.1 p.2 nch e n,ne,nf,d⟩
theorem ae.un{t':Nat}(I:ae X O6 σ H s)(u:Un X.fs [] H H' s.heap h')(hok:bG X.prog X.w H' h'):ae X O6 σ H' {s with heap:=h',toks:=t'}:=by
 obtain⟨m,⟨o,es,ep,ho,r⟩,_⟩:=id I.loc;obtain⟨sl,hL⟩:=u.any ho I.free NH;exact I.step (g':=s.gens) (d':=s.drawn) (ch:=[]) (λ_ z=>nomatch z) (λb o _ hb _ e n=>u.keep b o e n hb NH) (λb o _ hb _ e n=>u.slot b o e n hb NH) (λb o _ e n=>u.free b o e n NH) (λb o _ e=>u.there b o e NH) u.tups u.frzs u.tbls (λm' hm=>by
  obtain⟨o',es',ep',ho',r'⟩:=hm;rw [ho] at ho';cases ho';exact⟨_,es',ep',hL,r'⟩) hok I.bare
theorem ae.call{g':Array O4}{t':Nat}{d':Drawn}{ch:List NK}(I:ae X O6 σ H s)(u:Un (dZ X.stack) ch H H' s.heap h')(hok:bG X.prog X.w H' h')(hg:OL g')
 (hch:∀b∈ch,(b∈X.ex\/X.s₀.heap.objs.size<=b)/\b≠X.env.locals/\(∀x c,X.env.cells.lookup x=some c->c≠b)/\∀p∈X.pn++O6,p.1≠b):
 ae X O6 σ H' {s with heap:=h',gens:=g',drawn:=d',toks:=t'}:=by
 obtain⟨m,⟨o,es,ep,ho,r⟩,_⟩:=id I.loc;obtain⟨sl,hL⟩:=u.any ho I.free λz=>(hch _ z).2.1 rfl;exact I.step (ch:=ch) hch (λb o hL hb hc e n=>u.keep b o e n (λz=>(HM.mp (I.stkSub b z)).elim hL hb) hc) (λb o _ _ hc e n=>u.any e n hc) (λb o hc e n=>u.free b o e n hc) (λb o hc e=>u.there b o e hc) u.tups u.frzs u.tbls (λm' hm=>by
  obtain⟨o',es',ep',ho',r'⟩:=hm;rw [ho] at ho';cases ho';exact⟨_,es',ep',hL,r'⟩) hok hg
theorem ae.turned{t':Nat}{it:NK}(I:ae X O6 σ H s)(k:∀b o,b≠it->s.heap.get? b=some o->h'.get? b=some o)(hn:H it=none)(hL:it≠X.env.locals)
 (h1:it∈X.ex\/X.s₀.heap.objs.size<=it)(h2:∀x c,X.env.cells.lookup x=some c->c≠it)(h3:∀p∈X.pn++O6,p.1≠it):ae X O6 σ H {s with heap:=h',toks:=t'}:=by
 have nit:∀b u,H b=some u->b≠it:=λb u e z=>by rw [z,hn] at e;cases e
 refine I.step (g':=s.gens) (d':=s.drawn) (ch:=[it]) (λb hb=>?_) (λb o _ _ hc e _=>k b o (λz=>hc (by simp [z])) e) (λb o _ _ hc e _=>⟨o.slots,k b o (λz=>hc (by simp [z])) e⟩) (λ_ _ _ _ n=>n)
  (λb o hc e=>⟨o,k b o (λz=>hc (by simp [z])) e⟩) (λ_ _ e=>e) (λ_ _ _ e=>e) (λb ps e=>⟨#[],by rw [e];simp⟩) (λm hm=>?_) (λb u e=>?_) I.bare
 ·have e:b=it:=by simpa using hb
  subst e;exact⟨h1,hL,h2,h3⟩
 ·obtain⟨o,es,ep,ho,r⟩:=hm;exact⟨o,es,ep,k _ o (Ne.symm hL) ho,r⟩
 ·refine(I.hok b u e).stay (λc v hc q=>k c v ?_ q) (λ_ q=>q) λ_ _ q=>q;rcases hc with z | z
  ·rw [z];exact nit b u e
  ·exact nit c _ z
theorem ae.tok(I:ae X O6 σ H s)(t:Nat):ae X O6 σ H {s with toks:=t}:=I.un (h':=s.heap) (t':=t) Un.refl I.hok
theorem ae.kept{t':Nat}(I:ae X O6 σ H s)(k:∀b u,s.heap.get? b=some u->h'.get? b=some u):ae X O6 σ H {s with heap:=h',toks:=t'}:=I.un (Un.kept k) (I.hok.kept k)
theorem ae.laid{a:NK}{o:HO}{t':Nat}(I:ae X O6 σ H s)(k:∀b u,s.heap.get? b=some u->h'.get? b=some u)(hp:s.heap.objs.size<=a)(new:bD X.prog X.w (ak H a o) h' a o):
 ae X O6 σ (ak H a o) {s with heap:=h',toks:=t'}:=I.un (Un.laid k hp (I.hok.fresh hp)) (I.hok.laid k hp new)
theorem ae.write{x e:NK}{o:HO}{t':Nat}(I:ae X O6 σ H s)(mu:iF (H x))(he:e=x\/H e=some (.own x))(k:∀b u,b≠e->s.heap.get? b=some u->h'.get? b=some u)(heo:∃u,h'.get? e=some u)
 (new:bD X.prog X.w (ak H x o) h' x o):ae X O6 σ (ak H x o) {s with heap:=h',toks:=t'}:=I.un (Un.write mu he k heo) (I.hok.write mu he k heo new)
theorem ae.weak{σ':List (Option V)}(I:ae X O6 σ H s)(hl:σ'.length=σ.length)(w:∀(i:Nat) v,σ'[i]?=some (some v)->σ[i]?=some (some v)):ae X O6 σ' H s:=
 ⟨I.ok,I.os,I.bare,I.base,let ⟨m,hn,hl'⟩:=I.loc;⟨m,hn,λi x v e1 e2 e3=>hl' i x v e1 (w i v e2) e3⟩,I.cell,I.free,I.freeC,I.pin,I.hok,hl.trans I.len⟩
theorem ae.pins_of{pins':List (NK×Obj)}(I:ae X O6 σ H s)(h:∀p∈pins',s.heap.get? p.1=some p.2/\H p.1=none/\p.1≠X.env.locals/\p.1 ∉ X.fs/\∀v,p.2.data≠ .cell v):ae X pins' σ H s:=
 ⟨I.ok,I.os,I.bare,I.base,I.loc,I.cell,I.free,I.freeC,λp hp=>(Ij.mp hp).elim (λz=>I.pin p (JX _ z)) (h p),I.hok,I.len⟩
theorem pX{N:List Str}(hN:N.Nodup){i j:Nat}{x:Str}(a:N[i]?=some x)(b:N[j]?=some x):i=j:=by
 obtain⟨h1,e1⟩:=HP.mp a;obtain⟨h2,e2⟩:=HP.mp b;exact(LD hN).mp (e1.trans e2.symm)
theorem pY{M:Model}{A:N2}{E:NJ->NL->Prop}{i:Nat}{x:Str}{v:V}{u:NJ}{Q:Unit->NL->Prop}(I:ae X O6 σ H s)(hN:X.N.Nodup)(hi:X.N[i]?=some x)(hx:fc X.env.scope x)(r:ax v u)
 (h:∀s',ae X O6 (σ.set i (some v)) H s'->(∃a,K0 a s.heap s'.heap/\(a=X.env.locals\/X.env.cells.lookup x=some a))->Q () s')(hf:X.fn x=true\/X.env.scope.names.lookup x=some .local:=by first | exact .inl rfl | exact .inr rfl | assumption):NS M A (storeName X.env x u) Q E s:=by
 obtain⟨m,hn,hl⟩:=id I.loc;have hcls:(X.env.scope.kind== .class || (X.env.scope.kind== .module && X.env.locals !=X.env.globals))=false:=by rw [I.ok.kind];rfl
 have hiσ:i < σ.length:=by rw [I.len];exact(HP.mp hi).1
 have cne:=I.cne;have tracked:∀{a:NK}{h':NZ},(∃o,s.heap.get? a=some o/\H a=none)->K0 a s.heap h'->bG X.prog X.w H h':=λ{a h'} ha hs b ob e=>by
  obtain⟨_,_,hfree⟩:=ha;refine(I.hok b ob e).stay (λc w' hc q=>(hs.2 c ?_).trans q) (λ_ q=>q) λ_ _ q=>q;rintro rfl;rcases hc with rfl | hc
  ·rw [hfree] at e;cases e
  ·rw [hfree] at hc;cases hc
 rcases hx with hk | hk
 ·refine wpAny_storeName_local hk hn (λh' hn' hs=>?_) hcls;obtain⟨oL,_,_,hoL,_⟩:=id hn;refine h _ ⟨I.ok,I.os,I.bare,⟨λb o e n hb hx=>?_,λb o e n hb hx=>?_,I.base.free,λb o e hx=>?_,I.base.tups,I.base.frzs,I.base.tbls⟩,⟨_,hn',λj y v' e1 e2 e3=>?_⟩,λy c e=>?_,I.free,I.freeC,λp hp=>?_,tracked ⟨oL,hoL,I.free⟩ hs,by simpa using I.len⟩ ⟨_,hs,.inl rfl⟩
  ·exact(hs.2 b (Ip (IF (HV e) I.ok.above))).trans (I.base.keep b o e n hb hx)
  ·obtain⟨sl,e1⟩:=I.base.slot b o e n hb hx;exact⟨sl,(hs.2 b (Ip (IF (HV e) I.ok.above))).trans e1⟩
  ·obtain⟨o',e1⟩:=I.base.there b o e hx;exact⟨o',(hs.2 b (Ip (IF (HV e) I.ok.above))).trans e1⟩
  ·by_cases hj:j=i
   ·subst hj;rw [hi] at e1;cases e1;rw [Ir hiσ] at e2;cases e2;exact⟨u,r,.inl ⟨hk,NH⟩⟩
   ·rw [Ii (Ne.symm hj)] at e2;obtain⟨u',r',q⟩:=hl j y v' e1 e2 e3;refine⟨u',r',?_⟩;rcases q with⟨k,e⟩ | ⟨k,c,e,z⟩
    ·refine .inl ⟨k,?_⟩;have:y≠x:=λe=>hj (pX hN e1 (e▸hi));simp [this,e]
    ·exact .inr ⟨k,c,e,z.sameBut hs (cne y c e)⟩
  ·obtain⟨w',z⟩:=I.cell y c e;exact⟨w',z.sameBut hs (cne y c e)⟩
  ·obtain⟨e,n,ne,nf,d⟩:=I.pin p hp;exact⟨(hs.2 p.1 ne).trans e,n,ne,nf,d⟩
 ·have hfn:X.fn x=true:=by
   rcases hf with z | z
   ·exact z
   ·rw [z] at hk;cases hk
  obtain⟨c,hc⟩:=I.ok.has x (.inl hk);obtain⟨w',z⟩:=I.cell x c hc;refine wpAny_storeName_cell I.ok.kind hk hc z (λh' hc' hs=>?_);obtain⟨oc,hoc,hocd⟩:=id z;refine h {s with heap:=h'} ⟨I.ok,I.os,I.bare,⟨λb o e n hb hx=>?_,λb o e n hb hx=>?_,I.base.free,λb o e hx=>?_,I.base.tups,I.base.frzs,I.base.tbls⟩,⟨m,hn.sameBut hs (Ne.symm (cne x c hc)),λj y v' e1 e2 e3=>?_⟩,λy c' e=>?_,I.free,I.freeC,λp hp=>?_,tracked ⟨oc,hoc,I.freeC x c hc⟩ hs,by simpa using I.len⟩ ⟨c,hs,.inr hc⟩
  ·exact(hs.2 b (Ip (IF (HV e) (I.ok.cab x c hfn hc)))).trans (I.base.keep b o e n hb hx)
  ·obtain⟨sl,e1⟩:=I.base.slot b o e n hb hx;exact⟨sl,(hs.2 b (Ip (IF (HV e) (I.ok.cab x c hfn hc)))).trans e1⟩
  ·obtain⟨o',e1⟩:=I.base.there b o e hx;exact⟨o',(hs.2 b (Ip (IF (HV e) (I.ok.cab x c hfn hc)))).trans e1⟩
  ·by_cases hj:j=i
   ·subst hj;rw [hi] at e1;cases e1;rw [Ir hiσ] at e2;cases e2;exact⟨u,r,.inr ⟨.inl hk,c,hc,hc'⟩⟩
   ·rw [Ii (Ne.symm hj)] at e2;obtain⟨u',r',q⟩:=hl j y v' e1 e2 e3;refine⟨u',r',?_⟩;rcases q with q | ⟨k,c',e,z'⟩
    ·exact .inl q
    ·refine .inr ⟨k,c',e,z'.sameBut hs ?_⟩;rintro rfl;exact hj (pX hN e1 (I.ok.inj _ _ _ e hc▸hi))
  ·by_cases hcc:c'=c
   ·subst hcc;exact⟨_,hc'⟩
   ·obtain⟨w2,z2⟩:=I.cell y c' e;exact⟨w2,z2.sameBut hs hcc⟩
  ·obtain⟨e,n,ne,nf,d⟩:=I.pin p hp;refine⟨(hs.2 p.1 ?_).trans e,n,ne,nf,d⟩;intro q;rw [q,hoc] at e;have q':oc=p.2:=II e;exact d w' (by rw [<-q'];exact hocd)
theorem kE{M:Model}{A:N2}{E:NJ->NL->Prop}{i:Nat}{x:Str}{v:V}{u:NJ}{Q:Unit->NL->Prop}(I:ae X O6 σ H s)(hN:X.N.Nodup)(hi:X.N[i]?=some x)(hx:fc X.env.scope x)(r:ax v u)
 (h:∀s',ae X O6 (σ.set i (some v)) H s'->Q () s')(hf:X.fn x=true\/X.env.scope.names.lookup x=some .local:=by first | exact .inl rfl | exact .inr rfl | assumption):NS M A (storeName X.env x u) Q E s:=
 pY I hN hi hx r (λs' I' _=>h s' I') hf
theorem ae.call'{s':NL}{ch:List NK}(I:ae X O6 σ H s)(ho:s'.os=s.os)(u:Un (dZ X.stack) ch H H' s.heap s'.heap)(hok:bG X.prog X.w H' s'.heap)(hg:OL s'.gens)
 (hch:∀b∈ch,(b∈X.ex\/X.s₀.heap.objs.size<=b)/\b≠X.env.locals/\(∀x c,X.env.cells.lookup x=some c->c≠b)/\∀p∈X.pn++O6,p.1≠b):ae X O6 σ H' s':=by
 obtain⟨h',g',d',t',o'⟩:=s';have e:o'=s.os:=ho;subst e;exact I.call (g':=g') (t':=t') (d':=d') u hok hg hch
end
abbrev XK:=NJ->Option NK->Hp->Prop
abbrev St:=List (Option V)
abbrev VK:=V->Hp->Prop
abbrev TE:=St->Hp->VK->Prop
abbrev TT:=St->Hp->(Bool->Hp->Prop)->Prop
abbrev TA:=St->Hp->(List V->Hp->Prop)->Prop
structure fU where
 nx:St->Hp->Prop
 rt:VK
 bk:St->Hp->Prop:=λ_ _=>False
 ct:St->Hp->Prop:=λ_ _=>False
abbrev TS:=fU->St->Hp->Prop
inductive EP (X:Cx) (O6:List (NK×Obj)) (σ:St) (Q:VK) (u:NJ) (s':NL):Prop
 | mk (v:V) (H':Hp):ae X O6 σ H' s'->ax v u->Q v H'->EP X O6 σ Q u s'
inductive TP (X:Cx) (O6:List (NK×Obj)) (σ:St) (Q:Bool->Hp->Prop) (b:Bool) (s':NL):Prop
 | mk (H':Hp):ae X O6 σ H' s'->Q b H'->TP X O6 σ Q b s'
inductive AP (X:Cx) (O6:List (NK×Obj)) (σ:St) (Q:List V->Hp->Prop) (us:List NJ) (s':NL):Prop
 | mk (vs:List V) (H':Hp):ae X O6 σ H' s'->az vs us->Q vs H'->AP X O6 σ Q us s'
def SP(X:Cx)(O6:List (NK×Obj))(D:fU)(f:Flow)(s':NL):Prop:=
 match f with
 | .next=>∃σ' H',ae X O6 σ' H' s'/\D.nx σ' H'
 | .brk=>∃σ' H',ae X O6 σ' H' s'/\D.bk σ' H'
 | .cont=>∃σ' H',ae X O6 σ' H' s'/\D.ct σ' H'
 | .ret u=>∃v σ' H',ae X O6 σ' H' s'/\ax v u/\D.rt v H'
def PE(X:Cx)(e:NN)(t:TE):Prop:=
 ∀(O6:List (NK×Obj))(s:NL)(σ:St)(H:Hp)(Q:VK),ae X O6 σ H s->t σ H Q->NS (NT X.prog X.w) X.A (eval e X.env) (EP X O6 σ Q) X.xe s
def PT(X:Cx)(e:NN)(t:TT):Prop:=
 ∀(O6:List (NK×Obj))(s:NL)(σ:St)(H:Hp)(Q:Bool->Hp->Prop),ae X O6 σ H s->t σ H Q->NS (NT X.prog X.w) X.A (isTrue e X.env (eval e X.env)) (TP X O6 σ Q) X.xe s
def PW(X:Cx)(e:NN)(t:TT):Prop:=
 ∀(whole:Sem NJ)(O6:List (NK×Obj))(s:NL)(σ:St)(H:Hp)(Q:Bool->Hp->Prop),ae X O6 σ H s->t σ H Q->NS (NT X.prog X.w) X.A (isTrue e X.env whole) (TP X O6 σ Q) X.xe s
theorem PW.pt{X:Cx}{e:NN}{t:TT}(h:PW X e t):PT X e t:=h _
def PA(X:Cx)(es:List NN)(t:TA):Prop:=
 ∀(pos:Pos)(O6:List (NK×Obj))(s:NL)(σ:St)(H:Hp)(Q:List V->Hp->Prop),ae X O6 σ H s->t σ H Q->NS (NT X.prog X.w) X.A (spliced (N7 pos (NP es X.env))) (AP X O6 σ Q) X.xe s
def PS(X:Cx)(st:N1)(t:TS):Prop:=
 ∀(O6:List (NK×Obj))(s:NL)(σ:St)(H:Hp)(D:fU),ae X O6 σ H s->t D σ H->NS (NT X.prog X.w) X.A (exec st X.env) (SP X O6 D) X.xe s
def bx(X:Cx)(st:List N1)(t:TS):Prop:=
 ∀(O6:List (NK×Obj))(s:NL)(σ:St)(H:Hp)(D:fU),ae X O6 σ H s->t D σ H->NS (NT X.prog X.w) X.A (execs st X.env) (SP X O6 D) X.xe s
theorem ar{α:Type}{t:Sem α}{Q Q':α->NL->Prop}{M:Model}{A:N2}{E:NJ->NL->Prop}{s:NL}(h:NS M A t Q E s)(hQ:∀a s,Q a s->Q' a s):NS M A t Q' E s:=N8 h hQ λ_ _ x=>x
section
variable {X:Cx}
theorem Ht{a b:NN}{ta tb:TE}(ha:PE X a ta)(hb:PE X b tb){O6:List (NK×Obj)}{s:NL}{σ:St}{H:Hp}{R:V->V->Hp->Prop}(I:ae X O6 σ H s)(h:ta σ H λx H1=>tb σ H1 λy H2=>R x y H2)
 {α:Type}{Q:α->NL->Prop}{f:NJ->NJ->Sem α}
 (hf:∀v u s2 x y H2,ae X O6 σ H2 s2->ax x v->ax y u->R x y H2->NS (NT X.prog X.w) X.A (f v u) Q X.xe s2):
 NS (NT X.prog X.w) X.A (eval a X.env) (λv s₁=>NS (NT X.prog X.w) X.A (eval b X.env) (λu s₂=>NS (NT X.prog X.w) X.A (f v u) Q X.xe s₂) X.xe s₁) X.xe s:=by
 refine ar (ha O6 s σ H _ I h) λv s1 ⟨x,H1,I1,r1,q1⟩=>?_;refine ar (hb O6 s1 σ H1 _ I1 q1) λu s2 ⟨y,H2,I2,r2,q2⟩=>?_;exact hf v u s2 x y H2 I2 r1 r2 q2
def dF(i:Nat):TE:=λσ H Q=>∃v,σ[i]?=some (some v)/\Q v H
def tC(v:V):TE:=λ_ H Q=>Q v H
theorem mr{i:Nat}{x:Str}{pos:Pos}(hN:X.N[i]?=some x)(hv:jw X.env.scope x)(hd:(x==("__debug__":Str))=false:=by decide)(hcd:(x==("__classdict__":Str))=false:=by decide):PE X (.Name x pos) (dF i):=by
 intro O6 s σ H Q I h;obtain⟨v,e,h⟩:=h;obtain⟨m,hn,hl⟩:=I.loc;obtain⟨u,r,l⟩:=hl i x v hN e hv;have fin:EP X O6 σ Q u s:=⟨v,H,I,r,h⟩;rcases l with⟨hk,hm⟩ | ⟨hk,c,hc,hcell⟩
 ·exact wpAny_Name (wpAny_loadName_local I.ok.kind hk hn hm fin) hd
 ·rcases hk with hk | hk
  ·exact wpAny_Name (wpAny_loadName_cell I.ok.kind hk hc hcell fin) hd
  ·exact wpAny_Name (wpAny_loadName_free I.ok.kind hk hc hcell fin hcd) hd
theorem cn{i j pos}:PE X (.Constant (.int i) j pos) (tC (.int i)):=λ_ _ _ H _ I h=>wpAny_Constant_int ⟨.int i,H,I.tok _,⟨_,rfl⟩,h⟩
theorem yW{b j pos}:PE X (.Constant (.bool b) j pos) (tC (.bl b)):=λ_ _ _ H _ I h=>Constant_bool ⟨.bl b,H,I,rfl,h⟩
theorem yX{j pos}:PE X (.Constant .none j pos) (tC .non):=λ_ _ _ H _ I h=>Constant_none ⟨.non,H,I,rfl,h⟩
theorem yY{x j pos}:PE X (.Constant (.str x) j pos) (tC (.str x)):=λ_ _ _ H _ I h=>Calls.Constant_str ⟨.str x,H,I.tok _,⟨_,rfl⟩,h⟩
def Gl(X:Cx)(x:Str):Prop:=X.env.kindOf x=some .globalImplicit
theorem mv{E:NJ->NL->Prop}{O6:List (NK×Obj)}{s:NL}{σ:St}{H:Hp}{x:Str}{u:NJ}{pos:Pos}{Q:NJ->NL->Prop}(I:ae X O6 σ H s)(hg:Gl X x)(hm:X.mg x=some u)(h:Q u s)
 (hd:(x==("__debug__":Str))=false:=by decide):NS (NT X.prog X.w) X.A (eval (.Name x pos) X.env) Q E s:=
 Lh I.ok.kind hg (Calls.loadGlobal_global (by rw [I.ok.glob];exact I.mod.glob.keeps I.bk) hm h) hd
theorem iG{E:NJ->NL->Prop}{O6:List (NK×Obj)}{s:NL}{σ:St}{H:Hp}{x:Str}{u:NJ}{pos:Pos}{Q:NJ->NL->Prop}(I:ae X O6 σ H s)(hg:Gl X x)(hm:X.mg x=none)(hv:N3 x=some u)(h:Q u s)
 (hn:x≠"__name__":=by decide)(hd:(x==("__debug__":Str))=false:=by decide):NS (NT X.prog X.w) X.A (eval (.Name x pos) X.env) Q E s:=by
 obtain⟨mb,h1,h2⟩:=I.mod.blt;exact Lh I.ok.kind hg (Calls.loadGlobal_builtin (by rw [I.ok.glob];exact I.mod.glob.keeps I.bk) hm (by rw [I.ok.blt];exact h1.keeps I.bk) ((h2 x hn).trans hv) h) hd
theorem iH{x:Str}{v:V}{u:NJ}{pos:Pos}(hg:Gl X x)(hm:X.mg x=some u)(r:ax v u)(hd:(x==("__debug__":Str))=false:=by decide):PE X (.Name x pos) (tC v):=
 λ_ _ _ H _ I h=>mv I hg hm ⟨v,H,I,r,h⟩ hd
theorem d3{x:Str}{v:V}{u:NJ}{pos:Pos}(hg:Gl X x)(hm:X.mg x=none)(hv:N3 x=some u)(r:ax v u)(hn:x≠"__name__":=by decide)(hd:(x==("__debug__":Str))=false:=by decide):PE X (.Name x pos) (tC v):=
 λ_ _ _ H _ I h=>iG I hg hm hv ⟨v,H,I,r,h⟩ hn hd
variable {a b:NN} {ta tb:TE} {pos:Pos}
def PC(X:Cx)(op:OC)(a b:NN)(t:TE):Prop:=
 ∀(O6:List (NK×Obj))(s:NL)(σ:St)(H:Hp)(Q:VK),ae X O6 σ H s->t σ H Q->
  NS (NT X.prog X.w) X.A (eval a X.env) (λv s₁=>NS (NT X.prog X.w) X.A (eval b X.env) (λu s₂=>NS (NT X.prog X.w) X.A (NY op v u) (EP X O6 σ Q) X.xe s₂) X.xe s₁) X.xe s
theorem pZ(b:NN){op:OC}(h:op≠ .In)(h2:op≠ .NotIn):N6 op b=false:=by
 have e1:(op==CmpOp.In)=false:=by cases op <;> first | rfl | exact absurd rfl h
 have e2:(op==Nn)=false:=by cases op <;> first | rfl | exact absurd rfl h2
 cases b <;> simp [N6,e1,e2]
def tB(t:TE):TT:=λσ H Q=>t σ H λx H1=>∃c,x= .bl c/\Q c H1
theorem yZ{op:OC}{t:TE}(h:PC X op a b t)(h1:N6 op b=false:=by first | exact pZ _ NB NB | rfl):PE X (.Compare a [op] [b] pos) t:=λO6 s σ H Q I hw=>wpAny_Compare1 (h O6 s σ H Q I hw) h1
theorem mw{op:OC}{t:TE}(h:PC X op a b t)(h1:N6 op b=false:=by first | exact pZ _ NB NB | rfl):PT X (.Compare a [op] [b] pos) (tB t):=by
 intro O6 s σ H Q I hw;refine wpAny_isTrue_Compare1 (ar (h O6 s σ H _ I hw) λv s1 h1=>ar h1 λu s2 h2=>ar h2 λc s3 ⟨x,H1,I1,r1,q1⟩=>?_) h1;obtain⟨d,rfl,q⟩:=q1;cases r1;exact N5 ⟨H1,I1,q⟩
theorem y3{e:NN}{t:TE}(h:PE X e t)(he:∀whole,isTrue e X.env whole=(do let v<-whole;standAt e.pos;holding [v] (truthy v)):=by intro _;rfl):PT X e (tB t):=by
 intro O6 s σ H Q I hw;refine isTrue_plain (ar (h O6 s σ H _ I hw) λv s1 ⟨x,H1,I1,r1,q1⟩=>?_) (he _);obtain⟨d,rfl,q⟩:=q1;cases r1;exact N5 ⟨H1,I1,q⟩
variable {tA tB':TT} {rest:List NN}
def p5(t u:TT):TT:=λσ H Q=>t σ H λc H1=>if c=true then u σ H1 Q else Q false H1
def p7(t u:TT):TT:=λσ H Q=>t σ H λc H1=>if c=true then Q true H1 else u σ H1 Q
def p8(t:TT):TT:=λσ H Q=>t σ H λc H1=>Q (!c) H1
theorem y4(ha:PT X a tA):PW X (.BoolOp .And [a] pos) tA:=by
 intro wh O6 s σ H Q I h;refine isTrue_and (ar (ha O6 s σ H Q I h) λc s1 e=>?_);cases c with
 | true=>exact isTrue_and_nil e
 | false=>exact e
theorem p9(ha:PT X a tA):PW X (.BoolOp .Or [a] pos) tA:=by
 intro wh O6 s σ H Q I h;refine isTrue_or (ar (ha O6 s σ H Q I h) λc s1 e=>?_);cases c with
 | false=>exact isTrue_or_nil e
 | true=>exact e
theorem y6(ha:PT X a tA)(hb:PW X (.BoolOp .And (b::rest) pos) tB'):PW X (.BoolOp .And (a::b::rest) pos) (p5 tA tB'):=by
 intro wh O6 s σ H Q I h;refine isTrue_and (ar (ha O6 s σ H _ I h) λc s1 ⟨H1,I1,q1⟩=>?_);cases c with
 | true=>exact hb wh O6 s1 σ H1 Q I1 q1
 | false=>exact⟨H1,I1,q1⟩
theorem qa(ha:PT X a tA)(hb:PW X (.BoolOp .Or (b::rest) pos) tB'):PW X (.BoolOp .Or (a::b::rest) pos) (p7 tA tB'):=by
 intro wh O6 s σ H Q I h;refine isTrue_or (ar (ha O6 s σ H _ I h) λc s1 ⟨H1,I1,q1⟩=>?_);cases c with
 | true=>exact⟨H1,I1,q1⟩
 | false=>exact hb wh O6 s1 σ H1 Q I1 q1
theorem y8(ha:PT X a tA):PT X (.UnaryOp .Not a pos) (p8 tA):=by
 intro O6 s σ H Q I h;exact isTrue_not (ar (ha O6 s σ H (λc H1=>Q (!c) H1) I h) λc s1 uu8=>by obtain⟨H1,I1,q⟩:=uu8;exact⟨H1,I1,q⟩)
def qc(ta tb:TE):TE:=λσ H Q=>ta σ H λx H1=>∃c,x= .bl c/\if c=true then tb σ H1 Q else Q (.bl false) H1
def qf(ta tb:TE):TE:=λσ H Q=>ta σ H λx H1=>∃c,x= .bl c/\if c=true then Q (.bl true) H1 else tb σ H1 Q
def qg(ta:TE):TE:=λσ H Q=>ta σ H λx H1=>∃c,x= .bl c/\Q (.bl (!c)) H1
theorem y9{op}{t:TE}(h:PE X a t):PE X (.BoolOp op [a] pos) t:=λO6 s σ H Q I hw=>BoolOp_one (h O6 s σ H Q I hw)
theorem z5(ha:PE X a ta)(hb:PE X (.BoolOp .And (b::rest) pos) tb):PE X (.BoolOp .And (a::b::rest) pos) (qc ta tb):=by
 intro O6 s σ H Q I h;refine BoolOp_and (ar (ha O6 s σ H _ I h) λv s1 ⟨x,H1,I1,r1,q1⟩=>?_);obtain⟨c,rfl,q1⟩:=q1;cases r1;refine N5 ?_;cases c with
 | true=>exact hb O6 s1 σ H1 Q I1 q1
 | false=>exact⟨.bl false,H1,I1,rfl,q1⟩
theorem z7(ha:PE X a ta)(hb:PE X (.BoolOp .Or (b::rest) pos) tb):PE X (.BoolOp .Or (a::b::rest) pos) (qf ta tb):=by
 intro O6 s σ H Q I h;refine BoolOp_or (ar (ha O6 s σ H _ I h) λv s1 ⟨x,H1,I1,r1,q1⟩=>?_);obtain⟨c,rfl,q1⟩:=q1;cases r1;refine N5 ?_;cases c with
 | false=>exact hb O6 s1 σ H1 Q I1 q1
 | true=>exact⟨.bl true,H1,I1,rfl,q1⟩
theorem z8(ha:PE X a ta):PE X (.UnaryOp .Not a pos) (qg ta):=by
 intro O6 s σ H Q I h;refine UnaryOp_ (ar (ha O6 s σ H _ I h) λv s1 ⟨x,H1,I1,r1,q1⟩=>?_);obtain⟨c,rfl,q1⟩:=q1;cases r1;exact not_of (N5 ⟨.bl (!c),H1,I1,rfl,q1⟩)
end
def aQ(K:Hx)(H:Hp)(a:NK)(xs:List V):Prop:=
 Rd H a (.lst xs)\/
  ∃(o:Obj)(its:Array NJ)(n:Nat),K.lookup a=some o/\o.cls= .type "list"/\o.dict=none/\o.data= .seq its n/\its.size<=NO/\az xs its.toList
def bg(K:Hx)(H:Hp)(a:NK)(xs:List V):Prop:=
 Rd H a (.tup xs)\/
  ∃(o:Obj)(its:Array NJ)(n:Nat),K.lookup a=some o/\o.cls= .type "tuple"/\o.data= .seq its n/\its.size<=NO/\az xs its.toList
def z9:NJ->Option V
 | .none=>some .non
 | .bool b=>some (.bl b)
 | .int i _=>some (.int i)
 | .str x _=>some (.str x)
 | .bytes b _=>some (.byt b)
 | .float b _=>some (.flt b)
 | .ref a=>some (.ref a)
 | .type n=>some (.ty n)
 | _=>none
theorem ax.abs{x:V}{u:NJ}(r:ax x u):z9 u=some x:=by
 cases x with
 | non=>cases r;rfl
 | bl _=>cases r;rfl
 | int _=>obtain⟨t,rfl⟩:=r;rfl
 | str _=>obtain⟨t,rfl⟩:=r;rfl
 | byt _=>obtain⟨t,rfl⟩:=r;rfl
 | flt _=>obtain⟨t,rfl⟩:=r;rfl
 | ref _=>cases r;rfl
 | ty _=>cases r;rfl
theorem ax.inj{x y:V}{u:NJ}(r:ax x u)(q:ax y u):x=y:=II (r.abs.symm.trans q.abs)
theorem az.inj:∀{xs ys:List V}{us:List NJ},az xs us->az ys us->xs=ys
 | _,_,_,.nil,.nil=>rfl
 | _,_,_,.cons r t,.cons r' t'=>by rw [r.inj r',az.inj t t']
section
variable {X:Cx} {O6:List (NK×Obj)} {σ:St} {H:Hp} {s:NL} {a:NK} {xs ys:List V}
theorem aQ.of{K:Hx}(h:H a=some (.lst xs)):aQ K H a xs:= .inl (.inl h)
theorem bg.of{K:Hx}(h:H a=some (.tup xs)):bg K H a xs:= .inl (.inl h)
theorem ae.list(I:ae X O6 σ H s)(h:aQ X.K H a xs):∃its:List NJ,az xs its/\PlainL s.heap a its.toArray/\xs.length<=NO:=by
 rcases h with h | ⟨o,its,n,hk,hc,hd,hs,hz,r⟩
 ·obtain⟨z,its,n,r,e⟩:=h.ok I.hok;exact⟨its,r,⟨_,n,e,rfl,rfl,rfl⟩,z⟩
 ·refine⟨its.toList,r,⟨o,n,I.kIn a o hk,hc,hd,by simpa using hs⟩,?_⟩;have e:=r.length;simp only [IV] at e;omega
theorem ae.tuple(I:ae X O6 σ H s)(h:bg X.K H a xs):∃its:List NJ,az xs its/\IsTup s.heap a its.toArray/\xs.length<=NO:=by
 rcases h with h | ⟨o,its,n,hk,hc,hs,hz,r⟩
 ·obtain⟨z,its,r,p⟩:=h.ok I.hok;exact⟨its,r,p,z⟩
 ·refine⟨its.toList,r,⟨o,I.kIn a o hk,hc,n,by simpa using hs⟩,?_⟩;have e:=r.length;simp only [IV] at e;omega
theorem ae.list_inj(I:ae X O6 σ H s)(h:aQ X.K H a xs)(h':aQ X.K H a ys):xs=ys:=by
 obtain⟨its,r,⟨o,n,e,_,_,d⟩,_⟩:=I.list h;obtain⟨its',r',⟨o',n',e',_,_,d'⟩,_⟩:=I.list h';rw [e] at e';cases e';rw [d] at d';injection d' with d1 _
 have:its=its':=by simpa using congrArg M8 d1
 subst this;exact r.inj r'
theorem ae.tuple_inj(I:ae X O6 σ H s)(h:bg X.K H a xs)(h':bg X.K H a ys):xs=ys:=by
 obtain⟨its,r,⟨o,e,_,n,d⟩,_⟩:=I.tuple h;obtain⟨its',r',⟨o',e',_,n',d'⟩,_⟩:=I.tuple h';rw [e] at e';cases e';rw [d] at d';injection d' with d1 _
 have:its=its':=by simpa using congrArg M8 d1
 subst this;exact r.inj r'
end
abbrev Cx.wish(X:Cx)(E:NJ->NL->Prop):Cx:={X with xe:=E}
abbrev Cx.nox(X:Cx):Cx:=X.wish λ_ _=>False
theorem Cx.Ok.wish{X:Cx}(ok:X.Ok)(E:NJ->NL->Prop):(X.wish E).Ok:=
 ⟨ok.mod,ok.kind,ok.glob,ok.blt,ok.above,ok.inj,ok.has,ok.cab,ok.hd,ok.frames,ok.stk,ok.exf,ok.bs,ok.bsz,ok.noex,ok.exfs,ok.funs,ok.frf⟩
theorem Cx.Ok.unwish{X:Cx}{E:NJ->NL->Prop}(ok:(X.wish E).Ok):X.Ok:=
 ⟨ok.mod,ok.kind,ok.glob,ok.blt,ok.above,ok.inj,ok.has,ok.cab,ok.hd,ok.frames,ok.stk,ok.exf,ok.bs,ok.bsz,ok.noex,ok.exfs,ok.funs,ok.frf⟩
section
variable {X:Cx} {O6:List (NK×Obj)} {σ:St} {H:Hp} {s:NL} {E:NJ->NL->Prop}
theorem ae.wish(I:ae X O6 σ H s)(E:NJ->NL->Prop):ae (X.wish E) O6 σ H s:=⟨I.ok.wish E,I.os,I.bare,I.base,I.loc,I.cell,I.free,I.freeC,I.pin,I.hok,I.len⟩
theorem ae.unwish(I:ae (X.wish E) O6 σ H s):ae X O6 σ H s:=⟨I.ok.unwish,I.os,I.bare,I.base,I.loc,I.cell,I.free,I.freeC,I.pin,I.hok,I.len⟩
theorem SP.unwish{D:fU}{f:Flow}{s':NL}(h:SP (X.wish E) O6 D f s'):SP X O6 D f s':=by
 cases f with
 | next=>obtain⟨σ',H',I,q⟩:=h;exact⟨σ',H',I.unwish,q⟩
 | brk=>obtain⟨σ',H',I,q⟩:=h;exact⟨σ',H',I.unwish,q⟩
 | cont=>obtain⟨σ',H',I,q⟩:=h;exact⟨σ',H',I.unwish,q⟩
 | ret u=>obtain⟨v,σ',H',I,r,q⟩:=h;exact⟨v,σ',H',I.unwish,r,q⟩
theorem bx.nox{st:List N1}{t:TS}(h:bx X.nox st t):bx X st t:=λO6 s σ H D I hw=>
 N8 (h O6 s σ H D (I.wish _) hw) (λ_ _ q=>q.unwish) λ_ _ z=>JA z
end
section
variable {X:Cx} {st:N1} {rest:List N1} {t u:TS} {e:NN} {te:TE} {pos:Pos}
def qh:TS:=λD σ H=>D.nx σ H
def qi(t u:TS):TS:=λD σ H=>t {D with nx:=u D} σ H
theorem my:bx X [] qh:=λ_ _ σ H _ I h=>ON ⟨σ,H,I,h⟩
theorem gB(h1:PS X st t)(h2:bx X rest u):bx X (st::rest) (qi t u):=by
 intro O6 s σ H D I h;refine wpAny_execs_cons (ar (h1 O6 s σ H {D with nx:=u D} I h) λf s1 q=>?_);cases f with
 | next=>
  obtain⟨σ',H',I',q⟩:=q;exact h2 O6 s1 σ' H' D I' q
 | ret v=>exact q
 | brk=>exact q
 | cont=>exact q
theorem jx(h1:PS X st t):bx X [st] t:=by
 intro O6 s σ H D I h;refine wpAny_execs_cons (ar (h1 O6 s σ H D I h) λf s1 q=>?_);cases f with
 | next=>exact ON q
 | ret v=>exact q
 | brk=>exact q
 | cont=>exact q
theorem ae.quiet{O6:List (NK×Obj)}{σ:St}{H:Hp}{s:NL}(I:ae X O6 σ H s):interactive X.env=false:=by simp [interactive,I.ok.kind]
def qj(te:TE):TS:=λD σ H=>te σ H λ_ H1=>D.nx σ H1
theorem qm(he:PE X e te)(hs:Oa e none pos.line X.env=pure false:=by rfl):PS X (.Expr e pos) (qj te):=by
 intro O6 s σ H D I h;exact wpAny_Expr_any (ar (he O6 s σ H _ I h) λv s1 uu12=>by obtain⟨x,H1,I1,r1,q1⟩:=uu12;exact⟨σ,H1,I1,q1⟩) I.quiet hs
def qo(te:TE):TS:=λD σ H=>te σ H D.rt
theorem kF(he:PE X e te):PS X (.Return (some e) pos) (qo te):=by
 intro O6 s σ H D I h;exact wpAny_Return_some (ar (he O6 s σ H _ I h) λv s1 uu13=>by obtain⟨x,H1,I1,r1,q1⟩:=uu13;exact⟨x,σ,H1,I1,r1,q1⟩)
def qp(c:TT)(t u:TS):TS:=λD σ H=>c σ H λb H1=>if b=true then t D σ H1 else u D σ H1
theorem mz{c:NN}{a b:List N1}{tc:TT}(hc:PT X c tc)(ha:bx X a t)(hb:bx X b u):PS X (.If c a b pos) (qp tc t u):=by
 intro O6 s σ H D I h;refine wpAny_If (ar (hc O6 s σ H _ I h) λd s1 ⟨H1,I1,q1⟩=>?_);cases d with
 | true=>exact ha O6 s1 σ H1 D I1 q1
 | false=>exact hb O6 s1 σ H1 D I1 q1
def Aa:TS:=λ_ _ _=>False
theorem Ab:PS X st Aa:=λ_ _ _ _ _ _ h=>h.elim
end
abbrev TG:=V->St->Hp->(St->Hp->Prop)->Prop
abbrev fC:=List V->St->Hp->(St->Hp->Prop)->Prop
def PG(X:Cx)(target:NN)(t:TG):Prop:=
 ∀(O6:List (NK×Obj))(s:NL)(σ:St)(H:Hp)(v:V)(u:NJ)(Q:St->Hp->Prop),ae X O6 σ H s->ax v u->t v σ H Q->
  NS (NT X.prog X.w) X.A (assign target X.env u) (λ_ s'=>∃σ' H',ae X O6 σ' H' s'/\Q σ' H') X.xe s
def kG(X:Cx)(ts:List NN)(t:fC):Prop:=
 ∀(O6:List (NK×Obj))(s:NL)(σ:St)(H:Hp)(vs:List V)(us:List NJ)(Q:St->Hp->Prop),ae X O6 σ H s->az vs us->t vs σ H Q->
  NS (NT X.prog X.w) X.A (assignInOrder ((OD ts X.env).map (·.2)) us) (λ_ s'=>∃σ' H',ae X O6 σ' H' s'/\Q σ' H') X.xe s
abbrev mB:=V->V->V->Hp->(Hp->Prop)->Prop
def qr(X:Cx)(t:mB):Prop:=
 ∀(O6:List (NK×Obj))(s:NL)(σ:St)(H:Hp)(o i v:V)(ov iv u:NJ)(Q:Hp->Prop),ae X O6 σ H s->ax o ov->ax i iv->ax v u->t o i v H Q->
  NS (NT X.prog X.w) X.A (setItem ov iv u) (λ_ s'=>∃H',ae X O6 σ H' s'/\Q H') X.xe s
section
variable {X:Cx} {pos:Pos}
def g5(i:Nat):TG:=λv σ H Q=>Q (σ.set i (some v)) H
theorem bq{i:Nat}{x:Str}(hN:X.N.Nodup)(hi:X.N[i]?=some x)(hx:fc X.env.scope x)(hf:X.fn x=true\/X.env.scope.names.lookup x=some .local:=by first | exact .inl rfl | exact .inr rfl | assumption):PG X (.Name x pos) (g5 i):=by
 intro O6 s σ H v u Q I r h;exact wpAny_assign_Name (kE I hN hi hx r (λs' I'=>⟨_,H,I',h⟩) hf)
def mC:fC:=λvs σ H Q=>vs=[]/\Q σ H
def mD(t:TG)(u:fC):fC:=λvs σ H Q=>∃v r,vs=v::r/\t v σ H λσ' H'=>u r σ' H' Q
theorem mE:kG X [] mC:=by
 intro O6 s σ H vs us Q I r h;obtain⟨e,h⟩:=h;subst e;cases r;exact assignInOrder_nil ⟨σ,H,I,h⟩
theorem g6{e:NN}{es:List NN}{t:TG}{u:fC}(h1:PG X e t)(h2:kG X es u)
 (hs:(OD (e::es) X.env).map (·.2)=assign e X.env::(OD es X.env).map (·.2):=by rfl):kG X (e::es) (mD t u):=by
 intro O6 s σ H vs us Q I r h;obtain⟨v,vr,e1,h⟩:=h;subst e1;cases r with
 | cons r rr=>
  rw [hs];refine OS (ar (h1 O6 s σ H _ _ _ I r h) λ_ s1 ⟨σ1,H1,I1,q1⟩=>?_);exact h2 O6 s1 σ1 H1 _ _ Q I1 rr q1
def mF(K:Hx)(n:Nat)(t:fC):TG:=λv σ H Q=>∃a xs,v= .ref a/\bg K H a xs/\xs.length=n/\t xs σ H Q
theorem mG{es:List NN}{k:Nat}{t:fC}{n:Nat}(hc:X.calm=true)(h:kG X es t)
 (hn:(OD es X.env).length=n:=by rfl)(hst:(OD es X.env).findIdx? (·.1)=none:=by rfl):PG X (.Tuple es k pos) (mF X.K n t):=by
 intro O6 s σ H v u Q I r hw;obtain⟨a,xs,e1,hq,hl,hw⟩:=hw;subst e1;cases r;obtain⟨its,rv,ht,hz⟩:=I.tuple hq;refine assign_Tuple_tuple (I.ok.hd hc) ht (by simp [hn,<-hl,rv.length]) hst λh' hx=>?_;have I1:ae X O6 σ H {s with heap:=h'}:=I.kept (t':=s.toks) λb o e=>hx b o (Ip (HV e)) e;exact h O6 _ σ H xs _ Q I1 (by simpa using rv) hw
def qt(to ti:TE)(t:mB):TG:=λv σ H Q=>to σ H λo H1=>ti σ H1 λi H2=>t o i v H2 λH3=>Q σ H3
theorem mH{o i:NN}{to ti:TE}{t:mB}(ho:PE X o to)(hi:PE X i ti)(hs:qr X t)
 (ha:∀v,assign (.Subscript o i pos) X.env v=(do
   let ov<-holding [v] (eval o X.env)
   let iv<-holding [v,ov] (eval i X.env)
   standAt pos
   holding [v,ov,iv] (setItem ov iv v)
   release [v,ov,iv] []):=by intro _;rfl):PG X (.Subscript o i pos) (qt to ti t):=by
 intro O6 s σ H v u Q I r h;rw [ha];refine NM (Oc (ar (ho O6 s σ H _ I h) λov s1 ⟨x,H1,I1,r1,q1⟩=>?_));refine NM (Oc (ar (hi O6 s1 σ H1 _ I1 q1) λiv s2 ⟨y,H2,I2,r2,q2⟩=>?_));refine NM (OT (NM (Oc (ar (hs O6 s2 σ H2 x y v ov iv u _ I2 r1 r2 r q2) λ_ s3 ⟨H3,I3,q3⟩=>?_))));exact wpAny_release ⟨σ,H3,I3,q3⟩
def jy(te:TE)(g:TG):TS:=λD σ H=>te σ H λx H1=>g x σ H1 D.nx
theorem kH{tg e:NN}{te:TE}{g:TG}(he:PE X e te)(hg:PG X tg g)(hs:OI [tg] e pos.line X.env=pure false:=by rfl)(hw:OJ [tg] e X.env=pure none:=by rfl)
 (h1:(OD [tg] X.env).map (·.2)=[assign tg X.env]:=by rfl):PS X (.Assign [tg] e pos) (jy te g):=by
 intro O6 s σ H D I h;refine wpAny_Assign_stores (ar (he O6 s σ H _ I h) λv s1 ⟨x,H1,I1,r1,q1⟩=>?_) hs hw;rw [h1];exact ar (hg O6 s1 σ H1 x v _ I1 r1 q1) λ_ s2 q=>q
theorem g9{i:Nat}{x:Str}{e:NN}{te:TE}{pos':Pos}(hN:X.N.Nodup)(hi:X.N[i]?=some x)(hx:fc X.env.scope x)(he:PE X e te)(hs:Oa e (some (.Name x pos')) pos.line X.env=pure false:=by rfl)(hf:X.fn x=true\/X.env.scope.names.lookup x=some .local:=by first | exact .inl rfl | exact .inr rfl | assumption):
 PS X (.Assign [.Name x pos'] e pos) (jy te (g5 i)):=by
 intro O6 s σ H D I h;refine wpAny_Assign_Name (ar (he O6 s σ H _ I h) λv s1 ⟨y,H1,I1,r1,q1⟩=>?_) hs;exact kE I1 hN hi hx r1 (λs2 I2=>⟨_,H1,I2,q1⟩) hf
def qu(i j:Nat)(ta:TA):TS:=λD σ H=>ta σ H λvs H1=>∃v w,vs=[v,w]/\D.nx ((σ.set i (some v)).set j (some w)) H1
theorem qv{i j:Nat}{x y:Str}{a b:NN}{ta:TA}{px py pt:Pos}{kt k2 pt2}(hc:X.calm=true)(hN:X.N.Nodup)(hi:X.N[i]?=some x)(hj:X.N[j]?=some y)(hij:i≠j)
 (hx:X.env.scope.names.lookup x=some .local)(hy:X.env.scope.names.lookup y=some .local)(ha:PA X [a,b] ta)
 (hw:OJ [.Tuple [.Name x px,.Name y py] kt pt] (.Tuple [a,b] k2 pt2) X.env=pure (some [x,y]))
 (hs:OI [.Tuple [.Name x px,.Name y py] kt pt] (.Tuple [a,b] k2 pt2) pos.line X.env=pure false:=by rfl):
 PS X (.Assign [.Tuple [.Name x px,.Name y py] kt pt] (.Tuple [a,b] k2 pt2) pos) (qu i j ta):=by
 intro O6 s σ H D I h;rw [exec_Assign_arm];refine NM (OT ?_);rw [hs];refine NM (NR ?_);rw [ND NB];refine NM (Tuple_ (ar (ha _ O6 s σ H _ I h) λus s1 ⟨vs,H1,I1,r1,q1⟩=>?_));obtain⟨v,w,e1,q1⟩:=q1;subst e1;obtain⟨u1,u2,rfl,rv,rw'⟩:∃u1 u2,us=[u1,u2]/\ax v u1/\ax w u2:=by
  cases r1 with
  | cons p q=>
   cases q with
   | cons p' q'=>
    cases q';exact⟨_,_,rfl,p,p'⟩
 refine Ob ?_ (by show 2<=NO;decide);have I2:ae X O6 σ H1 {s1 with heap:=s1.heap.push {cls:= .type "tuple",data:= .seq [u1,u2].toArray}}:=I1.kept (t':=s1.toks) λb o e=>HH _ e;rw [hw];refine NM (NR ?_);show NS (NT X.prog X.w) X.A (do rule "assign.swapped-stores";let items<-unpackItems (.ref s1.heap.objs.size) 2 none;assignInOrder [λv=>bindName X.env y v,λv=>bindName X.env x v] items.reverse;pure Nx) _ _ _;refine NM (wpAny_rule (NM (unpackItems_tuple (items:=#[u1,u2]) (I.ok.hd hc) (LW s1.heap _) λh' hx'=>?_)));have I3:=I2.kept (h':=h') (t':=s1.toks) λb o e=>hx' b o (Ip (HV e)) e;show NS _ _ (assignInOrder [λv=>bindName X.env y v,λv=>bindName X.env x v] [u2,u1] >>=λ_=>pure Nx) _ _ _;refine NM (OS (wpAny_bindName (kE I3 hN hj (.inl hy) rw' (λs2 I4=>?_) (.inr hy))));refine OS (wpAny_bindName (kE I4 hN hi (.inl hx) rv (λs3 I5=>assignInOrder_nil (NR ?_)) (.inr hx)));rw [List.set_comm _ _ (Ne.symm hij)] at I5;exact⟨_,H1,I5,q1⟩
def Ac(c:TT)(tb:TS):TS:=λD σ H=>∃W:Nat->St->Hp->Prop,(∃m,W m σ H)/\∀m σ H,W m σ H->
 c σ H λb H1=>if b=true then ∃N:St->Hp->Prop,(∀σ' H',N σ' H'->∃m',m' < m/\W m' σ' H')/\tb {D with nx:=N,ct:=N,bk:=D.nx} σ H1 else D.nx σ H1
theorem Ad{c:NN}{body:List N1}{tc:TT}{tb:TS}(hp:Ov (NT X.prog X.w) X.A X.env X.xe)(hc:PT X c tc)(hb:bx X body tb):PS X (.While c body [] pos) (Ac tc tb):=by
 intro O6 s σ H D I h;obtain⟨W,⟨m0,w0⟩,turn⟩:=h;refine wpAny_While (codeAny_whileLoop (λn s'=>∃σ' H',ae X O6 σ' H' s'/\W n σ' H') ?_ m0 ⟨σ,H,I,w0⟩);rintro n s1 ⟨σ1,H1,I1,w1⟩;refine Oo hp (ar (hc O6 s1 σ1 H1 _ I1 (turn n σ1 H1 w1)) λb s2 ⟨H2,I2,q2⟩=>?_);cases b with
 | true=>
  obtain⟨N,hN,q2⟩:=q2;rw [NF rfl];refine Oo hp (ar (hb O6 s2 σ1 H2 _ I2 q2) λf s3 q3=>?_);cases f with
  | next=>
   obtain⟨σ3,H3,I3,n3⟩:=q3;obtain⟨m',hm,w3⟩:=hN σ3 H3 n3;exact⟨m',hm,σ3,H3,I3,w3⟩
  | cont=>
   obtain⟨σ3,H3,I3,n3⟩:=q3;obtain⟨m',hm,w3⟩:=hN σ3 H3 n3;exact⟨m',hm,σ3,H3,I3,w3⟩
  | brk=>exact q3
  | ret v=>exact q3
 | false=>
  rw [ND IJ];exact ON ⟨σ1,H2,I2,q2⟩
end
structure It where
 go:Nat->Hp->Prop
 yld:Nat->Hp->V->Hp->Prop
 stop:Nat->Hp->Prop
def fg(X:Cx)(O6:List (NK×Obj))(H:Hp)(b:NK):Prop:=
 H b=none/\b≠X.env.locals/\b ∉ X.fs/\(b∈X.ex\/X.s₀.heap.objs.size<=b)/\(∀x c,X.env.cells.lookup x=some c->c≠b)/\∀p∈X.pn++O6,p.1≠b
theorem ae.fpOk{X:Cx}{O6:List (NK×Obj)}{σ:St}{H H':Hp}{s:NL}{b:NK}(I:ae X O6 σ H s)(hb:s.heap.objs.size<=b)(hn:H' b=none):fg X O6 H' b:=by
 refine⟨hn,LF (IF I.lt hb),I.nofs hb,.inr (Il I.sz hb),λx c e z=>?_,λp hp z=>?_⟩
 ·obtain⟨v,q⟩:=I.cell x c e;exact absurd (IF q.lt (by rw [z];exact hb)) (J7 _)
 ·exact absurd (IF (HV (I.pin p hp).1) (by rw [z];exact hb)) (J7 _)
structure iI (P:NV) (w:NX) (K:Hx) (tg:NN) (J:It) (fp:List NK) (it:NK) (tn:Nat->NZ->Prop):Prop where
 mem:it∈fp
 obj:∀i h,tn i h->∀b∈fp,∃o,h.get? b=some o/\∀v,o.data≠ .cell v
 keep:∀i h h',tn i h->(∀b∈fp,∀o,h.get? b=some o->h'.get? b=some o)->tn i h'
 item:∀(X:Cx),X.prog=P->X.w=w->X.K=K->X.calm=true->∀(i:Nat)(O6:List (NK×Obj))(s:NL)(σ:St)(H:Hp)(E:NJ->NL->Prop),ae X O6 σ H s->(∀b∈fp,fg X O6 H b)->tn i s.heap->J.go i H->
  NS (NT P w) X.A (pyNext (.ref it)) (λr s1=>∃u,r=some u/\
   NS (NT P w) X.A (OO tg (.ref it) u) (λ_ s2=>∃x H',ae X O6 σ H' s2/\ax x u/\J.yld i H x H'/\tn (i+1) s2.heap/\∀b∈fp,H' b=none) E s1) E s
 done:∀(X:Cx),X.prog=P->X.w=w->X.K=K->X.calm=true->∀(i:Nat)(O6:List (NK×Obj))(s:NL)(σ:St)(H:Hp)(E:NJ->NL->Prop),ae X O6 σ H s->(∀b∈fp,fg X O6 H b)->tn i s.heap->J.stop i H->
  NS (NT P w) X.A (pyNext (.ref it)) (λr s1=>r=none/\ae X O6 σ H s1) E s
 self:∀(A:N2)(i:Nat)(s:NL)(Q:NJ->NL->Prop)(E:NJ->NL->Prop),tn i s.heap->Q (.ref it) s->NS (NT P w) A (pyIter (.ref it)) Q E s
abbrev TI:=St->Hp->(It->Hp->Prop)->Prop
def qw(X:Cx)(O6:List (NK×Obj))(σ:St)(tg:NN)(R:It->Hp->Prop)(itv:NJ)(s2:NL):Prop:=
 ∃(it:NK)(fp:List NK)(tn:Nat->NZ->Prop)(J:It)(H':Hp),itv= .ref it/\ae X O6 σ H' s2/\iI X.prog X.w X.K tg J fp it tn/\tn 0 s2.heap/\(∀b∈fp,fg X O6 H' b)/\R J H'
def PI(X:Cx)(tg iter:NN)(wi:TI):Prop:=
 ∀(O6:List (NK×Obj))(s:NL)(σ:St)(H:Hp)(R:It->Hp->Prop),ae X O6 σ H s->wi σ H R->
  NS (NT X.prog X.w) X.A (eval iter X.env) (λv s1=>NS (NT X.prog X.w) X.A (pyIter v) (qw X O6 σ tg R) X.xe s1) X.xe s
theorem jz{M:Model}{A:N2}{E:NJ->NL->Prop}{s:NL}{tg:NN}{it:NK}{u:NJ}{o:Obj}{n:String}{vs:Array NJ}{Q:Unit->NL->Prop}(ho:s.heap.get? it=some o)(hc:o.cls= .type n)(hd:o.data= .fields vs)
 (hn:["enumerate","zip","dict_itemiterator","dict_reverseitemiterator","odict_iterator","itertools.zip_longest","itertools.pairwise"].contains n=false)(hQ:Q () s):NS M A (OO tg (.ref it) u) Q E s:=by
 unfold OO;cases tg <;> first
  | exact NR hQ
  | (cases u <;> first
      | exact NR hQ
      | (refine NM (wpAny_load ho ?_)
         rw [hc,hd];show NS M A (if (["enumerate","zip","dict_itemiterator","dict_reverseitemiterator","odict_iterator","itertools.zip_longest","itertools.pairwise"].contains n && vs[0]?==some (rawInt _))=true then _ else _) Q E s;rw [ND (by intro h;rw [hn,J0] at h;cases h)];exact NR hQ))
def jA(K:Hx)(a:NK):It:=
 ⟨λi H=>∃xs x,aQ K H a xs/\xs[i]?=some x,λi H x H'=>H'=H/\∀xs,aQ K H a xs->xs[i]?=some x,λi H=>∃xs,aQ K H a xs/\xs.length<=i⟩
def jB(K:Hx)(a:NK):It:=
 ⟨λi H=>∃xs x,bg K H a xs/\xs[i]?=some x,λi H x H'=>H'=H/\∀xs,bg K H a xs->xs[i]?=some x,λi H=>∃xs,bg K H a xs/\xs.length<=i⟩
def fV(lo:Int)(n:Nat):It:=⟨λi _=>i < n,λi H x H'=>H'=H/\x= .int (lo+i),λi _=>n<=i⟩
theorem Ae{P:NV}{w:NX}{K:Hx}{tg:NN}(a it:NK):iI P w K tg (jA K a) [it] it (λi h=>h.IsListIter it a i) where
 mem:=NH
 obj:=λi h st b hb=>by
  have e:b=it:=by simpa using hb
  subst e;obtain⟨o,e,c,d⟩:=st;exact⟨o,e,λv z=>by rw [d] at z;cases z⟩
 keep:=λi h h' st k=>st.at λo e=>k it NH o e
 item:=by
  intro X hP hw hK hc i O6 s σ H E I hf st hg;subst hP hw hK;obtain⟨xs,x,hq,hx⟩:=hg;obtain⟨its,rv,p,hz⟩:=I.list hq;obtain⟨u,hu,ru⟩:=rv.get hx;obtain⟨f0,f1,f2,f3,f4,f5⟩:=hf it NH;refine wpAny_pyNext_list_item st p.isList (x:=u) (by simpa using hu) λh' st' sb=>?_;have I1:ae X O6 σ H {s with heap:=h'}:=I.turned (t':=s.toks) (λb o hb e=>(sb.2 b hb).trans e) f0 f1 f3 f4 f5;obtain⟨o,e,c,d⟩:=id st';exact⟨u,rfl,jz (s:={s with heap:=h'}) e c d NB ⟨x,H,I1,ru,⟨rfl,λys hy=>by rw [I.list_inj hy hq];exact hx⟩,st',λb hb=>(hf b hb).1⟩⟩
 done:=by
  intro X hP hw hK hc i O6 s σ H E I hf st hg;subst hP hw hK;obtain⟨xs,hq,hx⟩:=hg;obtain⟨its,rv,p,hz⟩:=I.list hq;obtain⟨f0,f1,f2,f3,f4,f5⟩:=hf it NH;have hl:=rv.length;exact wpAny_pyNext_list_end (I.ok.hd hc) st p.isList (by simp;omega) λh' eb=>⟨rfl,I.turned (t':=s.toks) (λb o hb e=>eb b o hb e) f0 f1 f3 f4 f5⟩
 self:=λ_ _ _ _ _ st h=>wpAny_pyIter_listiter st h
theorem Af{P:NV}{w:NX}{K:Hx}{tg:NN}(a it:NK):iI P w K tg (jB K a) [it] it (λi h=>h.IsTupleIter it a i) where
 mem:=NH
 obj:=λi h st b hb=>by
  have e:b=it:=by simpa using hb
  subst e;obtain⟨o,e,c,d⟩:=st;exact⟨o,e,λv z=>by rw [d] at z;cases z⟩
 keep:=λi h h' st k=>st.at λo e=>k it NH o e
 item:=by
  intro X hP hw hK hc i O6 s σ H E I hf st hg;subst hP hw hK;obtain⟨xs,x,hq,hx⟩:=hg;obtain⟨its,rv,p,hz⟩:=I.tuple hq;obtain⟨u,hu,ru⟩:=rv.get hx;obtain⟨f0,f1,f2,f3,f4,f5⟩:=hf it NH;refine wpAny_pyNext_tuple_item st (show s.heap.IsTuple a its.toArray from p) (x:=u) (by simpa using hu) λh' st' sb=>?_;have I1:ae X O6 σ H {s with heap:=h'}:=I.turned (t':=s.toks) (λb o hb e=>(sb.2 b hb).trans e) f0 f1 f3 f4 f5;obtain⟨o,e,c,d⟩:=id st';exact⟨u,rfl,jz (s:={s with heap:=h'}) e c d NB ⟨x,H,I1,ru,⟨rfl,λys hy=>by rw [I.tuple_inj hy hq];exact hx⟩,st',λb hb=>(hf b hb).1⟩⟩
 done:=by
  intro X hP hw hK hc i O6 s σ H E I hf st hg;subst hP hw hK;obtain⟨xs,hq,hx⟩:=hg;obtain⟨its,rv,p,hz⟩:=I.tuple hq;obtain⟨f0,f1,f2,f3,f4,f5⟩:=hf it NH;have hl:=rv.length;exact wpAny_pyNext_tuple_end (I.ok.hd hc) st (show s.heap.IsTuple a its.toArray from p) (by simp;omega) λh' eb=>⟨rfl,I.turned (t':=s.toks) (λb o hb e=>eb b o hb e) f0 f1 f3 f4 f5⟩
 self:=λ_ _ _ _ _ st h=>wpAny_pyIter_tupleiter st h
theorem Ag{P:NV}{w:NX}{K:Hx}{tg:NN}(it:NK)(lo:Int)(n:Nat):iI P w K tg (fV lo n) [it] it (λi h=>IsRangeIter h it (lo+(i:Nat)*1) ((n:Int) - (i:Nat)) 1) where
 mem:=NH
 obj:=λi h st b hb=>by
  have e:b=it:=by simpa using hb
  subst e;exact⟨_,st,λv z=>by
   have z':Data.fields _=Data.cell v:=z;cases z'⟩
 keep:=λi h h' st k=>k it NH _ st
 item:=by
  intro X hP hw hK hc i O6 s σ H E I hf st hg;subst hP hw hK;obtain⟨f0,f1,f2,f3,f4,f5⟩:=hf it NH;have W:=Walks.range (prog:=X.prog) (w:=X.w) (I.ok.hd hc) it lo 1 n;refine W.item i s _ _ hg st λv h' tk hv st' kk=>?_;obtain⟨t,rfl⟩:=hv;have I1:ae X O6 σ H {s with heap:=h',toks:=tk}:=I.turned (λb o hb e=>kk b o (by simpa using hb) e) f0 f1 f3 f4 f5;refine⟨_,rfl,jz (s:={s with heap:=h',toks:=tk}) (n:="range_iterator") st' rfl rfl NB ⟨.int (lo+i),H,I1,⟨t,?_⟩,⟨rfl,rfl⟩,st',λb hb=>(hf b hb).1⟩⟩;rw [Int.mul_one]
 done:=by
  intro X hP hw hK hc i O6 s σ H E I hf st hg;subst hP hw hK;obtain⟨f0,f1,f2,f3,f4,f5⟩:=hf it NH;exact wpAny_pyNext_range_end (I.ok.hd hc) st (by have:n<=i:=hg;omega) λh' eb=>⟨rfl,I.turned (t':=s.toks) (λb o hb e=>eb b o hb e) f0 f1 f3 f4 f5⟩
 self:=λ_ _ _ _ _ st h=>wpAny_pyIter_rangeiter st h
section
variable {X:Cx} {tg:NN}
def mI(K:Hx)(tl:TE):TI:=λσ H R=>tl σ H λx H1=>∃a,x= .ref a/\(∃xs,aQ K H1 a xs)/\R (jA K a) H1
def mJ(K:Hx)(tl:TE):TI:=λσ H R=>tl σ H λx H1=>∃a,x= .ref a/\(∃xs,bg K H1 a xs)/\R (jB K a) H1
theorem kI{l:NN}{tl:TE}(hl:PE X l tl):PI X tg l (mI X.K tl):=by
 intro O6 s σ H R I h;refine ar (hl O6 s σ H _ I h) λv s1 ⟨x,H1,I1,r1,q1⟩=>?_;obtain⟨a,e,⟨xs,hq⟩,q⟩:=q1;subst e;cases r1;obtain⟨its,rv,p,hz⟩:=I1.list hq;refine OW p.isList ?_;refine⟨s1.heap.objs.size,[s1.heap.objs.size],_,_,H1,rfl,I1.kept (t':=s1.toks) λb o e=>HH _ e,Ae a _,⟨_,IB _ rfl,rfl,rfl⟩,λb hb=>?_,q⟩;have e:b=s1.heap.objs.size:=by simpa using hb
 subst e;exact I1.fpOk (HE _) (I1.hok.fresh (HE _))
theorem kJ{l:NN}{tl:TE}(hl:PE X l tl):PI X tg l (mJ X.K tl):=by
 intro O6 s σ H R I h;refine ar (hl O6 s σ H _ I h) λv s1 ⟨x,H1,I1,r1,q1⟩=>?_;obtain⟨a,e,⟨xs,hq⟩,q⟩:=q1;subst e;cases r1;obtain⟨its,rv,p,hz⟩:=I1.tuple hq;refine wpAny_pyIter_tuple (show s1.heap.IsTuple a its.toArray from p) ?_;refine⟨s1.heap.objs.size,[s1.heap.objs.size],_,_,H1,rfl,I1.kept (t':=s1.toks) λb o e=>HH _ e,Af a _,⟨_,IB _ rfl,rfl,rfl⟩,λb hb=>?_,q⟩;have e:b=s1.heap.objs.size:=by simpa using hb
 subst e;exact I1.fpOk (HE _) (I1.hok.fresh (HE _))
theorem qx{O6:List (NK×Obj)}{σ:St}{H:Hp}{s:NL}{R:It->Hp->Prop}{E:NJ->NL->Prop}{lo hi:Int}{t u v:Tok}{tk:Nat}(I:ae X O6 σ H s)(h1:-(2 ^ 62)<=lo)(h2:lo < 2 ^ 62)(h3:-(2 ^ 62)<=hi)(h4:hi < 2 ^ 62)
 (q:R (fV lo (hi - lo).toNat) H):NS (NT X.prog X.w) X.A (pyIter (.ref s.heap.objs.size)) (qw X O6 σ tg R) E {s with heap:=s.heap.push {cls:= .type "range",data:= .fields #[.int lo t,.int hi u,.int 1 v]},toks:=tk}:=by
 refine wpAny_pyIter_range (IsRange.new ..) (small_one h1 h2 h3 h4) ?_;have I1:ae X O6 σ H {s with heap:=s.heap.push {cls:= .type "range",data:= .fields #[.int lo t,.int hi u,.int 1 v]},toks:=tk}:=I.kept λb o e=>HH _ e;refine⟨(s.heap.push {cls:= .type "range",data:= .fields #[.int lo t,.int hi u,.int 1 v]}).objs.size,[(s.heap.push {cls:= .type "range",data:= .fields #[.int lo t,.int hi u,.int 1 v]}).objs.size],_,_,H,rfl,
  I1.kept (t':=tk) λb o e=>HH _ e,Ag _ lo (hi - lo).toNat,?_,λb hb=>?_,q⟩
 ·have e1:lo+((0:Nat):Int)*1=lo:=NH
  have e2:(((hi - lo).toNat:Nat):Int) - ((0:Nat):Int)=Builtin.Range.rangeSize lo hi 1:=by rw [rangeSize_one];split <;> omega
  show IsRangeIter _ _ (lo+((0:Nat):Int)*1) ((((hi - lo).toNat:Nat):Int) - ((0:Nat):Int)) 1;rw [e1,e2];exact IB _ rfl
 ·have e:b=(s.heap.push {cls:= .type "range",data:= .fields #[.int lo t,.int hi u,.int 1 v]}).objs.size:=by simpa using hb
  subst e;exact I1.fpOk (HE _) (I1.hok.fresh (HE _))
def mK(ta:TA):TI:=λσ H R=>ta σ H λvs H1=>∃j:Int,vs=[.int j]/\-(2 ^ 62)<=j/\j < 2 ^ 62/\R (fV 0 j.toNat) H1
def mL(ta:TA):TI:=λσ H R=>ta σ H λvs H1=>∃i j:Int,vs=[.int i,.int j]/\(-(2 ^ 62)<=i/\i < 2 ^ 62/\-(2 ^ 62)<=j/\j < 2 ^ 62)/\R (fV i (j - i).toNat) H1
theorem qy{a:NN}{ta:TA}{p pos:Pos}(hg:Gl X "range")(hm:X.mg "range"=none)(ha:PA X [a] ta)(hs:NP [a] X.env=[(false,eval a X.env)]:=by rfl):PI X tg (.Call (.Name "range" p) [a] [] pos) (mK ta):=by
 intro O6 s σ H R I h;refine Call_ (iG I hg hm boot_range (Kh (ar (ha pos O6 s σ H _ I h) λus s1 ⟨vs,H1,I1,r1,q1⟩=>?_) hs rfl));obtain⟨j,e,q1,q2,q⟩:=q1;subst e;cases r1 with
 | cons r rr=>
  cases rr;obtain⟨t,rfl⟩:=r;exact call_range_1 (qx I1 NC NC q1 q2 (by simpa using q))
theorem qz{a b:NN}{ta:TA}{p pos:Pos}(hg:Gl X "range")(hm:X.mg "range"=none)(ha:PA X [a,b] ta)(hs:NP [a,b] X.env=[(false,eval a X.env),(false,eval b X.env)]:=by rfl)(hs2:NP [b] X.env=[(false,eval b X.env)]:=by rfl):
 PI X tg (.Call (.Name "range" p) [a,b] [] pos) (mL ta):=by
 intro O6 s σ H R I h;refine Call_ (iG I hg hm boot_range (Kh (ar (ha pos O6 s σ H _ I h) λus s1 ⟨vs,H1,I1,r1,q1⟩=>?_) (by rw [hs,hs2]) (by rw [hs2];rfl)));obtain⟨i,j,e,⟨q1,q2,q3,q4⟩,q⟩:=q1;subst e;cases r1 with
 | cons r rr=>
  cases rr with
  | cons r' rr=>
   cases rr;obtain⟨t,rfl⟩:=r;obtain⟨t',rfl⟩:=r';exact call_range_2 (qx I1 q1 q2 q3 q4 q)
def jC(wi:TI)(g:TG)(tb:TS):TS:=λD σ H=>wi σ H λJ H1=>∃W:Nat->Nat->St->Hp->Prop,(∃m,W 0 m σ H1)/\∀i m σ H,W i m σ H->
 (J.stop i H/\D.nx σ H)\/(J.go i H/\∃N:St->Hp->Prop,(∀σ' H',N σ' H'->∃m',m' < m/\W (i+1) m' σ' H')/\∀x H',J.yld i H x H'->g x σ H' λσ2 H2=>tb {D with nx:=N,ct:=N,bk:=D.nx} σ2 H2)
def jD(fp:List NK)(h:NZ):List (NK×Obj):=fp.filterMap λb=>(h.get? b).map λo=>(b,o)
theorem kK{fp:List NK}{h:NZ}{b:NK}{o:Obj}(hb:b∈fp)(e:h.get? b=some o):(b,o)∈jD fp h:=Kv.mpr ⟨b,hb,by rw [e];rfl⟩
theorem Ah{fp:List NK}{h:NZ}{p:NK×Obj}(hp:p∈jD fp h):p.1∈fp/\h.get? p.1=some p.2:=by
 obtain⟨b,hb,e⟩:=Kv.mp hp;cases q:h.get? b with
 | none=>rw [q] at e;cases e
 | some o=>
  rw [q] at e;have e':(b,o)=p:=II e;subst e';exact⟨hb,q⟩
theorem ae.pinned{O6:List (NK×Obj)}{σ:St}{H:Hp}{s:NL}{fp:List NK}(I:ae X O6 σ H s)(hf:∀b∈fp,fg X O6 H b)(ho:∀b∈fp,∃o,s.heap.get? b=some o/\∀v,o.data≠ .cell v):ae X (O6++jD fp s.heap) σ H s:=
 I.pins_of λp hp=>(Ij.mp hp).elim (λz=>I.pin p (IE _ z)) λz=>by
  obtain⟨hb,e⟩:=Ah z;obtain⟨f0,f1,f2,_⟩:=hf p.1 hb;obtain⟨o,e',d⟩:=ho p.1 hb;rw [e] at e';cases e';exact⟨e,f0,f1,f2,d⟩
theorem ae.unpinned{O6 pl:List (NK×Obj)}{σ:St}{H:Hp}{s:NL}(I:ae X (O6++pl) σ H s):ae X O6 σ H s:=I.pins_of λp hp=>I.pin p (IE _ (JX _ hp))
theorem hG{iter:NN}{body:List N1}{wi:TI}{g:TG}{tb:TS}{pos:Pos}(hp:Ov (NT X.prog X.w) X.A X.env X.xe)(hc:X.calm=true)(hi:PI X tg iter wi)(hg:PG X tg g)(hb:bx X body tb)
 (hs:∀x,N0 iter X.env x=pure x:=by intro _;rfl):PS X (.For tg iter body [] pos) (jC wi g tb):=by
 intro O6 s σ H D I h;refine wpAny_For (ar (hi O6 s σ H _ I h) λv s1 h1=>ar h1 λitv s2 h2=>?_) hs;obtain⟨it,fp,tn,J,H2,e,I2,T,st2,f2,W,⟨m0,w0⟩,turn⟩:=h2;subst e;have stat:∀{H':Hp},(∀b∈fp,H' b=none)->∀b∈fp,fg X O6 H' b:=λhn b hb=>⟨hn b hb,(f2 b hb).2⟩;refine codeAny_forLoop_any (λn s'=>∃i σ' H',ae X O6 σ' H' s'/\tn i s'.heap/\(∀b∈fp,H' b=none)/\W i n σ' H') ?_ m0 ⟨0,σ,H2,I2,st2,λb hb=>(f2 b hb).1,w0⟩;rintro n s3 ⟨i,σ3,H3,I3,st3,fr3,w3⟩;rcases turn i n σ3 H3 w3 with⟨stop,qn⟩ | ⟨go,N,hN,step⟩
 ·refine Oo hp (ar (T.done X rfl rfl rfl hc i O6 s3 σ3 H3 X.xe I3 (stat fr3) st3 stop) λr s4 ⟨hr,I4⟩=>?_);subst hr;exact ON ⟨σ3,H3,I4,qn⟩
 ·refine Oo hp (ar (T.item X rfl rfl rfl hc i O6 s3 σ3 H3 X.xe I3 (stat fr3) st3 go) λr s4 ⟨u,hr,h4⟩=>?_);subst hr;refine Oo hp (ar h4 λ_ s5 ⟨x,H5,I5,r5,y5,st5,fr5⟩=>?_);have I5':=I5.pinned (stat fr5) (T.obj _ _ st5);refine Oo hp (ar (hg _ s5 σ3 H5 x u _ I5' r5 (step x H5 y5)) λ_ s6 ⟨σ6,H6,I6,q6⟩=>?_);refine Oo hp (ar (hb _ s6 σ6 H6 _ I6 q6) λf s7 q7=>?_);have again:∀{σ7:St}{H7:Hp},ae X (O6++jD fp s5.heap) σ7 H7 s7->N σ7 H7->∃m,m < n/\∃i σ' H',ae X O6 σ' H' s7/\tn i s7.heap/\(∀b∈fp,H' b=none)/\W i m σ' H':=λ{σ7 H7} I7 n7=>by
   obtain⟨m',hm,w7⟩:=hN σ7 H7 n7;refine⟨m',hm,i+1,σ7,H7,I7.unpinned,T.keep _ _ _ st5 λb hb o e=>(I7.pin (b,o) (IE _ (IE _ (kK hb e)))).1,λb hb=>?_,w7⟩;obtain⟨o,e,d⟩:=T.obj _ _ st5 b hb;exact(I7.pin (b,o) (IE _ (IE _ (kK hb e)))).2.1
  cases f with
  | next=>obtain⟨σ7,H7,I7,n7⟩:=q7;exact again I7 n7
  | cont=>obtain⟨σ7,H7,I7,n7⟩:=q7;exact again I7 n7
  | brk=>obtain⟨σ7,H7,I7,q7⟩:=q7;exact⟨σ7,H7,I7.unpinned,q7⟩
  | ret v=>obtain⟨x7,σ7,H7,I7,r7,q7⟩:=q7;exact⟨x7,σ7,H7,I7.unpinned,r7,q7⟩
end
abbrev R2:=V->V->Hp->VK->Prop
def bf(X:Cx)(f:NJ->NJ->Sem NJ)(r:R2):Prop:=
 ∀(O6:List (NK×Obj))(s:NL)(σ:St)(H:Hp)(x y:V)(v u:NJ)(Q:VK),ae X O6 σ H s->ax x v->ax y u->r x y H Q->
  NS (NT X.prog X.w) X.A (f v u) (EP X O6 σ Q) X.xe s
def mM(X:Cx)(f:NJ->Sem NJ)(r:V->Hp->VK->Prop):Prop:=
 ∀(O6:List (NK×Obj))(s:NL)(σ:St)(H:Hp)(x:V)(v:NJ)(Q:VK),ae X O6 σ H s->ax x v->r x H Q->
  NS (NT X.prog X.w) X.A (f v) (EP X O6 σ Q) X.xe s
def cW(X:Cx)(f:NJ)(r:List V->Hp->VK->Prop):Prop:=
 ∀(O6:List (NK×Obj))(s:NL)(σ:St)(H:Hp)(xs:List V)(us:List NJ)(Q:VK),ae X O6 σ H s->az xs us->r xs H Q->
  NS (NT X.prog X.w) X.A (call f us) (EP X O6 σ Q) X.xe s
def iJ(r:R2)(ta tb:TE):TE:=λσ H Q=>ta σ H λx H1=>tb σ H1 λy H2=>r x y H2 Q
def qA(r:V->Hp->VK->Prop)(ta:TE):TE:=λσ H Q=>ta σ H λx H1=>r x H1 Q
def rI(C:Int->Int->Prop)(g:Int->Int->V):R2:=λx y H Q=>∃i j,x= .int i/\y= .int j/\C i j/\Q (g i j) H
def fh(g:Int->Int->V):R2:=λx y H Q=>∃i j,x= .int i/\y= .int j/\Q (g i j) H
def rU(g:Int->V):V->Hp->VK->Prop:=λx H Q=>∃i,x= .int i/\Q (g i) H
section
variable {X:Cx} {a b c:NN} {ta tb tc:TE} {pos:Pos}
theorem mN(ha:PE X a ta)(hb:PE X b tb){O6:List (NK×Obj)}{s:NL}{σ:St}{H:Hp}{R:V->V->Hp->Prop}(I:ae X O6 σ H s)
 (h:ta σ H λx H1=>tb σ H1 λy H2=>R x y H2){Q:NJ->NL->Prop}{f:NJ->NJ->Sem NJ}
 (hf:∀v u s2 x y H2,ae X O6 σ H2 s2->ax x v->ax y u->R x y H2->NS (NT X.prog X.w) X.A (f v u) Q X.xe s2):
 NS (NT X.prog X.w) X.A (eval a X.env) (λv s₁=>NS (NT X.prog X.w) X.A (eval b X.env) (λu s₂=>NS (NT X.prog X.w) X.A (f v u) Q X.xe s₂) X.xe s₁) X.xe s:=by
 refine ar (ha O6 s σ H _ I h) λv s1 ⟨x,H1,I1,r1,q1⟩=>?_;refine ar (hb O6 s1 σ H1 _ I1 q1) λu s2 ⟨y,H2,I2,r2,q2⟩=>?_;exact hf v u s2 x y H2 I2 r1 r2 q2
theorem dG{op:Operator}{r:R2}(ho:bf X (Oi op) r)(ha:PE X a ta)(hb:PE X b tb):PE X (.BinOp a op b pos) (iJ r ta tb):=by
 intro O6 s σ H Q I h;exact wpAny_BinOp (mN ha hb I h λv u s2 x y H2 I2 rx ry q=>ho O6 s2 σ H2 x y v u Q I2 rx ry q)
theorem qB{op:UnaryOp}{r:V->Hp->VK->Prop}(ho:mM X (unaryOp op) r)(ha:PE X a ta):PE X (.UnaryOp op a pos) (qA r ta):=by
 intro O6 s σ H Q I h;exact UnaryOp_ (ar (ha O6 s σ H _ I h) λv s1 uu33=>by obtain⟨x,H1,I1,r1,q1⟩:=uu33;exact ho O6 s1 σ H1 x v Q I1 r1 q1)
theorem kL{f:NJ->NJ->Sem NJ}{C:Int->Int->Prop}{g:Int->Int->Int}
 (rule:∀(i j:Int) (t u:Tok) (s:NL) (Q:NJ->NL->Prop) (E:NJ->NL->Prop),C i j->Q (.int (g i j) s.toks) {s with toks:=s.toks+1}->NS (NT X.prog X.w) X.A (f (.int i t) (.int j u)) Q E s):
 bf X f (rI C λi j=>.int (g i j)):=by
 intro O6 s σ H x y v u Q I rx ry h;obtain⟨i,j,rfl,rfl,hc,q⟩:=h;obtain⟨t,rfl⟩:=rx;obtain⟨t',rfl⟩:=ry;exact rule i j t t' s _ _ hc ⟨.int (g i j),H,I.tok _,⟨_,rfl⟩,q⟩
theorem qC{f:NJ->NJ->Sem NJ}{g:Int->Int->Int}
 (rule:∀(i j:Int) (t u:Tok) (s:NL) (Q:NJ->NL->Prop) (E:NJ->NL->Prop),Q (.int (g i j) s.toks) {s with toks:=s.toks+1}->NS (NT X.prog X.w) X.A (f (.int i t) (.int j u)) Q E s):
 bf X f (fh λi j=>.int (g i j)):=by
 intro O6 s σ H x y v u Q I rx ry h;obtain⟨i,j,rfl,rfl,q⟩:=h;obtain⟨t,rfl⟩:=rx;obtain⟨t',rfl⟩:=ry;exact rule i j t t' s _ _ ⟨.int (g i j),H,I.tok _,⟨_,rfl⟩,q⟩
theorem kM{f:NJ->NJ->Sem NJ}{g:Int->Int->Bool}
 (rule:∀(i j:Int) (t u:Tok) (s:NL) (Q:NJ->NL->Prop) (E:NJ->NL->Prop),Q (.bool (g i j)) s->NS (NT X.prog X.w) X.A (f (.int i t) (.int j u)) Q E s):
 bf X f (fh λi j=>.bl (g i j)):=by
 intro O6 s σ H x y v u Q I rx ry h;obtain⟨i,j,rfl,rfl,q⟩:=h;obtain⟨t,rfl⟩:=rx;obtain⟨t',rfl⟩:=ry;exact rule i j t t' s _ _ ⟨.bl (g i j),H,I,rfl,q⟩
def kN(i j:Int):Prop:=0 < j/\j < 1073741824
def mO(i j:Int):Prop:=0<=j/\j<=1000000/\i.natAbs < 2 ^ 64
def jE(i j:Int):Prop:=(-(2 ^ 64) < i/\i < 2 ^ 64)\/(-(2 ^ 64) < j/\j < 2 ^ 64)
theorem jE.ok{i j:Int}(h:jE i j):IntMulOk i j:=by
 rcases h with⟨h1,h2⟩ | ⟨h1,h2⟩
 ·exact .of_left (intBits_le_64 h1 h2)
 ·exact .of_right (intBits_le_64 h1 h2)
theorem bV:bf X (Oi .Add) (fh λi j=>.int (i+j)):=qC λ_ _ _ _ _ _ _ q=>add_int q
theorem eF:bf X (Oi .Sub) (fh λi j=>.int (i - j)):=qC λ_ _ _ _ _ _ _ q=>sub_int q
theorem fD:bf X (Oi .Mult) (rI jE λi j=>.int (i*j)):=kL λ_ _ _ _ _ _ _ hc q=>mul_int q hc.ok
theorem kO:bf X (Oi .FloorDiv) (rI kN λi j=>.int (i / j)):=kL λi j _ _ _ _ _ hc q=>by
 have h1:(0:Int) < j:=hc.1;have h2:j < 1073741824:=hc.2;exact floordiv_int NC (by rw [Li i NC];exact q) (.inl (LZ NC))
theorem fi:bf X (Oi .Mod) (rI (λ_ j=>0 < j) λi j=>.int (i % j)):=kL λi j _ _ _ _ _ hc q=>by
 have h1:(0:Int) < j:=hc;exact mod_int' NC (by rw [Lj i NC];exact q)
theorem Ai:bf X (Oi .Pow) (rI mO λi j=>.int (i ^ j.toNat)):=kL λ_ _ _ _ _ _ _ hc q=>pow_int_small hc.1 hc.2.1 hc.2.2 q
theorem Aj{f:NJ->Sem NJ}{g:Int->Int}
 (rule:∀(i:Int) (t:Tok) (s:NL) (Q:NJ->NL->Prop) (E:NJ->NL->Prop),Q (.int (g i) s.toks) {s with toks:=s.toks+1}->NS (NT X.prog X.w) X.A (f (.int i t)) Q E s):
 mM X f (rU λi=>.int (g i)):=by
 intro O6 s σ H x v Q I rx h;obtain⟨i,rfl,q⟩:=h;obtain⟨t,rfl⟩:=rx;exact rule i t s _ _ ⟨.int (g i),H,I.tok _,⟨_,rfl⟩,q⟩
theorem qD:mM X (unaryOp .USub) (rU λi=>.int (-i)):=Aj λ_ _ _ _ _ q=>neg_int q
end
def jF:V->V->Bool
 | .non,.non=>true | .non,.int _=>true | .int _,.non=>true | .non,.bl _=>true | .bl _,.non=>true | .non,.str _=>true | .str _,.non=>true
 | .int _,.int _=>true | .bl _,.bl _=>true | .str _,.str _=>true | .byt _,.byt _=>true
 | .int _,.str _=>true | .str _,.int _=>true | .bl _,.str _=>true | .str _,.bl _=>true
 | _,_=>false
section
variable {X:Cx} {a b c:NN} {ta tb tc:TE} {pos:Pos}
theorem d4{O6:List (NK×Obj)}{σ:St}{H:Hp}{s:NL}{Q:VK}{k k':Bool}(I:ae X O6 σ H s)(q:Q (.bl k) H)(e:k=k'):EP X O6 σ Q (.bool k') s:=by
 subst e;exact⟨.bl k,H,I,rfl,q⟩
theorem iK:bf X (NY .Lt) (fh λi j=>.bl (decide (i < j))):=kM λ_ _ _ _ _ _ _ q=>lt_int q
theorem iL:bf X (NY .LtE) (fh λi j=>.bl (decide (i<=j))):=kM λ_ _ _ _ _ _ _ q=>le_int q
theorem jG:bf X (NY .Gt) (fh λi j=>.bl (decide (j < i))):=kM λ_ _ _ _ _ _ _ q=>gt_int q
theorem Ak:bf X (NY .GtE) (fh λi j=>.bl (decide (j<=i))):=kM λ_ _ _ _ _ _ _ q=>ge_int q
theorem Al:bf X (NY .Lt) (λx y H Q=>∃i j,x= .str i/\y= .str j/\Q (.bl (decide (i.cps.toList < j.cps.toList))) H):=by
 intro O6 s σ H x y v u Q I rx ry h;obtain⟨i,j,rfl,rfl,q⟩:=h;obtain⟨t,rfl⟩:=rx;obtain⟨t',rfl⟩:=ry;exact lt_str (d4 I q rfl)
theorem Am:bf X (NY .In) (λx y H Q=>∃i j,x= .str i/\y= .str j/\Q (.bl (!(KG j i 0 j.length 1).isEmpty)) H):=by
 intro O6 s σ H x y v u Q I rx ry h;obtain⟨i,j,rfl,rfl,q⟩:=h;obtain⟨t,rfl⟩:=rx;obtain⟨t',rfl⟩:=ry;exact in_str (d4 I q rfl)
theorem aC(b:NN){op:OC}(h:op≠ .In:=by decide)(h2:op≠ .NotIn:=by decide):N6 op b=false:=by
 have e1:(op==CmpOp.In)=false:=by cases op <;> first | rfl | exact absurd rfl h
 have e2:(op==Nn)=false:=by cases op <;> first | rfl | exact absurd rfl h2
 cases b <;> simp [N6,e1,e2]
theorem An{op:OC}{r:R2}(ho:bf X (NY op) r)(ha:PE X a ta)(hb:PE X b tb)(hm:N6 op b=false):PE X (.Compare a [op] [b] pos) (iJ r ta tb):=by
 intro O6 s σ H Q I h;exact wpAny_Compare1 (mN ha hb I h λv u s2 x y H2 I2 rx ry q=>ho O6 s2 σ H2 x y v u Q I2 rx ry q) hm
def mP(t:TE):TT:=λσ H Q=>t σ H λx H'=>∃k,x= .bl k/\Q k H'
theorem kP{op:OC}{r:R2}(ho:bf X (NY op) r)(ha:PE X a ta)(hb:PE X b tb)(hm:N6 op b=false):PT X (.Compare a [op] [b] pos) (mP (iJ r ta tb)):=by
 intro O6 s σ H Q I h;refine wpAny_isTrue_Compare1 (ar (ha O6 s σ H _ I h) λv s1 ⟨x,H1,I1,r1,q1⟩=>ar (hb O6 s1 σ H1 _ I1 q1) λu s2 ⟨y,H2,I2,r2,q2⟩=>
  ar (ho O6 s2 σ H2 x y v u _ I2 r1 r2 q2) λc s3 ⟨z,H3,I3,r3,k,e,q3⟩=>?_) hm
 subst e;cases r3;exact N5 ⟨H3,I3,q3⟩
def mQ(r r':R2)(ta tb tc:TE):TE:=λσ H Q=>ta σ H λx H1=>tb σ H1 λy H2=>r x y H2 λz H3=>∃k,z= .bl k/\
 (if k=true then tc σ H3 λw' H4=>r' y w' H4 Q else Q (.bl false) H3)
theorem Ao{op op':OC}{r r':R2}(ho:bf X (NY op) r)(ho':bf X (NY op') r')(ha:PE X a ta)(hb:PE X b tb)(hc:PE X c tc)
 (hm:lastMarks [op,op'] [b,c]=false:=by with_unfolding_all rfl):PE X (.Compare a [op,op'] [b,c] pos) (mQ r r' ta tb tc):=by
 intro O6 s σ H Q I h;refine Compare_chain (ar (ha O6 s σ H _ I h) λv s1 ⟨x,H1,I1,r1,q1⟩=>chain_link (ar (hb O6 s1 σ H1 _ I1 q1) λu s2 ⟨y,H2,I2,r2,q2⟩=>
  ar (ho O6 s2 σ H2 x y v u _ I2 r1 r2 q2) λd s3 ⟨z,H3,I3,r3,k,e,q3⟩=>?_)) hm
 subst e;cases r3;refine N5 ?_;cases k with
 | false=>exact ite_ff ⟨.bl false,H3,I3,rfl,q3⟩
 | true=>exact ite_tt (chain_last (ar (hc O6 s3 σ H3 _ I3 q3) λw' s4 uu40=>by obtain⟨z',H4,I4,r4,q4⟩:=uu40;exact ho' O6 s4 σ H4 y z' u w' Q I4 r2 r4 q4))
theorem Ap{op op':OC}{r r':R2}(ho:bf X (NY op) r)(ho':bf X (NY op') r')(ha:PE X a ta)(hb:PE X b tb)(hc:PE X c tc)
 (hm:lastMarks [op,op'] [b,c]=false:=by with_unfolding_all rfl):PT X (.Compare a [op,op'] [b,c] pos) (mP (mQ r r' ta tb tc)):=by
 intro O6 s σ H Q I h;refine isTrue_chain (ar (ha O6 s σ H _ I h) λv s1 ⟨x,H1,I1,r1,q1⟩=>test_link (ar (hb O6 s1 σ H1 _ I1 q1) λu s2 ⟨y,H2,I2,r2,q2⟩=>
  ar (ho O6 s2 σ H2 x y v u _ I2 r1 r2 q2) λd s3 ⟨z,H3,I3,r3,k,e,q3⟩=>?_)) hm
 subst e;cases r3;refine N5 ?_;cases k with
 | false=>
  obtain⟨k',e',q'⟩:=q3;cases e';exact ite_ff ⟨H3,I3,q'⟩
 | true=>
  refine ite_tt (test_last (ar (hc O6 s3 σ H3 _ I3 q3) λw' s4 ⟨z',H4,I4,r4,q4⟩=>ar (ho' O6 s4 σ H4 y z' u w' _ I4 r2 r4 q4) λd' s5 ⟨z2,H5,I5,r5,k2,e2,q5⟩=>?_));subst e2;cases r5;exact N5 ⟨H5,I5,q5⟩
theorem iM:(NO:Nat) < 2 ^ 63:=by rw [Ox];decide
theorem qE:bf X (Oi .Add) (λx y H Q=>∃i j,x= .str i/\y= .str j/\i.length+j.length<=NO/\Q (.str (i++j)) H):=by
 intro O6 s σ H x y v u Q I rx ry h;obtain⟨i,j,rfl,rfl,hz,q⟩:=h;obtain⟨t,rfl⟩:=rx;obtain⟨t',rfl⟩:=ry;exact add_str (λt' tk=>⟨.str (i++j),H,I.tok _,⟨_,rfl⟩,q⟩) hz
theorem cX{x:V}{us:List NJ}(r:az [x] us):∃u,us=[u]/\ax x u:=by
 cases r with
 | cons r1 r2=>cases r2;exact⟨_,rfl,r1⟩
theorem mR{x y:V}{us:List NJ}(r:az [x,y] us):∃u w',us=[u,w']/\ax x u/\ax y w':=by
 cases r with
 | cons r1 r2=>
  cases r2 with
  | cons r3 r4=>cases r4;exact⟨_,_,rfl,r1,r3⟩
theorem Aq:cW X (.builtin "abs") (λxs H Q=>∃i,xs=[.int i]/\Q (.int (if i < 0 then -i else i)) H):=by
 intro O6 s σ H xs us Q I r h;obtain⟨i,rfl,q⟩:=h;obtain⟨u,rfl,t,rfl⟩:=cX r;exact call_abs_int λu tk=>⟨.int (if i < 0 then -i else i),H,I.tok _,⟨_,rfl⟩,q⟩
theorem Ar(hc:X.calm=true):cW X (.builtin "max") (λxs H Q=>∃i j,xs=[.int i,.int j]/\Q (.int (if j > i then j else i)) H):=by
 intro O6 s σ H xs us Q I r h;obtain⟨i,j,rfl,q⟩:=h;obtain⟨u,w',rfl,⟨t,rfl⟩,⟨t',rfl⟩⟩:=mR r;refine max_two_ints (I.ok.hd hc) λh' tk k=>⟨_,H,I.kept k,?_,q⟩;by_cases hj:j > i
 ·rw [NF hj,NF hj];exact⟨_,rfl⟩
 ·rw [ND hj,ND hj];exact⟨_,rfl⟩
theorem mS:cW X (.type "int") (λxs H Q=>(∃i,xs=[.int i]/\Q (.int i) H)\/∃k,xs=[.bl k]/\Q (.int (if k then 1 else 0)) H):=by
 intro O6 s σ H xs us Q I r h;rcases h with⟨i,rfl,q⟩ | ⟨k,rfl,q⟩
 ·obtain⟨u,rfl,t,rfl⟩:=cX r;exact call_int_int ⟨.int i,H,I,⟨_,rfl⟩,q⟩
 ·obtain⟨u,rfl,r1⟩:=cX r;cases r1;exact call_int_bool ⟨.int (if k then 1 else 0),H,I.tok _,⟨_,rfl⟩,q⟩
theorem As:cW X (.builtin "divmod") (λxs H Q=>∃i j,xs=[.int i,.int j]/\kN i j/\∀p,H p=none->Q (.ref p) (ak H p (.tup [.int (i / j),.int (i % j)]))):=by
 intro O6 s σ H xs us Q I r h;obtain⟨i,j,rfl,⟨h1,h2⟩,q⟩:=h;obtain⟨u,w',rfl,⟨t,rfl⟩,⟨t',rfl⟩⟩:=mR r;refine divmod_int NC ?_ (.inl (LZ NC));rw [Li i NC,Lj i NC];have hn:H s.heap.objs.size=none:=I.hok.fresh (HE _);refine⟨.ref s.heap.objs.size,_,?_,rfl,q _ hn⟩;refine I.laid (λb o e=>HH _ e) (HE _) ⟨by simp only [HN,Jt];rw [Ox];decide,[.int (i / j) s.toks,.int (i % j) (s.toks+1)],.cons ⟨_,rfl⟩ (.cons ⟨_,rfl⟩ .nil),?_⟩;exact⟨_,IB s.heap rfl,rfl,0,rfl⟩
end
theorem eD.some_of{v:V}{o:Option NJ}(r:eD (some v) o):∃u,o=some u/\ax v u:=by
 cases o with
 | none=>exact(show False from r).elim
 | some u=>exact⟨u,rfl,r⟩
structure br (k:Nat) (A:N2):Prop where
 hd:A.handled=none
 dp:A.depth+3*k+5 < recursionLimit
 un:A.units+16*k+200 < N4
theorem br.mono{j k:Nat}{A:N2}(r:br k A)(h:j<=k):br j A:=⟨r.hd,by have:=r.dp;omega,by have:=r.un;omega⟩
theorem br.deeper{k:Nat}{A:N2}(r:br (k+1) A)(env:Env):br k (A.deeper env):=
 ⟨r.hd,by have:=r.dp;show A.depth+1+3*k+5 < _;omega,by have:=r.un;show A.units+3+16*k+200 < _;omega⟩
theorem br.in1{k:Nat}{A:N2}(r:br (k+1) A):br k A.in1:=
 ⟨r.hd,by have:=r.dp;show A.depth+3*k+5 < _;omega,by have:=r.un;show A.units+1+16*k+200 < _;omega⟩
theorem br.depth{k:Nat}{A:N2}(r:br k A):A.depth < recursionLimit:=by have:=r.dp;omega
theorem br.units{k:Nat}{A:N2}(r:br k A):A.units+64 < N4:=by have:=r.un;omega
theorem br.units0{k:Nat}{A:N2}(r:br k A):A.units < N4:=by have:=r.un;omega
def qF:TA:=λ_ H Q=>Q [] H
def qG(ta:TE)(tr:TA):TA:=λσ H Q=>ta σ H λx H1=>tr σ H1 λxs H2=>Q (x::xs) H2
section
variable {X:Cx} {e:NN} {es:List NN} {te:TE} {t:TA} {pos:Pos}
theorem eG:PA X [] qF:=λ_ _ _ _ H Q I h=>Lo ⟨[],H,I,.nil,h⟩
theorem cM(ha:PE X e te)(hr:PA X es t)(hs:NP (e::es) X.env=(false,eval e X.env)::NP es X.env:=by rfl):PA X (e::es) (qG te t):=by
 intro pos O6 s σ H Q I h;rw [hs];show NS _ _ (spliced ((false,eval e X.env)::N7 pos (NP es X.env))) _ _ s;refine Kw (ar (ha O6 s σ H _ I h) λu s1 ⟨x,H1,I1,r1,q1⟩=>?_);exact ar (hr pos O6 s1 σ H1 _ I1 q1) λus s2 uu47=>by obtain⟨xs,H2,I2,r2,q2⟩:=uu47;exact⟨x::xs,H2,I2,.cons r1 r2,q2⟩
def qH(t:TA):TE:=λσ H Q=>t σ H λxs H1=>xs.length<=NO/\∀p,H1 p=none->Q (.ref p) (ak H1 p (.tup xs))
def qI(t:TA):TE:=λσ H Q=>t σ H λxs H1=>xs.length<=NO/\∀p,H1 p=none->Q (.ref p) (ak H1 p (.lst xs))
theorem Au{x1}(h:PA X es t):PE X (.Tuple es x1 pos) (qH t):=by
 intro O6 s σ H Q I hq;refine wpAny_Tuple_spliced (ar (h pos O6 s σ H _ I hq) λus s1 ⟨xs,H1,I1,r,z,q⟩=>⟨by rw [<-r.length];exact z,?_⟩);have hf:H1 s1.heap.objs.size=none:=I1.hok.fresh (HE _);refine⟨.ref s1.heap.objs.size,ak H1 s1.heap.objs.size (.tup xs),I1.laid (t':=s1.toks) (λb u e=>HH _ e) (HE _) ?_,rfl,q _ hf⟩;exact⟨z,us,r,⟨_,IB _ rfl,rfl,_,rfl⟩⟩
theorem mT(h:PA X es t):PE X (.List es pos) (qI t):=by
 intro O6 s σ H Q I hq;refine wpAny_List_spliced (ar (h pos O6 s σ H _ I hq) λus s1 ⟨xs,H1,I1,r,z,q⟩=>⟨by rw [<-r.length];exact z,?_⟩);have hf:H1 s1.heap.objs.size=none:=I1.hok.fresh (HE _);refine⟨.ref s1.heap.objs.size,ak H1 s1.heap.objs.size (.lst xs),I1.laid (t':=s1.toks) (λb u e=>HH _ e) (HE _) ?_,rfl,q _ hf⟩;exact⟨z,us,0,r,IB _ rfl⟩
end
abbrev Sp:=List V->Hp->VK->XK->Prop
abbrev dh:=List Env->Hp->NL->XK->NJ->NL->Prop
structure hJ (P:NV) (w:NX) (K:Hx) (mg:Str->Option NJ) (base:NZ) (A:N2) (outer:List Env) (s:NL) (H:Hp):Prop where
 frames:A.frames=some outer
 mod:Mod K mg base
 bs:∀b o,base.get? b=some o->s.heap.get? b=some o/\H b=none
 bsz:base.objs.size<=s.heap.objs.size
 funs:s.heap.FunFrames base outer
 frf:∀b∈dZ outer,H b=none
 hok:bG P w H s.heap
 bare:OL s.gens
def CE(outer:List Env)(P:NV)(w:NX)(H:Hp)(s:NL)(Q:VK)(u:NJ)(s':NL):Prop:=
 ∃v H',s'.os=s.os/\OL s'.gens/\Un (dZ outer) [] H H' s.heap s'.heap/\bG P w H' s'.heap/\ax v u/\Q v H'
def CR(CX:dh)(outer:List Env)(P:NV)(w:NX)(H:Hp)(s:NL)(Q:VK)(E:XK)(r:Result)(s':NL):Prop:=
 match r with
 | .ok (.ret u)=>CE outer P w H s Q u s'
 | .ok _=>False
 | .error e=>CX outer H s E e s'
structure aO (P:NV) (w:NX) (K:Hx) (mg:Str->Option NJ) (base:NZ) (CX:dh) (k:Nat) (f:NK) (fd:NU) (ps:List Str) (sp:Sp):Prop where
 len:∀vs H Q E,sp vs H Q E->vs.length=ps.length
 run:∀(A:N2)(outer:List Env)(s:NL)(H:Hp)(args:Args)(us:List NJ)(vs:List V)(Q:VK)(E:XK),br k A->hJ P w K mg base A outer s H->BindsTo s fd args (ps.zip us)->az vs us->sp vs H Q E->
  codeAny (NT P w) A (.call (.ref f) args) (CR CX outer P w H s Q E) s
theorem hJ.in1{P:NV}{w:NX}{K:Hx}{mg:Str->Option NJ}{base:NZ}{A:N2}{outer:List Env}{s:NL}{H:Hp}(e:hJ P w K mg base A outer s H):
 hJ P w K mg base A.in1 outer s H:=⟨e.frames,e.mod,e.bs,e.bsz,e.funs,e.frf,e.hok,e.bare⟩
section
variable {X:Cx} {O6:List (NK×Obj)} {σ:St} {H:Hp} {s s':NL}
theorem ae.env0(I:ae X O6 σ H s):hJ X.prog X.w X.K X.mg X.base X.A X.stack s H:=
 ⟨I.ok.frames,I.ok.mod,I.bs,Il I.ok.bsz I.sz,I.stack,I.stkFree,I.hok,I.bare⟩
theorem ae.after{Q:VK}{u:NJ}(I:ae X O6 σ H s)(h:CE X.stack X.prog X.w H s Q u s'):EP X O6 σ Q u s':=by
 obtain⟨v,H',os,bare,un,hok,r,q⟩:=h;obtain⟨hh,g,d,t,os'⟩:=s';obtain rfl:os'=s.os:=os;exact⟨v,H',I.call (h':=hh) (g':=g) (d':=d) (t':=t) (ch:=[]) un hok bare (λb z=>absurd z NH),r,q⟩
end
def kQ(sp:Sp)(dvs:List V)(E:XK)(t:TA):TE:=λσ H Q=>t σ H λvs H1=>sp (vs++dvs) H1 Q E
def fj(K:Hx)(fd:NU)(ps:List Str)(ds:List NJ):Prop:=
 ∀(s:NL)(us:List NJ),K.In s.heap->(us++ds).length=ps.length->BindsTo s fd ⟨us,[]⟩ (ps.zip (us++ds))
theorem fj.all{K:Hx}{fd:NU}{ps:List Str}(h:∀us:List NJ,us.length=ps.length->bindArgs fd ⟨us,[]⟩=pure (ps.zip us)):fj K fd ps []:=λs us _ hl=>by
 rw [JH] at hl⊢;exact .of_eq (h us hl)
def mU(CX:dh)(X:Cx)(E:XK):Prop:=∀(O6:List (NK×Obj))(σ:St)(H:Hp)(s:NL)(e:NJ)(s':NL),ae X O6 σ H s->CX X.stack H s E e s'->X.xe e s'
section
variable {X:Cx} {CX:dh} {k:Nat} {f C:NK} {fd:NU} {ps:List Str} {sp:Sp} {dvs:List V} {ds:List NJ} {E:XK} {x m:Str} {p pos apos:Pos} {e o:NN} {es:List NN} {ta:TE} {t:TA}
theorem Av{O6:List (NK×Obj)}{σ:St}{H:Hp}{s:NL}{Q:VK}{us:List NJ}{vs:List V}(F:aO X.prog X.w X.K X.mg X.base CX k f fd ps sp)(hr:br k X.A)(hb:fj X.K fd ps ds)(hd:az dvs ds)(hx:mU CX X E)
 (I:ae X O6 σ H s)(r:az vs us)(h:sp (vs++dvs) H Q E):NS (NT X.prog X.w) X.A (call (.ref f) us) (EP X O6 σ Q) X.xe s:=by
 have r2:az (vs++dvs) (us++ds):=r.append hd;have hl:(us++ds).length=ps.length:=by rw [<-r2.length];exact F.len _ _ _ _ h
 refine wpAny_call (codeAny_mono (F.run X.A X.stack s H ⟨us,[]⟩ (us++ds) (vs++dvs) Q E hr I.env0 (hb s us I.kIn hl) r2 h) λr s' hq=>?_);cases r with
 | error e=>exact hx O6 σ H s e s' I hq
 | ok fl=>
  cases fl with
  | ret u=>exact I.after hq
  | next=>exact JA hq
  | brk=>exact JA hq
  | cont=>exact JA hq
theorem Aw(F:aO X.prog X.w X.K X.mg X.base CX k f fd ps sp)(hr:br k X.A)(hg:Gl X x)(hm:X.mg x=some (.ref f))(hk:KC X.K (.ref f)=true)(hb:fj X.K fd ps ds)(hd:az dvs ds)(hx:mU CX X E)
 (ha:PA X (e::es) t)(hdb:(x==("__debug__":Str))=false:=by decide)(he:NP (e::es) X.env=(false,eval e X.env)::NP es X.env:=by rfl)(hpl:(N7 pos (NP es X.env)).any (·.1)=false:=by rfl):
 PE X (.Call (.Name x p) (e::es) [] pos) (kQ sp dvs E t):=by
 intro O6 s σ H Q I h;refine OA (mv I hg hm ?_ hdb);refine PySem.W.callWith_K (h₀:=X.base) I.ok.mod.kin hk (ar (ha pos O6 s σ H _ I h) λus s1 ⟨vs,H1,I1,r,q⟩=>⟨I1.kIn,?_⟩) he hpl;exact Av F hr hb hd hx I1 r q
end
section
variable {X:Cx} {CX:dh} {k:Nat} {f C:NK} {fd:NU} {ps ks:List Str} {sp:Sp} {E:XK} {x m:Str} {p pos apos kpos:Pos} {e o:NN} {es:List NN} {kws:List Oq} {te ta:TE} {t tk:TA} {nm:Option Str}
variable {g:List NJ->List NJ->List NJ} {gV:List V->List V->List V}
end
structure aY (N P:List Str) (sc:Of):Prop where
 kind:sc.kind= .function
 co:sc.isCoroutine=false
 gen:sc.isGenerator=false
 nd:N.Nodup
 pre:N.take P.length=P
 par:∀x∈P,sc.names.lookup x=some .local\/sc.names.lookup x=some .cell
 nofree:∀y∈sc.names,y.2≠ .free
theorem qJ{kindOf:Str->Option Og}{x:Str}:∀{binds:List (Str×NJ)}{m:Str->Option NJ},(∀v,(x,v)∉ binds)->bindL kindOf binds m x=m x
 | [],_,_=>rfl
 | (n,v)::r,m,h=>by
  unfold bindL;rw [qJ λw hw=>h w (Ic _ hw)];split
  ·have:x≠n:=by rintro rfl;exact h v HZ
   simp [this]
  ·rfl
theorem qK{kindOf:Str->Option Og}{x:Str}:∀{binds:List (Str×NJ)}{m:Str->Option NJ},(∀v,(x,v)∉ binds)->bindC kindOf binds m x=m x
 | [],_,_=>rfl
 | (n,v)::r,m,h=>by
  unfold bindC;rw [qK λw hw=>h w (Ic _ hw)];split
  ·rfl
  ·have:x≠n:=by rintro rfl;exact h v HZ
   simp [this]
theorem qL{kindOf:Str->Option Og}{x:Str}{v:NJ}:∀{P:List Str}{vs:List NJ}{i:Nat}{m:Str->Option NJ},P.Nodup->P[i]?=some x->vs[i]?=some v->kindOf x=some .local->
 bindL kindOf (P.zip vs) m x=some v
 | [],_,_,_,_,h,_,_=>by simp at h
 | _::_,[],_,_,_,_,h,_=>by simp at h
 | p::P,w::vs,0,m,nd,h1,h2,hk=>by
  simp at h1 h2;subst h1;subst h2;show bindL kindOf ((p,w)::P.zip vs) m p=_;unfold bindL;rw [qJ λv hv=>(Jk.mp nd).1 (LX hv).1,NF hk];simp
 | p::P,w::vs,i+1,m,nd,h1,h2,hk=>by
  show bindL kindOf ((p,w)::P.zip vs) m x=_;unfold bindL;exact qL (i:=i) (Jk.mp nd).2 (by simpa using h1) (by simpa using h2) hk
theorem qM{kindOf:Str->Option Og}{x:Str}{v:NJ}:∀{P:List Str}{vs:List NJ}{i:Nat}{m:Str->Option NJ},P.Nodup->P[i]?=some x->vs[i]?=some v->kindOf x≠some .local->
 bindC kindOf (P.zip vs) m x=some v
 | [],_,_,_,_,h,_,_=>by simp at h
 | _::_,[],_,_,_,_,h,_=>by simp at h
 | p::P,w::vs,0,m,nd,h1,h2,hk=>by
  simp at h1 h2;subst h1;subst h2;show bindC kindOf ((p,w)::P.zip vs) m p=_;unfold bindC;rw [qK λv hv=>(Jk.mp nd).1 (LX hv).1,ND hk];simp
 | p::P,w::vs,i+1,m,nd,h1,h2,hk=>by
  show bindC kindOf ((p,w)::P.zip vs) m x=_;unfold bindC;exact qM (i:=i) (Jk.mp nd).2 (by simpa using h1) (by simpa using h2) hk
def start(N:List Str)(vs:List V):St:=vs.map some++Ia (N.length - vs.length) none
def gC(CX:dh)(P:NV)(w:NX)(K:Hx)(mg:Str->Option NJ)(base:NZ)(N:List Str)(qual:Str)(scope:Of)(f:NK)(cd:NJ)(A:N2)(outer:List Env)(s:NL)(H:Hp)(E:XK):Cx where
 prog:=P
 w:=w
 K:=K
 mg:=mg
 base:=base
 A:=A.deeper (envOfC qual scope s.heap.objs.size f cd)
 N:=N
 s₀:=s
 H₀:=H
 env:=envOfC qual scope s.heap.objs.size f cd
 outer:=outer
 stack:=envOfC qual scope s.heap.objs.size f cd::outer
 ex:=[]
 calm:=true
 fn:=λ_=>true
 pn:=[]
 xe:=λe s'=>NS (NT P w) (A.deeper (envOfC qual scope s.heap.objs.size f cd)) (leaving (envOfC qual scope s.heap.objs.size f cd) e) (λ_ s''=>CX outer H s E e s'') (λe' s''=>CX outer H s E e' s'') s'
theorem qN{sc:Of}{n:Nat}{x:Str}(h:sc.names.lookup x=some .cell):∃c,(Od n sc.names []).lookup x=some c:=by
 have q:=KO sc.names n [] (.inl h);exact Kx.mp q
theorem Ax{CX:dh}{P:NV}{w:NX}{K:Hx}{mg:Str->Option NJ}{base:NZ}{N ps:List Str}{qual:Str}{scope:Of}{f:NK}{cd:NJ}{A:N2}{outer:List Env}{s s1:NL}{H:Hp}{E:XK}{us:List NJ}{vs:List V}
 (S:aY N ps scope)(hd:A.handled=none)(e0:hJ P w K mg base A outer s H)(hl:vs.length=ps.length)(r:az vs us)
 (x:InCallC s s.heap.objs.size (bindL (envOfC qual scope s.heap.objs.size f cd).kindOf (ps.zip us) λ_=>none) (Od (s.heap.objs.size+1) scope.names []) (bindC (envOfC qual scope s.heap.objs.size f cd).kindOf (ps.zip us) λ_=>none) s1):
 ae (gC CX P w K mg base N qual scope f cd A outer s H E) [] (start N vs) H s1:=by
 have hpl:ps.length<=N.length:=by have:=congrArg Np S.pre;rw [IH] at this;omega
 obtain⟨h1,tk,rfl,hk⟩:=x.done;have noA:∀b:NK,b ∉ (gC CX P w K mg base N qual scope f cd A outer s H E).ex:=λb z=>absurd (show b∈([]:List NK) from z) NH;refine⟨⟨e0.mod,S.kind,rfl,rfl,HE _,λy z c h1 h2=>?_,λy hy=>?_,λy c _ h=>?_,λ_=>hd,Around.frames_deeper e0.frames,.inr ⟨rfl,rfl⟩,λb z=>absurd z (noA b),e0.bs,e0.bsz,λb _ _=>noA b,λb z=>absurd z (noA b),e0.funs,e0.frf⟩,
  rfl,e0.bare,Un.kept hk,⟨_,x.toInCall.ns,λi y v h1 h2 h3=>?_⟩,λy c h=>⟨_,x.cell y c h⟩,e0.hok.fresh (HE _),λy c h=>?_,λp hp=>absurd (show p∈([]:List (NK×Obj)) from hp) NH,e0.hok.kept hk,?_⟩
 ·exact name_of_addr x.apart (Jy h1) (Jy h2)
 ·have hy:scope.names.lookup y=some .cell\/scope.names.lookup y=some .free:=hy;rcases hy with hy | hy
  ·exact qN hy
  ·exact absurd rfl (S.nofree _ (Jy hy))
 ·exact Ku (x.above y c (Jy h))
 ·have hi:i < vs.length:=by
   unfold start at h2;by_cases hi:i < vs.length
   ·exact hi
   ·rw [JP (by simpa using hi)] at h2;rw [J5] at h2;split at h2 <;> cases h2
  have ha:vs[i]?=some v:=by
   unfold start at h2;rw [JE (by simpa using hi),Ie] at h2;cases e:vs[i]? with
   | none=>rw [e] at h2;cases h2
   | some a=>rw [e] at h2;cases h2;rfl
  obtain⟨u,hu,rv⟩:=r.get ha;have hp:ps[i]?=some y:=by
   rw [<-S.pre,List.getElem?_take_of_lt NC];exact h1
  have ndP:ps.Nodup:=by rw [<-S.pre];exact S.nd.sublist (JU _ _)
  refine⟨u,rv,?_⟩;rcases S.par y (Ik hp) with k | k
  ·exact .inl ⟨k,qL ndP hp hu k⟩
  ·obtain⟨c,e⟩:=qN (n:=s.heap.objs.size+1) k;refine .inr ⟨.inl k,c,e,?_⟩;have q:=x.cell y c e;rw [qM ndP hp hu (by show scope.names.lookup y≠_;rw [k];decide)] at q;exact q
 ·exact e0.hok.fresh (Ku (x.above y c (Jy h)))
 ·unfold start;show _=N.length;rw [HU,HB,Kd];omega
theorem Ay{CX:dh}{P:NV}{w:NX}{K:Hx}{mg:Str->Option NJ}{base:NZ}{k:Nat}{f:NK}{name qual:Str}{params:Arguments}{body:List N1}{scope:Of}{dV kV doc pm cdv ct oc:NJ}{an od:Option NK}
 {osl:Array (Option NJ)}{N ps:List Str}{sp:Sp}(lk:K.lookup f=some ⟨oc,od,.func (JM name qual params body scope dV kV doc pm an cdv ct),osl⟩)(hcd:K9 K cdv qual=true)(S:aY N ps scope)
 (len:∀vs H Q E,sp vs H Q E->vs.length=ps.length)
 (hbody:∀(A:N2) (outer:List Env) (s:NL) (H:Hp) (vs:List V) (Q:VK) (E:XK),br k (A.deeper (envOfC qual scope s.heap.objs.size f cdv))->sp vs H Q E->
   ∃t,bx (gC CX P w K mg base N qual scope f cdv A outer s H E) body t/\t {nx:=λ_ H'=>Q .non H',rt:=Q} (start N vs) H):
 aO P w K mg base CX (k+1) f (JM name qual params body scope dV kV doc pm an cdv ct) ps sp:=by
 refine⟨len,λA outer s H args us vs Q E hr e0 hb r hsp=>?_⟩;have hl:=len _ _ _ _ hsp;have KX:K.In s.heap:=e0.mod.kin.keeps λb o e=>(e0.bs b o e).1;have lim:s.heap.NoLimit:=e0.mod.nolimit.keeps λb o e=>(e0.bs b o e).1;have hkind:∀y∈ps.zip us,scope.names.lookup y.1=some .local\/(scope.names.lookup y.1=some .cell/\((Od (s.heap.objs.size+1) scope.names []).lookup y.1).isSome=true):=λuu51 hy=>by
  obtain⟨n,v⟩:=uu51;rcases S.par n (LX hy).1 with q | q
  ·exact .inl q
  ·exact .inr ⟨q,KO _ _ _ (.inl q)⟩
 refine codeAny_call_function hr.depth (KX _ _ lk) rfl S.co S.gen rfl (PySem.W.codeRec_of KX hcd) (hb _ _ _ _ ?_);refine wpAny_newFunctionEnv_cells S.kind hkind λenv he s1 x=>?_;subst he;refine⟨lim.keeps x.toInCall.keep,codeAny_func ?_⟩;obtain⟨t,ht,hq⟩:=hbody A outer s H vs Q E (hr.deeper _) hsp;have I:ae (gC CX P w K mg base N qual scope f cdv A outer s H E) [] (start N vs) H s1:=Ax S hr.hd e0 hl r x;refine N8 (ht [] s1 (start N vs) H _ I hq) (λfl s' hs=>?_) λe s' hs=>hs;have fin:∀{σ':St}{H':Hp}{v:V}{u:NJ},ae (gC CX P w K mg base N qual scope f cdv A outer s H E) [] σ' H' s'->ax v u->Q v H'->CE outer P w H s Q u s':=
  λ{σ' H' v u} J rv q=>⟨v,H',J.os,J.bare,J.base,J.hok,rv,q⟩
 cases fl with
 | ret u=>
  obtain⟨v,σ',H',J,rv,q⟩:=hs;exact fin J rv q
 | next=>
  obtain⟨σ',H',J,q⟩:=hs;exact fin (v:=V.non) (u:=Ki) J rfl q
 | brk=>
  obtain⟨_,_,_,q⟩:=hs;exact JA q
 | cont=>
  obtain⟨_,_,_,q⟩:=hs;exact JA q
section
variable {X:Cx} {x:Str} {p pos:Pos} {e:NN} {es:List NN} {t:TA} {id T:String} {r:List V->Hp->VK->Prop}
def kR(r:List V->Hp->VK->Prop)(t:TA):TE:=λσ H Q=>t σ H λvs H1=>r vs H1 Q
theorem aS(hc:cW X (.builtin id) r)(hg:Gl X x)(hm:X.mg x=none)(hv:N3 x=some (.builtin id))(ha:PA X (e::es) t)(hn:x≠"__name__":=by decide)(hdb:(x==("__debug__":Str))=false:=by decide)
 (he:NP (e::es) X.env=(false,eval e X.env)::NP es X.env:=by rfl)(hpl:(N7 pos (NP es X.env)).any (·.1)=false:=by rfl):PE X (.Call (.Name x p) (e::es) [] pos) (kR r t):=by
 intro O6 s σ H Q I h;refine OA (iG I hg hm hv ?_ hn hdb);exact PyProof.Rows.callWith_builtin1 (ar (ha pos O6 s σ H _ I h) λus s1 uu52=>by obtain⟨vs,H1,I1,r1,q1⟩:=uu52;exact hc O6 s1 σ H1 vs us Q I1 r1 q1) he hpl
theorem fE(hc:cW X (.type T) r)(hg:Gl X x)(hm:X.mg x=none)(hv:N3 x=some (.type T))(ha:PA X (e::es) t)(hn:x≠"__name__":=by decide)(hdb:(x==("__debug__":Str))=false:=by decide)
 (he:NP (e::es) X.env=(false,eval e X.env)::NP es X.env:=by rfl)(hpl:(N7 pos (NP es X.env)).any (·.1)=false:=by rfl):PE X (.Call (.Name x p) (e::es) [] pos) (kR r t):=by
 intro O6 s σ H Q I h;refine OA (iG I hg hm hv ?_ hn hdb);exact Kh (ar (ha pos O6 s σ H _ I h) λus s1 uu53=>by obtain⟨vs,H1,I1,r1,q1⟩:=uu53;exact hc O6 s1 σ H1 vs us Q I1 r1 q1) he hpl
end
end L2
namespace HT
open PySem PyProof.Rows
theorem eqAt_int(A:N2)(s:NL)(a:Int)(t:Tok)(c:Int)(u:Tok):∃e,Mb A s (.int a t) (.int c u) e/\(e=true↔a=c):=
 ⟨(a==c),Mb.int_int a t c u,NH⟩
theorem rcLt_int(A:N2)(s:NL)(a:Int)(t:Tok)(c:Int)(u:Tok)(prog:NV)(w:NX)(E:NJ->NL->Prop)(Q:NJ->NL->Prop)(h:Q (.bool (decide (a < c))) s):
 NS (NT prog w) A (OR .Lt (.int a t) (.int c u)) Q E s:=
 (PyProof.Rows.lt_int h:NS (NT prog w) A (NY .Lt (.int a t) (.int c u)) Q E s)
section
open PySem.SeqAt
open PySem.AutoSeq1 (wpAny_loadPart')
open PySem.MeetsSeq PySem.MeetsSeq2 PySem.MeetsSeq3
end
section
variable {prog:NV} {w:NX} {A:N2} {E:NJ->NL->Prop} {s:NL}
theorem cat_tup{t b:NK}{vs ws:List NJ}{Q:NJ->NL->Prop}(ht:IsTup s.heap t vs.toArray)(hb:IsTup s.heap b ws.toArray)(hv:vs≠[])
 (h1:ws=[]->Q (.ref t) s)(h2:ws≠[]->Q (.ref s.heap.objs.size) {s with heap:=s.heap.push {cls:= .type "tuple",data:= .seq (vs++ws).toArray}})
 (hsz:vs.length+ws.length<=NO):NS (NT prog w) A (Oi .Add (.ref t) (.ref b)) Q E s:=by
 obtain⟨⟨cls,dd,data,sl⟩,ho,hc,n,hd⟩:=id ht;obtain⟨⟨cls2,dd2,data2,sl2⟩,ho2,hc2,n2,hd2⟩:=id hb;simp only at hc hd hc2 hd2;subst hc hd hc2 hd2;have e:vs.toArray++ws.toArray=(vs++ws).toArray:=NH
 by_cases hw:ws=[]
 ·exact concat_meets ⟨_,ho,rfl⟩ ⟨_,ho2,rfl⟩ OY seq_tuple_add KP KH (Ky _ _)
   (tuple_addW1 t b vs.toArray ws.toArray n n2 dd dd2 sl sl2 (by simpa using hv) (by simp [hw])) ⟨ho,ho2,h1 hw⟩
 ·refine concat_meets ⟨_,ho,rfl⟩ ⟨_,ho2,rfl⟩ OY seq_tuple_add KP KH (Ky _ _)
   (tuple_addW2 t b vs.toArray ws.toArray n n2 dd dd2 sl sl2 (by simpa using hv) (by simpa using hw) (by rw [HK,HK];exact hsz)) ⟨ho,ho2,?_⟩
  rw [e];exact h2 hw
def sIx(n d:Nat):Option Int->Nat
 | none=>d
 | some v=>if v < 0 then(v+(n:Int)).toNat else min v.toNat n
theorem iN(n d:Nat):sIx n d none=d:=rfl
theorem sIx_nat(n d k:Nat):sIx n d (some (k:Int))=min k n:=by
 show(if (k:Int) < 0 then((k:Int)+(n:Int)).toNat else min (k:Int).toNat n)=min k n;rw [ND NC,JV]
theorem sIx_le(n d:Nat)(hd:d<=n)(o:Option Int):sIx n d o<=n:=by
 cases o with
 | none=>exact hd
 | some v=>
  show(if v < 0 then(v+(n:Int)).toNat else min v.toNat n)<=n;by_cases hv:v < 0
  ·rw [NF hv];omega
  ·rw [ND hv];exact MC _ _
theorem qO(v:Int)(n d:Nat):(if v < 0 then max (v+(n:Int)) 0 else min v (n:Int))=((sIx n d (some v):Nat):Int):=by
 show(if v < 0 then max (v+(n:Int)) 0 else min v (n:Int))=(((if v < 0 then(v+(n:Int)).toNat else min v.toNat n):Nat):Int);by_cases hv:v < 0
 ·simp only [NF hv];omega
 ·simp only [ND hv];omega
theorem Az(lo hi:Option Int)(n:Nat):Ju lo hi 1 (n:Int)=(((sIx n 0 lo:Nat):Int),((sIx n n hi:Nat):Int)):=by
 have h1:¬((1:Int) < 0):=NC
 unfold Ju;simp only [h1,if_false];refine Prod.ext ?_ ?_
 ·cases lo with
  | none=>rfl
  | some v=>exact qO v n 0
 ·cases hi with
  | none=>rfl
  | some v=>exact qO v n n
theorem AA(i j:Nat):IY (i:Int) (j:Int) 1=j - i:=by
 unfold IY;have h1:(1:Int) > 0:=NC
 simp only [h1,if_true,Mo];split <;> omega
theorem qP{v:NJ}{o:Option Int}{Q:Option Int->NL->Prop}(p:IsPart v o)(h:Q o s):NS (NT prog w) A (Builtin.Slice.slicePartIndex v) Q E s:=by
 cases p with
 | none=>exact OP h
 | int i t=>exact slicePart_int h
theorem sliceApplied_gen{sl:NK}{vl vu:NJ}{lo hi:Option Int}{n:Nat}{Q:Int×Int×Nat->NL->Prop}(hs:s.heap.IsSliceOf sl vl vu .none)(pl:IsPart vl lo)(pu:IsPart vu hi)
 (h:Q (((sIx n 0 lo:Nat):Int),1,sIx n n hi - sIx n 0 lo) s):NS (NT prog w) A (JQ (.ref sl) (pure (n:Int))) Q E s:=by
 obtain⟨os,hos,hcs,hds⟩:=id hs;unfold JQ Ly;refine NM (NM (OF hos hds (x:=vl) rfl (NM (OF hos hds (x:=vu) rfl (NM (OF hos hds (x:= .none) rfl (NR ?_)))))));refine NM (OP ?_);show NS _ _ (if ((1:Int)==0)=true then _ else _) _ _ s;rw [ND NB];refine NM (qP pl (NM (qP pu (NM (NR ?_)))));show NS _ _ (match Ju lo hi 1 (n:Int) with | (lo,hi)=>pure (lo,(1:Int),IY lo hi 1)) _ _ s;rw [Az lo hi n];show NS _ _ (pure (((sIx n 0 lo:Nat):Int),(1:Int),IY ((sIx n 0 lo:Nat):Int) ((sIx n n hi:Nat):Int) 1)) _ _ s;rw [AA];exact NR h
theorem AB(xs:Array NJ)(i k:Nat):((IG k).filterMap λ(m:Nat)=>xs[((i:Int)+(m:Int)*1).toNat]?).toArray=((xs.toList.drop i).take k).toArray:=by
 have e:(λ(m:Nat)=>xs[((i:Int)+(m:Int)*1).toNat]?)=λm=>xs[i+m]?:=by
  funext m;have:((i:Int)+(m:Int)*1).toNat=i+m:=NC
  rw [this]
 rw [e];have:=pick_run xs i k;rw [Ld] at this;have e2:((λx=>xs[x]?)∘ λx=>i+x)=λm=>xs[i+m]?:=rfl;rw [e2] at this;rw [this]
theorem getItem_tuple_cut{t sl:NK}{items:Array NJ}{vl vu:NJ}{lo hi:Option Int}{Q:NJ->NL->Prop}(ht:IsTup s.heap t items)(hs:s.heap.IsSliceOf sl vl vu .none)(pl:IsPart vl lo)(pu:IsPart vu hi)
 (hw:¬(sIx items.size 0 lo=0/\sIx items.size items.size hi=items.size))
 (h:Q (.ref s.heap.objs.size) {s with heap:=s.heap.push {cls:= .type "tuple",data:= .seq ((items.toList.drop (sIx items.size 0 lo)).take (sIx items.size items.size hi - sIx items.size 0 lo)).toArray}})
 (hsz:items.size<=NO):NS (NT prog w) A (Ot (.ref t) (.ref sl)) Q E s:=by
 have htake:sizeOk (.seq ((items.toList.drop (sIx items.size 0 lo)).take (sIx items.size items.size hi - sIx items.size 0 lo)).toArray):=by
  show((items.toList.drop (sIx items.size 0 lo)).take (sIx items.size items.size hi - sIx items.size 0 lo)).toArray.size<=NO;rw [HK,IH,JB,IV];omega
 have hj:sIx items.size items.size hi<=items.size:=sIx_le _ _ (HE _) hi;obtain⟨os,hos,hcs,hds⟩:=id hs;have hTs:s.TypeIs (.ref sl) "slice":=⟨os,hos,hcs⟩;unfold Ot
 try with_reducible refine Oc ?_
 first | refine NM (NR ?_) | skip
 refine NM (OX ht.typeIs NB ?_);refine NM (OE (name:=HD "__getitem__") ht.typeIs Jd
  (OZ Jd ht.typeIs entry_tuple_getitem ?_ (args_tuple_getitem _ _)))
 show NS _ _ (Kl (.ref t) >>=_) _ _ s;refine NM (tupleItemsOf_ ht ?_);refine NM (OB hTs ?_);rw [NF NB];refine NM (sliceApplied_gen hs pl pu ?_);have hno:¬((((sIx items.size 0 lo:Nat):Int)==0 && (1:Int)==1 && (sIx items.size items.size hi - sIx items.size 0 lo)==items.size)=true):=by
  intro q;rw [HX,HX] at q;have q1:((sIx items.size 0 lo:Nat):Int)=0:=eq_of_beq q.1.1;have q2:sIx items.size items.size hi - sIx items.size 0 lo=items.size:=eq_of_beq q.2;exact hw ⟨NC,NC⟩
 show NS _ _ (if (((sIx items.size 0 lo:Nat):Int)==0 && (1:Int)==1 && (sIx items.size items.size hi - sIx items.size 0 lo)==items.size)=true then _ else _) _ _ s;rw [ND hno,AB]
 first
  | exact NM (m:=I0 _) (Ob (NR ⟨_,rfl,NR h⟩) htake)
  | exact NM (m:=I0 _) (Ob (NM (NR (NR ⟨_,rfl,NR h⟩))) htake)
  | exact NM (NM (m:=I0 _) (Ob (NR (NR ⟨_,rfl,NR h⟩)) htake))
  | exact NM (NM (m:=I0 _) (Ob (NR ⟨_,rfl,NR h⟩) htake))
end
end HT
namespace L2
open PySem PySem.Spec PyProof.Rows
abbrev TO:=St->Hp->(Option Int->Hp->Prop)->Prop
def PO(X:Cx)(e:Option NN)(t:TO):Prop:=
 ∀(O6:List (NK×Obj))(s:NL)(σ:St)(H:Hp)(Q:Option Int->Hp->Prop),ae X O6 σ H s->t σ H Q->
  NS (NT X.prog X.w) X.A (evalPart e X.env) (λu s'=>∃o H',ae X O6 σ H' s'/\IsPart u o/\Q o H') X.xe s
def AD:TO:=λ_ H Q=>Q none H
def AE(t:TE):TO:=λσ H Q=>t σ H λx H1=>∃i,x= .int i/\Q (some i) H1
theorem AF{ns:List Int}:∀{us:List NJ},az (ns.map V.int) us->IntsAre us ns:=by
 induction ns with
 | nil=>intro us r;rw [Jq] at r;cases r;exact .nil
 | cons n ns ih=>
  intro us r;rw [HF] at r;cases r with
  | cons r1 r2=>
   obtain⟨t,e⟩:=r1;subst e;exact .cons n t (ih r2)
section
variable {X:Cx} {e:NN} {te:TE} {lo hi:Option NN} {tl th:TO} {pos p2:Pos}
theorem AG:PO X none AD:=by
 intro O6 s σ H Q I h;rw [evalPart_none];exact NR ⟨none,H,I,.none,h⟩
theorem AH(h:PE X e te):PO X (some e) (AE te):=by
 intro O6 s σ H Q I hw;rw [evalPart_some];refine ar (h O6 s σ H _ I hw) λu s1 ⟨x,H1,I1,r1,q1⟩=>?_;obtain⟨i,rfl,q⟩:=q1;obtain⟨t,rfl⟩:=r1;exact⟨some i,H1,I1,.int i t,q⟩
def jH(X:Cx)(r:V->Option Int->Option Int->Hp->VK->Prop):Prop:=
 ∀(O6:List (NK×Obj))(s:NL)(σ:St)(H:Hp)(x:V)(v vl vu:NJ)(lo hi:Option Int)(sl:NK)(Q:VK),ae X O6 σ H s->ax x v->s.heap.IsSliceOf sl vl vu .none->IsPart vl lo->IsPart vu hi->r x lo hi H Q->
  ∃T id,typeLookup (.type T) "__getitem__"=pure (some (.builtin id))/\s.TypeIs v T/\NS (NT X.prog X.w) X.A (Ot v (.ref sl)) (EP X O6 σ Q) X.xe s
def AI(r:V->Option Int->Option Int->Hp->VK->Prop)(te:TE)(tl th:TO):TE:=λσ H Q=>te σ H λx H1=>tl σ H1 λl H2=>th σ H2 λu H3=>r x l u H3 Q
theorem kT{r:V->Option Int->Option Int->Hp->VK->Prop}(hr:jH X r)(he:PE X e te)(hl:PO X lo tl)(hu:PO X hi th):PE X (.Subscript e (.Slice lo hi none p2) pos) (AI r te tl th):=by
 intro O6 s σ H Q I h;refine Subscript_ (ar (he O6 s σ H _ I h) λv s1 ⟨x,H1,I1,r1,q1⟩=>?_);refine wpAny_Slice (ar (hl O6 s1 σ H1 _ I1 q1) λvl s2 ⟨l,H2,I2,pl,q2⟩=>ar (hu O6 s2 σ H2 _ I2 q2) λvu s3 ⟨u,H3,I3,pu,q3⟩=>?_);rw [evalPart_none];refine NR ?_;have I4:ae X O6 σ H3 {s3 with heap:=s3.heap.push {cls:= .type "slice",data:= .fields #[vl,vu,.none]}}:=I3.kept (t':=s3.toks) λb ob q=>HH _ q;obtain⟨T,id,hT,ht,hg⟩:=hr O6 {s3 with heap:=s3.heap.push {cls:= .type "slice",data:= .fields #[vl,vu,.none]}} σ H3 x v vl vu l u s3.heap.objs.size Q I4 r1 (Mp ..) pl pu q3;show NS (NT X.prog X.w) X.A (OU e (.Slice lo hi none p2) v (.ref s3.heap.objs.size)) (EP X O6 σ Q) X.xe {s3 with heap:=s3.heap.push {cls:= .type "slice",data:= .fields #[vl,vu,.none]}};exact tail_any (ops:=[.ref s3.heap.objs.size,v]) ht hT hg (by with_unfolding_all rfl)
def fW(xs:List V)(lo hi:Option Int):List V:=(xs.drop (HT.sIx xs.length 0 lo)).take (HT.sIx xs.length xs.length hi - HT.sIx xs.length 0 lo)
theorem qQ(xs:List V)(lo hi:Option Int):(fW xs lo hi).length<=xs.length:=by
 unfold fW;rw [IH,JB];omega
def AJ(K:Hx):V->Option Int->Option Int->Hp->VK->Prop:=λx lo hi H Q=>∃a xs,x= .ref a/\bg K H a xs/\
 ¬(HT.sIx xs.length 0 lo=0/\HT.sIx xs.length xs.length hi=xs.length)/\∀p,H p=none->Q (.ref p) (ak H p (.tup (fW xs lo hi)))
theorem AK:jH X (AJ X.K):=by
 intro O6 s σ H x v vl vu lo hi sl Q I rx hs pl pu h;obtain⟨a,xs,rfl,hx,hw,q⟩:=h;cases rx;obtain⟨its,r,ht,hz⟩:=I.tuple hx;have hlen:its.toArray.size=xs.length:=by rw [HK];exact r.length.symm
 refine⟨"tuple",_,Jd.lookup,ht.typeIs,?_⟩;refine HT.getItem_tuple_cut ht hs pl pu (by rw [hlen];exact hw) ?_ (by rw [hlen];exact hz);rw [hlen];refine⟨.ref s.heap.objs.size,_,I.laid (t':=s.toks) (o:= .tup (fW xs lo hi)) (λb ob q=>HH _ q) (HE _) ?_,rfl,q _ (I.hok.fresh (HE _))⟩;exact⟨Il (qQ xs lo hi) hz,_,(r.drop (HT.sIx xs.length 0 lo)).take (HT.sIx xs.length xs.length hi - HT.sIx xs.length 0 lo),LW _ _⟩
def mV(K:Hx):R2:=λx y H Q=>∃a b xs ys,x= .ref a/\y= .ref b/\bg K H a xs/\bg K H b ys/\xs≠[]/\xs.length+ys.length<=NO/\
 (ys=[]->Q (.ref a) H)/\(ys≠[]->∀p,H p=none->Q (.ref p) (ak H p (.tup (xs++ys))))
theorem az.nil_iff{xs:List V}{us:List NJ}(r:az xs us):us=[]↔xs=[]:=by
 cases r with
 | nil=>simp
 | cons _ _=>simp
theorem AL:bf X (Oi .Add) (mV X.K):=by
 intro O6 s σ H x y v u Q I rx ry h;obtain⟨a,b,xs,ys,rfl,rfl,ha,hb,hx,hz,q1,q2⟩:=h;cases rx;cases ry;obtain⟨its,r1,p1,_⟩:=I.tuple ha;obtain⟨its2,r2,p2,_⟩:=I.tuple hb;refine HT.cat_tup p1 p2 (λz=>hx (r1.nil_iff.mp z)) (λz=>⟨.ref a,H,I,rfl,q1 (r2.nil_iff.mp z)⟩) (λz=>?_) (by rw [<-r1.length,<-r2.length];exact hz);refine⟨.ref s.heap.objs.size,_,I.laid (t':=s.toks) (o:= .tup (xs++ys)) (λb ob q=>HH _ q) (HE _) ?_,rfl,q2 (λw=>z (r2.nil_iff.mpr w)) _ (I.hok.fresh (HE _))⟩;exact⟨by rw [HU];exact hz,_,r1.append r2,LW _ _⟩
end
def fF(n:Nat)(i:Int):Option Nat:=if 0<=i then(if i < n then some i.toNat else none) else if -(n:Int)<=i then some (i+n).toNat else none
def atI{α:Type}(xs:List α)(i:Int):Option α:=(fF xs.length i).bind λj=>xs[j]?
theorem qR{n:Nat}{i:Int}{j:Nat}(h:fF n i=some j):seqIndex? i n=some j/\j < n/\-(n:Int)<=i/\i < n:=by
 unfold fF at h;by_cases h0:0<=i
 ·rw [NF h0] at h;by_cases h1:i < n
  ·rw [NF h1] at h;have e:i.toNat=j:=II h;exact⟨by rw [seqIndex_of h0 h1,e],NC,NC,h1⟩
  ·rw [ND h1] at h;cases h
 ·rw [ND h0] at h;by_cases h1:-(n:Int)<=i
  ·rw [NF h1] at h;have e:(i+n).toNat=j:=II h;exact⟨by rw [seqIndex_neg NC h1,e],NC,h1,NC⟩
  ·rw [ND h1] at h;cases h
theorem mW{α:Type}{xs:List α}{i:Int}{v:α}(h:atI xs i=some v):∃j,seqIndex? i xs.length=some j/\xs[j]?=some v/\j < xs.length/\-(xs.length:Int)<=i/\i < xs.length:=by
 unfold atI at h;cases e:fF xs.length i with
 | none=>rw [e] at h;cases h
 | some j=>
  rw [e] at h;obtain⟨h1,h2,h3,h4⟩:=qR e;exact⟨j,h1,h,h2,h3,h4⟩
theorem cQ{α:Type}{xs:List α}{j:Nat}{v:α}(h:xs[j]?=some v):atI xs (j:Int)=some v:=by
 have hj:j < xs.length:=(HP.mp h).1;have e:fF xs.length (j:Int)=some j:=by
  unfold fF;rw [NF NC,NF NC];simp
 unfold atI;rw [e];exact h
theorem atI_last{α:Type}(xs:List α)(v:α):atI (xs++[v]) (-1)=some v:=by
 have hl:(xs++[v]).length=xs.length+1:=NH
 have e:fF (xs++[v]).length (-1)=some xs.length:=by
  unfold fF;rw [hl,ND NB,NF NC];congr 1;omega
 unfold atI;rw [e];show(xs++[v])[xs.length]?=some v;simp
def AM(b:NN):Prop:=∀o i,OG b false o i=operate [o,i] (Ot o i)
def iO(X:Cx)(r:R2):Prop:=
 ∀(value slice:NN)(O6:List (NK×Obj))(s:NL)(σ:St)(H:Hp)(x y:V)(v u:NJ)(Q:VK),ae X O6 σ H s->ax x v->ax y u->r x y H Q->
  OG slice false v u=operate [v,u] (Ot v u)->NS (NT X.prog X.w) X.A (OU value slice v u) (EP X O6 σ Q) X.xe s
def qS(X:Cx)(id:String)(r:V->List V->Hp->VK->Prop):Prop:=
 ∀(O6:List (NK×Obj))(s:NL)(σ:St)(H:Hp)(x:V)(xs:List V)(v:NJ)(us:List NJ)(Q:VK),ae X O6 σ H s->ax x v->az xs us->r x xs H Q->
  NS (NT X.prog X.w) X.A (call (.builtin id) (v::us)) (EP X O6 σ Q) X.xe s
section
variable {X:Cx} {a b:NN} {ta tb:TE} {pos:Pos}
theorem hV{r:R2}(hr:iO X r)(ha:PE X a ta)(hb:PE X b tb)(hs:AM b):PE X (.Subscript a b pos) (iJ r ta tb):=by
 intro O6 s σ H Q I h;exact Subscript_ (mN ha hb I h λv u s2 x y H2 I2 rx ry q=>hr a b O6 s2 σ H2 x y v u Q I2 rx ry q (hs _ _))
def kU(K:Hx):R2:=λx y H Q=>∃p xs i v,x= .ref p/\y= .int i/\aQ K H p xs/\atI xs i=some v/\Q v H
def qT(K:Hx):R2:=λx y H Q=>∃p xs i v,x= .ref p/\y= .int i/\bg K H p xs/\atI xs i=some v/\Q v H
def qU:R2:=λx y H Q=>∃z i c,x= .str z/\y= .int i/\z.length<=NO/\atI z.cps.toList i=some c/\Q (.str ⟨#[c]⟩) H
theorem bH:iO X (kU X.K):=by
 intro value slice O6 s σ H x y v u Q I rx ry h hs;obtain⟨p,xs,i,z,rfl,rfl,hq,he,q⟩:=h;cases rx;obtain⟨t,rfl⟩:=ry;obtain⟨its,r,pl,hz⟩:=I.list hq;obtain⟨j,h1,h2,h3,h4,h5⟩:=mW he;obtain⟨w,ew,rw'⟩:=r.get h2;have hl:=r.length;have hn:=iM;have fin:EP X O6 σ Q w s:=⟨z,H,I,rw',q⟩;by_cases h0:0<=i
 ·have hj:i.toNat=j:=by
   rw [seqIndex_of h0 h5] at h1;exact II h1
  exact item_listR pl.isList h0 NC (by rw [hj];simpa using ew) fin hs
 ·have hj:(i+(its.toArray.size:Int)).toNat=j:=by
   rw [seqIndex_neg NC h4] at h1;rw [HK,<-hl];exact II h1
  exact subscriptTail_builtinR (x:=w) pl.isList.typeIs slot_list_getitem.lookup
   (wpAny_getItem_list_neg (Q:=λr s'=>r=w/\EP X O6 σ Q r s') pl.isList NC (by rw [HK] <;> omega) NC (by rw [hj];simpa using ew) ⟨rfl,fin⟩) hs
theorem aE:iO X (qT X.K):=by
 intro value slice O6 s σ H x y v u Q I rx ry h hs;obtain⟨p,xs,i,z,rfl,rfl,hq,he,q⟩:=h;cases rx;obtain⟨t,rfl⟩:=ry;obtain⟨its,r,pl,hz⟩:=I.tuple hq;obtain⟨j,h1,h2,h3,h4,h5⟩:=mW he;obtain⟨w,ew,rw'⟩:=r.get h2;have hl:=r.length;have hn:=iM;have fin:EP X O6 σ Q w s:=⟨z,H,I,rw',q⟩;exact subscriptTail_builtinR (x:=w) pl.typeIs slot_tuple_getitem.lookup
  (getItem_tuple (j:=j) (Q:=λr s'=>r=w/\EP X O6 σ Q r s') pl NC NC (by rw [HK,<-hl];exact h1) (by simpa using ew) ⟨rfl,fin⟩) hs
theorem qV:iO X qU:=by
 intro value slice O6 s σ H x y v u Q I rx ry h hs;obtain⟨z,i,c,rfl,rfl,hz,he,q⟩:=h;obtain⟨t,rfl⟩:=rx;obtain⟨t',rfl⟩:=ry;obtain⟨j,h1,h2,h3,h4,h5⟩:=mW he;have hl:z.cps.toList.length=z.length:=by simp [Str.length]
 rw [hl] at h1 h4 h5;have hn:=iM;exact tail_any (Ow s z t) slot_str_getitem.lookup (getItem_str (c:=c) (by
  have e1:decide (i < -(2 ^ 63:Int))=false:=decide_eq_false NC;have e2:decide (i >= 2 ^ 63)=false:=decide_eq_false NC;rw [e1,e2,Lk]) (by rw [h1];simpa using h2) ⟨.str ⟨#[c]⟩,H,I.tok _,⟨_,rfl⟩,q⟩) hs
theorem AN(its:List NJ)(n j:Nat)(u:NJ):Jj (·.setIfInBounds j u) {cls:= .type "list",data:= .seq its.toArray n}={cls:= .type "list",data:= .seq (its.set j u).toArray n}:=by
 simp [Jj]
theorem ae.lst{O6:List (NK×Obj)}{σ:St}{H:Hp}{s:NL}{p:NK}{xs:List V}(I:ae X O6 σ H s)(h:H p=some (.lst xs)):
 ∃(its:List NJ)(n:Nat),az xs its/\s.heap.get? p=some {cls:= .type "list",data:= .seq its.toArray n}/\xs.length<=NO:=by
 obtain⟨z,its,n,r,e⟩:=I.hok p _ h;exact⟨its,n,r,e,z⟩
theorem ae.lstUpd{O6:List (NK×Obj)}{σ:St}{H:Hp}{s:NL}{p:NK}{xs ys:List V}{its its':List NJ}{n n':Nat}{f:Obj->Obj}(I:ae X O6 σ H s)(h:H p=some (.lst xs))
 (ho:s.heap.get? p=some {cls:= .type "list",data:= .seq its.toArray n})(hf:f {cls:= .type "list",data:= .seq its.toArray n}={cls:= .type "list",data:= .seq its'.toArray n'})(r:az ys its')(hz:ys.length<=NO)(t:Nat):
 ae X O6 σ (ak H p (.lst ys)) {s with heap:=s.heap.update p f,toks:=t}:=by
 have e:(s.heap.update p f).get? p=some {cls:= .type "list",data:= .seq its'.toArray n'}:=by
  rw [Heap.get?_update_self f ho (by rw [hf] <;> rfl),hf]
 refine I.write (x:=p) (e:=p) (by rw [h];trivial) (.inl rfl) (λb u hb q=>(L0 _ _ (Ne.symm hb)).trans q) ⟨_,e⟩ ?_;exact⟨hz,its',n',r,e⟩
def AO:V->V->V->Hp->(Hp->Prop)->Prop:=λo i v H Q=>∃p xs k j,o= .ref p/\i= .int k/\H p=some (.lst xs)/\fF xs.length k=some j/\Q (ak H p (.lst (xs.set j v)))
theorem mX:qr X AO:=by
 intro O6 s σ H o i v ov iv u Q I ro ri rv h;obtain⟨p,xs,k,j,rfl,rfl,hp,hj,q⟩:=h;cases ro;obtain⟨t,rfl⟩:=ri;obtain⟨its,n,r,ho,hz⟩:=I.lst hp;obtain⟨h1,h2,h3,h4⟩:=qR hj;have hl:=r.length;have hn:=iM;have I':ae X O6 σ (ak H p (.lst (xs.set j v))) {s with heap:=s.heap.update p (Jj (·.setIfInBounds j u))}:=
  I.lstUpd hp ho (AN its n j u) (r.set rv j) (by rw [List.length_set];exact hz) s.toks
 by_cases h0:0<=k
 ·have hk:k.toNat=j:=by
   rw [seqIndex_of h0 h4] at h1;exact II h1
  exact PySem.W.ki_setAt ho h0 NC (by rw [HK,<-hl];exact h4) (by rw [hk];exact⟨_,I',q⟩)
 ·have hk:(k+(its.toArray.size:Int)).toNat=j:=by
   rw [seqIndex_neg NC h3] at h1;rw [HK,<-hl];exact II h1
  exact PySem.W.ki_setBack ho NC (by rw [HK,<-hl];exact h3) NC (by rw [hk];exact⟨_,I',q⟩)
theorem AQ(lo hi:Option Int)(n:Nat):(Oy lo hi none n).1=((HT.sIx n 0 lo:Nat):Int)/\(Oy lo hi none n).2.1=((HT.sIx n n hi:Nat):Int)/\(Oy lo hi none n).2.2=1:=by
 refine⟨?_,?_,rfl⟩
 ·cases lo with
  | none=>simp [Oy,HT.sIx]
  | some i=>
   simp only [Oy,HT.sIx,MD,show(1:Int) > 0 by decide,if_true];by_cases h:i < 0
   ·simp only [h,if_true] <;> omega
   ·simp only [h,if_false] <;> omega
 ·cases hi with
  | none=>simp [Oy,HT.sIx]
  | some i=>
   simp only [Oy,HT.sIx,MD,show(1:Int) > 0 by decide,if_true];by_cases h:i < 0
   ·simp only [h,if_true] <;> omega
   ·simp only [h,if_false] <;> omega
theorem AR(its:List NJ)(lo hi:Option Int):slicePick its.toArray lo hi none=((its.drop (HT.sIx its.length 0 lo)).take (HT.sIx its.length its.length hi - HT.sIx its.length 0 lo)).toArray:=by
 obtain⟨h1,h2,h3⟩:=AQ lo hi its.toArray.size;unfold slicePick;rw [h1,h2,h3];simp only [sliceRange_one,pick_run,HK] <;> rfl
def AS(K:Hx):V->Option Int->Option Int->Hp->VK->Prop:=λx lo hi H Q=>∃a xs,x= .ref a/\aQ K H a xs/\∀p,H p=none->Q (.ref p) (ak H p (.lst (fW xs lo hi)))
theorem qW:jH X (AS X.K):=by
 intro O6 s σ H x v vl vu lo hi sl Q I rx hs pl pu h;obtain⟨a,xs,rfl,hx,q⟩:=h;cases rx;obtain⟨its,r,ht,hz⟩:=I.list hx;have hlen:=r.length;refine⟨"list",_,slot_list_getitem.lookup,ht.isList.typeIs,?_⟩;refine wpAny_getItem_list_slice ht.isList hs pl pu .none NH ?_ (by rw [HK] <;> omega);rw [AR,<-hlen];refine⟨.ref s.heap.objs.size,_,I.laid (t':=s.toks) (o:= .lst (fW xs lo hi)) (λb ob q=>HH _ q) (HE _) ?_,rfl,q _ (I.hok.fresh (HE _))⟩;exact⟨Il (qQ xs lo hi) hz,_,0,(r.drop (HT.sIx xs.length 0 lo)).take (HT.sIx xs.length xs.length hi - HT.sIx xs.length 0 lo),IB _ rfl⟩
theorem bI:cW X (.builtin "len") (λxs H Q=>∃p ys,xs=[.ref p]/\(aQ X.K H p ys\/bg X.K H p ys)/\Q (.int ys.length) H):=by
 intro O6 s σ H xs us Q I r h;obtain⟨p,ys,rfl,hq,q⟩:=h;obtain⟨u,rfl,rx⟩:=cX r;cases rx;have hn:=iM;rcases hq with hq | hq
 ·obtain⟨its,r',pl,hz⟩:=I.list hq;have hlen:=r'.length;exact Calls.call_len_list pl.isList (by simp only [HK] <;> omega) ⟨.int ys.length,H,I.tok _,⟨s.toks+1,by rw [HK,hlen]⟩,q⟩
 ·obtain⟨its,r',pl,hz⟩:=I.tuple hq;have hlen:=r'.length;exact len_tuple pl (by simp only [HK] <;> omega) ⟨.int ys.length,H,I.tok _,⟨s.toks+1,by rw [HK,hlen]⟩,q⟩
theorem qX:cW X (.builtin "len") (λxs H Q=>∃z,xs=[.str z]/\z.length<=NO/\Q (.int z.length) H):=by
 intro O6 s σ H xs us Q I r h;obtain⟨z,rfl,hz,q⟩:=h;obtain⟨u,rfl,t,rfl⟩:=cX r;have hn:=iM;exact len_str NC ⟨.int z.length,H,I.tok _,⟨_,rfl⟩,q⟩
theorem AU:cW X (.type "list") (λxs H Q=>∃p ys,xs=[.ref p]/\(aQ X.K H p ys\/bg X.K H p ys)/\∀l,H l=none->Q (.ref l) (ak H l (.lst ys))):=by
 intro O6 s σ H xs us Q I r h;obtain⟨p,ys,rfl,hq,q⟩:=h;obtain⟨u,rfl,rx⟩:=cX r;cases rx;have fin:∀(its:List NJ),az ys its->ys.length<=NO->∀(h':NZ)(c':Nat),(∀b o',s.heap.get? b=some o'->h'.get? b=some o')->
  h'.get? s.heap.objs.size=some {cls:= .type "list",dict:=none,data:= .seq its.toArray c',slots:=#[]}->EP X O6 σ Q (.ref s.heap.objs.size) {s with heap:=h'}:=λits r' hz h' c' kp e=>
  ⟨.ref s.heap.objs.size,_,I.laid (t':=s.toks) kp (HE _) (show bD X.prog X.w _ h' _ (.lst ys) from⟨hz,its,c',r',e⟩),rfl,q _ (I.hok.fresh (HE _))⟩
 rcases hq with hq | hq
 ·obtain⟨its,r',pl,hz⟩:=I.list hq;have hlen:=r'.length;obtain⟨o,ho,hc,n,hd⟩:=pl.isList;exact call_list_seq p (.inl rfl) ho hc hd (λh' c' kp e=>fin its r' hz h' c' kp e) (by simp only [HK] <;> omega)
 ·obtain⟨its,r',pl,hz⟩:=I.tuple hq;have hlen:=r'.length;obtain⟨o,ho,hc,n,hd⟩:=pl;exact call_list_seq p (.inr rfl) ho hc hd (λh' c' kp e=>fin its r' hz h' c' kp e) (by simp only [HK] <;> omega)
theorem jI:cW X (.type "tuple") (λxs H Q=>∃p ys,xs=[.ref p]/\((aQ X.K H p ys/\∀l,H l=none->Q (.ref l) (ak H l (.tup ys)))\/(bg X.K H p ys/\Q (.ref p) H))):=by
 intro O6 s σ H xs us Q I r h;obtain⟨p,ys,rfl,h⟩:=h;obtain⟨u,rfl,rx⟩:=cX r;cases rx;rcases h with⟨hq,q⟩ | ⟨hq,q⟩
 ·obtain⟨its,r',pl,hz⟩:=I.list hq;have hlen:=r'.length;refine call_tuple_list pl.isList (λh' kp=>?_) (by simp only [HK] <;> omega);have I1:ae X O6 σ H {s with heap:=h'}:=I.kept (t':=s.toks) kp;have I2:ae X O6 σ (ak H h'.objs.size (.tup ys)) {s with heap:=h'.push {cls:= .type "tuple",data:= .seq its.toArray}}:=
   I1.laid (t':=s.toks) (λb o e=>HH _ e) (HE _) (show bD X.prog X.w _ _ _ (.tup ys) from⟨hz,its,r',LW _ _⟩)
  exact⟨.ref h'.objs.size,_,I2,rfl,q _ (I1.hok.fresh (HE _))⟩
 ·obtain⟨its,r',pl,hz⟩:=I.tuple hq;exact call_tuple_same pl ⟨.ref p,H,I,rfl,q⟩
def qY(K:Hx)(T:String)(x:V)(H:Hp):Prop:=match x with
 | .str _=>T="str"
 | .int _=>T="int"
 | .ref p=>(T="list"/\∃xs,aQ K H p xs)\/(T="tuple"/\∃o,K.lookup p=some o/\o.cls= .type "tuple"/\o.dict=none)\/
  (T="dict"/\((∃kvs,H p=some (.dK kvs))\/∃kvs,H p=some (.dT kvs)))\/(T="set"/\∃S n,H p=some (.set S n))
 | _=>False
theorem AV{O6:List (NK×Obj)}{σ:St}{H:Hp}{s:NL}{T:String}{x:V}{v:NJ}(I:ae X O6 σ H s)(r:ax x v)(ty:qY X.K T x H):
 s.TypeIs v T/\∀a,v= .ref a->∃ob,s.heap.get? a=some ob/\ob.dict=none:=by
 cases x with
 | str z=>
  obtain⟨t,rfl⟩:=r;cases (show T="str" from ty);exact⟨Ow s z t,λ_ e=>nomatch e⟩
 | int i=>
  obtain⟨t,rfl⟩:=r;cases (show T="int" from ty);exact⟨typeIs_int s i t,λ_ e=>nomatch e⟩
 | ref p=>
  cases r;rcases ty with⟨rfl,xs,hq⟩ | ⟨rfl,o,hk,hc,hd⟩ | ⟨rfl,hk⟩ | ⟨rfl,S,n,hk⟩
  ·obtain⟨its,_,pl,_⟩:=I.list hq;refine⟨pl.isList.typeIs,λa e=>?_⟩;cases e;obtain⟨o,n,e,c,hd,_⟩:=pl;exact⟨o,e,hd⟩
  ·refine⟨⟨o,I.kIn p o hk,hc⟩,λa e=>?_⟩;cases e;exact⟨o,I.kIn _ o hk,hd⟩
  ·have z:∃o,s.heap.get? p=some o/\o.ExactDict:=by
    rcases hk with⟨kvs,hk⟩ | ⟨kvs,hk⟩
    ·obtain⟨_,_,_,_,o,_,_,e,ex,_⟩:=I.hok p _ hk;exact⟨o,e,ex⟩
    ·obtain⟨_,_,_,_,o,_,_,e,ex,_⟩:=I.hok p _ hk;exact⟨o,e,ex⟩
   obtain⟨o,e,ex⟩:=z;refine⟨⟨o,e,ex.1⟩,λa e2=>?_⟩;cases e2;exact⟨o,e,ex.2.1⟩
  ·obtain⟨o,_,_,_,e,ex,_⟩:=I.hok p _ hk;refine⟨⟨o,e,ex.1⟩,λa e2=>?_⟩;cases e2;exact⟨o,e,ex.2.1⟩
 | _=>exact JA ty
def AW(K:Hx)(T:String)(r:V->List V->Hp->VK->Prop)(to:TE)(t:TA):TE:=λσ H Q=>to σ H λx H1=>qY K T x H1/\t σ H1 λxs H2=>r x xs H2 Q
variable {o e:NN} {es:List NN} {to:TE} {t:TA} {name:Str} {apos cpos:Pos} {T id:String} {r:V->List V->Hp->VK->Prop}
theorem kW(pa:PlainAttrs T)(slot:Slot T name id)(hty:typeOf (.builtin id)=pure (.type "method_descriptor"))(hm:qS X id r)(ho:PE X o to)(ha:PA X (e::es) t)
 (hbase:Ou o name X.env (eval o X.env)=eval o X.env:=by rfl)
 (hfew:((N7 cpos (NP (e::es) X.env)).all (λx=>!x.1) && (OQ cpos (Oz [] X.env)).all (λx=>x.1.isSome)
   && decide ((e::es).length+([]:List Oq).length+(if ([]:List Oq).isEmpty then 0 else 1) < 30))=true:=by rfl)
 (hline:(apos.endLine==cpos.line)=true:=by rfl)(hs:NP (e::es) X.env=(false,eval e X.env)::NP es X.env:=by rfl)(hplain:(N7 cpos (NP es X.env)).any (·.1)=false:=by rfl):
 PE X (.Call (.Attribute o name apos) (e::es) [] cpos) (AW X.K T r to t):=by
 intro O6 s σ H Q I h;refine wpAny_Call_method_late hbase hfew hline rfl (ar (ho O6 s σ H _ I h) λv s1 ⟨x,H1,I1,r1,ty,q1⟩=>?_);obtain⟨h1,h2⟩:=AV I1 r1 ty;refine⟨T,id,pa,slot,hty,h1,h2,?_⟩;have hA:=ha cpos O6 s1 σ H1 _ I1 q1;rw [hs] at hA⊢;refine KQ (by show(false || (N7 cpos (NP es X.env)).any (·.1))=false;rw [hplain] <;> rfl) (K1 ?_);exact ar hA λus s2 uu59=>by obtain⟨vs,H2,I2,r2,q2⟩:=uu59;exact hm O6 s2 σ H2 x vs v us Q I2 r1 r2 q2
end
def mY(X:Cx)(id:String)(r:V->List V->Hp->VK->Prop):Prop:=
 ∀(O6:List (NK×Obj))(s:NL)(σ:St)(H:Hp)(x:V)(xs:List V)(v:NJ)(us:List NJ)(Q:VK),ae X O6 σ H s->ax x v->az xs us->r x xs H Q->
  NS (NT X.prog X.w) X.A (call (.builtin id) (v::us)) (EP X O6 σ Q) X.xe s
theorem az.one:∀{x:V}{us:List NJ},az [x] us->∃u,us=[u]/\ax x u
 | _,_,.cons r .nil=>⟨_,rfl,r⟩
theorem az.eraseIdx:∀{xs:List V}{us:List NJ}(i:Nat),az xs us->az (xs.eraseIdx i) (us.eraseIdx i)
 | _,_,_,.nil=>.nil
 | _,_,0,.cons _ t=>t
 | _,_,i+1,.cons r t=>.cons r (az.eraseIdx i t)
theorem az.rep{xs:List V}{us:List NJ}(h:az xs us):∀k:Nat,az (Ia k xs).flatten (Ia k us).flatten
 | 0=>.nil
 | k+1=>by
  rw [Jz,Jz,JW,JW];exact az.append h (az.rep h k)
theorem qZ{α:Type}:∀(l:List α)(i:Nat),(l.eraseIdx i).length<=l.length
 | [],_=>HE _
 | _::_,0=>Lc _
 | _::r,i+1=>Nat.succ_le_succ (qZ r i)
theorem rf(its:List NJ):∀(k:Nat)(acc:List NJ),
 Kj (λx1 x2=>x1++x2) acc.toArray (Ia k its.toArray)=(acc++(Ia k its).flatten).toArray
 | 0,acc=>by simp
 | k+1,acc=>by
  have e:acc.toArray++its.toArray=(acc++its).toArray:=NH
  have e2:(acc++its)++(Ia k its).flatten=acc++(Ia (k+1) its).flatten:=by
   rw [Jz,JW,Lp]
  rw [<-e2,<-rf its k (acc++its),<-e,Jz,JN]
section
variable {X:Cx} {O6:List (NK×Obj)} {σ:St} {H:Hp} {s:NL} {l b:NK} {xs ys zs:List V}
theorem ae.lset{its its':List NJ}{n:Nat}{f:Array NJ->Array NJ}{t':Nat}(I:ae X O6 σ H s)(hH:H l=some (.lst xs))
 (e:s.heap.get? l=some {cls:= .type "list",data:= .seq its.toArray n})(hf:f its.toArray=its'.toArray)(hv:az ys its')(hz:ys.length<=NO):
 ae X O6 σ (ak H l (.lst ys)) {s with heap:=s.heap.update l (Jj f),toks:=t'}:=by
 have q:=PySem.IsL.update e f;rw [hf] at q;refine I.write (x:=l) (e:=l) (by rw [hH];exact trivial) (.inl rfl) (λb' u hb hu=>(L0 s.heap (Jj f) (Ne.symm hb)).trans hu) ⟨_,q⟩ ?_;exact⟨hz,its',_,hv,q⟩
theorem ae.lnew{its:List NJ}{t':Nat}(I:ae X O6 σ H s)(hv:az ys its)(hz:ys.length<=NO):
 ae X O6 σ (ak H s.heap.objs.size (.lst ys)) {s with heap:=s.heap.push {cls:= .type "list",data:= .seq its.toArray},toks:=t'}:=
 I.laid (λ_ _ q=>HH _ q) (HE _) ⟨hz,its,0,hv,IB _ rfl⟩
theorem ae.fresh(I:ae X O6 σ H s):H s.heap.objs.size=none:=I.hok.fresh (HE _)
theorem ae.lstM(I:ae X O6 σ H s)(hH:H l=some (.lst xs)):xs.length<=NO/\∃(its:List NJ)(n:Nat),az xs its/\xs.length=its.length/\s.heap.get? l=some {cls:= .type "list",data:= .seq its.toArray n}:=by
 obtain⟨z,its,n,r,e⟩:=I.hok l _ hH;exact⟨z,its,n,r,r.length,e⟩
theorem AX{n:Nat}(h:n<=NO):Kz n=false:=by
 unfold Kz;exact decide_eq_false NC
end
section
variable {X:Cx}
def AY:V->List V->Hp->VK->Prop:=λx vs H Q=>∃l xs y,x= .ref l/\vs=[y]/\H l=some (.lst xs)/\xs.length < NO/\Q .non (ak H l (.lst (xs++[y])))
theorem rg:mY X "list.append" AY:=by
 intro O6 s σ H x vs v us Q I rx rv h;obtain⟨l,xs,y,rfl,rfl,hH,hz,q⟩:=h;cases rx;obtain⟨u,rfl,ru⟩:=rv.one;obtain⟨z,its,n,r,hl,e⟩:=I.lstM hH;refine Oj F.slot_list_append ⟨_,e,rfl⟩ F.entry_list_append (F.args_list_append_2 _ _) (PySem.list_append l its.toArray n u (by rw [HK];omega)) ⟨e,?_⟩;refine⟨.non,_,I.lset (its':=its++[u]) hH e NH (r.append (.cons ru .nil)) ?_,rfl,q⟩;rw [HU,Jb];omega
def AZ:V->List V->Hp->VK->Prop:=λx vs H Q=>∃l xs i k y,x= .ref l/\vs=[.int i]/\H l=some (.lst xs)/\-(2 ^ 63)<=i/\i < 2 ^ 63/\seqIndex? i xs.length=some k/\xs[k]?=some y/\Q y (ak H l (.lst (xs.eraseIdx k)))
theorem A0:mY X "list.pop" AZ:=by
 intro O6 s σ H x vs v us Q I rx rv h;obtain⟨l,xs,i,k,y,rfl,rfl,hH,h1,h2,hk,hy,q⟩:=h;cases rx;obtain⟨u,rfl,ru⟩:=rv.one;obtain⟨t,rfl⟩:=ru;obtain⟨z,its,n,r,hl,e⟩:=I.lstM hH;obtain⟨w,hw,rw'⟩:=r.get hy;refine Oj F.slot_list_pop ⟨_,e,rfl⟩ F.entry_list_pop (F.args_list_pop_2 _ _)
  (MeetsSeq.list_pop_at l its.toArray n i t k w (fitsIndex_both h1 h2) (by rw [HK,<-hl];exact hk) (by rw [<-Array.getElem?_toList];exact hw) (by rw [HK];omega)) ⟨e,?_⟩
 refine⟨y,_,I.lset (its':=its.eraseIdx k) hH e ?_ (r.eraseIdx k) ?_,rw',q⟩
 ·show its.toArray.eraseIdxIfInBounds k=(its.eraseIdx k).toArray;rw [List.eraseIdxIfInBounds_toArray]
 ·have:=qZ xs k;omega
def A1:R2:=λx y H Q=>∃l k xs,x= .ref l/\y= .int k/\H l=some (.lst xs)/\-(2 ^ 63)<=k/\k < 2 ^ 63/\xs.length*k.toNat<=NO/\
 ∀p,H p=none->Q (.ref p) (ak H p (.lst (Ia k.toNat xs).flatten))
theorem A2{α:Type}(xs:List α)(k:Nat):(Ia k xs).flatten.length=k*xs.length:=by
 induction k with
 | zero=>simp
 | succ k ih=>rw [Jz,JW,HU,ih,Nat.succ_mul,Nat.add_comm]
theorem A3:bf X (Oi .Mult) A1:=by
 intro O6 s σ H x y v u Q I rx ry h;obtain⟨l,k,xs,rfl,rfl,hH,h1,h2,hz,q⟩:=h;cases rx;obtain⟨t,rfl⟩:=ry;obtain⟨z,its,n,r,hl,e⟩:=I.lstM hH;have hlen:its.toArray.size*k.toNat<=NO:=by rw [HK,<-hl];exact hz
 have hcap:¬its.toArray.size*k.toNat > (2 ^ 63 - 1)/ 8:=by
  have:(NO:Nat)<=(2 ^ 63 - 1)/ 8:=NB
  omega
 have hfit:¬(!JR k)=true:=by
  rw [fitsIndex_both h1 h2];exact IJ
 have hlong:¬Kz (its.toArray.size*k.toNat)=true:=by
  rw [AX hlen];exact IJ
 have hnew:Kj (λx1 x2=>x1++x2) #[] (Ia (if its.toArray.isEmpty=true then 0 else k.toNat) its.toArray)=(Ia k.toNat its).flatten.toArray:=by
  have f0:∀m:Nat,Kj (λx1 x2=>x1++x2) #[] (Ia m its.toArray)=(Ia m its).flatten.toArray:=λm=>by
   have:=rf its m [];rw [Jx] at this;exact this
  rw [f0];cases its with
  | nil=>simp
  | cons a r'=>rw [ND NH]
 refine wpAny_binaryOp_repeat_ref (T:="list") (U:="int") NB ⟨_,e,rfl⟩ (λs'=>typeIs_int s' k t) noFill_list_mul F.fills_int_mul F.slot_int_rmul repeat_list F.slot_int_index.lookup
  (Oj F.slot_int_rmul (typeIs_int s k t) F.entry_int_rmul (F.args_int_rmul_2 _ _) (int___rmul___int_list k t l its.toArray n)
    ⟨e,rfl,⟨_,e,rfl⟩,Oj F.slot_list_mul ⟨_,e,rfl⟩ F.entry_list_mul (F.args_list_mul_2 _ _) (AutoListH.list___mul___list_int_3 l its.toArray n k t hfit hcap hlong) ⟨e,?_⟩⟩)
 rw [hnew];exact⟨.ref _,_,I.lnew (t':=s.toks) (r.rep k.toNat) (by rw [A2,Nat.mul_comm];exact hz),rfl,q _ I.fresh⟩
end
end L2
namespace Att
open PySem PySem.W PySem.Calls PyProof.Rows
theorem A4{P:Params}{h:NZ}:∀(ns:List Int)(vs:List NJ),WellAll P h vs (ns.map J8)->IntsAre vs ns:=by
 intro ns
 induction ns with
 | nil=>
  intro vs w;rw [Jq] at w;cases w;exact .nil
 | cons n ns ih=>
  intro vs w;rw [HF] at w;cases w with
  | cons a b=>
   cases a;exact .cons _ _ (ih _ b)
theorem A5{l:OpenLaw}{n:Nat}(hn:l.most=some n){P:Params}{h:NZ}{args:List WData}{vals:List NJ}
 (hpre:l.row.toRowW.claim.pre args=true)(hwl:WellAll P h vals args):
 ∃a vs ns,vals=[Ih a]/\args=[Lz (ns.map J8)]/\h.get? a=some {cls:= .type "list",data:= .seq vs.toArray}/\IntsAre vs ns/\ns.length<=n:=by
 have hsh:WShape.hasAll [] args [.list .int]=true:=(pre_splitW hpre).1;have hc:l.pre.holds [] {args:=args}=true:=(pre_splitW hpre).2;obtain⟨d,r,rfl,h1,h2⟩:=hasAllW_cons hsh;obtain rfl:=hasAllW_nil h2;obtain⟨xs,rfl,h3⟩:=hasW_list h1;obtain⟨ns,rfl⟩:=items_int h3;have hlen:ns.length<=n:=by
  unfold OpenLaw.pre at hc;have h4:(WTm.not (.lt (.lit (.int (n:Int))) (.len (.arg 0)))).holds [] {args:=[.list (ns.map .int)]}=true:=by
   have h4:=(holds_andW hc).1;rw [hn] at h4;exact h4
  have h5:=condW_of h4 (w_not (w_lt w_lit (w_len_list (w_arg rfl))));rw [HB] at h5;refine LG λq=>?_;have q':(n:Int) < ((ns.length:Nat):Int):=NC
  first
   | (rw [decide_eq_true q'] at h5;exact absurd h5 NB)
   | (simp at h5;omega)
 cases hwl with
 | cons w1 w2=>
  cases w2;cases w1 with
  | list ho hall=>exact⟨_,_,ns,rfl,rfl,ho,A4 ns _ hall,hlen⟩
theorem A6(l:OpenLaw)(args:List WData):l.row.toRowW.claim.post args (.bool true) args=true:=
 postW_of (r:=l.row.toRowW) (X:=(true==true))
  (show WShape.has [] (.bool true) .bool=true by first | rfl | decide | simp [WShape.has,WShape.arms,WShape.armsAll])
  (show(WTm.eq .res (.lit (.bool true))).value [] {args:=args,res:=some (.bool true),after:=args}=some (.bool (true==true)) from w_eq_bool (w_res rfl) w_lit) rfl
end Att
namespace L2
open PySem PySem.Spec PyProof.Rows
theorem rh:∀{vs:List NJ}{ns:List Int},IntsAre vs ns->az (ns.map V.int) vs
 | _,_,.nil=>.nil
 | _,_,.cons n t h=>.cons ⟨t,rfl⟩ (rh h)
def kX(H:Hp):Prop:=∀b,H b=none\/∃o xs,H b=some (.frz o (.lst xs))
theorem A7{P:NV}{w:NX}{K:Hx}{mg mb:Str->Option NJ}{CX:dh}{k:Nat}{fa a:NK}{fd:NU}{x:Str}{sp:Sp}{s₁:NL}{vs:List NJ}{ns:List Int}
 (KX:K.In s₁.heap)(hns:s₁.heap.Ns NW mg)(hb:s₁.heap.Ns builtinsNs mb)(hbb:∀x:Str,x≠"__name__"->mb x=N3 x)(hlim:s₁.heap.NoLimit)(hg:s₁.gens=#[])
 (ha:s₁.heap.get? a=some {cls:= .type "list",data:= .seq vs.toArray})(hi:IntsAre vs ns)(hl:ns.length<=NO)(hr:br k callerA)
 (F:∀base:NZ,K.In base->base.Ns NW mg->aO P w K mg base CX k fa fd [x] sp)(hbind:∀(s:NL) (u:NJ),BindsTo s fd ⟨[u],[]⟩ [(x,u)])
 (hsp:∀H:Hp,kX H->aQ K H a (ns.map V.int)->sp [.ref a] H (λv _=>v= .bl true) λ_ _ _=>False)
 (hCX:∀H e s',CX [] H s₁ (λ_ _ _=>False) e s'->False):
 codeAny (NT P w) callerA (.call (.ref fa) ⟨[.ref a],[]⟩) (λr s'=>r= .ok (.ret (.bool true))/\OldK s₁.heap s'.heap/\s'.os=s₁.os/\OL s'.gens) s₁:=by
 have rv:=rh hi;have lenV:=hi.length;have core:∀H:Hp,kX H->aQ K H a (ns.map V.int)->bG P w H s₁.heap->(∀b,H b≠none->b=a)->(H a≠none->K.lookup a=none)->
  codeAny (NT P w) callerA (.call (.ref fa) ⟨[.ref a],[]⟩) (λr s'=>r= .ok (.ret (.bool true))/\OldK s₁.heap s'.heap/\s'.os=s₁.os/\OL s'.gens) s₁:=by
  intro H hO hS hok hA hK;have base_of:∀{b:NK}{o:Obj},s₁.heap.get? b=some o->H b=none->(fT s₁.heap H).get? b=some o:=λe n=>yS e n;have noA:∀{b:NK}{o:Obj}{es:Array Ol}{ep:Nat},s₁.heap.get? b=some o->o.data= .dict es ep->H b=none:=λ{b o es ep} e d=>by
   cases q:H b with
   | none=>rfl
   | some u=>
    have e':b=a:=hA b (by rw [q];simp);subst e';rw [ha] at e;cases e;have d':Data.seq vs.toArray _=Data.dict es ep:=d;cases d'
  have nsK:∀{b:NK}{m:Str->Option NJ},s₁.heap.Ns b m->(fT s₁.heap H).Ns b m:=λ{b m} ⟨o,es,ep,e,d,r⟩=>⟨o,es,ep,base_of e (noA e d),d,r⟩;have hKb:K.In (fT s₁.heap H):=λb o e=>base_of (KX b o e) (by
   cases q:H b with
   | none=>rfl
   | some u=>
    have e':b=a:=hA b (by rw [q];simp);subst e';rw [hK (by rw [q];simp)] at e;cases e)
  have hM:Mod K mg (fT s₁.heap H):=⟨hKb,nsK hns,⟨mb,nsK hb,hbb⟩,let ⟨mc,h1,h2⟩:=hlim;⟨mc,nsK h1,h2⟩⟩;have e0:hJ P w K mg (fT s₁.heap H) callerA [] s₁ H:=⟨rfl,hM,λb o e=>yT e,Nat.le_of_eq (yR _ _),trivial,λb hb=>absurd (show b∈([]:List NK) from hb) NH,hok,.of_eq hg⟩;refine codeAny_mono ((F _ hKb (nsK hns)).run callerA [] s₁ H ⟨[.ref a],[]⟩ [.ref a] [.ref a] _ _ hr e0 (hbind s₁ (.ref a)) (.cons rfl .nil) (hsp H hO hS)) λr s' h=>?_;cases r with
  | error e=>exact(hCX H e s' h).elim
  | ok fl=>
   cases fl with
   | next=>exact JA h
   | brk=>exact JA h
   | cont=>exact JA h
   | ret u=>
    obtain⟨v,H',os,bare,un,hok',r',q⟩:=h;have q':v= .bl true:=q;subst q';obtain rfl:u=JG true:=r';refine⟨rfl,OldK.of_keep λb o e=>?_,os,bare⟩;cases q:H b with
    | none=>exact un.keep b o e q (by intro z;exact absurd (show b∈([]:List NK) from z) NH) NH
    | some u=>
     rcases hO b with z | ⟨ob,xs,z⟩
     ·rw [q] at z;cases z
     ·have z2:=un.frzs b ob _ z;obtain⟨e1,_⟩:=hok b _ z;obtain⟨e2,_⟩:=hok' b _ z2;rw [e] at e1;cases e1;exact e2
 cases hk:K.lookup a with
 | some o=>
  have e:=KX a o hk;rw [ha] at e;cases e;refine core (λ_=>none) (λ_=>.inl rfl) (.inr ⟨_,vs.toArray,_,hk,rfl,rfl,rfl,by rw [HK,lenV];exact hl,by simpa using rv⟩) (λb u z=>by have z':(none:Option HO)=some u:=z;cases z') (λb z=>absurd rfl z) λz=>absurd rfl z
 | none=>
  refine core (λb=>if b=a then some (.frz {cls:= .type "list",data:= .seq vs.toArray} (.lst (ns.map V.int))) else none) (λb=>?_) (.inl (.inr ⟨{cls:= .type "list",data:= .seq vs.toArray},NF rfl⟩)) (λb u z=>?_) (λb z=>?_) λ_=>hk
  ·by_cases hb:b=a
   ·exact .inr ⟨_,_,NF hb⟩
   ·exact .inl (ND hb)
  ·by_cases hb:b=a
   ·have z':=(NF hb).symm.trans z;cases z';subst hb;exact⟨ha,by rw [HB];exact hl,vs,_,rv,ha⟩
   ·have z':=(ND hb).symm.trans z;cases z'
  ·by_cases hb:b=a
   ·exact hb
   ·exact absurd (ND hb) z
abbrev KOf{K:Hx}{h:NZ}(_:K.In h):Hx:=K
def hW(s:N1):Arguments:=match s with
 | .FunctionDef _ a _ _ _ _ _ _ _ _=>a
 | _=>{posonlyargs:=[],args:=[],vararg:=none,kwonlyargs:=[],kw_defaults:=[],kwarg:=none,defaults:=[]}
def fX(s:N1):List N1:=match s with
 | .FunctionDef _ _ b _ _ _ _ _ _ _=>b
 | _=>[]
def aD(s:N1):Of:=match s with
 | .FunctionDef _ _ _ _ _ _ sc _ _ _=>sc
 | _=>{kind:= .function,names:=[],isGenerator:=false,isCoroutine:=false}
abbrev CX0:dh:=λ_ _ _ _ _ _=>False
abbrev E0:XK:=λ_ _ _=>False
theorem A8{X:Cx}:mU CX0 X E0:=λ_ _ _ _ _ _ _ h=>h.elim
structure fY (K:Hx) (x qual:Str) (st:N1) (f:NK) (fd:NU):Prop where
 ex:∃(oc:NJ)(od:Option NK)(kV doc pm:NJ)(an:Option NK)(cdv ct:NJ)(osl:Array (Option NJ)),
  fd=JM x qual (hW st) (fX st) (aD st) .none kV doc pm an cdv ct/\K.lookup f=some ⟨oc,od,.func fd,osl⟩/\K9 K cdv qual=true
 kp:KC K (.ref f)=true
section
variable {P:NV} {w:NX} {K:Hx} {mg:Str->Option NJ} {base:NZ}
theorem fY.ok{x qual:Str}{st:N1}{f:NK}{fd:NU}{N ps:List Str}{k:Nat}{sp:Sp}(F:fY K x qual st f fd)(S:aY N ps (aD st))(len:∀vs H Q E,sp vs H Q E->vs.length=ps.length)
 (hbody:∀(cdv:NJ) (A:N2) (outer:List Env) (s:NL) (H:Hp) (vs:List V) (Q:VK) (E:XK),br k (A.deeper (envOfC qual (aD st) s.heap.objs.size f cdv))->sp vs H Q E->
   ∃t,bx (gC CX0 P w K mg base N qual (aD st) f cdv A outer s H E).nox (fX st) t/\t {nx:=λ_ H'=>Q .non H',rt:=Q} (start N vs) H):aO P w K mg base CX0 (k+1) f fd ps sp:=by
 obtain⟨oc,od,kV,doc,pm,an,cdv,ct,osl,rfl,lk,hcd⟩:=F.ex;refine Ay lk hcd S len λA outer s H vs Q E hr hsp=>?_;obtain⟨t,h,q⟩:=hbody cdv A outer s H vs Q E hr hsp;exact⟨t,h.nox,q⟩
theorem fY.binds{x qual:Str}{st:N1}{f:NK}{fd:NU}{ps:List Str}(F:fY K x qual st f fd)
 (h:∀(kV doc pm:NJ) (an:Option NK) (cdv ct:NJ) (us:List NJ),us.length=ps.length->bindArgs (JM x qual (hW st) (fX st) (aD st) .none kV doc pm an cdv ct) ⟨us,[]⟩=pure (ps.zip us)):fj K fd ps []:=by
 obtain⟨oc,od,kV,doc,pm,an,cdv,ct,osl,rfl,lk,hcd⟩:=F.ex;exact .all (h kV doc pm an cdv ct)
theorem A9{x qual:Str}{st:N1}{f:NK}{oc:NJ}{od an:Option NK}{osl:Array (Option NJ)}{kV doc pm cdv ct:NJ}(l:K.lookup f=some ⟨oc,od,.func (JM x qual (hW st) (fX st) (aD st) .none kV doc pm an cdv ct),osl⟩)
 (c:K9 K cdv qual=true)(k:KC K (.ref f)=true):fY K x qual st f (JM x qual (hW st) (fX st) (aD st) .none kV doc pm an cdv ct):=⟨⟨oc,od,kV,doc,pm,an,cdv,ct,osl,rfl,l,c⟩,k⟩
end
section
variable {X:Cx}
theorem pv(i:Nat){x:Str}{pos:Pos}(hN:X.N[i]?=some x:=by rfl)(hv:jw X.env.scope x:=by first | exact L4 rfl | exact K2 (L4 rfl) | exact K2 (K2 rfl))(hd:(x==("__debug__":Str))=false:=by decide)
 (hcd:(x==("__classdict__":Str))=false:=by decide):PE X (.Name x pos) (dF i):=mr hN hv hd hcd
end
def ao(H H':Hp):Prop:=∀b o,H b=some o->H' b=some o
theorem ao.refl(H:Hp):ao H H:=λ_ _ h=>h
theorem ao.trans{H H1 H2:Hp}(a:ao H H1)(b:ao H1 H2):ao H H2:=λc o h=>b c o (a c o h)
theorem Ba(a b:Int):jF (.int a) (.int b)=true:=rfl
theorem Bb(a b:Str):jF (.str a) (.str b)=true:=rfl
theorem Bc(a b:Bool):jF (.bl a) (.bl b)=true:=rfl
theorem Bd(b:Int):jF .non (.int b)=true:=rfl
theorem Be(b:Int):jF (.int b) .non=true:=rfl
def dH(env:Env)(names:List (Str×Og))(cs:List (Str×NK)):List (Str×NK):=
 names.foldl (λcs p=>if (p.2==Jf)=true then(p.1,(env.cells.lookup p.1).getD 0)::cs else cs) cs
theorem rj{scope:Of}{env:Env}(h:∀y∈scope.names,y.2= .free->∃c,env.cells.lookup y.1=some c):closureFor scope env=pure (dH env scope.names []):=by
 unfold closureFor;have key:∀(l:List (Str×Og))(cs:List (Str×NK)),(∀y∈l,y.2= .free->∃c,env.cells.lookup y.1=some c)->
  (forIn l cs λ(x:Str×Og) (r:List (Str×NK))=>(if (x.2==Jf)=true then do let a<-cellOf env x.1;pure (J9 ((x.1,a)::r)) else pure (J9 r):Sem (ForInStep (List (Str×NK)))))=pure (dH env l cs):=by
  intro l
  induction l with
  | nil=>intro cs _;rfl
  | cons p r ih=>
   intro cs hl;rw [MM];by_cases hk:(p.2==Jf)=true
   ·obtain⟨c,hc⟩:=hl p HZ (by simpa using hk);rw [NF hk];have e:cellOf env p.1=pure c:=by unfold cellOf;rw [hc]
    rw [e];simp only [pure_bind];rw [ih _ λy hy=>hl y (Ic _ hy)];unfold dH;rw [JN,NF hk,hc];rfl
   ·rw [ND hk];simp only [pure_bind];rw [ih _ λy hy=>hl y (Ic _ hy)];unfold dH;rw [JN,ND hk]
 have:=key scope.names [] h;simp only [bind_pure];exact this
theorem mZ{env:Env}:∀(l:List (Str×Og))(cs:List (Str×NK)){x:Str}{c:NK},(∀y∈l,y.2= .free->∃c,env.cells.lookup y.1=some c)->(∀y d,cs.lookup y=some d->env.cells.lookup y=some d)->
 (dH env l cs).lookup x=some c->env.cells.lookup x=some c
 | [],cs,x,c,_,hc,h=>hc x c h
 | p::r,cs,x,c,hl,hc,h=>by
  unfold dH at h;rw [JN] at h;by_cases hk:(p.2==Jf)=true
  ·rw [NF hk] at h;refine mZ r _ (λy hy=>hl y (Ic _ hy)) (λy d e=>?_) h;obtain⟨a,ha⟩:=hl p HZ (by simpa using hk);rw [Iw] at e;cases hx:y==p.1 with
   | true=>
    rw [hx] at e;have hy:y=p.1:=by simpa using hx
    rw [ha] at e;cases e;rw [hy];exact ha
   | false=>rw [hx] at e;exact hc y d e
  ·rw [ND hk] at h;exact mZ r cs (λy hy=>hl y (Ic _ hy)) hc h
theorem nc{env:Env}:∀(l:List (Str×Og))(cs:List (Str×NK)){x:Str},(∃c,cs.lookup x=some c)->∃c,(dH env l cs).lookup x=some c
 | [],cs,x,h=>h
 | p::r,cs,x,⟨c,h⟩=>by
  unfold dH;rw [JN];by_cases hk:(p.2==Jf)=true
  ·rw [NF hk];refine nc r _ ?_;rw [Iw];cases hx:x==p.1 with
   | true=>exact⟨_,rfl⟩
   | false=>exact⟨c,h⟩
  ·rw [ND hk];exact nc r cs ⟨c,h⟩
theorem ng{env:Env}:∀(l:List (Str×Og))(cs:List (Str×NK)){x:Str},(x,Jf)∈l->∃c,(dH env l cs).lookup x=some c
 | [],_,_,h=>by simp at h
 | p::r,cs,x,h=>by
  unfold dH;rw [JN];rcases HM.mp h with e | e
  ·subst e;rw [NF (by rfl)];exact nc r _ ⟨(env.cells.lookup x).getD 0,by rw [Iw];simp⟩
  ·exact ng r _ e
theorem Bf{env:Env}{scope:Of}{x:Str}(h:(relabel scope env).names.lookup x=some .cell\/(relabel scope env).names.lookup x=some .free):scope.names.lookup x=some .free\/scope.names.lookup x=some .cell:=by
 have key:∀(l:List (Str×Og)),
  ((l.map λ(n,k)=>if (k==Jf && env.scope.kind== .function && env.kindOf n==some .cell) then(n,KS) else(n,k)).lookup x=some .cell\/
  (l.map λ(n,k)=>if (k==Jf && env.scope.kind== .function && env.kindOf n==some .cell) then(n,KS) else(n,k)).lookup x=some .free)->l.lookup x=some .free\/l.lookup x=some .cell:=by
  intro l
  induction l with
  | nil=>intro h;simp at h
  | cons p r ih=>
   obtain⟨n,k⟩:=p;intro h;rw [HF] at h;rw [Iw];by_cases hx:x=n
   ·subst hx;rw [beq_self_eq_true];by_cases hq:(k==Jf && env.scope.kind== .function && env.kindOf x==some .cell)=true
    ·have:k= .free:=by simp only [HX,beq_iff_eq] at hq;exact hq.1.1
     subst this;exact .inl rfl
    ·simp only [ND hq,Iw,beq_self_eq_true] at h;exact h.symm
   ·have hb:(x==n)=false:=by simpa using hx
    rw [hb];refine ih ?_;by_cases hq:(k==Jf && env.scope.kind== .function && env.kindOf n==some .cell)=true
    ·simpa only [NF hq,Iw,hb] using h
    ·simpa only [ND hq,Iw,hb] using h
 exact key scope.names h
theorem Bg{env:Env}{scope:Of}{x:Str}(h:scope.names.lookup x=some .cell\/scope.names.lookup x=some .free):(relabel scope env).names.lookup x=some .cell\/(relabel scope env).names.lookup x=some .free:=by
 have key:∀(l:List (Str×Og)),l.lookup x=some .cell\/l.lookup x=some .free->
  ((l.map λ(n,k)=>if (k==Jf && env.scope.kind== .function && env.kindOf n==some .cell) then(n,KS) else(n,k)).lookup x=some .cell\/
  (l.map λ(n,k)=>if (k==Jf && env.scope.kind== .function && env.kindOf n==some .cell) then(n,KS) else(n,k)).lookup x=some .free):=by
  intro l
  induction l with
  | nil=>intro h;simp at h
  | cons p r ih=>
   obtain⟨n,k⟩:=p;intro h;rw [HF];by_cases hx:x=n
   ·subst hx;rw [Iw,beq_self_eq_true] at h;by_cases hq:(k==Jf && env.scope.kind== .function && env.kindOf x==some .cell)=true
    ·left;simp only [NF hq,Iw,beq_self_eq_true]
    ·simp only [ND hq,Iw,beq_self_eq_true];exact h
   ·have hb:(x==n)=false:=by simpa using hx
    rw [Iw,hb] at h;by_cases hq:(k==Jf && env.scope.kind== .function && env.kindOf n==some .cell)=true
    ·simpa only [NF hq,Iw,hb] using ih h
    ·simpa only [ND hq,Iw,hb] using ih h
 exact key scope.names h
structure bu (sc:Of) (N N':List Str) (k:Nat) (fr:List Nat) (scope:Of):Prop where
 kind:scope.kind= .function
 cell:∀y∈scope.names,y.2= .cell->scope.names.lookup y.1=some .cell
 names:∀y∈scope.names,y.2= .local->scope.names.lookup y.1=some .local
 nd:N'.Nodup
 slot:fr.map (λj=>N[j]?)=(N'.drop k).map some
 frees:∀x∈N'.drop k,scope.names.lookup x=some .free
 outer:∀y∈scope.names,y.2= .free->sc.names.lookup y.1=some .cell\/sc.names.lookup y.1=some .free
 outer':∀x∈N'.drop k,sc.names.lookup x=some .cell\/sc.names.lookup x=some .free
 len:N'.length=k+fr.length
theorem kY:∀(l:List (Str×Og)){n:Nat}{a:List (Str×NK)}{x:Str}{c:NK},(Od n l a).lookup x=some c->n<=c\/a.lookup x=some c
 | [],_,_,_,_,h=>.inr h
 | (y,k)::r,n,a,x,c,h=>by
  unfold Od at h;split at h
  ·rcases kY r h with z | z
   ·exact .inl NC
   ·rw [Iw] at z;split at z
    ·exact .inl (by cases z;exact HE _)
    ·exact .inr z
  ·exact kY r h
theorem nh:∀(l:List (Str×Og)){n:Nat}{a:List (Str×NK)}{x:Str}{c:NK},l.lookup x=some .cell->(Od n l a).lookup x=some c->n<=c
 | [],_,_,_,_,e,_=>nomatch e
 | (y,k)::r,n,a,x,c,e,h=>by
  unfold Od at h;rw [Iw] at e;cases hx:x==y with
  | true=>
   rw [hx] at e;cases e;have h:List.lookup x (Od (n+1) r ((y,n)::a))=some c:=h;rcases kY r h with z | z
   ·exact Lq z
   ·rw [Iw,hx] at z;cases z;exact HE _
  | false=>
   rw [hx] at e;split at h
   ·exact Lq (nh r e h)
   ·exact nh r e h
theorem nj:∀(l:List (Str×Og)){n:Nat}{a:List (Str×NK)}{x:Str},(∀y∈l,y.2= .cell->y.1≠x)->(Od n l a).lookup x=a.lookup x
 | [],_,_,_,_=>rfl
 | (y,k)::r,n,a,x,h=>by
  unfold Od;split
  ·rename_i hk;rw [nj r λz hz=>h z (Ic _ hz),Iw];have:(x==y)=false:=by simpa using Ne.symm (h (y,k) HZ (by simpa using hk))
   rw [this]
  ·exact nj r λz hz=>h z (Ic _ hz)
theorem nk:∀(l:List (Str×Og)){n:Nat}{a:List (Str×NK)},(∀x c,a.lookup x=some c->c < n)->(∀x y c,a.lookup x=some c->a.lookup y=some c->x=y)->∀x y c,(Od n l a).lookup x=some c->(Od n l a).lookup y=some c->x=y
 | [],_,_,_,h=>h
 | (z,k)::r,n,a,hl,hi=>by
  unfold Od;split
  ·have one:∀x c,((z,n)::a).lookup x=some c->x=z/\c=n\/c < n/\a.lookup x=some c:=λx c e=>by
    rw [Iw] at e;cases hx:x==z with
    | true=>rw [hx] at e;cases e;exact .inl ⟨by simpa using hx,rfl⟩
    | false=>rw [hx] at e;exact .inr ⟨hl x c e,e⟩
   refine nk r (λx c e=>?_) λx y c e1 e2=>?_
   ·rcases one x c e with⟨_,z⟩ | ⟨z,_⟩
    ·rw [z];exact Nat.lt_succ_self _
    ·exact Mw z
   ·rcases one x c e1 with⟨a1,b1⟩ | ⟨a1,b1⟩ <;> rcases one y c e2 with⟨a2,b2⟩ | ⟨a2,b2⟩
    ·rw [a1,a2]
    ·omega
    ·omega
    ·exact hi x y c b1 b2
  ·exact nk r hl hi
theorem nr:∀(l:List (Str×Og)){h:NZ}{a:List (Str×NK)},(∀x c,a.lookup x=some c->∃v,h.IsCell c v)->∀x c,(Od h.objs.size l a).lookup x=some c->∃v,(pushCells h l).IsCell c v
 | [],_,_,h=>h
 | (z,k)::r,h,a,ha=>by
  unfold Od pushCells;split
  ·have:=nr r (h:=h.push {cls:= .type "cell",data:= .cell none}) (a:=(z,h.objs.size)::a) λx c e=>by
    rw [Iw] at e;split at e
    ·cases e;exact⟨none,_,IB _ rfl,rfl⟩
    ·obtain⟨v,q⟩:=ha x c e;exact⟨v,q.keeps λb o e=>HH _ e⟩
   rwa [L5] at this
  ·exact nr r ha
def kZ(X:Cx)(scope:Of)(C:NK):List (Str×NK):=Od (C+1) scope.names (dH X.env scope.names [])
def bo(X:Cx)(scope:Of)(N':List Str)(fp:List NK)(C:NK)(s:NL)(H:Hp):Cx where
 prog:=X.prog
 w:=X.w
 K:=X.K
 mg:=X.mg
 base:=X.base
 A:=X.A
 N:=N'
 s₀:=s
 H₀:=H
 env:=compEnvC scope (kZ X scope C) C X.env
 outer:=X.stack
 stack:=X.stack
 ex:=fp
 fn:=λx=>scope.names.lookup x==some .cell
 calm:=X.calm
 pn:=[]
 xe:=λ_ _=>False
def bP(k:Nat)(fr:List Nat)(σ:St):St:=Ia k none++fr.map λj=>(σ[j]?).join
def iP(σ σ':St):Prop:=σ.length=σ'.length/\∀(i:Nat) v,σ[i]?=some (some v)->σ'[i]?=some (some v)
section
variable {X:Cx} {O6:List (NK×Obj)} {σ:St} {H:Hp} {s:NL} {scope:Of} {N':List Str} {k:Nat} {fr:List Nat} {fp:List NK}
theorem nu(S:bu X.env.scope X.N N' k fr scope)(I:ae X O6 σ H s):∀x c,(dH X.env scope.names []).lookup x=some c->X.env.cells.lookup x=some c:=λx c e=>mZ scope.names [] (λy hy e=>I.ok.has y.1 (S.outer y hy e)) (λ_ _ z=>by simp at z) e
theorem rm(S:bu X.env.scope X.N N' k fr scope)(I:ae X O6 σ H s){x:Str}{c:NK}(e:(kZ X scope s.heap.objs.size).lookup x=some c):s.heap.objs.size < c\/X.env.cells.lookup x=some c:=
 (kY _ e).imp (λz=>z) λz=>nu S I x c z
theorem Bh(S:bu X.env.scope X.N N' k fr scope)(I:ae X O6 σ H s)(hf:∀b∈fp,fg X O6 H b)(hlt:∀b∈fp,b < s.heap.objs.size):
 (bo X scope N' fp s.heap.objs.size s H).Ok:=by
 have hcl:=nu S I;refine⟨I.ok.mod,S.kind,I.ok.glob,I.ok.blt,HE _,nk _ (λx c e=>?_) (λx y c h1 h2=>I.ok.inj x y c (hcl x c h1) (hcl y c h2)),λx hx=>Kx.mp (KO _ _ _ ?_),λx c h e=>Lq (nh _ (eq_of_beq h) e),I.ok.hd,I.ok.frames,.inl rfl,λb hb=>⟨Ip (hlt b hb),λx c e=>?_⟩,
  I.bs,Il I.ok.bsz I.sz,λb o e hb=>?_,λb hb hb'=>?_,I.stack,I.stkFree⟩
 ·obtain⟨v,o,ho,_⟩:=I.cell x c (hcl x c e);exact Mw (HV ho)
 ·rcases Bf hx with z | z
  ·exact .inr (Kx.mpr (ng _ _ (Jy z)))
  ·exact .inl z
 ·rcases rm S I e with z | z
  ·exact λq=>absurd (hlt b hb) (by rw [<-q];exact Nat.lt_asymm z)
  ·exact(hf b hb).2.2.2.2.1 x c z
 ·rcases(hf b hb).2.2.2.1 with z | z
  ·exact I.ok.noex b o e z
  ·exact absurd (IF (HV e) (Il I.ok.bsz z)) (J7 _)
 ·rcases HM.mp (I.stkSub b hb') with z | z
  ·exact(hf b hb).2.1 z
  ·exact(hf b hb).2.2.1 z
theorem Bi(S:bu X.env.scope X.N N' k fr scope)(I:ae X O6 σ H s)(hf:∀b∈fp,fg X O6 H b)(hlt:∀b∈fp,b < s.heap.objs.size){o:Obj}{h':NZ}(e':h'=pushCells (s.heap.push o) scope.names)
 (hn:h'.Ns s.heap.objs.size (λ_=>none))(hk:∀b o,s.heap.get? b=some o->h'.get? b=some o):
 ae (bo X scope N' fp s.heap.objs.size s H) [] (bP k fr σ) H {s with heap:=h'}:=by
 have hcl:=nu S I;refine⟨Bh S I hf hlt,rfl,I.bare,Un.kept hk,⟨_,hn,λi x v h1 h2 h3=>?_⟩,λx c e=>?_,I.hok.fresh (HE _),λx c e=>?_,λp hp=>absurd hp (by simp [bo]),I.hok.kept hk,?_⟩
 ·have hi:k<=i:=by
   rcases Ke i k with z | z
   ·exfalso;unfold bP at h2;rw [JE (by simpa using z),J5,NF z] at h2;cases h2
   ·exact z
  have h2':(fr.map λj=>(σ[j]?).join)[i - k]?=some (some v):=by
   unfold bP at h2;rw [JP (by simpa using hi)] at h2;simpa using h2
  have h1':(N'.drop k)[i - k]?=some x:=by
   rw [List.getElem?_drop,Nat.add_sub_cancel' hi];exact h1
  have hmem:x∈N'.drop k:=Ik h1';have e2:(fr.map λj=>X.N[j]?)[i - k]?=some (some x):=by
   rw [S.slot,Ie,h1'];rfl
  obtain⟨j,hj,ej⟩:∃j,fr[i - k]?=some j/\X.N[j]?=some x:=by
   rw [Ie] at e2;cases e:fr[i - k]? with
   | none=>rw [e] at e2;cases e2
   | some j=>rw [e] at e2;exact⟨j,rfl,II e2⟩
  have hv:σ[j]?=some (some v):=by
   rw [Ie,hj] at h2';have h3':(σ[j]?).join=some v:=II h2';cases e:σ[j]? with
   | none=>rw [e] at h3';cases h3'
   | some o=>rw [e] at h3';rw [show o=some v from h3']
  obtain⟨m,hn0,hl⟩:=I.loc;have ho:=S.outer' x hmem;obtain⟨u,ru,lk⟩:=hl j x v ej hv (.inr ho);refine⟨u,ru,.inr ⟨Bg (.inr (S.frees x hmem)),?_⟩⟩;rcases lk with⟨z,_⟩ | ⟨_,c,hc,hx⟩
  ·exfalso;rcases ho with ho | ho
   ·exact absurd (z.symm.trans ho) NH
   ·exact absurd (z.symm.trans ho) NH
  ·obtain⟨c',hc'⟩:=ng (env:=X.env) scope.names [] (Jy (S.frees x hmem));have:=hcl x c' hc';rw [hc] at this;cases this;obtain⟨o,ho,hd⟩:=hx;exact⟨c,(nj _ λy hy ey ex=>by have q:=S.cell y hy ey;rw [ex,S.frees x hmem] at q;cases q).trans hc',o,hk c o ho,hd⟩
 ·subst e';have:=nr scope.names (h:=s.heap.push o) (a:=dH X.env scope.names []) (λx c e=>by
   obtain⟨v,q⟩:=I.cell x c (hcl x c e);exact⟨v,q.keeps λb o e=>HH _ e⟩) x c
  rw [L5] at this;exact this e
 ·rcases rm S I e with z | z
  ·exact I.hok.fresh (Ku z)
  ·exact I.freeC x c z
 ·unfold bP;show _=N'.length;rw [HU,Kd,HB,S.len]
end
section
variable {prog:NV} {w:NX} {A:N2} {E:NJ->NL->Prop} {R:Result->NL->Prop} {s:NL}
theorem Bj{elt target iter:NN}{ifs:List NN}{scope:Of}{pos:Pos}{it acc:NJ}{env:Env}(I:Nat->NL->Prop)
 (turn:∀n s,I n s->NS (NT prog w) A (pyNext it) (λr s₁=>match r with
  | none=>R (.ok .next) s₁
  | some v=>NS (NT prog w) A (OO target it v) (λ_ s₁'=>NS (NT prog w) A (assign target env v) (λ_ s₂=>
   NS (NT prog w) A (forIn ifs true λc r=>if r=true then do let ok<-isTrue c env (eval c env);pure (J9 ok) else pure (J9 r)) (λok s₃=>
    if ok=true then NS (NT prog w) A (eval elt env) (λx s₄=>
     NS (NT prog w) A (call (.builtin "list.append") [acc,x]) (λ_ s₅=>∃m,m < n/\I m s₅) (λ_ _=>False) s₄) (λ_ _=>False) s₃
    else ∃m,m < n/\I m s₃) (λ_ _=>False) s₂) (λ_ _=>False) s₁') (λ_ _=>False) s₁) (λ_ _=>False) s)
 (n:Nat)(h:I n s):
 codeAny (NT prog w) A (.compLoop (.ListComp elt [⟨target,iter,ifs,0⟩] scope pos) 0 it acc env) R s:=by
 refine codeAny_loop rfl I (λn s hI=>?_) n h;show NS _ A ((compTurn (.ListComp elt [⟨target,iter,ifs,0⟩] scope pos) 0 it acc env).onRaise (λx=>do noteFrame x env;theTreesLotGoes x)) _ _ s;refine wpAny_noted ?_;rw [compTurn_list];refine NM (OT (NM (N8 (turn n s hI) (λr s₁ h₁=>?_) λ_ _ h'=>h'.elim)));cases r with
 | none=>exact NR h₁
 | some v=>
  refine NM (N8 h₁ (λ_ s₁' h₁'=>?_) λ_ _ h'=>h'.elim);refine NM (N8 h₁' (λ_ s₂ h₂=>NM (N8 h₂ (λok s₃ h₃=>?_) λ_ _ h'=>h'.elim)) λ_ _ h'=>h'.elim);cases ok with
  | false=>exact NR ⟨rfl,h₃⟩
  | true=>
   exact NM (NM (N8 h₃ (λx s₄ h₄=>NM (N8 h₄ (λ_ s₅ h₅=>NR (NR ⟨rfl,h₅⟩)) λ_ _ h'=>h'.elim)) λ_ _ h'=>h'.elim))
end
def cY(X:Cx)(ifs:List NN)(t:TT):Prop:=
 ∀(O6:List (NK×Obj))(s:NL)(σ:St)(H:Hp)(Q:Bool->Hp->Prop),ae X O6 σ H s->t σ H Q->
  NS (NT X.prog X.w) X.A (forIn ifs true λc r=>if r=true then do let ok<-isTrue c X.env (eval c X.env);pure (J9 ok) else pure (J9 r)) (TP X O6 σ Q) X.xe s
def Bk:TT:=λ_ H Q=>Q true H
theorem Bl{X:Cx}:cY X [] Bk:=λO6 s σ H Q I h=>wpAny_tests_nil ⟨H,I,h⟩
theorem gE{X:Cx}{c:NN}{t:TT}(h:PT X c t):cY X [c] t:=λO6 s σ H Q I hq=>wpAny_tests_one (h O6 s σ H Q I hq)
theorem bG.but{P:NV}{w:NX}{H:Hp}{h h':NZ}{C:NK}(x:bG P w H h)(hC:H C=none)(k:∀b o,b≠C->h.get? b=some o->h'.get? b=some o):bG P w H h':=λa o e=>by
 refine(x a o e).stay (λb u hb q=>k b u ?_ q) (λ_ q=>q) λ_ _ q=>q;intro z;subst z;rcases hb with z | z
 ·rw [<-z,hC] at e;cases e
 ·rw [hC] at z;cases z
theorem Bm{M:Model}{A:N2}{E:NJ->NL->Prop}{s:NL}{scope:Of}{g:NK}{cl:List (Str×NK)}{qual:Str}{e:Env}{Q:Env->NL->Prop}
 (hQ:∀h',h'=pushCells (s.heap.push {cls:= .type "dict",data:= .dict #[]}) scope.names->h'.Ns s.heap.objs.size (λ_=>none)->(∀b o,s.heap.get? b=some o->h'.get? b=some o)->
  Q (newEnv scope s.heap.objs.size g (Od (s.heap.objs.size+1) scope.names cl) qual none .none (some e) builtinsNs) {s with heap:=h'}):
 NS M A (newFunctionEnv scope g cl [] qual none .none (some e)) Q E s:=by
 simp only [newFunctionEnv,Mq,if_true];refine NM (wpAny_alloc (NM (wpAny_layCells _ (λname kind cells=>by cases hkc:kind==KS <;> simp [hkc]) _ _ _ _ ?_)));rw [show({s with heap:=s.heap.push {cls:= .type "dict",data:= .dict #[]}}:NL).heap.objs.size=s.heap.objs.size+1 from L5 ..];rw [MR];exact NM (NR (NR (hQ _ rfl ((Heap.Ns.new s.heap (.type "dict")).keeps (pushCells_keeps _ _)) λb o e=>pushCells_keeps _ _ b o (HH _ e))))
def gF(wi:TI)(g:TG)(tc:TT)(te:TE)(k:Nat)(fr:List Nat):TE:=λσ H Q=>wi σ H λJ H1=>∀D,H1 D=none->∃W:Nat->Nat->Hp->Prop,(∃m,W 0 m (ak H1 D (.lst [])))/\∀i m H,W i m H->
 (J.stop i H/\Q (.ref D) H)\/(J.go i H/\∀x H',J.yld i H x H'->g x (bP k fr σ) H' λσ2 H2=>iP (bP k fr σ) σ2/\tc σ2 H2 λok H3=>
  if ok=true then te σ2 H3 λy H4=>∃ys,H4 D=some (.lst ys)/\ys.length < NO/\∃m',m' < m/\W (i+1) m' (ak H4 D (.lst (ys++[y])))
  else ∃m',m' < m/\W (i+1) m' H3)
section
variable {X:Cx} {tg iter elt:NN} {ifs:List NN} {scope:Of} {N':List Str} {k:Nat} {fr:List Nat} {wi:TI} {g:TG} {tc:TT} {te:TE} {pos:Pos}
theorem rn{use:Option (NJ->Sem Unit)}{Q':NJ->NL->Prop}{O6:List (NK×Obj)}{s:NL}{σ:St}{H:Hp}{Q:VK}(hc:X.calm=true)(S:bu X.env.scope X.N N' k fr scope)(hi:PI X tg iter wi)
 (hg:∀fp C s H,PG (bo X scope N' fp C s H) tg g)(hf:∀fp C s H,cY (bo X scope N' fp C s H) ifs tc)(he:∀fp C s H,PE (bo X scope N' fp C s H) elt te)
 (I:ae X O6 σ H s)(h:gF wi g tc te k fr σ H Q)
 (hQ:∀D C s' H',C≠X.env.locals->ae X O6 σ H' s'->(∀h',K0 C s'.heap h'->ae X O6 σ H' {s' with heap:=h'})->Q (.ref D) H'->(∃m,s'.heap.Ns C m)->X.env.locals < C->H' C=none/\(∀x c,X.env.cells.lookup x=some c->c≠C)/\(∀p∈X.pn++O6,p.1≠C)->compPost (NT X.prog X.w) X.A X.xe use Q' (.ref D) C (.ok .next) s'):
 NS (NT X.prog X.w) X.A (eval iter X.env) (λx s₁=>NS (NT X.prog X.w) X.A (pyIter x) (λit s₂=>NS (NT X.prog X.w) X.A (newList []) (λacc s₃=>
  NS (NT X.prog X.w) X.A (newFunctionEnv scope X.env.globals (dH X.env scope.names []) [] X.env.qual none .none (some X.env)) (λcenv s₄=>
   codeAny (NT X.prog X.w) X.A (.compStart (.ListComp elt [⟨tg,iter,ifs,0⟩] scope pos) 0 it acc {cenv with scope:=relabel scope X.env}) (compPost (NT X.prog X.w) X.A X.xe use Q' acc cenv.locals) s₄) X.xe s₃) X.xe s₂) X.xe s₁) X.xe s:=by
 refine ar (hi O6 s σ H _ I h) λv s1 h1=>ar h1 λitv s2 h2=>?_;obtain⟨it,fp,tn,J,H2,e,I2,T,st2,f2,wW⟩:=h2;subst e;refine Ob ?_;have hD0:H2 s2.heap.objs.size=none:=I2.hok.fresh (HE _);obtain⟨W,⟨m0,w0⟩,turn⟩:=wW _ hD0;generalize hD:s2.heap.objs.size=D at*;have I3:ae X O6 σ (ak H2 D (.lst [])) {s2 with heap:=s2.heap.push {cls:= .type "list",dict:=none,data:= .seq ([]:List NJ).toArray}}:=by
  have:=I2.lnew (ys:=[]) (its:=[]) (t':=s2.toks) .nil (Jl _);rw [hD] at this;exact this
 generalize hs3:({s2 with heap:=s2.heap.push {cls:= .type "list",dict:=none,data:= .seq ([]:List NJ).toArray}}:NL)=s3 at*;have up23:∀b o,s2.heap.get? b=some o->s3.heap.get? b=some o:=λb o e=>by rw [<-hs3];exact HH _ e
 have fpD:∀b∈fp,b≠D:=λb hb z=>by
  obtain⟨o,ho,_⟩:=T.obj _ _ st2 b hb;have:=HV ho;rw [hD,z] at this;exact J7 _ this
 have f3:∀b∈fp,fg X O6 (ak H2 D (.lst [])) b:=λb hb=>⟨by rw [aB (fpD b hb)];exact(f2 b hb).1,(f2 b hb).2⟩;have st3:tn 0 s3.heap:=T.keep _ _ _ st2 λb hb o e=>up23 b o e;have lt3:∀b∈fp,b < s3.heap.objs.size:=λb hb=>by obtain⟨o,ho,_⟩:=T.obj _ _ st3 b hb;exact HV ho
 refine Bm λh₁ e₁ hns₁ up34=>?_;have I4:=Bi S I3 f3 lt3 e₁ hns₁ up34;have st4:tn 0 h₁:=T.keep _ _ _ st3 λb hb o e=>up34 b o e;generalize hX':bo X scope N' fp s3.heap.objs.size s3 (ak H2 D (.lst []))=X' at*;have hg':PG X' tg g:=by rw [<-hX'];exact hg _ _ _ _
 have hf':cY X' ifs tc:=by rw [<-hX'];exact hf _ _ _ _
 have he':PE X' elt te:=by rw [<-hX'];exact he _ _ _ _
 have eP:X'.prog=X.prog:=by rw [<-hX'];rfl
 have eW:X'.w=X.w:=by rw [<-hX'];rfl
 have eK:X'.K=X.K:=by rw [<-hX'];rfl
 have eA:X'.A=X.A:=by rw [<-hX'];rfl
 have eC:X'.calm=true:=by rw [<-hX'];exact hc
 have eE:X'.xe=λ_ _=>False:=by rw [<-hX'];rfl
 have eEnv:X'.env=compEnvC scope (kZ X scope s3.heap.objs.size) s3.heap.objs.size X.env:=by rw [<-hX'];rfl
 have fpx:∀{H':Hp},(∀b∈fp,H' b=none)->∀b∈fp,fg X' [] H' b:=λ{H'} hn b hb=>by
  refine⟨hn b hb,?_,?_,.inl ?_,?_,?_⟩
  ·rw [eEnv];exact Ip (lt3 b hb)
  ·have:=I4.ok.exfs b (by rw [<-hX'];exact hb);exact this
  ·rw [<-hX'];exact hb
  ·have:=I4.ok.exf b (by rw [<-hX'];exact hb);exact this.2
  ·intro p hp;rw [<-hX'] at hp;simp [bo] at hp
 have fin:∀(s':NL)(H':Hp)(σ':St),ae X' [] σ' H' s'->Q (.ref D) H'->compPost (NT X.prog X.w) X.A X.xe use Q' (.ref D) s3.heap.objs.size (.ok .next) s':=λs' H' σ' J q=>by
  have un:Un (dZ X.stack) fp (ak H2 D (.lst [])) H' s3.heap s'.heap:=by have:=J.base;rw [<-hX'] at this;exact this
  have jos:s'.os=s3.os:=by have:=J.os;rw [<-hX'] at this;exact this
  have hC:H' s3.heap.objs.size=none:=by have:=J.free;rw [eEnv] at this;exact this
  have hok':bG X.prog X.w H' s'.heap:=by have:=J.hok;rw [eP,eW] at this;exact this
  have fH:∀h',K0 s3.heap.objs.size s'.heap h'->ae X O6 σ H' {s' with heap:=h'}:=λh' hs'=>by
   have un':Un (dZ X.stack) fp (ak H2 D (.lst [])) H' s3.heap h':=
    ⟨λb o e n h1 h2=>hs'.extBut b o (Ip (HV e)) (un.keep b o e n h1 h2),λb o e n h1 h2=>by
     obtain⟨sl,z⟩:=un.slot b o e n h1 h2;exact⟨sl,hs'.extBut b _ (Ip (HV e)) z⟩,un.free,λb o e h2=>by
     obtain⟨o',z⟩:=un.there b o e h2;exact⟨o',hs'.extBut b o' (Ip (HV e)) z⟩,un.tups,un.frzs,un.tbls⟩
   exact ae.call' (s':={s' with heap:=h'}) I3 jos un' (hok'.but hC hs'.extBut) J.bare λb hb=>⟨(f3 b hb).2.2.2.1,(f3 b hb).2.1,(f3 b hb).2.2.2.2.1,(f3 b hb).2.2.2.2.2⟩
  have nsC:∃m,s'.heap.Ns s3.heap.objs.size m:=by
   obtain⟨m,hn,_⟩:=J.loc;rw [eEnv] at hn;exact⟨m,hn⟩
  exact hQ D s3.heap.objs.size s' H' (LF I3.lt) (fH s'.heap (.refl ..)) fH q nsC I3.lt
   ⟨hC,λx c e=>by obtain⟨v,o,ho,_⟩:=I3.cell x c e;exact Ip (HV ho),λp hp=>Ip (HV (I3.pin p hp).1)⟩
 have loop:∀s4:NL,s4=({s3 with heap:=h₁}:NL)->
  codeAny (NT X.prog X.w) X.A (.compLoop (.ListComp elt [⟨tg,iter,ifs,0⟩] scope pos) 0 (.ref it) (.ref D) X'.env) (compPost (NT X.prog X.w) X.A X.xe use Q' (.ref D) s3.heap.objs.size) s4:=by
  rintro s4 rfl;refine Bj (λn s'=>∃i H',ae X' [] (bP k fr σ) H' s'/\tn i s'.heap/\(∀b∈fp,H' b=none)/\W i n H') ?_ m0 ⟨0,_,I4,st4,λb hb=>(f3 b hb).1,w0⟩;rintro n s5 ⟨i,H5,I5,st5,fr5,w5⟩;rcases turn i n H5 w5 with⟨stop,qn⟩ | ⟨go,step⟩
  ·have:=T.done X' eP eW eK eC i [] s5 _ H5 (λ_ _=>False) I5 (fpx fr5) st5 stop;rw [eA] at this;refine ar this λr s6 ⟨hr,I6⟩=>?_;subst hr;exact fin s6 H5 _ I6 qn
  ·have:=T.item X' eP eW eK eC i [] s5 _ H5 (λ_ _=>False) I5 (fpx fr5) st5 go;rw [eA] at this;refine ar this λr s6 ⟨u,hr,h6⟩=>?_;subst hr;refine ar h6 λ_ s7 ⟨x,H7,I7,r7,y7,st7,fr7⟩=>?_;have I7':=I7.pinned (fpx fr7) (T.obj _ _ st7);have h8:=hg' _ s7 _ H7 x u _ I7' r7 (step x H7 y7);rw [eP,eW,eA,eE] at h8;refine ar h8 λ_ s8 ⟨σ8,H8,I8,kp,q8⟩=>?_;have h9:=hf' _ s8 σ8 H8 _ I8 q8;rw [eP,eW,eA,eE] at h9;have again:∀{s9:NL}{H9:Hp}{n':Nat},ae X' ([]++jD fp s7.heap) σ8 H9 s9->n' < n->W (i+1) n' H9->∃m,m < n/\∃i H',ae X' [] (bP k fr σ) H' s9/\tn i s9.heap/\(∀b∈fp,H' b=none)/\W i m H':=λ{s9 H9 n'} I9 hn' w9=>by
    refine⟨n',hn',i+1,H9,I9.unpinned.weak kp.1 kp.2,T.keep _ _ _ st7 λb hb o e=>(I9.pin (b,o) (IE _ (IE _ (kK hb e)))).1,λb hb=>?_,w9⟩;obtain⟨o,e,d⟩:=T.obj _ _ st7 b hb;exact(I9.pin (b,o) (IE _ (IE _ (kK hb e)))).2.1
   refine ar h9 λok s9 ⟨H9,I9,q9⟩=>?_;cases ok with
   | false=>
    rw [ND IJ] at q9;obtain⟨m',hm',w9⟩:=q9;rw [ND IJ];exact again I9 hm' w9
   | true=>
    rw [NF rfl] at q9;rw [NF rfl];have h10:=he' _ s9 σ8 H9 _ I9 q9;rw [eP,eW,eA,eE] at h10;refine ar h10 λy s10 ⟨yv,H10,I10,r10,ys,hys,hz,m',hm',w10⟩=>?_;have h11:=rg (X:=X') _ s10 σ8 H10 (.ref D) [yv] (.ref D) [y] (λ_ H'=>W (i+1) m' H') I10 rfl (.cons r10 .nil) ⟨D,ys,yv,rfl,rfl,hys,hz,w10⟩;rw [eP,eW,eA,eE] at h11;exact ar h11 λ_ s11 uu66=>by obtain⟨_,H11,I11,_,q11⟩:=uu66;exact again I11 hm' q11
 have hE:({newEnv scope s3.heap.objs.size X.env.globals (kZ X scope s3.heap.objs.size) X.env.qual none .none (some X.env) builtinsNs with scope:=relabel scope X.env}:Env)=X'.env:=by
  rw [eEnv];rfl
 have goal:=codeAny_compStart_list (elt:=elt) (target:=tg) (iter:=iter) (ifs:=ifs) (rest:=[]) (scope:=scope) (pos:=pos) (loop _ rfl) (T.self X.A 0 _ _ _ st4 (loop _ rfl));rw [<-hE] at goal;exact goal
theorem jJ(hc:X.calm=true)(S:bu X.env.scope X.N N' k fr scope)(hi:PI X tg iter wi)
 (hg:∀fp C s H,PG (bo X scope N' fp C s H) tg g)(hf:∀fp C s H,cY (bo X scope N' fp C s H) ifs tc)(he:∀fp C s H,PE (bo X scope N' fp C s H) elt te)
 (hs:∀x,N0 iter X.env x=pure x:=by intro _;rfl):PE X (.ListComp elt [⟨tg,iter,ifs,0⟩] scope pos) (gF wi g tc te k fr):=by
 intro O6 s σ H Q I h;have hcell:∀y∈scope.names,y.2= .free->∃c,X.env.cells.lookup y.1=some c:=λy hy e=>I.ok.has y.1 (S.outer y hy e);rw [eval_ListComp];refine O3 (use:=none) rfl hs (rj hcell) S.kind S.names (rn hc S hi hg hf he I h ?_);intro D C s' H' hC J fH q ns hlt _;obtain⟨m,hn⟩:=ns;exact⟨m,hn,λh' hs'=>⟨.ref D,H',fH h' hs',rfl,q⟩⟩
theorem Bn{i:Nat}{x:Str}{pos' spos:Pos}(hN:X.N.Nodup)(hxi:X.N[i]?=some x)(hx:fc X.env.scope x)(hc:X.calm=true)(S:bu X.env.scope X.N N' k fr scope)(hi:PI X tg iter wi)
 (hg:∀fp C s H,PG (bo X scope N' fp C s H) tg g)(hf:∀fp C s H,cY (bo X scope N' fp C s H) ifs tc)(he:∀fp C s H,PE (bo X scope N' fp C s H) elt te)
 (hsw:Oa (.ListComp elt [⟨tg,iter,ifs,0⟩] scope pos) (some (.Name x pos')) spos.line X.env=pure true)
 (hs:∀x,N0 iter X.env x=pure x:=by intro _;rfl)(hfn:X.fn x=true\/X.env.scope.names.lookup x=some .local:=by first | exact .inl rfl | exact .inr rfl | assumption):
 PS X (.Assign [.Name x pos'] (.ListComp elt [⟨tg,iter,ifs,0⟩] scope pos) spos) (jy (gF wi g tc te k fr) (g5 i)):=by
 intro O6 s σ H D I h;have hcell:∀y∈scope.names,y.2= .free->∃c,X.env.cells.lookup y.1=some c:=λy hy e=>I.ok.has y.1 (S.outer y hy e);rw [exec_Assign_Name_used _ _ _ _ hsw];refine NM (OT (NM ?_));show NS _ X.A (do let _<-comprehension (.ListComp elt [⟨tg,iter,ifs,0⟩] scope pos) scope X.env _ (newList []) false (eval iter X.env) (some (assign (.Name x pos') X.env))) _ _ s;refine NM (N8 (O3 (use:=some (assign (.Name x pos') X.env)) (Q:=λ_ s'=>∃σ' H',ae X O6 σ' H' s'/\D.nx σ' H') rfl hs (rj hcell) S.kind S.names (rn hc S hi hg hf he I h ?_)) (λ_ s' hq=>NR (NR hq)) λ_ _ e=>e);intro D' C s' H' hC J fH q ns hlt ⟨c1,c2,c3⟩;obtain⟨m,hn⟩:=ns;show NS _ X.A (assign (.Name x pos') X.env (.ref D')) _ _ _;refine wpAny_assign_Name (pY J hN hxi hx (v:= .ref D') rfl (λs2 J2 sb=>?_) hfn);obtain⟨a,sb,ha⟩:=sb;have hCa:C≠a:=by
  rcases ha with z | z
  ·rw [z];exact hC
  ·exact Ne.symm (c2 _ _ z)
 refine⟨m,hn.sameBut sb hCa,λh3 hs3=>⟨_,H',?_,q⟩⟩;exact J2.turned (t':=s2.toks) hs3.extBut c1 hC (.inr (Il J.ok.above (Ku hlt))) c2 c3
end
section
variable {X:Cx}
theorem Bo(hc:X.calm=true):cW X (.builtin "sum") (λxs H Q=>∃(a:NK)(ns:List Int),xs=[.ref a]/\aQ X.K H a (ns.map V.int)/\Q (.int ns.sum) H):=by
 intro O6 s σ H xs us Q I r h;obtain⟨a,ns,rfl,hl,q⟩:=h;obtain⟨u,rfl,rx⟩:=cX r;cases rx;obtain⟨its,rv,p,hz⟩:=I.list hl;have hi:IntsAre its ns:=AF rv;have hall:AllInts its.toArray:=hi.allInts;obtain⟨ys,hys⟩:=hall.items;have hn:numsOf its.toArray.toList=ns:=by rw [show its.toArray.toList=its from rfl,hi.numsOf]
 rw [hys,nums_intItems] at hn;have hl':=p.isList;rw [hys] at hl';refine sum_intListG (I.ok.hd hc) hl' λh' tk t' hk=>?_;refine⟨.int ns.sum,H,I.kept hk,⟨t',?_⟩,q⟩;rw [preSum_eq,Iu NH,hn]
end
end L2
namespace Att
open PySem PySem.W PySem.Calls PyProof.Rows
theorem Bp{ns:List Int}(h:ME [Lz (ns.map J8)]=true):∀n∈ns,Ji n<=1048576:=by
 have h1:(Lz (ns.map J8)).layable=true:=by simpa [ME] using h
 have h2:(Lz (ns.map J8)).weight<=1048576:=(PySem.W.layableW_iff.mp h1).2.2;have key:∀l:List Int,∀n∈l,Ji n<=Kp (l.map J8):=by
  intro l
  induction l with
  | nil=>intro n hn;simp at hn
  | cons x r ih=>
   intro n hn;have e:Kp ((x::r).map J8)=Ji x+1+Kp (r.map J8):=by
    rw [HF,Kp,M9];rfl
   rw [e];rcases HM.mp hn with z | z
   ·subst z;omega
   ·have:=ih n z;omega
 intro n hn;have e:(Lz (ns.map J8)).weight=Kp (ns.map J8):=by rw [M9]
 rw [e] at h2;exact Il (key ns n hn) h2
theorem attach_callB{l:OpenLaw}{n:Nat}{q:NV}{loose:List Str}{XP:(Str->Option NJ)->NZ->Prop}{YP:NX->NZ->Prop}{d:DefRec}
 (hn:l.most=some n)(hdf:d.params.defaults=[])
 (call:∀(w:NX) (s₀ s₁:NL) (mg mb:Str->Option NJ) (fa:NK) (o:Obj) (pm cd doc:NJ) (a:NK) (vs:List NJ) (ns:List Int),
  Ground q loose [] XP w s₀ mg mb s₁.heap->YP w s₁.heap->
  s₁.heap.get? fa=some o->o.data= .func (docDef d.name d.params d.body d.scope pm cd doc)->s₁.heap.CodeRec cd d.name->mg d.name=some (.ref fa)->
  s₁.heap.get? a=some {cls:= .type "list",data:= .seq vs.toArray}->IntsAre vs ns->ns.length<=n->(∀z∈ns,Ji z<=1048576)->s₁.gens=#[]->
  codeAny (NT l.prog w) callerA (.call (.ref fa) ⟨[.ref a],[]⟩) (λr s'=>r= .ok (.ret (.bool true))/\OldK s₁.heap s'.heap/\s'.os=s₁.os/\OL s'.gens) s₁):
 WalkO q loose XP YP l.row.toRowW d [] (λf vs=>MN f vs):=by
 intro w s₀ s₁ mg mb G Y fa o pm cd doc dV kV ho hd hcd hD hmg hg args vals as hpre hlay hrd hwl hlo;obtain rfl:dV= .none:=Dflts.none hD hdf;obtain rfl:kV= .none:=Dflts.noKw hD;obtain⟨a,vs,ns,rfl,rfl,hobj,hints,hlen⟩:=A5 hn hpre hwl;have hb:∀z∈ns,Ji z<=1048576:=Bp hlay;refine enter_call (codeAny_mono (call w s₀ s₁ mg mb fa o pm cd doc a vs ns G Y ho (fd_plain hd) hcd hmg hobj hints hlen hb hg) λr s' hq=>?_);obtain⟨rfl,h2,h3,h4⟩:=hq;exact⟨.inl ⟨.bool true,.bool true,[],rfl,λ_=>rfl,.bool true,A6 l _,λ_=>⟨M7.nil,λ_ hm=>(nomatch hm)⟩⟩,h2,h3,h4⟩
end Att
namespace L2
open PySem PySem.Spec PyProof.Rows
theorem Bq{l:MO}{n k:Nat}{q:NV}{loose:List Str}{XP:(Str->Option NJ)->NZ->Prop}{YP:NX->NZ->Prop}{d:DefRec}{K:Params->Hx}{CX:NX->dh}{sp:NX->Sp}{x:Str}
 (hn:l.most=some n)(hn2:n<=NO)(hdf:d.params.defaults=[])(hr:br k callerA)
 (hY:∀(w:NX) (h:NZ),YP w h->(K w.params).In h)
 (F:∀(w:NX) (mg:Str->Option NJ) (fa:NK) (h:NZ),(K w.params).In h->h.Ns NW mg->mg d.name=some (.ref fa)->
  ∃fd:NU,(∀(s:NL) (u:NJ),BindsTo s fd ⟨[u],[]⟩ [(x,u)])/\
   ∀base:NZ,(K w.params).In base->base.Ns NW mg->aO l.prog w (K w.params) mg base (CX w) k fa fd [x] (sp w))
 (hsp:∀(w:NX) (H:Hp) (a:NK) (ns:List Int),ns.length<=n->(∀z∈ns,Ji z<=1048576)->kX H->aQ (K w.params) H a (ns.map V.int)->sp w [.ref a] H (λv _=>v= .bl true) λ_ _ _=>False)
 (hCX:∀(w:NX) (H:Hp) (s:NL) (e:NJ) (s':NL),CX w [] H s (λ_ _ _=>False) e s'->False):
 MY q loose XP YP l.row.toRowW d [] (λf vs=>MN f vs):=by
 refine Att.attach_callB hn hdf λw s₀ s₁ mg mb fa o pm cd doc a vs ns G Y ho hd hcd hmg hobj hints hlen hb hg=>?_;have KX:=hY w _ Y;obtain⟨fd,hbi,hF⟩:=F w mg fa _ KX G.T.g hmg;exact A7 KX G.T.g G.T.b G.T.builtins G.T.nolimit hg hobj hints (Il hlen hn2) hr hF hbi (λH hO hS=>hsp w H a ns hlen hb hO hS) λH e s'=>hCX w H s₁ e s'
theorem walk_ofBK{l:MO}{n k:Nat}{q:NV}{loose:List Str}{XP:(Str->Option NJ)->NZ->Prop}{YP:NX->NZ->Prop}{d:DefRec}{K:Params->Hx}{CX:dh}{sp:Hx->Sp}{x:Str}
 (hn:l.most=some n)(hn2:n<=NO)(hdf:d.params.defaults=[])(hr:br k callerA)
 (hY:∀(w:NX) (h:NZ),YP w h->(K w.params).In h)
 (F:∀(w:NX) (mg:Str->Option NJ) (fa:NK) (h:NZ),(K w.params).In h->h.Ns NW mg->mg d.name=some (.ref fa)->
  ∃fd:NU,(∀(s:NL) (u:NJ),BindsTo s fd ⟨[u],[]⟩ [(x,u)])/\
   ∀base:NZ,(K w.params).In base->base.Ns NW mg->aO l.prog w (K w.params) mg base CX k fa fd [x] (sp (K w.params)))
 (hsp:∀(K:Hx) (H:Hp) (a:NK) (ns:List Int),ns.length<=n->(∀z∈ns,Ji z<=1048576)->kX H->aQ K H a (ns.map V.int)->sp K [.ref a] H (λv _=>v= .bl true) λ_ _ _=>False)
 (hCX:∀(H:Hp) (s:NL) (e:NJ) (s':NL),CX [] H s (λ_ _ _=>False) e s'->False):
 MY q loose XP YP l.row.toRowW d [] (λf vs=>MN f vs):=
 Bq (K:=K) (CX:=λ_=>CX) (sp:=λw=>sp (K w.params)) hn hn2 hdf hr hY F (λw H a ns h1 hb h2 h3=>hsp (K w.params) H a ns h1 hb h2 h3) λ_ H s e s'=>hCX H s e s'
def iQ(p:NK)(H H':Hp):Prop:=∀b o,H b=some o->b≠p->H' b=some o
theorem ao.new{H:Hp}{p:NK}{o:HO}(h:H p=none):ao H (ak H p o):=λb u e=>by rw [aB (cC e h)];exact e
def FR(J:It)(g:TG)(tb:TS)(D:fU)(σ:St)(H1:Hp):Prop:=∃W:Nat->Nat->St->Hp->Prop,(∃m,W 0 m σ H1)/\∀i m σ H,W i m σ H->
 (J.stop i H/\D.nx σ H)\/(J.go i H/\∃N:St->Hp->Prop,(∀σ' H',N σ' H'->∃m',m' < m/\W (i+1) m' σ' H')/\∀x H',J.yld i H x H'->g x σ H' λσ2 H2=>tb {D with nx:=N,ct:=N,bk:=D.nx} σ2 H2)
theorem Br{ta:TA}{g:TG}{tb:TS}:jC (mK ta) g tb=λD σ H=>ta σ H λvs H1=>∃j:Int,vs=[.int j]/\-(2 ^ 62)<=j/\j < 2 ^ 62/\FR (fV 0 j.toNat) g tb D σ H1:=rfl
theorem Bs{ta:TA}{g:TG}{tb:TS}:jC (mL ta) g tb=λD σ H=>ta σ H λvs H1=>∃i j:Int,vs=[.int i,.int j]/\(-(2 ^ 62)<=i/\i < 2 ^ 62/\-(2 ^ 62)<=j/\j < 2 ^ 62)/\FR (fV i (j - i).toNat) g tb D σ H1:=rfl
theorem Bt{K:Hx}{tl:TE}{g:TG}{tb:TS}:jC (mI K tl) g tb=λD σ H=>tl σ H λx H1=>∃a,x= .ref a/\(∃xs,aQ K H1 a xs)/\FR (jA K a) g tb D σ H1:=rfl
theorem Bu{K:Hx}{tl:TE}{g:TG}{tb:TS}:jC (mJ K tl) g tb=λD σ H=>tl σ H λx H1=>∃a,x= .ref a/\(∃xs,bg K H1 a xs)/\FR (jB K a) g tb D σ H1:=rfl
def iR(J:It)(g:TG)(tc:TT)(te:TE)(k:Nat)(fr:List Nat)(σ:St)(H1:Hp)(Q:VK):Prop:=∀D,H1 D=none->∃W:Nat->Nat->Hp->Prop,(∃m,W 0 m (ak H1 D (.lst [])))/\∀i m H,W i m H->
 (J.stop i H/\Q (.ref D) H)\/(J.go i H/\∀x H',J.yld i H x H'->g x (bP k fr σ) H' λσ2 H2=>iP (bP k fr σ) σ2/\tc σ2 H2 λok H3=>
  if ok=true then te σ2 H3 λy H4=>∃ys,H4 D=some (.lst ys)/\ys.length < NO/\∃m',m' < m/\W (i+1) m' (ak H4 D (.lst (ys++[y])))
  else ∃m',m' < m/\W (i+1) m' H3)
theorem Bv{ta:TA}{g:TG}{tc:TT}{te:TE}{k:Nat}{fr:List Nat}:gF (mK ta) g tc te k fr=λσ H Q=>ta σ H λvs H1=>∃j:Int,vs=[.int j]/\-(2 ^ 62)<=j/\j < 2 ^ 62/\iR (fV 0 j.toNat) g tc te k fr σ H1 Q:=rfl
theorem Bw{ta:TA}{g:TG}{tc:TT}{te:TE}{k:Nat}{fr:List Nat}:gF (mL ta) g tc te k fr=λσ H Q=>ta σ H λvs H1=>∃i j:Int,vs=[.int i,.int j]/\(-(2 ^ 62)<=i/\i < 2 ^ 62/\-(2 ^ 62)<=j/\j < 2 ^ 62)/\iR (fV i (j - i).toNat) g tc te k fr σ H1 Q:=rfl
theorem Bx{K:Hx}{tl:TE}{g:TG}{tc:TT}{te:TE}{k:Nat}{fr:List Nat}:gF (mI K tl) g tc te k fr=λσ H Q=>tl σ H λx H1=>∃a,x= .ref a/\(∃xs,aQ K H1 a xs)/\iR (jA K a) g tc te k fr σ H1 Q:=rfl
theorem By{K:Hx}{tl:TE}{g:TG}{tc:TT}{te:TE}{k:Nat}{fr:List Nat}:gF (mJ K tl) g tc te k fr=λσ H Q=>tl σ H λx H1=>∃a,x= .ref a/\(∃xs,bg K H1 a xs)/\iR (jB K a) g tc te k fr σ H1 Q:=rfl
theorem Bz{fr:List Nat}{σ:St}{v:Option V}:iP (bP 1 fr σ) ((bP 1 fr σ).set 0 v):=by
 refine⟨NH,λi w h=>?_⟩;cases i with
 | zero=>simp [bP,Ia] at h
 | succ i=>simpa [bP,Ia] using h
theorem cxK{CX:dh}{P:NV}{w:NX}{K:Hx}{mg:Str->Option NJ}{base:NZ}{N:List Str}{qual:Str}{scope:Of}{f:NK}{cd:NJ}{A:N2}{outer:List Env}{s:NL}{H:Hp}{E:XK}:(gC CX P w K mg base N qual scope f cd A outer s H E).K=K:=rfl
theorem cmK{X:Cx}{scope:Of}{N':List Str}{fp:List NK}{C:NK}{s:NL}{H:Hp}:(bo X scope N' fp C s H).K=X.K:=rfl
theorem iS{K:Hx}{p:NK}{xs:List V}{i:Int}{v:V}{H:Hp}{Q:VK}(h:aQ K H p xs)(hv:atI xs i=some v)(q:Q v H):kU K (.ref p) (.int i) H Q:=⟨p,xs,i,v,rfl,rfl,h,hv,q⟩
theorem BA:N3 "divmod"=some (.builtin "divmod"):=NA
theorem d5:N3 "isinstance"=some (.builtin "isinstance"):=NA
theorem k6:N3 "int"=some (.type "int"):=NA
theorem nv:N3 "bool"=some (.type "bool"):=NA
theorem rp:N3 "str"=some (.type "str"):=NA
theorem eI:N3 "tuple"=some (.type "tuple"):=NA
theorem BB:N3 "list"=some (.type "list"):=NA
theorem BC:N3 "dict"=some (.type "dict"):=NA
open PySem PySem.Spec PyProof.Rows PySem.W
section
variable {M:Model} {A:N2} {E:NJ->NL->Prop}
variable {nm q:Str} {C N:NK} {bs bm:List NJ} {hdct:Bool} {sn:List Str} {sub:List NJ} {ab:Bool} {col:Option Bool} {dd:Option NK} {k0 k1 k2 k3 k5:Option NJ} {newId:String}
variable {nm' q':Str} {C' N':NK} {bs' bm':List NJ} {hdct':Bool} {sn':List Str} {sub':List NJ} {ab':Bool} {col':Option Bool} {dd':Option NK} {k0' k1' k2' k3' k5':Option NJ} {newId':String}
end
section
variable {X:Cx}
theorem rq{bs:List Bool}{its:List NJ}(r:az (bs.map V.bl) its):its=bs.map JG:=by
 induction bs generalizing its with
 | nil=>cases r;rfl
 | cons b bs ih=>
  rw [HF] at r;cases r with
  | cons r1 r2=>
   rw [HF,<-ih r2];exact congrArg (·::_) r1
theorem BD(bs:List Bool)(f:Nat->Bool)(h:∀i,i < bs.length->f i=bs.getD i true):(IG bs.length).all f=bs.all id:=by
 rw [K3,Ja,Ja];constructor
 ·intro z b hb;obtain⟨i,hi,e⟩:=K6 hb;have:=z i (JL.mpr hi);rw [h i hi,Iq,HL hi] at this;rw [<-e];exact this
 ·intro z i hi;have hi:=JL.mp hi;rw [h i hi,Iq,HL hi];exact z _ (IP hi)
theorem BE(bs:List Bool)(f:Nat->Bool)(h:∀i,i < bs.length->f i=bs.getD i true):(IG bs.length).any f=bs.any id:=by
 rw [K3,J1,J1];constructor
 ·rintro⟨i,hi,z⟩;have hi:=JL.mp hi;rw [h i hi,Iq,HL hi] at z;exact⟨_,IP hi,z⟩
 ·rintro⟨b,hb,z⟩;obtain⟨i,hi,e⟩:=K6 hb;refine⟨i,JL.mpr hi,?_⟩;rw [h i hi,Iq,HL hi];show bs[i]=true;rw [e];exact z
theorem rA{bs:List Bool}{i:Nat}{v:NJ}(h:(bs.map JG).toArray[i]?=some v):v= .bool (bs.getD i true):=by
 have h':(bs.map JG)[i]?=some v:=by simpa using h
 rw [Ie] at h';cases e:bs[i]? with
 | none=>rw [e] at h';cases h'
 | some b=>
  rw [e] at h';rw [Iq,e];exact(II h').symm
theorem rB{prog:NV}{w:NX}{A:N2}{E:NJ->NL->Prop}{s:NL}{l:NK}{items:Array NJ}{Q:NJ->NL->Prop}(hl:s.heap.IsList l items)
 (h:∀s₂:NL,s₂={s with heap:=s.heap.push {cls:= .type "list_iterator",data:= .fields #[.ref l,.int 0 0]}}->
  (s₂.heap.IsListIter s.heap.objs.size l 0/\s₂.heap.IsList l items)->l≠s.heap.objs.size->Q (.ref s.heap.objs.size) s₂):NS (NT prog w) A (pyIter (.ref l)) Q E s:=by
 have hlt:l < s.heap.objs.size:=by obtain⟨_,e,_⟩:=hl;exact HV e
 exact OW hl (h _ rfl ⟨⟨_,IB _ rfl,rfl,rfl⟩,hl.push _⟩ (Ip hlt))
theorem iT(hc:X.calm=true):cW X (.builtin "all") (λxs H Q=>∃(a:NK)(bs:List Bool),xs=[.ref a]/\aQ X.K H a (bs.map V.bl)/\Q (.bl (bs.all id)) H):=by
 intro O6 s σ H xs us Q I r h;obtain⟨a,bs,rfl,hl,q⟩:=h;obtain⟨u,rfl,rx⟩:=cX r;cases rx;obtain⟨its,rv,p,hz⟩:=I.list hl;have hi:=rq rv;subst hi;refine call_all_walk (rB p.isList λs₂ e st hlI=>?_);subst e;refine⟨_,_,_,_,_,_,λi=>bs.getD i true,rfl,MP (A:=X.A.in1) (I.ok.hd hc) _ a hlI _,st,λi v s' Q' E' hP hq=>by rw [rA hP];exact N5 hq,λh' tk hk=>?_⟩;have e:=BD bs (λi=>bs.getD i true) λ_ _=>rfl;have e2:(HQ JG bs).toArray.size=bs.length:=NH
 rw [e2,e];exact⟨.bl (bs.all id),H,I.kept (old_kept hk),rfl,q⟩
theorem rC(hc:X.calm=true):cW X (.builtin "any") (λxs H Q=>∃(a:NK)(bs:List Bool),xs=[.ref a]/\aQ X.K H a (bs.map V.bl)/\Q (.bl (bs.any id)) H):=by
 intro O6 s σ H xs us Q I r h;obtain⟨a,bs,rfl,hl,q⟩:=h;obtain⟨u,rfl,rx⟩:=cX r;cases rx;obtain⟨its,rv,p,hz⟩:=I.list hl;have hi:=rq rv;subst hi;refine call_any_walk (rB p.isList λs₂ e st hlI=>?_);subst e;refine⟨_,_,_,_,_,_,λi=>bs.getD i true,rfl,MP (A:=X.A.in1) (I.ok.hd hc) _ a hlI _,st,λi v s' Q' E' hP hq=>by rw [rA hP];exact N5 hq,λh' tk hk=>?_⟩;have e:=BE bs (λi=>bs.getD i true) λ_ _=>rfl;have e2:(HQ JG bs).toArray.size=bs.length:=NH
 rw [e2,e];exact⟨.bl (bs.any id),H,I.kept (old_kept hk),rfl,q⟩
end
open PySem PySem.Spec PyProof.Rows PySem.W PySem.Calls PySem.Builtin.ObjectAttr PySem.Builtin PySem.Builtin.Getset_descriptor
section
variable {X:Cx}
abbrev bJ(d:NI):Prop:=HJ d=true
end
theorem iU:N3 "all"=some (.builtin "all"):=NA
theorem rD:N3 "any"=some (.builtin "any"):=NA
def BF(p:NK)(h:NZ):Prop:=∃(n:Int)(t:Tok)(k:Nat),h.get? p=some {cls:= .type "list",data:= .seq #[.int n t] k}
abbrev BG(p:NK):HO:= .ext (BF p)
abbrev BH:NI:= .dict [(.none,.none)]
def BI(p:NK)(h:NZ):Prop:=∃(a b c:Int)(t u v:Tok)(k:Nat),h.get? p=some {cls:= .type "list",data:= .seq #[.int a t,.int b u,.int c v] k}
abbrev fk(p:NK):HO:= .ext (BI p)
abbrev di:NI:= .dict [(.none,.bool true)]
abbrev d6(ds:List NI):NI:= .dict [(.none,.list ds)]
abbrev BJ(C:NK)(kp ds:List NI):NI:= .dict [(.none,.tuple [.int (C:Int),.list kp,.list ds])]
abbrev rE(kp ds:List NI):NI:= .dict [(.bool true,.tuple [.list kp,.list ds])]
abbrev Ex:=NK->Prop
abbrev jK:Hp:=λ_=>none
mutual
inductive Dt (K:Hx) (H:Hp) (O:Ex):V->NI->Prop
 | non:Dt K H O .non .none
 | bl (b:Bool):Dt K H O (.bl b) (.bool b)
 | int (i:Int):Dt K H O (.int i) (.int i)
 | str (x:Str):Dt K H O (.str x) (.str x)
 | tup {a:NK} {xs:List V} {ds:List NI}:Rd H a (.tup xs)->¬O a->ai K H O xs ds->Dt K H O (.ref a) (.tuple ds)
 | tupK {a:NK} {xs:List V} {ds:List NI}:bg K jK a xs->ai K H O xs ds->Dt K H O (.ref a) (.tuple ds)
 | lst {a:NK} {xs:List V} {ds:List NI}:Rd H a (.lst xs)->¬O a->ai K H O xs ds->Dt K H O (.ref a) (.list ds)
 | pack {p:NK}:H p=some (BG p)->¬O p->Dt K H O (.ref p) BH
 | purse {p:NK}:H p=some (fk p)->¬O p->Dt K H O (.ref p) di
 | dct0 {a:NK}:H a=some (.dK [])->¬O a->Dt K H O (.ref a) (.dict [])
 | obj {a C dx:NK} {fs:List (Str×V)} {kp ds:List NI}:H a=some (.ins C dx fs)->kp=fs.map (λp=>Hy p.1)->¬O a->ai K H O (fs.map (·.2)) ds->Dt K H O (.ref a) (BJ C kp ds)
 | dic {a:NK} {ob:Obj} {kv:List (ah×V)} {ks:List Str} {kp ds:List NI}:H a=some (.frz ob (.dK kv))->kv.map (·.1)=ks.map Je->kp=ks.map Hy->¬O a->ai K H O (kv.map (·.2)) ds->Dt K H O (.ref a) (rE kp ds)
 | scr {a:NK} {xs:List V} {ds:List NI}:(Rd H a (.lst xs)/\¬O a)\/aQ K jK a xs->ai K H O xs ds->Dt K H O (.ref a) (d6 ds)
inductive ai (K:Hx) (H:Hp) (O:Ex):List V->List NI->Prop
 | nil:ai K H O [] []
 | cons {v:V} {d:NI} {vs:List V} {ds:List NI}:Dt K H O v d->ai K H O vs ds->ai K H O (v::vs) (d::ds)
end
theorem Rd.same{H H':Hp}{a:NK}{u:HO}(s:∀o,H a=some o->H' a=some o)(h:Rd H a u):Rd H' a u:=by
 rcases h with h | ⟨o,h⟩
 ·exact .inl (s _ h)
 ·exact .inr ⟨o,s _ h⟩
theorem Rd.trk{H:Hp}{a:NK}{u:HO}(h:Rd H a u):H a≠none:=by
 rcases h with h | ⟨o,h⟩ <;> rw [h] <;> exact λz=>nomatch z
section
variable {K:Hx}
structure aJ (H H':Hp) (O O':Ex):Prop where
 keep:∀b o,H b=some o->¬O b->H' b=some o
 out:∀b,H b≠none->¬O b->¬O' b
mutual
theorem Dt.step{H H':Hp}{O O':Ex}(S:aJ H H' O O'):∀{v:V}{d:NI},Dt K H O v d->Dt K H' O' v d
 | _,_,.non=>.non
 | _,_,.bl b=>.bl b
 | _,_,.int i=>.int i
 | _,_,.str x=>.str x
 | _,_,.tup h n r=>.tup (h.same λo e=>S.keep _ o e n) (S.out _ h.trk n) (ai.step S r)
 | _,_,.tupK h r=>.tupK h (ai.step S r)
 | _,_,.lst h n r=>.lst (h.same λo e=>S.keep _ o e n) (S.out _ h.trk n) (ai.step S r)
 | _,_,.pack h n=>.pack (S.keep _ _ h n) (S.out _ (by rw [h];exact λz=>nomatch z) n)
 | _,_,.purse h n=>.purse (S.keep _ _ h n) (S.out _ (by rw [h];exact λz=>nomatch z) n)
 | _,_,.dct0 h n=>.dct0 (S.keep _ _ h n) (S.out _ (by rw [h];exact λz=>nomatch z) n)
 | _,_,.obj h e n r=>.obj (S.keep _ _ h n) e (S.out _ (by rw [h];exact λz=>nomatch z) n) (ai.step S r)
 | _,_,.dic h e1 e2 n r=>.dic (S.keep _ _ h n) e1 e2 (S.out _ (by rw [h];exact λz=>nomatch z) n) (ai.step S r)
 | _,_,.scr h r=>.scr (h.imp (λh=>⟨h.1.same λo e=>S.keep _ o e h.2,S.out _ h.1.trk h.2⟩) id) (ai.step S r)
theorem ai.step{H H':Hp}{O O':Ex}(S:aJ H H' O O'):∀{vs:List V}{ds:List NI},ai K H O vs ds->ai K H' O' vs ds
 | _,_,.nil=>.nil
 | _,_,.cons h r=>.cons (Dt.step S h) (ai.step S r)
end
theorem aJ.same{H H':Hp}{O:Ex}(s:ao H H'):aJ H H' O O:=⟨λb o e _=>s b o e,λ_ _ n=>n⟩
theorem Dt.mono{H H':Hp}{O:Ex}{v:V}{d:NI}(s:ao H H')(h:Dt K H O v d):Dt K H' O v d:=h.step (.same s)
theorem ai.mono{H H':Hp}{O:Ex}{v:List V}{d:List NI}(s:ao H H')(h:ai K H O v d):ai K H' O v d:=h.step (.same s)
theorem ai.length{H:Hp}{O:Ex}:∀{vs:List V}{ds:List NI},ai K H O vs ds->vs.length=ds.length
 | _,_,.nil=>rfl
 | _,_,.cons _ r=>by rw [HN,HN,ai.length r]
theorem ai.get{H:Hp}{O:Ex}:∀{vs:List V}{ds:List NI}{i:Nat}{v:V},ai K H O vs ds->vs[i]?=some v->∃d,ds[i]?=some d/\Dt K H O v d
 | _,_,_,_,.nil,e=>by simp at e
 | _,_,0,_,.cons h _,e=>by simp at e;subst e;exact⟨_,rfl,h⟩
 | _,_,i+1,_,.cons _ r,e=>by simpa using ai.get (i:=i) r (by simpa using e)
theorem ai.getD{H:Hp}{O:Ex}:∀{vs:List V}{ds:List NI}{i:Nat}{d:NI},ai K H O vs ds->ds[i]?=some d->∃v,vs[i]?=some v/\Dt K H O v d
 | _,_,_,_,.nil,e=>by simp at e
 | _,_,0,_,.cons h _,e=>by simp at e;subst e;exact⟨_,rfl,h⟩
 | _,_,i+1,_,.cons _ r,e=>by simpa using ai.getD (i:=i) r (by simpa using e)
theorem ai.append{H:Hp}{O:Ex}:∀{vs ws:List V}{ds es:List NI},ai K H O vs ds->ai K H O ws es->ai K H O (vs++ws) (ds++es)
 | _,_,_,_,.nil,s=>s
 | _,_,_,_,.cons h r,s=>.cons h (ai.append r s)
theorem ai.take{H:Hp}{O:Ex}:∀{vs:List V}{ds:List NI}(n:Nat),ai K H O vs ds->ai K H O (vs.take n) (ds.take n)
 | _,_,0,_=>.nil
 | _,_,_+1,.nil=>.nil
 | _,_,n+1,.cons h r=>.cons h (ai.take n r)
theorem ai.drop{H:Hp}{O:Ex}:∀{vs:List V}{ds:List NI}(n:Nat),ai K H O vs ds->ai K H O (vs.drop n) (ds.drop n)
 | _,_,0,r=>r
 | _,_,_+1,.nil=>.nil
 | _,_,n+1,.cons _ r=>ai.drop n r
theorem ai.reverse{H:Hp}{O:Ex}:∀{vs:List V}{ds:List NI},ai K H O vs ds->ai K H O vs.reverse ds.reverse
 | _,_,.nil=>.nil
 | _,_,.cons h r=>by rw [KJ,KJ];exact(ai.reverse r).append (.cons h .nil)
theorem ai.ints{H:Hp}{O:Ex}:∀(ns:List Int),ai K H O (ns.map V.int) (ns.map HG)
 | []=>.nil
 | n::r=>.cons (.int n) (ai.ints r)
inductive Sh (K:Hx) (H:Hp) (O:Ex):V->NI->Prop
 | dt {v:V} {d:NI}:Dt K H O v d->Sh K H O v d
 | own {l:NK} {vs:List V} {ds:List NI}:H l=some (.lst vs)->ai K H O vs ds->Sh K H O (.ref l) (.list ds)
theorem Sh.mono{H H':Hp}{O:Ex}{v:V}{d:NI}(s:ao H H'):Sh K H O v d->Sh K H' O v d
 | .dt h=>.dt (h.mono s)
 | .own h r=>.own (s _ _ h) (r.mono s)
theorem Dt.all{H:Hp}{O:Ex}{v:V}{d:NI}(h:Dt K H O v d):Dt K H (λ_=>False) v d:=h.step ⟨λ_ _ e _=>e,λ_ _ _ z=>z⟩
theorem ai.all{H:Hp}{O:Ex}{v:List V}{d:List NI}(h:ai K H O v d):ai K H (λ_=>False) v d:=h.step ⟨λ_ _ e _=>e,λ_ _ _ z=>z⟩
theorem Sh.all{H:Hp}{O:Ex}{v:V}{d:NI}:Sh K H O v d->Dt K H (λ_=>False) v d
 | .dt h=>h.all
 | .own h r=>.lst (.inl h) (λz=>z) r.all
theorem bg.of0{H:Hp}{a:NK}{xs:List V}(h:bg K jK a xs):bg K H a xs:=by
 rcases h with(h | ⟨o,h⟩) | h
 ·cases h
 ·cases h
 ·exact .inr h
theorem aQ.of0{H:Hp}{a:NK}{xs:List V}(h:aQ K jK a xs):aQ K H a xs:=by
 rcases h with(h | ⟨o,h⟩) | h
 ·cases h
 ·cases h
 ·exact .inr h
theorem Sh.tup{H:Hp}{O:Ex}{v:V}{ds:List NI}(h:Sh K H O v (.tuple ds)):∃a xs,v= .ref a/\bg K H a xs/\ai K H O xs ds:=by
 cases h with
 | dt h=>
  cases h with
  | tup h _ r=>exact⟨_,_,rfl,.inl h,r⟩
  | tupK h r=>exact⟨_,_,rfl,h.of0,r⟩
theorem Sh.lstR{H:Hp}{O:Ex}{v:V}{ds:List NI}(h:Sh K H O v (.list ds)):∃a xs,v= .ref a/\Rd H a (.lst xs)/\ai K H O xs ds:=by
 cases h with
 | dt h=>
  cases h with
  | lst h _ r=>exact⟨_,_,rfl,h,r⟩
 | own h r=>exact⟨_,_,rfl,.inl h,r⟩
theorem Sh.lst{H:Hp}{O:Ex}{v:V}{ds:List NI}(h:Sh K H O v (.list ds)):∃a xs,v= .ref a/\aQ K H a xs/\ai K H O xs ds:=by
 obtain⟨a,xs,e,h,r⟩:=h.lstR;exact⟨a,xs,e,.inl h,r⟩
theorem Sh.scr{H:Hp}{O:Ex}{v:V}{ds:List NI}(h:Sh K H O v (d6 ds)):∃a xs,v= .ref a/\aQ K H a xs/\ai K H O xs ds:=by
 cases h with
 | dt h=>
  cases h with
  | scr h r=>
   rcases h with h | h
   ·exact⟨_,_,rfl,.inl h.1,r⟩
   ·exact⟨_,_,rfl,h.of0,r⟩
theorem Sh.int{H:Hp}{O:Ex}{v:V}{i:Int}(h:Sh K H O v (.int i)):v= .int i:=by cases h with | dt h=>cases h;rfl
theorem Sh.bl{H:Hp}{O:Ex}{v:V}{i:Bool}(h:Sh K H O v (.bool i)):v= .bl i:=by cases h with | dt h=>cases h;rfl
theorem Sh.str{H:Hp}{O:Ex}{v:V}{i:Str}(h:Sh K H O v (.str i)):v= .str i:=by cases h with | dt h=>cases h;rfl
def k7:NI->Bool
 | .none | .bool _ | .int _ | .str _=>true
 | _=>false
end
section
variable {X:Cx} {O6:List (NK×Obj)} {σ:St} {H:Hp} {s:NL}
mutual
theorem fm(I:ae X O6 σ H s){O:Ex}:∀{v:V}{d:NI}{u:NJ},Dt X.K H O v d->d.canLay0=true->ax v u->∃as,Reads s.heap u d as
 | _,_,_,.non,_,r=>by cases r;exact⟨_,Reads.none⟩
 | _,_,_,.bl b,_,r=>by cases r;exact⟨_,Reads.bool b⟩
 | _,_,_,.int i,_,r=>by obtain⟨t,rfl⟩:=r;exact⟨_,Reads.int i t⟩
 | _,_,_,.str x,_,r=>by obtain⟨t,rfl⟩:=r;exact⟨_,Reads.str x t⟩
 | _,_,_,.tup h _ hs,c,r=>by
  cases r;obtain⟨its,rv,⟨o,e,c',n,dd⟩,_⟩:=I.tuple (.inl h);obtain⟨as,q⟩:=k8 I hs (by simpa [IC] using c) rv;exact⟨as,reads_tuple_at e c' dd (by simpa using q)⟩
 | _,_,_,.tupK h hs,c,r=>by
  cases r;obtain⟨its,rv,⟨o,e,c',n,dd⟩,_⟩:=I.tuple h.of0;obtain⟨as,q⟩:=k8 I hs (by simpa [IC] using c) rv;exact⟨as,reads_tuple_at e c' dd (by simpa using q)⟩
 | _,_,_,.lst h _ hs,c,r=>by
  cases r;obtain⟨its,rv,⟨o,n,e,c',_,dd⟩,_⟩:=I.list (.inl h);obtain⟨as,q⟩:=k8 I hs (by simpa [IC] using c) rv;exact⟨_,reads_list_at e c' dd (by simpa using q)⟩
 | _,_,_,.pack _ _,c,_=>by simp [IC] at c
 | _,_,_,.purse _ _,c,_=>by simp [IC] at c
 | _,_,_,.dct0 _ _,c,_=>by simp [IC] at c
 | _,_,_,.obj _ _ _ _,c,_=>by simp [IC] at c
 | _,_,_,.dic _ _ _ _ _,c,_=>by simp [IC] at c
 | _,_,_,.scr _ _,c,_=>by simp [IC] at c
theorem k8(I:ae X O6 σ H s){O:Ex}:∀{vs:List V}{ds:List NI}{us:List NJ},ai X.K H O vs ds->IX ds=true->az vs us->∃as,ReadsAll s.heap us ds as
 | _,_,_,.nil,_,r=>by cases r;exact⟨_,ReadsAll.nil⟩
 | _,_,_,.cons h hs,c,r=>by
  rw [IX,HX] at c;cases r with
  | cons r1 r2=>
   obtain⟨as,q⟩:=fm I h c.1 r1;obtain⟨bs,p⟩:=k8 I hs c.2 r2;exact⟨_,ReadsAll.cons q p⟩
end
end
inductive Sl where
 | v (d:NI)
 | o (ds:List NI)
 | k (kd:List (ah×NI))
 | i (l C:NK) (fd:List (Str×NI))
 | r (l C g u:NK) (fd:List (Str×NI)) (gd ud:List (ah×NI))
 | b (ds:List NI)
abbrev Dl:=List (Option Sl)
inductive aZ (K:Hx) (H:Hp) (O:Ex):List (ah×V)->List (ah×NI)->Prop
 | nil:aZ K H O [] []
 | cons {k:ah} {v:V} {d:NI} {r:List (ah×V)} {s:List (ah×NI)}:Dt K H O v d->aZ K H O r s->aZ K H O ((k,v)::r) ((k,d)::s)
theorem aZ.step{K:Hx}{H H':Hp}{O O':Ex}(S:aJ H H' O O'){r:List (ah×V)}{s:List (ah×NI)}(h:aZ K H O r s):aZ K H' O' r s:=by
 induction h with
 | nil=>exact .nil
 | cons a _ ih=>exact .cons (a.step S) ih
theorem aZ.mono{K:Hx}{H H':Hp}{O:Ex}(S:ao H H'){r:List (ah×V)}{s:List (ah×NI)}(h:aZ K H O r s):aZ K H' O r s:=h.step (.same S)
def nz(K:Hx)(H:Hp)(O:Ex)(fs:List (Str×V))(fd:List (Str×NI)):Prop:=fs.map (·.1)=fd.map (·.1)/\ai K H O (fs.map (·.2)) (fd.map (·.2))
def Sl.own:Sl->Prop
 | .v _=>False
 | .b _=>False
 | _=>True
abbrev BK:Str:=HD "gone"
abbrev BL:Str:=HD "used"
def BM(K:Hx)(H:Hp)(O0 O:Ex)(l C g u:NK)(fd:List (Str×NI))(gd ud:List (ah×NI)):Prop:=∃dx fs og ou gv uv,H l=some (.ins C dx (fs++[(BK,.ref g),(BL,.ref u)]))/\nz K H O fs fd/\g≠u/\
 (O g/\¬O0 g/\H g=some (.frz og (.dK gv))/\aZ K H O gv gd)/\(O u/\¬O0 u/\H u=some (.frz ou (.dK uv))/\aZ K H O uv ud)
def fZ(K:Hx)(H:Hp)(O0 O:Ex)(x:Option V):Option Sl->Prop
 | none=>True
 | some (.v d)=>∃v,x=some v/\Dt K H O v d
 | some (.o ds)=>∃l vs,x=some (.ref l)/\O l/\¬O0 l/\H l=some (.lst vs)/\ai K H O vs ds
 | some (.k kd)=>∃l kv,x=some (.ref l)/\O l/\¬O0 l/\H l=some (.dK kv)/\aZ K H O kv kd
 | some (.i l C fd)=>∃dx fs,x=some (.ref l)/\O l/\¬O0 l/\H l=some (.ins C dx fs)/\nz K H O fs fd
 | some (.r l C g u fd gd ud)=>x=some (.ref l)/\O l/\¬O0 l/\BM K H O0 O l C g u fd gd ud
 | some (.b ds)=>∃l vs,x=some (.ref l)/\O0 l/\H l=some (.lst vs)/\ai K H O vs ds
structure Wd (K:Hx) (H0:Hp) (O0:Ex) (H:Hp) (O:Ex) (σ:St) (δ:Dl):Prop where
 same:ao H0 H
 sub:∀l,O0 l->O l
 new:∀l,O l->O0 l\/H0 l=none
 trk:∀l,O l->H l≠none
 len:σ.length=δ.length
 sl:∀(i:Nat) y,δ[i]?=some y->fZ K H O0 O ((σ[i]?).join) y
 dis:∀(i j:Nat) y z l,δ[i]?=some (some y)->y.own->δ[j]?=some (some z)->z.own->σ[i]?=some (some (.ref l))->σ[j]?=some (some (.ref l))->i=j
section
variable {K:Hx} {H0 H H':Hp} {O0 O:Ex} {σ:St} {δ:Dl}
theorem fZ.mono{x:Option V}{y:Option Sl}(s:ao H H')(h:fZ K H O0 O x y):fZ K H' O0 O x y:=by
 cases y with
 | none=>exact Jh
 | some y=>
  cases y with
  | v d=>
   obtain⟨v,e,r⟩:=h;exact⟨v,e,r.mono s⟩
  | o ds=>
   obtain⟨l,vs,e,a,b,c,r⟩:=h;exact⟨l,vs,e,a,b,s _ _ c,r.mono s⟩
  | k ds=>
   obtain⟨l,vs,e,a,b,c,r⟩:=h;exact⟨l,vs,e,a,b,s _ _ c,r.mono s⟩
  | i l C ds=>
   obtain⟨dx,vs,e,a,b,c,r1,r2⟩:=h;exact⟨dx,vs,e,a,b,s _ _ c,r1,r2.mono s⟩
  | r l C g u fd gd ud=>
   obtain⟨e,a,b,dx,fs,og,ou,gv,uv,c,⟨r1,r2⟩,ne,⟨g1,g2,g3,g4⟩,u1,u2,u3,u4⟩:=h;exact⟨e,a,b,dx,fs,og,ou,gv,uv,s _ _ c,⟨r1,r2.mono s⟩,ne,⟨g1,g2,s _ _ g3,g4.mono s⟩,u1,u2,s _ _ u3,u4.mono s⟩
  | b ds=>
   obtain⟨l,vs,e,a,c,r⟩:=h;exact⟨l,vs,e,a,s _ _ c,r.mono s⟩
theorem fZ.go{O':Ex}{x:Option V}{y:Option Sl}(h:fZ K H O0 O x y)(S:aJ H H' O O')(kp:∀l o,y.any (λz=>match z with | .v _=>false | .b _=>false | _=>true)=true->x=some (.ref l)->O l->¬O0 l->H l=some o->O' l/\H' l=some o)
 (kp2:∀a o u,O a->¬O0 a->H a=some (.frz o u)->O' a/\H' a=some (.frz o u))(kp3:∀a o,O0 a->H a=some o->H' a=some o):fZ K H' O0 O' x y:=by
 cases y with
 | none=>exact Jh
 | some y=>
  cases y with
  | v d=>
   obtain⟨v,e,r⟩:=h;exact⟨v,e,r.step S⟩
  | o ds=>
   obtain⟨l,vs,e,a,b,c,r⟩:=h;exact⟨l,vs,e,(kp l _ rfl e a b c).1,b,(kp l _ rfl e a b c).2,r.step S⟩
  | k ds=>
   obtain⟨l,vs,e,a,b,c,r⟩:=h;exact⟨l,vs,e,(kp l _ rfl e a b c).1,b,(kp l _ rfl e a b c).2,r.step S⟩
  | i l C ds=>
   obtain⟨dx,vs,e,a,b,c,r1,r2⟩:=h;exact⟨dx,vs,e,(kp l _ rfl e a b c).1,b,(kp l _ rfl e a b c).2,r1,r2.step S⟩
  | r l C g u fd gd ud=>
   obtain⟨e,a,b,dx,fs,og,ou,gv,uv,c,⟨r1,r2⟩,ne,⟨g1,g2,g3,g4⟩,u1,u2,u3,u4⟩:=h;exact⟨e,(kp l _ rfl e a b c).1,b,dx,fs,og,ou,gv,uv,(kp l _ rfl e a b c).2,⟨r1,r2.step S⟩,ne,⟨(kp2 _ _ _ g1 g2 g3).1,g2,(kp2 _ _ _ g1 g2 g3).2,g4.step S⟩,(kp2 _ _ _ u1 u2 u3).1,u2,(kp2 _ _ _ u1 u2 u3).2,u4.step S⟩
  | b ds=>
   obtain⟨l,vs,e,a,c,r⟩:=h;exact⟨l,vs,e,a,kp3 _ _ a c,r.step S⟩
theorem Wd.mono(s:ao H H')(w:Wd K H0 O0 H O σ δ):Wd K H0 O0 H' O σ δ:=
 ⟨w.same.trans s,w.sub,w.new,λl h z=>(by
  cases e:H l with
  | none=>exact w.trk l h e
  | some o=>rw [s _ _ e] at z;cases z),w.len,λi y e=>(w.sl i y e).mono s,w.dis⟩
theorem gb{i:Nat}{v:V}(h:(σ[i]?).join=some v):σ[i]?=some (some v):=by
 cases q:σ[i]? with
 | none=>rw [q] at h;cases h
 | some o=>rw [q] at h;rw [show o=some v from h]
theorem Wd.val(w:Wd K H0 O0 H O σ δ){i:Nat}{d:NI}(e:δ[i]?=some (some (.v d))):∃v,σ[i]?=some (some v)/\Dt K H O v d:=by
 obtain⟨v,h,r⟩:=w.sl i _ e;exact⟨v,gb h,r⟩
theorem Wd.own(w:Wd K H0 O0 H O σ δ){i:Nat}{ds:List NI}(e:δ[i]?=some (some (.o ds))):∃l vs,σ[i]?=some (some (.ref l))/\O l/\¬O0 l/\H l=some (.lst vs)/\ai K H O vs ds:=by
 obtain⟨l,vs,h,r⟩:=w.sl i _ e;exact⟨l,vs,gb h,r⟩
theorem Wd.ownK(w:Wd K H0 O0 H O σ δ){i:Nat}{kd:List (ah×NI)}(e:δ[i]?=some (some (.k kd))):∃l kv,σ[i]?=some (some (.ref l))/\O l/\¬O0 l/\H l=some (.dK kv)/\aZ K H O kv kd:=by
 obtain⟨l,vs,h,r⟩:=w.sl i _ e;exact⟨l,vs,gb h,r⟩
theorem Wd.ownI(w:Wd K H0 O0 H O σ δ){i:Nat}{l C:NK}{fd:List (Str×NI)}(e:δ[i]?=some (some (.i l C fd))):∃dx fs,σ[i]?=some (some (.ref l))/\O l/\¬O0 l/\H l=some (.ins C dx fs)/\nz K H O fs fd:=by
 obtain⟨dx,vs,h,r⟩:=w.sl i _ e;exact⟨dx,vs,gb h,r⟩
theorem Wd.adr(w:Wd K H0 O0 H O σ δ){i:Nat}{y:Sl}(e:δ[i]?=some (some y))(h:y.own):∃l,σ[i]?=some (some (.ref l))/\O l/\¬O0 l:=by
 match y,h,e with
 | .o ds,_,e=>obtain⟨l,vs,a,b,c,_⟩:=w.own e;exact⟨l,a,b,c⟩
 | .k ds,_,e=>obtain⟨l,vs,a,b,c,_⟩:=w.ownK e;exact⟨l,a,b,c⟩
 | .i l C ds,_,e=>obtain⟨dx,vs,a,b,c,_⟩:=w.ownI e;exact⟨l,a,b,c⟩
 | .r l C g u fd gd ud,_,e=>obtain⟨a,b,c,_⟩:=w.sl i _ e;exact⟨l,gb a,b,c⟩
theorem Wd.nofrz(w:Wd K H0 O0 H O σ δ){i:Nat}{y:Sl}{l:NK}(e:δ[i]?=some (some y))(h:y.own)(hl:σ[i]?=some (some (.ref l)))(o:Obj)(u:HO):H l≠some (.frz o u):=by
 match y,h,e with
 | .o ds,_,e=>obtain⟨l',vs,a,b,c,d,_⟩:=w.own e;rw [hl] at a;cases a;rw [d];exact λz=>nomatch z
 | .k ds,_,e=>obtain⟨l',vs,a,b,c,d,_⟩:=w.ownK e;rw [hl] at a;cases a;rw [d];exact λz=>nomatch z
 | .i l C ds,_,e=>obtain⟨dx,vs,a,b,c,d,_⟩:=w.ownI e;rw [hl] at a;cases a;rw [d];exact λz=>nomatch z
 | .r l C g u fd gd ud,_,e=>obtain⟨a,b,c,_,_,_,_,_,_,d,_⟩:=w.sl i _ e;have a:=gb a;rw [hl] at a;cases a;rw [d];exact λz=>nomatch z
theorem Wd.set(w:Wd K H0 O0 H O σ δ){i:Nat}{v:V}{d:NI}(h:Dt K H O v d):Wd K H0 O0 H O (σ.set i (some v)) (δ.set i (some (.v d))):=by
 refine⟨w.same,w.sub,w.new,w.trk,by simp [w.len],λj y e=>?_,λj k y z l e1 y1 e2 z2 e3 e4=>?_⟩
 ·by_cases hj:j=i
  ·subst hj;have hl:j < δ.length:=by
    have:=(HP.mp e).1;simpa using this
   rw [Ir hl] at e;cases e;rw [Ir (by rw [w.len];exact hl)];exact⟨v,rfl,h⟩
  ·rw [Ii (Ne.symm hj)] at e⊢;exact w.sl j y e
 ·have ne:∀{j:Nat}{y:Sl},(δ.set i (some (.v d)))[j]?=some (some y)->y.own->j≠i:=λ{j y} e ho z=>by
   subst z;by_cases hl:j < δ.length
   ·rw [Ir hl] at e;cases e;exact ho
   ·rw [KY (by simpa using hl)] at e;cases e
  have n1:=ne e1 y1;have n2:=ne e2 z2;rw [Ii (Ne.symm n1)] at e1 e3;rw [Ii (Ne.symm n2)] at e2 e4;exact w.dis j k y z l e1 y1 e2 z2 e3 e4
theorem Wd.setY(w:Wd K H0 O0 H O σ δ){i:Nat}{p:NK}{ho:HO}{y0:Sl}(hy:y0.own)(hp:H p=none)(h:∀O',aJ H (ak H p ho) O O'->O' p->¬O0 p->fZ K (ak H p ho) O0 O' (some (.ref p)) (some y0)):
 Wd K H0 O0 (ak H p ho) (λl=>O l\/l=p) (σ.set i (some (.ref p))) (δ.set i (some y0)):=by
 have sm:ao H (ak H p ho):=ao.new hp;have np:∀l,O l->l≠p:=λl hl z=>w.trk l hl (by rw [z];exact hp);have p0:H0 p=none:=by
  cases e:H0 p with
  | none=>rfl
  | some o=>rw [w.same _ _ e] at hp;cases hp
 have S:aJ H (ak H p ho) O (λl=>O l\/l=p):=⟨λb o e _=>sm b o e,λb hb hn z=>z.elim hn λq=>hb (by rw [q];exact hp)⟩;have n0:¬O0 p:=λz=>np p (w.sub p z) rfl;refine⟨w.same.trans sm,λl z=>.inl (w.sub l z),λl z=>z.elim (w.new l) λq=>.inr (by rw [q];exact p0),λl z=>?_,by simp [w.len],λj y e=>?_,λj k y z l e1 y1 e2 z2 e3 e4=>?_⟩
 ·by_cases q:l=p
  ·rw [q,bj];exact λz=>nomatch z
  ·rw [aB q];exact w.trk l (z.resolve_right q)
 ·by_cases hj:j=i
  ·subst hj;have hl:j < δ.length:=by
    have:=(HP.mp e).1;simpa using this
   rw [Ir hl] at e;cases e;rw [Ir (by rw [w.len];exact hl)];exact h _ S (.inr rfl) n0
  ·rw [Ii (Ne.symm hj)] at e⊢;exact(w.sl j y e).go S (λl o _ _ a _ c=>⟨.inl a,sm _ _ c⟩) (λa o u a1 _ a3=>⟨.inl a1,sm _ _ a3⟩) λa o _ a3=>sm _ _ a3
 ·by_cases hj:j=i
  ·by_cases hk:k=i
   ·rw [hj,hk]
   ·exfalso;rw [hj] at e1 e3;have hl:i < σ.length:=by
     have:=(HP.mp e3).1;simpa using this
    rw [Ir hl] at e3;cases e3;rw [Ii (Ne.symm hk)] at e2 e4;obtain⟨l',x1,x2,_⟩:=w.adr e2 z2;rw [e4] at x1;cases x1;exact np _ x2 rfl
  ·by_cases hk:k=i
   ·exfalso;rw [hk] at e2 e4;have hl:i < σ.length:=by
     have:=(HP.mp e4).1;simpa using this
    rw [Ir hl] at e4;cases e4;rw [Ii (Ne.symm hj)] at e1 e3;obtain⟨l',x1,x2,_⟩:=w.adr e1 y1;rw [e3] at x1;cases x1;exact np _ x2 rfl
   ·rw [Ii (Ne.symm hj)] at e1 e3;rw [Ii (Ne.symm hk)] at e2 e4;exact w.dis j k _ _ l e1 y1 e2 z2 e3 e4
theorem Wd.setO(w:Wd K H0 O0 H O σ δ){i:Nat}{p:NK}{vs:List V}{ds:List NI}(hp:H p=none)(h:ai K H O vs ds):
 Wd K H0 O0 (ak H p (.lst vs)) (λl=>O l\/l=p) (σ.set i (some (.ref p))) (δ.set i (some (.o ds))):=
 w.setY trivial hp λO' S a b=>⟨p,vs,rfl,a,b,bj,h.step S⟩
theorem Wd.setK(w:Wd K H0 O0 H O σ δ){i:Nat}{p:NK}{kv:List (ah×V)}{kd:List (ah×NI)}(hp:H p=none)(h:aZ K H O kv kd):
 Wd K H0 O0 (ak H p (.dK kv)) (λl=>O l\/l=p) (σ.set i (some (.ref p))) (δ.set i (some (.k kd))):=
 w.setY trivial hp λO' S a b=>⟨p,kv,rfl,a,b,bj,h.step S⟩
theorem Wd.putY(w:Wd K H0 O0 H O σ δ){i:Nat}{l:NK}{ho:HO}{y0 y1:Sl}(h0:y0.own)(h1:y1.own)(e:δ[i]?=some (some y0))(hl:σ[i]?=some (some (.ref l)))(h:aJ H (ak H l ho) O O->O l->¬O0 l->fZ K (ak H l ho) O0 O (some (.ref l)) (some y1)):
 Wd K H0 O0 (ak H l ho) O σ (δ.set i (some y1)):=by
 obtain⟨l',x1,x2,x3⟩:=w.adr e h0;rw [hl] at x1;cases x1;have l0:H0 l=none:=(w.new l x2).resolve_left x3;have S:aJ H (ak H l ho) O O:=⟨λb o q n=>by rw [aB (λz=>n (by rw [z];exact x2))];exact q,λ_ _ n=>n⟩;have li:i < δ.length:=(HP.mp e).1;refine⟨λb o q=>by rw [aB (λz=>by rw [z,l0] at q;cases q)];exact w.same b o q,w.sub,w.new,λb z=>?_,by simp [w.len],λj y q=>?_,λj k y z b e1 y1' e2 z2 e3 e4=>?_⟩
 ·by_cases q:b=l
  ·rw [q,bj];exact λz=>nomatch z
  ·rw [aB q];exact w.trk b z
 ·by_cases hj:j=i
  ·subst hj;rw [Ir li] at q;cases q;rw [hl];exact h S x2 x3
  ·rw [Ii (Ne.symm hj)] at q;refine(w.sl j y q).go S (λb o ho' e' a1 a2 a3=>⟨a1,?_⟩) (λb o u a1 a2 a3=>⟨a1,by rw [aB (λz=>w.nofrz e h0 hl o u (by rw [<-z];exact a3))];exact a3⟩) λb o a1 a3=>by rw [aB (λz=>x3 (by rw [<-z];exact a1))];exact a3
   have nb:b≠l:=λz=>by
    subst z
    match y,ho',q with
    | some z,ho',q=>exact hj (w.dis j i z y0 b q (by cases z <;> first | trivial | cases ho') e h0 (gb e') hl)
   rw [aB nb];exact a3
 ·have fH:∀{j:Nat}{y:Sl},(δ.set i (some y1))[j]?=some (some y)->y.own->∃y',δ[j]?=some (some y')/\y'.own:=λ{j y} q hq=>by
   by_cases hj:j=i
   ·subst hj;exact⟨_,e,h0⟩
   ·rw [Ii (Ne.symm hj)] at q;exact⟨_,q,hq⟩
  obtain⟨_,q1,r1⟩:=fH e1 y1';obtain⟨_,q2,r2⟩:=fH e2 z2;exact w.dis j k _ _ b q1 r1 q2 r2 e3 e4
theorem Wd.putO(w:Wd K H0 O0 H O σ δ){i:Nat}{l:NK}{vs us:List V}{ds es:List NI}(e:δ[i]?=some (some (.o ds)))(hl:σ[i]?=some (some (.ref l)))(h:ai K H O us es):
 Wd K H0 O0 (ak H l (.lst us)) O σ (δ.set i (some (.o es))):=
 w.putY (y0:= .o ds) (y1:= .o es) trivial trivial e hl λS a b=>⟨l,us,rfl,a,b,bj,h.step S⟩
theorem Wd.putK(w:Wd K H0 O0 H O σ δ){i:Nat}{l:NK}{kv:List (ah×V)}{kd kd':List (ah×NI)}(e:δ[i]?=some (some (.k kd)))(hl:σ[i]?=some (some (.ref l)))(h:aZ K H O kv kd'):
 Wd K H0 O0 (ak H l (.dK kv)) O σ (δ.set i (some (.k kd'))):=
 w.putY (y0:= .k kd) (y1:= .k kd') trivial trivial e hl λS a b=>⟨l,kv,rfl,a,b,bj,h.step S⟩
end
abbrev DT:=Dl->(NI->Prop)->Prop
abbrev DA:=Dl->(List NI->Prop)->Prop
abbrev DB:=Dl->(Bool->Prop)->Prop
structure iV where
 nx:Dl->Prop
 rt:NI->Prop
 bk:Dl->Prop:=λ_=>False
 ct:Dl->Prop:=λ_=>False
abbrev DS:=iV->Dl->Prop
section
variable (K:Hx) (H0:Hp) (O0:Ex)
inductive up (t:DT) (σ:St) (H:Hp) (R:VK):Prop
 | mk (O:Ex) (δ:Dl) (Qd:NI->Prop):Wd K H0 O0 H O σ δ->t δ Qd->(∀d v H',Qd d->ao H H'->Dt K H' O v d->R v H')->up t σ H R
inductive hX (t:DT) (σ:St) (H:Hp) (R:VK):Prop
 | mk (O:Ex) (δ:Dl) (Qd:NI->Prop):Wd K H0 O0 H O σ δ->t δ Qd->(∀d v H',Qd d->ao H H'->Sh K H' O v d->R v H')->hX t σ H R
inductive eJ (t:DA) (σ:St) (H:Hp) (R:List V->Hp->Prop):Prop
 | mk (O:Ex) (δ:Dl) (Qd:List NI->Prop):Wd K H0 O0 H O σ δ->t δ Qd->(∀ds vs H',Qd ds->ao H H'->ai K H' O vs ds->R vs H')->eJ t σ H R
inductive bL (t:DB) (σ:St) (H:Hp) (R:Bool->Hp->Prop):Prop
 | mk (O:Ex) (δ:Dl) (Qd:Bool->Prop):Wd K H0 O0 H O σ δ->t δ Qd->(∀b H',Qd b->ao H H'->R b H')->bL t σ H R
inductive bh (t:DS) (D:fU) (σ:St) (H:Hp):Prop
 | mk (O:Ex) (δ:Dl) (E:iV):Wd K H0 O0 H O σ δ->t E δ->(∀O' δ' σ' H',E.nx δ'->Wd K H0 O0 H' O' σ' δ'->aJ H H' O O'->D.nx σ' H')->(∀d v H',E.rt d->ao H0 H'->Dt K H' O0 v d->D.rt v H')->
 (∀O' δ' σ' H',E.bk δ'->Wd K H0 O0 H' O' σ' δ'->aJ H H' O O'->D.bk σ' H')->(∀O' δ' σ' H',E.ct δ'->Wd K H0 O0 H' O' σ' δ'->aJ H H' O O'->D.ct σ' H')->bh t D σ H
end
theorem PE.imp{X:Cx}{e:NN}{t u:TE}(h:PE X e t)(i:∀σ H Q,u σ H Q->t σ H Q):PE X e u:=λO6 s σ H Q I z=>h O6 s σ H Q I (i σ H Q z)
theorem PT.imp{X:Cx}{e:NN}{t u:TT}(h:PT X e t)(i:∀σ H Q,u σ H Q->t σ H Q):PT X e u:=λO6 s σ H Q I z=>h O6 s σ H Q I (i σ H Q z)
theorem PW.imp{X:Cx}{e:NN}{t u:TT}(h:PW X e t)(i:∀σ H Q,u σ H Q->t σ H Q):PW X e u:=λwh O6 s σ H Q I z=>h wh O6 s σ H Q I (i σ H Q z)
theorem PA.imp{X:Cx}{e:List NN}{t u:TA}(h:PA X e t)(i:∀σ H Q,u σ H Q->t σ H Q):PA X e u:=λpos O6 s σ H Q I z=>h pos O6 s σ H Q I (i σ H Q z)
theorem PS.imp{X:Cx}{e:N1}{t u:TS}(h:PS X e t)(i:∀D σ H,u D σ H->t D σ H):PS X e u:=λO6 s σ H D I z=>h O6 s σ H D I (i D σ H z)
theorem bx.imp{X:Cx}{e:List N1}{t u:TS}(h:bx X e t)(i:∀D σ H,u D σ H->t D σ H):bx X e u:=λO6 s σ H D I z=>h O6 s σ H D I (i D σ H z)
section
variable {X:Cx} {H0:Hp} {O0:Ex}
abbrev DE(X:Cx)(H0:Hp)(O0:Ex)(e:NN)(t:DT):Prop:=PE X e (up X.K H0 O0 t)
abbrev DF(X:Cx)(H0:Hp)(O0:Ex)(e:NN)(t:DT):Prop:=PE X e (hX X.K H0 O0 t)
theorem df{e:NN}{t:DT}(h:DE X H0 O0 e t):DF X H0 O0 e t:=h.imp λσ H Q uu67=>by obtain⟨O,δ,Qd,w,q,k⟩:=uu67;exact⟨O,δ,Qd,w,q,λd v H' a b c=>k d v H' a b (.dt c)⟩
def rF(Q:NI->Prop):Option (Option Sl)->Prop
 | some (some (.v d))=>Q d
 | _=>False
def cD(i:Nat):DT:=λδ Q=>rF Q δ[i]?
theorem BN{Q:NI->Prop}{o:Option (Option Sl)}:rF Q o↔∃d,o=some (some (.v d))/\Q d:=by
 constructor
 ·intro h
  match o,h with
  | some (some (.v d)),h=>exact⟨d,rfl,h⟩
 ·rintro⟨d,rfl,h⟩;exact h
theorem BO{i:Nat}{δ:Dl}{Q:NI->Prop}(h:cD i δ Q):∃d,δ[i]?=some (some (.v d))/\Q d:=BN.mp h
def rG(i:Nat):DT:=λδ Q=>∃ds,δ[i]?=some (some (.o ds))/\Q (.list ds)
def dC(d:NI):DT:=λ_ Q=>Q d
theorem dv(i:Nat){x:Str}{pos:Pos}(hN:X.N[i]?=some x:=by rfl)(hv:jw X.env.scope x:=by first | exact L4 rfl | exact K2 (L4 rfl) | exact K2 (K2 rfl))
 (hd:(x==("__debug__":Str))=false:=by decide)(hcd:(x==("__classdict__":Str))=false:=by decide):DE X H0 O0 (.Name x pos) (cD i):=
 (mr hN hv hd hcd).imp λσ H Q uu68=>by
  obtain⟨O,δ,Qd,w,dq,k⟩:=uu68;obtain⟨d,e,q⟩:=BO dq;obtain⟨v,h,r⟩:=w.val e;exact⟨v,h,k d v H q (ao.refl _) r⟩
theorem dw(i:Nat){x:Str}{pos:Pos}(hN:X.N[i]?=some x:=by rfl)(hv:jw X.env.scope x:=by first | exact L4 rfl | exact K2 (L4 rfl) | exact K2 (K2 rfl))
 (hd:(x==("__debug__":Str))=false:=by decide)(hcd:(x==("__classdict__":Str))=false:=by decide):DF X H0 O0 (.Name x pos) (rG i):=
 (mr hN hv hd hcd).imp λσ H Q uu69=>by
  obtain⟨O,δ,Qd,w,⟨ds,e,q⟩,k⟩:=uu69;obtain⟨l,vs,h,_,_,r,rs⟩:=w.own e;exact⟨_,h,k _ _ H q (ao.refl _) (.own r rs)⟩
theorem dc{e:NN}{v:V}{d:NI}(h:PE X e (tC v))(r:∀H O,Dt X.K H O v d):DE X H0 O0 e (dC d):=h.imp λσ H Q uu70=>by obtain⟨O,δ,Qd,w,q,k⟩:=uu70;exact k d v H q (ao.refl _) (r H O)
theorem af{i j pos}:DE X H0 O0 (.Constant (.int i) j pos) (dC (.int i)):=dc cn λ_ _=>.int i
theorem bW{b j pos}:DE X H0 O0 (.Constant (.bool b) j pos) (dC (.bool b)):=dc yW λ_ _=>.bl b
theorem rH{j pos}:DE X H0 O0 (.Constant .none j pos) (dC .none):=dc yX λ_ _=>.non
theorem aM{x j pos}:DE X H0 O0 (.Constant (.str x) j pos) (dC (.str x)):=dc yY λ_ _=>.str x
def k9:DA:=λ_ Q=>Q []
def iW(t:DT)(u:DA):DA:=λδ Q=>t δ λd=>u δ λds=>Q (d::ds)
theorem ag:PA X [] (eJ X.K H0 O0 k9):=eG.imp λσ H Q uu71=>by obtain⟨O,δ,Qd,w,q,k⟩:=uu71;exact k [] [] H q (ao.refl _) .nil
theorem aa{e:NN}{es:List NN}{t:DT}{u:DA}(h:DE X H0 O0 e t)(hs:PA X es (eJ X.K H0 O0 u))(he:NP (e::es) X.env=(false,eval e X.env)::NP es X.env:=by rfl):PA X (e::es) (eJ X.K H0 O0 (iW t u)):=
 (cM h hs he).imp λσ H Q uu72=>by obtain⟨O,δ,Qd,w,q,k⟩:=uu72;exact⟨O,δ,_,w,q,λd v H1 q1 s1 r1=>⟨O,δ,_,w.mono s1,q1,λds vs H2 q2 s2 r2=>k (d::ds) (v::vs) H2 q2 (s1.trans s2) (.cons (r1.mono s2) r2)⟩⟩
def rJ(t:DA):DT:=λδ Q=>t δ λds=>ds.length<=NO/\Q (.tuple ds)
theorem iX{H:Hp}{O:Ex}{σ:St}{δ:Dl}{H1:Hp}{p:NK}{K:Hx}(w:Wd K H0 O0 H O σ δ)(s:ao H H1)(hp:H1 p=none):¬O p:=λz=>(w.mono s).trk p z hp
theorem bb{es:List NN}{t:DA}{x1}{pos:Pos}(h:PA X es (eJ X.K H0 O0 t)):DE X H0 O0 (.Tuple es x1 pos) (rJ t):=
 (Au h).imp λσ H Q uu73=>by obtain⟨O,δ,Qd,w,q,k⟩:=uu73;exact⟨O,δ,_,w,q,λds vs H1 q1 s1 r1=>⟨by rw [r1.length];exact q1.1,λp hp=>k _ _ _ q1.2 (s1.trans (ao.new hp)) (.tup (.inl bj) (iX w s1 hp) (r1.mono (ao.new hp)))⟩⟩
end
theorem aJ.refl(H:Hp)(O:Ex):aJ H H O O:=⟨λ_ _ e _=>e,λ_ _ n=>n⟩
theorem aJ.trans{H H1 H2:Hp}{O O1 O2:Ex}(a:aJ H H1 O O1)(b:aJ H1 H2 O1 O2):aJ H H2 O O2:=by
 refine⟨λc o e n=>?_,λc e n=>?_⟩
 ·have h1:=a.keep c o e n;exact b.keep c o h1 (a.out c (by rw [e];exact λz=>nomatch z) n)
 ·cases q:H c with
  | none=>exact absurd q e
  | some o=>exact b.out c (by rw [a.keep c o q n];exact λz=>nomatch z) (a.out c e n)
section
variable {X:Cx} {H0:Hp} {O0:Ex}
def bE(K:Hx)(r:R2)(rd:NI->NI->(NI->Prop)->Prop):Prop:=
 ∀(H:Hp)(O:Ex)(x y:V)(dx dy:NI)(Qd:NI->Prop)(R:VK),(∀l,O l->H l≠none)->Sh K H O x dx->Sh K H O y dy->rd dx dy Qd->(∀d v H',Qd d->ao H H'->Dt K H' O v d->R v H')->r x y H R
def gc(rd:NI->NI->(NI->Prop)->Prop)(ta tb:DT):DT:=λδ Q=>ta δ λx=>tb δ λy=>rd x y Q
theorem lg{K:Hx}{r:R2}{rd:NI->NI->(NI->Prop)->Prop}{ta tb:DT}(hd:bE K r rd):∀σ H Q,up K H0 O0 (gc rd ta tb) σ H Q->iJ r (hX K H0 O0 ta) (hX K H0 O0 tb) σ H Q:=
 λσ H Q uu74=>by obtain⟨O,δ,Qd,w,q,k⟩:=uu74;exact⟨O,δ,_,w,q,λx v H1 q1 s1 r1=>⟨O,δ,_,w.mono s1,q1,λy u H2 q2 s2 r2=>hd H2 O v u x y Qd _ (w.mono (s1.trans s2)).trk (r1.mono s2) r2 q2 λd z H3 qd s3 r3=>k d z H3 qd (s1.trans (s2.trans s3)) r3⟩⟩
theorem BP{a b:NN}{ta tb:DT}{op:Operator}{r:R2}{rd:NI->NI->(NI->Prop)->Prop}{pos:Pos}(ho:bf X (Oi op) r)(hd:bE X.K r rd)(ha:DF X H0 O0 a ta)(hb:DF X H0 O0 b tb):DE X H0 O0 (.BinOp a op b pos) (gc rd ta tb):=(dG ho ha hb).imp (lg hd)
theorem bS{a b:NN}{ta tb:DT}{op:OC}{r:R2}{rd:NI->NI->(NI->Prop)->Prop}{pos:Pos}(ho:bf X (NY op) r)(hd:bE X.K r rd)(ha:DF X H0 O0 a ta)(hb:DF X H0 O0 b tb)(hm:N6 op b=false):DE X H0 O0 (.Compare a [op] [b] pos) (gc rd ta tb):=(An ho ha hb hm).imp (lg hd)
def gG(t:DT):DB:=λδ Q=>t δ λd=>∃b,d= .bool b/\Q b
theorem rK{a b:NN}{ta tb:DT}{op:OC}{r:R2}{rd:NI->NI->(NI->Prop)->Prop}{pos:Pos}(ho:bf X (NY op) r)(hd:bE X.K r rd)(ha:DF X H0 O0 a ta)(hb:DF X H0 O0 b tb)(hm:N6 op b=false):PT X (.Compare a [op] [b] pos) (bL X.K H0 O0 (gG (gc rd ta tb))):=
 (kP ho ha hb hm).imp λσ H Q uu75=>by obtain⟨O,δ,Qd,w,q,k⟩:=uu75;exact lg hd σ H _ ⟨O,δ,_,w,q,λd v H' uu76 s r=>by obtain⟨b,e,qb⟩:=uu76;subst e;cases r;exact⟨b,rfl,k b H' qb s⟩⟩
theorem cE{e:NN}{t:DT}(h:DE X H0 O0 e t)(he:∀whole,isTrue e X.env whole=(do let v<-whole;standAt e.pos;holding [v] (truthy v)):=by intro _;rfl):PT X e (bL X.K H0 O0 (gG t)):=
 (y3 h he).imp λσ H Q uu77=>by obtain⟨O,δ,Qd,w,q,k⟩:=uu77;exact⟨O,δ,_,w,q,λd v H' uu78 s r=>by obtain⟨b,e,qb⟩:=uu78;subst e;cases r;exact⟨b,rfl,k b H' qb s⟩⟩
def rL(t u:DB):DB:=λδ Q=>t δ λc=>if c=true then u δ Q else Q false
def rM(t u:DB):DB:=λδ Q=>t δ λc=>if c=true then Q true else u δ Q
def rN(t:DB):DB:=λδ Q=>t δ λc=>Q (!c)
theorem eL{a:NN}{t:DB}{pos:Pos}(h:PT X a (bL X.K H0 O0 t)):PW X (.BoolOp .And [a] pos) (bL X.K H0 O0 t):=y4 h
theorem fG{a:NN}{t:DB}{pos:Pos}(h:PT X a (bL X.K H0 O0 t)):PW X (.BoolOp .Or [a] pos) (bL X.K H0 O0 t):=p9 h
theorem dJ{a b:NN}{rest:List NN}{t u:DB}{pos:Pos}(h:PT X a (bL X.K H0 O0 t))(hb:PW X (.BoolOp .And (b::rest) pos) (bL X.K H0 O0 u)):PW X (.BoolOp .And (a::b::rest) pos) (bL X.K H0 O0 (rL t u)):=
 (y6 h hb).imp λσ H Q uu79=>by obtain⟨O,δ,Qd,w,q,k⟩:=uu79;exact⟨O,δ,_,w,q,λc H1 q1 s1=>by
  cases c with
  | true=>exact⟨O,δ,_,w.mono s1,q1,λb H2 q2 s2=>k b H2 q2 (s1.trans s2)⟩
  | false=>exact k false H1 q1 s1⟩
theorem d7{a b:NN}{rest:List NN}{t u:DB}{pos:Pos}(h:PT X a (bL X.K H0 O0 t))(hb:PW X (.BoolOp .Or (b::rest) pos) (bL X.K H0 O0 u)):PW X (.BoolOp .Or (a::b::rest) pos) (bL X.K H0 O0 (rM t u)):=
 (qa h hb).imp λσ H Q uu80=>by obtain⟨O,δ,Qd,w,q,k⟩:=uu80;exact⟨O,δ,_,w,q,λc H1 q1 s1=>by
  cases c with
  | false=>exact⟨O,δ,_,w.mono s1,q1,λb H2 q2 s2=>k b H2 q2 (s1.trans s2)⟩
  | true=>exact k true H1 q1 s1⟩
theorem dM{a:NN}{t:DB}{pos:Pos}(h:PT X a (bL X.K H0 O0 t)):PT X (.UnaryOp .Not a pos) (bL X.K H0 O0 (rN t)):=
 (y8 h).imp λσ H Q uu81=>by obtain⟨O,δ,Qd,w,q,k⟩:=uu81;exact⟨O,δ,_,w,q,λc H1 q1 s1=>k (!c) H1 q1 s1⟩
def rO(t u:DT):DT:=λδ Q=>t δ λd=>∃c,d= .bool c/\if c=true then u δ Q else Q (.bool false)
def rP(t u:DT):DT:=λδ Q=>t δ λd=>∃c,d= .bool c/\if c=true then Q (.bool true) else u δ Q
def rQ(t:DT):DT:=λδ Q=>t δ λd=>∃c,d= .bool c/\Q (.bool (!c))
theorem cF{op}{a:NN}{t:DT}{pos:Pos}(h:DE X H0 O0 a t):DE X H0 O0 (.BoolOp op [a] pos) t:=y9 h
theorem cg{a b:NN}{rest:List NN}{t u:DT}{pos:Pos}(h:DE X H0 O0 a t)(hb:DE X H0 O0 (.BoolOp .And (b::rest) pos) u):DE X H0 O0 (.BoolOp .And (a::b::rest) pos) (rO t u):=
 (z5 h hb).imp λσ H Q ⟨O,δ,Qd,w,q,k⟩=>⟨O,δ,_,w,q,λd v H1 uu83 s1 r=>by
  obtain⟨c,e,q1⟩:=uu83;subst e;cases r;refine⟨c,rfl,?_⟩;cases c with
  | true=>exact⟨O,δ,_,w.mono s1,q1,λd v H2 q2 s2 r2=>k d v H2 q2 (s1.trans s2) r2⟩
  | false=>exact k _ _ H1 q1 s1 (.bl false)⟩
theorem BQ{a b:NN}{rest:List NN}{t u:DT}{pos:Pos}(h:DE X H0 O0 a t)(hb:DE X H0 O0 (.BoolOp .Or (b::rest) pos) u):DE X H0 O0 (.BoolOp .Or (a::b::rest) pos) (rP t u):=
 (z7 h hb).imp λσ H Q ⟨O,δ,Qd,w,q,k⟩=>⟨O,δ,_,w,q,λd v H1 uu85 s1 r=>by
  obtain⟨c,e,q1⟩:=uu85;subst e;cases r;refine⟨c,rfl,?_⟩;cases c with
  | false=>exact⟨O,δ,_,w.mono s1,q1,λd v H2 q2 s2 r2=>k d v H2 q2 (s1.trans s2) r2⟩
  | true=>exact k _ _ H1 q1 s1 (.bl true)⟩
theorem BR{a:NN}{t:DT}{pos:Pos}(h:DE X H0 O0 a t):DE X H0 O0 (.UnaryOp .Not a pos) (rQ t):=
 (z8 h).imp λσ H Q uu86=>by obtain⟨O,δ,Qd,w,q,k⟩:=uu86;exact⟨O,δ,_,w,q,λd v H1 uu87 s1 r=>by
  obtain⟨c,e,q1⟩:=uu87;subst e;cases r;exact⟨c,rfl,k _ _ H1 q1 s1 (.bl _)⟩⟩
def lh(rd rd':NI->NI->(NI->Prop)->Prop)(ta tb tc:DT):DT:=λδ Q=>ta δ λx=>tb δ λy=>rd x y λz=>∃k,z= .bool k/\if k=true then tc δ λu=>rd' y u Q else Q (.bool false)
theorem rR{K:Hx}{r r':R2}{rd rd':NI->NI->(NI->Prop)->Prop}{ta tb tc:DT}(hd:bE K r rd)(hd':bE K r' rd'):∀σ H Q,up K H0 O0 (lh rd rd' ta tb tc) σ H Q->mQ r r' (hX K H0 O0 ta) (hX K H0 O0 tb) (hX K H0 O0 tc) σ H Q:=
 λσ H Q ⟨O,δ,Qd,w,q,k⟩=>⟨O,δ,_,w,q,λx v H1 q1 s1 r1=>⟨O,δ,_,w.mono s1,q1,λy u H2 q2 s2 r2=>hd H2 O v u x y _ _ (w.mono (s1.trans s2)).trk (r1.mono s2) r2 q2 λd z H3 uu89 s3 r3=>by
  obtain⟨c,e,q3⟩:=uu89;subst e;cases r3;refine⟨c,rfl,?_⟩;cases c with
  | true=>exact⟨O,δ,_,w.mono (s1.trans (s2.trans s3)),q3,λu' p H4 q4 s4 r4=>hd' H4 O u p y u' Qd _ (w.mono (s1.trans (s2.trans (s3.trans s4)))).trk (r2.mono (s3.trans s4)) r4 q4 λd z H5 qd s5 r5=>k d z H5 qd (s1.trans (s2.trans (s3.trans (s4.trans s5)))) r5⟩
  | false=>exact k _ _ H3 q3 (s1.trans (s2.trans s3)) (.bl false)⟩⟩
theorem rS{a b c:NN}{ta tb tc:DT}{op op':OC}{r r':R2}{rd rd':NI->NI->(NI->Prop)->Prop}{pos:Pos}(ho:bf X (NY op) r)(ho':bf X (NY op') r')(hd:bE X.K r rd)(hd':bE X.K r' rd')(ha:DF X H0 O0 a ta)(hb:DF X H0 O0 b tb)(hc:DF X H0 O0 c tc)
 (hm:lastMarks [op,op'] [b,c]=false:=by with_unfolding_all rfl):DE X H0 O0 (.Compare a [op,op'] [b,c] pos) (lh rd rd' ta tb tc):=(Ao ho ho' ha hb hc hm).imp (rR hd hd')
theorem BS{a b c:NN}{ta tb tc:DT}{op op':OC}{r r':R2}{rd rd':NI->NI->(NI->Prop)->Prop}{pos:Pos}(ho:bf X (NY op) r)(ho':bf X (NY op') r')(hd:bE X.K r rd)(hd':bE X.K r' rd')(ha:DF X H0 O0 a ta)(hb:DF X H0 O0 b tb)(hc:DF X H0 O0 c tc)
 (hm:lastMarks [op,op'] [b,c]=false:=by with_unfolding_all rfl):PT X (.Compare a [op,op'] [b,c] pos) (bL X.K H0 O0 (gG (lh rd rd' ta tb tc))):=
 (Ap ho ho' ha hb hc hm).imp λσ H Q uu90=>by obtain⟨O,δ,Qd,w,q,k⟩:=uu90;exact rR hd hd' σ H _ ⟨O,δ,_,w,q,λd v H' uu91 s r=>by obtain⟨b,e,qb⟩:=uu91;subst e;cases r;exact⟨b,rfl,k b H' qb s⟩⟩
inductive aT (K:Hx) (F:List NI->(NI->Prop)->Prop) (vs:List V) (H:Hp) (Q:VK) (E:XK):Prop
 | mk (O:Ex) (ds:List NI) (Qd:NI->Prop):(∀l,O l->H l≠none)->ai K H O vs ds->F ds Qd->(∀d v H',Qd d->ao H H'->Dt K H' O v d->Q v H')->aT K F vs H Q E
def jL(F:List NI->(NI->Prop)->Prop)(t:DA):DT:=λδ Q=>t δ λds=>F ds Q
theorem BU{K:Hx}{F:List NI->(NI->Prop)->Prop}{t:DA}{E:XK}:∀σ H Q,up K H0 O0 (jL F t) σ H Q->kQ (aT K F) [] E (eJ K H0 O0 t) σ H Q:=
 λσ H Q uu92=>by obtain⟨O,δ,Qd,w,q,k⟩:=uu92;exact⟨O,δ,_,w,q,λds vs H1 q1 s1 r1=>⟨O,ds,Qd,(w.mono s1).trk,by rw [JH];exact r1,q1,λd v H2 q2 s2 r2=>k d v H2 q2 (s1.trans s2) r2⟩⟩
inductive iY (K:Hx) (H:Hp) (O:Ex):List V->List NI->Prop
 | nil:iY K H O [] []
 | cons {v:V} {d:NI} {vs:List V} {ds:List NI}:Sh K H O v d->iY K H O vs ds->iY K H O (v::vs) (d::ds)
inductive d8 (K:Hx) (H0:Hp) (O0:Ex) (t:DA) (σ:St) (H:Hp) (R:List V->Hp->Prop):Prop
 | mk (O:Ex) (δ:Dl) (Qd:List NI->Prop):Wd K H0 O0 H O σ δ->t δ Qd->(∀ds vs H',Qd ds->ao H H'->iY K H' O vs ds->R vs H')->d8 K H0 O0 t σ H R
theorem aG:PA X [] (d8 X.K H0 O0 k9):=eG.imp λσ H Q uu93=>by obtain⟨O,δ,Qd,w,q,k⟩:=uu93;exact k [] [] H q (ao.refl _) .nil
theorem lp{e:NN}{es:List NN}{t:DT}{u:DA}(h:DF X H0 O0 e t)(hs:PA X es (d8 X.K H0 O0 u))(he:NP (e::es) X.env=(false,eval e X.env)::NP es X.env:=by rfl):PA X (e::es) (d8 X.K H0 O0 (iW t u)):=
 (cM h hs he).imp λσ H Q uu94=>by obtain⟨O,δ,Qd,w,q,k⟩:=uu94;exact⟨O,δ,_,w,q,λd v H1 q1 s1 r1=>⟨O,δ,_,w.mono s1,q1,λds vs H2 q2 s2 r2=>k (d::ds) (v::vs) H2 q2 (s1.trans s2) (.cons (r1.mono s2) r2)⟩⟩
def gf(K:Hx)(r:List V->Hp->VK->Prop)(rd:List NI->(NI->Prop)->Prop):Prop:=
 ∀(H:Hp)(O:Ex)(xs:List V)(ds:List NI)(Qd:NI->Prop)(R:VK),(∀l,O l->H l≠none)->iY K H O xs ds->rd ds Qd->(∀d v H',Qd d->ao H H'->Dt K H' O v d->R v H')->r xs H R
theorem aP{K:Hx}{r:List V->Hp->VK->Prop}{rd:List NI->(NI->Prop)->Prop}{t:DA}(hd:gf K r rd):∀σ H Q,up K H0 O0 (jL rd t) σ H Q->kR r (d8 K H0 O0 t) σ H Q:=
 λσ H Q uu95=>by obtain⟨O,δ,Qd,w,q,k⟩:=uu95;exact⟨O,δ,_,w,q,λds vs H1 q1 s1 r1=>hd H1 O vs ds Qd _ (w.mono s1).trk r1 q1 λd v H2 q2 s2 r2=>k d v H2 q2 (s1.trans s2) r2⟩
def rT(t u:DS):DS:=λE δ=>t {E with nx:=u E} δ
theorem av{st:N1}{rest:List N1}{t u:DS}(h:PS X st (bh X.K H0 O0 t))(h2:bx X rest (bh X.K H0 O0 u)):bx X (st::rest) (bh X.K H0 O0 (rT t u)):=
 (gB h h2).imp λD σ H uu96=>by obtain⟨O,δ,E,w,q,k1,k2,k3,k4⟩:=uu96;exact⟨O,δ,_,w,q,λO' δ' σ' H' z w' S=>⟨O',δ',E,w',z,λO2 δ2 σ2 H2 z2 w2 S2=>k1 O2 δ2 σ2 H2 z2 w2 (S.trans S2),k2,λO2 δ2 σ2 H2 z2 w2 S2=>k3 O2 δ2 σ2 H2 z2 w2 (S.trans S2),λO2 δ2 σ2 H2 z2 w2 S2=>k4 O2 δ2 σ2 H2 z2 w2 (S.trans S2)⟩,k2,k3,k4⟩
def rV:DS:=λE δ=>E.nx δ
theorem aV:bx X [] (bh X.K H0 O0 rV):=my.imp λD σ H uu0=>by obtain⟨O,δ,E,w,q,k1,k2,k3,k4⟩:=uu0;exact k1 O δ σ H q w (aJ.refl _ _)
theorem au{st:N1}{t:DS}(h:PS X st (bh X.K H0 O0 t)):bx X [st] (bh X.K H0 O0 t):=jx h
def nA(i:Nat)(t:DT):DS:=λE δ=>t δ λd=>E.nx (δ.set i (some (.v d)))
theorem bK{i:Nat}{x:Str}{e:NN}{t:DT}{pos pos':Pos}(hN:X.N.Nodup)(hi:X.N[i]?=some x)(hx:fc X.env.scope x)(he:DE X H0 O0 e t)(hs:Oa e (some (.Name x pos')) pos.line X.env=pure false:=by rfl)(hf:X.fn x=true\/X.env.scope.names.lookup x=some .local:=by first | exact .inl rfl | exact .inr rfl | assumption):
 PS X (.Assign [.Name x pos'] e pos) (bh X.K H0 O0 (nA i t)):=
 (g9 hN hi hx he hs hf).imp λD σ H uu1=>by obtain⟨O,δ,E,w,q,k1,k2,k3,k4⟩:=uu1;exact⟨O,δ,_,w,q,λd v H1 q1 s1 r1=>k1 O _ _ H1 q1 ((w.mono s1).set r1) (.same s1)⟩
def rW(t:DT):DS:=λE δ=>t δ E.rt
theorem fH{K:Hx}{H:Hp}{O:Ex}{σ:St}{δ:Dl}(w:Wd K H0 O0 H O σ δ):aJ H H O O0:=⟨λ_ _ e _=>e,λb _ n z=>n (w.sub b z)⟩
theorem aA{e:NN}{t:DT}{pos:Pos}(he:DE X H0 O0 e t):PS X (.Return (some e) pos) (bh X.K H0 O0 (rW t)):=
 (kF he).imp λD σ H uu2=>by obtain⟨O,δ,E,w,q,k1,k2,k3,k4⟩:=uu2;exact⟨O,δ,_,w,q,λd v H1 q1 s1 r1=>k2 d v H1 q1 (w.same.trans s1) (r1.step (fH (w.mono s1)))⟩
def rX(c:DB)(t u:DS):DS:=λE δ=>c δ λb=>if b=true then t E δ else u E δ
theorem aW{c:NN}{a b:List N1}{tc:DB}{t u:DS}{pos:Pos}(hc:PT X c (bL X.K H0 O0 tc))(ha:bx X a (bh X.K H0 O0 t))(hb:bx X b (bh X.K H0 O0 u)):PS X (.If c a b pos) (bh X.K H0 O0 (rX tc t u)):=
 (mz hc ha hb).imp λD σ H uu3=>by obtain⟨O,δ,E,w,q,k1,k2,k3,k4⟩:=uu3;exact⟨O,δ,_,w,q,λc H1 q1 s1=>by
  have g:∀{t':DS},t' E δ->bh X.K H0 O0 t' D σ H1:=λz=>⟨O,δ,E,w.mono s1,z,λO2 δ2 σ2 H2 z2 w2 S2=>k1 O2 δ2 σ2 H2 z2 w2 (aJ.trans (.same s1) S2),k2,λO2 δ2 σ2 H2 z2 w2 S2=>k3 O2 δ2 σ2 H2 z2 w2 (aJ.trans (.same s1) S2),λO2 δ2 σ2 H2 z2 w2 S2=>k4 O2 δ2 σ2 H2 z2 w2 (aJ.trans (.same s1) S2)⟩;cases c with
  | true=>exact g q1
  | false=>exact g q1⟩
inductive jM (K:Hx) (H0:Hp) (O0:Ex) (t:DA) (σ:St) (H:Hp) (R:VK):Prop
 | mk (O:Ex) (δ:Dl) (Qd:List NI->Prop):Wd K H0 O0 H O σ δ->t δ Qd->(∀ds vs p H',Qd ds->ao H H'->H' p=none->ai K H' O vs ds->R (.ref p) (ak H' p (.lst vs)))->jM K H0 O0 t σ H R
abbrev FE(X:Cx)(H0:Hp)(O0:Ex)(e:NN)(t:DA):Prop:=PE X e (jM X.K H0 O0 t)
def dL(t:DA):DT:=λδ Q=>t δ λds=>Q (.list ds)
theorem fe{e:NN}{t:DA}(h:FE X H0 O0 e t):DE X H0 O0 e (dL t):=
 h.imp λσ H Q uu4=>by obtain⟨O,δ,Qd,w,q,k⟩:=uu4;exact⟨O,δ,_,w,q,λds vs p H1 q1 s1 hp r1=>k _ _ _ q1 (s1.trans (ao.new hp)) (.lst (.inl bj) (iX w s1 hp) (r1.mono (ao.new hp)))⟩
def nB(t:DA):DA:=λδ Q=>t δ λds=>ds.length<=NO/\Q ds
theorem cv{es:List NN}{t:DA}{pos:Pos}(h:PA X es (eJ X.K H0 O0 t)):FE X H0 O0 (.List es pos) (nB t):=
 (mT h).imp λσ H Q uu5=>by obtain⟨O,δ,Qd,w,q,k⟩:=uu5;exact⟨O,δ,_,w,q,λds vs H1 q1 s1 r1=>⟨by rw [r1.length];exact q1.1,λp hp=>k _ _ _ _ q1.2 s1 hp r1⟩⟩
def rY(i:Nat)(t:DA):DS:=λE δ=>t δ λds=>E.nx (δ.set i (some (.o ds)))
theorem rZ{i:Nat}{x:Str}{e:NN}{t:DA}{pos pos':Pos}(hN:X.N.Nodup)(hi:X.N[i]?=some x)(hx:fc X.env.scope x)(he:FE X H0 O0 e t)(hs:Oa e (some (.Name x pos')) pos.line X.env=pure false:=by rfl)(hf:X.fn x=true\/X.env.scope.names.lookup x=some .local:=by first | exact .inl rfl | exact .inr rfl | assumption):
 PS X (.Assign [.Name x pos'] e pos) (bh X.K H0 O0 (rY i t)):=
 (g9 hN hi hx he hs hf).imp λD σ H ⟨O,δ,E,w,q,k1,k2,k3,k4⟩=>⟨O,δ,_,w,q,λds vs p H1 q1 s1 hp r1=>k1 _ _ _ _ q1 ((w.mono s1).setO hp r1)
  ⟨λb o e _=>(s1.trans (ao.new hp)) b o e,λb e n z=>z.elim n λy=>by
   cases q:H b with
   | none=>exact e q
   | some o=>have:=s1 _ _ q;rw [y,hp] at this;cases this⟩⟩
def sa(i:Nat)(t:DT):DS:=λE δ=>∃ds,δ[i]?=some (some (.o ds))/\t δ λd=>ds.length < NO/\E.nx (δ.set i (some (.o (ds++[d]))))
theorem sf{i:Nat}{o e:NN}{t:DT}{apos cpos pos:Pos}(ho:PE X o (dF i))(he:DE X H0 O0 e t)(hbase:Ou o "append" X.env (eval o X.env)=eval o X.env:=by rfl)
 (hfew:((N7 cpos (NP [e] X.env)).all (λx=>!x.1) && (OQ cpos (Oz [] X.env)).all (λx=>x.1.isSome) && decide ([e].length+([]:List Oq).length+(if ([]:List Oq).isEmpty then 0 else 1) < 30))=true:=by rfl)
 (hline:(apos.endLine==cpos.line)=true:=by rfl)(hst:NP [e] X.env=(false,eval e X.env)::NP [] X.env:=by rfl)(hplain:(N7 cpos (NP [] X.env)).any (·.1)=false:=by rfl)
 (hs:Oa (.Call (.Attribute o "append" apos) [e] [] cpos) none pos.line X.env=pure false:=by rfl):PS X (.Expr (.Call (.Attribute o "append" apos) [e] [] cpos) pos) (bh X.K H0 O0 (sa i t)):=
 (qm (kW KI PySem.F.slot_list_append PySem.F.type_list_append rg ho (cM he eG hst) hbase hfew hline hst hplain) hs).imp λD σ H uu7=>by
  obtain⟨O,δ,E,w,⟨ds,e,q⟩,k1,k2,k3,k4⟩:=uu7;obtain⟨l,vs,h,a,b,c,r⟩:=w.own e;refine⟨_,h,.inl ⟨rfl,_,aQ.of c⟩,O,δ,_,w,q,λd v H1 q1 s1 r1=>?_⟩;refine⟨l,vs,v,rfl,rfl,s1 _ _ c,by rw [r.length];exact q1.1,?_⟩;exact k1 _ _ _ _ q1.2 ((w.mono s1).putO (vs:=vs) e h ((r.mono s1).append (.cons r1 .nil))) ⟨λb' o' z n=>by rw [aB (λy=>n (by rw [y];exact a))];exact s1 _ _ z,λ_ _ n=>n⟩
end
structure bT (J:It) (P:Hp->Prop) (vs:List V):Prop where
 go:∀i H',P H'->i < vs.length->J.go i H'
 yl:∀i H' x H'',P H'->i < vs.length->J.yld i H' x H''->H''=H'/\vs[i]?=some x
 st:∀i H',P H'->vs.length<=i->J.stop i H'
def lq(H1:Hp)(a:NK)(H':Hp):Prop:=∀o,H1 a=some o->H' a=some o
theorem aQ.keep{K:Hx}{H H':Hp}{a:NK}{xs:List V}(s:lq H a H')(h:aQ K H a xs):aQ K H' a xs:=by
 rcases h with(h | ⟨o,h⟩) | h
 ·exact .inl (.inl (s _ h))
 ·exact .inl (.inr ⟨o,s _ h⟩)
 ·exact .inr h
theorem bg.keep{K:Hx}{H H':Hp}{a:NK}{xs:List V}(s:lq H a H')(h:bg K H a xs):bg K H' a xs:=by
 rcases h with(h | ⟨o,h⟩) | h
 ·exact .inl (.inl (s _ h))
 ·exact .inl (.inr ⟨o,s _ h⟩)
 ·exact .inr h
theorem bT.list{K:Hx}{H:Hp}{a:NK}{vs:List V}(h:aQ K H a vs):bT (jA K a) (lq H a) vs:=
 ⟨λi H' s hi=>⟨vs,vs[i],h.keep s,by simp [hi]⟩,λi H' x H'' s _ y=>⟨y.1,y.2 vs (h.keep s)⟩,λi H' s hi=>⟨vs,h.keep s,hi⟩⟩
theorem bT.tup{K:Hx}{H:Hp}{a:NK}{vs:List V}(h:bg K H a vs):bT (jB K a) (lq H a) vs:=
 ⟨λi H' s hi=>⟨vs,vs[i],h.keep s,by simp [hi]⟩,λi H' x H'' s _ y=>⟨y.1,y.2 vs (h.keep s)⟩,λi H' s hi=>⟨vs,h.keep s,hi⟩⟩
def dN(lo:Int)(n:Nat):List NI:=(IG n).map λ(k:Nat)=>.int (lo+k)
theorem bT.rng{lo:Int}{n:Nat}:bT (fV lo n) (λ_=>True) ((IG n).map λ(k:Nat)=>V.int (lo+k)):=by
 refine⟨λi H' s hi=>(by simpa using hi:i < n),λi H' x H'' s hi y=>⟨y.1,?_⟩,λi H' s hi=>(by simpa using hi:n<=i)⟩;obtain⟨_,rfl⟩:=y;have hn:i < n:=by simpa using hi
 simp [hn]
theorem ai.rng{K:Hx}{H:Hp}{O:Ex}{lo:Int}:∀(l:List Nat),ai K H O (l.map λ(k:Nat)=>V.int (lo+k)) (l.map λ(k:Nat)=>HG (lo+k))
 | []=>.nil
 | n::r=>.cons (.int _) (ai.rng r)
abbrev DG:=NI->Dl->(Dl->Prop)->Prop
def GD(K:Hx)(g:TG)(dg:DG):Prop:=∀(H0:Hp)(O0:Ex)(H:Hp)(O:Ex)(σ:St)(δ:Dl)(v:V)(x:NI)(R:St->Hp->Prop)(Qd:Dl->Prop),Wd K H0 O0 H O σ δ->Dt K H O v x->dg x δ Qd->(∀δ' σ',Qd δ'->Wd K H0 O0 H O σ' δ'->R σ' H)->g v σ H R
def nE(i:Nat):DG:=λx δ Q=>Q (δ.set i (some (.v x)))
theorem bw{K:Hx}{i:Nat}:GD K (g5 i) (nE i):=λH0 O0 H O σ δ v x R Qd w r q k=>k _ _ q (w.set r)
abbrev hZ:=List NI->Dl->(Dl->Prop)->Prop
def lr(K:Hx)(g:fC)(dg:hZ):Prop:=∀(H0:Hp)(O0:Ex)(H:Hp)(O:Ex)(σ:St)(δ:Dl)(vs:List V)(xs:List NI)(R:St->Hp->Prop)(Qd:Dl->Prop),Wd K H0 O0 H O σ δ->ai K H O vs xs->dg xs δ Qd->(∀δ' σ',Qd δ'->Wd K H0 O0 H O σ' δ'->R σ' H)->g vs σ H R
def sg:hZ:=λxs δ Q=>xs=[]/\Q δ
def sh(t:DG)(u:hZ):hZ:=λxs δ Q=>∃x r,xs=x::r/\t x δ λδ'=>u r δ' Q
theorem si{K:Hx}:lr K mC sg:=λH0 O0 H O σ δ vs xs R Qd w r uu8 k=>by obtain⟨e,q⟩:=uu8;subst e;cases r;exact⟨rfl,k _ _ q w⟩
theorem jN{K:Hx}{t:TG}{u:fC}{dt:DG}{du:hZ}(h:GD K t dt)(h2:lr K u du):lr K (mD t u) (sh dt du):=λH0 O0 H O σ δ vs xs R Qd w r uu9 k=>by
 obtain⟨x,rr,e,q⟩:=uu9;subst e;cases r with
 | cons r1 r2=>exact⟨_,_,rfl,h H0 O0 H O σ δ _ _ _ _ w r1 q λδ' σ' q' w'=>h2 H0 O0 H O σ' δ' _ _ R Qd w' r2 q' k⟩
def sj(n:Nat)(t:hZ):DG:=λx δ Q=>∃xs,x= .tuple xs/\xs.length=n/\t xs δ Q
theorem sk{K:Hx}{n:Nat}{t:fC}{dt:hZ}(h:lr K t dt):GD K (mF K n t) (sj n dt):=λH0 O0 H O σ δ v x R Qd w r uu10 k=>by
 obtain⟨xs,e,hl,q⟩:=uu10;subst e;obtain⟨a,vs,rfl,hs,rr⟩:=(Sh.dt r).tup;exact⟨a,vs,rfl,hs,by rw [rr.length];exact hl,h H0 O0 H O σ δ _ _ R Qd w rr q k⟩
section
variable {X:Cx} {H0:Hp} {O0:Ex}
def sq(t:DT)(g:DG):DS:=λE δ=>t δ λd=>g d δ E.nx
theorem sr{tg e:NN}{t:DT}{g:TG}{dg:DG}{pos:Pos}(he:DE X H0 O0 e t)(hg:PG X tg g)(gd:GD X.K g dg)(hs:OI [tg] e pos.line X.env=pure false:=by rfl)(hw:OJ [tg] e X.env=pure none:=by rfl)
 (h1:(OD [tg] X.env).map (·.2)=[assign tg X.env]:=by rfl):PS X (.Assign [tg] e pos) (bh X.K H0 O0 (sq t dg)):=
 (kH he hg hs hw h1).imp λD σ H uu11=>by obtain⟨O,δ,E,w,q,k1,k2,k3,k4⟩:=uu11;exact⟨O,δ,_,w,q,λd v H1 q1 s1 r1=>gd H0 O0 H1 O σ δ v d _ _ (w.mono s1) r1 q1 λδ' σ' q' w'=>k1 O δ' σ' H1 q' w' (.same s1)⟩
def su(i j:Nat)(t:DA):DS:=λE δ=>t δ λds=>∃x y,ds=[x,y]/\E.nx ((δ.set i (some (.v x))).set j (some (.v y)))
theorem sv{i j:Nat}{x y:Str}{a b:NN}{ta:DA}{px py pt pos:Pos}{kt k2 pt2}(hc:X.calm=true)(hN:X.N.Nodup)(hi:X.N[i]?=some x)(hj:X.N[j]?=some y)(hij:i≠j)
 (hx:X.env.scope.names.lookup x=some .local)(hy:X.env.scope.names.lookup y=some .local)(ha:PA X [a,b] (eJ X.K H0 O0 ta))
 (hw:OJ [.Tuple [.Name x px,.Name y py] kt pt] (.Tuple [a,b] k2 pt2) X.env=pure (some [x,y]))
 (hs:OI [.Tuple [.Name x px,.Name y py] kt pt] (.Tuple [a,b] k2 pt2) pos.line X.env=pure false:=by rfl):
 PS X (.Assign [.Tuple [.Name x px,.Name y py] kt pt] (.Tuple [a,b] k2 pt2) pos) (bh X.K H0 O0 (su i j ta)):=
 (qv hc hN hi hj hij hx hy ha hw hs).imp λD σ H uu12=>by obtain⟨O,δ,E,w,q,k1,k2,k3,k4⟩:=uu12;exact⟨O,δ,_,w,q,λds vs H1 uu13 s1 r1=>by
  obtain⟨d1,d2,e,q1⟩:=uu13;subst e;cases r1 with
  | cons r1 r2=>
   cases r2 with
   | cons r2 r3=>
    cases r3;exact⟨_,_,rfl,k1 _ _ _ _ q1 (((w.mono s1).set r1).set r2) (.same s1)⟩⟩
def gH(g:DG)(tb:DS)(E:iV):List NI->Dl->Prop
 | [],δ=>E.nx δ
 | x::xs,δ=>g x δ λδ2=>tb {E with nx:=gH g tb E xs,ct:=gH g tb E xs,bk:=E.nx} δ2
theorem nF{K:Hx}{J:It}{P:Hp->Prop}{vs:List V}{xs:List NI}{g:TG}{dg:DG}{tb:DS}{D:fU}{E:iV}{σ:St}{H:Hp}{O:Ex}{δ:Dl}(S:bT J P vs)(gd:GD K g dg)
 (hP:∀H' O',aJ H H' O O'->P H')(r:ai K H O vs xs)(w:Wd K H0 O0 H O σ δ)(q:gH dg tb E xs δ)
 (k1:∀O' δ' σ' H',E.nx δ'->Wd K H0 O0 H' O' σ' δ'->aJ H H' O O'->D.nx σ' H')(k2:∀d v H',E.rt d->ao H0 H'->Dt K H' O0 v d->D.rt v H'):FR J g (bh K H0 O0 tb) D σ H:=by
 refine⟨λi m σ' H'=>∃O' δ',m=vs.length - i/\i<=vs.length/\Wd K H0 O0 H' O' σ' δ'/\aJ H H' O O'/\gH dg tb E (xs.drop i) δ',⟨vs.length,O,δ,NH,Jl _,w,aJ.refl _ _,by simpa using q⟩,?_⟩;rintro i m σ1 H1 ⟨O1,δ1,rfl,hi,w1,S1,q1⟩;by_cases hlt:i < vs.length
 ·refine .inr ⟨S.go i H1 (hP _ _ S1) hlt,λσ' H'=>∃O' δ',Wd K H0 O0 H' O' σ' δ'/\aJ H H' O O'/\gH dg tb E (xs.drop (i+1)) δ',λσ' H' uu14=>by obtain⟨O',δ',w',S',q'⟩:=uu14;exact⟨vs.length - (i+1),NC,O',δ',rfl,hlt,w',S',q'⟩,λx H' y=>?_⟩;have yy:=S.yl i H1 x H' (hP _ _ S1) hlt y;clear y;obtain⟨e,y⟩:=yy;subst e;obtain⟨d,ed,rd⟩:=r.get y;have hd:xs.drop i=d::xs.drop (i+1):=by
   rw [Kq (h:=(HP.mp ed).1),(HP.mp ed).2]
  rw [hd] at q1;refine gd H0 O0 _ O1 σ1 δ1 x d _ _ w1 (rd.step S1) q1 λδ2 σ2 q2 w2=>?_;refine⟨O1,δ2,_,w2,q2,λO' δ' σ' H' z w' S'=>⟨O',δ',w',S1.trans S',z⟩,k2,λO' δ' σ' H' z w' S'=>k1 O' δ' σ' H' z w' (S1.trans S'),λO' δ' σ' H' z w' S'=>⟨O',δ',w',S1.trans S',z⟩⟩
 ·have e:i=vs.length:=NC
  subst e;refine .inl ⟨S.st _ H1 (hP _ _ S1) (HE _),?_⟩;rw [r.length,KR (HE _)] at q1;exact k1 O1 δ1 σ1 H1 q1 w1 S1
def iZ(g:DG)(tb:DS)(E:iV)(xs:List NI)(δ:Dl):Prop:=∃I:Nat->Dl->Prop,I 0 δ/\(∀i x δ,xs[i]?=some x->I i δ->g x δ λδ2=>tb {E with nx:=I (i+1),ct:=I (i+1),bk:=E.nx} δ2)/\∀δ,I xs.length δ->E.nx δ
theorem i4{K:Hx}{J:It}{P:Hp->Prop}{vs:List V}{xs:List NI}{g:TG}{dg:DG}{tb:DS}{D:fU}{E:iV}{σ:St}{H:Hp}{O:Ex}{δ:Dl}(S:bT J P vs)(gd:GD K g dg)
 (hP:∀H' O',aJ H H' O O'->P H')(r:ai K H O vs xs)(w:Wd K H0 O0 H O σ δ)(q:iZ dg tb E xs δ)
 (k1:∀O' δ' σ' H',E.nx δ'->Wd K H0 O0 H' O' σ' δ'->aJ H H' O O'->D.nx σ' H')(k2:∀d v H',E.rt d->ao H0 H'->Dt K H' O0 v d->D.rt v H'):FR J g (bh K H0 O0 tb) D σ H:=by
 obtain⟨Iv,q0,qs,qe⟩:=q;refine⟨λi m σ' H'=>∃O' δ',m=vs.length - i/\i<=vs.length/\Wd K H0 O0 H' O' σ' δ'/\aJ H H' O O'/\Iv i δ',⟨vs.length,O,δ,NH,Jl _,w,aJ.refl _ _,q0⟩,?_⟩;rintro i m σ1 H1 ⟨O1,δ1,rfl,hi,w1,S1,q1⟩;by_cases hlt:i < vs.length
 ·refine .inr ⟨S.go i H1 (hP _ _ S1) hlt,λσ' H'=>∃O' δ',Wd K H0 O0 H' O' σ' δ'/\aJ H H' O O'/\Iv (i+1) δ',λσ' H' uu15=>by obtain⟨O',δ',w',S',q'⟩:=uu15;exact⟨vs.length - (i+1),NC,O',δ',rfl,hlt,w',S',q'⟩,λx H' y=>?_⟩;have yy:=S.yl i H1 x H' (hP _ _ S1) hlt y;clear y;obtain⟨e,y⟩:=yy;subst e;obtain⟨d,ed,rd⟩:=r.get y;refine gd H0 O0 _ O1 σ1 δ1 x d _ _ w1 (rd.step S1) (qs i d δ1 ed q1) λδ2 σ2 q2 w2=>?_;refine⟨O1,δ2,_,w2,q2,λO' δ' σ' H' z w' S'=>⟨O',δ',w',S1.trans S',z⟩,k2,λO' δ' σ' H' z w' S'=>k1 O' δ' σ' H' z w' (S1.trans S'),λO' δ' σ' H' z w' S'=>⟨O',δ',w',S1.trans S',z⟩⟩
 ·have e:i=vs.length:=NC
  subst e;refine .inl ⟨S.st _ H1 (hP _ _ S1) (HE _),?_⟩;rw [r.length] at q1;exact k1 O1 δ1 σ1 H1 (qe δ1 q1) w1 S1
def sA(t:DT)(g:DG)(tb:DS):DS:=λE δ=>t δ λd=>∃xs,d= .list xs/\gH g tb E xs δ
def sC(t:DT)(g:DG)(tb:DS):DS:=λE δ=>t δ λd=>∃xs,d= .tuple xs/\gH g tb E xs δ
section
variable {tg iter:NN} {body:List N1} {t:DT} {ta:DA} {g:TG} {dg:DG} {tb:DS} {pos p ps:Pos}
theorem BV(hp:Ov (NT X.prog X.w) X.A X.env X.xe)(hc:X.calm=true)(hi:DE X H0 O0 iter t)(hg:PG X tg g)(gd:GD X.K g dg)(hb:bx X body (bh X.K H0 O0 tb))(hs:∀x,N0 iter X.env x=pure x:=by intro _;rfl):
 PS X (.For tg iter body [] pos) (bh X.K H0 O0 (sA t dg tb)):=
 (hG hp hc (kI hi) hg hb hs).imp λD σ H uu16=>by obtain⟨O,δ,E,w,q,k1,k2,k3,k4⟩:=uu16;exact⟨O,δ,_,w,q,λd v H1 uu17 s1 r1=>by
  obtain⟨xs,e,q1⟩:=uu17;subst e;cases r1 with
  | lst h n r=>
   refine⟨_,rfl,⟨_,.inl h⟩,nF (bT.list (.inl h)) gd (λH' O' S o e=>S.keep _ _ e n) r (w.mono s1) q1 (λO' δ' σ' H' z w' S=>k1 O' δ' σ' H' z w' (aJ.trans (.same s1) S)) k2⟩⟩
theorem sE(hp:Ov (NT X.prog X.w) X.A X.env X.xe)(hc:X.calm=true)(hi:DE X H0 O0 iter t)(hg:PG X tg g)(gd:GD X.K g dg)(hb:bx X body (bh X.K H0 O0 tb))(hs:∀x,N0 iter X.env x=pure x:=by intro _;rfl):
 PS X (.For tg iter body [] pos) (bh X.K H0 O0 (sC t dg tb)):=
 (hG hp hc (kJ hi) hg hb hs).imp λD σ H uu18=>by obtain⟨O,δ,E,w,q,k1,k2,k3,k4⟩:=uu18;exact⟨O,δ,_,w,q,λd v H1 uu19 s1 r1=>by
  obtain⟨xs,e,q1⟩:=uu19;subst e;cases r1 with
  | tup h n r=>
   refine⟨_,rfl,⟨_,.inl h⟩,nF (bT.tup (.inl h)) gd (λH' O' S o e=>S.keep _ _ e n) r (w.mono s1) q1 (λO' δ' σ' H' z w' S=>k1 O' δ' σ' H' z w' (aJ.trans (.same s1) S)) k2⟩
  | tupK h r=>
   refine⟨_,rfl,⟨_,h.of0⟩,nF (P:=λ_=>True) ⟨λi H' _ hi=>⟨_,_,h.of0,by simp [hi];rfl⟩,λi H' x H'' _ _ y=>⟨y.1,y.2 _ h.of0⟩,λi H' _ hi=>⟨_,h.of0,hi⟩⟩ gd (λ_ _ _=>trivial) r (w.mono s1) q1 (λO' δ' σ' H' z w' S=>k1 O' δ' σ' H' z w' (aJ.trans (.same s1) S)) k2⟩⟩
end
def sF(t:DT)(g:DG)(tb:DS):DS:=λE δ=>t δ λd=>∃xs,d= .list xs/\iZ g tb E xs δ
def sG(t:DT)(g:DG)(tb:DS):DS:=λE δ=>t δ λd=>∃xs,d= .tuple xs/\iZ g tb E xs δ
def sH(t:DA)(g:DG)(tb:DS):DS:=λE δ=>t δ λds=>∃j:Int,ds=[.int j]/\-(2 ^ 62)<=j/\j < 2 ^ 62/\iZ g tb E (dN 0 j.toNat) δ
def sI(t:DA)(g:DG)(tb:DS):DS:=λE δ=>t δ λds=>∃i j:Int,ds=[.int i,.int j]/\(-(2 ^ 62)<=i/\i < 2 ^ 62/\-(2 ^ 62)<=j/\j < 2 ^ 62)/\iZ g tb E (dN i (j - i).toNat) δ
section
variable {tg iter:NN} {body:List N1} {t:DT} {ta:DA} {g:TG} {dg:DG} {tb:DS} {pos p ps:Pos}
theorem lu(hp:Ov (NT X.prog X.w) X.A X.env X.xe)(hc:X.calm=true)(hi:DE X H0 O0 iter t)(hg:PG X tg g)(gd:GD X.K g dg)(hb:bx X body (bh X.K H0 O0 tb))(hs:∀x,N0 iter X.env x=pure x:=by intro _;rfl):
 PS X (.For tg iter body [] pos) (bh X.K H0 O0 (sF t dg tb)):=
 (hG hp hc (kI hi) hg hb hs).imp λD σ H uu20=>by obtain⟨O,δ,E,w,q,k1,k2,k3,k4⟩:=uu20;exact⟨O,δ,_,w,q,λd v H1 uu21 s1 r1=>by
  obtain⟨xs,e,q1⟩:=uu21;subst e;cases r1 with
  | lst h n r=>
   refine⟨_,rfl,⟨_,.inl h⟩,i4 (bT.list (.inl h)) gd (λH' O' S o e=>S.keep _ _ e n) r (w.mono s1) q1 (λO' δ' σ' H' z w' S=>k1 O' δ' σ' H' z w' (aJ.trans (.same s1) S)) k2⟩⟩
theorem BW(hp:Ov (NT X.prog X.w) X.A X.env X.xe)(hc:X.calm=true)(hi:DE X H0 O0 iter t)(hg:PG X tg g)(gd:GD X.K g dg)(hb:bx X body (bh X.K H0 O0 tb))(hs:∀x,N0 iter X.env x=pure x:=by intro _;rfl):
 PS X (.For tg iter body [] pos) (bh X.K H0 O0 (sG t dg tb)):=
 (hG hp hc (kJ hi) hg hb hs).imp λD σ H uu22=>by obtain⟨O,δ,E,w,q,k1,k2,k3,k4⟩:=uu22;exact⟨O,δ,_,w,q,λd v H1 uu23 s1 r1=>by
  obtain⟨xs,e,q1⟩:=uu23;subst e;cases r1 with
  | tup h n r=>
   refine⟨_,rfl,⟨_,.inl h⟩,i4 (bT.tup (.inl h)) gd (λH' O' S o e=>S.keep _ _ e n) r (w.mono s1) q1 (λO' δ' σ' H' z w' S=>k1 O' δ' σ' H' z w' (aJ.trans (.same s1) S)) k2⟩
  | tupK h r=>
   refine⟨_,rfl,⟨_,h.of0⟩,i4 (P:=λ_=>True) ⟨λi H' _ hi=>⟨_,_,h.of0,by simp [hi];rfl⟩,λi H' x H'' _ _ y=>⟨y.1,y.2 _ h.of0⟩,λi H' _ hi=>⟨_,h.of0,hi⟩⟩ gd (λ_ _ _=>trivial) r (w.mono s1) q1 (λO' δ' σ' H' z w' S=>k1 O' δ' σ' H' z w' (aJ.trans (.same s1) S)) k2⟩⟩
theorem nG(hp:Ov (NT X.prog X.w) X.A X.env X.xe)(hc:X.calm=true){a:NN}(hgl:Gl X "range")(hm:X.mg "range"=none)(ha:PA X [a] (eJ X.K H0 O0 ta))(hg:PG X tg g)(gd:GD X.K g dg)(hb:bx X body (bh X.K H0 O0 tb))
 (hst:NP [a] X.env=[(false,eval a X.env)]:=by rfl)(hs:∀x,N0 (.Call (.Name "range" p) [a] [] ps) X.env x=pure x:=by intro _;rfl):
 PS X (.For tg (.Call (.Name "range" p) [a] [] ps) body [] pos) (bh X.K H0 O0 (sH ta dg tb)):=
 (hG hp hc (qy hgl hm ha hst) hg hb hs).imp λD σ H uu24=>by obtain⟨O,δ,E,w,q,k1,k2,k3,k4⟩:=uu24;exact⟨O,δ,_,w,q,λds vs H1 uu25 s1 r1=>by
  obtain⟨j,e,b1,b2,q1⟩:=uu25;subst e;cases r1 with
  | cons r1 r2=>
   cases r2;cases r1;exact⟨j,rfl,b1,b2,i4 bT.rng gd (λ_ _ _=>trivial) (ai.rng _) (w.mono s1) q1 (λO' δ' σ' H' z w' S=>k1 O' δ' σ' H' z w' (aJ.trans (.same s1) S)) k2⟩⟩
theorem BX(hp:Ov (NT X.prog X.w) X.A X.env X.xe)(hc:X.calm=true){a b:NN}(hgl:Gl X "range")(hm:X.mg "range"=none)(ha:PA X [a,b] (eJ X.K H0 O0 ta))(hg:PG X tg g)(gd:GD X.K g dg)(hb:bx X body (bh X.K H0 O0 tb))
 (hst:NP [a,b] X.env=[(false,eval a X.env),(false,eval b X.env)]:=by rfl)(hst2:NP [b] X.env=[(false,eval b X.env)]:=by rfl)(hs:∀x,N0 (.Call (.Name "range" p) [a,b] [] ps) X.env x=pure x:=by intro _;rfl):
 PS X (.For tg (.Call (.Name "range" p) [a,b] [] ps) body [] pos) (bh X.K H0 O0 (sI ta dg tb)):=
 (hG hp hc (qz hgl hm ha hst hst2) hg hb hs).imp λD σ H uu26=>by obtain⟨O,δ,E,w,q,k1,k2,k3,k4⟩:=uu26;exact⟨O,δ,_,w,q,λds vs H1 uu27 s1 r1=>by
  obtain⟨i,j,e,b1,q1⟩:=uu27;subst e;cases r1 with
  | cons r1 r2=>
   cases r2 with
   | cons r2 r3=>
    cases r3;cases r1;cases r2;exact⟨i,j,rfl,b1,i4 bT.rng gd (λ_ _ _=>trivial) (ai.rng _) (w.mono s1) q1 (λO' δ' σ' H' z w' S=>k1 O' δ' σ' H' z w' (aJ.trans (.same s1) S)) k2⟩⟩
end
def dj(k:Nat)(fr:List Nat)(δ:Dl):Dl:=Ia k none++fr.map λj=>(δ[j]?).join
def ly(g:DG)(tc:DB)(te:DT)(δ0:Dl):List NI->List NI->(List NI->Prop)->Prop
 | [],acc,Q=>Q acc
 | x::xs,acc,Q=>g x δ0 λδ2=>tc δ2 λok=>if ok=true then te δ2 λy=>ly g tc te δ0 xs (acc++[y]) Q else ly g tc te δ0 xs acc Q
theorem Wd.comp{K:Hx}{H:Hp}{O:Ex}{σ:St}{δ:Dl}(w:Wd K H0 O0 H O σ δ){k:Nat}{fr:List Nat}(hf:fr.Nodup):Wd K H0 O0 H O (bP k fr σ) (dj k fr δ):=by
 have at1:∀{α:Type}(l:List (Option α))(i:Nat),(Ia k none++fr.map λj=>(l[j]?).join)[i]?=if i < k then some none else(fr[i - k]?).map λj=>(l[j]?).join:=by
  intro α l i;by_cases h:i < k
  ·rw [NF h,JE (by simpa using h),J5,NF h]
  ·rw [ND h,JP (by simpa using LG h),Ie];simp
 have un:∀{α:Type}(l:List (Option α))(i:Nat)(x:α),(Ia k none++fr.map λj=>(l[j]?).join)[i]?=some (some x)->∃j,fr[i - k]?=some j/\k<=i/\l[j]?=some (some x):=by
  intro α l i x h;rw [at1] at h;split at h
  ·cases h
  ·cases e:fr[i - k]? with
   | none=>rw [e] at h;cases h
   | some j=>
    rw [e] at h;refine⟨j,rfl,NC,?_⟩;have h':(l[j]?).join=some x:=II h;cases q:l[j]? with
    | none=>rw [q] at h';cases h'
    | some o=>rw [q] at h';rw [show o=some x from h']
 refine⟨w.same,w.sub,w.new,w.trk,by simp [bP,dj],λi y e=>?_,λi j y z l e1 y1 e2 z2 e3 e4=>?_⟩
 ·match y,e with
  | none,_=>exact Jh
  | some x,e=>
   obtain⟨j,hj,hk,ej⟩:=un δ i x e;have q:=w.sl j _ ej;have e2:((bP k fr σ)[i]?).join=(σ[j]?).join:=by
    unfold bP;rw [at1,ND NC,hj];rfl
   rw [e2];exact q
 ·obtain⟨a,ha,ka,ea⟩:=un δ i _ e1;obtain⟨b,hb,kb,eb⟩:=un δ j _ e2;obtain⟨a',ha',_,ea'⟩:=un σ i _ e3;obtain⟨b',hb',_,eb'⟩:=un σ j _ e4;rw [ha] at ha';cases ha';rw [hb] at hb';cases hb';have:=w.dis a b y z l ea y1 eb z2 ea' eb';subst this;have e5:=(Mx (l:=fr) (i:=i - k) (j:=j - k) (HP.mp ha).1 hf).mp (by rw [ha,hb]);omega
theorem Hu{K:Hx}{J:It}{P:Hp->Prop}{vs:List V}{xs:List NI}{g:TG}{dg:DG}{tc:TT}{dc:DB}{te:TE}{de:DT}{k:Nat}{fr:List Nat}{σ:St}{H:Hp}{O:Ex}{δ:Dl}{Qd:List NI->Prop}{Q:VK}(S:bT J P vs)(gd:GD K g dg)(hf:fr.Nodup)
 (hk:∀v:V,∀σ':St,∀H':Hp,∀R:St->Hp->Prop,g v (bP k fr σ) H' R->g v (bP k fr σ) H' λσ2 H2=>iP (bP k fr σ) σ2/\R σ2 H2)
 (hc:∀σ H Q,bL K H0 O0 dc σ H Q->tc σ H Q)(he:∀σ H Q,up K H0 O0 de σ H Q->te σ H Q)
 (hP:∀D H',H D=none->iQ D H H'->P H')(r:ai K H O vs xs)(w:Wd K H0 O0 H O σ δ)(hz:vs.length<=NO)(q:ly dg dc de (dj k fr δ) xs [] Qd)
 (k1:∀ds us p H',Qd ds->ao H H'->H' p=none->ai K H' O us ds->Q (.ref p) (ak H' p (.lst us))):iR J g tc te k fr σ H Q:=by
 intro D hD;have w0:Wd K H0 O0 H O (bP k fr σ) (dj k fr δ):=w.comp hf;have nD:¬O D:=λz=>w.trk D z hD;have D0:H0 D=none:=by
  cases e:H0 D with
  | none=>rfl
  | some o=>rw [w.same _ _ e] at hD;cases hD
 have ex:∀H',iQ D H H'->H' D≠none->Wd K H0 O0 H' (λa=>O a\/a=D) (bP k fr σ) (dj k fr δ):=λH' s' hd=>by
  have S':aJ H H' O (λa=>O a\/a=D):=⟨λb o e _=>s' b o e (cC e hD),λb hb hn z=>z.elim hn λq=>hb (by rw [q];exact hD)⟩;refine⟨λb o e=>s' b o (w.same b o e) (λz=>by rw [z,D0] at e;cases e),λl z=>.inl (w.sub l z),λl z=>z.elim (w.new l) λq=>.inr (by rw [q];exact D0),λl z=>?_,w0.len,λj y e=>?_,w0.dis⟩
  ·by_cases ql:l=D
   ·rw [ql];exact hd
   ·have hl:=w.trk l (z.resolve_right ql);cases e:H l with
    | none=>exact absurd e hl
    | some o=>rw [s' l o e ql];exact λz=>nomatch z
  ·exact(w0.sl j y e).go S' (λl o _ _ a1 _ a3=>⟨.inl a1,s' _ _ a3 (λz=>nD (by rw [<-z];exact a1))⟩) (λa o u a1 _ a3=>⟨.inl a1,s' _ _ a3 (λz=>nD (by rw [<-z];exact a1))⟩) λa o a1 a3=>s' _ _ a3 (λz=>nD (by rw [<-z];exact w.sub _ a1))
 refine⟨λi m H'=>∃acc ys,m=vs.length - i/\i<=vs.length/\iQ D H H'/\H' D=some (.lst ys)/\ys.length<=i/\ai K H' (λa=>O a\/a=D) ys acc/\ly dg dc de (dj k fr δ) (xs.drop i) acc Qd,⟨vs.length,[],[],NH,Jl _,λb o e n=>by rw [aB n];exact e,bj,Jl _,.nil,by simpa using q⟩,?_⟩;rintro i m H1 ⟨acc,ys,rfl,hi,s1,e1,hy,ra,q1⟩;by_cases hlt:i < vs.length
 ·refine .inr ⟨S.go i H1 (hP D H1 hD s1) hlt,λx H' y=>?_⟩;have yy:=S.yl i H1 x H' (hP D H1 hD s1) hlt y;clear y;obtain⟨e,y⟩:=yy;subst e;obtain⟨d,ed,rd⟩:=r.get y;have hd:xs.drop i=d::xs.drop (i+1):=by
   rw [Kq (h:=(HP.mp ed).1),(HP.mp ed).2]
  rw [hd] at q1;have w1:=ex _ s1 (by rw [e1];exact λz=>nomatch z);have S':aJ H H' O (λa=>O a\/a=D):=⟨λb o e _=>s1 b o e (cC e hD),λb hb hn z=>z.elim hn λq=>hb (by rw [q];exact hD)⟩;refine hk x σ _ _ (gd H0 O0 _ _ _ _ x d _ _ w1 (rd.step S') q1 λδ2 σ2 q2 w2=>?_);refine hc σ2 _ _ ⟨_,δ2,_,w2,q2,λok H3 q3 s3=>?_⟩;cases ok with
  | true=>
   rw [NF rfl];refine he σ2 H3 _ ⟨_,δ2,_,w2.mono s3,q3,λd' v H4 q4 s4 r4=>?_⟩;have e4:=s4 _ _ (s3 _ _ e1);have sD:aJ H4 (ak H4 D (.lst (ys++[v]))) (λa=>O a\/a=D) (λa=>O a\/a=D):=⟨λb o e n=>by rw [aB (λz=>n (.inr z))];exact e,λ_ _ n=>n⟩;refine⟨ys,e4,NC,vs.length - (i+1),NC,acc++[d'],ys++[v],rfl,hlt,λb o e n=>by rw [aB n];exact s4 _ _ (s3 _ _ (s1 b o e n)),bj,by simpa using hy,?_,q4⟩;exact((ra.mono (s3.trans s4)).append (.cons r4 .nil)).step sD
  | false=>
   rw [ND NB];exact⟨vs.length - (i+1),NC,acc,ys,rfl,hlt,λb o e n=>s3 _ _ (s1 b o e n),s3 _ _ e1,NC,ra.mono s3,q3⟩
 ·have e:i=vs.length:=NC
  subst e;refine .inl ⟨S.st _ H1 (hP D H1 hD s1) (HE _),?_⟩;rw [r.length,KR (HE _)] at q1;have hrest:∃H2:Hp,H2 D=none/\ao H H2/\H1=ak H2 D (.lst ys):=by
   refine⟨λb=>if b=D then none else H1 b,NH,λb o e=>?_,?_⟩
   ·have n:=cC e hD;show(if b=D then none else H1 b)=some o;rw [ND n];exact s1 b o e n
   ·funext b;by_cases z:b=D
    ·rw [z,bj];exact e1
    ·rw [aB z];show H1 b=if b=D then none else H1 b;rw [ND z]
  obtain⟨H2,h2,s2,rfl⟩:=hrest;refine k1 acc ys D H2 q1 s2 h2 (ra.step ⟨λb o e n=>?_,λb _ n z=>n (.inl z)⟩);rw [aB (λz=>n (.inr z))] at e;exact e
def fI(g:DG)(tc:DB)(te:DT)(δ0:Dl)(xs:List NI)(Q:List NI->Prop):Prop:=∃I:Nat->List NI->Prop,I 0 []/\(∀i x acc,xs[i]?=some x->I i acc->g x δ0 λδ2=>tc δ2 λok=>if ok=true then te δ2 λy=>I (i+1) (acc++[y]) else I (i+1) acc)/\∀acc,I xs.length acc->Q acc
theorem ia{K:Hx}{J:It}{P:Hp->Prop}{vs:List V}{xs:List NI}{g:TG}{dg:DG}{tc:TT}{dc:DB}{te:TE}{de:DT}{k:Nat}{fr:List Nat}{σ:St}{H:Hp}{O:Ex}{δ:Dl}{Qd:List NI->Prop}{Q:VK}(S:bT J P vs)(gd:GD K g dg)(hf:fr.Nodup)
 (hk:∀v:V,∀σ':St,∀H':Hp,∀R:St->Hp->Prop,g v (bP k fr σ) H' R->g v (bP k fr σ) H' λσ2 H2=>iP (bP k fr σ) σ2/\R σ2 H2)
 (hc:∀σ H Q,bL K H0 O0 dc σ H Q->tc σ H Q)(he:∀σ H Q,up K H0 O0 de σ H Q->te σ H Q)
 (hP:∀D H',H D=none->iQ D H H'->P H')(r:ai K H O vs xs)(w:Wd K H0 O0 H O σ δ)(hz:vs.length<=NO)(q:fI dg dc de (dj k fr δ) xs Qd)
 (k1:∀ds us p H',Qd ds->ao H H'->H' p=none->ai K H' O us ds->Q (.ref p) (ak H' p (.lst us))):iR J g tc te k fr σ H Q:=by
 obtain⟨Iv,q0,qs,qe⟩:=q;intro D hD;have w0:Wd K H0 O0 H O (bP k fr σ) (dj k fr δ):=w.comp hf;have nD:¬O D:=λz=>w.trk D z hD;have D0:H0 D=none:=by
  cases e:H0 D with
  | none=>rfl
  | some o=>rw [w.same _ _ e] at hD;cases hD
 have ex:∀H',iQ D H H'->H' D≠none->Wd K H0 O0 H' (λa=>O a\/a=D) (bP k fr σ) (dj k fr δ):=λH' s' hd=>by
  have S':aJ H H' O (λa=>O a\/a=D):=⟨λb o e _=>s' b o e (cC e hD),λb hb hn z=>z.elim hn λq=>hb (by rw [q];exact hD)⟩;refine⟨λb o e=>s' b o (w.same b o e) (λz=>by rw [z,D0] at e;cases e),λl z=>.inl (w.sub l z),λl z=>z.elim (w.new l) λq=>.inr (by rw [q];exact D0),λl z=>?_,w0.len,λj y e=>?_,w0.dis⟩
  ·by_cases ql:l=D
   ·rw [ql];exact hd
   ·have hl:=w.trk l (z.resolve_right ql);cases e:H l with
    | none=>exact absurd e hl
    | some o=>rw [s' l o e ql];exact λz=>nomatch z
  ·exact(w0.sl j y e).go S' (λl o _ _ a1 _ a3=>⟨.inl a1,s' _ _ a3 (λz=>nD (by rw [<-z];exact a1))⟩) (λa o u a1 _ a3=>⟨.inl a1,s' _ _ a3 (λz=>nD (by rw [<-z];exact a1))⟩) λa o a1 a3=>s' _ _ a3 (λz=>nD (by rw [<-z];exact w.sub _ a1))
 refine⟨λi m H'=>∃acc ys,m=vs.length - i/\i<=vs.length/\iQ D H H'/\H' D=some (.lst ys)/\ys.length<=i/\ai K H' (λa=>O a\/a=D) ys acc/\Iv i acc,⟨vs.length,[],[],NH,Jl _,λb o e n=>by rw [aB n];exact e,bj,Jl _,.nil,q0⟩,?_⟩;rintro i m H1 ⟨acc,ys,rfl,hi,s1,e1,hy,ra,q1⟩;by_cases hlt:i < vs.length
 ·refine .inr ⟨S.go i H1 (hP D H1 hD s1) hlt,λx H' y=>?_⟩;have yy:=S.yl i H1 x H' (hP D H1 hD s1) hlt y;clear y;obtain⟨e,y⟩:=yy;subst e;obtain⟨d,ed,rd⟩:=r.get y;have w1:=ex _ s1 (by rw [e1];exact λz=>nomatch z);have S':aJ H H' O (λa=>O a\/a=D):=⟨λb o e _=>s1 b o e (cC e hD),λb hb hn z=>z.elim hn λq=>hb (by rw [q];exact hD)⟩;refine hk x σ _ _ (gd H0 O0 _ _ _ _ x d _ _ w1 (rd.step S') (qs i d acc ed q1) λδ2 σ2 q2 w2=>?_);refine hc σ2 _ _ ⟨_,δ2,_,w2,q2,λok H3 q3 s3=>?_⟩;cases ok with
  | true=>
   rw [NF rfl];refine he σ2 H3 _ ⟨_,δ2,_,w2.mono s3,q3,λd' v H4 q4 s4 r4=>?_⟩;have e4:=s4 _ _ (s3 _ _ e1);have sD:aJ H4 (ak H4 D (.lst (ys++[v]))) (λa=>O a\/a=D) (λa=>O a\/a=D):=⟨λb o e n=>by rw [aB (λz=>n (.inr z))];exact e,λ_ _ n=>n⟩;refine⟨ys,e4,NC,vs.length - (i+1),NC,acc++[d'],ys++[v],rfl,hlt,λb o e n=>by rw [aB n];exact s4 _ _ (s3 _ _ (s1 b o e n)),bj,by simpa using hy,?_,q4⟩;exact((ra.mono (s3.trans s4)).append (.cons r4 .nil)).step sD
  | false=>
   rw [ND NB];exact⟨vs.length - (i+1),NC,acc,ys,rfl,hlt,λb o e n=>s3 _ _ (s1 b o e n),s3 _ _ e1,NC,ra.mono s3,q3⟩
 ·have e:i=vs.length:=NC
  subst e;refine .inl ⟨S.st _ H1 (hP D H1 hD s1) (HE _),?_⟩;rw [r.length] at q1;have hrest:∃H2:Hp,H2 D=none/\ao H H2/\H1=ak H2 D (.lst ys):=by
   refine⟨λb=>if b=D then none else H1 b,NH,λb o e=>?_,?_⟩
   ·have n:=cC e hD;show(if b=D then none else H1 b)=some o;rw [ND n];exact s1 b o e n
   ·funext b;by_cases z:b=D
    ·rw [z,bj];exact e1
    ·rw [aB z];show H1 b=if b=D then none else H1 b;rw [ND z]
  obtain⟨H2,h2,s2,rfl⟩:=hrest;refine k1 acc ys D H2 (qe acc q1) s2 h2 (ra.step ⟨λb o e n=>?_,λb _ n z=>n (.inl z)⟩);rw [aB (λz=>n (.inr z))] at e;exact e
def i5:DB:=λ_ Q=>Q true
def gh(g:TG)(k:Nat):Prop:=∀(fr:List Nat)(σ:St)(v:V)(H':Hp)(R:St->Hp->Prop),g v (bP k fr σ) H' R->g v (bP k fr σ) H' λσ2 H2=>iP (bP k fr σ) σ2/\R σ2 H2
theorem cw:gh (g5 0) 1:=λfr σ v H' R h=>⟨Bz,h⟩
def lz(t:DT)(g:DG)(tc:DB)(te:DT)(k:Nat)(fr:List Nat):DA:=λδ Q=>t δ λd=>∃xs,d= .list xs/\xs.length<=NO/\fI g tc te (dj k fr δ) xs Q
def lA(t:DT)(g:DG)(tc:DB)(te:DT)(k:Nat)(fr:List Nat):DA:=λδ Q=>t δ λd=>∃xs,d= .tuple xs/\xs.length<=NO/\fI g tc te (dj k fr δ) xs Q
def sJ(ta:DA)(g:DG)(tc:DB)(te:DT)(k:Nat)(fr:List Nat):DA:=λδ Q=>ta δ λds=>∃j:Int,ds=[.int j]/\-(2 ^ 62)<=j/\j < NO/\fI g tc te (dj k fr δ) (dN 0 j.toNat) Q
section
variable {tg iter elt:NN} {ifs:List NN} {scope:Of} {N':List Str} {k:Nat} {fr:List Nat} {g:TG} {dg:DG} {t:DT} {ta:DA} {tc:DB} {te:DT} {pos p ps:Pos}
theorem ib(hc:X.calm=true)(S:bu X.env.scope X.N N' k fr scope)(hi:DF X H0 O0 iter t)(gd:GD X.K g dg)(hk:gh g k)(hfr:fr.Nodup)
 (hg:∀fp C s H,PG (bo X scope N' fp C s H) tg g)(hf:∀fp C s H,cY (bo X scope N' fp C s H) ifs (bL X.K H0 O0 tc))(he:∀fp C s H,PE (bo X scope N' fp C s H) elt (up X.K H0 O0 te))
 (hs:∀x,N0 iter X.env x=pure x:=by intro _;rfl):FE X H0 O0 (.ListComp elt [⟨tg,iter,ifs,0⟩] scope pos) (lz t dg tc te k fr):=
 (jJ hc S (kI hi) hg hf he hs).imp λσ H Q uu28=>by obtain⟨O,δ,Qd,w,q,kk⟩:=uu28;exact⟨O,δ,_,w,q,λd v H1 uu29 s1 r1=>by
  obtain⟨xs,e,hz,q1⟩:=uu29;subst e;obtain⟨a,vs,rfl,hq,rr⟩:=r1.lst;refine⟨a,rfl,⟨_,hq⟩,λD hD=>ia (bT.list hq) gd hfr (λv _ H' R h=>hk fr σ v H' R h) (λ_ _ _ z=>z) (λ_ _ _ z=>z) (λD H' hD s' o e=>s' _ _ e (cC e hD)) rr (w.mono s1) (by rw [rr.length];exact hz) q1 (λds us p H' z s' hp r'=>kk ds us p H' z (s1.trans s') hp r') D hD⟩⟩
theorem i6(hc:X.calm=true)(S:bu X.env.scope X.N N' k fr scope)(hi:DF X H0 O0 iter t)(gd:GD X.K g dg)(hk:gh g k)(hfr:fr.Nodup)
 (hg:∀fp C s H,PG (bo X scope N' fp C s H) tg g)(hf:∀fp C s H,cY (bo X scope N' fp C s H) ifs (bL X.K H0 O0 tc))(he:∀fp C s H,PE (bo X scope N' fp C s H) elt (up X.K H0 O0 te))
 (hs:∀x,N0 iter X.env x=pure x:=by intro _;rfl):FE X H0 O0 (.ListComp elt [⟨tg,iter,ifs,0⟩] scope pos) (lA t dg tc te k fr):=
 (jJ hc S (kJ hi) hg hf he hs).imp λσ H Q uu30=>by obtain⟨O,δ,Qd,w,q,kk⟩:=uu30;exact⟨O,δ,_,w,q,λd v H1 uu31 s1 r1=>by
  obtain⟨xs,e,hz,q1⟩:=uu31;subst e;obtain⟨a,vs,rfl,hq,rr⟩:=r1.tup;refine⟨a,rfl,⟨_,hq⟩,λD hD=>ia (bT.tup hq) gd hfr (λv _ H' R h=>hk fr σ v H' R h) (λ_ _ _ z=>z) (λ_ _ _ z=>z) (λD H' hD s' o e=>s' _ _ e (cC e hD)) rr (w.mono s1) (by rw [rr.length];exact hz) q1 (λds us p H' z s' hp r'=>kk ds us p H' z (s1.trans s') hp r') D hD⟩⟩
theorem lB(hc:X.calm=true){a:NN}(S:bu X.env.scope X.N N' k fr scope)(hgl:Gl X "range")(hm:X.mg "range"=none)(ha:PA X [a] (d8 X.K H0 O0 ta))(gd:GD X.K g dg)(hk:gh g k)(hfr:fr.Nodup)
 (hg:∀fp C s H,PG (bo X scope N' fp C s H) tg g)(hf:∀fp C s H,cY (bo X scope N' fp C s H) ifs (bL X.K H0 O0 tc))(he:∀fp C s H,PE (bo X scope N' fp C s H) elt (up X.K H0 O0 te))
 (hst:NP [a] X.env=[(false,eval a X.env)]:=by rfl)(hs:∀x,N0 (.Call (.Name "range" p) [a] [] ps) X.env x=pure x:=by intro _;rfl):
 FE X H0 O0 (.ListComp elt [⟨tg,(.Call (.Name "range" p) [a] [] ps),ifs,0⟩] scope pos) (sJ ta dg tc te k fr):=
 (jJ hc S (qy hgl hm ha hst) hg hf he hs).imp λσ H Q uu32=>by obtain⟨O,δ,Qd,w,q,kk⟩:=uu32;exact⟨O,δ,_,w,q,λds vs H1 uu33 s1 r1=>by
  obtain⟨j,e,b1,b2,q1⟩:=uu33;subst e;cases r1 with
  | cons r1 r2=>
   cases r2;cases r1.int;have hb:(NO:Int) < 2 ^ 62:=NB
   exact⟨j,rfl,b1,NC,λD hD=>ia (P:=λ_=>True) bT.rng gd hfr (λv _ H' R h=>hk fr σ v H' R h) (λ_ _ _ z=>z) (λ_ _ _ z=>z) (λ_ _ _ _=>trivial) (ai.rng _) (w.mono s1) (by rw [HB,KL];omega) q1 (λds us p H' z s' hp r'=>kk ds us p H' z (s1.trans s') hp r') D hD⟩⟩
end
end
section
variable {K:Hx}
def dI(g:Int->Int->NI):NI->NI->(NI->Prop)->Prop:=λx y Q=>∃i j,x= .int i/\y= .int j/\Q (g i j)
def sL(C:Int->Int->Prop)(g:Int->Int->NI):NI->NI->(NI->Prop)->Prop:=λx y Q=>∃i j,x= .int i/\y= .int j/\C i j/\Q (g i j)
theorem bC{g:Int->Int->Int}:bE K (fh λi j=>.int (g i j)) (dI λi j=>.int (g i j)):=λH O x y dx dy Qd R _ hx hy uu34 k=>by
 obtain⟨i,j,e1,e2,q⟩:=uu34;subst e1 e2;cases hx.int;cases hy.int;exact⟨i,j,rfl,rfl,k _ _ H q (ao.refl _) (.int _)⟩
theorem dm{g:Int->Int->Bool}:bE K (fh λi j=>.bl (g i j)) (dI λi j=>.bool (g i j)):=λH O x y dx dy Qd R _ hx hy uu35 k=>by
 obtain⟨i,j,e1,e2,q⟩:=uu35;subst e1 e2;cases hx.int;cases hy.int;exact⟨i,j,rfl,rfl,k _ _ H q (ao.refl _) (.bl _)⟩
theorem cN{C:Int->Int->Prop}{g:Int->Int->Int}:bE K (rI C λi j=>.int (g i j)) (sL C λi j=>.int (g i j)):=λH O x y dx dy Qd R _ hx hy uu36 k=>by
 obtain⟨i,j,e1,e2,c,q⟩:=uu36;subst e1 e2;cases hx.int;cases hy.int;exact⟨i,j,rfl,rfl,c,k _ _ H q (ao.refl _) (.int _)⟩
def sM(K:Hx):R2:=λx y H Q=>∃O dx dy,Sh K H O x dx/\Sh K H O y dy/\bJ dx/\bJ dy/\Q (.bl (HA dx dy)) H
def sN(K:Hx):R2:=λx y H Q=>∃O dx dy,Sh K H O x dx/\Sh K H O y dy/\bJ dx/\bJ dy/\Q (.bl (!HA dx dy)) H
theorem bM{X:Cx}(hu:X.A.units+64 < N4):bf X (NY .Eq) (sM X.K):=by
 intro O6 s σ H x y v u Q I rx ry h;obtain⟨O,dx,dy,hx,hy,sx,sy,q⟩:=h;obtain⟨as,ra⟩:=fm I hx.all (IL sx) rx;obtain⟨bs,rb⟩:=fm I hy.all (IL sy) ry;exact SeqAt.compareEq_shaped ra rb sx sy hu (d4 I q rfl)
theorem jO{X:Cx}(hu:X.A.units+64 < N4):bf X (NY .NotEq) (sN X.K):=by
 intro O6 s σ H x y v u Q I rx ry h;obtain⟨O,dx,dy,hx,hy,sx,sy,q⟩:=h;obtain⟨as,ra⟩:=fm I hx.all (IL sx) rx;obtain⟨bs,rb⟩:=fm I hy.all (IL sy) ry;exact SeqAt.compareNe_shaped ra rb sx sy hu (d4 I q rfl)
def sO:NI->NI->(NI->Prop)->Prop:=λx y Q=>bJ x/\bJ y/\Q (.bool (HA x y))
def sP:NI->NI->(NI->Prop)->Prop:=λx y Q=>bJ x/\bJ y/\Q (.bool (!HA x y))
theorem bN:bE K (sM K) sO:=λH O x y dx dy Qd R _ hx hy uu37 k=>by obtain⟨a,b,q⟩:=uu37;exact⟨O,dx,dy,hx,hy,a,b,k _ _ H q (ao.refl _) (.bl _)⟩
theorem jP:bE K (sN K) sP:=λH O x y dx dy Qd R _ hx hy uu38 k=>by obtain⟨a,b,q⟩:=uu38;exact⟨O,dx,dy,hx,hy,a,b,k _ _ H q (ao.refl _) (.bl _)⟩
def sQ:NI->NI->(NI->Prop)->Prop:=λx y Q=>∃ds i d,x= .list ds/\y= .int i/\atI ds i=some d/\Q d
def sR:NI->NI->(NI->Prop)->Prop:=λx y Q=>∃ds i d,x= .tuple ds/\y= .int i/\atI ds i=some d/\Q d
theorem ai.atI{H:Hp}{O:Ex}{vs:List V}{ds:List NI}{i:Int}{d:NI}(r:ai K H O vs ds)(e:L2.atI ds i=some d):∃v,L2.atI vs i=some v/\Dt K H O v d:=by
 unfold L2.atI at e⊢;rw [r.length];cases q:fF ds.length i with
 | none=>rw [q] at e;cases e
 | some j=>rw [q] at e;exact r.getD e
theorem bX:bE K (kU K) sQ:=λH O x y dx dy Qd R _ hx hy uu39 k=>by
 obtain⟨ds,i,d,e1,e2,e3,q⟩:=uu39;subst e1 e2;obtain⟨a,vs,rfl,hs,r⟩:=hx.lst;cases hy.int;obtain⟨v,hv,rv⟩:=r.atI e3;exact⟨a,vs,i,v,rfl,rfl,hs,hv,k d v H q (ao.refl _) rv⟩
theorem aF:bE K (qT K) sR:=λH O x y dx dy Qd R _ hx hy uu40 k=>by
 obtain⟨ds,i,d,e1,e2,e3,q⟩:=uu40;subst e1 e2;obtain⟨a,vs,rfl,hs,r⟩:=hx.tup;cases hy.int;obtain⟨v,hv,rv⟩:=r.atI e3;exact⟨a,vs,i,v,rfl,rfl,hs,hv,k d v H q (ao.refl _) rv⟩
end
section
variable {X:Cx} {H0:Hp} {O0:Ex}
def BY:R2:=λx y H Q=>∃l b xs zs,x= .ref l/\y= .ref b/\Rd H l (.lst xs)/\Rd H b (.lst zs)/\xs.length+zs.length<=NO/\∀p,H p=none->Q (.ref p) (ak H p (.lst (xs++zs)))
theorem BZ:bf X (Oi .Add) BY:=by
 intro O6 s σ H x y v u Q I rx ry h;obtain⟨l,b,xs,zs,rfl,rfl,hH,hB,hz,q⟩:=h;cases rx;cases ry;obtain⟨z,its,n,r,e⟩:=hH.ok I.hok;obtain⟨z2,its2,n2,r2,e2⟩:=hB.ok I.hok;have l1:=r.length;have l2:=r2.length;refine PySem.P.add_list e e2 ?_ (by rw [HK,HK];omega);have ea:its.toArray++its2.toArray=(its++its2).toArray:=NH
 rw [ea];exact⟨.ref _,_,I.lnew (t':=s.toks) (r.append r2) (by rw [HU];omega),rfl,q _ I.fresh⟩
def sS(ta tb:DT):DA:=λδ Q=>ta δ λx=>tb δ λy=>∃xs ys,x= .list xs/\y= .list ys/\xs.length+ys.length<=NO/\Q (xs++ys)
theorem nH{a b:NN}{ta tb:DT}{pos:Pos}(ha:DF X H0 O0 a ta)(hb:DF X H0 O0 b tb):FE X H0 O0 (.BinOp a .Add b pos) (sS ta tb):=
 (dG BZ ha hb).imp λσ H Q uu41=>by obtain⟨O,δ,Qd,w,q,k⟩:=uu41;exact⟨O,δ,_,w,q,λx v H1 q1 s1 r1=>⟨O,δ,_,w.mono s1,q1,λy u H2 uu42 s2 r2=>by
  obtain⟨xs,ys,e1,e2,hz,q2⟩:=uu42;subst e1 e2;obtain⟨a,vs,rfl,h1,d1⟩:=(r1.mono s2).lstR;obtain⟨b,us,rfl,h2,d2⟩:=r2.lstR;exact⟨a,b,vs,us,rfl,rfl,h1,h2,by rw [d1.length,d2.length];exact hz,λp hp=>k _ _ _ _ q2 (s1.trans s2) hp (d1.append d2)⟩⟩⟩
def sT:NI->NI->(NI->Prop)->Prop:=λx y Q=>∃xs ys,x= .tuple xs/\y= .tuple ys/\xs≠[]/\xs.length+ys.length<=NO/\Q (.tuple (xs++ys))
theorem B0{K:Hx}:bE K (mV K) sT:=λH O x y dx dy Qd R tr hx hy uu43 k=>by
 obtain⟨xs,ys,e1,e2,hn,hz,q⟩:=uu43;subst e1 e2;have hx0:=hx;obtain⟨a,vs,rfl,h1,d1⟩:=hx.tup;obtain⟨b,us,rfl,h2,d2⟩:=hy.tup;refine⟨a,b,vs,us,rfl,rfl,h1,h2,λz=>?_,by rw [d1.length,d2.length];exact hz,λz=>?_,λ_ p hp=>?_⟩
 ·subst z;cases d1;exact hn rfl
 ·subst z;cases d2;rw [JH] at q;cases hx0 with
  | dt hx0=>exact k _ _ H q (ao.refl _) hx0
 ·exact k _ _ _ q (ao.new hp) (.tup (.inl bj) (λz=>tr p z hp) ((d1.append d2).mono (ao.new hp)))
def aR(xs:List NI)(lo hi:Option Int):List NI:=(xs.drop (HT.sIx xs.length 0 lo)).take (HT.sIx xs.length xs.length hi - HT.sIx xs.length 0 lo)
theorem ai.cut{K:Hx}{H:Hp}{O:Ex}{vs:List V}{ds:List NI}(r:ai K H O vs ds)(lo hi:Option Int):ai K H O (fW vs lo hi) (aR ds lo hi):=by
 unfold fW aR;rw [r.length];exact(r.drop _).take _
abbrev DO:=Dl->(Option Int->Prop)->Prop
inductive fo (K:Hx) (H0:Hp) (O0:Ex) (t:DO) (σ:St) (H:Hp) (R:Option Int->Hp->Prop):Prop
 | mk (O:Ex) (δ:Dl) (Qd:Option Int->Prop):Wd K H0 O0 H O σ δ->t δ Qd->(∀d H',Qd d->ao H H'->R d H')->fo K H0 O0 t σ H R
def sU:DO:=λ_ Q=>Q none
def sV(t:DT):DO:=λδ Q=>t δ λd=>∃i,d= .int i/\Q (some i)
theorem PO.imp{X:Cx}{e:Option NN}{t u:TO}(h:PO X e t)(i:∀σ H Q,u σ H Q->t σ H Q):PO X e u:=λO6 s σ H Q I z=>h O6 s σ H Q I (i σ H Q z)
theorem cy:PO X none (fo X.K H0 O0 sU):=AG.imp λσ H Q uu44=>by obtain⟨O,δ,Qd,w,q,k⟩:=uu44;exact k none H q (ao.refl _)
theorem bU{e:NN}{t:DT}(h:DE X H0 O0 e t):PO X (some e) (fo X.K H0 O0 (sV t)):=(AH h).imp λσ H Q uu45=>by obtain⟨O,δ,Qd,w,q,k⟩:=uu45;exact⟨O,δ,_,w,q,λd v H1 uu46 s1 r1=>by obtain⟨i,e,q1⟩:=uu46;subst e;cases r1;exact⟨i,rfl,k _ H1 q1 s1⟩⟩
def sW(t:DT)(tl th:DO):DA:=λδ Q=>t δ λd=>tl δ λl=>th δ λu=>∃xs,d= .list xs/\Q (aR xs l u)
theorem ic{e:NN}{lo hi:Option NN}{t:DT}{tl th:DO}{pos p2:Pos}(h:DF X H0 O0 e t)(hl:PO X lo (fo X.K H0 O0 tl))(hu:PO X hi (fo X.K H0 O0 th)):FE X H0 O0 (.Subscript e (.Slice lo hi none p2) pos) (sW t tl th):=
 (kT qW h hl hu).imp λσ H Q uu47=>by obtain⟨O,δ,Qd,w,q,k⟩:=uu47;exact⟨O,δ,_,w,q,λd v H1 q1 s1 r1=>⟨O,δ,_,w.mono s1,q1,λl H2 q2 s2=>⟨O,δ,_,w.mono (s1.trans s2),q2,λu H3 uu48 s3=>by
  obtain⟨xs,e,q3⟩:=uu48;subst e;obtain⟨a,vs,rfl,h1,d1⟩:=(r1.mono (s2.trans s3)).lst;exact⟨a,vs,rfl,h1,λp hp=>k _ _ _ _ q3 (s1.trans (s2.trans s3)) hp (d1.cut l u)⟩⟩⟩⟩
theorem dz{a b:NN}{ta tb:DT}{r:R2}{rd:NI->NI->(NI->Prop)->Prop}{pos:Pos}(ho:iO X r)(hd:bE X.K r rd)(ha:DF X H0 O0 a ta)(hb:DF X H0 O0 b tb)(hs:∀v u,OG b false v u=operate [v,u] (Ot v u):=by intro _ _;rfl):DE X H0 O0 (.Subscript a b pos) (gc rd ta tb):=(hV ho ha hb hs).imp (lg hd)
def sX:List NI->(NI->Prop)->Prop:=λds Q=>∃xs,(ds=[.list xs]\/ds=[.tuple xs])/\Q (.int xs.length)
def sY:List NI->(NI->Prop)->Prop:=λds Q=>∃xs,ds=[d6 xs]/\Q (.int xs.length)
theorem bO{K:Hx}:gf K (λxs H Q=>∃p ys,xs=[.ref p]/\(aQ K H p ys\/bg K H p ys)/\Q (.int ys.length) H) sX:=λH O xs ds Qd R _ hs uu49 k=>by
 obtain⟨ys,e,q⟩:=uu49;rcases e with e | e <;> subst e
 ·cases hs with
  | cons h r=>
   cases r;obtain⟨a,vs,rfl,h1,d1⟩:=h.lst;exact⟨a,vs,rfl,.inl h1,by rw [d1.length];exact k _ _ H q (ao.refl _) (.int _)⟩
 ·cases hs with
  | cons h r=>
   cases r;obtain⟨a,vs,rfl,h1,d1⟩:=h.tup;exact⟨a,vs,rfl,.inr h1,by rw [d1.length];exact k _ _ H q (ao.refl _) (.int _)⟩
theorem B1{K:Hx}:gf K (λxs H Q=>∃p ys,xs=[.ref p]/\(aQ K H p ys\/bg K H p ys)/\Q (.int ys.length) H) sY:=λH O xs ds Qd R _ hs uu50 k=>by
 obtain⟨ys,e,q⟩:=uu50;subst e;cases hs with
 | cons h r=>
  cases r;obtain⟨a,vs,rfl,h1,d1⟩:=h.scr;exact⟨a,vs,rfl,.inl h1,by rw [d1.length];exact k _ _ H q (ao.refl _) (.int _)⟩
def sZ:List NI->(NI->Prop)->Prop:=λds Q=>∃xs,ds=[.list xs]/\Q (.tuple xs)
theorem jQ{K:Hx}:gf K (λxs H Q=>∃p ys,xs=[.ref p]/\((aQ K H p ys/\∀l,H l=none->Q (.ref l) (ak H l (.tup ys)))\/(bg K H p ys/\Q (.ref p) H))) sZ:=λH O xs ds Qd R tr hs uu51 k=>by
 obtain⟨ys,e,q⟩:=uu51;subst e;cases hs with
 | cons h r=>
  cases r;obtain⟨a,vs,rfl,h1,d1⟩:=h.lst;exact⟨a,vs,rfl,.inl ⟨h1,λl hl=>k _ _ _ q (ao.new hl) (.tup (.inl bj) (λz=>tr l z hl) (d1.mono (ao.new hl)))⟩⟩
theorem ai.bools{K:Hx}{H:Hp}{O:Ex}:∀{bs:List Bool}{vs:List V},ai K H O vs (bs.map IZ)->vs=bs.map V.bl
 | [],_,r=>by rw [Jq] at r;cases r;rfl
 | b::bs,_,r=>by
  rw [HF] at r;cases r with
  | cons h r=>cases h;rw [HF,ai.bools r]
def tf(g:List Bool->Bool):List NI->(NI->Prop)->Prop:=λds Q=>∃bs:List Bool,ds=[.list (bs.map .bool)]/\Q (.bool (g bs))
theorem gI{K:Hx}{g:List Bool->Bool}:gf K (λxs H Q=>∃(a:NK)(bs:List Bool),xs=[.ref a]/\aQ K H a (bs.map V.bl)/\Q (.bl (g bs)) H) (tf g):=λH O xs ds Qd R tr hs uu52 k=>by
 obtain⟨bs,e,q⟩:=uu52;subst e;cases hs with
 | cons h r=>
  cases r;obtain⟨a,vs,rfl,h1,d1⟩:=h.lst;cases d1.bools;exact⟨a,bs,rfl,h1,k _ _ H q (ao.refl _) (.bl _)⟩
def tj(g:Int->Int->Int):List NI->(NI->Prop)->Prop:=λds Q=>∃i j,ds=[.int i,.int j]/\Q (.int (g i j))
theorem B2{K:Hx}{g:Int->Int->Int}:gf K (λxs H Q=>∃i j,xs=[.int i,.int j]/\Q (.int (g i j)) H) (tj g):=λH O xs ds Qd R tr hs uu53 k=>by
 obtain⟨i,j,e,q⟩:=uu53;subst e;cases hs with
 | cons h r=>
  cases r with
  | cons h2 r=>
   cases r;cases h.int;cases h2.int;exact⟨i,j,rfl,k _ _ H q (ao.refl _) (.int _)⟩
def i7:NI->String
 | .none=> "NoneType" | .bool _=> "bool" | .int _=> "int" | .str _=> "str" | .list _=> "list" | .tuple _=> "tuple" | .dict _=> "dict"
end
section
variable {P:NV} {w:NX} {K:Hx} {mg:Str->Option NJ} {base:NZ}
def ie(N:List Str)(ds:List NI):Dl:=ds.map (λd=>some (.v d))++Ia (N.length - ds.length) none
theorem B3{H:Hp}{O:Ex}{N:List Str}{vs:List V}{ds:List NI}(tr:∀l,O l->H l≠none)(r:ai K H O vs ds):Wd K H O H O (start N vs) (ie N ds):=by
 have hl:=r.length;have at1:∀(i:Nat) y,(ie N ds)[i]?=some y->(∃d,ds[i]?=some d/\y=some (.v d))\/y=none:=λi y e=>by
  unfold ie at e;by_cases h:i < ds.length
  ·rw [JE (by simpa using h),Ie] at e;cases q:ds[i]? with
   | none=>rw [q] at e;cases e
   | some d=>rw [q] at e;exact .inl ⟨d,rfl,(II e).symm⟩
  ·rw [JP (by simpa using LG h),J5] at e;split at e
   ·exact .inr (II e).symm
   ·cases e
 refine⟨ao.refl _,λ_ z=>z,λ_ z=>.inl z,tr,by simp [start,ie,hl],λi y e=>?_,λi j ds' es l e1=>?_⟩
 ·rcases at1 i y e with⟨d,hd,rfl⟩ | rfl
  ·obtain⟨v,hv,rv⟩:=r.getD hd;refine⟨v,?_,rv⟩;unfold start;rw [JE (by simpa using(HP.mp hv).1),Ie,hv];rfl
  ·exact Jh
 ·rcases at1 i _ e1 with⟨d,_,z⟩ | z
  ·cases z;intro h;exact h.elim
  ·cases z
theorem fY.okD{x qual:Str}{st:N1}{f:NK}{fd:NU}{N ps:List Str}{k:Nat}{F:List NI->(NI->Prop)->Prop}(Fu:fY K x qual st f fd)(S:aY N ps (aD st))(len:∀ds Q,F ds Q->ds.length=ps.length)
 (hbody:∀(cdv:NJ) (A:N2) (outer:List Env) (s:NL) (H:Hp) (O:Ex) (ds:List NI) (Q:NI->Prop) (E:XK),br k (A.deeper (envOfC qual (aD st) s.heap.objs.size f cdv))->F ds Q->
  ∃t,bx (gC CX0 P w K mg base N qual (aD st) f cdv A outer s H E).nox (fX st) (bh K H O t)/\t {nx:=λ_=>Q .none,rt:=Q} (ie N ds)):aO P w K mg base CX0 (k+1) f fd ps (aT K F):=by
 refine Fu.ok S (λvs H Q E h=>?_) (λcdv A outer s H vs Q E hr h=>?_)
 ·obtain⟨O,ds,Qd,_,r,q,_⟩:=h;rw [r.length];exact len _ _ q
 ·obtain⟨O,ds,Qd,tr,r,q,k⟩:=h;obtain⟨t,ht,q'⟩:=hbody cdv A outer s H O ds Qd E hr q;refine⟨_,ht,O,_,_,B3 tr r,q',λO' δ' σ' H' z w' S'=>?_,λd v H' z s' r'=>k d v H' z s' r',λ_ _ _ _ z=>z.elim,λ_ _ _ _ z=>z.elim⟩;exact k _ _ _ z w'.same .non
end
section
variable {X:Cx} {H0:Hp} {O0:Ex}
theorem dO:cY X [] (bL X.K H0 O0 i5):=λO6 s σ H Q I h=>by
 obtain⟨O,δ,Qd,w,q,k⟩:=h;exact Bl O6 s σ H Q I (k true H q (ao.refl _))
theorem B4:cW X (.builtin "isinstance") (λxs H Q=>∃O d T b x,xs=[x,.ty T]/\Dt X.K H O x d/\(∀x,d≠ .dict [(.none,x)])/\kitOne X.K (.type (i7 d)) (.type T)=some b/\Q (.bl b) H):=by
 intro O6 s σ H xs us Q I r h;obtain⟨O,d,T,b,x,rfl,hd,hp,hk,q⟩:=h;obtain⟨u,w',rfl,rx,rt⟩:=mR r;cases (show w'=Nv T from rt);have fin:∀tk,EP X O6 σ Q (.bool b) {s with toks:=tk}:=λtk=>⟨.bl b,H,I.tok tk,rfl,q⟩;cases hd with
 | non=>cases (show u=Ki from rx);exact OM kitx_none I.kIn Jh hk (λz=>nomatch z) fin
 | bl y=>cases (show u=JG y from rx);exact OM kitx_bool I.kIn Jh hk (λz=>nomatch z) fin
 | int i=>obtain⟨t,e⟩:=(show ∃t,u=JZ i t from rx);cases e;exact OM kitx_int I.kIn Jh hk (λz=>nomatch z) fin
 | str y=>obtain⟨t,e⟩:=(show ∃t,u=JJ y t from rx);cases e;exact OM kitx_str I.kIn Jh hk (λz=>nomatch z) fin
 | @tup a xs ds h n rr=>
  cases (show u=Ih a from rx);obtain⟨its,rv,⟨o,e,c,_⟩,_⟩:=I.tuple (.inl h);exact OM kitx_tuple I.kIn ⟨o,e,c⟩ hk (λz=>nomatch z) fin
 | @tupK a xs ds h rr=>
  cases (show u=Ih a from rx);obtain⟨its,rv,⟨o,e,c,_⟩,_⟩:=I.tuple h.of0;exact OM kitx_tuple I.kIn ⟨o,e,c⟩ hk (λz=>nomatch z) fin
 | @lst a xs ds h n rr=>
  cases (show u=Ih a from rx);obtain⟨its,rv,⟨o,_,e,c,_⟩,_⟩:=I.list (.inl h);exact OM kitx_list I.kIn ⟨o,e,c⟩ hk (λz=>nomatch z) fin
 | pack h n=>exact absurd rfl (hp _)
 | purse h n=>exact absurd rfl (hp _)
 | scr h r=>exact absurd rfl (hp _)
 | obj h e n r=>exact absurd rfl (hp _)
 | @dct0 a h n=>
  cases (show u=Ih a from rx);obtain⟨_,_,_,_,o,_,_,e,c,_⟩:=(show bD X.prog X.w H s.heap a (.dK []) from I.hok a _ h);exact OM kitx_dict I.kIn ⟨o,e,c.1⟩ hk (λz=>nomatch z) fin
 | @dic a ob kv ks kp ds h e1 e2 n rr=>
  cases (show u=Ih a from rx);obtain⟨_,_,_,_,o,_,_,e,c,_⟩:=(show bD X.prog X.w H s.heap a (.dK kv) from(I.hok a _ h).2);exact OM kitx_dict I.kIn ⟨o,e,c.1⟩ hk (λz=>nomatch z) fin
def nI(K:Hx)(T:String)(t:DT):DT:=λδ Q=>t δ λd=>∃b,kitOne K (.type (i7 d)) (.type T)=some b/\(∀x,d≠ .dict [(.none,x)])/\Q (.bool b)
theorem B5{T:String}{a c:NN}{t:DT}{np p:Pos}(hg:Gl X "isinstance")(hm:X.mg "isinstance"=none)(hv:N3 "isinstance"=some (.builtin "isinstance"))(ha:DF X H0 O0 a t)(hc:PE X c (tC (.ty T)))
 (hs:NP [a,c] X.env=(false,eval a X.env)::NP [c] X.env:=by rfl)(hs2:NP [c] X.env=[(false,eval c X.env)]:=by rfl)(hb:(N7 p (NP [c] X.env)).any (·.1)=false:=by rfl):DE X H0 O0 (.Call (.Name "isinstance" np) [a,c] [] p) (nI X.K T t):=
 (aS B4 hg hm hv (cM ha (cM hc eG hs2) hs) (he:=hs) (hpl:=hb)).imp λσ H Q uu54=>by obtain⟨O,δ,Qd,w,q,k⟩:=uu54;exact⟨O,δ,_,w,q,λd v H1 uu55 s1 r1=>by obtain⟨b,e,hp,q1⟩:=uu55;exact⟨λ_=>False,d,T,b,v,rfl,r1.all,hp,e,k _ _ H1 q1 s1 (.bl b)⟩⟩
def tm:NI->NI->(NI->Prop)->Prop:=λx y Q=>∃i j,x= .str i/\y= .str j/\i.length+j.length<=NO/\Q (.str (i++j))
theorem tq{K:Hx}:bE K (λx y H Q=>∃i j,x= .str i/\y= .str j/\i.length+j.length<=NO/\Q (.str (i++j)) H) tm:=λH O x y dx dy Qd R tr hx hy uu56 k=>by
 obtain⟨i,j,e1,e2,hz,q⟩:=uu56;subst e1 e2;cases hx.str;cases hy.str;exact⟨i,j,rfl,rfl,hz,k _ _ H q (ao.refl _) (.str _)⟩
def tu:NI->NI->(NI->Prop)->Prop:=λx y Q=>∃z i c,x= .str z/\y= .int i/\z.length<=NO/\atI z.cps.toList i=some c/\Q (.str ⟨#[c]⟩)
theorem tw{K:Hx}:bE K qU tu:=λH O x y dx dy Qd R tr hx hy uu57 k=>by
 obtain⟨z,i,c,e1,e2,hz,e3,q⟩:=uu57;subst e1 e2;cases hx.str;cases hy.int;exact⟨z,i,c,rfl,rfl,hz,e3,k _ _ H q (ao.refl _) (.str _)⟩
def B6:V->Option Int->Option Int->Hp->VK->Prop:=λx lo hi H Q=>∃z,x= .str z/\z.length<=NO/\Q (.str (Txt.slice z lo hi)) H
theorem B7:jH X B6:=by
 intro O6 s σ H x v vl vu lo hi sl Q I rx hs pl pu h;obtain⟨z,rfl,hz,q⟩:=h;obtain⟨t,rfl⟩:=rx;have e1:∃l:Option (Int×Tok),vl=partValue l/\l.map (·.1)=lo:=by
  cases pl with
  | none=>exact⟨none,rfl,rfl⟩
  | int i t=>exact⟨some (i,t),rfl,rfl⟩
 have e2:∃l:Option (Int×Tok),vu=partValue l/\l.map (·.1)=hi:=by
  cases pu with
  | none=>exact⟨none,rfl,rfl⟩
  | int i t=>exact⟨some (i,t),rfl,rfl⟩
 obtain⟨l,rfl,rfl⟩:=e1;obtain⟨u,rfl,rfl⟩:=e2;refine⟨"str",_,F.slot_str_getitem.lookup,Ow _ _ _,wpAny_getItem_str_slice (l:=l) (u:=u) (st:=none) hs rfl ?_⟩;exact post_val_or_str ⟨Il (Txt.slice_le z _ _) hz,λt' k=>⟨.str (Txt.slice z (l.map (·.1)) (u.map (·.1))),H,I.tok _,⟨_,rfl⟩,q⟩⟩
def tD(t:DT)(tl th:DO):DT:=λδ Q=>t δ λd=>tl δ λl=>th δ λu=>∃z,d= .str z/\z.length<=NO/\Q (.str (Txt.slice z l u))
theorem tE{e:NN}{lo hi:Option NN}{t:DT}{tl th:DO}{pos p2:Pos}(h:DF X H0 O0 e t)(hl:PO X lo (fo X.K H0 O0 tl))(hu:PO X hi (fo X.K H0 O0 th)):DE X H0 O0 (.Subscript e (.Slice lo hi none p2) pos) (tD t tl th):=
 (kT B7 h hl hu).imp λσ H Q uu58=>by obtain⟨O,δ,Qd,w,q,k⟩:=uu58;exact⟨O,δ,_,w,q,λd v H1 q1 s1 r1=>⟨O,δ,_,w.mono s1,q1,λl H2 q2 s2=>⟨O,δ,_,w.mono (s1.trans s2),q2,λu H3 uu59 s3=>by
  obtain⟨z,e,hz,q3⟩:=uu59;subst e;cases r1.str;exact⟨z,rfl,hz,k _ _ H3 q3 (s1.trans (s2.trans s3)) (.str _)⟩⟩⟩⟩
theorem B8{K:Hx}{H:Hp}{O:Ex}:∀{ys:List Str}{vs:List V}{us:List NJ},ai K H O vs (ys.map Hy)->az vs us->StrsAre us ys:=by
 intro ys
 induction ys with
 | nil=>intro vs us r rv;rw [Jq] at r;cases r;cases rv;exact .nil
 | cons y ys ih=>
  intro vs us r rv;rw [HF] at r;cases r with
  | cons h r=>
   cases h;cases rv with
   | cons r1 r2=>
    obtain⟨t,rfl⟩:=r1;exact .cons y t (ih r r2)
theorem B9:qS X "str.join" (λx xs H Q=>∃(O:Ex)(z:Str)(a:V)(ys:List Str),x= .str z/\xs=[a]/\Sh X.K H O a (.list (ys.map .str))/\(ys.map (·.length)).sum+ys.length*z.length<=16777216/\Q (.str (Txt.join z ys)) H):=by
 intro O6 s σ H x xs v us Q I rx rs h;obtain⟨O,z,a,ys,rfl,rfl,ha,hz,q⟩:=h;obtain⟨t,rfl⟩:=rx;obtain⟨u,rfl,ru⟩:=cX rs;obtain⟨l,vs,rfl,hl,dl⟩:=ha.lst;cases ru;obtain⟨its,rv,pl,_⟩:=I.list hl;exact join_list pl.isList (by simpa using B8 dl rv) hz λt' k=>⟨.str _,H,I.tok _,⟨_,rfl⟩,q⟩
def tF(to:DT)(t:DT):DT:=λδ Q=>to δ λx=>∃z:Str,x= .str z/\t δ λy=>∃(ys:List Str),y= .list (ys.map .str)/\(ys.map (·.length)).sum+ys.length*z.length<=16777216/\Q (.str (Txt.join z ys))
theorem Ca{o e:NN}{to t:DT}{apos cpos:Pos}(ho:DE X H0 O0 o to)(ha:DF X H0 O0 e t)(hbase:Ou o "join" X.env (eval o X.env)=eval o X.env:=by rfl)
 (hfew:((N7 cpos (NP [e] X.env)).all (λx=>!x.1) && (OQ cpos (Oz [] X.env)).all (λx=>x.1.isSome) && decide ([e].length+([]:List Oq).length+(if ([]:List Oq).isEmpty then 0 else 1) < 30))=true:=by rfl)
 (hline:(apos.endLine==cpos.line)=true:=by rfl)(hst:NP [e] X.env=(false,eval e X.env)::NP [] X.env:=by rfl)(hplain:(N7 cpos (NP [] X.env)).any (·.1)=false:=by rfl):
 DE X H0 O0 (.Call (.Attribute o "join" apos) [e] [] cpos) (tF to t):=
 (kW PySem.F.plainAttrs_str PySem.F.slot_str_join PySem.F.type_str_join B9 ho (cM ha eG hst) hbase hfew hline hst hplain).imp λσ H Q uu60=>by obtain⟨O,δ,Qd,w,q,k⟩:=uu60;exact⟨O,δ,_,w,q,λx v H1 uu61 s1 r1=>by
  obtain⟨z,e,q1⟩:=uu61;subst e;cases r1;exact⟨rfl,O,δ,_,w.mono s1,q1,λy u H2 uu62 s2 r2=>by obtain⟨ys,e,hz,q2⟩:=uu62;subst e;exact⟨O,z,u,ys,rfl,rfl,r2,hz,k _ _ H2 q2 (s1.trans s2) (.str _)⟩⟩⟩
def tG:List NI->(NI->Prop)->Prop:=λds Q=>(∃i,ds=[.int i]/\Q (.int i))\/∃b,ds=[.bool b]/\Q (.int (if b then 1 else 0))
theorem nJ{K:Hx}:gf K (λxs H Q=>(∃i,xs=[.int i]/\Q (.int i) H)\/∃k,xs=[.bl k]/\Q (.int (if k then 1 else 0)) H) tG:=λH O xs ds Qd R tr hs h k=>by
 rcases h with⟨i,e,q⟩ | ⟨b,e,q⟩ <;> subst e
 ·cases hs with
  | cons h r=>cases r;cases h.int;exact .inl ⟨i,rfl,k _ _ H q (ao.refl _) (.int _)⟩
 ·cases hs with
  | cons h r=>cases r;cases h.bl;exact .inr ⟨b,rfl,k _ _ H q (ao.refl _) (.int _)⟩
def tH(t:DA):DA:=λδ Q=>t δ λds=>∃xs,(ds=[.list xs]\/ds=[.tuple xs])/\Q xs
theorem Cb{a:NN}{t:DA}{np p:Pos}(hg:Gl X "list")(hm:X.mg "list"=none)(hv:N3 "list"=some (.type "list"))(ha:PA X [a] (d8 X.K H0 O0 t))(he:NP [a] X.env=(false,eval a X.env)::NP [] X.env:=by rfl)(hpl:(N7 p (NP [] X.env)).any (·.1)=false:=by rfl):FE X H0 O0 (.Call (.Name "list" np) [a] [] p) (tH t):=
 (fE AU hg hm hv ha (he:=he) (hpl:=hpl)).imp λσ H Q uu63=>by obtain⟨O,δ,Qd,w,q,k⟩:=uu63;exact⟨O,δ,_,w,q,λds vs H1 uu64 s1 r1=>by
  obtain⟨xs,e,q1⟩:=uu64;rcases e with e | e <;> subst e
  ·cases r1 with
   | cons h r=>
    cases r;obtain⟨a,us,rfl,h1,d1⟩:=h.lst;exact⟨a,us,rfl,.inl h1,λl hl=>k _ _ _ _ q1 s1 hl d1⟩
  ·cases r1 with
   | cons h r=>
    cases r;obtain⟨a,us,rfl,h1,d1⟩:=h.tup;exact⟨a,us,rfl,.inr h1,λl hl=>k _ _ _ _ q1 s1 hl d1⟩⟩
theorem Cc{xs:List V}{us:List NJ}(r:az xs us):az xs.reverse us.reverse:=by
 induction r with
 | nil=>exact .nil
 | cons h r ih=>rw [KJ,KJ];exact ih.append (.cons h .nil)
end
section
variable {X:Cx} {O6:List (NK×Obj)} {σ:St} {H:Hp} {s:NL}
theorem ae.swap{p:NK}{o':HO}(I:ae X O6 σ H s)(mu:iF (H p))(new:bD X.prog X.w (ak H p o') s.heap p o'):ae X O6 σ (ak H p o') s:=by
 have hp:∃o,H p=some o:=by
  cases e:H p with
  | none=>rw [e] at mu;exact mu.elim
  | some o=>exact⟨o,rfl⟩
 obtain⟨o,ho⟩:=hp;have nn:∀{b:NK},H b=none->b≠p:=λhb z=>by rw [z,ho] at hb;cases hb
 have nt:∀{b:NK}{xs:List V},H b=some (.tup xs)->b≠p:=λhb z=>by rw [z] at hb;rw [hb] at mu;exact mu
 have nw:∀{b y:NK},H b=some (.own y)->b≠p:=λhb z=>by rw [z] at hb;rw [hb] at mu;exact mu
 have nf:∀{b:NK}{ob:Obj}{u:HO},H b=some (.frz ob u)->b≠p:=λhb z=>by rw [z] at hb;rw [hb] at mu;exact mu
 have nb:∀{b:NK}{ps:Array NJ},H b=some (.tbl ps)->b≠p:=λhb z=>by rw [z] at hb;rw [hb] at mu;exact mu
 have ub:=I.base;refine⟨I.ok,I.os,I.bare,⟨ub.keep,ub.slot,λb ob e n hx=>?_,ub.there,λb xs z=>?_,λb ob u z=>?_,λb ps z=>?_⟩,I.loc,I.cell,?_,λx c e=>?_,λq hq=>?_,λb u e=>?_,I.len⟩
 ·have:=ub.free b ob e n hx;rw [aB (nn this)];exact this
 ·have:=ub.tups b xs z;rw [aB (nt this)];exact this
 ·have:=ub.frzs b ob u z;rw [aB (nf this)];exact this
 ·obtain⟨m,this⟩:=ub.tbls b ps z;exact⟨m,by rw [aB (nb this)];exact this⟩
 ·rw [aB (nn I.free)];exact I.free
 ·have:=I.freeC x c e;rw [aB (nn this)];exact this
 ·obtain⟨a,b,c⟩:=I.pin q hq;exact⟨a,by rw [aB (nn b)];exact b,c⟩
 ·by_cases hb:b=p
  ·subst hb;rw [bj] at e;cases e;exact new
  ·rw [aB hb] at e;exact(I.hok b u e).stay (λ_ _ _ q=>q) (λc z=>by rw [aB (nw z)];exact z) λc xs z=>by rw [aB (nt z)];exact z
theorem ae.open3{p:NK}(I:ae X O6 σ H s)(e:H p=some (fk p)):∃a b c,ae X O6 σ (ak H p (.lst [.int a,.int b,.int c])) s:=by
 obtain⟨⟨a,b,c,t,u,v,k,h⟩,_,_⟩:=(show bD X.prog X.w H s.heap p (fk p) from I.hok p _ e);exact⟨a,b,c,I.swap (by rw [e];exact Jh) ⟨(show 3<=NO by decide),[.int a t,.int b u,.int c v],k,.cons ⟨t,rfl⟩ (.cons ⟨u,rfl⟩ (.cons ⟨v,rfl⟩ .nil)),h⟩⟩
theorem ae.shut3{p:NK}{a b c:Int}(I:ae X O6 σ H s)(e:H p=some (.lst [.int a,.int b,.int c])):ae X O6 σ (ak H p (fk p)) s:=by
 obtain⟨_,its,k,r,h⟩:=(show bD X.prog X.w H s.heap p (.lst [.int a,.int b,.int c]) from I.hok p _ e);cases r with
 | cons r1 r2=>
  cases r2 with
  | cons r2 r3=>
   cases r3 with
   | cons r3 r4=>
    cases r4;obtain⟨t,rfl⟩:=r1;obtain⟨u,rfl⟩:=r2;obtain⟨v,rfl⟩:=r3;exact I.swap (by rw [e];exact Jh) ⟨⟨a,b,c,t,u,v,k,h⟩,⟨_,h⟩,λh1 h2 uu65 kk=>by obtain⟨a,b,c,t,u,v,k,z⟩:=uu65;exact⟨a,b,c,t,u,v,k,kk _ z⟩⟩
theorem bx.purse{st:List N1}{t:TS}(h:bx X st t):bx X st (λD σ H=>∃p,H p=some (fk p)/\∀a b c,t {nx:=λσ' H'=>∃a b c,H' p=some (.lst [.int a,.int b,.int c])/\D.nx σ' (ak H' p (fk p)),rt:=λv H'=>∃a b c,H' p=some (.lst [.int a,.int b,.int c])/\D.rt v (ak H' p (fk p))} σ (ak H p (.lst [.int a,.int b,.int c]))):=by
 intro O6 s σ H D I ⟨p,e,q⟩;obtain⟨a,b,c,I1⟩:=I.open3 e;refine ar (h O6 s σ _ _ I1 (q a b c)) λf s1 z=>?_;cases f with
 | next=>obtain⟨σ',H',J,_,_,_,e',q'⟩:=z;exact⟨σ',_,J.shut3 e',q'⟩
 | ret u=>obtain⟨v,σ',H',J,r,_,_,_,e',q'⟩:=z;exact⟨v,σ',_,J.shut3 e',r,q'⟩
 | brk=>obtain⟨_,_,_,z⟩:=z;exact z.elim
 | cont=>obtain⟨_,_,_,z⟩:=z;exact z.elim
theorem bx.newPurse{st:List N1}{t:TS}(h:bx X st t):bx X st (λD σ H=>t {nx:=λ_ _=>False,rt:=λv H'=>∃p a b c,v= .ref p/\H' p=some (.lst [.int a,.int b,.int c])/\D.rt v (ak H' p (fk p))} σ H):=by
 intro O6 s σ H D I q;refine ar (h O6 s σ _ _ I q) λf s1 z=>?_;cases f with
 | next=>obtain⟨_,_,_,z⟩:=z;exact z.elim
 | ret u=>obtain⟨v,σ',H',J,r,p,a,b,c,e,e',q'⟩:=z;subst e;exact⟨_,σ',_,J.shut3 e',r,q'⟩
 | brk=>obtain⟨_,_,_,z⟩:=z;exact z.elim
 | cont=>obtain⟨_,_,_,z⟩:=z;exact z.elim
end
def nK:List NI->(NI->Prop)->Prop:=λds Q=>∃z:Int,ds=[di,.int z]/\0 < z/\z<=1000000/\∀i:Int,0<=i->i < z->Q (.int i)
theorem cR{α:Type}{a:α}{l:List α}:atI (a::l) 0=some a:=cQ (j:=0) rfl
theorem cZ{α:Type}{a b:α}{l:List α}:atI (a::b::l) 1=some b:=cQ (j:=1) rfl
theorem jR{α:Type}{a b c:α}{l:List α}:atI (a::b::c::l) 2=some c:=cQ (j:=2) rfl
theorem lC{α:Type}{a b c d:α}{l:List α}:atI (a::b::c::d::l) 3=some d:=cQ (j:=3) rfl
theorem nL{α:Type}{a b c d e:α}{l:List α}:atI (a::b::c::d::e::l) 4=some e:=cQ (j:=4) rfl
theorem fJ{i:Int}:bJ (.int i):=rfl
theorem nM{i:Bool}:bJ (.bool i):=rfl
theorem tI:bJ .none:=rfl
theorem jS{x y:Str}:HA (.str x) (.str y)=(x==y):=by simp [HA]
theorem lE{x y:Int}:HA (.int x) (.int y)=(x==y):=by simp [HA]
theorem gi{x:Str}:bJ (.str x)↔Im x=true:=by
 unfold bJ HJ;simp [IC,Kf]
theorem fK{ds:List NI}(h:bJ (.tuple ds)):∀d∈ds,bJ d:=by
 have h1:=IL h;have h2:=L6 h;have k:∀(ds:List NI)(d:NI),d∈ds->(IX ds=true->d.canLay0=true)/\d.depth<=JI ds:=by
  intro ds
  induction ds with
  | nil=>intro d hd;simp at hd
  | cons e r ih=>
   intro d hd;rcases HM.mp hd with z | z
   ·subst z;refine⟨λq=>?_,?_⟩
    ·rw [IX,HX] at q;exact q.1
    ·rw [JI];exact Nat.le_max_left _ _
   ·obtain⟨a,b⟩:=ih d z;refine⟨λq=>?_,?_⟩
    ·rw [IX,HX] at q;exact a q.2
    ·rw [JI];exact Il b (Nat.le_max_right _ _)
 intro d hd;obtain⟨a,b⟩:=k ds d hd;unfold bJ HJ;rw [HX];refine⟨a (by simpa [IC] using h1),decide_eq_true ?_⟩;rw [Kf] at h2;omega
theorem iN{n d:Nat}:HT.sIx n d none=d:=rfl
theorem gm{n d:Nat}{i:Int}(h0:0<=i)(h1:i<=n):HT.sIx n d (some i)=i.toNat:=by
 obtain⟨j,rfl⟩:=Jp h0;rw [HT.sIx_nat,JV];omega
theorem i8{xs:List NI}{i:Int}(h0:0<=i)(h1:i<=xs.length):aR xs none (some i)=xs.take i.toNat:=by
 unfold aR;rw [iN,gm h0 h1];simp
theorem tJ{xs:List NI}{i:Int}(h0:0<=i)(h1:i<=xs.length):aR xs (some i) none=xs.drop i.toNat:=by
 unfold aR;rw [iN,gm h0 h1,Iu (by rw [JB];exact HE _)]
theorem gn{lo:Int}{n i:Nat}{x:NI}(h:(dN lo n)[i]?=some x):i < n/\x= .int (lo+i):=by
 unfold dN at h;rw [Ie] at h;by_cases hi:i < n
 ·rw [List.getElem?_range hi] at h;exact⟨hi,(II h).symm⟩
 ·rw [KY (by simpa using hi)] at h;cases h
theorem gJ{lo:Int}{n:Nat}:(dN lo n).length=n:=by unfold dN;simp
section
variable {κ:Type} [DecidableEq κ]
def cG(kvs:List (κ×V))(k:κ):Option V:=(kvs.find? λkv=>decide (kv.1=k)).map (·.2)
def putK(kvs:List (κ×V))(k:κ)(v:V):List (κ×V):=
 if (kvs.any λkv=>decide (kv.1=k))=true then kvs.map (λkv=>if kv.1=k then(kv.1,v) else kv) else kvs++[(k,v)]
theorem jT{p:κ×V}{r:List (κ×V)}{k:κ}(e:p.1=k):cG (p::r) k=some p.2:=by simp [cG,Jm,e]
theorem i9{p:κ×V}{r:List (κ×V)}{k:κ}(e:¬p.1=k):cG (p::r) k=cG r k:=by simp [cG,Jm,e]
theorem tK(k:κ):∀kvs:List (κ×V),(kvs.any λkv=>decide (kv.1=k))=(cG kvs k).isSome
 | []=>rfl
 | p::r=>by
  rw [JK];by_cases e:p.1=k
  ·simp only [jT e,decide_eq_true e,Bool.true_or,Mq]
  ·rw [i9 e,decide_eq_false e,JS];exact tK k r
theorem nN(kvs:List (κ×V))(k:κ)(v:V):(putK kvs k v).length<=kvs.length+1:=by
 unfold putK;split
 ·rw [HB];omega
 ·rw [HU,HN,Jt];omega
theorem eD.isSome_eq{o:Option V}{u:Option NJ}(r:eD o u):o.isSome=u.isSome:=by
 cases o with
 | none=>cases u with
  | none=>rfl
  | some _=>exact(show False from r).elim
 | some _=>cases u with
  | none=>exact(show False from r).elim
  | some _=>rfl
theorem eD.getD{o:Option V}{u:Option NJ}{d:V}{d':NJ}(r:eD o u)(rd:ax d d'):ax (o.getD d) (u.getD d'):=by
 cases o with
 | none=>cases u with
  | none=>exact rd
  | some _=>exact(show False from r).elim
 | some _=>cases u with
  | none=>exact(show False from r).elim
  | some _=>exact r
theorem KV.val{kvs:List (κ×V)}{vs:List (κ×NJ)}(r:KV kvs vs)(k:κ):eD (cG kvs k) (valueAt vs k):=by
 unfold KV at r
 induction r with
 | nil=>exact Jh
 | @cons p q ps qs h t ih=>
  obtain⟨h1,h2⟩:=h;by_cases e:p.1=k
  ·have e':q.1=k:=h1.symm.trans e;have b:valueAt (q::qs) k=some q.2:=by simp [valueAt,Jm,e']
   rw [jT e,b];exact h2
  ·have e':¬q.1=k:=λz=>e (h1.trans z);have b:valueAt (q::qs) k=valueAt qs k:=by simp [valueAt,Jm,e']
   rw [i9 e,b];exact ih
theorem KV.any{kvs:List (κ×V)}{vs:List (κ×NJ)}(r:KV kvs vs)(k:κ):(kvs.any λkv=>decide (kv.1=k))=vs.any λkv=>decide (kv.1=k):=by
 unfold KV at r
 induction r with
 | nil=>rfl
 | cons h t ih=>rw [JK,JK,ih,h.1]
theorem KV.repl{kvs:List (κ×V)}{vs:List (κ×NJ)}(r:KV kvs vs)(k:κ){y:V}{u:NJ}(ry:ax y u):
 KV (kvs.map λkv=>if kv.1=k then(kv.1,y) else kv) (vs.map λkv=>if kv.1=k then(kv.1,u) else kv):=by
 unfold KV at r⊢
 induction r with
 | nil=>exact .nil
 | @cons p q ps qs h t ih=>
  rw [HF,HF];refine .cons ?_ ih;obtain⟨h1,h2⟩:=h;by_cases e:p.1=k
  ·rw [NF e,NF (h1.symm.trans e)];exact⟨h1,ry⟩
  ·rw [ND e,ND (λz=>e (h1.trans z))];exact⟨h1,h2⟩
theorem KV.put{kvs:List (κ×V)}{vs:List (κ×NJ)}(r:KV kvs vs)(k:κ){y:V}{u:NJ}(ry:ax y u):KV (putK kvs k y) (stored vs k u):=by
 unfold putK stored;rw [r.any k];by_cases e:(vs.any λkv=>decide (kv.1=k))=true
 ·rw [NF e,NF e];exact r.repl k ry
 ·rw [ND e,ND e];exact Nq r ⟨rfl,ry⟩
theorem KV.keys{kvs:List (κ×V)}{vs:List (κ×NJ)}(r:KV kvs vs):kvs.map (·.1)=vs.map (·.1):=by
 unfold KV at r
 induction r with
 | nil=>rfl
 | cons h t ih=>rw [HF,HF,ih,h.1]
theorem KV.length{kvs:List (κ×V)}{vs:List (κ×NJ)}(r:KV kvs vs):kvs.length=vs.length:=Mh r
end
theorem gq{P:NV}{w:NX}{k:ah}{u:NJ}(r:ax (kV k) u):(bQ P w).is k u=true:=by
 cases k with
 | inl i=>obtain⟨t,e⟩:=(show ∃t,u=JZ i t from r);subst e;exact yO P w i t
 | inr x=>obtain⟨t,e⟩:=(show ∃t,u=JJ x t from r);subst e;exact yP P w x t
theorem tL{P:NV}{w:NX}:∀{ks:List ah}{us:List NJ},az (ks.map kV) us->ItemsAre (bQ P w) ks us
 | [],_,r=>by rw [Jq] at r;cases r;exact .nil
 | k::ks,_,r=>by
  rw [HF] at r;cases r with
  | cons h t=>exact .cons (gq h) (tL t)
abbrev KT(H:Hp):List (List ah×V)->List (List ah×NK×NJ)->Prop:=Paired λp q=>p.1=q.1/\H q.2.1=some (.tup (p.1.map kV))/\ax p.2 q.2.2
theorem KT.val{H:Hp}{kvs:List (List ah×V)}{xs:List (List ah×NK×NJ)}(r:KT H kvs xs)(k:List ah):eD (cG kvs k) ((atKey xs k).map (·.2)):=by
 induction r with
 | nil=>exact Jh
 | @cons p q ps qs h t ih=>
  obtain⟨h1,_,h2⟩:=h;by_cases e:p.1=k
  ·have e':q.1=k:=h1.symm.trans e;have b:atKey (q::qs) k=some q.2:=by simp [atKey,Jm,e']
   rw [jT e,b];exact h2
  ·have e':¬q.1=k:=λz=>e (h1.trans z);have b:atKey (q::qs) k=atKey qs k:=by simp [atKey,Jm,e']
   rw [i9 e,b];exact ih
theorem KT.repl{H:Hp}{kvs:List (List ah×V)}{xs:List (List ah×NK×NJ)}(r:KT H kvs xs)(k:List ah){y:V}{u:NJ}(ry:ax y u):
 KT H (kvs.map λkv=>if kv.1=k then(kv.1,y) else kv) (xs.map (putAt k u)):=by
 induction r with
 | nil=>exact .nil
 | @cons p q ps qs h t ih=>
  rw [HF,HF];refine .cons ?_ ih;obtain⟨h1,h2,h3⟩:=h;unfold putAt;by_cases e:p.1=k
  ·rw [NF e,NF (h1.symm.trans e)];exact⟨h1,h2,ry⟩
  ·rw [ND e,ND (λz=>e (h1.trans z))];exact⟨h1,h2,h3⟩
theorem KT.put{H:Hp}{kvs:List (List ah×V)}{xs:List (List ah×NK×NJ)}(r:KT H kvs xs)(k:List ah){b:NK}{y:V}{u:NJ}(hb:H b=some (.tup (k.map kV)))(ry:ax y u):
 KT H (putK kvs k y) (storedH xs k b u):=by
 have e:(kvs.any λkv=>decide (kv.1=k))=(atKey xs k).isSome:=by
  rw [tK,(r.val k).isSome_eq,Lr]
 unfold putK storedH;rw [e];by_cases q:(atKey xs k).isSome=true
 ·rw [NF q,NF q];exact r.repl k ry
 ·rw [ND q,ND q];exact Nq r ⟨rfl,hb,ry⟩
theorem KT.keeps{H H':Hp}{kvs:List (List ah×V)}{xs:List (List ah×NK×NJ)}(r:KT H kvs xs)(ht:∀b ys,H b=some (.tup ys)->H' b=some (.tup ys)):KT H' kvs xs:=
 Paired.mapP r λ_ _ z=>⟨z.1,ht _ _ z.2.1,z.2.2⟩
section
variable {P:NV} {w:NX} {H:Hp} {h:NZ} {a:NK}
theorem tM{u:HO}(ok:bG P w H h)(e:Rd H a u):bD P w H h a u:=e.ok ok
theorem gK{kvs:List (ah×V)}(ok:bG P w H h)(e:Rd H a (.dK kvs)):kvs.length<=NO/\(a==Oh)=false/\∃vs,KV kvs vs/\h.DictOf (bQ P w) a vs:=
 show bD P w H h a (.dK kvs) from tM ok e
theorem tN{kvs:List (ah×V)}(ok:bG P w H h)(e:H a=some (.dK kvs)):kvs.length<=NO/\(a==Oh)=false/\∃vs,KV kvs vs/\h.DictOf (bQ P w) a vs:=gK ok (.inl e)
theorem ig{ks:List ah}(ok:bG P w H h)(e:H a=some (.tup (ks.map kV))):(OK (bQ P w)).is h ks a:=by
 obtain⟨_,its,r,o,h1,h2,n,h3⟩:=(show bD P w H h a (.tup (ks.map kV)) from ok a _ e);exact⟨o,its.toArray,n,h1,h2,h3,by simpa using tL r⟩
theorem gL{kvs:List (List ah×V)}(ok:bG P w H h)(e:Rd H a (.dT kvs)):kvs.length<=NO/\(a==Oh)=false/\
 ∃xs,KT H kvs xs/\h.DictOfH (OK (bQ P w)) a xs:=by
 obtain⟨z,y,xs,r,o,es,ep,h1,h2,h3,h4,h5⟩:=(show bD P w H h a (.dT kvs) from tM ok e);refine⟨z,y,xs,r,o,es,ep,h1,h2,h3,h4,λx hx=>?_,h5⟩;have all:∀{l:List (List ah×V)}{m:List (List ah×NK×NJ)},KT H l m->∀x∈m,(OK (bQ P w)).is h x.1 x.2.1:=by
  intro l m q
  induction q with
  | nil=>intro x hx;exact nomatch hx
  | @cons p q ps qs hq t ih=>
   intro x hx;rcases HM.mp hx with e | hx
   ·subst e;exact ig ok (by rw [<-hq.1];exact hq.2.1)
   ·exact ih x hx
 exact all r x hx
theorem Cd{kvs:List (List ah×V)}(ok:bG P w H h)(e:H a=some (.dT kvs)):kvs.length<=NO/\(a==Oh)=false/\
 ∃xs,KT H kvs xs/\h.DictOfH (OK (bQ P w)) a xs:=gL ok (.inl e)
end
def cq(H:Hp)(a:NK)(y:V)(r:Option V):Prop:=
 (∃kvs k,Rd H a (.dK kvs)/\y=kV k/\r=cG kvs k)\/∃kvs k b,Rd H a (.dT kvs)/\y= .ref b/\H b=some (.tup (k.map kV))/\r=cG kvs k
def jU(H:Hp)(a:NK)(y v:V)(H':Hp):Prop:=
 (∃kvs k,H a=some (.dK kvs)/\y=kV k/\kvs.length < NO/\H'=ak H a (.dK (putK kvs k v)))\/
 ∃kvs k b,H a=some (.dT kvs)/\y= .ref b/\H b=some (.tup (k.map kV))/\kvs.length < NO/\H'=ak H a (.dT (putK kvs k v))
theorem cq.k{H:Hp}{a:NK}{kvs:List (ah×V)}{k:ah}(e:H a=some (.dK kvs)):cq H a (kV k) (cG kvs k):= .inl ⟨kvs,k,.inl e,rfl,rfl⟩
theorem jU.k{H:Hp}{a:NK}{kvs:List (ah×V)}{k:ah}{v:V}(e:H a=some (.dK kvs))(hl:kvs.length < NO):jU H a (kV k) v (ak H a (.dK (putK kvs k v))):= .inl ⟨kvs,k,e,rfl,hl,rfl⟩
section
variable {X:Cx} {O6:List (NK×Obj)} {σ:St} {H:Hp} {s:NL} {a:NK} {y v:V} {u r:NJ} {o:Option V} {A:N2} {E:NJ->NL->Prop}
theorem ae.big(I:ae X O6 σ H s):Oh < s.heap.objs.size:=by
 have h:NW < s.heap.objs.size:=(I.mod.glob.keeps I.bk).lt;exact LH NB h
theorem Ce{Q:NJ->NL->Prop}(hu:A.units+1 < N4)(I:ae X O6 σ H s)(g:cq H a y (some v))(ry:ax y u)(h:∀w' s',ae X O6 σ H s'->ax v w'->Q w' s'):
 NS (NT X.prog X.w) A (Ot (.ref a) u) Q E s:=by
 rcases g with⟨kvs,k,e,ey,l⟩ | ⟨kvs,k,b,e,ey,eb,l⟩
 ·subst ey;obtain⟨z,hd,vs,rel,dd⟩:=gK I.hok e;obtain⟨w',hw,rw'⟩:=eD.some_of (v:=v) (o:=valueAt vs k) (by rw [l];exact rel.val k);exact wpAny_getItem_of (gq ry) dd.mapOf hw (h w' _ (I.tok _) rw')
 ·subst ey;cases (show u=Ih b from ry);obtain⟨z,hd,xs,rel,dd⟩:=gL I.hok e;obtain⟨w',hw,rw'⟩:=eD.some_of (v:=v) (o:=(atKey xs k).map (·.2)) (by rw [l];exact rel.val k);obtain⟨p,hp,hp2⟩:=Option.map_eq_some_iff.mp hw;refine wpAny_getItem_heap (Om hu) (ig I.hok eb) dd hp ?_;rw [hp2];exact h w' _ (I.tok _) rw'
theorem Cf{Q:NJ->NL->Prop}(hu:A.units+1 < N4)(I:ae X O6 σ H s)(g:cq H a y o)(ry:ax y u)(h:∀s',ae X O6 σ H s'->Q (.bool o.isSome) s'):
 NS (NT X.prog X.w) A (NY .In u (.ref a)) Q E s:=by
 rcases g with⟨kvs,k,e,ey,l⟩ | ⟨kvs,k,b,e,ey,eb,l⟩
 ·subst ey;obtain⟨z,hd,vs,rel,dd⟩:=gK I.hok e;refine wpAny_in_of (gq ry) hd dd.mapOf ?_;rw [<-(rel.val k).isSome_eq,<-l];exact h _ (I.tok _)
 ·subst ey;cases (show u=Ih b from ry);obtain⟨z,hd,xs,rel,dd⟩:=gL I.hok e;refine wpAny_in_heap (Om hu) (ig I.hok eb) hd dd ?_;have q:=(rel.val k).isSome_eq;rw [Lr] at q;rw [<-q,<-l];exact h _ (I.tok _)
theorem Cg{Q:NJ->NL->Prop}(hu:A.units+1 < N4)(I:ae X O6 σ H s)(g:cq H a y o)(ry:ax y u)(h:∀s',ae X O6 σ H s'->Q (.bool (!o.isSome)) s'):
 NS (NT X.prog X.w) A (NY .NotIn u (.ref a)) Q E s:=by
 rcases g with⟨kvs,k,e,ey,l⟩ | ⟨kvs,k,b,e,ey,eb,l⟩
 ·subst ey;obtain⟨z,hd,vs,rel,dd⟩:=gK I.hok e;refine wpAny_notIn_of (gq ry) hd dd.mapOf ?_;rw [<-(rel.val k).isSome_eq,<-l];exact h _ (I.tok _)
 ·subst ey;cases (show u=Ih b from ry);obtain⟨z,hd,xs,rel,dd⟩:=gL I.hok e;refine wpAny_notIn_heap (Om hu) (ig I.hok eb) hd dd ?_;have q:=(rel.val k).isSome_eq;rw [Lr] at q;rw [<-q,<-l];exact h _ (I.tok _)
theorem nO{h':NZ}{t':Nat}{ob:HO}(I:ae X O6 σ H s)(mu:iF (H a))(hs:K0 a s.heap h')(he:∃q,h'.get? a=some q)(new:bD X.prog X.w (ak H a ob) h' a ob):
 ae X O6 σ (ak H a ob) {s with heap:=h',toks:=t'}:=
 I.write (x:=a) (e:=a) mu (.inl rfl) (λb q hb z=>(hs.2 b hb).trans z) he new
theorem nP{P:NV}{w:NX}{H':Hp}{h':NZ}{kvs:List (ah×V)}{vs:List (ah×NJ)}(z:kvs.length<=NO)(hd:(a==Oh)=false)(rel:KV kvs vs)(dd:h'.DictOf (bQ P w) a vs):
 bD P w H' h' a (.dK kvs):=⟨z,hd,vs,rel,dd⟩
theorem Ci{H':Hp}{Q:Unit->NL->Prop}(hu:A.units+1 < N4)(I:ae X O6 σ H s)(g:jU H a y v H')(ry:ax y u)(rv:ax v r)(h:∀s',ae X O6 σ H' s'->Q () s'):
 NS (NT X.prog X.w) A (setItem (.ref a) u r) Q E s:=by
 rcases g with⟨kvs,k,e,ey,l,eH⟩ | ⟨kvs,k,b,e,ey,eb,l,eH⟩
 ·subst ey eH;obtain⟨z,hd,vs,rel,dd⟩:=tN I.hok e;have hz:vs.length<=NO:=by rw [<-rel.length];exact z
  have hl:(putK kvs k v).length<=NO:=by have:=nN kvs k v;omega
  refine wpAny_setItem_pairs (hsz:=hz) (gq ry) dd λh' dd' hs=>h _ ?_;have he:∃q,h'.get? a=some q:=let ⟨q,_,_,hq,_⟩:=dd';⟨q,hq⟩
  exact nO I (by rw [e];exact Jh) hs he (nP hl hd (rel.put k rv) dd')
 ·subst ey eH;cases (show u=Ih b from ry);obtain⟨z,hd,xs,rel,dd⟩:=Cd I.hok e;have hz:xs.length<=NO:=by rw [<-Mh rel];exact z
  have hl:(putK kvs k v).length<=NO:=by have:=nN kvs k v;omega
  refine wpAny_setItem_heap (hsz:=hz) (Om hu) (ig I.hok eb) dd λh' dd' hs=>h _ ?_;obtain⟨q,es,ep,hq,h2,h3,h4,_,h5⟩:=dd';refine nO I (by rw [e];exact Jh) hs ⟨q,hq⟩ ⟨hl,hd,_,(rel.put k eb rv).keeps λc ys ec=>?_,q,es,ep,hq,h2,h3,h4,h5⟩;rw [aB (yQ ec e (λz=>nomatch z))];exact ec
end
def lF(i:NN):Prop:=∀ov iv,OG i false ov iv=operate [ov,iv] (Ot ov iv)
theorem Cj{prog:NV}{w:NX}{A:N2}{E:NJ->NL->Prop}{s:NL}{env:Env}{value slice:NN}{pos:Pos}{T id:String}{Q:NJ->NL->Prop}
 (hl:typeLookup (.type T) "__getitem__"=pure (some (.builtin id)))(hs:lF slice)
 (h:NS (NT prog w) A (eval value env) (λo s₁=>NS (NT prog w) A (eval slice env) (λi s₂=>s₂.TypeIs o T/\NS (NT prog w) A (Ot o i) Q E s₂) E s₁) E s):
 NS (NT prog w) A (eval (.Subscript value slice pos) env) Q E s:=by
 refine Subscript_ (N8 h (λo s₁ h₁=>N8 h₁ (λi s₂ h₂=>?_) λ_ _ x=>x) λ_ _ x=>x);obtain⟨hT,h₂⟩:=h₂;unfold OU;refine NM ?_;rw [getitemInPython_of_ne hT.not_modules];refine NM (wpAny_specialOf hT hl ?_);have fin:NS (NT prog w) A (OG slice false o i) (λr s₃=>NS (NT prog w) A (letTemporaryGo value o r >>=λ_=>pure r) Q E s₃) E s₂:=by
  rw [hs o i];exact wpAny_operating (N8 h₂ (λr s₃ h₃=>NM (wpAny_letTemporaryGo (NR h₃))) λ_ _ x=>x)
 first
  | exact NR (NM fin)
  | exact NM (NR (NM fin))
  | exact NM fin
theorem Ck{X:Cx}{O6:List (NK×Obj)}{σ:St}{H:Hp}{s:NL}{a:NK}{y:V}{o:Option V}(I:ae X O6 σ H s)(g:cq H a y o):s.TypeIs (.ref a) "dict":=by
 rcases g with⟨kvs,k,e,_,_⟩ | ⟨kvs,k,b,e,_,_,_⟩
 ·obtain⟨_,_,vs,_,dd⟩:=gK I.hok e;exact dd.typeIs
 ·obtain⟨_,_,xs,_,dd⟩:=gL I.hok e;exact dd.typeIs
def Cm(td ty:TE):TE:=λσ H Q=>td σ H λx H1=>ty σ H1 λy H2=>∃a v,x= .ref a/\cq H2 a y (some v)/\Q v H2
def Cn(ty td:TE):TE:=λσ H Q=>ty σ H λy H1=>td σ H1 λx H2=>∃a o,x= .ref a/\cq H2 a y o/\Q (.bl o.isSome) H2
def Co(ty td:TE):TE:=λσ H Q=>ty σ H λy H1=>td σ H1 λx H2=>∃a o,x= .ref a/\cq H2 a y o/\Q (.bl (!o.isSome)) H2
def Cp(td ty tv:TE):TS:=λD σ H=>tv σ H λv H1=>td σ H1 λx H2=>ty σ H2 λy H3=>∃a H4,x= .ref a/\jU H3 a y v H4/\D.nx σ H4
section
variable {X:Cx} {o i e value:NN} {pos pos' tpos:Pos} {td ty tv:TE}
theorem tO(hu:X.A.units+1 < N4)(ho:PE X o td)(hi:PE X i ty)(hs:lF i):PE X (.Subscript o i pos) (Cm td ty):=by
 intro O6 s σ H Q I h;refine Cj PySem.F.slot_dict_getitem.lookup hs (ar (ho O6 s σ H _ I h) λu s1 ⟨x,H1,I1,rx,q1⟩=>ar (hi O6 s1 σ H1 _ I1 q1) λiv s2 ⟨y,H2,I2,ry,a,v,ex,g,q2⟩=>?_);subst ex;obtain rfl:u=Ih a:=rx;exact⟨Ck I2 g,Ce hu I2 g ry λw' s3 I3 rw'=>⟨v,H2,I3,rw',q2⟩⟩
theorem tP(hu:X.A.units+1 < N4)(hi:PE X i ty)(ho:PE X o td):PC X .In i o (Cn ty td):=by
 intro O6 s σ H Q I h;refine ar (hi O6 s σ H _ I h) λiv s1 ⟨y,H1,I1,ry,q1⟩=>ar (ho O6 s1 σ H1 _ I1 q1) λu s2 ⟨x,H2,I2,rx,a,ov,ex,g,q2⟩=>?_;subst ex;obtain rfl:u=Ih a:=rx;exact Cf hu I2 g ry λs3 I3=>⟨.bl ov.isSome,H2,I3,rfl,q2⟩
theorem Cq(hu:X.A.units+1 < N4)(hi:PE X i ty)(ho:PE X o td):PC X .NotIn i o (Co ty td):=by
 intro O6 s σ H Q I h;refine ar (hi O6 s σ H _ I h) λiv s1 ⟨y,H1,I1,ry,q1⟩=>ar (ho O6 s1 σ H1 _ I1 q1) λu s2 ⟨x,H2,I2,rx,a,ov,ex,g,q2⟩=>?_;subst ex;obtain rfl:u=Ih a:=rx;exact Cg hu I2 g ry λs3 I3=>⟨.bl (!ov.isSome),H2,I3,rfl,q2⟩
theorem Cr(hu:X.A.units+1 < N4)(ho:PE X o td)(hi:PE X i ty)(hv:PE X value tv)(hs:Oa value (some (.Subscript o i pos')) pos.line X.env=pure false):
 PS X (.Assign [.Subscript o i pos'] value pos) (Cp td ty tv):=by
 intro O6 s σ H D I h;refine wpAny_Assign_Subscript (ar (hv O6 s σ H _ I h) λr s1 ⟨v,H1,I1,rv,q1⟩=>ar (ho O6 s1 σ H1 _ I1 q1) λu s2 ⟨x,H2,I2,rx,q2⟩=>ar (hi O6 s2 σ H2 _ I2 q2) λiv s3 ⟨y,H3,I3,ry,a,H4,ex,g,q3⟩=>?_) hs;subst ex;obtain rfl:u=Ih a:=rx;exact Ci hu I3 g ry rv λs4 I4=>⟨σ,H4,I4,q3⟩
end
theorem tQ{P:NV}{w:NX}{H:Hp}(h:NZ)(hb:Oh < h.objs.size):bD P w H (h.push {cls:= .type "dict",data:= .dict #[]}) h.objs.size (.dK []):=
 ⟨Jl _,beq_eq_false_iff_ne.mpr (Ne.symm (Ip hb)),[],.nil,MQ h⟩
def Cs:TE:=λ_ H Q=>∀p,H p=none->Q (.ref p) (ak H p (.dK []))
section
variable {X:Cx} {pos:Pos}
theorem tR:PE X (.Dict [] [] pos) Cs:=λO6 s σ H Q I h=>
 wpAny_Dict_empty ⟨.ref s.heap.objs.size,_,I.laid (a:=s.heap.objs.size) (o:= .dK []) (t':=s.toks) (λ_ _ q=>HH _ q) (HE _) (tQ s.heap I.big),rfl,h _ (I.hok.fresh (HE _))⟩
end
def lG:List (TE×TE)->St->Hp->(List (V×V)->Hp->Prop)->Prop
 | [],_,H,Q=>Q [] H
 | (tk,tv)::r,σ,H,Q=>tk σ H λx H1=>tv σ H1 λy H2=>lG r σ H2 λps H3=>Q ((x,y)::ps) H3
abbrev VV:List (V×V)->List (NJ×NJ)->Prop:=Paired λp q=>ax p.1 q.1/\ax p.2 q.2
def jV(X:Cx)(pos:Pos)(keys:List (Option NN))(values:List NN)(trs:List (TE×TE)):Prop:=
 ∀(O6:List (NK×Obj))(s:NL)(σ:St)(H:Hp)(Q:List (V×V)->Hp->Prop),ae X O6 σ H s->lG trs σ H Q->
  NS (NT X.prog X.w) X.A (evalPairs (pairTrees keys values X.env pos)) (λvs s'=>∃ps H',ae X O6 σ H' s'/\VV ps vs/\Q ps H') X.xe s
theorem Ct{X:Cx}{pos:Pos}:jV X pos [] [] []:=λO6 s σ H Q I h=>pairTrees_nil_walk ⟨[],H,I,.nil,h⟩
theorem Cu{X:Cx}{pos:Pos}{k v:NN}{ks:List (Option NN)}{vs:List NN}{tk tv:TE}{trs:List (TE×TE)}(hk:PE X k tk)(hv:PE X v tv)(hr:jV X pos ks vs trs):
 jV X pos (some k::ks) (v::vs) ((tk,tv)::trs):=λO6 s σ H Q I h=>
 pairTrees_cons_walk (ar (hk O6 s σ H _ I h) λu s1 ⟨x,H1,I1,rx,q1⟩=>ar (hv O6 s1 σ H1 _ I1 q1) λw2 s2 ⟨y,H2,I2,ry,q2⟩=>
  ar (hr O6 s2 σ H2 _ I2 q2) λws s3 uu77=>by obtain⟨ps,H3,I3,rel,q3⟩:=uu77;exact⟨(x,y)::ps,H3,I3,.cons ⟨rx,ry⟩ rel,q3⟩)
def d9(kvs more:List (ah×V)):List (ah×V):=more.foldl (λacc kv=>putK acc kv.1 kv.2) kvs
theorem KV.merge:∀{more:List (ah×V)}{rs:List (ah×NJ)}{kvs:List (ah×V)}{vs:List (ah×NJ)},KV more rs->KV kvs vs->KV (d9 kvs more) (merged vs rs):=by
 intro more rs kvs vs r;unfold KV at r
 induction r generalizing kvs vs with
 | nil=>intro q;exact q
 | @cons p q ps qs h t ih=>
  intro r0;have e:KV (putK kvs p.1 p.2) (stored vs q.1 q.2):=by
   have:=r0.put p.1 h.2;rw [<-h.1];exact this
  exact ih e
theorem nQ:∀(more kvs:List (ah×V)),(d9 kvs more).length<=kvs.length+more.length
 | [],kvs=>by show kvs.length<=kvs.length+0;omega
 | p::r,kvs=>by
  have h1:=nQ r (putK kvs p.1 p.2);have h2:=nN kvs p.1 p.2;show(d9 (putK kvs p.1 p.2) r).length<=_;rw [HN];omega
theorem tS{P:NV}{w:NX}:∀{kvs:List (ah×V)}{ws:List (NJ×NJ)},VV (kvs.map λkv=>(kV kv.1,kv.2)) ws->∃rs,Carries (bQ P w) ws rs/\KV kvs rs
 | [],_,r=>by rw [Jq] at r;cases r;exact⟨[],Jh,.nil⟩
 | p::kvs,_,r=>by
  rw [HF] at r;cases r with
  | @cons a b as bs h t=>
   obtain⟨rs,c,q⟩:=tS (P:=P) (w:=w) t;obtain⟨b1,b2⟩:=b;exact⟨(p.1,b2)::rs,⟨gq h.1,rfl,c⟩,.cons ⟨rfl,h.2⟩ q⟩
def Cv(trs:List (TE×TE)):TE:=λσ H Q=>∀p,H p=none->lG trs σ (ak H p (.dK [])) λps H2=>H2 p=some (.dK [])/\∃kvs:List (ah×V),ps=kvs.map (λkv=>(kV kv.1,kv.2))/\kvs.length<=15/\Q (.ref p) (ak H2 p (.dK (d9 [] kvs)))
theorem tT{X:Cx}{pos:Pos}{keys:List (Option NN)}{values:List NN}{trs:List (TE×TE)}(h:jV X pos keys values trs)(hall:keys.all (·.isSome)=true)(hl:keys.length=values.length)(h0:keys≠[])
 (h15:keys.length<=15):PE X (.Dict keys values pos) (Cv trs):=by
 intro O6 s σ H Q I q;have hn:=I.hok.fresh (HE s.heap.objs.size);have I1:=I.laid (a:=s.heap.objs.size) (o:= .dK []) (h':=s.heap.push {cls:= .type "dict",data:= .dict #[]}) (t':=s.toks) (λ_ _ q=>HH _ q) (HE _) (tQ s.heap I.big);refine wpAny_Dict_walk (knd:=bQ X.prog X.w) hall hl h0 h15 (ar (h O6 _ σ _ _ I1 (q _ hn)) λws s2 ⟨ps,H2,I2,rel,e,kvs,ep,lk,q2⟩=>?_);subst ep;obtain⟨rs,c,rk⟩:=tS (P:=X.prog) (w:=X.w) rel;obtain⟨z,hd,vs0,r0,dd⟩:=tN I2.hok e;cases r0;refine⟨rs,c,dd,λh' dd' hs=>⟨.ref s.heap.objs.size,_,?_,rfl,q2⟩⟩;have hz:(d9 [] kvs).length<=NO:=by
  have h1:=nQ kvs [];rw [Jt] at h1;rw [Ox];omega
 have he:∃q,h'.get? s.heap.objs.size=some q:=let ⟨q,_,_,hq,_⟩:=dd';⟨q,hq⟩
 exact nO I2 (by rw [e];exact Jh) hs he (nP hz hd (rk.merge .nil) dd')
structure M1 (X:Cx) (o:NN) (m:Str) (apos:Pos) (e:NN) (cpos:Pos):Prop where
 base:Ou o m X.env (eval o X.env)=eval o X.env
 few:((N7 cpos (NP [e] X.env)).all (λx=>!x.1) && (OQ cpos (Oz [] X.env)).all (λx=>x.1.isSome)
  && decide (([e]:List NN).length+([]:List Oq).length+(if ([]:List Oq).isEmpty then 0 else 1) < 30))=true
 line:(apos.endLine==cpos.line)=true
 trees:N7 cpos (NP [e] X.env)=[(false,eval e X.env)]
structure M2 (X:Cx) (o:NN) (m:Str) (apos:Pos) (e f:NN) (cpos:Pos):Prop where
 base:Ou o m X.env (eval o X.env)=eval o X.env
 few:((N7 cpos (NP [e,f] X.env)).all (λx=>!x.1) && (OQ cpos (Oz [] X.env)).all (λx=>x.1.isSome)
  && decide (([e,f]:List NN).length+([]:List Oq).length+(if ([]:List Oq).isEmpty then 0 else 1) < 30))=true
 line:(apos.endLine==cpos.line)=true
 trees:N7 cpos (NP [e,f] X.env)=[(false,eval e X.env),(false,eval f X.env)]
def nR(H:Hp)(a:NK):Prop:=(∃kvs,Rd H a (.dK kvs))\/∃kvs,Rd H a (.dT kvs)
theorem tU{X:Cx}{O6:List (NK×Obj)}{σ:St}{H:Hp}{s:NL}{a:NK}(I:ae X O6 σ H s)(d:nR H a):
 s.TypeIs (.ref a) "dict"/\(∀b,Ih a= .ref b->∃ob,s.heap.get? b=some ob/\ob.dict=none)/\(a==Oh)=false:=by
 rcases d with⟨kvs,e⟩ | ⟨kvs,e⟩
 ·obtain⟨_,hd,vs,_,dd⟩:=gK I.hok e;refine⟨dd.typeIs,λb q=>?_,hd⟩;cases q;obtain⟨ob,_,_,h1,h2,_⟩:=dd;exact⟨ob,h1,h2.2.1⟩
 ·obtain⟨_,hd,xs,_,dd⟩:=gL I.hok e;refine⟨dd.typeIs,λb q=>?_,hd⟩;cases q;obtain⟨ob,_,_,h1,h2,_⟩:=dd;exact⟨ob,h1,h2.2.1⟩
section
variable {X:Cx} {O6:List (NK×Obj)} {σ:St} {H:Hp} {s:NL} {a:NK} {y d:V} {u r:NJ} {o:Option V} {A:N2} {E:NJ->NL->Prop}
theorem Cw{Q:NJ->NL->Prop}(hu:A.units+1 < N4)(I:ae X O6 σ H s)(g:cq H a y o)(ry:ax y u)(h:∀w' s',ae X O6 σ H s'->ax (o.getD .non) w'->Q w' s'):
 NS (NT X.prog X.w) A (call (.builtin "dict.get") [.ref a,u]) Q E s:=by
 rcases g with⟨kvs,k,e,ey,l⟩ | ⟨kvs,k,b,e,ey,eb,l⟩
 ·subst ey;obtain⟨z,hd,vs,rel,dd⟩:=gK I.hok e;refine call_meetsIn JC dd.typeIs Kb (LP _ _) (meets_dict_get (bQ X.prog X.w) a (gq ry) hd) ⟨_,dd.mapOf,h _ _ (I.tok _) ?_⟩;rw [l];exact(rel.val k).getD rfl
 ·subst ey;cases (show u=Ih b from ry);obtain⟨z,hd,xs,rel,dd⟩:=gL I.hok e;refine call_meetsIn JC dd.typeIs Kb (LP _ _) (meetsH_dict_get (OK (bQ X.prog X.w)) a b hd) ⟨Om hu,k,xs,ig I.hok eb,dd,h _ _ (I.tok _) ?_⟩;rw [l];exact(rel.val k).getD rfl
theorem Cy{Q:NJ->NL->Prop}(hu:A.units+1 < N4)(I:ae X O6 σ H s)(g:cq H a y o)(ry:ax y u)(rd:ax d r)(h:∀w' s',ae X O6 σ H s'->ax (o.getD d) w'->Q w' s'):
 NS (NT X.prog X.w) A (call (.builtin "dict.get") [.ref a,u,r]) Q E s:=by
 rcases g with⟨kvs,k,e,ey,l⟩ | ⟨kvs,k,b,e,ey,eb,l⟩
 ·subst ey;obtain⟨z,hd,vs,rel,dd⟩:=gK I.hok e;refine call_meetsIn JC dd.typeIs Kb (LQ _ _ _) (meets_dict_get_default (bQ X.prog X.w) a (gq ry) hd r) ⟨_,dd.mapOf,h _ _ (I.tok _) ?_⟩;rw [l];exact(rel.val k).getD rd
 ·subst ey;cases (show u=Ih b from ry);obtain⟨z,hd,xs,rel,dd⟩:=gL I.hok e;refine call_meetsIn JC dd.typeIs Kb (LQ _ _ _) (meetsH_dict_get_default (OK (bQ X.prog X.w)) a b hd r) ⟨Om hu,k,xs,ig I.hok eb,dd,h _ _ (I.tok _) ?_⟩;rw [l];exact(rel.val k).getD rd
end
def Cz(td ty:TE):TE:=λσ H Q=>td σ H λx H1=>∃a,x= .ref a/\nR H1 a/\ty σ H1 λy H2=>∃o,cq H2 a y o/\Q (o.getD .non) H2
def CA(td ty tx:TE):TE:=λσ H Q=>td σ H λx H1=>∃a,x= .ref a/\nR H1 a/\ty σ H1 λy H2=>tx σ H2 λz H3=>∃o,cq H3 a y o/\Q (o.getD z) H3
section
variable {X:Cx} {o e f:NN} {apos cpos:Pos} {td ty tx:TE}
theorem tV(hu:X.A.units+1 < N4)(ho:PE X o td)(he:PE X e ty)(m:M1 X o "get" apos e cpos):PE X (.Call (.Attribute o "get" apos) [e] [] cpos) (Cz td ty):=by
 intro O6 s σ H Q I h;refine wpAny_Call_method m.base m.few m.line LR JC L7 (ar (ho O6 s σ H _ I h) λu s1 ⟨x,H1,I1,rx,a,ex,d,q1⟩=>?_);subst ex;obtain rfl:u=Ih a:=rx;obtain⟨t1,t2,_⟩:=tU I1 d;refine⟨t1,t2,?_⟩;rw [m.trees];refine KQ rfl (K1 (Kw (ar (he O6 s1 σ H1 _ I1 q1) λiv s2 ⟨y,H2,I2,ry,ov,g,q2⟩=>Lo ?_)));exact Cw hu I2 g ry λw' s3 I3 rw'=>⟨_,H2,I3,rw',q2⟩
theorem CB(hu:X.A.units+1 < N4)(ho:PE X o td)(he:PE X e ty)(hf:PE X f tx)(m:M2 X o "get" apos e f cpos):PE X (.Call (.Attribute o "get" apos) [e,f] [] cpos) (CA td ty tx):=by
 intro O6 s σ H Q I h;refine wpAny_Call_method m.base m.few m.line LR JC L7 (ar (ho O6 s σ H _ I h) λu s1 ⟨x,H1,I1,rx,a,ex,d,q1⟩=>?_);subst ex;obtain rfl:u=Ih a:=rx;obtain⟨t1,t2,_⟩:=tU I1 d;refine⟨t1,t2,?_⟩;rw [m.trees];refine KQ rfl (K1 (Kw (ar (he O6 s1 σ H1 _ I1 q1) λiv s2 ⟨y,H2,I2,ry,q2⟩=>
  Kw (ar (hf O6 s2 σ H2 _ I2 q2) λfv s3 ⟨z,H3,I3,rz,ov,g,q3⟩=>Lo ?_))))
 exact Cy hu I3 g ry rz λw' s4 I4 rw'=>⟨_,H3,I4,rw',q3⟩
end
section
variable {X:Cx} {H0:Hp} {O0:Ex}
def litsOf:List NN->Option (List NI)
 | []=>some []
 | .Constant (.int i) _ _::r=>(litsOf r).map (.int i::·)
 | .Constant (.str x) _ _::r=>(litsOf r).map (.str x::·)
 | _::_=>none
def nS(ds:List NI):DA:=λ_ Q=>Q ds
theorem gM:∀{es:List NN}{ds:List NI},litsOf es=some ds->PA X es (eJ X.K H0 O0 (nS ds))
 | [],ds,h=>by cases h;exact ag
 | e::r,ds,h=>by
  cases e with
  | Constant c j p=>
   cases c with
   | int i=>
    have h':(litsOf r).map (.int i::·)=some ds:=h;cases q:litsOf r with
    | none=>rw [q] at h';cases h'
    | some ms=>rw [q] at h';cases h';exact aa af (gM q)
   | str x=>
    have h':(litsOf r).map (.str x::·)=some ds:=h;cases q:litsOf r with
    | none=>rw [q] at h';cases h'
    | some ms=>rw [q] at h';cases h';exact aa aM (gM q)
   | _=>cases h
  | _=>cases h
def litsE:NN->Option (List NI)
 | .List es _=>litsOf es
 | _=>none
theorem tW{e:NN}{ds:List NI}(h:litsE e=some ds):FE X H0 O0 e (nB (nS ds)):=by
 cases e with
 | List es p=>exact cv (gM h)
 | _=>cases h
end
structure cu (n:Nat) (x:Str):Prop where
 ok:Im x=true
 le:x.length<=n
theorem gN{x:Str}:Im x=true↔∀c∈x.cps.toList,c < 0x110000:=by
 unfold Im;rw [<-Array.all_toList,Ja];simp
theorem jW(x y:Str):(x++y).cps=x.cps++y.cps:=rfl
theorem tX(x y:Str):(x++y).length=x.length+y.length:=by
 show(x.cps++y.cps).size=_;rw [Array.size_append];rfl
theorem cu.append{a b:Nat}{x y:Str}(h:cu a x)(h':cu b y):cu (a+b) (x++y):=by
 refine⟨gN.mpr λc hc=>?_,by rw [tX];have:=h.le;have:=h'.le;omega⟩;rw [jW,J4] at hc;rcases Ij.mp hc with z | z
 ·exact gN.mp h.ok c z
 ·exact gN.mp h'.ok c z
theorem cu.mono{a b:Nat}{x:Str}(h:cu a x)(hb:a<=b):cu b x:=⟨h.ok,Il h.le hb⟩
theorem cu.slice{a:Nat}{x:Str}(h:cu a x)(l u:Option Int):cu a (Txt.slice x l u):=by
 refine⟨gN.mpr λc hc=>?_,Il (Txt.slice_le x l u) h.le⟩;unfold Txt.slice at hc;split at hc
 ·exact gN.mp h.ok c hc
 ·simp only [Kv] at hc;obtain⟨i,_,hi⟩:=hc;exact gN.mp h.ok c (by
   have:=Array.mem_of_getElem? hi;simpa using this)
theorem cu.chr{c:Nat}(h:c < 0x110000):cu 1 ⟨#[c]⟩:=⟨gN.mpr λd hd=>by
 have:d=c:=by simpa using hd
 rw [this];exact h,HE _⟩
theorem cu.join:∀{ys:List Str},(∀y∈ys,cu 1 y)->cu ys.length (Txt.join "" ys):=by
 have key:∀ys:List Str,(∀y∈ys,cu 1 y)->cu ys.length (MF "" ys):=by
  intro ys
  induction ys with
  | nil=>intro _;exact⟨NA,NA⟩
  | cons y r ih=>
   intro h;cases r with
   | nil=>exact h y NH
   | cons z r=>
    have a:=h y NH;have b:=ih λw hw=>h w (by simp [hw]);have e:cu 0 ("":Str):=⟨NA,NA⟩;have:=(a.append e).append b;refine this.mono ?_;simp only [HN];omega
 intro ys h;have e:Txt.join "" ys=MF "" ys:=L8 "" ys;rw [e];exact key ys h
def cH:Str:="abcdefghijklmnopqrstuvwxyz"
theorem CC:cH.cps.toList.length=26:=NA
theorem CD:cH.cps.toList.Nodup:=NA
theorem tY:∀c∈cH.cps.toList,c < 0x110000:=NA
theorem jX{j:Int}(h0:0<=j)(h1:j < 26):∃c,atI cH.cps.toList j=some c/\cH.cps.toList[j.toNat]?=some c/\c < 0x110000:=by
 obtain⟨k,rfl⟩:=Jp h0;have hk:k < cH.cps.toList.length:=by rw [CC];omega
 refine⟨cH.cps.toList[k],cQ (by simp [hk]),by simp [hk],tY _ (IP hk)⟩
def cz(j:Int):Nat:=(cH.cps.toList[j.toNat]?).getD 0
theorem CF{j:Int}(h0:0<=j)(h1:j < 26):atI cH.cps.toList j=some (cz j)/\cz j < 0x110000:=by
 obtain⟨c,e1,e2,e3⟩:=jX h0 h1;have:cz j=c:=by unfold cz;rw [e2];rfl
 rw [this];exact⟨e1,e3⟩
theorem CG{i j:Int}(h0:0<=i)(h1:i < 26)(g0:0<=j)(g1:j < 26)(e:cz i=cz j):i=j:=by
 obtain⟨c,_,e2,_⟩:=jX h0 h1;obtain⟨d,_,e4,_⟩:=jX g0 g1;have a:cz i=c:=by unfold cz;rw [e2];rfl
 have b:cz j=d:=by unfold cz;rw [e4];rfl
 have cd:c=d:=by rw [<-a,<-b,e]
 subst cd;have hi:i.toNat < cH.cps.toList.length:=(HP.mp e2).1;have:=(Mx (l:=cH.cps.toList) (i:=i.toNat) (j:=j.toNat) hi CD).mp (by rw [e2,e4]);omega
structure cx (n:Nat) (d:NI):Prop where
 can:d.canLay0=true
 dep:d.depth<=n
theorem cx.shp{n:Nat}{d:NI}(h:cx n d)(hn:n<=64):HJ d=true:=by
 unfold HJ;rw [h.can,decide_eq_true (Il h.dep hn)];rfl
theorem cx.mono{n m:Nat}{d:NI}(h:cx n d)(hn:n<=m):cx m d:=⟨h.can,Il h.dep hn⟩
theorem tZ{x:Str}(h:Im x=true):cx 1 (.str x):=⟨by simpa [IC] using h,by simp [Kf]⟩
theorem CH{i:Int}:cx 1 (.int i):=⟨by simp [IC],by simp [Kf]⟩
theorem CI{i:Bool}:cx 1 (.bool i):=⟨by simp [IC],by simp [Kf]⟩
theorem nT{n:Nat}:∀{ds:List NI},(∀d∈ds,cx n d)->IX ds=true/\JI ds<=n
 | [],_=>⟨by simp [IX],by simp [JI]⟩
 | d::r,h=>by
  obtain⟨a,b⟩:=nT (ds:=r) λe he=>h e (by simp [he]);have c:=h d NH;refine⟨by rw [IX,c.can,a];rfl,?_⟩;rw [JI];exact Nat.max_le.mpr ⟨c.dep,b⟩
theorem dP{n:Nat}{ds:List NI}(h:∀d∈ds,cx n d):cx (n+1) (.tuple ds):=by
 obtain⟨a,b⟩:=nT h;refine⟨by simpa [IC] using a,?_⟩;rw [Kf];omega
def PU(X:Cx)(e:NN)(te:TE):Prop:=∀(i:Nat)(x:Str)(pos' spos:Pos)(hN:X.N.Nodup)(hxi:X.N[i]?=some x)(hx:fc X.env.scope x)(hsw:Oa e (some (.Name x pos')) spos.line X.env=pure true)
 (hfn:X.fn x=true\/X.env.scope.names.lookup x=some .local),PS X (.Assign [.Name x pos'] e spos) (jy te (g5 i))
theorem PU.imp{X:Cx}{e:NN}{t u:TE}(h:PU X e t)(i:∀σ H Q,u σ H Q->t σ H Q):PU X e u:=λi' x p1 p2 hN hxi hx hsw hfn=>(h i' x p1 p2 hN hxi hx hsw hfn).imp λD σ H z=>i σ H _ z
section
variable {X:Cx} {H0:Hp} {O0:Ex}
section
variable {tg iter elt:NN} {ifs:List NN} {scope:Of} {N':List Str} {k:Nat} {fr:List Nat} {g:TG} {dg:DG} {t:DT} {ta:DA} {tc:DB} {te:DT} {pos p ps:Pos}
theorem t5{wi:TI}{tc:TT}{te:TE}(hc:X.calm=true)(S:bu X.env.scope X.N N' k fr scope)(hi:PI X tg iter wi)
 (hg:∀fp C s H,PG (bo X scope N' fp C s H) tg g)(hf:∀fp C s H,cY (bo X scope N' fp C s H) ifs tc)(he:∀fp C s H,PE (bo X scope N' fp C s H) elt te)
 (hs:∀x,N0 iter X.env x=pure x:=by intro _;rfl):PU X (.ListComp elt [⟨tg,iter,ifs,0⟩] scope pos) (gF wi g tc te k fr):=
 λ_ _ _ _ hN hxi hx hsw hfn=>Bn hN hxi hx hc S hi hg hf he hsw hs hfn
theorem CJ(hc:X.calm=true)(S:bu X.env.scope X.N N' k fr scope)(hi:DF X H0 O0 iter t)(gd:GD X.K g dg)(hk:gh g k)(hfr:fr.Nodup)
 (hg:∀fp C s H,PG (bo X scope N' fp C s H) tg g)(hf:∀fp C s H,cY (bo X scope N' fp C s H) ifs (bL X.K H0 O0 tc))(he:∀fp C s H,PE (bo X scope N' fp C s H) elt (up X.K H0 O0 te))
 (hs:∀x,N0 iter X.env x=pure x:=by intro _;rfl):PU X (.ListComp elt [⟨tg,iter,ifs,0⟩] scope pos) (jM X.K H0 O0 (lz t dg tc te k fr)):=
 (t5 hc S (kI hi) hg hf he hs).imp λσ H Q uu84=>by obtain⟨O,δ,Qd,w,q,kk⟩:=uu84;exact⟨O,δ,_,w,q,λd v H1 uu85 s1 r1=>by
  obtain⟨xs,e,hz,q1⟩:=uu85;subst e;obtain⟨a,vs,rfl,hq,rr⟩:=r1.lst;refine⟨a,rfl,⟨_,hq⟩,λD hD=>ia (bT.list hq) gd hfr (λv _ H' R h=>hk fr σ v H' R h) (λ_ _ _ z=>z) (λ_ _ _ z=>z) (λD H' hD s' o e=>s' _ _ e (cC e hD)) rr (w.mono s1) (by rw [rr.length];exact hz) q1 (λds us p H' z s' hp r'=>kk ds us p H' z (s1.trans s') hp r') D hD⟩⟩
end
theorem nU{i:Nat}{x:Str}{e:NN}{t:DA}{pos pos':Pos}(hN:X.N.Nodup)(hi:X.N[i]?=some x)(hx:fc X.env.scope x)(he:PU X e (jM X.K H0 O0 t))(hs:Oa e (some (.Name x pos')) pos.line X.env=pure true:=by rfl)(hf:X.fn x=true\/X.env.scope.names.lookup x=some .local:=by first | exact .inl rfl | exact .inr rfl | assumption):
 PS X (.Assign [.Name x pos'] e pos) (bh X.K H0 O0 (nA i (dL t))):=
 (he _ _ _ _ hN hi hx hs hf).imp λD σ H ⟨O,δ,E,w,q,k1,k2,k3,k4⟩=>⟨O,δ,_,w,q,λds vs p H1 q1 s1 hp r1=>
  k1 O _ _ _ q1 ((w.mono (s1.trans (ao.new hp))).set (.lst (.inl bj) (iX w s1 hp) (r1.mono (ao.new hp)))) (.same (s1.trans (ao.new hp)))⟩
end
mutual
theorem nV:∀d e:NI,HA d e=HA e d
 | .list xs,.list ys=>by rw [HA,HA];exact nW xs ys
 | .tuple xs,.tuple ys=>by rw [HA,HA];exact nW xs ys
 | .bool _,.bool _ | .int _,.int _ | .str _,.str _=>by simp only [HA];exact La
 | .bool a,.int j | .int j,.bool a=>by simp only [HA];exact La
 | .none,.none=>rfl
 | .dict _,.dict _=>by simp only [HA]
 | .none,.bool _ | .none,.int _ | .none,.str _ | .none,.list _ | .none,.tuple _ | .none,.dict _=>by simp only [HA]
 | .bool _,.none | .bool _,.str _ | .bool _,.list _ | .bool _,.tuple _ | .bool _,.dict _=>by simp only [HA]
 | .int _,.none | .int _,.str _ | .int _,.list _ | .int _,.tuple _ | .int _,.dict _=>by simp only [HA]
 | .str _,.none | .str _,.bool _ | .str _,.int _ | .str _,.list _ | .str _,.tuple _ | .str _,.dict _=>by simp only [HA]
 | .list _,.none | .list _,.bool _ | .list _,.int _ | .list _,.str _ | .list _,.tuple _ | .list _,.dict _=>by simp only [HA]
 | .tuple _,.none | .tuple _,.bool _ | .tuple _,.int _ | .tuple _,.str _ | .tuple _,.list _ | .tuple _,.dict _=>by simp only [HA]
 | .dict _,.none | .dict _,.bool _ | .dict _,.int _ | .dict _,.str _ | .dict _,.list _ | .dict _,.tuple _=>by simp only [HA]
theorem nW:∀xs ys:List NI,Jr xs ys=Jr ys xs
 | [],[]=>rfl
 | x::xs,y::ys=>by rw [Jr,Jr,nV x y,nW xs ys]
 | [],_::_=>by rw [Jr,Jr]
 | _::_,[]=>by rw [Jr,Jr]
end
def nX(z:Str):It:=⟨λi _=>i < z.cps.size,λi H x H'=>H'=H/\∃c,z.cps[i]?=some c/\x= .str ⟨#[c]⟩,λi _=>z.cps.size<=i⟩
theorem CK(z:Str):["enumerate","zip","dict_itemiterator","dict_reverseitemiterator","odict_iterator","itertools.zip_longest","itertools.pairwise"].contains (OH z)=false:=by
 unfold OH;split <;> decide
theorem t6{P:NV}{w:NX}{A:N2}(hh:A.handled=none)(I:NK)(z:Str)(t:Tok):Walks P w A I [I] [I] z.cps.size (SignAt z) (λi h=>h.IsStrIter I (OH z) z t i):=by
 unfold OH;split
 ·exact Walks.strAscii hh I z t
 ·exact Walks.strWide hh I z t
theorem CL{P:NV}{w:NX}{K:Hx}{tg:NN}(it:NK)(z:Str)(t:Tok):iI P w K tg (nX z) [it] it (λi h=>h.IsStrIter it (OH z) z t i/\i<=z.cps.size) where
 mem:=NH
 obj:=λi h st b hb=>by
  have e:b=it:=by simpa using hb
  subst e;obtain⟨⟨o,e,c,d⟩,_⟩:=st;exact⟨o,e,λv z=>by rw [d] at z;cases z⟩
 keep:=λi h h' st k=>by
  obtain⟨⟨o,e,c,d⟩,l⟩:=st;exact⟨⟨o,k it NH o e,c,d⟩,l⟩
 item:=by
  intro X hP hw hK hc i O6 s σ H E I hf st hg;subst hP hw hK;obtain⟨f0,f1,f2,f3,f4,f5⟩:=hf it NH;have W:=t6 (P:=X.prog) (w:=X.w) (I.ok.hd hc) it z t;refine W.item i s _ _ hg st.1 λv h' tk hv st' kk=>?_;obtain⟨c,u,hc',rfl⟩:=hv;have I1:ae X O6 σ H {s with heap:=h',toks:=tk}:=I.turned (λb o hb e=>kk b o (by simpa using hb) e) f0 f1 f3 f4 f5;obtain⟨o,e,cc,d⟩:=id st';exact⟨_,rfl,jz (s:={s with heap:=h',toks:=tk}) e cc d (CK z) ⟨.str ⟨#[c]⟩,H,I1,⟨u,rfl⟩,⟨rfl,c,hc',rfl⟩,⟨st',hg⟩,λb hb=>(hf b hb).1⟩⟩
 done:=by
  intro X hP hw hK hc i O6 s σ H E I hf st hg;subst hP hw hK;obtain⟨f0,f1,f2,f3,f4,f5⟩:=hf it NH;have W:=t6 (P:=X.prog) (w:=X.w) (I.ok.hd hc) it z t;have e:i=z.cps.size:=Nat.le_antisymm st.2 hg;subst e;exact W.done s _ _ st.1 λh' tk eb=>⟨rfl,I.turned (λb o hb e=>eb b o (by simpa using hb) e) f0 f1 f3 f4 f5⟩
 self:=λA i s Q E st h=>by
  obtain⟨st,_⟩:=st
  revert st
  unfold OH;split
  ·exact λst=>wpAny_pyIter_striter_ascii st h
  ·exact λst=>wpAny_pyIter_striter_wide st h
def CM(tl:TE):TI:=λσ H R=>tl σ H λx H1=>∃z,x= .str z/\R (nX z) H1
theorem CN{X:Cx}{tg l:NN}{tl:TE}(hl:PE X l tl):PI X tg l (CM tl):=by
 intro O6 s σ H R I h;refine ar (hl O6 s σ H _ I h) λv s1 ⟨x,H1,I1,r1,q1⟩=>?_;obtain⟨z,e,q⟩:=q1;subst e;obtain⟨t,rfl⟩:=r1;refine wpAny_pyIter_strU ?_;refine⟨s1.heap.objs.size,[s1.heap.objs.size],_,_,H1,rfl,I1.kept (t':=s1.toks) λb o e=>HH _ e,CL _ z t,⟨⟨_,IB _ rfl,rfl,rfl⟩,Jl _⟩,λb hb=>?_,q⟩;have e:b=s1.heap.objs.size:=by simpa using hb
 subst e;exact I1.fpOk (HE _) (I1.hok.fresh (HE _))
def t7(z:Str):List NI:=z.cps.toList.map λc=>.str ⟨#[c]⟩
theorem bT.str{z:Str}:bT (nX z) (λ_=>True) (z.cps.toList.map λc=>V.str ⟨#[c]⟩):=by
 refine⟨λi H' s hi=>(by simpa using hi:i < z.cps.size),λi H' x H'' s hi y=>⟨y.1,?_⟩,λi H' s hi=>(by simpa using hi:z.cps.size<=i)⟩;obtain⟨_,c,hc,rfl⟩:=y;simp [hc]
theorem ai.signs{K:Hx}{H:Hp}{O:Ex}:∀(l:List Nat),ai K H O (l.map λc=>V.str ⟨#[c]⟩) (l.map λc=>Hy ⟨#[c]⟩)
 | []=>.nil
 | n::r=>.cons (.str _) (ai.signs r)
section
variable {X:Cx} {H0:Hp} {O0:Ex}
def t8(t:DT)(g:DG)(tc:DB)(te:DT)(k:Nat)(fr:List Nat):DA:=λδ Q=>t δ λd=>∃z,d= .str z/\z.length<=NO/\fI g tc te (dj k fr δ) (t7 z) Q
def t9(ta:DA)(g:DG)(tc:DB)(te:DT)(k:Nat)(fr:List Nat):DA:=λδ Q=>ta δ λds=>∃i j:Int,ds=[.int i,.int j]/\-(2 ^ 62)<=i/\j - i < NO/\i < 2 ^ 62/\-(2 ^ 62)<=j/\j < 2 ^ 62/\fI g tc te (dj k fr δ) (dN i (j - i).toNat) Q
section
variable {tg iter elt:NN} {ifs:List NN} {scope:Of} {N':List Str} {k:Nat} {fr:List Nat} {g:TG} {dg:DG} {t:DT} {ta:DA} {tc:DB} {te:DT} {pos p ps:Pos}
theorem CO(hc:X.calm=true)(S:bu X.env.scope X.N N' k fr scope)(hi:DF X H0 O0 iter t)(gd:GD X.K g dg)(hk:gh g k)(hfr:fr.Nodup)
 (hg:∀fp C s H,PG (bo X scope N' fp C s H) tg g)(hf:∀fp C s H,cY (bo X scope N' fp C s H) ifs (bL X.K H0 O0 tc))(he:∀fp C s H,PE (bo X scope N' fp C s H) elt (up X.K H0 O0 te))
 (hs:∀x,N0 iter X.env x=pure x:=by intro _;rfl):FE X H0 O0 (.ListComp elt [⟨tg,iter,ifs,0⟩] scope pos) (t8 t dg tc te k fr):=
 (jJ hc S (CN hi) hg hf he hs).imp λσ H Q uu88=>by obtain⟨O,δ,Qd,w,q,kk⟩:=uu88;exact⟨O,δ,_,w,q,λd v H1 uu89 s1 r1=>by
  obtain⟨z,e,hz,q1⟩:=uu89;subst e;cases r1.str;have hz':(z.cps.toList.map λc=>V.str ⟨#[c]⟩).length<=NO:=by rw [HB,IV];exact hz
  exact⟨z,rfl,λD hD=>ia (P:=λ_=>True) bT.str gd hfr (λv _ H' R h=>hk fr σ v H' R h) (λ_ _ _ z=>z) (λ_ _ _ z=>z) (λ_ _ _ _=>trivial) (ai.signs _) (w.mono s1) hz' q1 (λds us p H' z s' hp r'=>kk ds us p H' z (s1.trans s') hp r') D hD⟩⟩
theorem ua(hc:X.calm=true){a b:NN}(S:bu X.env.scope X.N N' k fr scope)(hgl:Gl X "range")(hm:X.mg "range"=none)(ha:PA X [a,b] (d8 X.K H0 O0 ta))(gd:GD X.K g dg)(hk:gh g k)(hfr:fr.Nodup)
 (hg:∀fp C s H,PG (bo X scope N' fp C s H) tg g)(hf:∀fp C s H,cY (bo X scope N' fp C s H) ifs (bL X.K H0 O0 tc))(he:∀fp C s H,PE (bo X scope N' fp C s H) elt (up X.K H0 O0 te))
 (hst:NP [a,b] X.env=[(false,eval a X.env),(false,eval b X.env)]:=by rfl)(hst2:NP [b] X.env=[(false,eval b X.env)]:=by rfl)(hs:∀x,N0 (.Call (.Name "range" p) [a,b] [] ps) X.env x=pure x:=by intro _;rfl):
 FE X H0 O0 (.ListComp elt [⟨tg,(.Call (.Name "range" p) [a,b] [] ps),ifs,0⟩] scope pos) (t9 ta dg tc te k fr):=
 (jJ hc S (qz hgl hm ha hst hst2) hg hf he hs).imp λσ H Q uu90=>by obtain⟨O,δ,Qd,w,q,kk⟩:=uu90;exact⟨O,δ,_,w,q,λds vs H1 uu91 s1 r1=>by
  obtain⟨i,j,e,b1,b2,b3,b4,b5,q1⟩:=uu91;subst e;cases r1 with
  | cons r1 r2=>
   cases r2 with
   | cons r2 r3=>
    cases r3;cases r1.int;cases r2.int;exact⟨i,j,rfl,⟨b1,b3,b4,b5⟩,λD hD=>ia (P:=λ_=>True) bT.rng gd hfr (λv _ H' R h=>hk fr σ v H' R h) (λ_ _ _ z=>z) (λ_ _ _ z=>z) (λ_ _ _ _=>trivial) (ai.rng _) (w.mono s1) (by rw [HB,KL];omega) q1 (λds us p H' z s' hp r'=>kk ds us p H' z (s1.trans s') hp r') D hD⟩⟩
end
def nY(K:Hx)(neg:Bool):R2:=λx y H Q=>∃O dx ds dy,Sh K H O x dx/\Sh K H O y dy/\(dy= .list ds\/dy= .tuple ds)/\bJ dx/\IX ds=true/\Q (.bl (if neg then !(ds.any λd=>HA d dx) else ds.any λd=>HA d dx)) H
theorem lH{A:N2}{k:Nat}{xs:List NI}{d:NI}(hd:bJ d)(hr:br k A):A.units+1+min (JI xs) d.depth < N4:=by
 have:=L6 hd;have h1:min (JI xs) d.depth<=d.depth:=MC _ _;have:=hr.un;omega
theorem uc{k:Nat}(hr:br k X.A):bf X (NY .In) (nY X.K false):=by
 intro O6 s σ H x y v u Q I rx ry h;obtain⟨O,dx,ds,dy,hx,hy,e,sx,sy,q⟩:=h;obtain⟨as,ra⟩:=fm I hx.all (IL sx) rx;rcases e with e | e <;> subst e
 ·obtain⟨bs,rb⟩:=fm I hy.all (by simpa [IC] using sy) ry;exact SeqAt.in_list_reads rb ra sy (IL sx) (lH sx hr) (d4 I q rfl)
 ·obtain⟨bs,rb⟩:=fm I hy.all (by simpa [IC] using sy) ry;exact SeqAt.in_tuple_reads rb ra sy (IL sx) (lH sx hr) (d4 I q rfl)
theorem ue{k:Nat}(hr:br k X.A):bf X (NY .NotIn) (nY X.K true):=by
 intro O6 s σ H x y v u Q I rx ry h;obtain⟨O,dx,ds,dy,hx,hy,e,sx,sy,q⟩:=h;obtain⟨as,ra⟩:=fm I hx.all (IL sx) rx;rcases e with e | e <;> subst e
 ·obtain⟨bs,rb⟩:=fm I hy.all (by simpa [IC] using sy) ry;exact SeqAt.notIn_list_reads rb ra sy (IL sx) (lH sx hr) (d4 I q rfl)
 ·obtain⟨bs,rb⟩:=fm I hy.all (by simpa [IC] using sy) ry;exact SeqAt.notIn_tuple_reads rb ra sy (IL sx) (lH sx hr) (d4 I q rfl)
def uf(neg:Bool):NI->NI->(NI->Prop)->Prop:=λx y Q=>∃ds,(y= .list ds\/y= .tuple ds)/\bJ x/\IX ds=true/\Q (.bool (if neg then !(ds.any λd=>HA d x) else ds.any λd=>HA d x))
theorem lI{K:Hx}{neg:Bool}:bE K (nY K neg) (uf neg):=λH O x y dx dy Qd R _ hx hy uu92 k=>by obtain⟨ds,e,a,b,q⟩:=uu92;exact⟨O,dx,ds,dy,hx,hy,e,a,b,k _ _ H q (ao.refl _) (.bl _)⟩
def ug:List NI->(NI->Prop)->Prop:=λds Q=>∃z:Str,ds=[.str z]/\z.length<=NO/\Q (.int z.length)
theorem uh{K:Hx}:gf K (λxs H Q=>∃z,xs=[.str z]/\z.length<=NO/\Q (.int z.length) H) ug:=λH O xs ds Qd R _ hs uu93 k=>by
 obtain⟨z,e,hz,q⟩:=uu93;subst e;cases hs with
 | cons h r=>cases r;cases h.str;exact⟨z,rfl,hz,k _ _ H q (ao.refl _) (.int _)⟩
def ui:NI->NI->(NI->Prop)->Prop:=λx y Q=>∃i j:Str,x= .str i/\y= .str j/\Q (.bool (decide (i.cps.toList < j.cps.toList)))
theorem CP{K:Hx}:bE K (λx y H Q=>∃i j,x= .str i/\y= .str j/\Q (.bl (decide (i.cps.toList < j.cps.toList))) H) ui:=λH O x y dx dy Qd R _ hx hy uu94 k=>by
 obtain⟨i,j,e1,e2,q⟩:=uu94;subst e1 e2;cases hx.str;cases hy.str;exact⟨i,j,rfl,rfl,k _ _ H q (ao.refl _) (.bl _)⟩
def uj:NI->NI->(NI->Prop)->Prop:=λx y Q=>∃i j:Str,x= .str i/\y= .str j/\Q (.bool (!(KG j i 0 j.length 1).isEmpty))
theorem CQ{K:Hx}:bE K (λx y H Q=>∃i j,x= .str i/\y= .str j/\Q (.bl (!(KG j i 0 j.length 1).isEmpty)) H) uj:=λH O x y dx dy Qd R _ hx hy uu95 k=>by
 obtain⟨i,j,e1,e2,q⟩:=uu95;subst e1 e2;cases hx.str;cases hy.str;exact⟨i,j,rfl,rfl,k _ _ H q (ao.refl _) (.bl _)⟩
theorem CS{prog:NV}{w:NX}{A:N2}{E:NJ->NL->Prop}{s:NL}{t sl:NK}{items:Array NJ}{vl vu:NJ}{lo hi:Option Int}{Q:NJ->NL->Prop}(ht:IsTup s.heap t items)(hs:s.heap.IsSliceOf sl vl vu .none)(pl:IsPart vl lo)(pu:IsPart vu hi)
 (hw:HT.sIx items.size 0 lo=0/\HT.sIx items.size items.size hi=items.size)(h:Q (.ref t) s):NS (NT prog w) A (Ot (.ref t) (.ref sl)) Q E s:=by
 obtain⟨os,hos,hcs,hds⟩:=id hs;have hTs:s.TypeIs (.ref sl) "slice":=⟨os,hos,hcs⟩;unfold Ot
 try with_reducible refine Oc ?_
 first | refine NM (NR ?_) | skip
 refine NM (OX ht.typeIs NB ?_);refine NM (OE (name:=HD "__getitem__") ht.typeIs Jd
  (OZ Jd ht.typeIs KU ?_ (KZ _ _)))
 show NS _ _ (Kl (.ref t) >>=_) _ _ s;refine NM (tupleItemsOf_ ht ?_);refine NM (OB hTs ?_);rw [NF NB];refine NM (HT.sliceApplied_gen hs pl pu ?_);show NS _ _ (if (((HT.sIx items.size 0 lo:Nat):Int)==0 && (1:Int)==1 && (HT.sIx items.size items.size hi - HT.sIx items.size 0 lo)==items.size)=true then _ else _) _ _ s;rw [NF (by rw [hw.1,hw.2];simp)];unfold Builtin.Tuple.tupleIsExact;refine NM (NM (OB ht.typeIs (NR ?_)));rw [NF NB];exact NM (wpAny_rule (NR ⟨_,rfl,NR h⟩))
def CT(K:Hx):V->Option Int->Option Int->Hp->VK->Prop:=λx lo hi H Q=>∃a xs,x= .ref a/\bg K H a xs/\
 ((HT.sIx xs.length 0 lo=0/\HT.sIx xs.length xs.length hi=xs.length)->Q x H)/\(¬(HT.sIx xs.length 0 lo=0/\HT.sIx xs.length xs.length hi=xs.length)->∀p,H p=none->Q (.ref p) (ak H p (.tup (fW xs lo hi))))
theorem CU:jH X (CT X.K):=by
 intro O6 s σ H x v vl vu lo hi sl Q I rx hs pl pu h;obtain⟨a,xs,rfl,hx,q1,q2⟩:=h;by_cases hw:HT.sIx xs.length 0 lo=0/\HT.sIx xs.length xs.length hi=xs.length
 ·cases rx;obtain⟨its,r,ht,hz⟩:=I.tuple hx;have hlen:its.toArray.size=xs.length:=by rw [HK];exact r.length.symm
  refine⟨"tuple",_,Jd.lookup,ht.typeIs,?_⟩;exact CS ht hs pl pu (by rw [hlen];exact hw) ⟨.ref a,H,I,rfl,q1 hw⟩
 ·exact AK O6 s σ H _ v vl vu lo hi sl Q I rx hs pl pu ⟨a,xs,rfl,hx,hw,q2 hw⟩
theorem CV{xs:List NI}{l u:Option Int}(h:HT.sIx xs.length 0 l=0/\HT.sIx xs.length xs.length u=xs.length):aR xs l u=xs:=by
 unfold aR;rw [h.1,h.2];simp
def uk(t:DT)(tl th:DO):DT:=λδ Q=>t δ λd=>tl δ λl=>th δ λu=>∃xs,d= .tuple xs/\Q (.tuple (aR xs l u))
theorem dQ{e:NN}{lo hi:Option NN}{t:DT}{tl th:DO}{pos p2:Pos}(h:DF X H0 O0 e t)(hl:PO X lo (fo X.K H0 O0 tl))(hu:PO X hi (fo X.K H0 O0 th)):DE X H0 O0 (.Subscript e (.Slice lo hi none p2) pos) (uk t tl th):=
 (kT CU h hl hu).imp λσ H Q ⟨O,δ,Qd,w,q,k⟩=>⟨O,δ,_,w,q,λd v H1 q1 s1 r1=>⟨O,δ,_,w.mono s1,q1,λl H2 q2 s2=>⟨O,δ,_,w.mono (s1.trans s2),q2,λu H3 uu0 s3=>by
  obtain⟨xs,e,q3⟩:=uu0;subst e;have r3:=r1.mono (s2.trans s3);have r4:=r3;obtain⟨a,vs,rfl,h1,d1⟩:=r4.tup;refine⟨a,vs,rfl,h1,λhw=>?_,λ_ p hp=>k _ _ _ q3 (s1.trans (s2.trans (s3.trans (ao.new hp)))) (.tup (.inl bj) (iX w (s1.trans (s2.trans s3)) hp) ((d1.cut l u).mono (ao.new hp)))⟩;rw [d1.length] at hw;rw [CV hw] at q3;cases r3 with
  | dt r3=>exact k _ _ _ q3 (s1.trans (s2.trans s3)) r3⟩⟩⟩
def cO(a b:Str):Bool:=decide (a.cps.toList<=b.cps.toList)
def eM(l:List Str):List Str:=l.mergeSort cO
theorem um(a b c:Str)(h:cO a b=true)(h':cO b c=true):cO a c=true:=
 decide_eq_true (List.le_trans (of_decide_eq_true h) (of_decide_eq_true h'))
theorem CW(a b:Str):(cO a b || cO b a)=true:=by
 rcases List.le_total a.cps.toList b.cps.toList with h | h
 ·unfold cO;rw [decide_eq_true h];rfl
 ·unfold cO;rw [decide_eq_true h,Bool.or_true]
theorem uo{a b:Str}(h:a.cps.toList=b.cps.toList):a=b:=by
 cases a;cases b;congr 1;exact Array.ext' h
theorem CY{a b:Str}(h:cO a b=true)(h':cO b a=true):a=b:=uo (MG (of_decide_eq_true h) (of_decide_eq_true h'))
theorem lJ(l:List Str):(eM l).Perm l:=List.mergeSort_perm l cO
theorem uq(l:List Str):(eM l).Pairwise λa b=>cO a b=true:=List.pairwise_mergeSort um CW l
theorem CZ{l m:List Str}(h:m.Perm l)(p:m.Pairwise λa b=>cO a b=true):m=eM l:=
 List.Perm.eq_of_pairwise (λa b _ _ x y=>CY x y) p (uq l) (h.trans (lJ l).symm)
theorem ur:∀(p:Str)(l:List Str),risingS p l=true->(p::l).Pairwise λa b=>cO a b=true
 | p,[],_=>by simp
 | p,x::r,h=>by
  rw [risingS,HX,Lu,ltCps_eq,decide_eq_false_iff_not] at h;have h1:cO p x=true:=decide_eq_true (MB.mp h.1);have h2:=ur x r h.2;rw [IQ];refine⟨λy hy=>?_,h2⟩;rcases HM.mp hy with z | z
  ·rw [z];exact h1
  ·exact um p x y h1 ((IQ.mp h2).1 y z)
theorem C0:∀(l:List Str),sortedS l=true->l.Pairwise λa b=>cO a b=true
 | [],_=>.nil
 | x::r,h=>ur x r h
theorem nZ:∀{ys:List Str}{us:List NJ},az (ys.map V.str) us->StrsAre us ys:=by
 intro ys
 induction ys with
 | nil=>intro us rv;cases rv;exact .nil
 | cons y ys ih=>
  intro us rv;rw [HF] at rv;cases rv with
  | cons r1 r2=>obtain⟨t,rfl⟩:=r1;exact .cons y t (ih r2)
theorem uu:∀{ys:List Str}{us:List NJ},StrsAre us ys->az (ys.map V.str) us
 | _,_,.nil=>.nil
 | _,_,.cons y t r=>.cons ⟨t,rfl⟩ (uu r)
theorem C1:cW X (.builtin "sorted") (λxs H Q=>∃p ss,xs=[.ref p]/\aQ X.K H p (ss.map V.str)/\ss.length < 64/\∀l,H l=none->Q (.ref l) (ak H l (.lst ((eM ss).map V.str)))):=by
 intro O6 s σ H xs us Q I r h;obtain⟨p,ss,rfl,hq,h64,q⟩:=h;obtain⟨u,rfl,rx⟩:=cX r;cases rx;obtain⟨its,rv,pl,hz⟩:=I.list hq;have hlen:=rv.length;rw [HB] at hlen;refine sorted_strs pl.isList (nZ rv) NC λout ss' a1 a2 a3=>?_;obtain⟨e,he⟩:=sortedAll_at s.heap its out;have es:ss'=eM ss:=CZ a2 (C0 _ a3);subst es;have hl2:(eM ss).length=ss.length:=a2.length_eq;refine⟨.ref _,_,I.laid (t':=s.toks) (o:= .lst ((eM ss).map V.str)) (λb ob q=>sortedAll_old q) (Lc _) ?_,rfl,q _ (I.hok.fresh (Lc _))⟩;refine⟨by rw [HB,hl2];exact Il (Ku h64) NB,out.toList,e,uu a1,?_⟩;rw [he]
theorem ai.strs{K:Hx}{H:Hp}{O:Ex}:∀{ss:List Str}{vs:List V},ai K H O vs (ss.map Hy)->vs=ss.map V.str
 | [],_,r=>by rw [Jq] at r;cases r;rfl
 | b::bs,_,r=>by
  rw [HF] at r;cases r with
  | cons h r=>cases h;rw [HF,ai.strs r]
theorem ai.ofStrs{K:Hx}{H:Hp}{O:Ex}:∀(ss:List Str),ai K H O (ss.map V.str) (ss.map Hy)
 | []=>.nil
 | s::r=>.cons (.str s) (ai.ofStrs r)
def uw(t:DA):DA:=λδ Q=>t δ λds=>∃ss:List Str,ds=[.list (ss.map .str)]/\ss.length < 64/\Q ((eM ss).map .str)
theorem C2{a:NN}{t:DA}{np p:Pos}(hg:Gl X "sorted")(hm:X.mg "sorted"=none)(hv:N3 "sorted"=some (.builtin "sorted"))(ha:PA X [a] (d8 X.K H0 O0 t))(he:NP [a] X.env=(false,eval a X.env)::NP [] X.env:=by rfl)(hpl:(N7 p (NP [] X.env)).any (·.1)=false:=by rfl):FE X H0 O0 (.Call (.Name "sorted" np) [a] [] p) (uw t):=
 (aS C1 hg hm hv ha (he:=he) (hpl:=hpl)).imp λσ H Q uu1=>by obtain⟨O,δ,Qd,w,q,k⟩:=uu1;exact⟨O,δ,_,w,q,λds vs H1 uu2 s1 r1=>by
  obtain⟨ss,e,h64,q1⟩:=uu2;subst e;cases r1 with
  | cons h r=>
   cases r;obtain⟨a,us,rfl,h1,d1⟩:=h.lst;cases d1.strs;exact⟨a,ss,rfl,h1,h64,λl hl=>k _ _ _ _ q1 s1 hl (ai.ofStrs _)⟩⟩
end
end L2
namespace PySem.SeqAt
open AutoSeq1 (wpAny_loadPart')
open MeetsSeq
theorem uz(l:NK)(es:Array Ol)(n:Nat)(dd:Option NK)(sl:Array (Option NJ))(b:Str)(u:Tok):
 Meets (Builtin.«dict.__eq__» ⟨[.ref l,.str b u],[]⟩) (λ_ R s=>s.heap.get? l=some {cls:= .type "dict",dict:=dd,data:= .dict es n,slots:=sl}/\R (.ok (.ret .notImplemented)) s):=
 .of_wp λprog w A R s h=>by obtain⟨hp,g,d,tk,os⟩:=s;obtain⟨hl,h⟩:=h;have f1:=F.sub_str_dict;wp_walk using N9 hl;exact⟨_,rfl,h⟩
theorem uA(b:Str)(u:Tok)(l:NK)(c:NJ)(es:Array Ol)(n:Nat)(dd:Option NK)(sl:Array (Option NJ)):
 Meets (Builtin.«str.__eq__» ⟨[.str b u,.ref l],[]⟩) (λ_ R s=>s.heap.get? l=some {cls:=c,dict:=dd,data:= .dict es n,slots:=sl}/\R (.ok (.ret .notImplemented)) s):=
 .of_wp λprog w A R s h=>by obtain⟨hp,g,d,tk,os⟩:=s;obtain⟨hl,h⟩:=h;wp_walk using N9 hl,wpAny_load hl;exact⟨_,rfl,h⟩
section
variable {A:N2} {s:NL}
theorem RcAt.dict_str{l:NK}{es:Array Ol}{n:Nat}{o:Obj}(b:Str)(u:Tok)(ho:s.heap.get? l=some o)(hc:o.cls= .type "dict")(hd:o.data= .dict es n)(hu:A.units < N4):RcAt A s (.ref l) (.str b u) false:=λprog w E Q h=>by
 obtain⟨cls,dd,data,sl⟩:=o;simp only at hc hd;subst hc hd;exact rc_eq_decline_or (k:=false) ⟨_,ho,rfl⟩ (Ow s b u) NB F.sub_str_dict F.slot_dict_eq F.slot_str_eq_refl
  (λ_ hq=>Oj F.slot_dict_eq ⟨_,ho,rfl⟩ F.entry_dict_eq (F.args_dict_eq_2 _ _) (uz l es n dd sl b u) ⟨ho,hq⟩)
  (λ_ hq=>Oj F.slot_str_eq_refl (Ow s b u) F.entry_str_eq (F.args_str_eq_2 _ _) (uA b u l (.type "dict") es n dd sl) ⟨ho,hq⟩)
  (λ_ hq=>wpAny_of_eq (rfl:isSame (.ref l) (.str b u)=pure false) hq) (.inr hu) h
theorem RcAt.str_dict{l:NK}{es:Array Ol}{n:Nat}{o:Obj}(b:Str)(u:Tok)(ho:s.heap.get? l=some o)(hc:o.cls= .type "dict")(hd:o.data= .dict es n)(hu:A.units < N4):RcAt A s (.str b u) (.ref l) false:=λprog w E Q h=>by
 obtain⟨cls,dd,data,sl⟩:=o;simp only at hc hd;subst hc hd;exact rc_eq_decline_or (k:=false) (Ow s b u) ⟨_,ho,rfl⟩ NB F.sub_dict_str F.slot_str_eq F.slot_dict_eq_refl
  (λ_ hq=>Oj F.slot_str_eq (Ow s b u) F.entry_str_eq (F.args_str_eq_2 _ _) (uA b u l (.type "dict") es n dd sl) ⟨ho,hq⟩)
  (λ_ hq=>Oj F.slot_dict_eq_refl ⟨_,ho,rfl⟩ F.entry_dict_eq (F.args_dict_eq_2 _ _) (uz l es n dd sl b u) ⟨ho,hq⟩)
  (λ_ hq=>wpAny_of_eq (rfl:isSame (.str b u) (.ref l)=pure false) hq) (.inr hu) h
theorem EqAt.str_dict{l:NK}{es:Array Ol}{n:Nat}{o:Obj}(b:Str)(u:Tok)(ho:s.heap.get? l=some o)(hc:o.cls= .type "dict")(hd:o.data= .dict es n)(hu:A.units < N4):EqAt A s (.str b u) (.ref l) false:=λprog w E Q h=>by
 unfold eqBool;refine Oc ?_;refine wpAny_ite_split (λhab=>absurd (eq_of_beq hab) nofun) (λ_=>?_);exact NM (RcAt.str_dict b u ho hc hd hu prog w E _ (N5 h))
end
end PySem.SeqAt
namespace L2
open PySem PySem.Spec PyProof.Rows PySem.W
section
variable {X:Cx} {O6:List (NK×Obj)} {σ:St} {H:Hp} {s:NL}
def bA:NI->Bool
 | .dict [(.none,_)]=>false
 | _=>true
theorem C3(I:ae X O6 σ H s){O:Ex}{v:V}{d:NI}{u:NJ}(h:Dt X.K H O v d)(ht:bA d=true)(r:ax v u)(y:Str)(t:Tok)(hu:X.A.units < N4):SeqAt.RcAt X.A s u (.str y t) (HA d (.str y)):=by
 cases h with
 | non=>cases (show u=Ki from r);simpa [HA] using SeqAt.RcAt.none_str y t
 | bl b=>cases (show u=JG b from r);simpa [HA] using SeqAt.RcAt.bool_str b y t
 | int i=>obtain⟨k,e⟩:=(show ∃t,u=JZ i t from r);cases e;simpa [HA] using SeqAt.RcAt.int_str i k y t
 | str x=>obtain⟨k,e⟩:=(show ∃t,u=JJ x t from r);cases e;simpa [HA] using SeqAt.RcAt.str_str x k y t
 | @tup a xs ds h n rr=>
  cases (show u=Ih a from r);obtain⟨its,rv,p,_⟩:=I.tuple (.inl h);simpa [HA] using Mc y t (show s.heap.IsTuple a its.toArray from p) hu
 | @tupK a xs ds h rr=>
  cases (show u=Ih a from r);obtain⟨its,rv,p,_⟩:=I.tuple h.of0;simpa [HA] using Mc y t (show s.heap.IsTuple a its.toArray from p) hu
 | @lst a xs ds h n rr=>
  cases (show u=Ih a from r);obtain⟨its,rv,p,_⟩:=I.list (.inl h);simpa [HA] using SeqAt.RcAt.list_str y t p.isList hu
 | pack h n=>exact absurd ht (by simp [bA])
 | purse h n=>exact absurd ht (by simp [bA])
 | scr h r=>exact absurd ht (by simp [bA])
 | obj h e n r=>exact absurd ht (by simp [bA])
 | @dct0 a h n=>
  cases (show u=Ih a from r);obtain⟨_,_,_,_,o,es,ep,e,c,dd,_⟩:=(show bD X.prog X.w H s.heap a (.dK []) from I.hok a _ h);simpa [HA] using SeqAt.RcAt.dict_str y t e c.1 dd hu
 | @dic a ob kv ks kp ds h e1 e2 n rr=>
  cases (show u=Ih a from r);obtain⟨_,_,_,_,o,es,ep,e,c,dd,_⟩:=(show bD X.prog X.w H s.heap a (.dK kv) from(I.hok a _ h).2);simpa [HA] using SeqAt.RcAt.dict_str y t e c.1 dd hu
theorem uB(I:ae X O6 σ H s){A:N2}{O:Ex}{v:V}{d:NI}{u:NJ}(h:Dt X.K H O v d)(ht:bA d=true)(r:ax v u)(y:Str)(t:Tok)(hu:A.units < N4):Mb A s (.str y t) u (HA (.str y) d):=by
 cases h with
 | non=>cases (show u=Ki from r);simpa [HA] using Mb.str_none y t
 | bl b=>cases (show u=JG b from r);simpa [HA] using Mb.str_bool y t b
 | int i=>obtain⟨k,e⟩:=(show ∃t,u=JZ i t from r);cases e;simpa [HA] using Mn y t i k
 | str x=>obtain⟨k,e⟩:=(show ∃t,u=JJ x t from r);cases e;simpa [HA] using Mr y t x k
 | @tup a xs ds h n rr=>
  cases (show u=Ih a from r);obtain⟨its,rv,p,_⟩:=I.tuple (.inl h);simpa [HA] using Md y t (show s.heap.IsTuple a its.toArray from p) hu
 | @tupK a xs ds h rr=>
  cases (show u=Ih a from r);obtain⟨its,rv,p,_⟩:=I.tuple h.of0;simpa [HA] using Md y t (show s.heap.IsTuple a its.toArray from p) hu
 | @lst a xs ds h n rr=>
  cases (show u=Ih a from r);obtain⟨its,rv,p,_⟩:=I.list (.inl h);simpa [HA] using Mb.str_list y t p.isList hu
 | pack h n=>exact absurd ht (by simp [bA])
 | purse h n=>exact absurd ht (by simp [bA])
 | scr h r=>exact absurd ht (by simp [bA])
 | obj h e n r=>exact absurd ht (by simp [bA])
 | @dct0 a h n=>
  cases (show u=Ih a from r);obtain⟨_,_,_,_,o,es,ep,e,c,dd,_⟩:=(show bD X.prog X.w H s.heap a (.dK []) from I.hok a _ h);simpa [HA] using Mb.str_dict y t e c.1 dd hu
 | @dic a ob kv ks kp ds h e1 e2 n rr=>
  cases (show u=Ih a from r);obtain⟨_,_,_,_,o,es,ep,e,c,dd,_⟩:=(show bD X.prog X.w H s.heap a (.dK kv) from(I.hok a _ h).2);simpa [HA] using Mb.str_dict y t e c.1 dd hu
end
section
variable {X:Cx} {H0:Hp} {O0:Ex}
def uC(K:Hx):R2:=λx y H Q=>∃O dx z,Dt K H O x dx/\bA dx=true/\y= .str z/\Q (.bl (HA dx (.str z))) H
theorem cA{k:Nat}(hr:br k X.A):bf X (NY .Eq) (uC X.K):=by
 intro O6 s σ H x y v u Q I rx ry h;obtain⟨O,dx,z,hx,ht,rfl,q⟩:=h;obtain⟨t,rfl⟩:=ry;have hc:NY .Eq v (.str z t)=OR .Eq v (.str z t):=rfl;rw [hc];exact C3 I hx ht rx z t hr.units0 X.prog X.w X.xe _ (d4 I q rfl)
def uD:NI->NI->(NI->Prop)->Prop:=λx y Q=>∃z,y= .str z/\bA x=true/\Q (.bool (HA x (.str z)))
theorem cB{K:Hx}:bE K (uC K) uD:=λH O x y dx dy Qd R _ hx hy uu3 k=>by
 obtain⟨z,e,ht,q⟩:=uu3;subst e;cases hy.str;exact⟨_,dx,z,hx.all,ht,rfl,k _ _ H q (ao.refl _) (.bl _)⟩
theorem uE(dx:NI){its:List NJ}{zs:List Str}(hS:StrsAre its zs):its.any (λy=>HA (.str (strOf y)) dx)=zs.any λz=>HA (.str z) dx:=by
 induction hS with
 | nil=>rfl
 | cons y t r ih=>rw [JK,JK,ih];rfl
def uF(K:Hx):R2:=λx y H Q=>∃(O:Ex)(dx:NI)(zs:List Str)(a:NK),Dt K H O x dx/\bA dx=true/\y= .ref a/\bg K H a (zs.map V.str)/\Q (.bl (zs.any λz=>HA (.str z) dx)) H
theorem fq{k:Nat}(hr:br k X.A):bf X (NY .In) (uF X.K):=by
 intro O6 s σ H x y v u Q I rx ry h;obtain⟨O,dx,zs,a,hx,ht,rfl,ha,q⟩:=h;cases ry;obtain⟨its,rv,p,_⟩:=I.tuple ha;have hS:=nZ rv;have hl:=uE dx hS;refine SeqAt.in_tupleAt (λy=>HA (.str (strOf y)) dx) (show s.heap.IsTuple a its.toArray from p) (λy hy=>?_) (by rw [MH,hl];exact d4 I q rfl);obtain⟨z,t,rfl⟩:=hS.all y (by simpa using hy);exact uB I hx ht rx z t (by show X.A.units+1 < N4;have:=hr.un;omega)
def uG:NI->NI->(NI->Prop)->Prop:=λx y Q=>∃zs:List Str,y= .tuple (zs.map .str)/\bA x=true/\Q (.bool (zs.any λz=>HA (.str z) x))
theorem ft{K:Hx}:bE K (uF K) uG:=λH O x y dx dy Qd R _ hx hy uu4 k=>by
 obtain⟨zs,e,ht,q⟩:=uu4;subst e;obtain⟨a,vs,rfl,hs,r⟩:=hy.tup;cases r.strs;exact⟨_,dx,zs,a,hx.all,ht,rfl,hs,k _ _ H q (ao.refl _) (.bl _)⟩
end
def lK:NI->Bool | .str _=>true | _=>false
def uH:NI->Bool | .int _=>true | .bool _=>true | _=>false
def jY:NI->Bool | .bool _=>true | _=>false
def eN:NI->Bool | .tuple _=>true | _=>false
theorem uI{K:Hx}(d:NI):kitOne K (.type (i7 d)) (.type "str")=some (lK d):=by cases d <;> rfl
theorem C4{K:Hx}(d:NI):kitOne K (.type (i7 d)) (.type "int")=some (uH d):=by cases d <;> rfl
theorem n4{K:Hx}(d:NI):kitOne K (.type (i7 d)) (.type "bool")=some (jY d):=by cases d <;> rfl
theorem ij{K:Hx}(d:NI):kitOne K (.type (i7 d)) (.type "tuple")=some (eN d):=by cases d <;> rfl
mutual
def thg:NI->Bool
 | .dict []=>true
 | .dict (_::_)=>false
 | .str z=>decide (z.length<=1000)
 | .tuple l=>c5 l
 | .list l=>c5 l
 | .none=>true
 | .bool _=>true
 | .int _=>true
def c5:List NI->Bool
 | []=>true
 | d::r=>thg d && c5 r
end
theorem gr{d:NI}(h:thg d=true):∀x,d≠ .dict [(.none,x)]:=by
 rintro x rfl;simp [thg] at h
theorem eO{d:NI}(h:thg d=true):bA d=true:=by
 unfold bA;split
 ·simp [thg] at h
 ·rfl
theorem jZ:∀{l:List NI}{d:NI},c5 l=true->d∈l->thg d=true
 | e::r,d,h,m=>by
  rw [c5,HX] at h;rcases HM.mp m with z | z
  ·rw [z];exact h.1
  ·exact jZ h.2 z
theorem C5{l:List NI}(h:∀d∈l,thg d=true):c5 l=true:=by
 induction l with
 | nil=>rfl
 | cons e r ih=>rw [c5,h e NH,ih λd hd=>h d (by simp [hd])];rfl
theorem j2{l:List NI}(h:thg (.tuple l)=true):∀d∈l,thg d=true:=λd hd=>jZ (by simpa [thg] using h) hd
theorem C6{z:Str}(h:thg (.str z)=true):z.length<=1000:=by simpa [thg] using h
def cS(zs:List Str)(d:NI):Bool:=zs.any λz=>HA (.str z) d
def ja:NI->Bool | .int _=>true | _=>false
def gu:NI->Bool | .int i=>decide (0<=i) && decide (i<=99999) | _=>false
def bY:NI->Bool | .str z=>decide (1<=z.length) && decide (z.length<=8) && z.cps.toList.all (λc=>decide (c∈cH.cps.toList)) | _=>false
def dR:NI->Bool
 | .tuple [a]=>HA a (.str "coming")
 | .tuple [a,b]=>cS ["first","last"] a && bY b
 | _=>false
def j3:NI->Bool | .int i=>decide (0<=i) && decide (i<=999) | _=>false
def jb(m u:NI):Bool:=j3 m && cS ["days","months","years"] u
def dA:NI->Bool
 | .tuple [a,b]=>cS ["while","follow","leave"] a && bY b
 | .tuple [a,b,c,d,e]=>cS ["keep","gone"] a && bY b && (dR c && jb d e)
 | _=>false
def lL:NI->NI->Bool | .str a,.str b=>decide (a.cps.toList < b.cps.toList) | _,_=>false
def fu:List NI->Bool
 | a::b::r=>lL a b && fu (b::r)
 | _=>true
def gO:NI->Bool | .tuple l=>decide (l.length<=4) && (l.all bY && fu l) | _=>false
def eQ:NI->Bool | .tuple [a,b]=>cS ["paper","kind"] a && bY b | _=>false
def gP(w:NI)(ps:List NI):Bool:=
 if cS ["end","lift"] w then ps.length==0
 else if cS ["happens","leave"] w then(match ps with | [a]=>bY a | _=>false)
 else if HA w (.str "rule") then(match ps with | [a]=>dA a | _=>false)
 else if HA w (.str "paper") then(match ps with | [a,b]=>bY a && gO b | _=>false)
 else if HA w (.str "hold") then(match ps with | [a,b]=>eQ a && jY b | _=>false)
 else false
def eg:NI->Bool
 | .tuple (w::n::x::r)=>gu n && bY x && gP w r
 | _=>false
structure Nm (z:Str):Prop where
 lo:1<=z.length
 hi:z.length<=8
 ab:∀c∈z.cps.toList,c∈cH.cps.toList
theorem Nm.is{z:Str}(h:Nm z):bY (.str z)=true:=by
 simp only [bY,decide_eq_true h.lo,decide_eq_true h.hi,IK,Ja,decide_eq_true_eq];exact h.ab
theorem gQ{d:NI}(h:bY d=true):∃z,d= .str z/\Nm z:=by
 cases d with
 | str z=>
  simp only [bY,HX,decide_eq_true_eq,Ja] at h;exact⟨z,rfl,h.1.1,h.1.2,h.2⟩
 | _=>simp [bY] at h
theorem Nm.ok{z:Str}(h:Nm z):Im z=true:=gN.mpr λc hc=>tY c (h.ab c hc)
theorem uJ{g:DG}{te:DT}{δ0:Dl}{xs:List NI}{Q:List NI->Prop}(f:NI->NI)
 (h:∀x∈xs,∀R:NI->Prop,R (f x)->g x δ0 λδ2=>te δ2 R)(q:Q (xs.map f)):fI g i5 te δ0 xs Q:=by
 refine⟨λi acc=>acc=(xs.take i).map f,rfl,?_,?_⟩
 ·rintro i x acc hx rfl;have:=h x (Ik hx) (λy=>(xs.take i).map f++[y]=(xs.take (i+1)).map f) (by rw [Js,hx];simp);simpa [i5] using this
 ·rintro acc rfl;rw [Iu (HE _)];exact q
theorem n5{g:DG}{te:DT}{δ0:Dl}{xs:List NI}{p:Bool->Prop}{gg:List Bool->Bool}(f:NI->Bool)
 (h:∀x∈xs,∀R:NI->Prop,R (.bool (f x))->g x δ0 λδ2=>te δ2 R)(q:p (gg (xs.map f))):fI g i5 te δ0 xs λds=>∃bs:List Bool,ds=bs.map IZ/\p (gg bs):=
 uJ (λx=>.bool (f x)) h ⟨xs.map f,by rw [Iy];rfl,q⟩
theorem C7{a b:Str}{P:List Str->Prop}:(∃zs,[Hy a,Hy b]=HQ Hy zs/\P zs)↔P [a,b]:=by
 refine⟨λ⟨zs,e,h⟩=>?_,λh=>⟨_,rfl,h⟩⟩
 match zs,e with
 | [x,y],e=>simp at e;rw [e.1,e.2];exact h
theorem C8{a b c:Str}{P:List Str->Prop}:(∃zs,[Hy a,Hy b,Hy c]=HQ Hy zs/\P zs)↔P [a,b,c]:=by
 refine⟨λ⟨zs,e,h⟩=>?_,λh=>⟨_,rfl,h⟩⟩
 match zs,e with
 | [x,y,z],e=>simp at e;rw [e.1,e.2.1,e.2.2];exact h
theorem j4(d:NI):(∃l,d= .tuple l)\/(∀l,d≠ .tuple l):=by
 cases d <;> simp
theorem uK{d:NI}(h:∀l,d≠ .tuple l):eN d=false:=by
 cases d with
 | tuple l=>exact absurd rfl (h l)
 | _=>rfl
def cP(d:NI)(n:Int):Bool:=match d with | .tuple l=>decide ((l.length:Int)=n) | _=>false
theorem n8{d:NI}(h:∀l,d≠ .tuple l)(n:Int):cP d n=false:=by
 cases d with
 | tuple l=>exact absurd rfl (h l)
 | _=>rfl
theorem C9{x:Str}:bA (.str x)=true:=rfl
theorem Dc{x:Int}:bA (.int x)=true:=rfl
theorem Dd{x:Bool}:bA (.bool x)=true:=rfl
theorem Df{x:List NI}:bA (.tuple x)=true:=rfl
theorem Dg{x:List NI}:bA (.list x)=true:=rfl
theorem Dh(l u:Option Int)(n:Nat):Le l u 1 n=(IG (HT.sIx n n u - HT.sIx n 0 l)).map (HT.sIx n 0 l+·):=by
 unfold Le sliceRange;have c:∀(o:Option Int)(d:Nat),(match o with | none=>(d:Int) | some i=>max 0 (min (if i < 0 then i+(n:Int) else i) (n:Int)))=((HT.sIx n d o:Nat):Int):=by
  intro o d;cases o with
  | none=>rfl
  | some v=>
   show max 0 (min (if v < 0 then v+(n:Int) else v) (n:Int))=(((if v < 0 then(v+(n:Int)).toNat else min v.toNat n):Nat):Int);by_cases hv:v < 0
   ·rw [NF hv,NF hv];omega
   ·rw [ND hv,ND hv];omega
 have c0:=c l 0;have c1:=c u n;simp only [show(1:Int) > 0 by decide,if_true] at c0 c1⊢;simp only [Int.natCast_zero] at c0;have key:∀a b:Int,a=((HT.sIx n 0 l:Nat):Int)->b=((HT.sIx n n u:Nat):Int)->((IG (if a < b then(b - a+1 - 1)/ 1 else 0).toNat).map λ(k:Nat)=>(a+1*(k:Int)).toNat)=(IG (HT.sIx n n u - HT.sIx n 0 l)).map (HT.sIx n 0 l+·):=by
  intro a b ea eb;have e:(if a < b then(b - a+1 - 1)/ 1 else 0).toNat=HT.sIx n n u - HT.sIx n 0 l:=by
   rw [Mo];split <;> omega
  rw [e];refine Ml λk _=>?_;show(a+1*(k:Int)).toNat=_;omega
 exact key _ _ c0 c1
def jc(xs:List Nat)(l u:Option Int):List Nat:=(xs.drop (HT.sIx xs.length 0 l)).take (HT.sIx xs.length xs.length u - HT.sIx xs.length 0 l)
theorem uL(x:Str)(l u:Option Int):(Txt.slice x l u).cps.toList=jc x.cps.toList l u:=by
 have hl:x.cps.toList.length=x.length:=by rw [IV];rfl
 unfold Txt.slice;rw [Dh,HB,KL];unfold jc;rw [hl];split
 ·rename_i h;have h2:HT.sIx x.length x.length u - HT.sIx x.length 0 l=x.length:=by simpa using h
  have h3:HT.sIx x.length x.length u<=x.length:=HT.sIx_le _ _ (HE _) u;by_cases hz:x.length=0
  ·have:x.cps.toList=[]:=List.length_eq_zero_iff.mp NC;rw [this];simp
  ·have h4:HT.sIx x.length 0 l=0:=NC
   rw [h2,h4,MS,Iu NC]
 ·rw [pick_run]
theorem Di{xs:List Nat}{i:Int}(h0:0<=i)(h1:i<=xs.length):jc xs none (some i)=xs.take i.toNat:=by
 unfold jc;rw [iN,gm h0 h1];simp
theorem Dj{xs:List Nat}{i:Int}(h0:0<=i)(h1:i<=xs.length):jc xs (some i) none=xs.drop i.toNat:=by
 unfold jc;rw [iN,gm h0 h1,Iu (by rw [JB];exact HE _)]
theorem n9(x:Str):x.length=x.cps.toList.length:=by rw [IV];rfl
theorem Nm.of{z:Str}{l:List Nat}(e:z.cps.toList=l)(lo:1<=l.length)(hi:l.length<=8)(ab:∀c∈l,c∈cH.cps.toList):Nm z:=
 ⟨by rw [n9,e];exact lo,by rw [n9,e];exact hi,by rw [e];exact ab⟩
theorem uM{z:Str}{d:NI}:HA (.str z) d=true↔d= .str z:=by
 cases d <;> simp [HA];exact⟨λh=>h.symm,λh=>h.symm⟩
theorem uN{z:Str}{d:NI}:HA d (.str z)=true↔d= .str z:=by rw [nV];exact uM
theorem eR{zs:List Str}{d:NI}:cS zs d=true↔∃z∈zs,d= .str z:=by
 unfold cS;simp only [J1,uM]
def ik(a b:Str):Prop:=a.cps.toList < b.cps.toList
theorem Dk{a b c:Str}(h:ik a b)(h':ik b c):ik a c:=Mi h h'
inductive fL:NI->Prop
 | coming:fL (.tuple [.str "coming"])
 | first {h:Str}:Nm h->fL (.tuple [.str "first",.str h])
 | last {h:Str}:Nm h->fL (.tuple [.str "last",.str h])
def units:List Str:=["days","months","years"]
inductive gw:NI->Prop
 | kg {w k u:Str} {s:NI} {m:Int}:w∈(["keep","gone"]:List Str)->Nm k->fL s->0<=m->m<=999->u∈units->gw (.tuple [.str w,.str k,s,.int m,.str u])
 | wfl {w k:Str}:w∈(["while","follow","leave"]:List Str)->Nm k->gw (.tuple [.str w,.str k])
def gR(n:Int):Prop:=0<=n/\n<=99999
structure j5 (ms:List Str):Prop where
 len:ms.length<=4
 nm:∀m∈ms,Nm m
 up:ms.Pairwise ik
inductive cT:NI->Prop
 | paper {n:Int} {x k:Str} {ms:List Str}:gR n->Nm x->Nm k->j5 ms->cT (.tuple [.str "paper",.int n,.str x,.str k,.tuple (ms.map .str)])
 | two {w x y:Str} {n:Int}:w∈(["happens","leave"]:List Str)->gR n->Nm x->Nm y->cT (.tuple [.str w,.int n,.str x,.str y])
 | rule {n:Int} {x:Str} {p:NI}:gR n->Nm x->gw p->cT (.tuple [.str "rule",.int n,.str x,p])
 | one {w x:Str} {n:Int}:w∈(["end","lift"]:List Str)->gR n->Nm x->cT (.tuple [.str w,.int n,.str x])
 | hold {n:Int} {x g y:Str} {b:Bool}:gR n->Nm x->g∈(["paper","kind"]:List Str)->Nm y->cT (.tuple [.str "hold",.int n,.str x,.tuple [.str g,.str y],.bool b])
theorem uO{d:NI}:dR d=true↔fL d:=by
 constructor
 ·intro h;unfold dR at h;split at h
  ·rw [uN] at h;subst h;exact .coming
  ·rw [HX,eR] at h;obtain⟨⟨z,hz,rfl⟩,hb⟩:=h;obtain⟨y,rfl,hy⟩:=gQ hb;simp only [HM,IW,or_false] at hz;rcases hz with rfl | rfl
   ·exact .first hy
   ·exact .last hy
  ·cases h
 ·intro h;cases h with
  | coming=>unfold dR;rw [uN]
  | first hy=>simp only [dR,hy.is,Jg];exact eR.mpr ⟨_,NH,rfl⟩
  | last hy=>simp only [dR,hy.is,Jg];exact eR.mpr ⟨_,NH,rfl⟩
theorem uP{m u:NI}:jb m u=true↔∃i z,m= .int i/\u= .str z/\0<=i/\i<=999/\z∈units:=by
 unfold jb;rw [HX,eR];constructor
 ·rintro⟨h,z,hz,rfl⟩;cases m <;> simp [j3] at h;exact⟨_,z,rfl,rfl,h.1,h.2,hz⟩
 ·rintro⟨i,z,rfl,rfl,h0,h1,hz⟩;exact⟨by simp [j3,h0,h1],z,hz,rfl⟩
theorem Dm{d:NI}:dA d=true↔gw d:=by
 constructor
 ·intro h;unfold dA at h;split at h
  ·rw [HX,eR] at h;obtain⟨⟨z,hz,rfl⟩,hb⟩:=h;obtain⟨y,rfl,hy⟩:=gQ hb;exact .wfl hz hy
  ·rw [HX,HX,HX,eR,uO,uP] at h;obtain⟨⟨⟨z,hz,rfl⟩,hb⟩,hs,i,u,rfl,rfl,h0,h1,hu⟩:=h;obtain⟨y,rfl,hy⟩:=gQ hb;exact .kg hz hy hs h0 h1 hu
  ·cases h
 ·intro h;cases h with
  | kg hw hk hs h0 h1 hu=>
   simp only [dA,hk.is,uO.mpr hs,uP.mpr ⟨_,_,rfl,rfl,h0,h1,hu⟩,Jg];exact eR.mpr ⟨_,hw,rfl⟩
  | wfl hw hk=>simp only [dA,hk.is,Jg];exact eR.mpr ⟨_,hw,rfl⟩
theorem oe:∀{ms:List Str},fu (ms.map .str)=true↔ms.Pairwise ik
 | []=>by simp [fu]
 | [a]=>by simp [fu]
 | a::b::r=>by
  have ih:=oe (ms:=b::r);rw [HF,HF,fu,HX,<-HF,ih];simp only [lL,decide_eq_true_eq];constructor
  ·rintro⟨h1,h2⟩;rw [IQ];refine⟨λy hy=>?_,h2⟩;rcases HM.mp hy with z | z
   ·rw [z];exact h1
   ·exact Dk h1 ((IQ.mp h2).1 y z)
  ·intro h;rw [IQ] at h;exact⟨h.1 b NH,h.2⟩
theorem uQ:∀{l:List NI},l.all bY=true->∃ms:List Str,l=ms.map .str/\∀m∈ms,Nm m
 | [],_=>⟨[],rfl,NH⟩
 | d::r,h=>by
  rw [Ll,HX] at h;obtain⟨z,rfl,hz⟩:=gQ h.1;obtain⟨ms,rfl,hm⟩:=uQ h.2;exact⟨z::ms,rfl,λm hm'=>by
   rcases HM.mp hm' with e | e
   ·rw [e];exact hz
   ·exact hm m e⟩
theorem Dp{d:NI}:gO d=true↔∃ms:List Str,d= .tuple (ms.map .str)/\j5 ms:=by
 constructor
 ·intro h;unfold gO at h;split at h
  ·rw [HX,HX,decide_eq_true_eq] at h;obtain⟨h4,ha,hr⟩:=h;obtain⟨ms,rfl,hm⟩:=uQ ha;exact⟨ms,rfl,by simpa using h4,hm,oe.mp hr⟩
  ·cases h
 ·rintro⟨ms,rfl,h⟩;simp only [gO,HB,decide_eq_true h.len,oe.mpr h.up,Jg,IK,KA,Ja];exact λm hm=>(h.nm m hm).is
theorem Dq{d:NI}:eQ d=true↔∃g y,d= .tuple [.str g,.str y]/\g∈(["paper","kind"]:List Str)/\Nm y:=by
 constructor
 ·intro h;unfold eQ at h;split at h
  ·rw [HX,eR] at h;obtain⟨⟨z,hz,rfl⟩,hb⟩:=h;obtain⟨y,rfl,hy⟩:=gQ hb;exact⟨z,y,rfl,hz,hy⟩
  ·cases h
 ·rintro⟨g,y,rfl,hg,hy⟩;simp only [eQ,hy.is,Jg];exact eR.mpr ⟨_,hg,rfl⟩
theorem Dr{d:NI}:gu d=true↔∃n,d= .int n/\gR n:=by
 constructor
 ·intro h;cases d <;> simp [gu] at h;exact⟨_,rfl,h.1,h.2⟩
 ·rintro⟨n,rfl,h0,h1⟩;simp [gu,h0,h1]
theorem cT.is{d:NI}(h:cT d):eg d=true:=by
 have dy:∀{n:Int},gR n->gu (.int n)=true:=λh=>Dr.mpr ⟨_,rfl,h⟩;have no:∀{zs:List Str}{w:Str},w ∉ zs->cS zs (.str w)=false:=λ{zs w} h=>by
  rw [KN];intro q;obtain⟨z,hz,e⟩:=eR.mp q;injection e with e;rw [e] at h;exact h hz
 have ye:∀{zs:List Str}{w:Str},w∈zs->cS zs (.str w)=true:=λh=>eR.mpr ⟨_,h,rfl⟩;have nq:∀{z w:Str},w≠z->HA (.str w) (.str z)=false:=λ{z w} h=>by rw [jS];simpa using h
 have yq:∀{z:Str},HA (.str z) (.str z)=true:=by intro z;rw [jS];simp
 cases h with
 | paper hn hx hk hm=>
  simp only [eg,dy hn,hx.is,Jg,IK,gP];rw [ND (by rw [no NA];decide),ND (by rw [no NA];decide),ND (by rw [nq NA];decide),NF yq];simp only [hk.is,Dp.mpr ⟨_,rfl,hm⟩,Jg]
 | two hw hn hx hy=>
  simp only [eg,dy hn,hx.is,Jg,IK,gP];rename_i w x y n;have h1:w ∉ (["end","lift"]:List Str):=by
   simp only [HM,IW,or_false] at hw;rcases hw with rfl | rfl <;> decide+kernel
  rw [ND (by rw [no h1];decide),NF (ye hw)];exact hy.is
 | rule hn hx hp=>
  simp only [eg,dy hn,hx.is,Jg,IK,gP];rw [ND (by rw [no NA];decide),ND (by rw [no NA];decide),NF yq];exact Dm.mpr hp
 | one hw hn hx=>
  simp only [eg,dy hn,hx.is,Jg,IK,gP];rw [NF (ye hw)];rfl
 | hold hn hx hg hy=>
  simp only [eg,dy hn,hx.is,Jg,IK,gP];rw [ND (by rw [no NA];decide),ND (by rw [no NA];decide),ND (by rw [nq NA];decide),ND (by rw [nq NA];decide),NF yq];simp only [Dq.mpr ⟨_,_,rfl,hg,hy⟩,jY,Jg]
theorem eS{n:Nat}:∀d∈([]:List NI),cx n d:=λd hd=>by simp at hd
theorem bB{n:Nat}{d:NI}{r:List NI}(h:cx n d)(hr:∀e∈r,cx n e):∀e∈d::r,cx n e:=λe he=>by
 rcases HM.mp he with z | z
 ·rw [z];exact h
 ·exact hr e z
theorem cj{n:Nat}{x:Str}(h:Im x=true)(hn:1<=n:=by decide):cx n (.str x):=(tZ h).mono hn
theorem il{n:Nat}{x:Int}(hn:1<=n:=by decide):cx n (.int x):=CH.mono hn
theorem Ds{n:Nat}{x:Bool}(hn:1<=n:=by decide):cx n (.bool x):=CI.mono hn
theorem oh{n:Nat}{ms:List Str}(h:∀m∈ms,Im m=true)(hn:1<=n:=by decide):∀d∈ms.map Hy,cx n d:=λd hd=>by
 obtain⟨m,hm,rfl⟩:=HR.mp hd;exact(tZ (h m hm)).mono hn
theorem fL.lay{d:NI}(h:fL d):cx 2 d:=by
 cases h with
 | coming=>exact dP (bB (cj NA) eS)
 | first h=>exact dP (bB (cj NA) (bB (cj h.ok) eS))
 | last h=>exact dP (bB (cj NA) (bB (cj h.ok) eS))
theorem eT{zs:List Str}{w:Str}(h:w∈zs)(hz:∀z∈zs,Im z=true/\z.length<=1000):Im w=true/\w.length<=1000:=hz w h
theorem gw.lay{d:NI}(h:gw d):cx 3 d:=by
 cases h with
 | kg hw hk hs _ _ hu=>exact dP (bB (cj (eT hw NA).1) (bB (cj hk.ok) (bB hs.lay (bB il (bB (cj (eT hu NA).1) eS)))))
 | wfl hw hk=>exact(dP (n:=1) (bB (cj (eT hw NA).1) (bB (cj hk.ok) eS))).mono NB
theorem cT.lay{d:NI}(h:cT d):cx 4 d:=by
 cases h with
 | paper hn hx hk hm=>exact dP (bB (cj NA) (bB il (bB (cj hx.ok) (bB (cj hk.ok) (bB ((dP (n:=1) (oh λm h=>(hm.nm m h).ok)).mono NB) eS)))))
 | two hw hn hx hy=>exact dP (bB (cj (eT hw NA).1) (bB il (bB (cj hx.ok) (bB (cj hy.ok) eS))))
 | rule hn hx hp=>exact dP (bB (cj NA) (bB il (bB (cj hx.ok) (bB hp.lay eS))))
 | one hw hn hx=>exact dP (bB (cj (eT hw NA).1) (bB il (bB (cj hx.ok) eS)))
 | hold hn hx hg hy=>exact dP (bB (cj NA) (bB il (bB (cj hx.ok) (bB ((dP (n:=1) (bB (cj (eT hg NA).1) (bB (cj hy.ok) eS))).mono NB) (bB Ds eS)))))
theorem cT.shp{d:NI}(h:cT d):bJ d:=h.lay.shp NB
theorem bF{d:NI}{r:List NI}(h:thg d=true)(hr:c5 r=true):c5 (d::r)=true:=by rw [c5,h,hr];rfl
theorem eV{r:List NI}(hr:c5 r=true):thg (.tuple r)=true:=by rw [thg];exact hr
theorem Nm.thg{z:Str}(h:Nm z):thg (.str z)=true:=by rw [L2.thg];exact decide_eq_true (Il h.hi NB)
theorem eX{z:Str}(h:z.length<=1000):thg (.str z)=true:=by rw [thg];exact decide_eq_true h
theorem jd{i:Int}:thg (.int i)=true:=by rw [thg]
theorem Du{i:Bool}:thg (.bool i)=true:=by rw [thg]
theorem Dv{ms:List Str}(h:∀m∈ms,Nm m):c5 (ms.map .str)=true:=C5 λd hd=>by
 obtain⟨m,hm,rfl⟩:=HR.mp hd;exact(h m hm).thg
theorem fL.thg{d:NI}(h:fL d):L2.thg d=true:=by
 cases h with
 | coming=>exact eV (bF (eX NA) rfl)
 | first h=>exact eV (bF (eX NA) (bF h.thg rfl))
 | last h=>exact eV (bF (eX NA) (bF h.thg rfl))
theorem gw.thg{d:NI}(h:gw d):L2.thg d=true:=by
 cases h with
 | kg hw hk hs _ _ hu=>exact eV (bF (eX (eT hw NA).2) (bF hk.thg (bF hs.thg (bF jd (bF (eX (eT hu NA).2) rfl)))))
 | wfl hw hk=>exact eV (bF (eX (eT hw NA).2) (bF hk.thg rfl))
theorem cT.thg{d:NI}(h:cT d):L2.thg d=true:=by
 cases h with
 | paper hn hx hk hm=>exact eV (bF (eX NA) (bF jd (bF hx.thg (bF hk.thg (bF (eV (Dv hm.nm)) rfl)))))
 | two hw hn hx hy=>exact eV (bF (eX (eT hw NA).2) (bF jd (bF hx.thg (bF hy.thg rfl))))
 | rule hn hx hp=>exact eV (bF (eX NA) (bF jd (bF hx.thg (bF hp.thg rfl))))
 | one hw hn hx=>exact eV (bF (eX (eT hw NA).2) (bF jd (bF hx.thg rfl)))
 | hold hn hx hg hy=>exact eV (bF (eX NA) (bF jd (bF hx.thg (bF (eV (bF (eX (eT hg NA).2) (bF hy.thg rfl))) (bF Du rfl)))))
theorem Dw{a b c:NI}{l:List NI}:aR (a::b::c::l) (some 3) none=l:=by
 rw [tJ NB (by simp only [HN];omega)];rfl
theorem Dx{a b c:NI}{l:List NI}:aR (a::b::c::l) (some 1) (some 3)=[b,c]:=by
 unfold aR;rw [gm NB (by simp only [HN];omega),gm NB (by simp only [HN];omega)];rfl
end L2
namespace PySem
open Builtin
open AutoSeq1 (wpAny_loadPart')
end PySem
namespace L2
open PySem PySem.Spec PyProof.Rows PySem.W
section
variable {X:Cx} {H0:Hp} {O0:Ex}
def uR:DT:=λ_ Q=>Q (.dict [])
theorem Dy{pos:Pos}:DE X H0 O0 (.Dict [] [] pos) uR:=tR.imp λσ H Q uu7=>by obtain⟨O,δ,Qd,w,q,k⟩:=uu7;exact λp hp=>k _ _ _ q (ao.new hp) (.dct0 bj (iX w (ao.refl _) hp))
def uS(t:DT):DT:=λδ Q=>t δ λd=>∃i,d= .int i/\Q (.int (-i))
theorem oi{e:NN}{t:DT}{pos:Pos}(h:DE X H0 O0 e t):DE X H0 O0 (.UnaryOp .USub e pos) (uS t):=
 (qB qD h).imp λσ H Q uu8=>by obtain⟨O,δ,Qd,w,q,k⟩:=uu8;exact⟨O,δ,_,w,q,λd v H1 uu9 s1 r1=>by obtain⟨i,e,q1⟩:=uu9;subst e;cases r1;exact⟨i,rfl,k _ _ H1 q1 s1 (.int _)⟩⟩
end
theorem Dz(n:Nat):Ju none none (-1) (n:Int)=((n:Int) - 1,-1):=by
 unfold Ju;rfl
theorem DC(n:Nat):IY ((n:Int) - 1) (-1) (-1)=n:=by
 unfold IY;rw [ND NB];split
 ·rw [show(- -1:Int)=1 by decide,Mo];omega
 ·omega
theorem DD(xs:Array NJ):((IG xs.size).filterMap λ(m:Nat)=>xs[((xs.size:Int) - 1+(m:Int)*(-1)).toNat]?).toArray=xs.toList.reverse.toArray:=by
 have e:(IG xs.size).filterMap (λ(m:Nat)=>xs[((xs.size:Int) - 1+(m:Int)*(-1)).toNat]?)=((IG xs.size).map λk=>xs.size - 1 - k).filterMap (xs[·]?):=by
  have e2:((IG xs.size).map λk=>xs.size - 1 - k)=(IG xs.size).map λ(m:Nat)=>((xs.size:Int) - 1+(m:Int)*(-1)).toNat:=
   Ml λm hm=>by have:=JL.mp hm;omega
  rw [e2,Ld];rfl
 have k:=krv_pick xs;unfold slicePick at k;rw [krv_bounds] at k;have k2:((sliceRange ((xs.size:Int) - 1) (-1) (-1)).filterMap (xs[·]?)).toArray=xs.toList.reverse.toArray:=k;rw [krv_sliceRange] at k2;rw [e];exact k2
theorem DH{prog:NV}{w:NX}{A:N2}{E:NJ->NL->Prop}{s:NL}{sl:NK}{tk:Tok}{n:Nat}{Q:Int×Int×Nat->NL->Prop}(hs:s.heap.IsSliceOf sl .none .none (.int (-1) tk))
 (h:Q ((n:Int) - 1,-1,n) s):NS (NT prog w) A (JQ (.ref sl) (pure (n:Int))) Q E s:=by
 obtain⟨os,hos,hcs,hds⟩:=id hs;unfold JQ Ly;refine NM (NM (OF hos hds (x:= .none) rfl (NM (OF hos hds (x:= .none) rfl (NM (OF hos hds (x:= .int (-1) tk) rfl (NR ?_)))))));refine NM (slicePart_int ?_);show NS _ _ (if ((-1:Int)==0)=true then _ else _) _ _ s;rw [ND NB];refine NM (OP (NM (OP (NM (NR ?_)))));show NS _ _ (match Ju none none (-1) (n:Int) with | (lo,hi)=>pure (lo,(-1:Int),IY lo hi (-1))) _ _ s;rw [Dz];show NS _ _ (pure ((n:Int) - 1,(-1:Int),IY ((n:Int) - 1) (-1) (-1))) _ _ s;rw [DC];exact NR h
theorem DI{prog:NV}{w:NX}{A:N2}{E:NJ->NL->Prop}{s:NL}{t sl:NK}{items:Array NJ}{tk:Tok}{Q:NJ->NL->Prop}(ht:IsTup s.heap t items)(hs:s.heap.IsSliceOf sl .none .none (.int (-1) tk))(hz:items.size<=NO)
 (h:Q (.ref s.heap.objs.size) {s with heap:=s.heap.push {cls:= .type "tuple",data:= .seq items.toList.reverse.toArray}}):NS (NT prog w) A (Ot (.ref t) (.ref sl)) Q E s:=by
 have htake:sizeOk (.seq items.toList.reverse.toArray):=by
  show items.toList.reverse.toArray.size<=NO;rw [HK,K7,IV];exact hz
 obtain⟨os,hos,hcs,hds⟩:=id hs;have hTs:s.TypeIs (.ref sl) "slice":=⟨os,hos,hcs⟩;unfold Ot
 try with_reducible refine Oc ?_
 first | refine NM (NR ?_) | skip
 refine NM (OX ht.typeIs NB ?_);refine NM (OE (name:=HD "__getitem__") ht.typeIs Jd
  (OZ Jd ht.typeIs KU ?_ (KZ _ _)))
 show NS _ _ (Kl (.ref t) >>=_) _ _ s;refine NM (tupleItemsOf_ ht ?_);refine NM (OB hTs ?_);rw [NF NB];refine NM (DH hs ?_);show NS _ _ (if (((items.size:Int) - 1)==0 && (-1:Int)==1 && items.size==items.size)=true then _ else _) _ _ s;rw [ND NH,DD]
 first
  | exact NM (m:=I0 _) (Ob (NR ⟨_,rfl,NR h⟩) htake)
  | exact NM (m:=I0 _) (Ob (NM (NR (NR ⟨_,rfl,NR h⟩))) htake)
  | exact NM (NM (m:=I0 _) (Ob (NR (NR ⟨_,rfl,NR h⟩)) htake))
  | exact NM (NM (m:=I0 _) (Ob (NR ⟨_,rfl,NR h⟩) htake))
section
variable {X:Cx} {H0:Hp} {O0:Ex}
theorem DJ{e:NN}{te:TE}{pos p2 up cp:Pos}{j}(he:PE X e te):PE X (.Subscript e (.Slice none none (some (.UnaryOp .USub (.Constant (.int 1) j cp) up)) p2) pos) (λσ H Q=>te σ H λx H1=>∃a xs,x= .ref a/\bg X.K H1 a xs/\∀p,H1 p=none->Q (.ref p) (ak H1 p (.tup xs.reverse))):=by
 intro O6 s σ H Q I h;refine Subscript_ (ar (he O6 s σ H _ I h) λv s1 ⟨x,H1,I1,r1,q1⟩=>?_);obtain⟨a,xs,rfl,hq,q⟩:=q1;cases r1;refine wpAny_Slice ?_;rw [evalPart_none];refine NR (NR ?_);rw [evalPart_some];refine ar (qB qD cn O6 s1 σ H1 (λx H2=>x= .int (-1)/\H2=H1) I1 ⟨1,rfl,rfl,rfl⟩) λvk s3 ⟨x3,H3,I3,r3,e3,e4⟩=>?_;subst e3 e4;obtain⟨tk,rfl⟩:=r3;have I4:ae X O6 σ H3 {s3 with heap:=s3.heap.push {cls:= .type "slice",data:= .fields #[.none,.none,.int (-1) tk]}}:=I3.kept (t':=s3.toks) λb ob q=>HH _ q;show NS (NT X.prog X.w) X.A (OU e (.Slice none none (some (.UnaryOp .USub (.Constant (.int 1) j cp) up)) p2) (.ref a) (.ref s3.heap.objs.size)) (EP X O6 σ Q) X.xe {s3 with heap:=s3.heap.push {cls:= .type "slice",data:= .fields #[.none,.none,.int (-1) tk]}};obtain⟨its,r,ht,hz⟩:=I4.tuple hq;have hlen:=r.length;refine tail_any (ops:=[.ref a,.ref s3.heap.objs.size]) ht.typeIs Jd.lookup ?_ (by with_unfolding_all rfl);refine DI ht (Mp ..) (by rw [HK];omega) ?_;refine⟨.ref _,_,I4.laid (t':=s3.toks) (o:= .tup xs.reverse) (λb ob q=>HH _ q) (HE _) ?_,rfl,q _ (I4.hok.fresh (HE _))⟩;exact⟨by rw [K7];exact hz,_,(show az xs.reverse its.reverse from Cc r),LW _ _⟩
def uT(t:DT):DT:=λδ Q=>t δ λd=>∃xs,d= .tuple xs/\Q (.tuple xs.reverse)
theorem uU{e:NN}{t:DT}{pos p2 up cp:Pos}{j}(h:DF X H0 O0 e t):DE X H0 O0 (.Subscript e (.Slice none none (some (.UnaryOp .USub (.Constant (.int 1) j cp) up)) p2) pos) (uT t):=
 (DJ h).imp λσ H Q uu12=>by obtain⟨O,δ,Qd,w,q,k⟩:=uu12;exact⟨O,δ,_,w,q,λd v H1 uu13 s1 r1=>by
  obtain⟨xs,e,q1⟩:=uu13;subst e;obtain⟨a,us,rfl,h1,d1⟩:=r1.tup;exact⟨a,us,rfl,h1,λp hp=>k _ _ _ q1 (s1.trans (ao.new hp)) (.tup (.inl bj) (iX w s1 hp) (d1.reverse.mono (ao.new hp)))⟩⟩
end
theorem DK{xs:List NI}:aR xs none (some (-1))=xs.dropLast:=by
 unfold aR;rw [iN];have e:HT.sIx xs.length xs.length (some (-1))=xs.length - 1:=by
  simp only [HT.sIx];rw [NF NB];omega
 rw [e,MS,Nat.sub_zero,List.dropLast_eq_take]
section
variable {x:Option NN} {n:Nat} {env:Env}
theorem DL{a b}:Oa (.List a b) x n env=pure false:=rfl
theorem DM{a b c}:Oa (.Tuple a b c) x n env=pure false:=rfl
theorem je{a b c d}:Oa (.BinOp a b c d) x n env=pure false:=rfl
theorem jf{a b c d}:Oa (.Call a b c d) x n env=pure false:=rfl
theorem jg{a b c}:Oa (.Subscript a b c) x n env=pure false:=rfl
theorem DN{a b c}:Oa (.Dict a b c) x n env=pure false:=rfl
end
section
variable {X:Cx} {H0:Hp} {O0:Ex}
def uV:DS:=λ_ _=>False
theorem jh{st:N1}:PS X st (bh X.K H0 O0 uV):=Ab.imp λD σ H uu14=>by obtain⟨O,δ,E,w,q,_,_,_,_⟩:=uu14;exact q.elim
end
section
variable {α:Type} {P:α->Prop}
theorem DP{a:NI}{r:Dl}{P:NI->Prop}:cD 0 (some (Sl.v a)::r) P=P a:=rfl
theorem DQ{x:Option Sl}{r:Dl}{i:Nat}{P:NI->Prop}:cD (i+1) (x::r) P=cD i r P:=rfl
theorem DR{a:List NI}{r:Dl}{P:List NI->Prop}:(∃d,(some (Sl.o a)::r)[0]?=some (some (Sl.o d))/\P d)=P a:=NH
theorem DU{x:Option Sl}{r:Dl}{i:Nat}{P:List NI->Prop}:(∃d,(x::r)[i+1]?=some (some (Sl.o d))/\P d)=(∃d,r[i]?=some (some (Sl.o d))/\P d):=NH
theorem DV{a:Bool}{P:Bool->Prop}:(∃b,IZ a= .bool b/\P b)=P a:=NH
theorem DW{a:Int}{P:Int->Prop}:(∃b,HG a= .int b/\P b)=P a:=NH
theorem DX{a:Str}{P:Str->Prop}:(∃b,Hy a= .str b/\P b)=P a:=NH
theorem DY{a:List NI}{P:List NI->Prop}:(∃b,HI a= .tuple b/\P b)=P a:=NH
theorem DZ{a:List NI}{P:List NI->Prop}:(∃b,JF a= .list b/\P b)=P a:=NH
theorem D1{a b:Int}{P:Int->Int->Prop}:(∃i j,HG a= .int i/\HG b= .int j/\P i j)=P a b:=NH
theorem D2{a b:Str}{P:Str->Str->Prop}:(∃i j,Hy a= .str i/\Hy b= .str j/\P i j)=P a b:=NH
theorem D3{a b:List NI}{P:List NI->List NI->Prop}:(∃i j,HI a= .tuple i/\HI b= .tuple j/\P i j)=P a b:=NH
theorem D4{a b:List NI}{P:List NI->List NI->Prop}:(∃i j,JF a= .list i/\JF b= .list j/\P i j)=P a b:=NH
theorem D5{a:NI}{r:List NI}{P:NI->List NI->Prop}:(∃x y,a::r=x::y/\P x y)=P a r:=propext ⟨λuu15=>by obtain⟨_,_,e,p⟩:=uu15;cases e;exact p,λp=>⟨_,_,rfl,p⟩⟩
theorem D6{a b:NI}{P:NI->NI->Prop}:(∃x y,[a,b]=[x,y]/\P x y)=P a b:=propext ⟨λuu16=>by obtain⟨_,_,e,p⟩:=uu16;cases e;exact p,λp=>⟨_,_,rfl,p⟩⟩
theorem D7{a:NI}{r:List NI}{P:NI->Prop}:(∃ds i d,HI (a::r)= .tuple ds/\HG 0= .int i/\atI ds i=some d/\P d)=P a:=by simp [cR]
theorem D8{a b:NI}{r:List NI}{P:NI->Prop}:(∃ds i d,HI (a::b::r)= .tuple ds/\HG 1= .int i/\atI ds i=some d/\P d)=P b:=by simp [cZ]
theorem D9{a b c:NI}{r:List NI}{P:NI->Prop}:(∃ds i d,HI (a::b::c::r)= .tuple ds/\HG 2= .int i/\atI ds i=some d/\P d)=P c:=by simp [jR]
theorem Ea{a b c e:NI}{r:List NI}{P:NI->Prop}:(∃ds i d,HI (a::b::c::e::r)= .tuple ds/\HG 3= .int i/\atI ds i=some d/\P d)=P e:=by simp [lC]
theorem Eb{xs:List NI}{k:Int}{P:NI->Prop}:(∃ds i d,HI xs= .tuple ds/\HG k= .int i/\atI ds i=some d/\P d)=(∃d,atI xs k=some d/\P d):=NH
theorem Ec{xs:List NI}{k:Int}{P:NI->Prop}:(∃ds i d,JF xs= .list ds/\HG k= .int i/\atI ds i=some d/\P d)=(∃d,atI xs k=some d/\P d):=NH
end
def dS:ah->NI
 | .inl i=>.int i
 | .inr x=>.str x
def bZ(kd:List (ah×NI))(k:ah):Option NI:=(kd.find? λp=>decide (p.1=k)).map (·.2)
def dB(kd:List (ah×NI))(k:ah)(d:NI):List (ah×NI):=if (kd.any λp=>decide (p.1=k))=true then kd.map (λp=>if p.1=k then(p.1,d) else p) else kd++[(k,d)]
section
variable {K:Hx} {H:Hp} {O:Ex}
theorem Dt.key{v:V}{k:ah}(h:Dt K H O v (dS k)):v=kV k:=by
 cases k with
 | inl i=>cases h;rfl
 | inr x=>cases h;rfl
theorem aZ.val{kv:List (ah×V)}{kd:List (ah×NI)}(h:aZ K H O kv kd)(k:ah):(cG kv k=none/\bZ kd k=none)\/∃v d,cG kv k=some v/\bZ kd k=some d/\Dt K H O v d:=by
 induction h with
 | nil=>exact .inl ⟨rfl,rfl⟩
 | @cons j v d r s a _ ih=>
  by_cases e:j=k
  ·exact .inr ⟨v,d,jT e,by simp [bZ,Jm,e],a⟩
  ·rw [i9 e,show bZ ((j,d)::s) k=bZ s k by simp [bZ,Jm,e]];exact ih
theorem aZ.any{kv:List (ah×V)}{kd:List (ah×NI)}(h:aZ K H O kv kd)(k:ah):(kv.any λp=>decide (p.1=k))=(kd.any λp=>decide (p.1=k)):=by
 induction h with
 | nil=>rfl
 | cons a _ ih=>simp only [JK,ih]
theorem aZ.length{kv:List (ah×V)}{kd:List (ah×NI)}(h:aZ K H O kv kd):kv.length=kd.length:=by
 induction h with
 | nil=>rfl
 | cons a _ ih=>simp only [HN,ih]
theorem aZ.append{kv kv':List (ah×V)}{kd kd':List (ah×NI)}(h:aZ K H O kv kd)(h':aZ K H O kv' kd'):aZ K H O (kv++kv') (kd++kd'):=by
 induction h with
 | nil=>exact h'
 | cons a _ ih=>exact .cons a ih
theorem aZ.repl{kv:List (ah×V)}{kd:List (ah×NI)}(h:aZ K H O kv kd)(k:ah){v:V}{d:NI}(hv:Dt K H O v d):aZ K H O (kv.map λp=>if p.1=k then(p.1,v) else p) (kd.map λp=>if p.1=k then(p.1,d) else p):=by
 induction h with
 | nil=>exact .nil
 | @cons j u e r s a _ ih=>
  simp only [HF];by_cases z:j=k
  ·rw [NF z,NF z];exact .cons hv ih
  ·rw [ND z,ND z];exact .cons a ih
theorem aZ.put{kv:List (ah×V)}{kd:List (ah×NI)}(h:aZ K H O kv kd)(k:ah){v:V}{d:NI}(hv:Dt K H O v d):aZ K H O (putK kv k v) (dB kd k d):=by
 unfold putK dB;rw [h.any k];split
 ·exact h.repl k hv
 ·exact h.append (.cons hv .nil)
end
section
variable {X:Cx} {H0:Hp} {O0:Ex}
abbrev fM:=Dl->(List (ah×NI)->Prop)->Prop
inductive uW (K:Hx) (H0:Hp) (O0:Ex) (t:fM) (σ:St) (H:Hp) (R:VK):Prop
 | mk (O:Ex) (δ:Dl) (Qd:List (ah×NI)->Prop):Wd K H0 O0 H O σ δ->t δ Qd->(∀kd kv p H',Qd kd->ao H H'->H' p=none->aZ K H' O kv kd->R (.ref p) (ak H' p (.dK kv)))->uW K H0 O0 t σ H R
abbrev KE(X:Cx)(H0:Hp)(O0:Ex)(e:NN)(t:fM):Prop:=PE X e (uW X.K H0 O0 t)
def uX:fM:=λ_ Q=>Q []
theorem Ed{pos:Pos}:KE X H0 O0 (.Dict [] [] pos) uX:=tR.imp λσ H Q uu17=>by obtain⟨O,δ,Qd,w,q,k⟩:=uu17;exact λp hp=>k [] [] p H q (ao.refl _) hp .nil
def uY(i:Nat)(t:fM):DS:=λE δ=>t δ λkd=>E.nx (δ.set i (some (.k kd)))
theorem oj{i:Nat}{x:Str}{e:NN}{t:fM}{pos pos':Pos}(hN:X.N.Nodup)(hi:X.N[i]?=some x)(hx:fc X.env.scope x)(he:KE X H0 O0 e t)(hs:Oa e (some (.Name x pos')) pos.line X.env=pure false:=by rfl)(hf:X.fn x=true\/X.env.scope.names.lookup x=some .local:=by first | exact .inl rfl | exact .inr rfl | assumption):
 PS X (.Assign [.Name x pos'] e pos) (bh X.K H0 O0 (uY i t)):=
 (g9 hN hi hx he hs hf).imp λD σ H ⟨O,δ,E,w,q,k1,k2,k3,k4⟩=>⟨O,δ,_,w,q,λds vs p H1 q1 s1 hp r1=>k1 _ _ _ _ q1 ((w.mono s1).setK hp r1)
  ⟨λb o e _=>(s1.trans (ao.new hp)) b o e,λb e n z=>z.elim n λy=>by
   cases q:H b with
   | none=>exact e q
   | some o=>have:=s1 _ _ q;rw [y,hp] at this;cases this⟩⟩
def uZ(i:Nat)(tk tv:DT):DS:=λE δ=>tv δ λd=>∃kd,δ[i]?=some (some (.k kd))/\tk δ λy=>∃k,y=dS k/\kd.length < NO/\E.nx (δ.set i (some (.k (dB kd k d))))
theorem u5{i:Nat}{o e v:NN}{tk tv:DT}{pos pos':Pos}(hu:X.A.units+64 < N4)(ho:PE X o (dF i))(he:DE X H0 O0 e tk)(hv:DE X H0 O0 v tv)(hs:Oa v (some (.Subscript o e pos')) pos.line X.env=pure false:=by rfl):
 PS X (.Assign [.Subscript o e pos'] v pos) (bh X.K H0 O0 (uZ i tk tv)):=
 (Cr NC ho he hv hs).imp λD σ H ⟨O,δ,E,w,q,k1,k2,k3,k4⟩=>⟨O,δ,_,w,q,λd u H1 uu20 s1 r1=>by
  obtain⟨kd,e,qk⟩:=uu20;have w1:=w.mono s1;obtain⟨l,kv,h,a,b,c,r⟩:=w1.ownK e;refine⟨.ref l,h,O,δ,_,w1,qk,λy uy H2 ⟨k,ek,hl,q2⟩ s2 r2=>?_⟩;subst ek;obtain rfl:=r2.key;refine⟨l,_,rfl,jU.k (s2 _ _ c) (by rw [r.length];exact hl),k1 _ _ _ _ q2 ((w1.mono s2).putK e h ((r.mono s2).put k (r1.mono s2))) ⟨λb' o' z n=>?_,λ_ _ n=>n⟩⟩;rw [aB (λy=>n (by rw [y];exact a))];exact(s1.trans s2) _ _ z⟩
def u7(i:Nat)(tk:DT):DT:=λδ Q=>∃kd,δ[i]?=some (some (.k kd))/\tk δ λy=>∃k d,y=dS k/\bZ kd k=some d/\Q d
theorem aZ.got{K:Hx}{H:Hp}{O:Ex}{kv:List (ah×V)}{kd:List (ah×NI)}(h:aZ K H O kv kd){k:ah}{d:NI}(e:bZ kd k=some d):∃v,cG kv k=some v/\Dt K H O v d:=by
 rcases h.val k with⟨_,z⟩ | ⟨v,d',a,b,c⟩
 ·rw [e] at z;cases z
 ·rw [e] at b;cases b;exact⟨v,a,c⟩
theorem aZ.none{K:Hx}{H:Hp}{O:Ex}{kv:List (ah×V)}{kd:List (ah×NI)}(h:aZ K H O kv kd){k:ah}:(cG kv k).isSome=(bZ kd k).isSome:=by
 rcases h.val k with⟨y,z⟩ | ⟨v,d',a,b,c⟩
 ·rw [y,z];rfl
 ·rw [a,b];rfl
theorem u9{i:Nat}{o e:NN}{tk:DT}{pos:Pos}(hu:X.A.units+64 < N4)(ho:PE X o (dF i))(he:DE X H0 O0 e tk)(hs:lF e):DE X H0 O0 (.Subscript o e pos) (u7 i tk):=
 (tO NC ho he hs).imp λσ H Q uu22=>by
  obtain⟨O,δ,Qd,w,⟨kd,e,q⟩,k⟩:=uu22;obtain⟨l,kv,h,a,b,c,r⟩:=w.ownK e;refine⟨.ref l,h,O,δ,_,w,q,λy uy H2 ⟨ky,d,ek,ev,q2⟩ s2 r2=>?_⟩;subst ek;obtain rfl:=r2.key;obtain⟨v,hv,dv⟩:=r.got ev;exact⟨l,v,rfl,by rw [<-hv];exact cq.k (s2 _ _ c),k _ _ _ q2 s2 (dv.mono s2)⟩
def va(i:Nat)(tk:DT):DT:=λδ Q=>∃kd,δ[i]?=some (some (.k kd))/\tk δ λy=>∃k,y=dS k/\Q ((bZ kd k).getD .none)
theorem Ee{i:Nat}{o e:NN}{tk:DT}{apos cpos:Pos}(hu:X.A.units+64 < N4)(ho:PE X o (dF i))(he:DE X H0 O0 e tk)(m:M1 X o "get" apos e cpos):DE X H0 O0 (.Call (.Attribute o "get" apos) [e] [] cpos) (va i tk):=
 (tV NC ho he m).imp λσ H Q uu24=>by
  obtain⟨O,δ,Qd,w,⟨kd,e,q⟩,k⟩:=uu24;obtain⟨l,kv,h,a,b,c,r⟩:=w.ownK e;refine⟨.ref l,h,l,rfl,.inl ⟨kv,.inl c⟩,O,δ,_,w,q,λy uy H2 ⟨ky,ek,q2⟩ s2 r2=>?_⟩;subst ek;obtain rfl:=r2.key;refine⟨_,cq.k (s2 _ _ c),k _ _ _ q2 s2 ?_⟩;rcases r.val ky with⟨y,z⟩ | ⟨v,d',a',b',c'⟩
  ·rw [y,z];exact .non
  ·rw [a',b'];exact c'.mono s2
def j6(neg:Bool)(i:Nat)(tk:DT):DT:=λδ Q=>tk δ λy=>∃k,y=dS k/\∃kd,δ[i]?=some (some (.k kd))/\Q (.bool (if neg then !(bZ kd k).isSome else(bZ kd k).isSome))
theorem Ef{i:Nat}{o e:NN}{tk:DT}(hu:X.A.units+64 < N4)(ho:PE X o (dF i))(he:DE X H0 O0 e tk):PC X .In e o (up X.K H0 O0 (j6 false i tk)):=λO6 s σ H Q I ⟨O,δ,Qd,w,q,k⟩=>
 tP NC he ho O6 s σ H Q I ⟨O,δ,_,w,q,λy uy H2 uu27 s2 r2=>by
  obtain⟨ky,ek,kd,e,q2⟩:=uu27;subst ek;obtain rfl:=r2.key;obtain⟨l,kv,h,a,b,c,r⟩:=(w.mono s2).ownK e;exact⟨.ref l,h,l,_,rfl,cq.k c,by rw [r.none];exact k _ _ _ q2 s2 (.bl _)⟩⟩
theorem Eg{i:Nat}{o e:NN}{tk:DT}(hu:X.A.units+64 < N4)(ho:PE X o (dF i))(he:DE X H0 O0 e tk):PC X .NotIn e o (up X.K H0 O0 (j6 true i tk)):=λO6 s σ H Q I ⟨O,δ,Qd,w,q,k⟩=>
 Cq NC he ho O6 s σ H Q I ⟨O,δ,_,w,q,λy uy H2 uu29 s2 r2=>by
  obtain⟨ky,ek,kd,e,q2⟩:=uu29;subst ek;obtain rfl:=r2.key;obtain⟨l,kv,h,a,b,c,r⟩:=(w.mono s2).ownK e;exact⟨.ref l,h,l,_,rfl,cq.k c,by rw [r.none];exact k _ _ _ q2 s2 (.bl _)⟩⟩
end
open PySem PySem.Spec PyProof.Rows PySem.W PySem.Calls
theorem aZ.keys{K:Hx}{H:Hp}{O:Ex}{kv:List (ah×V)}{kd:List (ah×NI)}(h:aZ K H O kv kd):kv.map (·.1)=kd.map (·.1):=by
 induction h with
 | nil=>rfl
 | cons a _ ih=>simp only [HF,ih]
section
variable {X:Cx} {H0:Hp} {O0:Ex}
theorem Hv{i:Nat}{o e:NN}{tk:DT}{pos:Pos}(hu:X.A.units+64 < N4)(ho:PE X o (dF i))(he:DE X H0 O0 e tk)(hm:N6 .In o=false:=by rfl):PT X (.Compare e [.In] [o] pos) (bL X.K H0 O0 (gG (j6 false i tk))):=
 (mw (Ef hu ho he) hm).imp λσ H Q uu30=>by obtain⟨O,δ,Qd,w,q,k⟩:=uu30;exact⟨O,δ,_,w,q,λd v H' uu31 s r=>by obtain⟨b,e,qb⟩:=uu31;subst e;cases r;exact⟨b,rfl,k b H' qb s⟩⟩
theorem vb{i:Nat}{o e:NN}{tk:DT}{pos:Pos}(hu:X.A.units+64 < N4)(ho:PE X o (dF i))(he:DE X H0 O0 e tk)(hm:N6 .NotIn o=false:=by rfl):PT X (.Compare e [.NotIn] [o] pos) (bL X.K H0 O0 (gG (j6 true i tk))):=
 (mw (Eg hu ho he) hm).imp λσ H Q uu32=>by obtain⟨O,δ,Qd,w,q,k⟩:=uu32;exact⟨O,δ,_,w,q,λd v H' uu33 s r=>by obtain⟨b,e,qb⟩:=uu33;subst e;cases r;exact⟨b,rfl,k b H' qb s⟩⟩
end
section
theorem Eh{a:List (ah×NI)}{r:Dl}{P:List (ah×NI)->Prop}:(∃d,(some (Sl.k a)::r)[0]?=some (some (Sl.k d))/\P d)=P a:=NH
theorem Ei{x:Option Sl}{r:Dl}{i:Nat}{P:List (ah×NI)->Prop}:(∃d,(x::r)[i+1]?=some (some (Sl.k d))/\P d)=(∃d,r[i]?=some (some (Sl.k d))/\P d):=NH
theorem Ej{a:List (ah×NI)}{l:Dl}{i:Nat}{P:List (ah×NI)->Prop}:(∃d,(l.set i (some (Sl.k a)))[i]?=some (some (Sl.k d))/\P d)=(i < l.length/\P a):=by
 apply propext;rw [List.getElem?_set_self'];constructor
 ·rintro⟨d,e,p⟩;by_cases h:i < l.length
  ·rw [HL h] at e;cases e;exact⟨h,p⟩
  ·rw [KY NC] at e;cases e
 ·rintro⟨h,p⟩;exact⟨a,by rw [HL h];rfl,p⟩
theorem Ek{x:Str}{P:ah->Prop}:(∃k,Hy x=dS k/\P k)=P (.inr x):=propext ⟨λuu34=>by obtain⟨k,e,p⟩:=uu34;cases k with | inl i=>cases e | inr y=>cases e;exact p,λp=>⟨_,rfl,p⟩⟩
end
def vc:NI->NI->(NI->Prop)->Prop:=λx y Q=>∃ds i d,x=d6 ds/\y= .int i/\atI ds i=some d/\Q d
theorem El{K:Hx}:bE K (kU K) vc:=λH O x y dx dy Qd R _ hx hy uu35 k=>by
 obtain⟨ds,i,d,e1,e2,e3,q⟩:=uu35;subst e1 e2;obtain⟨a,vs,rfl,hs,r⟩:=hx.scr;cases hy.int;obtain⟨v,hv,rv⟩:=r.atI e3;exact⟨a,vs,i,v,rfl,rfl,hs,hv,k d v H q (ao.refl _) rv⟩
section
variable {X:Cx} {H0:Hp} {O0:Ex}
def vd(t:DT)(tl th:DO):DA:=λδ Q=>t δ λd=>tl δ λl=>th δ λu=>∃xs,d=d6 xs/\Q (aR xs l u)
theorem Em{e:NN}{lo hi:Option NN}{t:DT}{tl th:DO}{pos p2:Pos}(h:DF X H0 O0 e t)(hl:PO X lo (fo X.K H0 O0 tl))(hu:PO X hi (fo X.K H0 O0 th)):FE X H0 O0 (.Subscript e (.Slice lo hi none p2) pos) (vd t tl th):=
 (kT qW h hl hu).imp λσ H Q uu36=>by obtain⟨O,δ,Qd,w,q,k⟩:=uu36;exact⟨O,δ,_,w,q,λd v H1 q1 s1 r1=>⟨O,δ,_,w.mono s1,q1,λl H2 q2 s2=>⟨O,δ,_,w.mono (s1.trans s2),q2,λu H3 uu37 s3=>by
  obtain⟨xs,e,q3⟩:=uu37;subst e;obtain⟨a,vs,rfl,h1,d1⟩:=(r1.mono (s2.trans s3)).scr;exact⟨a,vs,rfl,h1,λp hp=>k _ _ _ _ q3 (s1.trans (s2.trans s3)) hp (d1.cut l u)⟩⟩⟩⟩
end
structure Rw where
 w:Str
 n:Int
 nm:Str
 r:List NI
abbrev Ls:=List (Str×Rw)
theorem ve{a b:Str}:((Je a:ah)=Je b)↔a=b:=⟨λh=>by cases h;rfl,λh=>by rw [h]⟩
theorem ai.intsL{K:Hx}{H:Hp}{O:Ex}:∀{ns:List Int}{vs:List V},ai K H O vs (ns.map HG)->vs=ns.map V.int
 | [],_,r=>by rw [Jq] at r;cases r;rfl
 | b::bs,_,r=>by
  rw [HF] at r;cases r with
  | cons h r=>cases h;rw [HF,ai.intsL r]
def om(o:Obj)(a:NK)(kv:List (ah×V)):It:=⟨λi H=>i < kv.length/\H a=some (.frz o (.dK kv)),λi H x H'=>H'=H/\∃p,kv[i]?=some p/\x=kV p.1,λi H=>kv.length<=i/\H a=some (.frz o (.dK kv))⟩
theorem vf{P:NV}{w:NX}{H:Hp}{h:NZ}{a:NK}{o:Obj}{es:Array Ol}{ep:Nat}{kv:List (ah×V)}(ok:bG P w H h)(e:H a=some (.frz o (.dK kv)))(d:o.data= .dict es ep):
 (a==Oh)=false/\∃vs,KV kv vs/\h.DictAt (bQ P w) a vs ep:=by
 obtain⟨h1,_,hd,vs,rel,o',es',ep',g,r1,r2,r3⟩:=ok a _ e;rw [h1] at g;cases g;rw [d] at r2;cases r2;exact⟨hd,vs,rel,o,es,h1,r1,d,r3⟩
theorem KV.len{kv:List (ah×V)}{vs:List (ah×NJ)}(r:KV kv vs):vs.length=kv.length:=r.length.symm
theorem En{P:NV}{w:NX}{K:Hx}{tg:NN}(it a:NK)(o:Obj)(es:Array Ol)(ep:Nat)(kv:List (ah×V))(d:o.data= .dict es ep):iI P w K tg (om o a kv) [it] it (λi h=>h.IsKeyIter it a i kv.length ep) where
 mem:=NH
 obj:=λi h st b hb=>by
  have e:b=it:=by simpa using hb
  subst e;obtain⟨o,e,c,d⟩:=st;exact⟨o,e,λv z=>by rw [d] at z;cases z⟩
 keep:=λi h h' st k=>st.at λo e=>k it NH o e
 item:=by
  intro X hP hw hK hc i O6 s σ H E I hf st hg;subst hP hw hK;obtain⟨hi,ha⟩:=hg;obtain⟨hd,vs,rel,da⟩:=vf I.hok ha d;have hlen:=rel.len;obtain⟨f0,f1,f2,f3,f4,f5⟩:=hf it NH;obtain⟨⟨k0,v0⟩,hx⟩:∃p,vs[i]?=some p:=⟨vs[i]'NC,by simp [hlen,hi]⟩;refine wpAny_pyNext_dict_item (by rw [hlen];exact st) da hx λkey h' hkey st' sb=>?_;rw [hlen] at st';have I1:ae X O6 σ H {s with heap:=h'}:=I.turned (t':=s.toks) (λb o hb e=>(sb.2 b hb).trans e) f0 f1 f3 f4 f5;obtain⟨u,e,c,dd⟩:=id st';have ek:(kv[i]'hi).1=k0:=by
   have z:=congrArg (λl:List ah=>l[i]?) rel.keys;simp only [Ie,hx] at z;simpa [hi] using z
  refine⟨key,rfl,jz (s:={s with heap:=h'}) e c dd NB ⟨kV (kv[i]'hi).1,H,I1,?_,⟨rfl,_,by simp [hi],rfl⟩,st',λb hb=>(hf b hb).1⟩⟩;rw [ek];rcases fB (k:=k0) (v:=key) hkey with⟨j,t,e1,e2⟩ | ⟨j,t,e1,e2⟩
  ·rw [e1,e2];exact⟨t,rfl⟩
  ·rw [e1,e2];exact⟨t,rfl⟩
 done:=by
  intro X hP hw hK hc i O6 s σ H E I hf st hg;subst hP hw hK;obtain⟨hi,ha⟩:=hg;obtain⟨hd,vs,rel,da⟩:=vf I.hok ha d;have hlen:=rel.len;obtain⟨f0,f1,f2,f3,f4,f5⟩:=hf it NH;refine wpAny_pyNext_dict_end (I.ok.hd hc) (by rw [hlen];exact st) da (by simp [hlen,hi]) λh' he=>⟨rfl,?_⟩;exact I.turned (t':=s.toks) (λb o hb e=>he b o hb e) f0 f1 f3 f4 f5
 self:=λA i s Q E st h=>wpAny_pyIter_keyiter st h
theorem Wd.frzK{K:Hx}{H0 H:Hp}{O0 O:Ex}{σ:St}{δ:Dl}(w:Wd K H0 O0 H O σ δ){i:Nat}{l:NK}{y0:Sl}(e:δ[i]?=some (some y0))(ho:y0.own)(h:σ[i]?=some (some (.ref l)))(u:HO):
 ∃O',Wd K H0 O0 (ak H l u) O' σ (δ.set i none)/\aJ H (ak H l u) O O'/\¬O' l:=by
 obtain⟨l',x1,a,b⟩:=w.adr e ho;rw [h] at x1;cases x1;have l0:H0 l=none:=(w.new l a).resolve_left b;have S:aJ H (ak H l u) O (λx=>O x/\x≠l):=⟨λc q z n=>by rw [aB (λy=>n (by rw [y];exact a))];exact z,λ_ _ n z=>n z.1⟩;have li:i < δ.length:=(HP.mp e).1;have ne:∀{j:Nat}{y:Sl},(δ.set i none)[j]?=some (some y)->j≠i:=λ{j y} q z=>by
  subst z;rw [Ir li] at q;cases q
 refine⟨_,⟨λc q z=>?_,λx z=>⟨w.sub x z,λy=>b (by rw [<-y];exact z)⟩,λx z=>w.new x z.1,λx z=>by rw [aB z.2];exact w.trk x z.1,by simp [w.len],λj y q=>?_,λj k y z l' e1 y1 e2 z2 e3 e4=>?_⟩,S,λz=>z.2 rfl⟩
 ·have:c≠l:=λy=>by rw [y,l0] at z;cases z
  rw [aB this];exact w.same c q z
 ·by_cases hj:j=i
  ·subst hj;rw [Ir li] at q;cases q;exact Jh
  ·rw [Ii (Ne.symm hj)] at q;refine(w.sl j y q).go S (λb o ho' e' a1 a2 a3=>?_) (λb o u a1 a2 a3=>by have nb:b≠l:=λz=>w.nofrz e ho h o u (by rw [<-z];exact a3);exact⟨⟨a1,nb⟩,by rw [aB nb];exact a3⟩) λc o a1 a3=>by rw [aB (λz=>b (by rw [<-z];exact a1))];exact a3
   have nb:b≠l:=λz=>by
    subst z
    match y,ho',q with
    | some z,ho',q=>exact hj (w.dis j i z y0 _ q (by cases z <;> first | trivial | cases ho') e ho (gb e') h)
   exact⟨⟨a1,nb⟩,by rw [aB nb];exact a3⟩
 ·have n1:=ne e1;have n2:=ne e2;rw [Ii (Ne.symm n1)] at e1;rw [Ii (Ne.symm n2)] at e2;exact w.dis j k _ _ l' e1 y1 e2 z2 e3 e4
theorem bT.dk{o:Obj}{a:NK}{kv:List (ah×V)}:bT (om o a kv) (λH=>H a=some (.frz o (.dK kv))) (kv.map λp=>kV p.1):=by
 refine⟨λi H' s hi=>⟨by simpa using hi,s⟩,λi H' x H'' s hi y=>⟨y.1,?_⟩,λi H' s hi=>⟨by simpa using hi,s⟩⟩;obtain⟨_,p,hp,rfl⟩:=y;simp [hp]
def j7:List (DT×DT)->Dl->(List (NI×NI)->Prop)->Prop
 | [],_,Q=>Q []
 | (a,b)::r,δ,Q=>a δ λx=>b δ λy=>j7 r δ λps=>Q ((x,y)::ps)
inductive eY (K:Hx) (H:Hp) (O:Ex):List (V×V)->List (NI×NI)->Prop
 | nil:eY K H O [] []
 | cons {a b:V} {x y:NI} {r s}:Dt K H O a x->Dt K H O b y->eY K H O r s->eY K H O ((a,b)::r) ((x,y)::s)
theorem oo{K:Hx}{H0:Hp}{O0 O:Ex}{σ:St}{δ:Dl}:∀(trs:List (DT×DT)){H:Hp}{Qd:List (NI×NI)->Prop}{R:List (V×V)->Hp->Prop},Wd K H0 O0 H O σ δ->j7 trs δ Qd->(∀ds vs H',Qd ds->ao H H'->eY K H' O vs ds->R vs H')->lG (trs.map λp=>(up K H0 O0 p.1,up K H0 O0 p.2)) σ H R
 | [],H,Qd,R,w,q,k=>k [] [] H q (ao.refl _) .nil
 | (a,b)::r,H,Qd,R,w,q,k=>by
  refine⟨O,δ,_,w,q,λx v H1 q1 s1 r1=>⟨O,δ,_,w.mono s1,q1,λy u H2 q2 s2 r2=>?_⟩⟩;exact oo r ((w.mono s1).mono s2) q2 λds vs H3 q3 s3 r3=>k _ _ H3 q3 ((s1.trans s2).trans s3) (.cons (r1.mono (s2.trans s3)) (r2.mono s3) r3)
theorem Dt.free{K:Hx}{H H':Hp}{O O':Ex}{v:V}{d:NI}(h:Dt K H O v d)(s:k7 d=true):Dt K H' O' v d:=by
 cases h <;> first | exact .non | exact .bl _ | exact .int _ | exact .str _ | cases s
theorem eY.kd{K:Hx}{H H':Hp}{O:Ex}:∀{kd:List (ah×NI)}{ps:List (V×V)},eY K H O ps (kd.map λp=>(dS p.1,p.2))->(∀p∈kd,k7 p.2=true)->∃kv:List (ah×V),ps=kv.map (λp=>(kV p.1,p.2))/\aZ K H' O kv kd
 | [],_,h,_=>by cases h;exact⟨[],rfl,.nil⟩
 | p::kd,_,h,sc=>by
  cases h with
  | cons a b r=>
   obtain⟨kv,e,k⟩:=eY.kd r λq hq=>sc q (Ic _ hq);have:=a.key;exact⟨(p.1,_)::kv,by rw [e,this];rfl,.cons (b.free (sc p HZ)) k⟩
theorem aZ.merge{K:Hx}{H:Hp}{O:Ex}{more:List (ah×V)}{md:List (ah×NI)}(h:aZ K H O more md):∀{kv:List (ah×V)}{kd:List (ah×NI)},aZ K H O kv kd->aZ K H O (d9 kv more) (md.foldl (λa p=>dB a p.1 p.2) kd):=by
 induction h with
 | nil=>intro kv kd r;exact r
 | cons a _ ih=>intro kv kd r;exact ih (r.put _ a)
section
variable {X:Cx} {H0:Hp} {O0:Ex}
def vg(trs:List (DT×DT)):fM:=λδ Q=>j7 trs δ λps=>∃kd:List (ah×NI),ps=kd.map (λp=>(dS p.1,p.2))/\kd.length<=15/\(∀p∈kd,k7 p.2=true)/\Q (kd.foldl (λa p=>dB a p.1 p.2) [])
def j9(X:Cx)(H0:Hp)(O0:Ex)(pos:Pos)(keys:List (Option NN))(values:List NN)(trs:List (DT×DT)):Prop:=jV X pos keys values (trs.map λp=>(up X.K H0 O0 p.1,up X.K H0 O0 p.2))
theorem vh{pos:Pos}:j9 X H0 O0 pos [] [] []:=Ct
theorem kc{pos:Pos}{k v:NN}{ks:List (Option NN)}{vs:List NN}{tk tv:DT}{trs:List (DT×DT)}(hk:DE X H0 O0 k tk)(hv:DE X H0 O0 v tv)(hr:j9 X H0 O0 pos ks vs trs):j9 X H0 O0 pos (some k::ks) (v::vs) ((tk,tv)::trs):=Cu hk hv hr
theorem Eo{pos:Pos}{keys:List (Option NN)}{values:List NN}{trs:List (DT×DT)}(h:j9 X H0 O0 pos keys values trs)(hall:keys.all (·.isSome)=true:=by rfl)(hl:keys.length=values.length:=by rfl)(h0:keys≠[]:=by exact MI _ _)(h15:keys.length<=15:=by exact L9 rfl):KE X H0 O0 (.Dict keys values pos) (vg trs):=
 (tT h hall hl h0 h15).imp λσ H Q ⟨O,δ,Qd,w,q,k⟩=>λp hp=>by
  refine oo trs (w.mono (ao.new hp)) q λds vs H2 ⟨kd,e,n,sc,q2⟩ s2 r2=>?_;subst e;have hp2:H2 p=some (.dK []):=s2 _ _ bj;obtain⟨kv,e,r⟩:=eY.kd (H':=λb=>if b=p then none else H2 b) r2 sc;refine⟨hp2,kv,e,by rw [r.length];exact n,?_⟩;have eu:ak H2 p (.dK (d9 [] kv))=ak (λb=>if b=p then none else H2 b) p (.dK (d9 [] kv)):=by
   funext b;unfold ak;split
   ·rfl
   ·rename_i hb;exact(ND hb).symm
  rw [eu];refine k _ _ p _ q2 (λb o z=>?_) (NF rfl) (r.merge .nil);have:b≠p:=λy=>by rw [y,hp] at z;cases z
  show(if b=p then none else H2 b)=some o;rw [ND this];exact s2 _ _ (by rw [aB this];exact z)
theorem vi{N':List Str}{k:Nat}{fr:List Nat}{scope:Of}{iter elt tg:NN}{ifs:List NN}{t te:DT}{tc:DB}{g:TG}{dg:DG}{pos:Pos}(hc:X.calm=true)(S:bu X.env.scope X.N N' k fr scope)(hi:DF X H0 O0 iter t)(gd:GD X.K g dg)(hk:gh g k)(hfr:fr.Nodup)
 (hg:∀fp C s H,PG (bo X scope N' fp C s H) tg g)(hf:∀fp C s H,cY (bo X scope N' fp C s H) ifs (bL X.K H0 O0 tc))(he:∀fp C s H,PE (bo X scope N' fp C s H) elt (up X.K H0 O0 te))
 (hs:∀x,N0 iter X.env x=pure x:=by intro _;rfl):PU X (.ListComp elt [⟨tg,iter,ifs,0⟩] scope pos) (jM X.K H0 O0 (lA t dg tc te k fr)):=
 (t5 hc S (kJ hi) hg hf he hs).imp λσ H Q uu40=>by obtain⟨O,δ,Qd,w,q,kk⟩:=uu40;exact⟨O,δ,_,w,q,λd v H1 uu41 s1 r1=>by
  obtain⟨xs,e,hz,q1⟩:=uu41;subst e;obtain⟨a,vs,rfl,hq,rr⟩:=r1.tup;refine⟨a,rfl,⟨_,hq⟩,λD hD=>ia (bT.tup hq) gd hfr (λv _ H' R h=>hk fr σ v H' R h) (λ_ _ _ z=>z) (λ_ _ _ z=>z) (λD H' hD s' o e=>s' _ _ e (cC e hD)) rr (w.mono s1) (by rw [rr.length];exact hz) q1 (λds us p H' z s' hp r'=>kk ds us p H' z (s1.trans s') hp r') D hD⟩⟩
end
structure ji (n:Nat) (lt:Nat->Nat->Bool) (I:NL->Prop) (cmp:Nat->Nat->(Bool->NL->Prop)->NL->Prop):Prop where
 as:∀i j C s,i < n->j < n->i≠j->I s->(∀s',I s'->C (lt i j) s')->cmp i j C s
structure fN (n:Nat) (lt:Nat->Nat->Bool):Prop where
 tot:∀i j,i < n->j < n->i≠j->lt i j=!lt j i
 tr:∀i j k,i < n->j < n->k < n->lt i j=true->lt j k=true->lt i k=true
structure bR (n:Nat) (p:Array Nat):Prop where
 perm:p.toList.Perm (IG n)
theorem bR.size{n:Nat}{p:Array Nat}(h:bR n p):p.size=n:=by rw [<-IV,h.perm.length_eq,KL]
theorem bR.lt{n:Nat}{p:Array Nat}(h:bR n p){k:Nat}(hk:k < n):p.getD k 0 < n:=by
 have hs:=h.size;have e:p.getD k 0=p[k]'NC:=by simp [LA,show k < p.size by omega]
 rw [e];have:=h.perm.mem_iff.mp (Array.mem_toList_iff.mpr (Array.getElem_mem (show k < p.size by omega)));simpa using this
theorem bR.ne{n:Nat}{p:Array Nat}(h:bR n p){i j:Nat}(hi:i < n)(hj:j < n)(hij:i≠j):p.getD i 0≠p.getD j 0:=by
 have hs:=h.size;have nd:p.toList.Nodup:=h.perm.nodup_iff.mpr List.nodup_range;have ei:p.getD i 0=p.toList[i]'(by simp;omega):=by simp [LA,show i < p.size by omega]
 have ej:p.getD j 0=p.toList[j]'(by simp;omega):=by simp [LA,show j < p.size by omega]
 rw [ei,ej];intro e;exact hij ((LD nd).mp e)
theorem bR.bubble{n:Nat}{p:Array Nat}(h:bR n p)(a d:Nat):bR n (K8 p a d):=⟨(Lm.mp (bubble_perm p a d)).trans h.perm⟩
theorem bR.rev{n:Nat}{p:Array Nat}(h:bR n p)(i j:Nat):bR n (kas_rev p i j):=⟨(Lm.mp (mirror_perm p i j _)).trans h.perm⟩
theorem vj(n:Nat):bR n (Na (IG n)):=⟨NH⟩
def Up(lt:Nat->Nat->Bool)(p:Array Nat)(k:Nat):Prop:=∀i j,i < j->j < k->lt (p.getD i 0) (p.getD j 0)=true
section
variable {n:Nat} {lt:Nat->Nat->Bool} {I:NL->Prop} {cmp:Nat->Nat->(Bool->NL->Prop)->NL->Prop}
theorem Up.snoc(T:fN n lt){p:Array Nat}(hp:bR n p){k:Nat}(hk:k < n)(h:Up lt p k)(h0:0 < k)(hl:lt (p.getD (k - 1) 0) (p.getD k 0)=true):Up lt p (k+1):=by
 intro i j hij hj;rcases Ke j k with z | z
 ·exact h i j hij z
 ·have:j=k:=NC
  subst this;rcases Ke i (j - 1) with w | w
  ·exact T.tr _ _ _ (hp.lt NC) (hp.lt NC) (hp.lt hk) (h i (j - 1) w NC) hl
  ·have:i=j - 1:=NC
   subst this;exact hl
theorem oq(A:ji n lt I cmp)(T:fN n lt){p:Array Nat}(hp:bR n p){Q:Nat->NL->Prop}:∀(f m:Nat)(s:NL),1<=m->m+f=n->Up lt p m->I s->
 (∀k s',I s'->m<=k->k<=n->Up lt p k->(k < n->lt (p.getD k 0) (p.getD (k - 1) 0)=true)->Q k s')->(kas_asc p f m).kasWp cmp Q s
 | 0,m,s,h1,hf,hu,hI,q=>q m s hI (HE _) NC hu (λz=>by omega)
 | f+1,m,s,h1,hf,hu,hI,q=>by
  have hm:m < n:=NC
  refine A.as _ _ _ s (hp.lt hm) (hp.lt NC) (hp.ne hm NC NC) hI λs' hI'=>?_;cases hc:lt (p.getD m 0) (p.getD (m - 1) 0) with
  | true=>
   dsimp only;rw [NF rfl];exact q m s' hI' (HE _) NC hu (λ_=>hc)
  | false=>
   dsimp only;rw [ND NH];have hl:lt (p.getD (m - 1) 0) (p.getD m 0)=true:=by rw [T.tot _ _ (hp.lt NC) (hp.lt hm) (hp.ne NC hm NC),hc];rfl
   exact oq A T hp f (m+1) s' NC NC (hu.snoc T hp hm NC hl) hI' λk s2 a b c d e=>q k s2 a NC c d e
def Dn(lt:Nat->Nat->Bool)(p:Array Nat)(k:Nat):Prop:=∀i j,i < j->j < k->lt (p.getD j 0) (p.getD i 0)=true
theorem Dn.snoc(T:fN n lt){p:Array Nat}(hp:bR n p){k:Nat}(hk:k < n)(h:Dn lt p k)(h0:0 < k)(hl:lt (p.getD k 0) (p.getD (k - 1) 0)=true):Dn lt p (k+1):=by
 intro i j hij hj;rcases Ke j k with z | z
 ·exact h i j hij z
 ·have:j=k:=NC
  subst this;rcases Ke i (j - 1) with w | w
  ·exact T.tr _ _ _ (hp.lt hk) (hp.lt NC) (hp.lt NC) hl (h i (j - 1) w NC)
  ·have:i=j - 1:=NC
   subst this;exact hl
theorem vm(A:ji n lt I cmp)(T:fN n lt){p:Array Nat}(hp:bR n p){Q:Array Nat×Nat×Nat->NL->Prop}:∀(f m:Nat)(s:NL),1<=m->m+f=n->Dn lt p m->I s->
 (∀k s',I s'->m<=k->k<=n->Dn lt p k->Q (p,k,0) s')->(kas_desc f p m 0).kasWp cmp Q s
 | 0,m,s,h1,hf,hu,hI,q=>q m s hI (HE _) NC hu
 | f+1,m,s,h1,hf,hu,hI,q=>by
  have hm:m < n:=NC
  refine A.as _ _ _ s (hp.lt hm) (hp.lt NC) (hp.ne hm NC NC) hI λs' hI'=>?_;cases hc:lt (p.getD m 0) (p.getD (m - 1) 0) with
  | true=>
   dsimp only;rw [NF rfl,ND NH];exact vm A T hp f (m+1) s' NC NC (hu.snoc T hp hm NC hc) hI' λk s2 a b c d=>q k s2 a NC c d
  | false=>
   dsimp only;rw [ND NH];refine A.as _ _ _ s' (hp.lt NC) (hp.lt hm) (hp.ne NC hm NC) hI' λs2 hI2=>?_;have hl:lt (p.getD (m - 1) 0) (p.getD m 0)=true:=by rw [T.tot _ _ (hp.lt NC) (hp.lt hm) (hp.ne NC hm NC),hc];rfl
   rw [hl];dsimp only;rw [NF rfl];exact q m s2 hI2 (HE _) NC hu
theorem vn{p:Array Nat}{j k:Nat}(hj:j<=p.size):(kas_rev p 0 j).getD k 0=if k < j then p.getD (j - 1 - k) 0 else p.getD k 0:=by
 have:=getElem?_mirror_all (xs:=p) (i:=0) (j:=j) hj k;unfold kas_rev;rw [Jc,this];by_cases h:k < j
 ·simp [h,Jc]
 ·simp [h,Jc]
theorem Dn.rev{p:Array Nat}(hp:bR n p){k:Nat}(hk:k<=n)(h:Dn lt p k):Up lt (kas_rev p 0 k) k:=by
 intro i j hij hj;have hs:=hp.size;rw [vn NC,vn NC,NF NC,NF hj];exact h _ _ NC NC
theorem Ep(A:ji n lt I cmp)(T:fN n lt)(h2:2<=n){p:Array Nat}(hp:bR n p){Q:Nat×Array Nat->NL->Prop}{s:NL}(hI:I s)
 (q:∀k p' s',I s'->1<=k->k<=n->bR n p'->Up lt p' k->Q (k,p') s'):(kas_count n p).kasWp cmp Q s:=by
 unfold kas_count;rw [Kr];refine oq A T hp (n - 1) 1 s (HE _) NC (λi j a b=>by omega) hI λm s1 hI1 m1 m2 hu hs=>?_;by_cases hm:m=n
 ·subst hm;rw [NF NH];exact q m p s1 hI1 m1 (HE _) hp hu
 ·rw [ND (by simpa using hm)];by_cases hm1:m > 1
  ·rw [NF hm1];refine A.as _ _ _ s1 (hp.lt NC) (hp.lt NC) (hp.ne NC NC NC) hI1 λs2 hI2=>?_;rw [hu 0 (m - 1) NC NC];dsimp only;rw [NF rfl];exact q m p s2 hI2 m1 NC hp hu
  ·rw [ND hm1];have:m=1:=NC
   subst this;have h10:=hs NC;unfold kas_descPart;rw [Kr];refine vm A T hp (n - (1+1)) (1+1) s1 NC NC (λi j a b=>?_) hI1 λk s2 hI2 k1 k2 hd=>?_
   ·have:i=0:=NC
    have:j=1:=NC
    subst_vars
    exact h10
   ·rw [ND NH];unfold kas_tail3;rw [Kr];have hp':=hp.rev 0 k;refine oq A T hp' (n - k) k s2 NC NC (hd.rev hp k2) hI2 λm s3 hI3 a b c d=>?_;exact q m _ s3 hI3 NC b hp' c
theorem ot(A:ji n lt I cmp)(T:fN n lt){p:Array Nat}(hp:bR n p){k:Nat}(hk:k < n)(hu:Up lt p k){Q:Nat->NL->Prop}:∀(f l r:Nat)(s:NL),r - l<=f->l<=r->r<=k->I s->
 (∀i,i < l->lt (p.getD i 0) (p.getD k 0)=true)->(∀i,r<=i->i < k->lt (p.getD k 0) (p.getD i 0)=true)->
 (∀l s',I s'->l<=k->(∀i,i < l->lt (p.getD i 0) (p.getD k 0)=true)->(∀i,l<=i->i < k->lt (p.getD k 0) (p.getD i 0)=true)->Q l s')->(kas_place p k f l r).kasWp cmp Q s
 | 0,l,r,s,hf,hlr,hrk,hI,h1,h2,q=>q l s hI NC h1 (λi a b=>h2 i NC b)
 | f+1,l,r,s,hf,hlr,hrk,hI,h1,h2,q=>by
  unfold kas_place;by_cases hge:l >= r
  ·rw [NF hge];exact q l s hI NC h1 (λi a b=>h2 i NC b)
  ·rw [ND hge];have hm:(l+r)/ 2 < k:=NC
   refine A.as _ _ _ s (hp.lt hk) (hp.lt NC) (hp.ne hk NC NC) hI λs' hI'=>?_;cases hc:lt (p.getD k 0) (p.getD ((l+r)/ 2) 0) with
   | true=>
    dsimp only;rw [NF rfl];refine ot A T hp hk hu f l ((l+r)/ 2) s' NC NC NC hI' h1 (λi a b=>?_) q;rcases Ke ((l+r)/ 2) i with z | z
    ·exact T.tr _ _ _ (hp.lt hk) (hp.lt NC) (hp.lt NC) hc (hu _ _ z b)
    ·have:i=(l+r)/ 2:=NC
     rw [this];exact hc
   | false=>
    dsimp only;rw [ND NH];have hl:lt (p.getD ((l+r)/ 2) 0) (p.getD k 0)=true:=by rw [T.tot _ _ (hp.lt NC) (hp.lt hk) (hp.ne NC hk NC),hc];rfl
    refine ot A T hp hk hu f ((l+r)/ 2+1) r s' NC NC hrk hI' (λi a=>?_) h2 q;rcases Ke i ((l+r)/ 2) with z | z
    ·exact T.tr _ _ _ (hp.lt NC) (hp.lt NC) (hp.lt hk) (hu _ _ z hm) hl
    ·have:i=(l+r)/ 2:=NC
     rw [this];exact hl
theorem vo{p:Array Nat}{k d i:Nat}(hk:k < p.size)(hd:d<=k):(K8 p k d).getD i 0=if i=k - d then p.getD k 0 else if k - d < i/\i<=k then p.getD (i - 1) 0 else p.getD i 0:=by
 rw [Jc,getElem?_bubble hk d hd i];by_cases h1:i=k - d
 ·rw [NF h1,NF h1,Jc]
 ·rw [ND h1,ND h1];by_cases h2:k - d < i/\i<=k
  ·rw [NF h2,NF h2,Jc]
  ·rw [ND h2,ND h2,Jc]
theorem Up.ins(T:fN n lt){p:Array Nat}(hp:bR n p){k l:Nat}(hk:k < n)(hu:Up lt p k)(hl:l<=k)(h1:∀i,i < l->lt (p.getD i 0) (p.getD k 0)=true)(h2:∀i,l<=i->i < k->lt (p.getD k 0) (p.getD i 0)=true):Up lt (K8 p k (k - l)) (k+1):=by
 have hs:=hp.size;intro i j hij hj;rw [vo NC NC,vo NC NC];have e:k - (k - l)=l:=NC
 rw [e];clear hs e hk;by_cases hi:i=l
 ·rw [NF hi,ND NC,NF NC];exact h2 _ NC NC
 ·rw [ND hi];by_cases hi2:l < i/\i<=k
  ·rw [NF hi2,ND NC,NF NC];exact hu _ _ NC NC
  ·rw [ND hi2];by_cases hj1:j=l
   ·rw [NF hj1];exact h1 _ NC
   ·rw [ND hj1];by_cases hj2:l < j/\j<=k
    ·rw [NF hj2];exact hu _ _ NC NC
    ·rw [ND hj2];exact hu _ _ hij NC
theorem vp(A:ji n lt I cmp)(T:fN n lt){Q:Array Nat->NL->Prop}:∀(f:Nat)(p:Array Nat)(k:Nat)(s:NL),k+f=n->bR n p->Up lt p k->I s->(∀p' s',I s'->bR n p'->Up lt p' n->Q p' s')->(kas_bin f p k).kasWp cmp Q s
 | 0,p,k,s,hf,hp,hu,hI,q=>q p s hI hp (by rw [show n=k by omega];exact hu)
 | f+1,p,k,s,hf,hp,hu,hI,q=>by
  unfold kas_bin;rw [Kr];have hk:k < n:=NC
  refine ot A T hp hk hu k 0 k s NC NC (HE _) hI (λi z=>by omega) (λi a b=>by omega) λl s' hI' hl h1 h2=>?_;exact vp A T f _ (k+1) s' NC (hp.bubble _ _) (hu.ins T hp hk hl h1 h2) hI' q
theorem Er(A:ji n lt I cmp)(T:fN n lt)(h2:2<=n){Q:Array Nat->NL->Prop}{s:NL}(hI:I s)(q:∀p s',I s'->bR n p->Up lt p n->Q p s'):(kas_sort n).kasWp cmp Q s:=by
 unfold kas_sort;rw [Kr];refine Ep A T h2 (vj n) hI λk p s1 hI1 k1 k2 hp hu=>?_;dsimp only;by_cases hk:k < n
 ·rw [NF hk,show max k 1=k by omega];exact vp A T (n - k) p k s1 NC hp hu hI1 q
 ·rw [ND hk];exact q p s1 hI1 hp (by rw [show n=k by omega];exact hu)
end
def aX(p q:Int×Str):Bool:=decide (p.1 < q.1) || (decide (p.1=q.1) && decide (p.2.cps.toList < q.2.cps.toList))
def gS(h:NZ)(v:NJ)(p:Int×Str):Prop:=∃a o n t u,v= .ref a/\h.get? a=some o/\o.cls= .type "tuple"/\o.data= .seq #[.int p.1 t,.str p.2 u] n
section
variable {P:NV} {w:NX} {A:N2} {E:NJ->NL->Prop} {s:NL}
theorem Es{v u:NJ}{p q:Int×Str}{Q:Bool->NL->Prop}(hv:gS s.heap v p)(hu:gS s.heap u q)(h:Q (aX p q) s):NS (NT P w) A (keyLt' (tuples' true) v u) Q E s:=by
 obtain⟨a,oa,na,t1,t2,rfl,ha,_,da⟩:=hv;obtain⟨b,ob,nb,t3,t4,rfl,hb,_,db⟩:=hu;refine kat_lt ha da hb db (kat_cons ((intKind P w).eqBool (intKind_is _ _ _ _) (intKind_is _ _ _ _) (kat_go (λe1=>?_) λe1=>?_)))
 ·have e1:p.1=q.1:=by simpa using e1
  refine kat_yes (kat_cons ((PySem.strKind P w).eqBool (strKind_is _ _ _ _) (strKind_is _ _ _ _) (kat_go (λe2=>?_) λe2=>?_)))
  ·have e2:p.2=q.2:=by simpa using e2
   refine kat_yes (kat_nil ?_);have:aX p q=false:=by unfold aX;rw [e1,e2];simp
   rw [this] at h;simpa using h
  ·have e2:p.2≠q.2:=by simpa using e2
   refine kat_no (kat_one _ _ ?_);have:aX p q=decide (p.2.cps.toList < q.2.cps.toList):=by unfold aX;simp [e1]
   rw [this] at h;exact lt_str h
 ·have e1:p.1≠q.1:=by simpa using e1
  refine kat_no ?_;show NS _ _ (oneLt' true _ _) _ _ _;refine oneLt_int ?_;have:aX p q=decide (p.1 < q.1):=by unfold aX;simp [e1]
  rw [this] at h;exact h
theorem vq{n:Nat}{kp:Nat->Int×Str}(hd:∀i j,i < n->j < n->kp i=kp j->i=j):fN n λi j=>aX (kp i) (kp j):=by
 have tl:∀a b:Str,a≠b->(decide (a.cps.toList < b.cps.toList))=!decide (b.cps.toList < a.cps.toList):=λa b h=>by
  by_cases z:a.cps.toList < b.cps.toList
  ·rw [decide_eq_true z,decide_eq_false (List.lt_asymm z)];rfl
  ·have z2:b.cps.toList<=a.cps.toList:=MB.mp z;have:b.cps.toList < a.cps.toList:=by
    rcases Classical.em (b.cps.toList < a.cps.toList) with y | y
    ·exact y
    ·exact absurd (uo (MG (MB.mp y) z2)) h
   rw [decide_eq_false z,decide_eq_true this];rfl
 refine⟨λi j hi hj hij=>?_,λi j k hi hj hk h1 h2=>?_⟩
 ·have hne:kp i≠kp j:=λe=>hij (hd i j hi hj e);unfold aX;by_cases e:(kp i).1=(kp j).1
  ·have e2:(kp i).2≠(kp j).2:=λz=>hne (Prod.ext e z);simp only [e,Int.lt_irrefl,decide_false,JS,decide_true,IK];exact tl _ _ e2
  ·have e':(kp j).1≠(kp i).1:=λz=>e z.symm;simp only [e,e',decide_false,J0,Lk];by_cases z:(kp i).1 < (kp j).1
   ·rw [decide_eq_true z,decide_eq_false NC];rfl
   ·rw [decide_eq_false z,decide_eq_true NC];rfl
 ·unfold aX at h1 h2⊢;simp only [Ks,HX,decide_eq_true_eq] at h1 h2⊢;rcases h1 with h1 | ⟨h1,h1'⟩ <;> rcases h2 with h2 | ⟨h2,h2'⟩
  ·left;omega
  ·left;omega
  ·left;omega
  ·right;exact⟨h1.trans h2,Mi h1' h2'⟩
theorem Et{ks:List NJ}{kp:Nat->Int×Str}(hk:∀i v,ks[i]?=some v->gS s.heap v (kp i))(h2:2<=ks.length){Q:SortKind->NL->Prop}(h:Q (tuples' true) s):NS (NT P w) A (keyKind' ks.toArray) Q E s:=by
 have key:∀(ks:List NJ)(kp:Nat->Int×Str),(∀i v,ks[i]?=some v->gS s.heap v (kp i))->∃fs:List NJ,KatTups s.heap ks fs/\fs.length=ks.length/\∀v∈fs,∃n t,v=JZ n t:=by
  intro ks
  induction ks with
  | nil=>intro kp _;exact⟨[],KatTups.nil,rfl,NH⟩
  | cons v ks ih=>
   intro kp hk;obtain⟨fs,a,b,c⟩:=ih (λi=>kp (i+1)) λi v e=>hk (i+1) v (by simpa using e);obtain⟨ad,o,n,t,u,rfl,h1,h2,h3⟩:=hk 0 v rfl;refine⟨.int (kp 0).1 t::fs,KatTups.cons h1 h2 h3 rfl a,by simp [b],λx hx=>?_⟩;rcases HM.mp hx with rfl | hx
   ·exact⟨_,_,rfl⟩
   ·exact c x hx
 obtain⟨fs,a,b,c⟩:=key ks kp hk;refine kat_kind (T:= .type "int") a NC (λv hv=>?_) NB h;obtain⟨n,t,rfl⟩:=c v hv;exact .now
theorem Eu{n:Nat}{ks:List NJ}{kp:Nat->Int×Str}(hn:ks.length=n)(h2:2<=n)(hk:∀i v,ks[i]?=some v->gS s.heap v (kp i))(hd:∀i j,i < n->j < n->kp i=kp j->i=j){G:Array Nat->NL->Prop}
 (q:∀p,bR n p->Up (λi j=>aX (kp i) (kp j)) p n->G p s):(kas_sort n).kasWp (kas_ask P w A (tuples' true) ks) G s:=by
 refine Er (lt:=λi j=>aX (kp i) (kp j)) (I:=λs'=>s'=s) ⟨λi j C s' hi hj hij e c=>?_⟩ (vq hd) h2 rfl λp s' e hp hu=>by subst e;exact q p hp hu
 subst e;have ei:ks[i]?=some (ks.getD i .none):=by simp [show i < ks.length by omega]
 have ej:ks[j]?=some (ks.getD j .none):=by simp [show j < ks.length by omega]
 exact Es (hk i _ ei) (hk j _ ej) (c _ rfl)
def vt(kS D:NK)(s:NL)(out:List NJ)(C:NL->Prop):Prop:=∀h' c,h'.get? D=some (Oe "list" out.toArray c)->(∀b u,b≠kS->b≠D->s.heap.get? b=some u->h'.get? b=some u)->C {s with heap:=h'}
theorem vv{st:SortSt}{kS D:NK}{ks out:List NJ}{e e1:Nat}{C:MV->NL->Prop}(hk:s.heap.get? kS=some (Oe "list" ks.toArray e))(hD:s.heap.get? D=some (Oe "list" #[] e1))(hne:kS≠D)(hf:failedOf st=none)
 (ho:(arrOf st).map (·.2)=out.toArray)(h64:out.length < 64)(hk64:ks.length < 64)(q:vt kS D s out (C (.done (.ret .none)))):NS (NT P w) A (ksk_tail D false e1 (.ref kS) st) C E s:=by
 have hsl:NO=16777216:=Ox;unfold ksk_tail;rw [ho];refine NM (OV hk rfl (NM (wpAny_letGo ?_)) (by rw [HK];omega) (Jl _));have u1:=Ko s.heap kS (Jj λ_=>(#[]:Array NJ));have hD1:(s.heap.update kS (Jj λ_=>(#[]:Array NJ))).get? D=some (Oe "list" #[] e1):=(u1.2 D (Ne.symm hne)).trans hD;refine NM (seqEpoch_at (s:={s with heap:=s.heap.update kS (Jj λ_=>(#[]:Array NJ))}) hD1 rfl ?_);rw [ND NH];refine NM (OV (s:={s with heap:=s.heap.update kS (Jj λ_=>(#[]:Array NJ))}) hD1 rfl ?_ (Jl _) (by show out.toArray.size<=_;rw [HK];omega));have u2:=Ko (s.heap.update kS (Jj λ_=>(#[]:Array NJ))) D (Jj λ_=>out.toArray);rw [hf];simp only [bne_self_eq_false,Ka,if_false];exact NR (q _ _ (get?_update_seq hD1 λ_=>out.toArray) λb u n1 n2 z=>(u2.2 b n2).trans ((u1.2 b n1).trans z))
theorem Ew{kS D:NK}{vs ks:List NJ}{n e e1:Nat}{kp:Nat->Int×Str}{C:MV->NL->Prop}(hv:vs.length=n)(hn:ks.length=n)(h64:n < 64)(hks:s.heap.get? kS=some (Oe "list" ks.toArray e))(hD:s.heap.get? D=some (Oe "list" #[] e1))(hne:kS≠D)
 (hk:∀i v,ks[i]?=some v->gS s.heap v (kp i))(hd:∀i j,i < n->j < n->kp i=kp j->i=j)
 (q:∀p,bR n p->Up (λi j=>aX (kp i) (kp j)) p n->vt kS D s (p.toList.map λi=>vs.getD i .none) (C (.done (.ret .none)))):NS (NT P w) A (ksk_end D false vs.toArray e1 (.ref kS) ks.toArray) C E s:=by
 unfold ksk_end;have hz:vs.toArray.size=n:=by rw [HK];exact hv
 by_cases h2:n < 2
 ·simp only [Ka,if_false,hz,h2,if_true];refine NM (NR (NM (NR ?_)));refine vv hks hD hne rfl (out:=vs) ?_ NC NC ?_
  ·show(ks.toArray.zip vs.toArray).map (·.2)=vs.toArray;apply MJ.mp;simp only [Array.toList_map,Array.toList_zip];rw [List.map_snd_zip NC]
  ·have:=q _ (vj n) (λi j a b=>by omega);have e:((Na (IG n)).toList.map λi=>vs.getD i Ki)=vs:=by
    apply LI (by simp [hv]);intro i a b;simp at a b⊢;rw [HL b];rfl
   rw [e] at this;exact this
 ·simp only [Ka,if_false,hz,h2];refine NM (Et hk NC ?_);have hl:ks.length=vs.length:=NC
  refine NM (N8 (kat_run (κ:=tuples' true) (E:=λ_ _=>False) (Q:=λst' s'=>s'=s/\∃p,bR n p/\Up (λi j=>aX (kp i) (kp j)) p n/\arrOf st'=p.map (kas_item (ks.toArray.zip vs.toArray))/\failedOf st'=none) (G:=λp s'=>s'=s/\bR n p/\Up (λi j=>aX (kp i) (kp j)) p n) hl NC NC
   (λp st' s' a b c d=>⟨d.1,p,d.2.1,d.2.2,b,c⟩) ?_) (λr s' hr=>?_) λ_ _ x=>x.elim)
  ·rw [hv];exact Eu hn NC hk hd λp a b=>⟨rfl,a,b⟩
  ·obtain⟨rfl,p,p1,p2,p3,p4⟩:=hr;refine vv hks hD hne p4 (kat_snds hl p3) ?_ NC (q p p1 p2);rw [HB,IV,p1.size];exact h64
end
section
variable {X:Cx} {O6:List (NK×Obj)} {σ:St} {H:Hp} {s:NL}
theorem ae.track{o:HO}{D:NK}{ch:List NK}{t':Nat}{h':NZ}(I:ae X O6 σ H s)(hD:D∈ch)(f:∀b∈ch,fg X O6 H b)(k:∀b u,b ∉ ch->s.heap.get? b=some u->h'.get? b=some u)(new:bD X.prog X.w (ak H D o) h' D o):ae X O6 σ (ak H D o) {s with heap:=h',toks:=t'}:=by
 have nC:∀b u,H b=some u->b ∉ ch:=λb u e z=>by rw [(f b z).1] at e;cases e
 have nD:∀b u,H b=some u->b≠D:=λb u e z=>nC b u e (by rw [z];exact hD);refine I.step (g':=s.gens) (d':=s.drawn) (ch:=ch) (λb hb=>?_) (λb o _ _ hc e _=>k b o hc e) (λb o _ _ hc e _=>⟨o.slots,k b o hc e⟩) (λb o hc _ n=>by rw [aB (λz=>hc (by rw [z];exact hD))];exact n)
  (λb o hc e=>⟨o,k b o hc e⟩) (λb xs e=>by rw [aB (nD _ _ e)];exact e) (λb u xs e=>by rw [aB (nD _ _ e)];exact e) (λb ps e=>⟨#[],by rw [aB (nD _ _ e),e];simp⟩) (λm hm=>hm.at' λo e=>k _ o (λz=>(f _ z).2.1 rfl) e) (λb u e=>?_) I.bare
 ·obtain⟨f0,f1,f2,f3,f4,f5⟩:=f b hb;exact⟨f3,f1,f4,f5⟩
 ·by_cases hb:b=D
  ·subst hb;rw [bj] at e;cases e;exact new
  ·rw [aB hb] at e;refine(I.hok b u e).stay (λc v hc q=>k c v (λz=>?_) q) (λc q=>by rw [aB (nD _ _ q)];exact q) (λc xs q=>by rw [aB (nD _ _ q)];exact q);rcases hc with r | r
   ·subst r;exact nC _ _ e z
   ·exact nC _ _ r z
theorem Ey{k:Nat}{f:NK}{fd:NU}{ps:List Str}{sp:Sp}{v:V}{u:NJ}{Q:VK}(Fk:aO X.prog X.w X.K X.mg X.base CX0 k f fd ps sp)(hr:br k X.A.in1.in1)(hb:fj X.K fd ps [])(I:ae X O6 σ H s)(r:ax v u)(h:sp [v] H Q E0):
 NS (NT X.prog X.w) X.A.in1.in1 (call (.ref f) [u]) (EP X O6 σ Q) (λ_ _=>False) s:=by
 have r2:az [v] [u]:= .cons r .nil;have hl:([u]++[]).length=ps.length:=by
  have:=Fk.len _ _ _ _ h;simpa using this
 have hb2:=hb s [u] I.kIn hl;rw [JH] at hb2;refine wpAny_call (codeAny_mono (Fk.run X.A.in1.in1 X.stack s H ⟨[u],[]⟩ [u] [v] Q E0 hr I.env0.in1.in1 hb2 r2 h) λr s' hq=>?_);cases r with
 | error e=>exact hq.elim
 | ok fl=>
  cases fl with
  | ret u=>exact I.after hq
  | next=>exact JA hq
  | brk=>exact JA hq
  | cont=>exact JA hq
def ip(X:Cx)(O6:List (NK×Obj))(b:NK):Prop:=b≠X.env.locals/\b ∉ X.fs/\(b∈X.ex\/X.s₀.heap.objs.size<=b)/\(∀x c,X.env.cells.lookup x=some c->c≠b)/\∀p∈X.pn++O6,p.1≠b
theorem ae.out(I:ae X O6 σ H s){b:NK}(hb:s.heap.objs.size<=b):ip X O6 b:=(I.fpOk (H':=H) hb (I.hok.fresh hb)).2
structure gT (X:Cx) (O6:List (NK×Obj)) (σ:St) (H:Hp) (O:Ex) (kS D:NK) (e1:Nat) (kds:List NI) (ks:List NJ) (s:NL):Prop where
 ex:∃H' kvs e,ae X (O6++[(kS,Oe "list" ks.toArray e),(D,Oe "list" #[] e1)]) σ H' s/\ao H H'/\ai X.K H' O kvs kds/\az kvs ks
theorem gT.push{O:Ex}{kS D:NK}{e1:Nat}{kds:List NI}{ks:List NJ}{H':Hp}{kvs:List V}{e:Nat}{h':NZ}{kv:V}{kd:NI}{k:NJ}(oS:ip X O6 kS)(oD:ip X O6 D)(hne:kS≠D)
 (I:ae X (O6++[(kS,Oe "list" ks.toArray e),(D,Oe "list" #[] e1)]) σ H' s)(hs:ao H H')(hk:ai X.K H' O kvs kds)(hv:az kvs ks)(k1:Dt X.K H' O kv kd)(k2:ax kv k)
 (hu:∃e',h'.get? kS=some (Oe "list" (ks++[k]).toArray e'))(kept:∀b u,b≠kS->s.heap.get? b=some u->h'.get? b=some u):gT X O6 σ H O kS D e1 (kds++[kd]) (ks++[k]) {s with heap:=h'}:=by
 obtain⟨e',hu⟩:=hu;have pS:=I.pin (kS,Oe "list" ks.toArray e) NH;have pD:=I.pin (D,Oe "list" #[] e1) NH;have I1:ae X O6 σ H' s:=I.pins_of λp hp=>I.pin p (by simp only [Ij] at hp⊢;exact .inr (.inl hp));have I2:ae X O6 σ H' {s with heap:=h'}:=I1.turned (t':=s.toks) (it:=kS) kept pS.2.1 oS.1 oS.2.2.1 oS.2.2.2.1 oS.2.2.2.2;refine⟨H',kvs++[kv],e',I2.pins_of λp hp=>?_,hs,hk.append (.cons k1 .nil),hv.append (.cons k2 .nil)⟩;rcases Ij.mp hp with z | z
 ·exact I2.pin p (IE _ z)
 ·simp only [HM,IW,or_false] at z;rcases z with rfl | rfl
  ·exact⟨hu,pS.2.1,oS.1,oS.2.1,λv z=>by cases z⟩
  ·exact⟨kept _ _ (Ne.symm hne) pD.1,pD.2.1,oD.1,oD.2.1,λv z=>by cases z⟩
theorem vw{k:Nat}{f:NK}{fd:NU}{ps:List Str}{F:List NI->(NI->Prop)->Prop}{O:Ex}{kS D:NK}{e1:Nat}{kd:NI->NI}(Fk:aO X.prog X.w X.K X.mg X.base CX0 k f fd ps (aT X.K F))(hr:br k X.A.in1.in1)(hb:fj X.K fd ps [])(trk:∀l,O l->H l≠none)
 (oS:ip X O6 kS)(oD:ip X O6 D)(hne:kS≠D){body:NJ->PUnit->Sem (ForInStep PUnit)}{E:NJ->NL->Prop}
 (hbo:∀(x:NJ) (s:NL) (Q':NL->Prop),NS (NT X.prog X.w) X.A.in1.in1 (call (.ref f) [x]) (λk s'=>NS (NT X.prog X.w) X.A.in1.in1 (Nk (.ref kS) (·.push k)) (λ_ s''=>Q' s'') (λ_ _=>False) s') (λ_ _=>False) s->NS (NT X.prog X.w) X.A.in1.in1 (body x ⟨⟩) (λr s'=>r= .yield ⟨⟩/\Q' s') E s):
 ∀(r:List NJ)(xr:List V)(dr:List NI)(kds:List NI)(ks:List NJ)(s:NL)(Q:NL->Prop),az xr r->ai X.K H O xr dr->(∀d∈dr,∀R:NI->Prop,R (kd d)->F [d] R)->gT X O6 σ H O kS D e1 kds ks s->ks.length+r.length < 64->
  (∀ks' s',gT X O6 σ H O kS D e1 (kds++dr.map kd) ks' s'->ks'.length=ks.length+r.length->Q s')->NS (NT X.prog X.w) X.A.in1.in1 (forIn r PUnit.unit body) (λ_ s'=>Q s') E s
 | [],xr,dr,kds,ks,s,Q,hv,hd,hF,M,hl,q=>by
  cases hv;cases hd;rw [MR];exact NR (q ks s (by rw [Jq,JH];exact M) NH)
 | x::r,xr,dr,kds,ks,s,Q,hv,hd,hF,M,hl,q=>by
  cases hv with
  | @cons v _ xr _ h1 h2=>
   cases hd with
   | @cons _ d _ dr g1 g2=>
    rw [MM];rw [HN] at hl;obtain⟨H',kvs,e,I,hs,hk,hvk⟩:=M.ex;refine NM (N8 (hbo x s (λs'=>∃k,gT X O6 σ H O kS D e1 (kds++[kd d]) (ks++[k]) s') (N8 (Ey (Q:=λv2 H2=>ao H' H2/\Dt X.K H2 O v2 (kd d)) Fk hr hb I h1 ⟨O,[d],λy=>y=kd d,λl z e=>trk l z (by
     cases q:H l with
     | none=>rfl
     | some u=>rw [hs _ _ q] at e;cases e),.cons (g1.mono hs) .nil,hF d NH _ rfl,λy v2 H2 e s2 r2=>by subst e;exact⟨s2,r2⟩⟩) (λkk s' hq=>?_) λ_ _ z=>z)) (λr' s' hq=>?_) λ_ _ z=>z)
    ·obtain⟨kv,H2,I2,rk,s2,dk⟩:=hq;have pS:=I2.pin (kS,Oe "list" ks.toArray e) NH;refine OV pS.1 rfl ⟨kk,?_⟩ (by rw [HK];have:NO=16777216:=Ox;omega) (by rw [Array.size_push,HK];have:NO=16777216:=Ox;omega);have u1:=Ko s'.heap kS (Jj (·.push kk));have gk:=get?_update_seq pS.1 (·.push kk);rw [show ks.toArray.push kk=(ks++[kk]).toArray by simp] at gk;exact gT.push oS oD hne I2 (hs.trans s2) (hk.mono s2) hvk dk rk ⟨_,gk⟩ λb u n z=>(u1.2 b n).trans z
    ·obtain⟨rfl,kk,M'⟩:=hq;refine vw Fk hr hb trk oS oD hne hbo r xr dr (kds++[kd d]) (ks++[kk]) s' Q h2 g2 (λy hy=>hF y (by simp [hy])) M' (by simp;omega) λks' s2 M2 l2=>q ks' s2 ?_ (by rw [l2];simp;omega);rw [HF,<-List.singleton_append,<-Lp];exact M2
def eh(p:Int×Str):NI:= .tuple [.int p.1,.str p.2]
theorem Ez{h:V}{u:NJ}{O:Ex}{p:Int×Str}(I:ae X O6 σ H s)(d:Dt X.K H O h (eh p))(r:ax h u):gS s.heap u p:=by
 obtain⟨a,xs,rfl,hq,hd⟩:=(Sh.dt d).tup;cases r;obtain⟨its,rv,⟨o,e,c,n,dd⟩,_⟩:=I.tuple hq;cases hd with
 | cons g1 g2=>
  cases g2 with
  | cons g2 g3=>
   cases g3;cases g1;cases g2;cases rv with
   | cons r1 r2=>
    cases r2 with
    | cons r2 r3=>
     cases r3;obtain⟨t,rfl⟩:=r1;obtain⟨u,rfl⟩:=r2;exact⟨a,o,n,t,u,rfl,e,c,dd⟩
theorem ow{K:Hx}{H:Hp}{O:Ex}:∀{xs:List V}{ds:List NI}{i:Nat}{d:NI},ai K H O xs ds->ds[i]?=some d->∃x,xs[i]?=some x/\Dt K H O x d
 | _,_,0,d,.cons h r,e=>by simp at e;subst e;exact⟨_,rfl,h⟩
 | _,_,i+1,d,.cons h r,e=>by simp only [J6] at e⊢;exact ow r e
theorem vz{xs:List V}{us:List NJ}:∀{i:Nat}{u:NJ},az xs us->us[i]?=some u->∃x,xs[i]?=some x/\ax x u:=by
 intro i u h e;have hl:=h.length;have hi:i < us.length:=(HP.mp e).1;obtain⟨u',e',r⟩:=h.get (show xs[i]?=some (xs[i]'NC) by simp);rw [e] at e';cases e';exact⟨_,NH,r⟩
theorem EA{O:Ex}{kS D:NK}{e1:Nat}{kps:List (Int×Str)}{ks:List NJ}(M:gT X O6 σ H O kS D e1 (kps.map eh) ks s):(∀i v,ks[i]?=some v->gS s.heap v (kps.getD i (0,HD "")))/\ks.length=kps.length:=by
 obtain⟨H',kvs,e,I,hs,hk,hv⟩:=M.ex;have hl:ks.length=kps.length:=by rw [<-hv.length,hk.length,HB]
 refine⟨λi v ei=>?_,hl⟩;have hi:i < kps.length:=by rw [<-hl];exact(HP.mp ei).1
 obtain⟨x,ex,rx⟩:=vz hv ei;obtain⟨y,ey,dy⟩:=ow (i:=i) (d:=eh kps[i]) hk (by rw [Ie,HL hi];rfl);rw [ex] at ey;cases ey;have:kps.getD i (0,HD "")=kps[i]:=by simp [hi]
 rw [this];exact Ez I dy rx
theorem EB{k:Nat}{f:NK}{fd:NU}{ps:List Str}{F:List NI->(NI->Prop)->Prop}{O:Ex}{D:NK}{n0:Nat}{kf:NI->Int×Str}{vs:List NJ}{xs:List V}{ds:List NI}{Q:V->Hp->Prop}{C:MV->NL->Prop}{E:NJ->NL->Prop}
 (Fk:aO X.prog X.w X.K X.mg X.base CX0 k f fd ps (aT X.K F))(hr:br k X.A.in1.in1)(hb:fj X.K fd ps [])(trk:∀l,O l->H l≠none)(I:ae X O6 σ H s)(oD:ip X O6 D)(hHD:H D=none)(hD:s.heap.get? D=some (Oe "list" vs.toArray n0))
 (hv:az xs vs)(hd:ai X.K H O xs ds)(hF:∀d∈ds,∀R:NI->Prop,R (eh (kf d))->F [d] R)(h64:ds.length < 64)(nd:(ds.map kf).Nodup)
 (q:∀(H':Hp) (xs':List V) (ds':List NI),ao H H'->H' D=none->ai X.K H' O xs' ds'->ds'.Perm ds->ds'.Pairwise (λa b=>aX (kf a) (kf b)=true)->Q (.ref D) (ak H' D (.lst xs')))
 (fin:∀s',EP X O6 σ Q (.ref D) s'->C (.done (.ret .none)) s'):NS (NT X.prog X.w) X.A.in1.in1 (ksk_tree D (.ref f) false) C E s:=by
 have hsl:NO=16777216:=Ox;have lv:vs.length=ds.length:=by rw [<-hv.length,hd.length]
 have lD:D < s.heap.objs.size:=HV hD;unfold ksk_tree;refine NM (listItems_at hD rfl (NM (OV hD rfl ?_ (by rw [HK];omega) (Jl _))));have u1:=Ko s.heap D (Jj λ_=>(#[]:Array NJ));have g1:=get?_update_seq hD λ_=>(#[]:Array NJ);have I1:ae X O6 σ H {s with heap:=s.heap.update D (Jj λ_=>(#[]:Array NJ))}:=I.turned (t':=s.toks) (it:=D) (λb u n z=>(u1.2 b n).trans z) hHD oD.1 oD.2.2.1 oD.2.2.2.1 oD.2.2.2.2;generalize s.heap.update D (Jj λ_=>(#[]:Array NJ))=h1 at*;generalize (if (#[]:Array NJ).size==vs.toArray.size then n0 else n0+1)=e1 at*;refine NM (seqEpoch_at (s:={s with heap:=h1}) g1 rfl ?_);refine NM (wpAny_newTuple ?_ (by show vs.length<=_;omega));have I2:ae X O6 σ H {s with heap:=h1.push {cls:= .type "tuple",data:= .seq vs.toArray}}:=I1.kept (t':=s.toks) λb u z=>HH _ z;have g2:(h1.push {cls:= .type "tuple",data:= .seq vs.toArray}).get? D=some (Oe "list" #[] e1):=HH _ g1;show NS _ _ _ _ _ {s with heap:=h1.push {cls:= .type "tuple",data:= .seq vs.toArray}};generalize h1.push {cls:= .type "tuple",data:= .seq vs.toArray}=h2 at*;refine NM (wpAny_newList (s:={s with heap:=h2}) ?_ (Jl _));have oS:ip X O6 h2.objs.size:=I2.out (HE _);have hne:h2.objs.size≠D:=LF (HV g2);have I3:ae X O6 σ H {s with heap:=h2.push (Oe "list" #[] 0)}:=I2.kept (t':=s.toks) λb u z=>HH _ z;have hS0:H h2.objs.size=none:=I2.hok.fresh (HE _);have M0:gT X O6 σ H O h2.objs.size D e1 [] [] {s with heap:=h2.push (Oe "list" #[] 0)}:=by
  refine⟨H,[],0,I3.pins_of λp hp=>?_,ao.refl _,.nil,.nil⟩;rcases Ij.mp hp with z | z
  ·exact I3.pin p (IE _ z)
  ·simp only [HM,IW,or_false] at z;rcases z with rfl | rfl
   ·exact⟨IB _ rfl,hS0,oS.1,oS.2.1,λv z=>by cases z⟩
   ·exact⟨HH _ g2,hHD,oD.1,oD.2.1,λv z=>by cases z⟩
 refine Oc ?_;unfold ksk_rest;refine NM (wpAny_rule ?_);rw [List.forIn_toArray];refine NM (vw (kd:=λd=>eh (kf d)) (E:=E) Fk hr hb trk oS oD hne (λx s' Q' hx=>?_) vs xs ds [] [] _ _ hv hd hF M0 (by simp;omega) λks s' M hkl=>?_)
 ·refine NM (wpAny_attempt (N8 hx (λkk s2 hk=>?_) λ_ _ z=>z.elim));exact NM (N8 hk (λ_ s3 z=>NR ⟨rfl,z⟩) λ_ _ z=>z.elim)
 ·rw [Jx,<-Function.comp_def,<-Iy] at M;obtain⟨hk,hkn⟩:=EA M;rw [HB] at hkn;obtain⟨H',kvs,e,I4,hs,_,_⟩:=M.ex;have pS:=I4.pin (h2.objs.size,Oe "list" ks.toArray e) NH;have pD:=I4.pin (D,Oe "list" #[] e1) NH;have I5:ae X O6 σ H' s':=I4.pins_of λp hp=>I4.pin p (by simp only [Ij] at hp⊢;exact .inr (.inl hp));refine NM (listItems_at pS.1 rfl ?_);refine Ew (n:=ds.length) (kp:=λi=>(ds.map kf).getD i (0,HD "")) lv hkn h64 pS.1 pD.1 hne hk (λi j hi hj ee=>?_) λp pp pu h' c gD kept=>?_
  ·have e1':(ds.map kf).getD i (0,HD "")=(ds.map kf)[i]'(by simpa using hi):=by simp [hi]
   have e2':(ds.map kf).getD j (0,HD "")=(ds.map kf)[j]'(by simpa using hj):=by simp [hj]
   rw [e1',e2'] at ee;exact(LD nd).mp ee
  ·refine fin _ ⟨.ref D,ak H' D (.lst (p.toList.map λi=>xs.getD i .non)),?_,rfl,q H' _ (p.toList.map λi=>ds.getD i .none) hs pD.2.1 ?_ ?_ ?_⟩
   ·refine I5.track (t':=s'.toks) (ch:=[h2.objs.size,D]) NH (λb hb=>?_) (λb u hb z=>kept b u (λy=>hb (by simp [y])) (λy=>hb (by simp [y])) z) ⟨?_,_,c,?_,gD⟩
    ·simp only [HM,IW,or_false] at hb;rcases hb with rfl | rfl
     ·exact⟨pS.2.1,oS⟩
     ·exact⟨pD.2.1,oD⟩
    ·rw [HB,IV,pp.size];omega
    ·have:∀l:List Nat,(∀i∈l,i < ds.length)->az (l.map λi=>xs.getD i .non) (l.map λi=>vs.getD i .none):=by
      intro l
      induction l with
      | nil=>intro _;exact .nil
      | cons a l ih=>
       intro hl;have ha:=hl a NH;refine .cons ?_ (ih λi hi=>hl i (by simp [hi]));obtain⟨x,ex,rx⟩:=vz hv (show vs[a]?=some (vs[a]'NC) by simp);have e1':xs.getD a .non=x:=by simp [ex]
       have e2':vs.getD a .none=vs[a]'NC:=by simp [show a < vs.length by omega]
       show ax (xs.getD a .non) (vs.getD a .none);rw [e1',e2'];exact rx
     exact this _ λi hi=>by simpa using pp.perm.mem_iff.mp hi
   ·have:∀l:List Nat,(∀i∈l,i < ds.length)->ai X.K H' O (l.map λi=>xs.getD i .non) (l.map λi=>ds.getD i .none):=by
     intro l
     induction l with
     | nil=>intro _;exact .nil
     | cons a l ih=>
      intro hl;have ha:=hl a NH;refine .cons ?_ (ih λi hi=>hl i (by simp [hi]));obtain⟨x,ex,dx⟩:=ow (i:=a) (d:=ds[a]) hd (by simp [ha]);have e1':xs.getD a .non=x:=by simp [ex]
      have e2':ds.getD a .none=ds[a]:=by simp [ha]
      show Dt X.K H' O (xs.getD a .non) (ds.getD a .none);rw [e1',e2'];exact dx.mono hs
    exact this _ λi hi=>by simpa using pp.perm.mem_iff.mp hi
   ·have h1:=pp.perm.map λi=>ds.getD i .none;have e:(IG ds.length).map (λi=>ds.getD i Kc)=ds:=by
     apply LI NH;intro i a b;simp at a b⊢;rw [HL b];rfl
    rw [e] at h1;exact h1
   ·rw [Jw,Kt];intro i j hi hj hij;have:=pu i j hij (by rw [IV,pp.size] at hj;exact hj);have ei:p.getD i 0=p.toList[i]:=by simp [LA,show i < p.size by simpa using hi]
    have ej:p.getD j 0=p.toList[j]:=by simp [LA,show j < p.size by simpa using hj]
    rw [ei,ej] at this;have li:p.toList[i] < ds.length:=by simpa using pp.perm.mem_iff.mp (IP hi)
    have lj:p.toList[j] < ds.length:=by simpa using pp.perm.mem_iff.mp (IP hj)
    have ff:∀a,a < ds.length->(ds.map kf).getD a (0,HD "")=kf (ds.getD a .none):=λa ha=>by simp [ha]
    dsimp only at this;rw [ff _ li,ff _ lj] at this;exact this
theorem EC{k:Nat}{f l:NK}{fd:NU}{ps:List Str}{F:List NI->(NI->Prop)->Prop}{O:Ex}{kf:NI->Int×Str}{xs:List V}{ds:List NI}{Q:VK}
 (hc:X.calm=true)(Fk:aO X.prog X.w X.K X.mg X.base CX0 k f fd ps (aT X.K F))(hr:br k X.A.in1.in1)(hb:fj X.K fd ps [])(trk:∀l,O l->H l≠none)(I:ae X O6 σ H s)(hq:aQ X.K H l xs)
 (hd:ai X.K H O xs ds)(hF:∀d∈ds,∀R:NI->Prop,R (eh (kf d))->F [d] R)(h64:ds.length < 64)(nd:(ds.map kf).Nodup)
 (q:∀(H':Hp) (p:NK) (xs':List V) (ds':List NI),ao H H'->H' p=none->ai X.K H' O xs' ds'->ds'.Perm ds->ds'.Pairwise (λa b=>aX (kf a) (kf b)=true)->Q (.ref p) (ak H' p (.lst xs'))):
 NS (NT X.prog X.w) X.A (call (.builtin "sorted") [.ref l] [(HD "key",.ref f)]) (EP X O6 σ Q) X.xe s:=by
 have hsl:NO=16777216:=Ox;obtain⟨vs,hv,pl,hz⟩:=I.list hq;have lv:vs.length=ds.length:=by rw [<-hv.length,hd.length]
 refine call_function_entry_kw kind_sorted plain_sorted entry_sorted (ksk_s1 _ _) ?_;unfold Builtin.«sorted»;refine NM (m:=checkCount "sorted" 1 1 _) (NR ?_);refine NM (collect_list pl.isList ?_ NC);have I1:ae X O6 σ H {s with heap:=(s.heap.push (Oe "list" #[] 0)).update s.heap.objs.size (Jj (·++vs.toArray))}:=by
  refine I.kept (t':=s.toks) λb u z=>?_;have hlt:b < s.heap.objs.size:=HV z;exact(Heap.get?_update_ne _ _ _ _ (Ip hlt)).trans (HH _ z)
 generalize (s.heap.push (Oe "list" #[] 0)).update s.heap.objs.size (Jj (·++vs.toArray))=h1 at*;refine NM (wpAny_newList (s:={s with heap:=h1}) ?_ NC);have I2:ae X O6 σ H {s with heap:=h1.push (Oe "list" vs.toArray 0)}:=I1.kept (t':=s.toks) λb u z=>HH _ z;have gD:(h1.push (Oe "list" vs.toArray 0)).get? h1.objs.size=some (Oe "list" vs.toArray 0):=IB _ rfl;refine NM (Oc (wpAny_call_entry_kw slot_list_sort ⟨_,gD,rfl⟩ entry_list_sort ?_ (ksk_l1 _ _)));rw [ksk_t1];refine EB (kf:=kf) Fk hr hb trk I2 (I1.out (HE _)) (I1.hok.fresh (HE _)) gD hv hd hF h64 nd (Q:=Q) (λH' xs' ds' a b c d e=>q H' _ xs' ds' a b c d e) λs' hs'=>?_;exact⟨_,rfl,NR ⟨_,rfl,hs'⟩⟩
end
section
variable {X:Cx} {H0:Hp} {O0:Ex}
def vA(F:List NI->(NI->Prop)->Prop)(kf:NI->Int×Str)(t:DA):DA:=λδ Q=>t δ λds0=>∃ds,ds0=[.list ds]/\(∀d∈ds,∀R:NI->Prop,R (eh (kf d))->F [d] R)/\ds.length < 64/\(ds.map kf).Nodup/\∀ds',ds'.Perm ds->ds'.Pairwise (λa b=>aX (kf a) (kf b)=true)->Q ds'
theorem ED{a:NN}{t:DA}{np p gp kp:Pos}{g:Str}{k:Nat}{f:NK}{fd:NU}{ps:List Str}{F:List NI->(NI->Prop)->Prop}(kf:NI->Int×Str)(hc:X.calm=true)(Fk:aO X.prog X.w X.K X.mg X.base CX0 k f fd ps (aT X.K F))(hr:br k X.A.in1.in1)(hb:fj X.K fd ps [])
 (hgg:Gl X g)(hgm:X.mg g=some (.ref f))(hg:Gl X "sorted")(hm:X.mg "sorted"=none)(hv:N3 "sorted"=some (.builtin "sorted"))(ha:PA X [a] (d8 X.K H0 O0 t))(hdb:(g==("__debug__":Str))=false:=by decide)
 (he:N7 p (NP [a] X.env)=(false,eval a X.env)::N7 p (NP [] X.env):=by rfl)(hplain:(N7 p (NP [a] X.env)).any (·.1)=false:=by rfl):
 FE X H0 O0 (.Call (.Name "sorted" np) [a] [⟨some "key",.Name g gp,kp⟩] p) (vA F kf t):=by
 intro O6 s σ H Q I h;obtain⟨O,δ,Qd,w,q,kk⟩:=h;refine OA (iG I hg hm hv ?_);refine callWith_kw (ar (ha p O6 s σ H (λvs H1=>∃ds0,ao H H1/\iY X.K H1 O vs ds0/\∃ds,ds0=[.list ds]/\(∀d∈ds,∀R:NI->Prop,R (eh (kf d))->F [d] R)/\ds.length < 64/\(ds.map kf).Nodup/\∀ds',ds'.Perm ds->ds'.Pairwise (λa b=>aX (kf a) (kf b)=true)->Qd ds') I ⟨O,δ,_,w,q,λds0 vs H1 q1 s1 r1=>⟨ds0,s1,r1,q1⟩⟩) λus s1 hus=>?_) he hplain rfl rfl;obtain⟨vs,H1,I1,rv,ds0,s1',r1,ds,e,hF,h64,nd,q1⟩:=hus;subst e;refine kws_cons (mv I1 hgg hgm (kws_nil ?_) hdb);cases r1 with
 | cons h r=>
  cases r;obtain⟨ad,xs,rfl,hq,hd⟩:=h.lst;obtain⟨u,rfl,rx⟩:=cX rv;cases rx;exact EC (kf:=kf) hc Fk hr hb (w.mono s1').trk I1 hq hd hF h64 nd λH' l xs' ds' a b c d e=>kk _ _ _ _ (q1 ds' d e) (s1'.trans a) b c
end
section
open PySem.SeqAt
open PySem.AutoSeq1 (wpAny_loadPart')
open PySem.MeetsSeq PySem.MeetsSeq2 PySem.MeetsSeq3
theorem EE(l b:NK)(n n2:Nat)(dd dd2:Option NK)(sl sl2:Array (Option NJ))(p q:Int×Str)(t1 t2 t3 t4:Tok):
 Meets (Builtin.«tuple.__lt__» ⟨[.ref l,.ref b],[]⟩)
  (λ_ R s=>s.heap.get? l=some {cls:= .type "tuple",dict:=dd,data:= .seq #[.int p.1 t1,.str p.2 t2] n,slots:=sl}/\s.heap.get? b=some {cls:= .type "tuple",dict:=dd2,data:= .seq #[.int q.1 t3,.str q.2 t4] n2,slots:=sl2}/\
   R (.ok (.ret (.bool (aX p q)))) s):=
 .of_wp λprog w A R s h=>by
  obtain⟨hp,g,d,tk,os⟩:=s;obtain⟨hl,hb,h⟩:=h;have f2:=AutoSeq1.sub_tuple_tuple
  wp_walk using N9 hl,N9 hb,wpAny_forIn_list _ (λrest b s'=>b.1=none/\s'=⟨hp,g,d,tk,os⟩/\(rest=[(JZ p.1 t1,JZ q.1 t3),(JJ p.2 t2,JJ q.2 t4)]\/(rest=[(JJ p.2 t2,JJ q.2 t4)]/\p.1=q.1)\/(rest=[]/\p.1=q.1/\p.2=q.2))) _
  case turn=>
   rintro⟨y,x⟩ rest b s' ⟨hb',rfl,h3⟩;rcases h3 with h3 | ⟨h3,e1⟩ | ⟨h3,_⟩
   ·injection h3 with hyx hrest
    injection hyx with hy hx
    subst hy hx;obtain⟨e,he,hiff⟩:=HT.eqAt_int A.in1 ⟨hp,g,d,tk,os⟩ p.1 t1 q.1 t3;refine NM (he prog w _ _ ?_);cases e with
    | true=>
     wp_walk
     exact⟨rfl,rfl,.inr (.inl ⟨hrest,hiff.mp rfl⟩)⟩
    | false=>
     have ne:p.1≠q.1:=λz=>absurd (hiff.mpr z) IJ;have hri:=HT.rcLt_int A.in1 ⟨hp,g,d,tk,os⟩ p.1 t1 q.1 t3 prog w;have hv:aX p q=decide (p.1 < q.1):=by unfold aX;simp [ne]
     rw [hv] at h
     wp_walk using hri
     exact⟨_,rfl,by simpa using h⟩
   ·injection h3 with hyx hrest
    injection hyx with hy hx
    subst hy hx;have he:=EqAt.str_str (A:=A.in1) (s:=⟨hp,g,d,tk,os⟩) p.2 t2 q.2 t4;refine NM (he prog w _ _ ?_);cases e:(p.2==q.2) with
    | true=>
     wp_walk
     exact⟨rfl,rfl,.inr (.inr ⟨hrest,e1,eq_of_beq e⟩)⟩
    | false=>
     have hri:∀(E:NJ->NL->Prop)(Q:NJ->NL->Prop),Q (.bool (decide (p.2.cps.toList < q.2.cps.toList))) ⟨hp,g,d,tk,os⟩->NS (NT prog w) A.in1 (OR .Lt (.str p.2 t2) (.str q.2 t4)) Q E ⟨hp,g,d,tk,os⟩:=λE Q z=>(lt_str z:NS (NT prog w) A.in1 (NY .Lt (.str p.2 t2) (.str q.2 t4)) Q E _);have hv:aX p q=decide (p.2.cps.toList < q.2.cps.toList):=by unfold aX;simp [e1]
     rw [hv] at h
     wp_walk using hri
     exact⟨_,rfl,by simpa using h⟩
   ·cases h3
  case fin=>
   rintro⟨b1,b2⟩ s' ⟨hb',rfl,h3⟩;simp only at hb';subst hb';rcases h3 with h3 | ⟨h3,e1⟩ | ⟨h3,e1,e2⟩
   ·cases h3
   ·cases h3
   ·have hv:aX p q=false:=by unfold aX;rw [e1,e2];simp
    rw [hv] at h
    wp_walk
    exact⟨_,rfl,by simpa [Builtin.Tuple.tupleCompareSizes] using h⟩
  case h=>
   exact⟨rfl,rfl,.inl rfl⟩
end
def vB(K:Hx):R2:=λx y H Q=>∃a b p q,x= .ref a/\y= .ref b/\bg K H a [.int p.1,.str p.2]/\bg K H b [.int q.1,.str q.2]/\Q (.bl (aX p q)) H
theorem vC{X:Cx}(hu:X.A.units < N4):bf X (NY .Lt) (vB X.K):=by
 intro O6 s σ H x y v u Q I rx ry h;obtain⟨a,b,p,q,rfl,rfl,ha,hb,z⟩:=h;cases rx;cases ry;obtain⟨its,r1,⟨⟨c1,d1,da1,s1⟩,o1,k1,n1,e1⟩,_⟩:=I.tuple ha;obtain⟨its2,r2,⟨⟨c2,d2,da2,s2⟩,o2,k2,n2,e2⟩,_⟩:=I.tuple hb;simp only at k1 e1 k2 e2;subst k1 e1 k2 e2;cases r1 with
 | cons x1 r1=>
  cases r1 with
  | cons x2 r1=>
   cases r1;obtain⟨t1,rfl⟩:=x1;obtain⟨t2,rfl⟩:=x2;cases r2 with
   | cons y1 r2=>
    cases r2 with
    | cons y2 r2=>
     cases r2;obtain⟨t3,rfl⟩:=y1;obtain⟨t4,rfl⟩:=y2;exact richCompare_meets_room (op:= .Lt) ⟨_,o1,rfl⟩ ⟨_,o2,rfl⟩ PySem.F.slot_tuple_lt PySem.F.entry_tuple_lt (PySem.F.args_tuple_lt_2 _ _) (EE a b n1 n2 d1 d2 s1 s2 p q t1 t2 t3 t4) ⟨o1,o2,(λx=>nomatch x),.bl (aX p q),H,I,rfl,z⟩ hu
def vD:NI->NI->(NI->Prop)->Prop:=λx y Q=>∃p q:Int×Str,x=eh p/\y=eh q/\Q (.bool (aX p q))
theorem vE{K:Hx}:bE K (vB K) vD:=λH O x y dx dy Qd R _ hx hy uu42 k=>by
 obtain⟨p,q,e1,e2,z⟩:=uu42;subst e1 e2;obtain⟨a,xs,rfl,h1,g1⟩:=hx.tup;obtain⟨b,ys,rfl,h2,g2⟩:=hy.tup;cases g1 with
 | cons x1 g1=>
  cases g1 with
  | cons x2 g1=>
   cases g1;cases x1;cases x2;cases g2 with
   | cons y1 g2=>
    cases g2 with
    | cons y2 g2=>
     cases g2;cases y1;cases y2;exact⟨a,b,p,q,rfl,rfl,h1,h2,k _ _ H z (ao.refl _) (.bl _)⟩
section
variable {X:Cx} {H0:Hp} {O0:Ex}
def vF(tc:DB)(tb:DS):DS:=λE δ=>∃W:Nat->Dl->Prop,(∃m,W m δ)/\∀m δ,W m δ->tc δ λb=>if b=true then tb {E with nx:=λδ'=>∃m',m' < m/\W m' δ',ct:=λδ'=>∃m',m' < m/\W m' δ',bk:=E.nx} δ else E.nx δ
theorem EF{c:NN}{body:List N1}{tc:DB}{tb:DS}{pos:Pos}(hp:Ov (NT X.prog X.w) X.A X.env X.xe)(hc:PT X c (bL X.K H0 O0 tc))(hb:bx X body (bh X.K H0 O0 tb)):PS X (.While c body [] pos) (bh X.K H0 O0 (vF tc tb)):=
 (Ad hp hc hb).imp λD σ H uu43=>by
  obtain⟨O,δ,E,w,⟨W,⟨m0,w0⟩,st⟩,k1,k2,k3,k4⟩:=uu43;refine⟨λm σ' H'=>∃O' δ',Wd X.K H0 O0 H' O' σ' δ'/\aJ H H' O O'/\W m δ',⟨m0,O,δ,w,aJ.refl _ _,w0⟩,λm σ1 H1 ⟨O1,δ1,w1,S1,q1⟩=>⟨O1,δ1,_,w1,st m δ1 q1,λb H2 q2 s2=>?_⟩⟩;cases b with
  | false=>
   rw [ND NH] at q2⊢;exact k1 O1 δ1 σ1 H2 q2 (w1.mono s2) (S1.trans (.same s2))
  | true=>
   rw [NF rfl] at q2⊢;refine⟨λσ' H'=>∃O' δ' m',m' < m/\Wd X.K H0 O0 H' O' σ' δ'/\aJ H H' O O'/\W m' δ',λσ' H' uu45=>by obtain⟨O',δ',m',lt,w',S',q'⟩:=uu45;exact⟨m',lt,O',δ',w',S',q'⟩,O1,δ1,_,w1.mono s2,q2,?_,k2,?_,?_⟩
   ·rintro O' δ' σ' H' ⟨m',lt,q'⟩ w' S';exact⟨O',δ',m',lt,w',S1.trans ((aJ.same s2).trans S'),q'⟩
   ·intro O' δ' σ' H' q' w' S';exact k1 O' δ' σ' H' q' w' (S1.trans ((aJ.same s2).trans S'))
   ·rintro O' δ' σ' H' ⟨m',lt,q'⟩ w' S';exact⟨O',δ',m',lt,w',S1.trans ((aJ.same s2).trans S'),q'⟩
theorem aZ.vals{K:Hx}{H:Hp}{O:Ex}{kv:List (ah×V)}{kd:List (ah×NI)}(h:aZ K H O kv kd):ai K H O (kv.map (·.2)) (kd.map (·.2)):=by
 induction h with
 | nil=>exact .nil
 | cons a _ ih=>exact .cons a ih
abbrev fO(ks:List Str)(ds:List NI):NI:=rE (ks.map .str) ds
def vG(i:Nat)(t:DS):DS:=λE δ=>∃kd,δ[i]?=some (some (.k kd))/\∃ks:List Str,kd.map (·.1)=ks.map Je/\t E (δ.set i (some (.v (fO ks (kd.map (·.2))))))
theorem cq.z{H:Hp}{a:NK}{ob:Obj}{kvs:List (ah×V)}{k:ah}(e:H a=some (.frz ob (.dK kvs))):cq H a (kV k) (cG kvs k):= .inl ⟨kvs,k,.inr ⟨ob,e⟩,rfl,rfl⟩
theorem ae.fast{X:Cx}{O6:List (NK×Obj)}{σ:St}{H:Hp}{s:NL}(I:ae X O6 σ H s){a:NK}{kv:List (ah×V)}(ha:H a=some (.dK kv)):∃o,ae X O6 σ (ak H a (.frz o (.dK kv))) s:=by
 obtain⟨z,hd,vs,rel,o,es,ep,g,r1,r2,r3⟩:=I.hok a _ ha;exact⟨o,I.write (x:=a) (e:=a) (o:= .frz o (.dK kv)) (h':=s.heap) (t':=s.toks) (by rw [ha];exact Jh) (.inl rfl) (λ_ _ _ q=>q) ⟨o,g⟩ ⟨g,z,hd,vs,rel,o,es,ep,g,r1,r2,r3⟩⟩
theorem EG{st:N1}{t:TS}(h:PS X st t)(i:Nat):PS X st (λD σ H=>∃a kv,σ[i]?=some (some (.ref a))/\H a=some (.dK kv)/\∀o,t D σ (ak H a (.frz o (.dK kv)))):=by
 intro O6 s σ H D I q;obtain⟨a,kv,_,ha,q⟩:=q;obtain⟨o,I2⟩:=I.fast ha;exact h O6 s σ _ D I2 (q o)
theorem Wd.tell{K:Hx}{H0 H:Hp}{O0 O:Ex}{σ:St}{δ:Dl}(w:Wd K H0 O0 H O σ δ){i:Nat}{v:V}{d:NI}(h:σ[i]?=some (some v))(hd:Dt K H O v d):Wd K H0 O0 H O σ (δ.set i (some (.v d))):=by
 have li:i < δ.length:=by rw [<-w.len];exact(HP.mp h).1
 have ne:∀{j:Nat}{y:Sl},(δ.set i (some (.v d)))[j]?=some (some y)->y.own->j≠i:=λ{j y} q hy z=>by
  subst z;rw [Ir li] at q;cases q;exact hy
 refine⟨w.same,w.sub,w.new,w.trk,by simp [w.len],λj y q=>?_,λj k y z l' e1 y1 e2 z2 e3 e4=>?_⟩
 ·by_cases hj:j=i
  ·subst hj;rw [Ir li] at q;cases q;exact⟨v,by rw [h];rfl,hd⟩
  ·rw [Ii (Ne.symm hj)] at q;exact w.sl j y q
 ·have n1:=ne e1 y1;have n2:=ne e2 z2;rw [Ii (Ne.symm n1)] at e1;rw [Ii (Ne.symm n2)] at e2;exact w.dis j k _ _ l' e1 y1 e2 z2 e3 e4
theorem ox(i:Nat){st:N1}{t:DS}(h:PS X st (bh X.K H0 O0 t)):PS X st (bh X.K H0 O0 (vG i t)):=
 (EG h i).imp λD σ H uu46=>by
  obtain⟨O,δ,E,w,⟨kd,e,ks,ek,q⟩,k1,k2,k3,k4⟩:=uu46;obtain⟨l,kv,h,a,b,c,r⟩:=w.ownK e;refine⟨l,kv,h,c,λo=>?_⟩;obtain⟨O',w',S,n⟩:=w.frzK (y0:= .k kd) e trivial h (.frz o (.dK kv));have w2:=w'.tell (d:=fO ks (kd.map (·.2))) h (.dic bj (by rw [r.keys];exact ek) rfl n (r.vals.step S));rw [List.set_set] at w2;exact⟨O',_,E,w2,q,λO2 δ2 σ2 H2 z2 w2 S2=>k1 O2 δ2 σ2 H2 z2 w2 (S.trans S2),k2,λO2 δ2 σ2 H2 z2 w2 S2=>k3 O2 δ2 σ2 H2 z2 w2 (S.trans S2),λO2 δ2 σ2 H2 z2 w2 S2=>k4 O2 δ2 σ2 H2 z2 w2 (S.trans S2)⟩
theorem gU:∀{a b:List Str},a.map Hy=b.map Hy->a=b
 | [],[],_=>rfl
 | [],_::_,h=>by cases h
 | _::_,[],h=>by cases h
 | x::a,y::b,h=>by
  simp only [HF,Jv,J3] at h;rw [h.1,gU h.2]
def cf:List Str->List NI->Str->Option NI
 | k::ks,d::ds,z=>if k=z then some d else cf ks ds z
 | _,_,_=>none
theorem ke{K:Hx}{H:Hp}{O:Ex}{z:Str}{d:NI}:∀{kv:List (ah×V)}{ks:List Str}{ds:List NI},kv.map (·.1)=ks.map Je->ai K H O (kv.map (·.2)) ds->cf ks ds z=some d->∃v,cG kv (.inr z)=some v/\Dt K H O v d
 | [],[],ds,_,_,e=>by unfold cf at e;cases e
 | [],_::_,ds,h,_,_=>by cases h
 | _::_,[],ds,h,_,_=>by cases h
 | p::kv,k::ks,ds,h,hd,e=>by
  rw [HF] at hd;cases hd with
  | cons h1 h2=>
   simp only [HF,Jv] at h;obtain⟨p1,p2⟩:=p;obtain⟨rfl,h⟩:=h;unfold cf at e;by_cases hk:k=z
   ·rw [NF hk] at e;cases e;exact⟨p2,jT (by rw [hk]),h1⟩
   ·rw [ND hk] at e;obtain⟨v,a,b⟩:=ke h h2 e;exact⟨v,by rw [i9 (λq=>hk (ve.mp q))];exact a,b⟩
def vH(to tk:DT):DT:=λδ Q=>to δ λx=>∃ks ds,x=fO ks ds/\tk δ λy=>∃z,y= .str z/\∃d,cf ks ds z=some d/\Q d
theorem lM{o e:NN}{to tk:DT}{pos:Pos}(hu:X.A.units+64 < N4)(ho:DE X H0 O0 o to)(he:DE X H0 O0 e tk)(hs:lF e):DE X H0 O0 (.Subscript o e pos) (vH to tk):=
 (tO NC ho he hs).imp λσ H Q uu47=>by
  obtain⟨O,δ,Qd,w,q,k⟩:=uu47;refine⟨O,δ,_,w,q,λx vx H1 ⟨ks,ds,ex,q1⟩ s1 r1=>?_⟩;subst ex;refine⟨O,δ,_,w.mono s1,q1,λy vy H2 ⟨z,ey,d,ed,q2⟩ s2 r2=>?_⟩;subst ey;cases r2;cases r1 with
  | @dic a ob kv ks' kp ds h e1 e2 n rr=>
   have ek:ks'=ks:=by
    have:ks'.map Hy=ks.map Hy:=e2.symm;exact gU this
   subst ek;obtain⟨v,hv,dv⟩:=ke e1 rr ed;exact⟨a,v,rfl,by rw [<-hv];exact cq.z (k:= .inr z) (s2 _ _ h),k _ _ _ q2 (s1.trans s2) (dv.mono s2)⟩
def vI(t:DT)(g:DG)(tc:DB)(te:DT)(k:Nat)(fr:List Nat):DA:=λδ Q=>lz t g tc te k fr δ Q\/lA t g tc te k fr δ Q
theorem EH{N':List Str}{k:Nat}{fr:List Nat}{scope:Of}{iter elt tg:NN}{ifs:List NN}{t te:DT}{tc:DB}{g:TG}{dg:DG}{pos:Pos}(hc:X.calm=true)(S:bu X.env.scope X.N N' k fr scope)(hi:DF X H0 O0 iter t)(gd:GD X.K g dg)(hk:gh g k)(hfr:fr.Nodup)
 (hg:∀fp C s H,PG (bo X scope N' fp C s H) tg g)(hf:∀fp C s H,cY (bo X scope N' fp C s H) ifs (bL X.K H0 O0 tc))(he:∀fp C s H,PE (bo X scope N' fp C s H) elt (up X.K H0 O0 te))
 (hs:∀x,N0 iter X.env x=pure x:=by intro _;rfl):FE X H0 O0 (.ListComp elt [⟨tg,iter,ifs,0⟩] scope pos) (vI t dg tc te k fr):=by
 intro O6 s σ H Q I h;obtain⟨O,δ,Qd,w,q,kk⟩:=h;rcases q with q | q
 ·exact ib hc S hi gd hk hfr hg hf he hs O6 s σ H Q I ⟨O,δ,Qd,w,q,kk⟩
 ·exact i6 hc S hi gd hk hfr hg hf he hs O6 s σ H Q I ⟨O,δ,Qd,w,q,kk⟩
theorem el{T:String}{a c:NN}{t:DT}{np p:Pos}{K':Hx}(hK:X.K=K')(hg:Gl X "isinstance")(hm:X.mg "isinstance"=none)(hv:N3 "isinstance"=some (.builtin "isinstance"))(ha:DF X H0 O0 a t)(hc:PE X c (tC (.ty T)))
 (hs:NP [a,c] X.env=(false,eval a X.env)::NP [c] X.env:=by rfl)(hs2:NP [c] X.env=[(false,eval c X.env)]:=by rfl)(hb:(N7 p (NP [c] X.env)).any (·.1)=false:=by rfl):DE X H0 O0 (.Call (.Name "isinstance" np) [a,c] [] p) (nI K' T t):=by
 subst hK;exact B5 hg hm hv ha hc hs hs2 hb
end
def vJ(K:Hx):R2:=λx y H Q=>∃a b xs ys,x= .ref a/\y= .ref b/\bg K H a xs/\bg K H b ys/\xs.length+ys.length<=NO/\(xs=[]->Q (.ref b) H)/\(xs≠[]->mV K x y H Q)
theorem jj{X:Cx}:bf X (Oi .Add) (vJ X.K):=by
 intro O6 s σ H x y v u Q I rx ry h;obtain⟨a,b,xs,ys,rfl,rfl,ha,hb,hz,q0,q1⟩:=h;by_cases hx:xs=[]
 ·subst hx;cases rx;cases ry;obtain⟨its,r1,⟨⟨c1,d1,da1,s1⟩,o1,k1,n1,e1⟩,_⟩:=I.tuple ha;obtain⟨its2,r2,⟨⟨c2,d2,da2,s2⟩,o2,k2,n2,e2⟩,_⟩:=I.tuple hb;simp only at k1 e1 k2 e2;subst k1 e1 k2 e2;cases r1;exact concat_meets ⟨_,o1,rfl⟩ ⟨_,o2,rfl⟩ OY seq_tuple_add KP KH (Ky _ _)
   (tuple_addW0 a b _ its2.toArray n1 n2 d1 d2 s1 s2 NH) ⟨o1,o2,.ref b,H,I,rfl,q0 rfl⟩
 ·exact AL O6 s σ H _ _ v u Q I rx ry (q1 hx)
def vK:NI->NI->(NI->Prop)->Prop:=λx y Q=>∃xs ys,x= .tuple xs/\y= .tuple ys/\xs.length+ys.length<=NO/\Q (.tuple (xs++ys))
theorem jk{K:Hx}:bE K (vJ K) vK:=λH O x y dx dy Qd R tr hx hy uu50 k=>by
 obtain⟨xs,ys,e1,e2,hz,q⟩:=uu50;subst e1 e2;have hx0:=hx;have hy0:=hy;obtain⟨a,vs,rfl,h1,d1⟩:=hx.tup;obtain⟨b,us,rfl,h2,d2⟩:=hy.tup;refine⟨a,b,vs,us,rfl,rfl,h1,h2,by rw [d1.length,d2.length];exact hz,λz=>?_,λz=>?_⟩
 ·subst z;cases d1;rw [Jx] at q;cases hy0 with
  | dt hy0=>exact k _ _ H q (ao.refl _) hy0
 ·exact B0 H O _ _ _ _ Qd R tr hx0 hy0 ⟨xs,ys,rfl,rfl,λe=>z (by subst e;cases d1;rfl),hz,q⟩ k
def vL:List NI->(NI->Prop)->Prop:=λds Q=>∃ns:List Int,ds=[.list (ns.map .int)]/\Q (.int ns.sum)
theorem EI{K:Hx}:gf K (λxs H Q=>∃(a:NK)(ns:List Int),xs=[.ref a]/\aQ K H a (ns.map V.int)/\Q (.int ns.sum) H) vL:=λH O xs ds Qd R tr hs uu51 k=>by
 obtain⟨ns,e,q⟩:=uu51;subst e;cases hs with
 | cons h r=>
  cases r;obtain⟨a,vs,rfl,h1,d1⟩:=h.lst;cases d1.intsL;exact⟨a,ns,rfl,h1,k _ _ H q (ao.refl _) (.int _)⟩
section
variable {X:Cx} {H0:Hp} {O0:Ex}
theorem ai.rep{K:Hx}{H:Hp}{O:Ex}{vs:List V}{ds:List NI}(h:ai K H O vs ds):∀n:Nat,ai K H O (Ia n vs).flatten (Ia n ds).flatten
 | 0=>.nil
 | n+1=>by rw [Jz,Jz,JW,JW];exact h.append (ai.rep h n)
end
end L2
namespace Day
def gW(y:Int):Bool:=decide (y % 400=0) || (decide (y % 4=0) && !decide (y % 100=0))
def ld(y:Int):Int:=if gW y=true then 1 else 0
def vM:List Int:=[31,28,31,30,31,30,31,31,30,31,30,31]
def bp(y m:Int):Int:=if m=2/\gW y=true then 29 else vM.getD (m - 1).toNat 0
def lb(y:Int):Int:=(y - 1)/ 4 - (y - 1)/ 100+(y - 1)/ 400
def iq(y:Int):Int:=365*(y - 2000)+lb y - lb 2000
def aN(y m:Int):Int:=((IG (m - 1).toNat).map λ(i:Nat)=>bp y (1+(i:Int))).sum
def kh(y m n:Int):Int:=iq y+aN y m+n - 1
theorem vN(y:Int):0<=ld y/\ld y<=1:=by unfold ld;split <;> omega
theorem oy(y:Int):gW y=true↔(y % 400=0\/(y % 4=0/\y % 100≠0)):=by
 unfold gW;simp
theorem lN(y:Int):bp y 2=28+ld y:=by
 unfold bp ld;by_cases h:gW y=true
 ·rw [NF ⟨rfl,h⟩,NF h];rfl
 ·rw [ND (λz=>h z.2),ND h];rfl
theorem vO{y m:Int}(h:m≠2):bp y m=vM.getD (m - 1).toNat 0:=by
 unfold bp;rw [ND (λz=>h z.1)]
theorem oz(y:Int):bp y 1=31/\bp y 3=31/\bp y 4=30/\bp y 5=31/\bp y 6=30/\bp y 7=31/\bp y 8=31/\bp y 9=30/\bp y 10=31/\bp y 11=30/\bp y 12=31:=by
 refine⟨?_,?_,?_,?_,?_,?_,?_,?_,?_,?_,?_⟩ <;> (rw [vO NB];rfl)
theorem oA{m:Int}(h1:1<=m)(h2:m<=12):m=1\/m=2\/m=3\/m=4\/m=5\/m=6\/m=7\/m=8\/m=9\/m=10\/m=11\/m=12:=by
 obtain⟨k,e⟩:=Jp (show 0<=m - 1 by omega);have e:m=(k:Int)+1:=NC
 have hk:k < 12:=NC
 have key:∀k:Fin 12,((k.1:Nat):Int)+1=1\/((k.1:Nat):Int)+1=2\/((k.1:Nat):Int)+1=3\/((k.1:Nat):Int)+1=4\/((k.1:Nat):Int)+1=5\/((k.1:Nat):Int)+1=6\/((k.1:Nat):Int)+1=7\/((k.1:Nat):Int)+1=8\/((k.1:Nat):Int)+1=9\/((k.1:Nat):Int)+1=10\/((k.1:Nat):Int)+1=11\/((k.1:Nat):Int)+1=12:=NA
 rw [e];exact key ⟨k,hk⟩
theorem vP{y m:Int}(h1:1<=m)(h2:m<=12):28<=bp y m/\bp y m<=31:=by
 obtain⟨m1,m3,m4,m5,m6,m7,m8,m9,m10,m11,m12⟩:=oz y;have m2:28<=bp y 2/\bp y 2<=31:=by
  have:=vN y;rw [lN];clear m1 m3 m4 m5 m6 m7 m8 m9 m10 m11 m12 h1 h2;omega
 have k:∀{z:Int},z=31\/z=30->28<=z/\z<=31:=λh=>by rcases h with h | h <;> rw [h] <;> decide
 rcases oA h1 h2 with h | h | h | h | h | h | h | h | h | h | h | h <;> subst h
 ·exact k (.inl m1)
 ·exact m2
 ·exact k (.inl m3)
 ·exact k (.inr m4)
 ·exact k (.inl m5)
 ·exact k (.inr m6)
 ·exact k (.inl m7)
 ·exact k (.inl m8)
 ·exact k (.inr m9)
 ·exact k (.inl m10)
 ·exact k (.inr m11)
 ·exact k (.inl m12)
theorem EJ(y:Int):aN y 1=0:=rfl
theorem dU{y m:Int}(h:1<=m):aN y (m+1)=aN y m+bp y m:=by
 unfold aN;have e:(m+1 - 1).toNat=(m - 1).toNat+1:=NC
 rw [e,JO,Io,List.sum_append];have e2:(1:Int)+(((m - 1).toNat:Nat):Int)=m:=NC
 simp only [HF,Jq,MZ,List.sum_nil,e2];omega
theorem EK{a b c:Int}(l:Int)(h:a+b=c):a+(b+l)=c+l:=NC
theorem fP{a b c:Int}(l:Int)(h:a+b=c):a+l+b=c+l:=NC
theorem vQ(y:Int):aN y 1=0/\aN y 2=31/\aN y 3=59+ld y/\aN y 4=90+ld y/\aN y 5=120+ld y/\aN y 6=151+ld y/\aN y 7=181+ld y/\aN y 8=212+ld y/\aN y 9=243+ld y/\aN y 10=273+ld y/\aN y 11=304+ld y/\aN y 12=334+ld y/\aN y 13=365+ld y:=by
 obtain⟨m1,m3,m4,m5,m6,m7,m8,m9,m10,m11,m12⟩:=oz y;have e2:aN y 2=31:=by rw [show aN y 2=aN y 1+bp y 1 from dU (m:=1) NB,m1];rfl
 have e3:aN y 3=59+ld y:=by rw [show aN y 3=aN y 2+bp y 2 from dU (m:=2) NB,e2,lN];exact EK _ rfl
 have e4:aN y 4=90+ld y:=by rw [show aN y 4=aN y 3+bp y 3 from dU (m:=3) NB,e3,m3];exact fP _ rfl
 have e5:aN y 5=120+ld y:=by rw [show aN y 5=aN y 4+bp y 4 from dU (m:=4) NB,e4,m4];exact fP _ rfl
 have e6:aN y 6=151+ld y:=by rw [show aN y 6=aN y 5+bp y 5 from dU (m:=5) NB,e5,m5];exact fP _ rfl
 have e7:aN y 7=181+ld y:=by rw [show aN y 7=aN y 6+bp y 6 from dU (m:=6) NB,e6,m6];exact fP _ rfl
 have e8:aN y 8=212+ld y:=by rw [show aN y 8=aN y 7+bp y 7 from dU (m:=7) NB,e7,m7];exact fP _ rfl
 have e9:aN y 9=243+ld y:=by rw [show aN y 9=aN y 8+bp y 8 from dU (m:=8) NB,e8,m8];exact fP _ rfl
 have e10:aN y 10=273+ld y:=by rw [show aN y 10=aN y 9+bp y 9 from dU (m:=9) NB,e9,m9];exact fP _ rfl
 have e11:aN y 11=304+ld y:=by rw [show aN y 11=aN y 10+bp y 10 from dU (m:=10) NB,e10,m10];exact fP _ rfl
 have e12:aN y 12=334+ld y:=by rw [show aN y 12=aN y 11+bp y 11 from dU (m:=11) NB,e11,m11];exact fP _ rfl
 have e13:aN y 13=365+ld y:=by rw [show aN y 13=aN y 12+bp y 12 from dU (m:=12) NB,e12,m12];exact fP _ rfl
 exact⟨EJ y,e2,e3,e4,e5,e6,e7,e8,e9,e10,e11,e12,e13⟩
theorem vR{y m:Int}(h1:1<=m):∀k:Nat,m+k<=13->aN y m<=aN y (m+k)
 | 0,_=>by simp
 | k+1,h=>by
  have ih:=vR (y:=y) h1 k NC;have e:m+((k+1:Nat):Int)=(m+k)+1:=NC
  rw [e,dU NC];have:=vP (y:=y) (m:=m+k) NC NC;omega
theorem vS{y m m':Int}(h1:1<=m)(h2:m<=m')(h3:m'<=13):aN y m<=aN y m':=by
 have:=vR (y:=y) h1 (m' - m).toNat NC;rw [show m+(((m' - m).toNat:Nat):Int)=m' by omega] at this;exact this
theorem EL{y m:Int}(h1:1<=m)(h2:m<=12):0<=aN y m/\aN y m+bp y m<=365+ld y:=by
 have a:=vS (y:=y) (m:=1) (m':=m) NB h1 NC;have b:=vS (y:=y) (m:=m+1) (m':=13) NC NC NB;rw [dU h1] at b;have c:=(vQ y).1;have e:=(vQ y).2.2.2.2.2.2.2.2.2.2.2.2;omega
theorem length_eq(y m:Int)(h1:1<=m)(h2:m<=12):(if m=2/\(y % 4≠0\/(y % 100=0/\y % 400≠0)) then(28:Int) else [31,29,31,30,31,30,31,31,30,31,30,31].getD (m - 1).toNat 0)=bp y m:=by
 by_cases h:m=2
 ·subst h;rw [lN];unfold ld;by_cases l:gW y=true
  ·rw [NF l,ND (by have:=(oy y).mp l;omega)];rfl
  ·rw [ND l,NF (by have:=mt (oy y).mpr l;omega)];rfl
 ·rw [vO h,ND (λz=>h z.1)];rcases oA h1 h2 with z | z | z | z | z | z | z | z | z | z | z | z <;> subst z <;> first | rfl | exact absurd rfl h
def fst(M:Int):Int:=kh (M / 12) (M % 12+1) 1
def Dn(M n:Int):Int:=fst M+n - 1
end Day
namespace L2
open PySem PySem.Spec PyProof.Rows PySem.W
def d2(m:Nat):List Nat:=[48+m / 10,48+m % 10]
section
variable {X:Cx} {H0:Hp} {O0:Ex}
def vT(t:DA)(u:DT):DA:=λδ Q=>t δ λds=>ds.length<=1000/\u δ λy=>∃i:Int,y= .int i/\0<=i/\i<=1000/\Q (Ia i.toNat ds).flatten
theorem EM{e f:NN}{t:DA}{u:DT}{pos:Pos}(h:FE X H0 O0 e t)(hf:DE X H0 O0 f u):FE X H0 O0 (.BinOp e .Mult f pos) (vT t u):=
 (dG A3 h hf).imp λσ H Q ⟨O,δ,Qd,w,q,k⟩=>⟨O,δ,_,w,q,λds vs p H1 q1 s1 hp r1=>⟨O,δ,_,w.mono (s1.trans (ao.new hp)),q1.2,λy v H2 uu53 s2 r2=>by
  obtain⟨i,e,i0,i1,q2⟩:=uu53;subst e;cases r2;refine⟨p,i,vs,rfl,rfl,s2 _ _ bj,NC,NC,?_,λp' hp'=>k _ _ p' _ q2 ((s1.trans (ao.new hp)).trans s2) hp' ((r1.rep i.toNat).mono ((ao.new hp).trans s2))⟩;have h1:=r1.length;have h2:(NO:Nat)=16777216:=NB
  have h3:=q1.1;have h4:vs.length*i.toNat<=1000*1000:=Nat.mul_le_mul NC NC;omega⟩⟩
end
open PySem PySem.Spec PyProof.Rows PySem.W PySem.Calls
def dW{α:Type}(xs:List α)(n:Nat)(y:α):List α:=xs.take n++y::xs.drop n
theorem oB{α:Type}(xs:List α)(n:Nat)(y:α):(dW xs n y).Perm (y::xs):=by
 unfold dW;refine List.perm_middle.trans ?_;rw [List.take_append_drop]
theorem EN{α β:Type}(f:α->β)(xs:List α)(n:Nat)(y:α):(dW xs n y).map f=dW (xs.map f) n (f y):=by
 unfold dW;rw [Io,HF,Km,M3]
theorem vU{α:Type}(xs:List α)(n:Nat)(y:α):(dW xs n y).length=xs.length+1:=(oB xs n y).length_eq
def EO:V->List V->Hp->VK->Prop:=λx vs H Q=>∃l xs y,∃n:Nat,x= .ref l/\vs=[.int (n:Int),y]/\H l=some (.lst xs)/\n<=xs.length/\xs.length < 1000000/\Q .non (ak H l (.lst (dW xs n y)))
theorem ER(l:List NJ)(k:Nat)(y:NJ):(l.toArray.extract 0 k).push y++l.toArray.extract k=(dW l k y).toArray:=by
 apply MJ.mp;simp;unfold dW;congr 2;exact Iu NH
theorem ES{X:Cx}:mY X "list.insert" EO:=by
 intro O6 s σ H x vs v us Q I rx rv h;obtain⟨l,xs,y,n,rfl,rfl,hH,hn,hz,q⟩:=h;cases rx;cases rv with
 | cons r1 r2=>
  obtain⟨u,rfl,ru⟩:=cX r2;obtain⟨t,rfl⟩:=r1;obtain⟨z,its,m,r,hl,e⟩:=I.lstM hH;have ef:JR (n:Int)=true:=by
   unfold JR;simp;omega
  have sl:(1000000:Nat)<=NO:=NB
  have hsz:its.toArray.size<=NO:=by rw [HK];exact Il NC sl
  have hfi:¬(!JR (n:Int))=true:=by rw [ef];decide
  generalize hni:(n:Int)=ni at hfi ef⊢;refine Oj LJ ⟨_,e,rfl⟩ PySem.F.entry_list_insert (PySem.F.args_list_insert_3 _ _ _) (PySem.AutoSeq1.list_insert_list_int_val_1 l its.toArray m ni t u hfi hsz) ⟨e,?_⟩;refine⟨.non,_,I.lset (its':=dW its n u) hH e ?_ ((r.take n).append (.cons ru (r.drop n))) ?_,rfl,q⟩
  ·show(its.toArray.extract 0 (if ni < 0 then(ni+(its.toArray.size:Int)).toNat else min ni.toNat its.toArray.size)).push u++its.toArray.extract (if ni < 0 then(ni+(its.toArray.size:Int)).toNat else min ni.toNat its.toArray.size)=_;subst hni;rw [ND NC,HK,JV,Nat.min_eq_left NC];have:=ER its n u;simp only [HK] at this;exact this
  ·show(dW xs n y).length<=NO;rw [vU];exact Il NC sl
section
variable {X:Cx} {H0:Hp} {O0:Ex}
theorem ai.takeN{K:Hx}{H:Hp}{O:Ex}:∀{vs:List V}{ds:List NI}(n:Nat),ai K H O vs ds->ai K H O (vs.take n) (ds.take n)
 | _,_,0,_=>by rw [MT,MT];exact .nil
 | _,_,n+1,.nil=>.nil
 | _,_,n+1,.cons a r=>.cons a (ai.takeN n r)
theorem ai.dropN{K:Hx}{H:Hp}{O:Ex}:∀{vs:List V}{ds:List NI}(n:Nat),ai K H O vs ds->ai K H O (vs.drop n) (ds.drop n)
 | _,_,0,r=>r
 | _,_,n+1,.nil=>.nil
 | _,_,n+1,.cons a r=>ai.dropN n r
def vV(i:Nat)(t1 t2:DT):DS:=λE δ=>∃ds,δ[i]?=some (some (.o ds))/\t1 δ λa=>t2 δ λd=>∃n:Nat,a= .int (n:Int)/\n<=ds.length/\ds.length < 1000000/\E.nx (δ.set i (some (.o (dW ds n d))))
theorem ET{i:Nat}{o e e2:NN}{t1 t2:DT}{apos cpos pos:Pos}(ho:PE X o (dF i))(he:DE X H0 O0 e t1)(he2:DE X H0 O0 e2 t2)(hbase:Ou o "insert" X.env (eval o X.env)=eval o X.env:=by rfl)
 (hfew:((N7 cpos (NP [e,e2] X.env)).all (λx=>!x.1) && (OQ cpos (Oz [] X.env)).all (λx=>x.1.isSome) && decide ([e,e2].length+([]:List Oq).length+(if ([]:List Oq).isEmpty then 0 else 1) < 30))=true:=by rfl)
 (hline:(apos.endLine==cpos.line)=true:=by rfl)(hst:NP [e,e2] X.env=(false,eval e X.env)::NP [e2] X.env:=by rfl)(hst2:NP [e2] X.env=(false,eval e2 X.env)::NP [] X.env:=by rfl)(hplain:(N7 cpos (NP [e2] X.env)).any (·.1)=false:=by rfl)
 (hs:Oa (.Call (.Attribute o "insert" apos) [e,e2] [] cpos) none pos.line X.env=pure false:=by rfl):PS X (.Expr (.Call (.Attribute o "insert" apos) [e,e2] [] cpos) pos) (bh X.K H0 O0 (vV i t1 t2)):=
 (qm (kW KI LJ PySem.F.type_list_insert ES ho (cM he (cM he2 eG hst2) hst) hbase hfew hline hst hplain) hs).imp λD σ H uu54=>by
  obtain⟨O,δ,E,w,⟨ds,e,q⟩,k1,k2,k3,k4⟩:=uu54;obtain⟨l,vs,h,a,b,c,r⟩:=w.own e;refine⟨_,h,.inl ⟨rfl,_,aQ.of c⟩,O,δ,_,w,q,λx vx H1 q1 s1 r1=>?_⟩;refine⟨O,δ,_,w.mono s1,q1,λd v H2 q2 s2 r2=>?_⟩;obtain⟨n,rfl,hn,hz,q2⟩:=q2;cases r1;have rl:=r.length;have S:=s1.trans s2;refine⟨l,vs,v,n,rfl,rfl,S _ _ c,NC,NC,?_⟩;exact k1 _ _ _ _ q2 ((w.mono S).putO (vs:=vs) e h (((r.mono S).takeN n).append (.cons r2 ((r.mono S).dropN n)))) ⟨λb' o' z n=>by rw [aB (λy=>n (by rw [y];exact a))];exact S _ _ z,λ_ _ n=>n⟩
theorem lO{K:Hx}{H:Hp}{O:Ex}{z:Str}:∀{kv:List (ah×V)}{ks:List Str}{ds:List NI},kv.map (·.1)=ks.map Je->ai K H O (kv.map (·.2)) ds->cf ks ds z=none->cG kv (.inr z)=none
 | [],_,ds,_,_,e=>rfl
 | _::_,[],ds,h,_,_=>by cases h
 | p::kv,k::ks,ds,h,hd,e=>by
  rw [HF] at hd;cases hd with
  | cons h1 h2=>
   simp only [HF,Jv] at h;obtain⟨p1,p2⟩:=p;obtain⟨rfl,h⟩:=h;unfold cf at e;by_cases hk:k=z
   ·rw [NF hk] at e;cases e
   ·rw [ND hk] at e;rw [i9 (λq=>hk (ve.mp q))];exact lO h h2 e
def vW(to tk:DT):DT:=λδ Q=>to δ λx=>∃ks ds,x=fO ks ds/\tk δ λy=>∃z,y= .str z/\Q ((cf ks ds z).getD .none)
theorem Hw{o e:NN}{to tk:DT}{apos cpos:Pos}(hu:X.A.units+64 < N4)(ho:DE X H0 O0 o to)(he:DE X H0 O0 e tk)(m:M1 X o "get" apos e cpos):DE X H0 O0 (.Call (.Attribute o "get" apos) [e] [] cpos) (vW to tk):=
 (tV NC ho he m).imp λσ H Q uu55=>by
  obtain⟨O,δ,Qd,w,q,k⟩:=uu55;refine⟨O,δ,_,w,q,λx vx H1 ⟨ks,ds,ex,q1⟩ s1 r1=>?_⟩;subst ex;cases r1 with
  | @dic a ob kv ks' kp ds h e1 e2 n rr=>
   have ek:ks'=ks:=by
    have:ks'.map Hy=ks.map Hy:=e2.symm;exact gU this
   subst ek;refine⟨a,rfl,.inl ⟨kv,.inr ⟨_,h⟩⟩,O,δ,_,w.mono s1,q1,λy vy H2 ⟨z,ey,q2⟩ s2 r2=>?_⟩;subst ey;cases r2;refine⟨_,cq.z (k:= .inr z) (s2 _ _ h),k _ _ _ q2 (s1.trans s2) ?_⟩;cases hd:cf ks' ds z with
   | none=>rw [lO e1 rr hd];exact .non
   | some d=>
    obtain⟨v,hv,dv⟩:=ke e1 rr hd;rw [hv];exact dv.mono s2
def vX(to tk tx:DT):DT:=λδ Q=>to δ λx=>∃ks ds,x=fO ks ds/\tk δ λy=>tx δ λu=>∃z,y= .str z/\Q ((cf ks ds z).getD u)
theorem vY{o e f:NN}{to tk tx:DT}{apos cpos:Pos}(hu:X.A.units+64 < N4)(ho:DE X H0 O0 o to)(he:DE X H0 O0 e tk)(hf:DE X H0 O0 f tx)(m:M2 X o "get" apos e f cpos):DE X H0 O0 (.Call (.Attribute o "get" apos) [e,f] [] cpos) (vX to tk tx):=
 (CB NC ho he hf m).imp λσ H Q uu58=>by
  obtain⟨O,δ,Qd,w,q,k⟩:=uu58;refine⟨O,δ,_,w,q,λx vx H1 ⟨ks,ds,ex,q1⟩ s1 r1=>?_⟩;subst ex;cases r1 with
  | @dic a ob kv ks' kp ds h e1 e2 n rr=>
   have ek:ks'=ks:=by
    have:ks'.map Hy=ks.map Hy:=e2.symm;exact gU this
   subst ek;refine⟨a,rfl,.inl ⟨kv,.inr ⟨_,h⟩⟩,O,δ,_,w.mono s1,q1,λy vy H2 q2 s2 r2=>?_⟩;refine⟨O,δ,_,(w.mono s1).mono s2,q2,λu vu H3 ⟨z,ey,q3⟩ s3 r3=>?_⟩;subst ey;cases r2;refine⟨_,cq.z (k:= .inr z) (s3 _ _ (s2 _ _ h)),k _ _ _ q3 ((s1.trans s2).trans s3) ?_⟩;cases hd:cf ks' ds z with
   | none=>rw [lO e1 rr hd];exact r3
   | some d=>
    obtain⟨v,hv,dv⟩:=ke e1 rr hd;rw [hv];exact(dv.mono s2).mono s3
end
theorem EU:typeLookup (.type "list") "keys"=pure none:=by rw [typeLookup_type,builtinLookup_eq_fast];kernel_rfl
theorem vZ:entryFor table "dict.update.loop"=some Builtin.«dict.update.loop»:=entryFor_of_tree (by kernel_rfl)
theorem lP:plainId "dict.update.loop"=true:=NA
section
variable {P:NV} {w:NX} {A:N2} {E:NJ->NL->Prop} {s:NL}
theorem EV{l:NK}{o:Obj}{xs:Array NJ}{k:Nat}{Q:Option NJ->NL->Prop}(hx:s.heap.get? l=some o)(hc:o.cls= .type "list")(hdat:o.data= .seq xs k)(hd:o.dict=none)(hA:A.handled=none)
 (h:∀(h':NZ) (tk:Nat),(∀b u,s.heap.get? b=some u->h'.get? b=some u)->Q none {s with heap:=h',toks:=tk}):NS (NT P w) A (getAttr? (.ref l) "keys") Q E s:=by
 obtain⟨c,dct,dat,sl⟩:=o;simp only at hc hdat hd;subst hc hdat hd;obtain⟨hp,g,d,tk,os⟩:=s;have hT:∀tk',(⟨hp,g,d,tk',os⟩:NL).TypeIs (.ref l) "list":=λ_=>⟨_,hx,rfl⟩;have f1:=sub_AttributeError;have f3:=PySem.F.slot_list_getattribute.lookup;have f4:=PySem.F.slot_list_getattribute.bind (.ref l);have f5:=am_list_getattr_none;unfold getAttr? getAttrBy? getAttrBy
 repeat (any_goals (first | assumption | exact hT _ | ((with_reducible show NS _ _ (call (Value.builtin "list.__getattribute__") _ _) _ _ _);refine Oj PySem.F.slot_list_getattribute (hT _) am_entry_list_getattribute (PySem.F.args_list_getattribute_2 _ _) (meets_getattribute_miss_list l xs k sl (HD "keys") _ EU NA) ⟨hx,hA,λh' tk' e hx'=>?_⟩) | wp_step))
 obtain⟨t',u',he⟩:=hx'.there;show NS _ _ (getattributeRaised _ _ _ _ _ _ _) _ _ _;unfold getattributeRaised
 repeat (any_goals (first | assumption | wp_step))
 exact h _ _ λb u e=>hx'.keeps b u e
end
def fw(val:Nat->ah×NJ)(i:Nat):List (ah×NJ):=((IG i).map val).foldl (λa p=>stored a p.1 p.2) []
theorem v3(val:Nat->ah×NJ)(i:Nat):fw val (i+1)=stored (fw val i) (val i).1 (val i).2:=by
 unfold fw;rw [JO,Io,List.foldl_append];rfl
theorem EW{K:Type} [DecidableEq K](l:List (K×NJ))(k:K)(v:NJ):(stored l k v).length<=l.length+1:=by
 unfold stored;split <;> simp
theorem v5(val:Nat->ah×NJ):∀i,(fw val i).length<=i
 | 0=>HE _
 | i+1=>by
  have ih:=v5 val i;rw [v3];have:=EW (fw val i) (val i).1 (val i).2;omega
def ki(h:NZ)(a:NK)(x y:NJ):Prop:=∃o m,h.get? a=some o/\o.cls= .type "tuple"/\o.data= .seq #[x,y] m
section
variable {P:NV} {w:NX} {A:N2} {R:Result->NL->Prop} {I:NK} {fp wr:List NK} {G:Array O4->Array O4->Prop} {n:Nat} {Pv:Nat->NJ->Prop} {St:Nat->NL->Prop}
theorem EX(W:WalksS P w A.in1 I fp wr G n Pv St)(D:NK)(hDf:D ∉ fp)(tp:Nat->NK)(kv:Nat->NJ)(val:Nat->ah×NJ)(hval:∀i v,Pv i v->v= .ref (tp i))(hk:∀i,i < n->(bQ P w).is (val i).1 (kv i)=true)(hw:∀i,i < n->tp i ∉ D::wr)(hb:n<=NO):
 ∀(k i:Nat)(s:NL),n - i=k->i<=n->St i s->s.heap.DictOf (bQ P w) D (fw val i)->(∀j,j < n->ki s.heap (tp j) (kv j) (val j).2)->
  (∀s',Moved (D::wr) G s s'->s'.heap.DictOf (bQ P w) D (fw val n)->R (.ok (.ret .none)) s')->∀t,codeAny (NT P w) A (.builtin "dict.update.loop" ⟨[.ref D,.ref I,.int (i:Int) t,.none],[]⟩) R s:=by
 have sw:D ∉ wr:=λz=>hDf (W.sub _ z);have sub:∀b∈wr,b∈D::wr:=λb z=>Ic _ z;intro k
 induction k with
 | zero=>
  intro i s e1 e2 st hS hT q t;obtain rfl:i=n:=NC
  refine codeAny_builtin vZ ?_;rw [Me lP _];show NS _ A.in1 (pyNext (.ref I) >>=_) _ _ s;exact NM (W.done s _ _ st λs' m=>NM (NR (NR (q s' (m.mono sub) (let ⟨o,es,ep,ho,r⟩:=hS;⟨o,es,ep,m.heap D o sw ho,r⟩)))))
 | succ k ih=>
  intro i s e1 e2 st hS hT q t;have lt:i < n:=NC
  refine codeAny_builtin vZ ?_;rw [Me lP _];show NS _ A.in1 (pyNext (.ref I) >>=_) _ _ s;refine NM (W.item i s _ _ lt st λv s' hP st' m=>?_);obtain rfl:=hval i v hP;have hS':s'.heap.DictOf (bQ P w) D (fw val i):=let ⟨o,es,ep,ho,r⟩:=hS;⟨o,es,ep,m.heap D o sw ho,r⟩
  have hT':∀j,j < n->ki s'.heap (tp j) (kv j) (val j).2:=λj hj=>let ⟨o,m2,ho,r⟩:=hT j hj;⟨o,m2,m.heap _ o (λz=>hw j hj (sub _ z)) ho,r⟩
  obtain⟨o,m2,ho,hc,hd⟩:=hT' i lt;show NS _ A.in1 (holding [Ih (tp i)] _ >>=_) _ _ s';refine NM (Oc ?_);obtain⟨oc,od,oda,osl⟩:=o;simp only at hc hd;subst hc hd;have hTy:s'.TypeIs (.ref (tp i)) "tuple":=⟨_,ho,rfl⟩;refine NM (wpAny_tryCatch ?_);unfold Builtin.Dict.pairItems;refine NM (OB hTy ?_);rw [NF NB];refine NM (wpAny_seqItems ho rfl (NR ?_));show NS _ A.in1 (holding [kv i,(val i).2] (dictSet D (kv i) (val i).2)) _ _ s';refine Oc (wpAny_dictSet_pairs (hk i lt) hS' (λh' S2 sb=>?_) (by have:=v5 val i;omega));rw [<-v3] at S2;refine NR ⟨plainId_quiet lP _,ih (i+1) _ NC lt (W.frame _ s' _ _ st' (Lc _) λb hb o e=>?_) S2 (λj hj=>?_) (λs2 m2 S3=>?_) _⟩
  ·rw [sb.2 b (λz:b=D=>hDf (by rw [<-z];exact hb))];exact e
  ·obtain⟨o,m3,ho3,r⟩:=hT' j hj;exact⟨o,m3,by rw [sb.2 _ (λz=>hw j hj (by rw [z];exact HZ))];exact ho3,r⟩
  ·refine q s2 (Moved.trans W.gtrans ((m.mono sub).then_heap (Lc _) λb o hb e=>?_) m2) S3;rw [sb.2 b (λz:b=D=>hb (by rw [z];exact HZ))];exact e
end
section
variable {P:NV} {w:NX} {A:N2} {E:NJ->NL->Prop} {s:NL}
theorem EY{l:NK}{items:Array NJ}{n:Nat}(tp:Nat->NK)(kv:Nat->NJ)(val:Nat->ah×NJ){Q:NJ->NL->Prop}
 (hh:A.handled=none)(hl:∃o k,s.heap.get? l=some o/\o.cls= .type "list"/\o.dict=none/\o.data= .seq items k)(hn:items.size=n)(hi:∀(i:Nat) (v:NJ),items[i]?=some v->v= .ref (tp i))(hk:∀i,i < n->(bQ P w).is (val i).1 (kv i)=true)(hT:∀i,i < n->ki s.heap (tp i) (kv i) (val i).2)(hb:n<=NO)
 (h:∀(h':NZ) (tk:Nat),h'.DictOf (bQ P w) s.heap.objs.size (fw val n)->(∀b o,s.heap.get? b=some o->h'.get? b=some o)->Q (.ref s.heap.objs.size) {s with heap:=h',toks:=tk}):
 NS (NT P w) A (call (.type "dict") [.ref l]) Q E s:=by
 refine callType_codes (Q₁:=λobj s₁=>obj= .ref s.heap.objs.size/\s₁={s with heap:=s.heap.push {cls:= .type "dict",data:= .dict #[]}}) PySem.F.kt_called_dict (PySem.F.kt_typeCall_dict_1 _) PySem.F.entry_dict_init (kt_code_dict_new _ ⟨rfl,rfl⟩) ?_;rintro obj s₁ ⟨rfl,rfl⟩;have hnew:(s.heap.push {cls:= .type "dict",data:= .dict #[]}).DictOf (bQ P w) s.heap.objs.size []:=MQ s.heap;refine⟨hnew.typeIs,PySem.F.args_dict_init_2 _ _,?_⟩;unfold Builtin.«dict.__init__»;refine NM ?_;unfold Builtin.Dict.selfAndRest;refine NM (wpAny_notOrdered_dict hnew.typeIs ?_);show NS _ _ (pure (s.heap.objs.size,[Ih l])) _ _ _;refine NR ?_;show NS _ _ (LS "dict.__init__" s.heap.objs.size (.ref l) [] .none) _ _ _;unfold LS;obtain⟨o,k,ho,hc,hd,hdat⟩:=hl;have ho2:(s.heap.push {cls:= .type "dict",data:= .dict #[]}).get? l=some o:=HH _ ho;refine NM (OB (T:="list") ⟨_,ho2,hc⟩ ?_);rw [NF NB];refine NM (EV (s:={s with heap:=s.heap.push {cls:= .type "dict",data:= .dict #[]}}) ho2 hc hdat hd ?_ λh' tk hk'=>?_)
 ·simp [hh]
 ·show NS _ A.in1.in1 (rule _ >>=_) _ _ _;refine NM (wpAny_rule ?_);have o3:h'.get? l=some o:=hk' l o ho2;have l1:h'.IsList l items:=⟨_,o3,hc,k,hdat⟩;have ll:l < s.heap.objs.size:=HV ho;have nD:s.heap.objs.size < h'.objs.size:=by
   obtain⟨od,_,_,hod,_⟩:=hnew;exact HV (hk' _ _ hod)
  refine NM (OW l1 ?_);refine NR ⟨plainId_quiet lP _,?_⟩;have tl:∀i,i < n->tp i < s.heap.objs.size:=λi hi=>by obtain⟨_,_,e,_⟩:=hT i hi;exact HV e
  have hn2:items.size<=NO:=NC
  subst hn;refine EX (A:=A.in1) (MP (show A.in1.in1.handled=none by simp [hh]) _ l (Ip (LH ll nD)) items).toS s.heap.objs.size (by simp only [HM,IW,or_false,not_or];exact⟨Ip nD,LF ll⟩) tp kv val hi hk ?A hn2 (items.size - 0) 0 _ NC (Jl _)
   ⟨⟨_,IB _ rfl,rfl,rfl⟩,l1.push _⟩ ?hS0 ?hT0 ?hR _
  case A=>
   intro i hi z;have t1:=tl i hi;simp only [HM,IW,or_false] at z;rcases z with z | z
   ·exact Ip t1 z
   ·exact Ip (LH t1 nD) z
  case hT0=>
   intro j hj;obtain⟨u,m,e,r⟩:=hT j hj;exact⟨u,m,HH _ (hk' _ _ (HH _ e)),r⟩
  case hS0=>
   obtain⟨od,es,ep,hod,r⟩:=hnew;exact⟨od,es,ep,HH _ (hk' _ _ hod),r⟩
  case hR=>
   intro s' m S';obtain⟨h2,g',d',tk',os'⟩:=s';obtain rfl:g'=s.gens:=m.gens;obtain rfl:d'=s.drawn:=m.drawn;obtain rfl:os'=s.os:=m.os;refine⟨rfl,h h2 tk' S' λb u e=>?_⟩;have hb1:b < s.heap.objs.size:=HV e;refine m.heap b u ?_ (HH _ (hk' _ _ (HH _ e)));simp only [HM,IW,or_false,not_or];exact⟨Ip hb1,Ip (LH hb1 nD)⟩
end
def oC(K:Hx)(H:Hp)(vs:List V)(kvs:List (ah×V)):Prop:=Paired (λv (p:ah×V)=>∃b,v= .ref b/\bg K H b [kV p.1,p.2]) vs kvs
theorem v7{X:Cx}{O6:List (NK×Obj)}{σ:St}{H:Hp}{s:NL}(I:ae X O6 σ H s):∀{vs:List V}{kvs:List (ah×V)}{its:List NJ},oC X.K H vs kvs->az vs its->
 ∃zs:List (NK×NJ×ah×NJ),zs.length=its.length/\KV kvs (zs.map (·.2.2))/\its=zs.map (λz=>Ih z.1)/\∀z∈zs,(bQ X.prog X.w).is z.2.2.1 z.2.1=true/\ki s.heap z.1 z.2.1 z.2.2.2
 | _,_,_,.nil,.nil=>⟨[],rfl,.nil,rfl,NH⟩
 | _,_,_,.cons (b:=p) h t,.cons r rs=>by
  obtain⟨zs,e1,e2,e3,e4⟩:=v7 I t rs;obtain⟨b,rfl,hb⟩:=h;cases r;obtain⟨its2,r2,⟨o,ho,hc,n,hd⟩,_⟩:=I.tuple hb;cases r2 with
  | @cons _ u _ _ ru r3=>
   obtain⟨x,rfl,rx⟩:=cX r3;refine⟨(b,u,p.1,x)::zs,by simp [e1],.cons ⟨rfl,rx⟩ e2,by rw [e3];rfl,λz hz=>?_⟩;rcases HM.mp hz with e | e
   ·subst e;exact⟨gq ru,o,n,ho,hc,hd⟩
   ·exact e4 z e
theorem EZ{X:Cx}:cW X (.type "dict") (λxs H Q=>X.calm=true/\∃a vs kvs,xs=[.ref a]/\aQ X.K H a vs/\oC X.K H vs kvs/\∀l,H l=none->Q (.ref l) (ak H l (.dK (d9 [] kvs)))):=by
 intro O6 s σ H xs us Q I r h;obtain⟨hc,a,vs,kvs,rfl,ha,hp,q⟩:=h;obtain⟨u,rfl,rx⟩:=cX r;cases rx;obtain⟨its,rv,⟨o,n,ho,hcl,hdi,hda⟩,hz⟩:=I.list ha;obtain⟨zs,z1,z2,z3,z4⟩:=v7 I hp rv;have ln:vs.length=its.length:=rv.length;have hk:kvs.length=zs.length:=by rw [z2.length,HB]
 let D:NK×NJ×ah×NJ:=(0,.none,.inl 0,.none)
 have at_:∀i,i < its.length->∃z∈zs,(zs[i]?).getD D=z:=λi hi=>by
  rw [<-z1] at hi;exact⟨zs[i],IP hi,by rw [HL hi];rfl⟩
 refine EY (s:=s) (n:=its.length) (λi=>((zs[i]?).getD D).1) (λi=>((zs[i]?).getD D).2.1) (λi=>((zs[i]?).getD D).2.2) (I.ok.hd hc) ⟨o,n,ho,hcl,hdi,hda⟩ NH (λi v e=>?_) (λi hi=>?_) (λi hi=>?_) NC λh' tk dd kp=>?_
 ·rw [List.getElem?_toArray,z3,Ie] at e;cases hz':zs[i]? with
  | none=>rw [hz'] at e;cases e
  | some z=>rw [hz'] at e;cases e;rfl
 ·obtain⟨z,hz1,e⟩:=at_ i hi;show(bQ X.prog X.w).is ((zs[i]?).getD D).2.2.1 ((zs[i]?).getD D).2.1=true;rw [e];exact(z4 z hz1).1
 ·obtain⟨z,hz1,e⟩:=at_ i hi;show ki s.heap ((zs[i]?).getD D).1 ((zs[i]?).getD D).2.1 ((zs[i]?).getD D).2.2.2;rw [e];exact(z4 z hz1).2
 ·have em:fw (λi=>((zs[i]?).getD D).2.2) its.length=merged [] (zs.map (·.2.2)):=by
   unfold fw merged;congr 1;rw [<-z1];apply LI NH;intro i a b;simp at a b⊢;rw [HL NC];rfl
  rw [em] at dd;have zl:(d9 [] kvs).length<=NO:=by
   have h1:=nQ kvs [];rw [Jt] at h1;omega
  exact⟨.ref _,_,I.laid (t':=tk) (o:= .dK (d9 [] kvs)) kp (HE _) (nP zl (beq_eq_false_iff_ne.mpr (Ne.symm (Ip I.big))) (z2.merge .nil) dd),rfl,q _ (I.hok.fresh (HE _))⟩
section
variable {X:Cx} {H0:Hp} {O0:Ex}
def v8(t:DA):fM:=λδ Q=>t δ λds=>∃kd:List (ah×NI),ds=[.list (kd.map λp=>.tuple [dS p.1,p.2])]/\Q (kd.foldl (λa p=>dB a p.1 p.2) [])
theorem v9{K:Hx}{H:Hp}{O:Ex}:∀{us:List V}{kd:List (ah×NI)},ai K H O us (kd.map λp=>.tuple [dS p.1,p.2])->∃kv,oC K H us kv/\aZ K H O kv kd
 | [],[],_=>⟨[],.nil,.nil⟩
 | _::_,(k,d)::kd,.cons h r=>by
  obtain⟨kv,h1,h2⟩:=v9 r;obtain⟨b,vs,rfl,hs,d2⟩:=(Sh.dt h).tup;cases d2 with
  | cons x1 x2=>
   cases x2 with
   | cons x2 x3=>
    cases x3;cases x1.key;exact⟨(k,_)::kv,.cons ⟨b,rfl,hs⟩ h1,.cons x2 h2⟩
theorem E1{a:NN}{t:DA}{np p:Pos}(hc:X.calm=true)(hg:Gl X "dict")(hm:X.mg "dict"=none)(ha:PA X [a] (d8 X.K H0 O0 t))(he:NP [a] X.env=(false,eval a X.env)::NP [] X.env:=by rfl)(hpl:(N7 p (NP [] X.env)).any (·.1)=false:=by rfl):KE X H0 O0 (.Call (.Name "dict" np) [a] [] p) (v8 t):=
 (fE EZ hg hm BC ha (he:=he) (hpl:=hpl)).imp λσ H Q uu61=>by obtain⟨O,δ,Qd,w,q,k⟩:=uu61;exact⟨O,δ,_,w,q,λds vs H1 uu62 s1 r1=>by
  obtain⟨kd,e,q1⟩:=uu62;subst e;cases r1 with
  | cons h r=>
   cases r;obtain⟨a,us,rfl,h1,d1⟩:=h.lst;obtain⟨kv,p1,p2⟩:=v9 d1;exact⟨hc,a,us,kv,rfl,h1,p1,λl hl=>k _ _ _ _ q1 s1 hl (p2.merge .nil)⟩⟩
end
theorem Dt.dicE{K:Hx}{H:Hp}{O:Ex}{v:V}{ks:List Str}{ds:List NI}(h:Dt K H O v (fO ks ds)):∃a ob kv,v= .ref a/\H a=some (.frz ob (.dK kv))/\kv.map (·.1)=ks.map Je/\¬O a/\ai K H O (kv.map (·.2)) ds:=by
 cases h with
 | @dic a ob kv ks' kp ds h e1 e2 n rr=>
  have ek:ks'=ks:=gU e2.symm;subst ek;exact⟨a,ob,kv,rfl,h,e1,n,rr⟩
theorem E2{K:Hx}{H:Hp}{O:Ex}{z:Str}{kv:List (ah×V)}{ks:List Str}{ds:List NI}(e1:kv.map (·.1)=ks.map Je)(r:ai K H O (kv.map (·.2)) ds):(cG kv (.inr z)).isSome=(cf ks ds z).isSome:=by
 cases hd:cf ks ds z with
 | none=>rw [lO e1 r hd];rfl
 | some d=>
  obtain⟨v,hv,_⟩:=ke e1 r hd;rw [hv];rfl
section
variable {X:Cx} {H0:Hp} {O0:Ex}
def lQ(neg:Bool)(tk to:DT):DT:=λδ Q=>tk δ λy=>to δ λx=>∃z ks ds,y= .str z/\x=fO ks ds/\Q (.bool (if neg then !(cf ks ds z).isSome else(cf ks ds z).isSome))
theorem wa{o e:NN}{tk to:DT}(hu:X.A.units+64 < N4)(ho:DE X H0 O0 o to)(he:DE X H0 O0 e tk):PC X .In e o (up X.K H0 O0 (lQ false tk to)):=λO6 s σ H Q I ⟨O,δ,Qd,w,q,k⟩=>
 tP NC he ho O6 s σ H Q I ⟨O,δ,_,w,q,λy uy H2 q2 s2 r2=>⟨O,δ,_,w.mono s2,q2,λx ux H3 uu64 s3 r3=>by
  obtain⟨z,ks,ds,ey,ex,q3⟩:=uu64;subst ey ex;cases r2;obtain⟨a,ob,kv,rfl,h,e1,n,rr⟩:=r3.dicE;exact⟨a,_,rfl,cq.z (k:= .inr z) h,by rw [E2 e1 rr];exact k _ _ _ q3 (s2.trans s3) (.bl _)⟩⟩⟩
theorem E3{o e:NN}{tk to:DT}{pos:Pos}(hu:X.A.units+64 < N4)(ho:DE X H0 O0 o to)(he:DE X H0 O0 e tk)(hm:N6 .In o=false:=by rfl):DE X H0 O0 (.Compare e [.In] [o] pos) (lQ false tk to):=yZ (wa hu ho he) hm
theorem E4{o e:NN}{tk to:DT}{pos:Pos}(hu:X.A.units+64 < N4)(ho:DE X H0 O0 o to)(he:DE X H0 O0 e tk)(hm:N6 .In o=false:=by rfl):PT X (.Compare e [.In] [o] pos) (bL X.K H0 O0 (gG (lQ false tk to))):=
 (mw (wa hu ho he) hm).imp λσ H Q uu65=>by obtain⟨O,δ,Qd,w,q,k⟩:=uu65;exact⟨O,δ,_,w,q,λd v H' uu66 s r=>by obtain⟨b,e,qb⟩:=uu66;subst e;cases r;exact⟨b,rfl,k b H' qb s⟩⟩
def E5(tl:TE):TI:=λσ H R=>tl σ H λx H1=>∃a o kv,x= .ref a/\H1 a=some (.frz o (.dK kv))/\R (om o a kv) H1
theorem E6{X:Cx}{tg l:NN}{tl:TE}(hl:PE X l tl):PI X tg l (E5 tl):=by
 intro O6 s σ H R I h;refine ar (hl O6 s σ H _ I h) λv s1 ⟨x,H1,I1,r1,q1⟩=>?_;obtain⟨a,o,kv,e,ha,q⟩:=q1;subst e;cases r1;obtain⟨g,z,hd,vs,rel,o',es,ep,g',r1,r2,r3⟩:=I1.hok a _ ha;rw [g] at g';cases g';have hlen:=rel.len;have hd':(a==Oh)=false:=hd;refine wpAny_pyIter_dict hd' (knd:=bQ X.prog X.w) (kvs:=vs) (ep:=ep) ⟨o,es,g,r1,r2,r3⟩ ?_;rw [hlen];refine⟨s1.heap.objs.size,[s1.heap.objs.size],_,_,_,rfl,I1.kept (t':=s1.toks) λb o e=>HH _ e,En _ a o es ep kv r2,⟨_,IB _ rfl,rfl,rfl⟩,λb hb=>?_,q⟩;have e:b=s1.heap.objs.size:=by simpa using hb
 subst e;exact I1.fpOk (HE _) (I1.hok.fresh (HE _))
theorem wb{K:Hx}{H:Hp}{O:Ex}:∀{kv:List (ah×V)}{ks:List Str},kv.map (·.1)=ks.map Je->ai K H O (kv.map λp=>kV p.1) (ks.map .str)
 | [],[],_=>.nil
 | p::kv,k::ks,h=>by
  simp only [HF,Jv] at h;obtain⟨p1,p2⟩:=p;obtain⟨rfl,h⟩:=h;exact .cons (.str _) (wb h)
def wc(t:DT)(dg:DG)(tb:DS):DS:=λE δ=>t δ λd=>∃ks ds,d=fO ks ds/\iZ dg tb E (ks.map .str) δ
theorem E7{tg iter:NN}{t:DT}{g:TG}{dg:DG}{tb:DS}{body:List N1}{pos:Pos}(hp:Ov (NT X.prog X.w) X.A X.env X.xe)(hc:X.calm=true)(hi:DE X H0 O0 iter t)(hg:PG X tg g)(gd:GD X.K g dg)(hb:bx X body (bh X.K H0 O0 tb))(hs:∀x,N0 iter X.env x=pure x:=by intro _;rfl):
 PS X (.For tg iter body [] pos) (bh X.K H0 O0 (wc t dg tb)):=
 (hG hp hc (E6 hi) hg hb hs).imp λD σ H uu68=>by obtain⟨O,δ,E,w,q,k1,k2,k3,k4⟩:=uu68;exact⟨O,δ,_,w,q,λd v H1 uu69 s1 r1=>by
  obtain⟨ks,ds,e,q1⟩:=uu69;subst e;obtain⟨a,ob,kv,rfl,h,e1,n,rr⟩:=r1.dicE;exact⟨a,ob,kv,rfl,h,i4 bT.dk gd (λH' O' S=>S.keep _ _ h n) (wb e1) (w.mono s1) q1 (λO' δ' σ' H' z w' S=>k1 O' δ' σ' H' z w' (aJ.trans (.same s1) S)) k2⟩⟩
end
section
variable {x y z w:Option Sl} {l:Dl} {i j k m:Nat} {P:NI->Prop}
theorem E8:cD j ((x::l).set 0 y) P=cD j (y::l) P:=rfl
theorem E9:cD j ((x::l).set (i+1) y) P=cD j (x::l.set i y) P:=rfl
theorem Fb:cD j (((x::l).set 0 y).set k z) P=cD j ((y::l).set k z) P:=rfl
theorem Fc:cD j (((x::l).set (i+1) y).set k z) P=cD j ((x::l.set i y).set k z) P:=rfl
theorem Fd:cD j ((((x::l).set 0 y).set k z).set m w) P=cD j (((y::l).set k z).set m w) P:=rfl
theorem Fe:cD j ((((x::l).set (i+1) y).set k z).set m w) P=cD j (((x::l.set i y).set k z).set m w) P:=rfl
end
section
variable {K:Hx} {mg:Str->Option NJ} {h:NZ} {x q:Str} {st:N1} {f C:NK} {fd:NU} {ps:List Str}
structure Fn (K:Hx) (mg:Str->Option NJ) (x:Str) (st:N1) (f:NK) (fd:NU) (ps:List Str):Prop where
 F:fY K x x st f fd
 m:mg x=some (.ref f)
 b:fj K fd ps []
structure DfT (K:Hx) (x:Str) (st:N1) (f:NK) (fd:NU):Prop where
 a:Iz K NW x=some (some (.ref f))
 F:fY K x x st f fd
theorem DfT.of{oc:NJ}{od an:Option NK}{osl:Array (Option NJ)}{kV doc pm cdv ct:NJ}(a:Iz K NW x=some (some (.ref f)))(l:K.lookup f=some ⟨oc,od,.func (JM x x (hW st) (fX st) (aD st) .none kV doc pm an cdv ct),osl⟩)
 (c:K9 K cdv x=true)(k:KC K (.ref f)=true):DfT K x st f (JM x x (hW st) (fX st) (aD st) .none kV doc pm an cdv ct):=⟨a,A9 l c k⟩
theorem DfT.fn(D:DfT K x st f fd)(X:K.In h)(G:h.Ns NW mg)(hb:∀(kV doc pm:NJ) (an:Option NK) (cdv ct:NJ) (us:List NJ),us.length=ps.length->bindArgs (JM x x (hW st) (fX st) (aD st) .none kV doc pm an cdv ct) ⟨us,[]⟩=pure (ps.zip us):=by walk_at "b"):Fn K mg x st f fd ps:=⟨D.F,JT X G D.a,D.F.binds hb⟩
theorem Fn.kp(N:Fn K mg x st f fd ps):KC K (.ref f)=true:=N.F.kp
end
section
variable {X:Cx} {k:Nat} {f:NK} {fd:NU} {ps:List Str} {sp:Sp} {st:N1} {x:Str} {p pos:Pos} {e:NN} {es:List NN} {t:TA}
theorem Ff(F:aO X.prog X.w X.K X.mg X.base CX0 k f fd ps sp)(hr:br k X.A)(hg:Gl X x)(N:Fn X.K X.mg x st f fd ps)
 (ha:PA X (e::es) t)(hdb:(x==("__debug__":Str))=false:=by decide)(he:NP (e::es) X.env=(false,eval e X.env)::NP es X.env:=by rfl)(hpl:(N7 pos (NP es X.env)).any (·.1)=false:=by rfl):
 PE X (.Call (.Name x p) (e::es) [] pos) (kQ sp [] E0 t):=Aw F hr hg N.m N.kp N.b .nil A8 ha hdb he hpl
end
theorem bu.of{sc:Of}{N N':List Str}{k:Nat}{fr:List Nat}{scope:Of}(a:scope.kind= .function:=by rfl)(b:∀y∈scope.names,y.2= .cell->scope.names.lookup y.1=some .cell:=by decide+kernel)(c:∀y∈scope.names,y.2= .local->scope.names.lookup y.1=some .local:=by decide+kernel)(d:N'.Nodup:=by decide+kernel)(e:fr.map (λj=>N[j]?)=(N'.drop k).map some:=by rfl)(f:∀x∈N'.drop k,scope.names.lookup x=some .free:=by decide+kernel)(g:∀y∈scope.names,y.2= .free->sc.names.lookup y.1=some .cell\/sc.names.lookup y.1=some .free:=by decide+kernel)(h:∀x∈N'.drop k,sc.names.lookup x=some .cell\/sc.names.lookup x=some .free:=by decide+kernel)(i:N'.length=k+fr.length:=by rfl):bu sc N N' k fr scope:=⟨a,b,c,d,e,f,g,h,i⟩
theorem aY.of{N P:List Str}{sc:Of}(a:sc.kind= .function:=by rfl)(b:sc.isCoroutine=false:=by rfl)(c:sc.isGenerator=false:=by rfl)(d:N.Nodup:=by decide+kernel)(e:N.take P.length=P:=by rfl)(f:∀x∈P,sc.names.lookup x=some .local\/sc.names.lookup x=some .cell:=by decide+kernel)(g:∀y∈sc.names,y.2≠ .free:=by decide+kernel):aY N P sc:=⟨a,b,c,d,e,f,g⟩
section
variable {X:Cx} {H0:Hp} {O0:Ex} {pos:Pos} {a b e:NN} {es:List NN} {ta tb t:DT} {u:DA} {r:R2} {rd:NI->NI->(NI->Prop)->Prop}
theorem aK{op:Operator}(ho:bf X (Oi op) r)(hd:bE X.K r rd)(ha:DE X H0 O0 a ta)(hb:DE X H0 O0 b tb):DE X H0 O0 (.BinOp a op b pos) (gc rd ta tb):=BP ho hd (df ha) (df hb)
theorem ay(ho:iO X r)(hd:bE X.K r rd)(ha:DE X H0 O0 a ta)(hb:DE X H0 O0 b tb)(hs:∀v u,OG b false v u=operate [v,u] (Ot v u):=by intro _ _;rfl):DE X H0 O0 (.Subscript a b pos) (gc rd ta tb):=dz ho hd (df ha) (df hb) hs
theorem aL{op:OC}(ho:bf X (NY op) r)(hd:bE X.K r rd)(ha:DE X H0 O0 a ta)(hb:DE X H0 O0 b tb)(hm:N6 op b=false):PT X (.Compare a [op] [b] pos) (bL X.K H0 O0 (gG (gc rd ta tb))):=rK ho hd (df ha) (df hb) hm
theorem aH(h:DE X H0 O0 e t)(hs:PA X es (d8 X.K H0 O0 u))(he:NP (e::es) X.env=(false,eval e X.env)::NP es X.env:=by rfl):PA X (e::es) (d8 X.K H0 O0 (iW t u)):=lp (df h) hs he
theorem aq{k j:Nat}{f:NK}{fd:NU}{ps:List Str}{F:List NI->(NI->Prop)->Prop}{st:N1}{x:Str}{p:Pos}(G:aO X.prog X.w X.K X.mg X.base CX0 k f fd ps (aT X.K F))(hr:br j X.A)(N:Fn X.K X.mg x st f fd ps)
 (ha:PA X (e::es) (eJ X.K H0 O0 u))(hk:k<=j:=by decide)(hg:Gl X x:=by exact rfl)(hdb:(x==("__debug__":Str))=false:=by decide)(he:NP (e::es) X.env=(false,eval e X.env)::NP es X.env:=by rfl)(hpl:(N7 pos (NP es X.env)).any (·.1)=false:=by rfl):
 DE X H0 O0 (.Call (.Name x p) (e::es) [] pos) (jL F u):=PE.imp (Ff G (hr.mono hk) hg N ha hdb he hpl) BU
end
end L2
namespace PySem.SeqAt
open AutoSeq1 (wpAny_loadPart')
open MeetsSeq
section
variable {A:N2} {s:NL}
theorem EqAt.dict_str{l:NK}{es:Array Ol}{n:Nat}{o:Obj}(b:Str)(u:Tok)(ho:s.heap.get? l=some o)(hc:o.cls= .type "dict")(hd:o.data= .dict es n)(hu:A.units < N4):EqAt A s (.ref l) (.str b u) false:=λprog w E Q h=>by
 unfold eqBool;refine Oc ?_;refine wpAny_ite_split (λhab=>absurd (eq_of_beq hab) nofun) (λ_=>?_);exact NM (RcAt.dict_str b u ho hc hd hu prog w E _ (N5 h))
end
end PySem.SeqAt
namespace L2
open PySem PySem.Spec PyProof.Rows PySem.W
section
variable {X:Cx} {O6:List (NK×Obj)} {σ:St} {H:Hp} {s:NL}
theorem Fg(I:ae X O6 σ H s){A:N2}{O:Ex}{v:V}{d:NI}{u:NJ}(h:Dt X.K H O v d)(ht:bA d=true)(r:ax v u)(y:Str)(t:Tok)(hu:A.units < N4):Mb A s u (.str y t) (HA d (.str y)):=by
 cases h with
 | non=>cases (show u=Ki from r);simpa [HA] using Mb.none_str y t
 | bl b=>cases (show u=JG b from r);simpa [HA] using Mb.bool_str b y t
 | int i=>obtain⟨k,e⟩:=(show ∃t,u=JZ i t from r);cases e;simpa [HA] using Mm i k y t
 | str x=>obtain⟨k,e⟩:=(show ∃t,u=JJ x t from r);cases e;simpa [HA] using Mr x k y t
 | @tup a xs ds h n rr=>
  cases (show u=Ih a from r);obtain⟨its,rv,p,_⟩:=I.tuple (.inl h);simpa [HA] using Mf y t (show s.heap.IsTuple a its.toArray from p) hu
 | @tupK a xs ds h rr=>
  cases (show u=Ih a from r);obtain⟨its,rv,p,_⟩:=I.tuple h.of0;simpa [HA] using Mf y t (show s.heap.IsTuple a its.toArray from p) hu
 | @lst a xs ds h n rr=>
  cases (show u=Ih a from r);obtain⟨its,rv,p,_⟩:=I.list (.inl h);simpa [HA] using Mb.list_str y t p.isList hu
 | pack h n=>exact absurd ht (by simp [bA])
 | purse h n=>exact absurd ht (by simp [bA])
 | scr h r=>exact absurd ht (by simp [bA])
 | obj h e n r=>exact absurd ht (by simp [bA])
 | @dct0 a h n=>
  cases (show u=Ih a from r);obtain⟨_,_,_,_,o,es,ep,e,c,dd,_⟩:=(show bD X.prog X.w H s.heap a (.dK []) from I.hok a _ h);simpa [HA] using Mb.dict_str y t e c.1 dd hu
 | @dic a ob kv ks kp ds h e1 e2 n rr=>
  cases (show u=Ih a from r);obtain⟨_,_,_,_,o,es,ep,e,c,dd,_⟩:=(show bD X.prog X.w H s.heap a (.dK kv) from(I.hok a _ h).2);simpa [HA] using Mb.dict_str y t e c.1 dd hu
end
section
variable {X:Cx} {H0:Hp} {O0:Ex}
def we(K:Hx):R2:=λx y H Q=>∃(O:Ex)(a b:NK)(vs:List V)(ds:List NI)(z:Str),x= .ref a/\bg K H a vs/\ai K H O vs ds/\(∀d∈ds,bA d=true)/\y= .ref b/\bg K H b [V.str z]/\Q (.bl (!HA (.tuple ds) (.tuple [.str z]))) H
theorem Fh{k:Nat}(hr:br k X.A):bf X (NY .NotEq) (we X.K):=by
 intro O6 s σ H x y v u Q I rx ry h;obtain⟨O,a,b,vs,ds,z,rfl,ha,hd,ht,rfl,hb,q⟩:=h;cases rx;cases ry;obtain⟨its,rv,p,_⟩:=I.tuple ha;obtain⟨jts,rw,p2,_⟩:=I.tuple hb;have hc:NY .NotEq (.ref a) (.ref b)=OR .NotEq (.ref a) (.ref b):=rfl;rw [hc];have hu0:X.A.units < N4:=hr.units0;have hu1:X.A.in1.units < N4:=by show X.A.units+1 < N4;have:=hr.un;omega
 have l1:its.length=ds.length:=by rw [<-rv.length,<-hd.length]
 have l2:jts.length=1:=by rw [<-rw.length];rfl
 have he:∀j(h1:j < its.toArray.size)(h2:j < jts.toArray.size),Mb X.A.in1 s its.toArray[j] jts.toArray[j] (Nb ds [.str z] j):=λj h1 h2=>by
  have h1':j < its.length:=by simpa using h1
  have h2':j < jts.length:=by simpa using h2
  have hj:j=0:=NC
  subst hj;cases rv with
  | nil=>simp at h1'
  | @cons x0 u0 xs0 us0 r1 r2=>
   cases rw with
   | @cons x1 u1 xs1 us1 r3 r4=>
    cases hd with
    | @cons _ d0 _ ds0 e1 e2=>
     obtain⟨t,rfl⟩:=(show ∃t,u1=JJ z t from r3);exact Fg I e1 (ht d0 HZ) r1 z t hu1
 have:=SeqAt.RcNeAt.tuples (e:=Nb ds [.str z]) (show s.heap.IsTuple a its.toArray from p) (show s.heap.IsTuple b jts.toArray from p2) hu0 he X.prog X.w X.xe;refine this _ ?_;have ee:=SeqAt.eqvAll_eq ds [.str z];have e1:its.toArray.size=ds.length:=by simpa using l1
 have e2:jts.toArray.size=[Hy z].length:=by simpa using l2
 rw [e1,e2,ee];exact d4 I q rfl
def wg:NI->NI->(NI->Prop)->Prop:=λx y Q=>∃(ds:List NI)(z:Str),x= .tuple ds/\(∀d∈ds,bA d=true)/\y= .tuple [.str z]/\Q (.bool (!HA (.tuple ds) (.tuple [.str z])))
theorem Fi{K:Hx}:bE K (we K) wg:=λH O x y dx dy Qd R _ hx hy uu70 k=>by
 obtain⟨ds,z,e,ht,e',q⟩:=uu70;subst e e';obtain⟨a,vs,rfl,hs,r⟩:=hx.tup;obtain⟨b,ws,rfl,hs2,r2⟩:=hy.tup;cases (show ai K H _ ws ([z].map Hy) from r2).strs;exact⟨_,a,b,vs,ds,z,rfl,hs,r,ht,rfl,hs2,k _ _ H q (ao.refl _) (.bl _)⟩
def wj(K:Hx):R2:=λx y H Q=>∃(O:Ex)(dx:NI)(zs:List Str)(a:NK),Dt K H O x dx/\bA dx=true/\y= .ref a/\bg K H a (zs.map V.str)/\Q (.bl (!zs.any λz=>HA (.str z) dx)) H
theorem Fj{k:Nat}(hr:br k X.A):bf X (NY .NotIn) (wj X.K):=by
 intro O6 s σ H x y v u Q I rx ry h;obtain⟨O,dx,zs,a,hx,ht,rfl,ha,q⟩:=h;cases ry;obtain⟨its,rv,p,_⟩:=I.tuple ha;have hS:=nZ rv;have hl:=uE dx hS;refine SeqAt.notIn_tupleAt (λy=>HA (.str (strOf y)) dx) (show s.heap.IsTuple a its.toArray from p) (λy hy=>?_) (by rw [MH,hl];exact d4 I q rfl);obtain⟨z,t,rfl⟩:=hS.all y (by simpa using hy);exact uB I hx ht rx z t (by show X.A.units+1 < N4;have:=hr.un;omega)
def wk:NI->NI->(NI->Prop)->Prop:=λx y Q=>∃zs:List Str,y= .tuple (zs.map .str)/\bA x=true/\Q (.bool (!zs.any λz=>HA (.str z) x))
theorem Fl{K:Hx}:bE K (wj K) wk:=λH O x y dx dy Qd R _ hx hy uu71 k=>by
 obtain⟨zs,e,ht,q⟩:=uu71;subst e;obtain⟨a,vs,rfl,hs,r⟩:=hy.tup;cases r.strs;exact⟨_,dx,zs,a,hx.all,ht,rfl,hs,k _ _ H q (ao.refl _) (.bl _)⟩
open PySem PySem.Spec PyProof.Rows PySem.W PySem.Calls
def wq(i j m:Nat)(t:fM):DS:=λE δ=>t δ λkd=>∃d,δ[m]?=some (some (.v d))/\E.nx ((δ.set i (some (.k kd))).set j (some (.o [d])))
theorem Fm{i j m:Nat}{x y:Str}{e z:NN}{t:fM}{px py pt pos p1:Pos}{kt k2 pt2}(hc:X.calm=true)(hN:X.N.Nodup)(hi:X.N[i]?=some x)(hj:X.N[j]?=some y)(hij:i≠j)
 (hx:X.env.scope.names.lookup x=some .local)(hy:X.env.scope.names.lookup y=some .local)(he:KE X H0 O0 e t)(hz:PE X z (dF m))
 (hw:OJ [.Tuple [.Name x px,.Name y py] kt pt] (.Tuple [e,.List [z] p1] k2 pt2) X.env=pure (some [x,y]))
 (hst:NP [z] X.env=(false,eval z X.env)::NP [] X.env:=by rfl)
 (hst2:NP [e,.List [z] p1] X.env=(false,eval e X.env)::NP [.List [z] p1] X.env:=by rfl)
 (hst3:NP [.List [z] p1] X.env=(false,eval (.List [z] p1) X.env)::NP [] X.env:=by rfl)
 (hs:OI [.Tuple [.Name x px,.Name y py] kt pt] (.Tuple [e,.List [z] p1] k2 pt2) pos.line X.env=pure false:=by rfl):
 PS X (.Assign [.Tuple [.Name x px,.Name y py] kt pt] (.Tuple [e,.List [z] p1] k2 pt2) pos) (bh X.K H0 O0 (wq i j m t)):=
 (qv hc hN hi hj hij hx hy (cM he (cM (mT (cM hz eG hst)) eG hst3) hst2) hw hs).imp λD σ H uu72=>by
  obtain⟨O,δ,E,w,q,k1,k2,k3,k4⟩:=uu72;refine⟨O,δ,_,w,q,λkd kv p H' ⟨d,ed,q1⟩ s1 hp r1=>?_⟩;obtain⟨v,hv,rv⟩:=w.sl m _ ed;have hv:=gb hv;have S1:aJ H' (ak H' p (.dK kv)) O (λl=>O l\/l=p):=⟨λb o e _=>(ao.new hp) b o e,λb e n z=>z.elim n λy=>by rw [y] at e;exact e hp⟩;have w1:=(w.mono s1).setK (i:=i) hp r1;refine⟨v,hv,?_⟩;refine⟨by show 1<=NO;decide,λr hr=>⟨_,_,rfl,?_⟩⟩;have w2:=w1.setO (i:=j) (vs:=[v]) (ds:=[d]) hr (.cons ((rv.mono s1).step S1) .nil);have S2:aJ (ak H' p (.dK kv)) (ak (ak H' p (.dK kv)) r (.lst [v])) (λl=>O l\/l=p) (λl=>(O l\/l=p)\/l=r):=⟨λb o e _=>(ao.new hr) b o e,λb e n z=>z.elim n λy=>by rw [y] at e;exact e hr⟩;exact k1 _ _ _ _ q1 w2 ((aJ.same s1).trans (S1.trans S2))
def wt(i j:Nat):DS:=λE δ=>∃d ds,δ[j]?=some (some (.o (d::ds)))/\E.nx ((δ.set j (some (.o ds))).set i (some (.v d)))
theorem Fo{i j:Nat}{x:Str}{o e:NN}{pos pos' apos cpos:Pos}(hN:X.N.Nodup)(hi:X.N[i]?=some x)(hij:i≠j)(hx:fc X.env.scope x)(ho:PE X o (dF j))(he:DE X H0 O0 e (dC (.int 0)))
 (hbase:Ou o "pop" X.env (eval o X.env)=eval o X.env:=by rfl)
 (hfew:((N7 cpos (NP [e] X.env)).all (λx=>!x.1) && (OQ cpos (Oz [] X.env)).all (λx=>x.1.isSome) && decide ([e].length+([]:List Oq).length+(if ([]:List Oq).isEmpty then 0 else 1) < 30))=true:=by rfl)
 (hline:(apos.endLine==cpos.line)=true:=by rfl)(hst:NP [e] X.env=(false,eval e X.env)::NP [] X.env:=by rfl)(hplain:(N7 cpos (NP [] X.env)).any (·.1)=false:=by rfl)
 (hs:Oa (.Call (.Attribute o "pop" apos) [e] [] cpos) (some (.Name x pos')) pos.line X.env=pure false:=by rfl)(hf:X.fn x=true\/X.env.scope.names.lookup x=some .local:=by first | exact .inl rfl | exact .inr rfl | assumption):
 PS X (.Assign [.Name x pos'] (.Call (.Attribute o "pop" apos) [e] [] cpos) pos) (bh X.K H0 O0 (wt i j)):=
 (g9 hN hi hx (kW KI PySem.F.slot_list_pop PySem.F.type_list_pop A0 ho (cM he eG hst) hbase hfew hline hst hplain) hs hf).imp λD σ H uu74=>by
  obtain⟨O,δ,E,w,⟨d,ds,e,q⟩,k1,k2,k3,k4⟩:=uu74;obtain⟨l,vs,h,a,b,c,r⟩:=w.own e;cases r with
  | @cons v0 _ vs' _ r0 r'=>
   refine⟨_,h,.inl ⟨rfl,_,aQ.of c⟩,O,δ,(λy=>y= .int 0),w,rfl,λd' v H1 q1 s1 r1=>?_⟩;subst q1;cases r1;refine⟨l,v0::vs',0,0,v0,rfl,rfl,s1 _ _ c,NB,NB,by simp [seqIndex?],rfl,?_⟩;have S:aJ H1 (ak H1 l (.lst vs')) O O:=⟨λb' o' z n=>by rw [aB (λy=>n (by rw [y];exact a))];exact z,λ_ _ n=>n⟩;have w1:=(w.mono s1).putO (vs:=vs') e h (r'.mono s1);exact k1 _ _ _ _ q (w1.set ((r0.mono s1).step S)) ((aJ.same s1).trans S)
theorem eY.kdF{K:Hx}{H H':Hp}{O:Ex}:∀{kd:List (ah×NI)}{ps:List (V×V)},eY K H O ps (kd.map λp=>(dS p.1,p.2))->(∀p∈kd,∀v,Dt K H O v p.2->Dt K H' O v p.2)->∃kv:List (ah×V),ps=kv.map (λp=>(kV p.1,p.2))/\aZ K H' O kv kd
 | [],_,h,_=>by cases h;exact⟨[],rfl,.nil⟩
 | p::kd,_,h,sc=>by
  cases h with
  | cons a b r=>
   obtain⟨kv,e,k⟩:=eY.kdF r λq hq=>sc q (Ic _ hq);have:=a.key;exact⟨(p.1,_)::kv,by rw [e,this];rfl,.cons (sc p HZ _ b) k⟩
theorem Dt.freeT{K:Hx}{H:Hp}{O:Ex}{v:V}{zs:List Str}{p:NK}(h:Dt K H O v (.tuple (zs.map .str)))(hp:H p=some (.dK [])):Dt K (λb=>if b=p then none else H b) O v (.tuple (zs.map .str)):=by
 generalize hd:HI (zs.map .str)=d at h;cases h with
 | @tup a xs ds h n rr=>
  cases hd;cases rr.strs;refine .tup (h.same λo e=>?_) n (ai.ofStrs zs);have:a≠p:=λy=>by
   rw [y] at h;rcases h with h | ⟨o,h⟩ <;> rw [hp] at h <;> cases h
  show(if a=p then none else H a)=some o;rw [ND this];exact e
 | @tupK a xs ds h rr=>
  cases hd;cases rr.strs;exact .tupK h (ai.ofStrs zs)
 | _=>cases hd
def wu(trs:List (DT×DT)):fM:=λδ Q=>j7 trs δ λps=>∃kd:List (ah×List Str),ps=kd.map (λp=>(dS p.1,HI (p.2.map .str)))/\kd.length<=15/\Q ((kd.map λp=>(p.1,HI (p.2.map .str))).foldl (λa p=>dB a p.1 p.2) [])
theorem Fp{pos:Pos}{keys:List (Option NN)}{values:List NN}{trs:List (DT×DT)}(h:j9 X H0 O0 pos keys values trs)(hall:keys.all (·.isSome)=true:=by rfl)(hl:keys.length=values.length:=by rfl)(h0:keys≠[]:=by exact MI _ _)(h15:keys.length<=15:=by exact L9 rfl):KE X H0 O0 (.Dict keys values pos) (wu trs):=
 (tT h hall hl h0 h15).imp λσ H Q ⟨O,δ,Qd,w,q,k⟩=>λp hp=>by
  refine oo trs (w.mono (ao.new hp)) q λds vs H2 ⟨kz,e,n,q2⟩ s2 r2=>?_;have hp2:H2 p=some (.dK []):=s2 _ _ bj;generalize hk:(kz.map λp=>(p.1,HI (p.2.map .str)))=kd at q2;have e:ds=kd.map (λp=>(dS p.1,p.2)):=by rw [e,<-hk,Iy];rfl
  subst e;obtain⟨kv,e,r⟩:=eY.kdF (H':=λb=>if b=p then none else H2 b) r2 λy hy v hv=>by
   rw [<-hk] at hy;obtain⟨z,_,rfl⟩:=HR.mp hy;exact hv.freeT hp2
  refine⟨hp2,kv,e,by rw [r.length,<-hk,HB];exact n,?_⟩;have eu:ak H2 p (.dK (d9 [] kv))=ak (λb=>if b=p then none else H2 b) p (.dK (d9 [] kv)):=by
   funext b;unfold ak;split
   ·rfl
   ·rename_i hb;exact(ND hb).symm
  rw [eu];refine k _ _ p _ q2 (λb o z=>?_) (NF rfl) (r.merge .nil);have:b≠p:=λy=>by rw [y,hp] at z;cases z
  show(if b=p then none else H2 b)=some o;rw [ND this];exact s2 _ _ (by rw [aB this];exact z)
end
end L2
namespace PySem.SeqAt
open AutoSeq1 (wpAny_loadPart')
open MeetsSeq
theorem Fq(l:NK)(es:Array Ol)(n:Nat)(dd:Option NK)(sl:Array (Option NJ))(b:Str)(u:Tok):
 Meets (Builtin.«dict.__ne__» ⟨[.ref l,.str b u],[]⟩) (λ_ R s=>s.heap.get? l=some {cls:= .type "dict",dict:=dd,data:= .dict es n,slots:=sl}/\R (.ok (.ret .notImplemented)) s):=
 .of_wp λprog w A R s h=>by obtain⟨hp,g,d,tk,os⟩:=s;obtain⟨hl,h⟩:=h;have f1:=F.sub_str_dict;wp_walk using N9 hl;exact⟨_,rfl,h⟩
theorem Fs(b:Str)(u:Tok)(l:NK)(c:NJ)(es:Array Ol)(n:Nat)(dd:Option NK)(sl:Array (Option NJ)):
 Meets (Builtin.«str.__ne__» ⟨[.str b u,.ref l],[]⟩) (λ_ R s=>s.heap.get? l=some {cls:=c,dict:=dd,data:= .dict es n,slots:=sl}/\R (.ok (.ret .notImplemented)) s):=
 .of_wp λprog w A R s h=>by obtain⟨hp,g,d,tk,os⟩:=s;obtain⟨hl,h⟩:=h;wp_walk using N9 hl,wpAny_load hl;exact⟨_,rfl,h⟩
section
variable {A:N2} {s:NL}
theorem RcNeAt.dict_str{l:NK}{es:Array Ol}{n:Nat}{o:Obj}(b:Str)(u:Tok)(ho:s.heap.get? l=some o)(hc:o.cls= .type "dict")(hd:o.data= .dict es n)(hu:A.units < N4):RcNeAt A s (.ref l) (.str b u) true:=λprog w E Q h=>by
 obtain⟨cls,dd,data,sl⟩:=o;simp only at hc hd;subst hc hd;exact rc_ne_decline_or (k:=false) ⟨_,ho,rfl⟩ (Ow s b u) NB F.sub_str_dict F.slot_dict_ne F.slot_str_ne_refl
  (λ_ hq=>Oj F.slot_dict_ne ⟨_,ho,rfl⟩ F.entry_dict_ne (F.args_dict_ne_2 _ _) (Fq l es n dd sl b u) ⟨ho,hq⟩)
  (λ_ hq=>Oj F.slot_str_ne_refl (Ow s b u) F.entry_str_ne (F.args_str_ne_2 _ _) (Fs b u l (.type "dict") es n dd sl) ⟨ho,hq⟩)
  (λ_ hq=>wpAny_of_eq (rfl:isSame (.ref l) (.str b u)=pure false) hq) (.inr hu) h
end
end PySem.SeqAt
namespace L2
open PySem PySem.Spec PyProof.Rows PySem.W
section
variable {X:Cx} {O6:List (NK×Obj)} {σ:St} {H:Hp} {s:NL}
theorem Ft(I:ae X O6 σ H s){O:Ex}{v:V}{d:NI}{u:NJ}(h:Dt X.K H O v d)(ht:bA d=true)(r:ax v u)(y:Str)(t:Tok)(hu:X.A.units < N4):SeqAt.RcNeAt X.A s u (.str y t) (!HA d (.str y)):=by
 cases h with
 | non=>cases (show u=Ki from r);simpa [HA] using SeqAt.RcNeAt.none_str y t
 | bl b=>cases (show u=JG b from r);simpa [HA] using SeqAt.RcNeAt.bool_str b y t
 | int i=>obtain⟨k,e⟩:=(show ∃t,u=JZ i t from r);cases e;simpa [HA] using SeqAt.RcNeAt.int_str i k y t
 | str x=>
  obtain⟨k,e⟩:=(show ∃t,u=JJ x t from r);cases e;have:=SeqAt.RcNeAt.str_str (A:=X.A) (s:=s) x k y t;simpa [HA,bne] using this
 | @tup a xs ds h n rr=>
  cases (show u=Ih a from r);obtain⟨its,rv,p,_⟩:=I.tuple (.inl h);simpa [HA] using L1 y t (show s.heap.IsTuple a its.toArray from p) hu
 | @tupK a xs ds h rr=>
  cases (show u=Ih a from r);obtain⟨its,rv,p,_⟩:=I.tuple h.of0;simpa [HA] using L1 y t (show s.heap.IsTuple a its.toArray from p) hu
 | @lst a xs ds h n rr=>
  cases (show u=Ih a from r);obtain⟨its,rv,p,_⟩:=I.list (.inl h);simpa [HA] using SeqAt.RcNeAt.list_str y t p.isList hu
 | pack h n=>exact absurd ht (by simp [bA])
 | purse h n=>exact absurd ht (by simp [bA])
 | scr h r=>exact absurd ht (by simp [bA])
 | obj h e n r=>exact absurd ht (by simp [bA])
 | @dct0 a h n=>
  cases (show u=Ih a from r);obtain⟨_,_,_,_,o,es,ep,e,c,dd,_⟩:=(show bD X.prog X.w H s.heap a (.dK []) from I.hok a _ h);simpa [HA] using SeqAt.RcNeAt.dict_str y t e c.1 dd hu
 | @dic a ob kv ks kp ds h e1 e2 n rr=>
  cases (show u=Ih a from r);obtain⟨_,_,_,_,o,es,ep,e,c,dd,_⟩:=(show bD X.prog X.w H s.heap a (.dK kv) from(I.hok a _ h).2);simpa [HA] using SeqAt.RcNeAt.dict_str y t e c.1 dd hu
end
section
variable {X:Cx} {H0:Hp} {O0:Ex}
def wz(K:Hx):R2:=λx y H Q=>∃O dx z,Dt K H O x dx/\bA dx=true/\y= .str z/\Q (.bl (!HA dx (.str z))) H
theorem wA{k:Nat}(hr:br k X.A):bf X (NY .NotEq) (wz X.K):=by
 intro O6 s σ H x y v u Q I rx ry h;obtain⟨O,dx,z,hx,ht,rfl,q⟩:=h;obtain⟨t,rfl⟩:=ry;have hc:NY .NotEq v (.str z t)=OR .NotEq v (.str z t):=rfl;rw [hc];exact Ft I hx ht rx z t hr.units0 X.prog X.w X.xe _ (d4 I q rfl)
def wB:NI->NI->(NI->Prop)->Prop:=λx y Q=>∃z,y= .str z/\bA x=true/\Q (.bool (!HA x (.str z)))
theorem wC{K:Hx}:bE K (wz K) wB:=λH O x y dx dy Qd R _ hx hy uu77 k=>by
 obtain⟨z,e,ht,q⟩:=uu77;subst e;cases hy.str;exact⟨_,dx,z,hx.all,ht,rfl,k _ _ H q (ao.refl _) (.bl _)⟩
end
end L2
namespace K48
open PySem L2
theorem lit0:HJ (.str "")=true:=NA
theorem lit1:HJ (.str "abcdefghijklmnopqrstuvwxyz")=true:=NA
theorem lit2:HJ (.str "clash")=true:=NA
theorem lit3:HJ (.str "coming")=true:=NA
theorem lit4:HJ (.str "covered")=true:=NA
theorem lit5:HJ (.str "days")=true:=NA
theorem lit6:HJ (.str "deep")=true:=NA
theorem lit7:HJ (.str "due")=true:=NA
theorem lit8:HJ (.str "end")=true:=NA
theorem lit9:HJ (.str "first")=true:=NA
theorem lit10:HJ (.str "follow")=true:=NA
theorem lit11:HJ (.str "gone")=true:=NA
theorem lit12:HJ (.str "goneday.calls")=true:=NA
theorem lit13:HJ (.str "goneday.checker")=true:=NA
theorem lit14:HJ (.str "goneday.days")=true:=NA
theorem lit15:HJ (.str "goneday.deeds")=true:=NA
theorem lit16:HJ (.str "goneday.errors")=true:=NA
theorem lit17:HJ (.str "goneday.standing")=true:=NA
theorem lit18:HJ (.str "goneday.webs")=true:=NA
theorem lit19:HJ (.str "happens")=true:=NA
theorem lit20:HJ (.str "held")=true:=NA
theorem lit21:HJ (.str "hold")=true:=NA
theorem lit22:HJ (.str "keep")=true:=NA
theorem lit23:HJ (.str "kind")=true:=NA
theorem lit24:HJ (.str "lacks")=true:=NA
theorem lit25:HJ (.str "last")=true:=NA
theorem lit26:HJ (.str "law_goneday_k48_claims_of_making")=true:=NA
theorem lit27:HJ (.str "leave")=true:=NA
theorem lit28:HJ (.str "lift")=true:=NA
theorem lit29:HJ (.str "made")=true:=NA
theorem lit30:HJ (.str "months")=true:=NA
theorem lit31:HJ (.str "no paper of the deeds")=true:=NA
theorem lit32:HJ (.str "none")=true:=NA
theorem lit33:HJ (.str "paper")=true:=NA
theorem lit34:HJ (.str "permit")=true:=NA
theorem lit35:HJ (.str "plan")=true:=NA
theorem lit36:HJ (.str "rule")=true:=NA
theorem lit37:HJ (.str "stays")=true:=NA
theorem lit38:HJ (.str "while")=true:=NA
theorem lit39:HJ (.str "years")=true:=NA
def bt(i:Nat):N1:=PySem.Challenge.pw_goneday_k48_claims_of_making.main.body.getD i (.Pass ⟨0,0,0,0⟩)
abbrev oE:N1:=bt 9
abbrev oF:N1:=bt 10
abbrev oG:N1:=bt 21
abbrev lR:N1:=bt 22
abbrev oH:N1:=bt 23
abbrev lS:N1:=bt 24
abbrev kj:N1:=bt 26
abbrev lT:N1:=bt 27
abbrev oI:N1:=bt 54
abbrev lU:N1:=bt 55
abbrev oJ:N1:=bt 56
abbrev oK:N1:=bt 57
abbrev oM:N1:=bt 58
abbrev km:N1:=bt 59
abbrev oN:N1:=bt 60
abbrev oO:N1:=bt 61
abbrev oP:N1:=bt 62
abbrev oQ:N1:=bt 63
abbrev lV:N1:=bt 64
abbrev lW:N1:=bt 66
abbrev oR:N1:=bt 69
abbrev oT:N1:=bt 70
abbrev oU:N1:=bt 89
abbrev oV:N1:=bt 91
abbrev oW:N1:=bt 92
abbrev oX:N1:=bt 93
abbrev kq:N1:=bt 94
abbrev oY:N1:=bt 95
abbrev oZ:N1:=bt 96
abbrev lX:N1:=bt 97
abbrev pb:N1:=bt 99
abbrev pd:N1:=bt 100
abbrev lY:N1:=bt 101
abbrev pf:N1:=bt 102
abbrev lZ:N1:=bt 103
abbrev jl:N1:=bt 104
abbrev pg:N1:=bt 105
abbrev kr:N1:=bt 106
abbrev l3:N1:=bt 107
abbrev ph:N1:=bt 108
abbrev l4:N1:=bt 109
set_option genInjectivity false in
set_option genSizeOfSpec false in
structure cI where
 a_A:NK
 d_A:NU
 a_B:NK
 d_B:NU
 a_C:NK
 d_C:NU
 a_D:NK
 d_D:NU
 a_E:NK
 d_E:NU
 a_F:NK
 d_F:NU
 a_G:NK
 d_G:NU
 a_H:NK
 d_H:NU
 a_I:NK
 d_I:NU
 a_J:NK
 d_J:NU
 a_K:NK
 d_K:NU
 a_L:NK
 d_L:NU
 a_M:NK
 d_M:NU
 a_N:NK
 d_N:NU
 a_O:NK
 d_O:NU
 a_P:NK
 d_P:NU
 a_Q:NK
 d_Q:NU
 a_R:NK
 d_R:NU
 a_S:NK
 d_S:NU
 a_T:NK
 d_T:NU
 a_U:NK
 d_U:NU
 a_V:NK
 d_V:NU
 a_W:NK
 d_W:NU
 a_X:NK
 d_X:NU
 a_Y:NK
 d_Y:NU
 a_Z:NK
 d_Z:NU
 a_a:NK
 d_a:NU
 a_b:NK
 d_b:NU
 a_c:NK
 d_c:NU
 a_d:NK
 d_d:NU
 a_e:NK
 d_e:NU
 a_f:NK
 d_f:NU
 a_g:NK
 d_g:NU
 a_h:NK
 d_h:NU
 a_i:NK
 d_i:NU
 a_j:NK
 d_j:NU
 a_k:NK
 d_k:NU
 a_l:NK
 d_l:NU
 a_m:NK
 d_m:NU
 a_n:NK
 d_n:NU
 a_o:NK
 d_o:NU
 u_LAST_WRITTEN:NJ
 u_NoPaper:NK
 u_LONGEST_NAME:NJ
 u_LETTERS:NJ
 u_MOST_MANY:NJ
 u_UNITS:NJ
 u_MOST_MAKERS:NJ
structure Txt (K:Hx) (mg:Str->Option NJ) (t:cI):Prop where
 F_A:Fn K mg "is_whole" oE t.a_A t.d_A ["thing"]
 F_B:Fn K mg "is_day" oF t.a_B t.d_B ["thing"]
 F_C:Fn K mg "place_of" oG t.a_C t.d_C ["deed"]
 F_D:Fn K mg "comings" lR t.a_D t.d_D ["deeds"]
 F_E:Fn K mg "coming_of" oH t.a_E t.d_E ["deeds","paper"]
 F_F:Fn K mg "papers" lS t.a_F t.d_F ["deeds"]
 F_G:Fn K mg "maker_comings" kj t.a_G t.d_G ["deeds","coming"]
 F_H:Fn K mg "makers" lT t.a_H t.d_H ["deeds","paper"]
 F_I:Fn K mg "is_tuple_of" oI t.a_I t.d_I ["thing","length"]
 F_J:Fn K mg "is_name" lU t.a_J t.d_J ["thing"]
 F_K:Fn K mg "is_since" oJ t.a_K t.d_K ["thing"]
 F_L:Fn K mg "is_span" oK t.a_L t.d_L ["many","unit"]
 F_M:Fn K mg "is_rule" oM t.a_M t.d_M ["thing"]
 F_N:Fn K mg "is_makers" km t.a_N t.d_N ["thing"]
 F_O:Fn K mg "is_target" oN t.a_O t.d_O ["thing"]
 F_P:Fn K mg "are_parts" oO t.a_P t.d_P ["word","parts"]
 F_Q:Fn K mg "is_deed" oP t.a_Q t.d_Q ["thing"]
 F_R:Fn K mg "quarrel" oQ t.a_R t.d_R ["one","other"]
 F_S:Fn K mg "go_together" lV t.a_S t.d_S ["deeds"]
 F_T:Fn K mg "are_deeds" lW t.a_T t.d_T ["thing"]
 F_U:Fn K mg "is_way" oR t.a_U t.d_U ["deeds","paper","thing"]
 F_V:Fn K mg "is_made" oT t.a_V t.d_V ["deeds","paper","other","grounds"]
 F_W:Fn K mg "holds" oU t.a_W t.d_W ["claim","grounds"]
 F_X:Fn K mg "_law_cell" oV t.a_X t.d_X ["_law_script","_law_k"]
 F_Y:Fn K mg "_law_purse" oW t.a_Y t.d_Y ["_law_cell_here"]
 F_Z:Fn K mg "_law_take" oX t.a_Z t.d_Z ["_law_purse_here","_law_many"]
 F_a:Fn K mg "_law_names" kq t.a_a t.d_a ["_law_purse_here","_law_many"]
 F_b:Fn K mg "_law_month" oY t.a_b t.d_b ["_law_year_here","_law_month_here"]
 F_c:Fn K mg "_law_year" oZ t.a_c t.d_c ["_law_year_here"]
 F_d:Fn K mg "_law_day" lX t.a_d t.d_d ["_law_year_here","_law_month_here","_law_number"]
 F_e:Fn K mg "_law_drawn_day" pb t.a_e t.d_e ["_law_purse_here","_law_far"]
 F_f:Fn K mg "_law_parts" pd t.a_f t.d_f ["_law_purse_here","_law_word","_law_names_here","_law_kinds","_law_far"]
 F_g:Fn K mg "_law_deed" lY t.a_g t.d_g ["_law_purse_here","_law_word","_law_names_here","_law_kinds","_law_far"]
 F_h:Fn K mg "_law_quarrels" pf t.a_h t.d_h ["_law_one","_law_other"]
 F_i:Fn K mg "_law_deeds" lZ t.a_i t.d_i ["_law_script","_law_menu","_law_most"]
 F_j:Fn K mg "_law_web" jl t.a_j t.d_j ["_law_deeds_here"]
 F_k:Fn K mg "_law_way" pg t.a_k t.d_k ["_law_web_here","_law_name","_law_other"]
 F_l:Fn K mg "_law_due" kr t.a_l t.d_l ["_law_web_here","_law_name","_law_other","_law_way_here"]
 F_m:Fn K mg "_law_ways" l3 t.a_m t.d_m ["_law_purse_here","_law_names_here","_law_name","_law_other","_law_way_here"]
 F_n:Fn K mg "_law_right" ph t.a_n t.d_n ["_law_purse_here","_law_deeds_here","_law_names_here","_law_name","_law_other"]
 F_o:Fn K mg "law" l4 t.a_o t.d_o ["_law_script"]
 bt_o:∀(s:NL)(u:NJ),BindsTo s t.d_o ⟨[u],[]⟩ [("_law_script",u)]
 c_LAST_WRITTEN:mg "LAST_WRITTEN"=some t.u_LAST_WRITTEN
 r_LAST_WRITTEN:ax (.int 99999) t.u_LAST_WRITTEN
 c_NoPaper:mg "NoPaper"=some (.ref t.u_NoPaper)
 c_LONGEST_NAME:mg "LONGEST_NAME"=some t.u_LONGEST_NAME
 r_LONGEST_NAME:ax (.int 8) t.u_LONGEST_NAME
 c_LETTERS:mg "LETTERS"=some t.u_LETTERS
 r_LETTERS:ax (.str "abcdefghijklmnopqrstuvwxyz") t.u_LETTERS
 c_MOST_MANY:mg "MOST_MANY"=some t.u_MOST_MANY
 r_MOST_MANY:ax (.int 999) t.u_MOST_MANY
 c_UNITS:mg "UNITS"=some t.u_UNITS
 e_UNITS:∃a,t.u_UNITS= .ref a/\∀H,bg K H a [V.str "days",V.str "months",V.str "years"]
 c_MOST_MAKERS:mg "MOST_MAKERS"=some t.u_MOST_MAKERS
 r_MOST_MAKERS:ax (.int 4) t.u_MOST_MAKERS
 n_abs:mg "abs"=none
 n_all:mg "all"=none
 n_any:mg "any"=none
 n_bool:mg "bool"=none
 n_dict:mg "dict"=none
 n_divmod:mg "divmod"=none
 n_int:mg "int"=none
 n_isinstance:mg "isinstance"=none
 n_len:mg "len"=none
 n_list:mg "list"=none
 n_max:mg "max"=none
 n_range:mg "range"=none
 n_sorted:mg "sorted"=none
 n_str:mg "str"=none
 n_sum:mg "sum"=none
 n_tuple:mg "tuple"=none
theorem Fv:aY ["thing"] ["thing"] (aD oE):= .of
theorem Fw:aY ["thing"] ["thing"] (aD oF):= .of
theorem Fx:aY ["deed"] ["deed"] (aD oG):= .of
theorem Fy:aY ["deeds"] ["deeds"] (aD lR):= .of
theorem wD:aY ["deeds","paper","deed"] ["deeds","paper"] (aD oH):= .of
theorem Fz:aY ["deeds"] ["deeds"] (aD lS):= .of
theorem wF:aY ["deeds","coming","named"] ["deeds","coming"] (aD kj):= .of
theorem FA:aY ["deeds","paper"] ["deeds","paper"] (aD lT):= .of
theorem FC:aY ["thing","length"] ["thing","length"] (aD oI):= .of
theorem FD:aY ["thing"] ["thing"] (aD lU):= .of
theorem FF:aY ["thing"] ["thing"] (aD oJ):= .of
theorem FG:aY ["many","unit"] ["many","unit"] (aD oK):= .of
theorem wG:aY ["thing","named"] ["thing"] (aD oM):= .of
theorem FH:aY ["thing"] ["thing"] (aD km):= .of
theorem FI:aY ["thing"] ["thing"] (aD oN):= .of
theorem FJ:aY ["word","parts"] ["word","parts"] (aD oO):= .of
theorem FK:aY ["thing"] ["thing"] (aD oP):= .of
theorem pj:aY ["one","other","word","words"] ["one","other"] (aD oQ):= .of
theorem wH:aY ["deeds","place"] ["deeds"] (aD lV):= .of
theorem FL:aY ["thing"] ["thing"] (aD lW):= .of
theorem wI:aY ["deeds","paper","thing","place"] ["deeds","paper","thing"] (aD oR):= .of
theorem FN:aY ["deeds","paper","other","grounds"] ["deeds","paper","other","grounds"] (aD oT):= .of
theorem pq:aY ["claim","grounds","word","deeds"] ["claim","grounds"] (aD oU):= .of
theorem l5:aY ["_law_script","_law_k","_law_state","_law_cell_here"] ["_law_script","_law_k"] (aD oV):= .of
theorem pw:aY ["_law_cell_here","_law_digits"] ["_law_cell_here"] (aD oW):= .of
theorem pz:aY ["_law_purse_here","_law_many","_law_state","_law_digit"] ["_law_purse_here","_law_many"] (aD oX):= .of
theorem jm:aY ["_law_purse_here","_law_many","_law_letters","_law_stem","_law_at","_law_first","_law_step"] ["_law_purse_here","_law_many"] (aD kq):= .of
theorem wJ:aY ["_law_year_here","_law_month_here","_law_leap"] ["_law_year_here","_law_month_here"] (aD oY):= .of
theorem wK:aY ["_law_year_here"] ["_law_year_here"] (aD oZ):= .of
theorem FO:aY ["_law_year_here","_law_month_here","_law_number"] ["_law_year_here","_law_month_here","_law_number"] (aD lX):= .of
theorem wL:aY ["_law_purse_here","_law_far","_law_year_here","_law_month_here"] ["_law_purse_here","_law_far"] (aD pb):= .of
theorem l6:aY ["_law_purse_here","_law_word","_law_names_here","_law_kinds","_law_far","_law_kind","_law_since","_law_many"] ["_law_purse_here","_law_word","_law_names_here","_law_kinds","_law_far"] (aD pd):= .of
theorem jn:aY ["_law_purse_here","_law_word","_law_names_here","_law_kinds","_law_far","_law_day_here","_law_name","_law_some","_law_kind","_law_target"] ["_law_purse_here","_law_word","_law_names_here","_law_kinds","_law_far"] (aD lY):= .of
theorem wM:aY ["_law_one","_law_other","_law_sorts"] ["_law_one","_law_other"] (aD pf):= .of
theorem eZ:aY ["_law_script","_law_menu","_law_most","_law_head","_law_far","_law_chain","_law_names_here","_law_kinds","_law_words","_law_turn","_law_deeds_here","_law_k","_law_deed_here","_law_day_here"] ["_law_script","_law_menu","_law_most"] (aD lZ):= .of
theorem ku:aY ["_law_deeds_here","_law_rows","_law_web_here","_law_name","_law_some"] ["_law_deeds_here"] (aD jl):= .of
theorem l8:aY ["_law_web_here","_law_name","_law_other","_law_ways_here","_law_todo","_law_one","_law_maker"] ["_law_web_here","_law_name","_law_other"] (aD pg):= .of
theorem FP:aY ["_law_web_here","_law_name","_law_other","_law_way_here"] ["_law_web_here","_law_name","_law_other","_law_way_here"] (aD kr):= .of
theorem kx:aY ["_law_purse_here","_law_names_here","_law_name","_law_other","_law_way_here","_law_at","_law_odd","_law_some"] ["_law_purse_here","_law_names_here","_law_name","_law_other","_law_way_here"] (aD l3):= .of
theorem kA:aY ["_law_purse_here","_law_deeds_here","_law_names_here","_law_name","_law_other","_law_web_here","_law_way_here","_law_found"] ["_law_purse_here","_law_deeds_here","_law_names_here","_law_name","_law_other"] (aD ph):= .of
theorem fQ:aY ["_law_script","_law_menu","_law_deeds_here","_law_names_here","_law_far","_law_purse_here","_law_web_here","_law_name","_law_above","_law_other"] ["_law_script"] (aD l4):= .of
theorem wN{α:Type}{us:List α}(h:us.length=1):∃a,us=[a]:=List.length_eq_one_iff.mp h
theorem wO{α:Type}{us:List α}(h0:us.length=2):∃a b,us=[a,b]:=by
 cases us with
 | nil=>cases h0
 | cons a us=>
  obtain⟨b,z0⟩:=wN (us:=us) (LK h0);exact⟨a,b,by rw [z0]⟩
theorem wQ{α:Type}{us:List α}(h0:us.length=3):∃a b c,us=[a,b,c]:=by
 cases us with
 | nil=>cases h0
 | cons a us=>
  obtain⟨b,c,z0⟩:=wO (us:=us) (LK h0);exact⟨a,b,c,by rw [z0]⟩
theorem wR{α:Type}{us:List α}(h0:us.length=4):∃a b c d,us=[a,b,c,d]:=by
 cases us with
 | nil=>cases h0
 | cons a us=>
  obtain⟨b,c,d,z0⟩:=wQ (us:=us) (LK h0);exact⟨a,b,c,d,by rw [z0]⟩
theorem FQ{α:Type}{us:List α}(h0:us.length=5):∃a b c d p,us=[a,b,c,d,p]:=by
 cases us with
 | nil=>cases h0
 | cons a us=>
  obtain⟨b,c,d,p,z0⟩:=wR (us:=us) (LK h0);exact⟨a,b,c,d,p,by rw [z0]⟩
local macro_rules | `(tactic| walk_at "b")=>`(tactic| (intro _ _ _ _ _ _ us hl;first | (cases ls0 (us:=us) hl;rfl) | (obtain⟨a,e⟩:=wN (us:=us) hl;subst e;rfl) | (obtain⟨a,b,e⟩:=wO (us:=us) hl;subst e;rfl) | (obtain⟨a,b,c,e⟩:=wQ (us:=us) hl;subst e;rfl) | (obtain⟨a,b,c,d,e⟩:=wR (us:=us) hl;subst e;rfl) | (obtain⟨a,b,c,d,p,e⟩:=FQ (us:=us) hl;subst e;rfl)))
theorem txt_mk{K:Hx}{h:NZ}{mg:Str->Option NJ}(X:K.In h)(G:h.Ns NW mg)
 {f0 f1 f2 f3 f4 f5 f6 f7 f8 f9 f10 f11 f12 f13 f14 f15 f16 f17 f18 f19 f20 f21 f22 f23 f24 f25 f26 f27 f28 f29 f30 f31 f32 f33 f34 f35 f36 f37 f38 f39 f40:NK}{e0 e1 e2 e3 e4 e5 e6 e7 e8 e9 e10 e11 e12 e13 e14 e15 e16 e17 e18 e19 e20 e21 e22 e23 e24 e25 e26 e27 e28 e29 e30 e31 e32 e33 e34 e35 e36 e37 e38 e39 e40:NU}
 {u_NoPaper:NK}
 {u_LAST_WRITTEN u_LONGEST_NAME u_LETTERS u_MOST_MANY u_MOST_MAKERS:NJ}
 {A_UNITS:NK}{dd_UNITS:Option NK}{its_UNITS:Array NJ}{n_UNITS:Nat}{sl_UNITS:Array (Option NJ)}
 (a0:DfT K "is_whole" oE f0 e0)
 (a1:DfT K "is_day" oF f1 e1)
 (a2:DfT K "place_of" oG f2 e2)
 (a3:DfT K "comings" lR f3 e3)
 (a4:DfT K "coming_of" oH f4 e4)
 (a5:DfT K "papers" lS f5 e5)
 (a6:DfT K "maker_comings" kj f6 e6)
 (a7:DfT K "makers" lT f7 e7)
 (a8:DfT K "is_tuple_of" oI f8 e8)
 (a9:DfT K "is_name" lU f9 e9)
 (a10:DfT K "is_since" oJ f10 e10)
 (a11:DfT K "is_span" oK f11 e11)
 (a12:DfT K "is_rule" oM f12 e12)
 (a13:DfT K "is_makers" km f13 e13)
 (a14:DfT K "is_target" oN f14 e14)
 (a15:DfT K "are_parts" oO f15 e15)
 (a16:DfT K "is_deed" oP f16 e16)
 (a17:DfT K "quarrel" oQ f17 e17)
 (a18:DfT K "go_together" lV f18 e18)
 (a19:DfT K "are_deeds" lW f19 e19)
 (a20:DfT K "is_way" oR f20 e20)
 (a21:DfT K "is_made" oT f21 e21)
 (a22:DfT K "holds" oU f22 e22)
 (a23:DfT K "_law_cell" oV f23 e23)
 (a24:DfT K "_law_purse" oW f24 e24)
 (a25:DfT K "_law_take" oX f25 e25)
 (a26:DfT K "_law_names" kq f26 e26)
 (a27:DfT K "_law_month" oY f27 e27)
 (a28:DfT K "_law_year" oZ f28 e28)
 (a29:DfT K "_law_day" lX f29 e29)
 (a30:DfT K "_law_drawn_day" pb f30 e30)
 (a31:DfT K "_law_parts" pd f31 e31)
 (a32:DfT K "_law_deed" lY f32 e32)
 (a33:DfT K "_law_quarrels" pf f33 e33)
 (a34:DfT K "_law_deeds" lZ f34 e34)
 (a35:DfT K "_law_web" jl f35 e35)
 (a36:DfT K "_law_way" pg f36 e36)
 (a37:DfT K "_law_due" kr f37 e37)
 (a38:DfT K "_law_ways" l3 f38 e38)
 (a39:DfT K "_law_right" ph f39 e39)
 (a40:DfT K "law" l4 f40 e40)
 (x_LAST_WRITTEN:Iz K NW "LAST_WRITTEN"=some (some u_LAST_WRITTEN))(r_LAST_WRITTEN:ax (.int 99999) u_LAST_WRITTEN)
 (x_NoPaper:Iz K NW "NoPaper"=some (some (.ref u_NoPaper)))
 (x_LONGEST_NAME:Iz K NW "LONGEST_NAME"=some (some u_LONGEST_NAME))(r_LONGEST_NAME:ax (.int 8) u_LONGEST_NAME)
 (x_LETTERS:Iz K NW "LETTERS"=some (some u_LETTERS))(r_LETTERS:ax (.str "abcdefghijklmnopqrstuvwxyz") u_LETTERS)
 (x_MOST_MANY:Iz K NW "MOST_MANY"=some (some u_MOST_MANY))(r_MOST_MANY:ax (.int 999) u_MOST_MANY)
 (x_UNITS:Iz K NW "UNITS"=some (some (.ref A_UNITS)))(y_UNITS:K.lookup A_UNITS=some ⟨.type "tuple",dd_UNITS,.seq its_UNITS n_UNITS,sl_UNITS⟩)(z_UNITS:az [V.str "days",V.str "months",V.str "years"] its_UNITS.toList)(w_UNITS:its_UNITS.size<=NO)
 (x_MOST_MAKERS:Iz K NW "MOST_MAKERS"=some (some u_MOST_MAKERS))(r_MOST_MAKERS:ax (.int 4) u_MOST_MAKERS)
 (n_abs:Iz K NW "abs"=some none)
 (n_all:Iz K NW "all"=some none)
 (n_any:Iz K NW "any"=some none)
 (n_bool:Iz K NW "bool"=some none)
 (n_dict:Iz K NW "dict"=some none)
 (n_divmod:Iz K NW "divmod"=some none)
 (n_int:Iz K NW "int"=some none)
 (n_isinstance:Iz K NW "isinstance"=some none)
 (n_len:Iz K NW "len"=some none)
 (n_list:Iz K NW "list"=some none)
 (n_max:Iz K NW "max"=some none)
 (n_range:Iz K NW "range"=some none)
 (n_sorted:Iz K NW "sorted"=some none)
 (n_str:Iz K NW "str"=some none)
 (n_sum:Iz K NW "sum"=some none)
 (n_tuple:Iz K NW "tuple"=some none):∃t:cI,Txt K mg t:=by
 refine⟨⟨f0,e0,f1,e1,f2,e2,f3,e3,f4,e4,f5,e5,f6,e6,f7,e7,f8,e8,f9,e9,f10,e10,f11,e11,f12,e12,f13,e13,f14,e14,f15,e15,f16,e16,f17,e17,f18,e18,f19,e19,f20,e20,f21,e21,f22,e22,f23,e23,f24,e24,f25,e25,f26,e26,f27,e27,f28,e28,f29,e29,f30,e30,f31,e31,f32,e32,f33,e33,f34,e34,f35,e35,f36,e36,f37,e37,f38,e38,f39,e39,f40,e40,u_LAST_WRITTEN,u_NoPaper,u_LONGEST_NAME,u_LETTERS,u_MOST_MANY,.ref A_UNITS,u_MOST_MAKERS⟩,?_⟩;have bl:∀(s:NL)(u:NJ),BindsTo s e40 ⟨[u],[]⟩ [("_law_script",u)]:=λs v=>by
  obtain⟨oc,od,kV,doc,pm,an,cdv,ct,osl,rfl,_⟩:=a40.F.ex;exact .of_eq rfl
 exact⟨a0.fn X G,a1.fn X G,a2.fn X G,a3.fn X G,a4.fn X G,a5.fn X G,a6.fn X G,a7.fn X G,a8.fn X G,a9.fn X G,a10.fn X G,a11.fn X G,a12.fn X G,a13.fn X G,a14.fn X G,a15.fn X G,a16.fn X G,a17.fn X G,a18.fn X G,a19.fn X G,a20.fn X G,a21.fn X G,a22.fn X G,a23.fn X G,a24.fn X G,a25.fn X G,a26.fn X G,a27.fn X G,a28.fn X G,a29.fn X G,a30.fn X G,a31.fn X G,a32.fn X G,a33.fn X G,a34.fn X G,a35.fn X G,a36.fn X G,a37.fn X G,a38.fn X G,a39.fn X G,a40.fn X G,bl,JT X G x_LAST_WRITTEN,r_LAST_WRITTEN,JT X G x_NoPaper,JT X G x_LONGEST_NAME,r_LONGEST_NAME,JT X G x_LETTERS,r_LETTERS,JT X G x_MOST_MANY,r_MOST_MANY,JT X G x_UNITS,⟨A_UNITS,rfl,λH=>.inr ⟨_,_,_,y_UNITS,rfl,rfl,w_UNITS,z_UNITS⟩⟩,JT X G x_MOST_MAKERS,r_MOST_MAKERS,IA X G n_abs,IA X G n_all,IA X G n_any,IA X G n_bool,IA X G n_dict,IA X G n_divmod,IA X G n_int,IA X G n_isinstance,IA X G n_len,IA X G n_list,IA X G n_max,IA X G n_range,IA X G n_sorted,IA X G n_str,IA X G n_sum,IA X G n_tuple⟩
local macro_rules | `(tactic| walk_at "o")=>`(tactic| first | exact L4 rfl | exact K2 rfl)
theorem NG{p:Prop}(h:p:=by walk_at "o"):p:=h
local macro_rules | `(tactic| walk_at "a") =>do let a <- rzT "ie HF Jq HN Jt Mj Mk Ia KW Jx"; let b <- rzT "↓Eh ↓Ei ↓Ej ↓Ek ↓DP ↓DQ ↓E8 ↓E9 ↓Fb ↓Fc ↓Fd ↓Fe ↓DR ↓DU ↓DV ↓DW ↓DX ↓DY ↓DZ ↓D1 ↓D2 ↓D3 ↓D4 ↓D5 ↓D6 ↓D7 ↓D8 ↓D9 ↓Ea ↓Eb ↓Ec rT rV rX rW nA rY sa sq su rG dC gc dI sL sO sP sQ sR tu tm sT sS dL nB rJ k9 iW gG rL rM rN rO rP rQ lh jL sW tD nS sU sV sX sY sZ tf tj nI tF tG tH i5 sA sC sF sG sH sI uk uR uS uT DK uf ug ui uj uD uG uw t8 t9 uV uY uX uZ u7 va j6 vc vd vg j7 vG vH vA vD vI vK vL vT vV vW vX lQ wc v8 Dw Dx ne_eq C9 Dc Dd Df Dg C7 C8 lz lA sJ nE sj sh sg gH ie dj kN mO jE HF Jq HN Jt Ia KW Jx JH Mj Mk Nc Nd Nf LU J6 My Ms Mt Lv exists_eq_left' exists_eq_left exists_and_left exists_and_right MK ML Sl.v.injEq Sl.o.injEq Sl.k.injEq LL Ny J3 Lf Nz Jv and_true true_and Ng Nat.reduceLeDiff exists_const decide_eq_true_eq Nh Ni M4 M5 Lu decide_eq_false_iff_not and_assoc or_true true_or ↓reduceIte if_true if_false Ka Bool.true_eq_false not_true_eq_false not_false_eq_true Bool.not_true Bool.not_false ite_true ite_false eq_self exists_eq reduceCtorEq false_and and_false or_false false_or exists_false Option.map_some Option.map_none k7 Ll List.all_nil JK Nj Jg Lk IK JS cR cZ jR lC nL jS lE beq_self_eq_true fJ nM tI bJ sizeLine_eq"; `(tactic| ((try $a:tactic); $b:tactic))
theorem wU:bu (aD lU) ["thing"] ["sign"] 1 [] ⟨HS,[ (Hz ".0",O5),(Hz "sign",O5),(Hz "LETTERS",Ib)],false,false,[]⟩:= .of
theorem wV:bu (aD km) ["thing"] ["name"] 1 [] ⟨HS,[ (Hz ".0",O5),(Hz "name",O5),(Hz "is_name",Ib)],false,false,[]⟩:= .of
theorem wX:bu (aD km) ["thing"] ["place","thing"] 1 [0] ⟨HS,[ (Hz ".0",O5),(Hz "place",O5),(Hz "thing",HY)],false,false,[]⟩:= .of
section
variable {P:NV} {w:NX} {K:Hx} {mg:Str->Option NJ} {base:NZ} {t:cI}
def FT:List NI->(NI->Prop)->Prop:=λds Q=>∃d,ds=[d]/\thg d=true/\Q (.bool (ja d))
theorem wY(T:Txt K mg t):aO P w K mg base CX0 1 t.a_A t.d_A ["thing"] (aT K FT):=by
 refine T.F_A.F.okD Fv (λds Q h=>?_) (λ_ _ _ _ H O ds Q E hr h=>?_)
 ·obtain⟨d,rfl,_⟩:=h;rfl
 ·obtain⟨d,rfl,hd,q⟩:=h;refine⟨_,(au (aA (cg (el (K':=K) (T:="int") rfl rfl T.n_isinstance d5 (df (dv 0)) (d3 (v:= .ty "int") rfl T.n_int k6 rfl)) (cF (BR (el (K':=K) (T:="bool") rfl rfl T.n_isinstance d5 (df (dv 0)) (d3 (v:= .ty "bool") rfl T.n_bool nv rfl))))))),?_⟩;walk_at "a";simp only [C4,n4];walk_at "a";refine⟨gr hd,?_⟩;cases d <;> simp [uH,jY,ja] at q⊢<;> exact q
def FU:List NI->(NI->Prop)->Prop:=λds Q=>∃d,ds=[d]/\thg d=true/\Q (.bool (gu d))
theorem FV(T:Txt K mg t):aO P w K mg base CX0 2 t.a_B t.d_B ["thing"] (aT K FU):=by
 have G_A:=@wY P w _ _ base _ T;refine T.F_B.F.okD Fw (λds Q h=>?_) (λ_ _ _ _ H O ds Q E hr h=>?_)
 ·obtain⟨d,rfl,_⟩:=h;rfl
 ·obtain⟨d,rfl,hd,q⟩:=h;refine⟨_,(au (aA (cg (aq G_A hr T.F_A (aa (dv 0) ag)) (cF (rS iL iL dm dm (df af) (df (dv 0)) (df (dc (iH rfl T.c_LAST_WRITTEN T.r_LAST_WRITTEN) (λ_ _=>.int _)))))))),?_⟩;walk_at "a";refine⟨d,rfl,hd,?_⟩;cases d with
  | int i=>
   walk_at "a";simp only [ja,gu] at q⊢;by_cases h0:0<=i
   ·rw [NF h0];simpa [h0] using q
   ·rw [ND h0];simpa [h0] using q
  | _=>exact⟨_,rfl,by simpa [ja,gu] using q⟩
def l9:List NI->(NI->Prop)->Prop:=λds Q=>∃d,∃n:Int,ds=[d,.int n]/\thg d=true/\Q (.bool (cP d n))
theorem pA(T:Txt K mg t):aO P w K mg base CX0 1 t.a_I t.d_I ["thing","length"] (aT K l9):=by
 refine T.F_I.F.okD FC (λds Q h=>?_) (λ_ _ _ _ H O ds Q E hr h=>?_)
 ·obtain⟨d,n,rfl,_⟩:=h;rfl
 ·obtain⟨d,n,rfl,hd,q⟩:=h;refine⟨_,(au (aA (cg (el (K':=K) (T:="tuple") rfl rfl T.n_isinstance d5 (df (dv 0)) (d3 (v:= .ty "tuple") rfl T.n_tuple eI rfl)) (cF (bS (bM hr.units) bN (df (PE.imp (aS bI rfl T.n_len HW (aH (dv 0) aG)) (aP bO))) (df (dv 1)) (aC _)))))),?_⟩;walk_at "a";simp only [ij];walk_at "a";refine⟨gr hd,?_⟩;cases d with
  | tuple l=>simp only [eN];walk_at "a";exact q
  | _=>simpa [eN,cP] using q
def iu:List NI->(NI->Prop)->Prop:=λds Q=>∃d,ds=[d]/\thg d=true/\Q (.bool (bY d))
theorem jo(T:Txt K mg t):aO P w K mg base CX0 1 t.a_J t.d_J ["thing"] (aT K iu):=by
 refine T.F_J.F.okD FD (λds Q h=>?_) (λ_ _ _ _ H O ds Q E hr h=>?_)
 ·obtain⟨d,rfl,_⟩:=h;rfl
 ·obtain⟨d,rfl,hd,q⟩:=h;refine⟨_,(av (aW (PW.pt (d7 (dM (cE (el (K':=K) (T:="str") rfl rfl T.n_isinstance d5 (df (dv 0)) (d3 (v:= .ty "str") rfl T.n_str rp rfl)))) (fG (dM (BS iL iL dm dm (df af) (df (PE.imp (aS qX rfl T.n_len HW (aH (dv 0) aG)) (aP uh))) (df (dc (iH rfl T.c_LONGEST_NAME T.r_LONGEST_NAME) (λ_ _=>.int _)))))))) (au (aA bW)) aV)
   (au (aA (PE.imp (aS (iT rfl) rfl T.n_all iU (aH (fe (CO rfl wU (df (dv 0)) bw cw NB (λ_ _ _ _=>(bq (i:=0) wU.nd rfl NG)) (λ_ _ _ _=>dO) (λ_ _ _ _=>(bS Am CQ (df (dv 0)) (df (dc (iH rfl T.c_LETTERS T.r_LETTERS) (λ_ _=>.str _))) rfl)))) aG)) (aP gI))))),?_⟩
  walk_at "a";simp only [uI];walk_at "a";refine⟨gr hd,?_⟩;cases d with
  | str z=>
   have hz:=C6 hd;simp only [lK];walk_at "a";refine⟨NC,?_⟩;simp only [bY] at q;split
   ·rename_i h1;split
    ·rename_i h2;rw [decide_eq_false (p:=z.length<=8) NC] at q;simpa using q
    ·rename_i h2;rw [decide_eq_true (p:=1<=z.length) NC,decide_eq_true (p:=z.length<=8) NC] at q;refine⟨NC,n5 (p:=λb=>Q (.bool b)) (λx=>match x with | .str y=>decide (y.cps.toList.headD 0∈cH.cps.toList) | _=>false) (λx hx R hR=>?_) ?_⟩
     ·obtain⟨c,_,rfl⟩:=HR.mp hx;walk_at "a";rw [StrLaws.found_one];exact hR
     ·unfold t7;rw [Iy,KA];exact q
   ·rename_i h1;rw [decide_eq_false (p:=1<=z.length) NC] at q;simpa using q
  | _=>simpa [lK,bY] using q
def wZ:List NI->(NI->Prop)->Prop:=λds Q=>∃d,ds=[d]/\thg d=true/\Q (.bool (dR d))
theorem FW(T:Txt K mg t):aO P w K mg base CX0 2 t.a_K t.d_K ["thing"] (aT K wZ):=by
 have G_I:=@pA P w _ _ base _ T;have G_J:=@jo P w _ _ base _ T;refine T.F_K.F.okD FF (λds Q h=>?_) (λ_ _ _ _ H O ds Q E hr h=>?_)
 ·obtain⟨d,rfl,_⟩:=h;rfl
 ·obtain⟨d,rfl,hd,q⟩:=h;refine⟨_,(av (aW (cE (aq G_I hr T.F_I (aa (dv 0) (aa af ag)))) (au (aA (bS (cA hr) cB (df (ay aE aF (dv 0) af)) (df aM) (aC _)))) aV)
   (av (aW (cE (aq G_I hr T.F_I (aa (dv 0) (aa af ag)))) (au (aA (cg (bS (fq hr) ft (df (ay aE aF (dv 0) af)) (df (bb (aa aM (aa aM ag)))) rfl) (cF (aq G_J hr T.F_J (aa (ay aE aF (dv 0) af) ag)))))) aV)
   (au (aA bW)))),?_⟩
  walk_at "a";simp only [l9];walk_at "a";refine⟨hd,?_⟩;rcases j4 d with⟨l,rfl⟩ | hn
  ·have hl:=j2 hd
   match l,hl with
   | [],_=>simpa [dR,cP,hd] using q
   | [a],hl=>
    have ha:=hl a NH;simp [dR,cP,eO ha,cR] at q⊢;exact q
   | [a,b],hl=>
    have ha:=hl a NH;have hb:=hl b NH;simp [dR,cS,cP,eO ha,hd,iu,hb,cR,cZ] at q⊢;generalize ((Hy (HD "first")).eqv a)=A at*;generalize ((Hy (HD "last")).eqv a)=B at*;cases A <;> cases B <;> simp at q⊢<;> exact q
   | _::_::_::r,_=>
    have h1:¬((r.length:Int)+1+1+1=1):=NC
    have h2:¬((r.length:Int)+1+1+1=2):=NC
    simpa [dR,cP,hd,h1,h2] using q
  ·have e:dR d=false:=by
    unfold dR;split
    ·exact absurd rfl (hn _)
    ·exact absurd rfl (hn _)
    ·rfl
   rw [e] at q;simpa [n8 hn,hd] using q
theorem FX{a:NK}(h:∀H,bg K H a [V.str "days",V.str "months",V.str "years"]):∀H O,Dt K H O (.ref a) (.tuple [.str "days",.str "months",.str "years"]):=λH O=>
 .tupK (h jK) (.cons (.str _) (.cons (.str _) (.cons (.str _) .nil)))
def w6:List NI->(NI->Prop)->Prop:=λds Q=>∃m u,ds=[m,u]/\thg m=true/\thg u=true/\Q (.bool (jb m u))
theorem FY(T:Txt K mg t):aO P w K mg base CX0 2 t.a_L t.d_L ["many","unit"] (aT K w6):=by
 have G_A:=@wY P w _ _ base _ T;obtain⟨aU,eU,hU⟩:=T.e_UNITS;have Tr_UNITS:ax (.ref aU) t.u_UNITS:=eU;have Td_UNITS:=FX hU;refine T.F_L.F.okD FG (λds Q h=>?_) (λ_ _ _ _ H O ds Q E hr h=>?_)
 ·obtain⟨d,u,rfl,_⟩:=h;rfl
 ·obtain⟨m,u,rfl,hm,hu,q⟩:=h;refine⟨_,(au (aA (cg (aq G_A hr T.F_A (aa (dv 0) ag)) (cg (rS iL iL dm dm (df af) (df (dv 0)) (df (dc (iH rfl T.c_MOST_MANY T.r_MOST_MANY) (λ_ _=>.int _)))) (cF (bS (fq hr) ft (df (dv 1)) (df (dc (iH rfl T.c_UNITS Tr_UNITS) Td_UNITS)) rfl)))))),?_⟩;walk_at "a";refine⟨m,rfl,hm,?_⟩;cases m with
  | int i=>
   walk_at "a";simp only [ja,jb,j3,cS] at q⊢;simp only [if_true];by_cases h0:0<=i
   ·rw [NF h0];by_cases h1:i<=999
    ·simp [h0,h1,eO hu] at q⊢;exact q
    ·simp [h0,h1] at q⊢;exact q
   ·simp [h0] at q⊢;exact q
  | _=>exact⟨_,rfl,by simpa [ja,jb,j3] using q⟩
def xa:List NI->(NI->Prop)->Prop:=λds Q=>∃d,ds=[d]/\thg d=true/\Q (.bool (dA d))
theorem FZ(T:Txt K mg t):aO P w K mg base CX0 3 t.a_M t.d_M ["thing"] (aT K xa):=by
 have G_I:=@pA P w _ _ base _ T;have G_J:=@jo P w _ _ base _ T;have G_K:=@FW P w _ _ base _ T;have G_L:=@FY P w _ _ base _ T;refine T.F_M.F.okD wG (λds Q h=>?_) (λ_ _ _ _ H O ds Q E hr h=>?_)
 ·obtain⟨d,rfl,_⟩:=h;rfl
 ·obtain⟨d,rfl,hd,q⟩:=h;refine⟨_,(av (aW (cE (aq G_I hr T.F_I (aa (dv 0) (aa af ag)))) (au (aA (cg (bS (fq hr) ft (df (ay aE aF (dv 0) af)) (df (bb (gM (ds:=[.str "while",.str "follow",.str "leave"]) (by rfl)))) rfl) (cF (aq G_J hr T.F_J (aa (ay aE aF (dv 0) af) ag)))))) aV)
   (av (aW (cE (aq G_I hr T.F_I (aa (dv 0) (aa af ag)))) (av (bK (i:=1) wG.nd rfl NG (cg (bS (fq hr) ft (df (ay aE aF (dv 0) af)) (df (bb (aa aM (aa aM ag)))) rfl) (cF (aq G_J hr T.F_J (aa (ay aE aF (dv 0) af) ag)))))
   (au (aA (cg (dv 1) (cg (aq G_K hr T.F_K (aa (ay aE aF (dv 0) af) ag)) (cF (aq G_L hr T.F_L (aa (ay aE aF (dv 0) af) (aa (ay aE aF (dv 0) af) ag))))))))) aV)
   (au (aA bW)))),?_⟩
  walk_at "a";simp only [l9];walk_at "a";refine⟨hd,?_⟩;rcases j4 d with⟨l,rfl⟩ | hn
  ·have hl:=j2 hd
   match l,hl with
   | [],_=>simpa [dA,cP,hd] using q
   | [a],_=>simpa [dA,cP,hd] using q
   | [_,_,_],_=>simpa [dA,cP,hd] using q
   | [_,_,_,_],_=>simpa [dA,cP,hd] using q
   | [a,b],hl=>
    have ha:=hl a NH;have hb:=hl b NH;simp [dA,cS,cP,eO ha,hd,iu,hb,cR,cZ] at q⊢;generalize ((Hy (HD "while")).eqv a)=A at*;generalize ((Hy (HD "follow")).eqv a)=B at*;generalize ((Hy (HD "leave")).eqv a)=C at*;cases A <;> cases B <;> cases C <;> simp at q⊢<;> exact q
   | [a,b,c,d,e],hl=>
    have ha:=hl a NH;have hb:=hl b NH;have hc:=hl c NH;have hd':=hl d NH;have he:=hl e NH;simp [dA,cS,cP,eO ha,hd,iu,wZ,w6,hb,hc,hd',he,cR,cZ,jR,lC,nL] at q⊢;generalize ((Hy (HD "keep")).eqv a)=A at*;generalize ((Hy (HD "gone")).eqv a)=B at*;generalize bY b=C at*;generalize dR c=D at*;cases A <;> cases B <;> cases C <;> cases D <;> simp at q⊢<;> first | exact q | exact⟨_,_,⟨rfl,rfl⟩,hd',he,q⟩
   | _::_::_::_::_::_::r,_=>
    have h1:¬((r.length:Int)+1+1+1+1+1+1=2):=NC
    have h2:¬((r.length:Int)+1+1+1+1+1+1=5):=NC
    simpa [dA,cP,hd,h1,h2] using q
  ·have e:dA d=false:=by
    unfold dA;split
    ·exact absurd rfl (hn _)
    ·exact absurd rfl (hn _)
    ·rfl
   rw [e] at q;simpa [n8 hn,hd] using q
def xb:List NI->(NI->Prop)->Prop:=λds Q=>∃d,ds=[d]/\thg d=true/\Q (.bool (gO d))
theorem F0(T:Txt K mg t):aO P w K mg base CX0 2 t.a_N t.d_N ["thing"] (aT K xb):=by
 have G_J:=@jo P w _ _ base _ T;refine T.F_N.F.okD FH (λds Q h=>?_) (λ_ _ _ _ H O ds Q E hr h=>?_)
 ·obtain⟨d,rfl,_⟩:=h;rfl
 ·obtain⟨d,rfl,hd,q⟩:=h;refine⟨_,(av (aW (PW.pt (d7 (dM (cE (el (K':=K) (T:="tuple") rfl rfl T.n_isinstance d5 (df (dv 0)) (d3 (v:= .ty "tuple") rfl T.n_tuple eI rfl)))) (fG (aL jG dm (PE.imp (aS bI rfl T.n_len HW (aH (dv 0) aG)) (aP bO)) (dc (iH rfl T.c_MOST_MAKERS T.r_MOST_MAKERS) (λ_ _=>.int _)) (aC _))))) (au (aA bW)) aV)
   (av (aW (dM (cE (PE.imp (aS (iT rfl) rfl T.n_all iU (aH (fe (i6 rfl wV (df (dv 0)) bw cw NB (λ_ _ _ _=>(bq (i:=0) wV.nd rfl NG)) (λ_ _ _ _=>dO) (λ_ _ _ _=>(aq G_J hr T.F_J (aa (dv 0) ag))))) aG)) (aP gI)))) (au (aA bW)) aV)
   (au (aA (PE.imp (aS (iT rfl) rfl T.n_all iU (aH (fe (ua rfl wX rfl T.n_range (aH af (aH (PE.imp (aS bI rfl T.n_len HW (aH (dv 0) aG)) (aP bO)) aG)) bw cw NB (λ_ _ _ _=>(bq (i:=0) wX.nd rfl NG)) (λ_ _ _ _=>dO) (λ_ _ _ _=>(bS Al CP (df (ay aE aF (dv 1) (aK eF bC (dv 0) af))) (df (ay aE aF (dv 1) (dv 0))) (aC _))))) aG)) (aP gI)))))),?_⟩
  walk_at "a";simp only [ij];walk_at "a";refine⟨gr hd,?_⟩;rcases j4 d with⟨l,rfl⟩ | hn
  ·have hl:=j2 hd;simp only [eN];walk_at "a";simp only [gO] at q;split
   ·rename_i h4;rw [decide_eq_false (p:=l.length<=4) NC] at q;simpa using q
   ·rename_i h4;rw [decide_eq_true (p:=l.length<=4) NC] at q;refine⟨NC,n5 (p:=λb=>if b=false then Q (.bool false) else _) bY (λx hx R hR=>?_) ?_⟩
    ·walk_at "a";exact⟨x,rfl,hl x hx,hR⟩
    ·have ea:(l.map bY).all id=l.all bY:=by rw [KA];rfl
     rw [ea];split
     ·rename_i h5;rw [h5] at q;simpa using q
     ·rename_i h5;rw [Mz] at h5;rw [h5] at q;refine⟨by have:((16777216:Nat):Int)=16777216:=rfl;omega,NC,NC,n5 (p:=λb=>Q (.bool b)) (λx=>match x with | .int p=>lL (l.getD (p - 1).toNat .none) (l.getD p.toNat .none) | _=>false) (λx hx R hR=>?_) ?_⟩
      ·obtain⟨i,hi,rfl⟩:=HR.mp hx;have hi':=JL.mp hi;have l1:i < l.length:=NC
       have l2:i+1 < l.length:=NC
       have n1:bY l[i]=true:=Ja.mp h5 _ (IP l1);have n2:bY l[i+1]=true:=Ja.mp h5 _ (IP l2);obtain⟨z1,e1,_⟩:=gQ n1;obtain⟨z2,e2,_⟩:=gQ n2;have a1:(1:Int)+(i:Int) - 1=((i:Nat):Int):=NC
       have a2:(1:Int)+(i:Int)=((i+1:Nat):Int):=NC
       simp only [a1] at hR;rw [a2] at hR;simp only [JV,Iq,HL l1,HL l2,Option.getD_some,e1,e2,lL] at hR;walk_at "a";rw [a1,a2];exact⟨_,cQ (by rw [HL l1,e1]),_,cQ (by rw [HL l2,e2]),z1,rfl,z2,rfl,hR⟩
      ·simp only [IK] at q
       match l,h4,q with
       | [],_,q=>simpa [fu,dN] using q
       | [a],_,q=>simpa [fu,dN] using q
       | [a,b],_,q=>simpa [fu,dN,JO] using q
       | [a,b,c],_,q=>simpa [fu,dN,JO] using q
       | [a,b,c,d],_,q=>simpa [fu,dN,JO] using q
       | _::_::_::_::_::r,h4,_=>simp only [HN] at h4;omega
  ·rw [uK hn];have e:gO d=false:=by
    unfold gO;split
    ·exact absurd rfl (hn _)
    ·rfl
   rw [e] at q;simpa using q
def xc:List NI->(NI->Prop)->Prop:=λds Q=>∃d,ds=[d]/\thg d=true/\Q (.bool (eQ d))
theorem F1(T:Txt K mg t):aO P w K mg base CX0 2 t.a_O t.d_O ["thing"] (aT K xc):=by
 have G_I:=@pA P w _ _ base _ T;have G_J:=@jo P w _ _ base _ T;refine T.F_O.F.okD FI (λds Q h=>?_) (λ_ _ _ _ H O ds Q E hr h=>?_)
 ·obtain⟨d,rfl,_⟩:=h;rfl
 ·obtain⟨d,rfl,hd,q⟩:=h;refine⟨_,(au (aA (cg (aq G_I hr T.F_I (aa (dv 0) (aa af ag))) (cg (bS (fq hr) ft (df (ay aE aF (dv 0) af)) (df (bb (aa aM (aa aM ag)))) rfl) (cF (aq G_J hr T.F_J (aa (ay aE aF (dv 0) af) ag))))))),?_⟩;walk_at "a";simp only [l9];walk_at "a";refine⟨hd,?_⟩;rcases j4 d with⟨l,rfl⟩ | hn
  ·have hl:=j2 hd
   match l,hl with
   | [],_=>simpa [eQ,cP] using q
   | [a],_=>simpa [eQ,cP] using q
   | [a,b],hl=>
    have ha:=hl a NH;have hb:=hl b NH;simp [eQ,cS,cP,eO ha,iu,hb,cR,cZ] at q⊢;generalize ((Hy (HD "paper")).eqv a)=A at*;generalize ((Hy (HD "kind")).eqv a)=B at*;cases A <;> cases B <;> simp at q⊢<;> exact q
   | _::_::_::r,_=>
    have h2:¬((r.length:Int)+1+1+1=2):=NC
    simpa [eQ,cP,h2] using q
  ·have e:eQ d=false:=by
    unfold eQ;split
    ·exact absurd rfl (hn _)
    ·rfl
   rw [e] at q;simpa [n8 hn] using q
def F2:List NI->(NI->Prop)->Prop:=λds Q=>∃d ps,ds=[d,.tuple ps]/\thg d=true/\(∀p∈ps,thg p=true)/\Q (.bool (gP d ps))
theorem F3(T:Txt K mg t):aO P w K mg base CX0 4 t.a_P t.d_P ["word","parts"] (aT K F2):=by
 have G_J:=@jo P w _ _ base _ T;have G_M:=@FZ P w _ _ base _ T;have G_N:=@F0 P w _ _ base _ T;have G_O:=@F1 P w _ _ base _ T;refine T.F_P.F.okD FJ (λds Q h=>?_) (λ_ _ _ _ H O ds Q E hr h=>?_)
 ·obtain⟨d,ps,rfl,_⟩:=h;rfl
 ·obtain⟨d,ps,rfl,hd,hp,q⟩:=h;refine⟨_,(av (aW (aL (fq hr) ft (dv 0) (bb (aa aM (aa aM ag))) rfl) (au (aA (bS (bM hr.units) bN (df (PE.imp (aS bI rfl T.n_len HW (aH (dv 1) aG)) (aP bO))) (df af) (aC _)))) aV)
   (av (aW (aL (fq hr) ft (dv 0) (bb (aa aM (aa aM ag))) rfl) (au (aA (cg (bS (bM hr.units) bN (df (PE.imp (aS bI rfl T.n_len HW (aH (dv 1) aG)) (aP bO))) (df af) (aC _)) (cF (aq G_J hr T.F_J (aa (ay aE aF (dv 1) af) ag)))))) aV)
   (av (aW (aL (cA hr) cB (dv 0) aM (aC _)) (au (aA (cg (bS (bM hr.units) bN (df (PE.imp (aS bI rfl T.n_len HW (aH (dv 1) aG)) (aP bO))) (df af) (aC _)) (cF (aq G_M hr T.F_M (aa (ay aE aF (dv 1) af) ag)))))) aV)
   (av (aW (aL (cA hr) cB (dv 0) aM (aC _)) (au (aA (cg (bS (bM hr.units) bN (df (PE.imp (aS bI rfl T.n_len HW (aH (dv 1) aG)) (aP bO))) (df af) (aC _)) (cg (aq G_J hr T.F_J (aa (ay aE aF (dv 1) af) ag)) (cF (aq G_N hr T.F_N (aa (ay aE aF (dv 1) af) ag))))))) aV)
   (av (aW (aL (cA hr) cB (dv 0) aM (aC _)) (au (aA (cg (bS (bM hr.units) bN (df (PE.imp (aS bI rfl T.n_len HW (aH (dv 1) aG)) (aP bO))) (df af) (aC _)) (cg (aq G_O hr T.F_O (aa (ay aE aF (dv 1) af) ag)) (cF (el (K':=K) (T:="bool") rfl rfl T.n_isinstance d5 (df (ay aE aF (dv 1) af)) (d3 (v:= .ty "bool") rfl T.n_bool nv rfl))))))) aV)
   (au (aA bW))))))),?_⟩
  walk_at "a";simp only [eO hd,n4];walk_at "a";simp only [gP,cS,JK,Nj,Lk] at q;split
  ·rename_i h;rw [NF h] at q
   match ps with
   | []=>simpa using q
   | _::r=>
    have h1:(((r.length+1:Nat):Int)==0)=false:=by rw [beq_eq_false_iff_ne];omega
    rw [HN,h1];simpa using q
  rename_i h;rw [ND h] at q;clear h;split
  ·rename_i h;rw [NF h] at q
   match ps,hp with
   | [],_=>simpa using q
   | [a],hp=>have ha:=hp a NH;simpa [cR,iu,ha] using q
   | _::_::r,_=>
    have h1:¬((r.length:Int)+1+1=1):=NC
    simpa [h1] using q
  rename_i h;rw [ND h] at q;clear h;split
  ·rename_i h;rw [NF h] at q
   match ps,hp with
   | [],_=>simpa using q
   | [a],hp=>have ha:=hp a NH;simpa [cR,xa,ha] using q
   | _::_::r,_=>
    have h1:¬((r.length:Int)+1+1=1):=NC
    simpa [h1] using q
  rename_i h;rw [ND h] at q;clear h;split
  ·rename_i h;rw [NF h] at q
   match ps,hp with
   | [],_=>simpa using q
   | [a],_=>simpa using q
   | [a,b],hp=>
    have ha:=hp a NH;have hb:=hp b NH;simp [cR,cZ,iu,xb,ha,hb] at q⊢;generalize bY a=A at*;cases A <;> simp at q⊢<;> exact q
   | _::_::_::r,_=>
    have h1:¬((r.length:Int)+1+1+1=2):=NC
    simpa [h1] using q
  rename_i h;rw [ND h] at q;clear h;split
  ·rename_i h;rw [NF h] at q
   match ps,hp with
   | [],_=>simpa using q
   | [a],_=>simpa using q
   | [a,b],hp=>
    have ha:=hp a NH;have hb:=gr (hp b NH);simp [cR,cZ,xc,ha] at q⊢;generalize eQ a=A at*;cases A <;> simp at q⊢<;> first | exact q | exact⟨hb,q⟩
   | _::_::_::r,_=>
    have h1:¬((r.length:Int)+1+1+1=2):=NC
    simpa [h1] using q
  ·rename_i h;rw [ND h] at q;exact q
def F4:List NI->(NI->Prop)->Prop:=λds Q=>∃d,ds=[d]/\thg d=true/\Q (.bool (eg d))
theorem F5(T:Txt K mg t):aO P w K mg base CX0 5 t.a_Q t.d_Q ["thing"] (aT K F4):=by
 have G_J:=@jo P w _ _ base _ T;have G_B:=@FV P w _ _ base _ T;have G_P:=@F3 P w _ _ base _ T;refine T.F_Q.F.okD FK (λds Q h=>?_) (λ_ _ _ _ H O ds Q E hr h=>?_)
 ·obtain⟨d,rfl,_⟩:=h;rfl
 ·obtain⟨d,rfl,hd,q⟩:=h;refine⟨_,(av (aW (PW.pt (d7 (dM (cE (el (K':=K) (T:="tuple") rfl rfl T.n_isinstance d5 (df (dv 0)) (d3 (v:= .ty "tuple") rfl T.n_tuple eI rfl)))) (fG (aL iK dm (PE.imp (aS bI rfl T.n_len HW (aH (dv 0) aG)) (aP bO)) af (aC _))))) (au (aA bW)) aV)
   (au (aA (cg (aq G_B hr T.F_B (aa (ay aE aF (dv 0) af) ag)) (cg (aq G_J hr T.F_J (aa (ay aE aF (dv 0) af) ag)) (cF (aq G_P hr T.F_P (aa (ay aE aF (dv 0) af) (aa (dQ (df (dv 0)) (bU af) cy) ag))))))))),?_⟩
  walk_at "a";simp only [ij];walk_at "a";refine⟨gr hd,?_⟩;rcases j4 d with⟨l,rfl⟩ | hn
  ·have hl:=j2 hd;simp only [eN];walk_at "a"
   match l,hl with
   | [],_=>simpa [eg] using q
   | [a],_=>simpa [eg] using q
   | [a,b],_=>simpa [eg] using q
   | w::n::x::r,hl=>
    have h3:¬((((w::n::x::r).length:Nat):Int) < 3):=by simp only [HN];omega
    rw [ND h3];have hw:=hl w NH;have hn:=hl n NH;have hx:=hl x NH;have hr':∀p∈r,thg p=true:=λp hp=>hl p (by simp [hp]);have ec:aR (w::n::x::r) (some 3) none=r:=by rw [tJ NB (by simp only [HN];omega)];rfl
    simp only [eg] at q;refine⟨_,cZ,n,rfl,hn,?_⟩;refine⟨_,rfl,?_⟩;cases e1:gu n with
    | false=>simpa [e1] using q
    | true=>
     rw [NF rfl];refine⟨_,jR,x,rfl,hx,_,rfl,?_⟩;cases e2:bY x with
     | false=>simpa [e1,e2] using q
     | true=>
      rw [NF rfl];refine⟨_,cR,w,r,by rw [ec],hw,hr',?_⟩;simpa [e1,e2] using q
  ·rw [uK hn];have e:eg d=false:=by
    unfold eg;split
    ·exact absurd rfl (hn _)
    ·rfl
   rw [e] at q;simpa using q
end
structure Pp where
 d:Int
 nm:Str
 kd:Str
 ms:List Str
def Pp.enc(p:Pp):NI:= .tuple [.str (HD "paper"),.int p.d,.str p.nm,.str p.kd,.tuple (p.ms.map .str)]
def Pp.key(p:Pp):Int×Str:=(p.d,p.nm)
def gX:NI->Int×Str
 | .tuple (_:: .int d:: .str n::_)=>(d,n)
 | _=>(0,HD "")
def Pp.lt(a b:Pp):Prop:=aX a.key b.key=true
instance (a b:Pp):Decidable (a.lt b):=by unfold Pp.lt;infer_instance
theorem F6(p:Int×Str):aX p p=false:=by unfold aX;simp [List.lt_irrefl]
theorem xf{a b c:Int×Str}(h1:aX a b=true)(h2:aX b c=true):aX a c=true:=by
 unfold aX at h1 h2⊢;simp only [Ks,HX,decide_eq_true_eq] at h1 h2⊢;rcases h1 with h1 | ⟨h1,h1'⟩ <;> rcases h2 with h2 | ⟨h2,h2'⟩
 ·left;omega
 ·left;omega
 ·left;omega
 ·right;exact⟨h1.trans h2,Mi h1' h2'⟩
theorem xh{a b:Int×Str}(h:aX a b=true):¬aX b a=true:=λz=>by
 have:=xf h z;rw [F6] at this;cases this
theorem F7{a b:Int×Str}(h:a≠b):aX a b=true\/aX b a=true:=by
 have T:=vq (n:=2) (kp:=λi=>if i=0 then a else b) (λi j hi hj e=>by
  have:i=0\/i=1:=NC
  have:j=0\/j=1:=NC
  rcases ‹i=0\/i=1› with rfl | rfl <;> rcases ‹j=0\/j=1› with rfl | rfl
  ·rfl
  ·exact absurd e h
  ·exact absurd e.symm h
  ·rfl)
 have:=T.tot 0 1 NC NC NC;simp at this;cases hb:aX b a with
 | true=>exact .inr rfl
 | false=>rw [hb] at this;exact .inl (by simpa using this)
theorem Pp.lt_tr{a b c:Pp}(h1:a.lt b)(h2:b.lt c):a.lt c:=xf h1 h2
theorem pB{α:Type}{r:α->α->Prop}(as:∀a b,r a b->¬r b a):∀{l1 l2:List α},l1.Perm l2->l1.Pairwise r->l2.Pairwise r->l1=l2
 | [],l2,p,_,_=>by rw [p.nil_eq]
 | a::l1,[],p,_,_=>by have:=p.length_eq;simp at this
 | a::l1,b::l2,p,h1,h2=>by
  have e:a=b:=by
   have m1:a∈b::l2:=p.mem_iff.mp NH;have m2:b∈a::l1:=p.mem_iff.mpr NH;rcases HM.mp m1 with e | m1
   ·exact e
   ·rcases HM.mp m2 with e | m2
    ·exact e.symm
    ·exact absurd ((IQ.mp h1).1 b m2) (as _ _ ((IQ.mp h2).1 a m1))
  subst e;rw [pB as ((List.perm_cons a).mp p) (IQ.mp h1).2 (IQ.mp h2).2]
def jq(x:Pp):List Pp->List Pp
 | []=>[x]
 | y::l=>if x.lt y then x::y::l else y::jq x l
def cU(ps:List Pp):List Pp:=ps.foldr jq []
theorem pC(x:Pp):∀l,(jq x l).Perm (x::l)
 | []=>.refl _
 | y::l=>by
  unfold jq;split
  ·exact .refl _
  ·exact((pC x l).cons y).trans (.swap x y l)
theorem gY:∀ps:List Pp,(cU ps).Perm ps
 | []=>.refl _
 | x::ps=>(pC x (cU ps)).trans ((gY ps).cons x)
theorem xi{x:Pp}:∀{l:List Pp},(∀y∈l,y.nm≠x.nm)->l.Pairwise Pp.lt->(jq x l).Pairwise Pp.lt
 | [],_,_=>LV _ _
 | y::l,hn,h=>by
  have hp:=IQ.mp h;unfold jq;split
  ·rename_i hl;refine IQ.mpr ⟨λz hz=>?_,h⟩;rcases HM.mp hz with e | e
   ·subst e;exact hl
   ·exact Pp.lt_tr hl (hp.1 z e)
  ·rename_i hl;refine IQ.mpr ⟨λz hz=>?_,xi (λz hz=>hn z (by simp [hz])) hp.2⟩;rcases HM.mp ((pC x l).mem_iff.mp hz) with e | e
   ·subst e;rcases F7 (a:=y.key) (b:=z.key) (λz=>hn y NH (congrArg Prod.snd z)) with w | w
    ·exact w
    ·exact absurd w hl
   ·exact hp.1 z e
theorem kB:∀{ps:List Pp},(ps.map (·.nm)).Nodup->(cU ps).Pairwise Pp.lt
 | [],_=>.nil
 | x::ps,h=>by
  rw [HF,Jk] at h;exact xi (λy hy e=>h.1 (by rw [<-e];exact HR.mpr ⟨y,(gY ps).mem_iff.mp hy,rfl⟩)) (kB h.2)
theorem iw{ps:List Pp}{x:Pp}:x∈cU ps↔x∈ps:=(gY ps).mem_iff
theorem xj{ps:List Pp}:(cU ps).length=ps.length:=(gY ps).length_eq
theorem Pp.asym(a b:Pp)(h:a.lt b):¬b.lt a:=xh h
theorem xk{ps os:List Pp}(nd:(ps.map (·.nm)).Nodup)(hp:os.Perm ps)(hs:os.Pairwise Pp.lt):os=cU ps:=
 pB Pp.asym (hp.trans (gY ps).symm) hs (kB nd)
theorem F8{ps qs:List Pp}(nd:(ps.map (·.nm)).Nodup)(h:qs.Perm ps):cU qs=cU ps:=
 xk nd ((gY qs).trans h) (kB ((h.map _).nodup_iff.mpr nd))
theorem pE{ps:List Pp}{f:Pp->Bool}(nd:(ps.map (·.nm)).Nodup):((ps.filter f).map (·.nm)).Nodup:=nd.sublist (List.filter_sublist.map _)
theorem xm{ps:List Pp}{f:Pp->Bool}(nd:(ps.map (·.nm)).Nodup):cU (ps.filter f)=(cU ps).filter f:=
 (xk (pE nd) ((gY ps).filter f) ((kB nd).sublist List.filter_sublist)).symm
theorem F9{ps:List Pp}{ds:List NI}(nd:(ps.map (·.nm)).Nodup)(hp:ds.Perm (ps.map Pp.enc))(hs:ds.Pairwise λa b=>aX (gX a) (gX b)=true):ds=(cU ps).map Pp.enc:=by
 refine pB (λa b h=>xh h) (hp.trans ((gY ps).symm.map _)) hs ?_;rw [Jw];exact kB nd
theorem mf{ps:List Pp}(nd:(ps.map (·.nm)).Nodup){a b:Pp}(ha:a∈ps)(hb:b∈ps)(e:a.nm=b.nm):a=b:=by
 induction ps with
 | nil=>cases ha
 | cons x ps ih=>
  rw [HF,Jk] at nd;rcases HM.mp ha with ea | ha1 <;> rcases HM.mp hb with eb | hb1
  ·rw [ea,eb]
  ·subst ea;exact absurd (HR.mpr ⟨b,hb1,e.symm⟩) nd.1
  ·subst eb;exact absurd (HR.mpr ⟨a,ha1,e⟩) nd.1
  ·exact ih nd.2 ha1 hb1
structure jr (ps:List Pp):Prop where
 ln:ps.length<=41
 nd:(ps.map (·.nm)).Nodup
 nm:∀p∈ps,Im p.nm=true
 kd:∀p∈ps,Im p.kd=true
 ms:∀p∈ps,(∀m∈p.ms,Im m=true)/\p.ms.length<=50
theorem jr.filter{ps:List Pp}(g:jr ps)(f:Pp->Bool):jr (ps.filter f):=
 ⟨Il (Kg _ _) g.ln,pE g.nd,λp hp=>g.nm p (IT.mp hp).1,λp hp=>g.kd p (IT.mp hp).1,λp hp=>g.ms p (IT.mp hp).1⟩
def js(c p:Pp):Bool:=c.ms.contains p.nm && aX p.key c.key
def ck(ps:List Pp)(c:Pp):List Pp:=(cU ps).filter (js c)
def Ga(ps:List Pp)(a b:Pp):Prop:=a∈ps/\b∈ps/\a.nm∈b.ms/\a.lt b
theorem Gb{ps:List Pp}{c p:Pp}(hc:c∈ps):p∈ck ps c↔Ga ps p c:=by
 unfold ck js;rw [IT,iw];simp only [HX,JD];exact⟨λuu78=>by obtain⟨a,b,d⟩:=uu78;exact⟨a,hc,b,d⟩,λuu79=>by obtain⟨a,_,b,d⟩:=uu79;exact⟨a,b,d⟩⟩
inductive De where
 | pap (p:Pp)
 | oth (w:Str) (d:Int) (nm:Str) (r:List NI)
def De.enc:De->NI
 | .pap p=>p.enc
 | .oth w d nm r=>.tuple (.str w:: .int d:: .str nm::r)
def De.w:De->Str
 | .pap _=>HD "paper"
 | .oth w _ _ _=>w
def De.d:De->Int
 | .pap p=>p.d
 | .oth _ d _ _=>d
def De.nm:De->Str
 | .pap p=>p.nm
 | .oth _ _ nm _=>nm
def De.pp:De->Option Pp
 | .pap p=>some p
 | _=>none
def aI(xs:List De):List Pp:=xs.filterMap De.pp
structure fx (xs:List De):Prop where
 gp:jr (aI xs)
 np:∀w d nm r,De.oth w d nm r∈xs->w≠HD "paper"
 ln:xs.length<=41
 w:∀x∈xs,Im x.w=true
 nm:∀x∈xs,Im x.nm=true
theorem pF{xs:List De}{p:Pp}:p∈aI xs↔De.pap p∈xs:=by
 unfold aI;rw [Kv];constructor
 ·rintro⟨x,hx,e⟩;cases x with
  | pap q=>cases e;exact hx
  | oth w d nm r=>cases e
 ·intro h;exact⟨_,h,rfl⟩
theorem xn(ps:List Pp):aI (ps.map De.pap)=ps:=by
 unfold aI;rw [Ld];exact List.filterMap_some
theorem Gd(ps:List Pp):ps.map Pp.enc=(ps.map De.pap).map De.enc:=by rw [Iy];rfl
theorem Ge:Im (HD "paper")=true:=NA
theorem fx.of{ps:List Pp}(g:jr ps):fx (ps.map De.pap):=by
 refine⟨by rw [xn];exact g,λw d nm r h=>?_,by rw [HB];exact g.ln,λx hx=>?_,λx hx=>?_⟩
 ·obtain⟨p,_,e⟩:=HR.mp h;cases e
 ·obtain⟨p,_,rfl⟩:=HR.mp hx;exact Ge
 ·obtain⟨p,hp,rfl⟩:=HR.mp hx;exact g.nm p hp
theorem xo:bu (aD lR) ["deeds"] ["deed"] 1 [] ⟨HS,[(Hz ".0",O5),(Hz "deed",O5)],false,false,[]⟩:= .of
theorem xp:bu (aD lS) ["deeds"] ["deed"] 1 [] ⟨HS,[(Hz ".0",O5),(Hz "deed",O5)],false,false,[]⟩:= .of
theorem xt:bu (aD kj) ["deeds","coming","named"] ["deed","coming"] 1 [1] ⟨HS,[ (Hz ".0",O5),(Hz "deed",O5),(Hz "coming",HY)],false,false,[]⟩:= .of
theorem xu:bu (aD kj) ["deeds","coming","named"] ["deed","coming"] 1 [1] ⟨HS,[ (Hz ".0",O5),(Hz "deed",O5),(Hz "place_of",Ib),(Hz "coming",HY)],false,false,[]⟩:= .of
theorem xv:bu (aD lT) ["deeds","paper"] ["deed"] 1 [] ⟨HS,[(Hz ".0",O5),(Hz "deed",O5)],false,false,[]⟩:= .of
section
variable {P:NV} {w:NX} {K:Hx} {mg:Str->Option NJ} {base:NZ} {t:cI}
theorem gz{α:Type}{enc:α->NI}{g:DG}{tc:DB}{te:DT}{δ0:Dl}{xs:List α}{Q:List NI->Prop}(p:α->Bool)(f:α->NI)
 (h:∀x∈xs,∀(R:NI->Prop) (S:Prop),(if p x=true then R (f x) else S)->g (enc x) δ0 λδ2=>tc δ2 λok=>if ok=true then te δ2 R else S)(q:Q ((xs.filter p).map f)):fI g tc te δ0 (xs.map enc) Q:=by
 refine⟨λi acc=>acc=((xs.take i).filter p).map f,rfl,?_,?_⟩
 ·rintro i z acc hz rfl;rw [Ie] at hz;cases hz':xs[i]? with
  | none=>rw [hz'] at hz;cases hz
  | some x=>
   rw [hz'] at hz;cases hz;refine h x (Ik hz') (λy=>((xs.take i).filter p).map f++[y]=((xs.take (i+1)).filter p).map f) (((xs.take i).filter p).map f=((xs.take (i+1)).filter p).map f) ?_;rw [Js,hz'];by_cases e:p x=true
   ·rw [NF e];simp [e]
   ·rw [ND e];simp [e]
 ·rintro acc rfl;rw [HB,Iu (HE _)];exact q
theorem mh{α:Type}(l:List α):l.filter (λ_=>true)=l:=List.filter_eq_self.mpr λ_ _=>rfl
theorem fy{a b:Str}(h:a≠b):(a==b)=false:=by simpa using h
theorem pG{ws:List Str}{w:Str}:((ws.map Hy).any λd=>HA d (.str w))=ws.contains w:=by
 induction ws with
 | nil=>rfl
 | cons a ws ih=>
  rw [HF,JK,ih,jS,List.contains_cons];congr 1;by_cases h:a=w
  ·simp [h]
  ·rw [fy h,fy (Ne.symm h)]
theorem pH{ms:List Str}(h:∀m∈ms,Im m=true):IX (ms.map .str)=true:=(nT (n:=1) (oh h)).1
def dD(f:Pp->Bool):De->Bool
 | .pap p=>f p
 | _=>false
theorem kC{f:Pp->Bool}:∀xs:List De,(xs.filter (dD f)).map De.enc=((aI xs).filter f).map Pp.enc
 | []=>rfl
 | .pap p::xs=>by
  have ih:=kC (f:=f) xs;show _=(Nr f (p::aI xs)).map Pp.enc;rw [Kk,Kk];by_cases h:f p=true
  ·rw [NF h,NF (show dD f (.pap p)=true from h),HF,HF,ih];rfl
  ·rw [ND h,ND (show ¬dD f (.pap p)=true from h),ih]
 | .oth w d nm r::xs=>by
  have ih:=kC (f:=f) xs;show _=(Nr f (aI xs)).map Pp.enc;rw [Kk,ND (show ¬dD f (.oth w d nm r)=true from IJ),ih]
def pI:List NI->(NI->Prop)->Prop:=λds Q=>∃p:De,ds=[p.enc]/\Q (eh (p.d,p.nm))
theorem xw(T:Txt K mg t):aO P w K mg base CX0 1 t.a_C t.d_C ["deed"] (aT K pI):=by
 refine T.F_C.F.okD Fx (λds Q h=>?_) (λ_ _ _ _ H O ds Q E hr h=>?_)
 ·obtain⟨p,rfl,_⟩:=h;rfl
 ·obtain⟨p,rfl,q⟩:=h;refine'⟨_,?A,?B⟩
  case A=>
   refine' au ?C
   case' C=>refine' aA ?D
   case' D=>refine' bb ?E
   case' E=>refine' aa ?F ?G
   case F=>exact(ay aE aF (dv 0) af)
   case' G=>refine' aa ?H ag
   case H=>exact(ay aE aF (dv 0) af)
  case B=>
  clear hr T;cases p <;> simp only [De.enc,Pp.enc] <;> walk_at "a" <;> exact q
theorem Gf{d:NI}{ps:List Pp}(h:d∈ps.map Pp.enc)(R:NI->Prop)(q:R (eh (gX d))):pI [d] R:=by
 obtain⟨p,hp,rfl⟩:=HR.mp h;exact⟨.pap p,rfl,q⟩
theorem Gg{ps:List Pp}(nd:(ps.map (·.nm)).Nodup):(ps.map Pp.key).Nodup:=by
 rw [LB,Jw] at nd⊢;exact nd.imp λh e=>h (congrArg Prod.snd e)
def F_D:List NI->(NI->Prop)->Prop:=λds Q=>∃xs:List De,(ds=[.list (xs.map De.enc)]\/ds=[.tuple (xs.map De.enc)])/\fx xs/\Q (.list ((cU (aI xs)).map Pp.enc))
theorem xx(T:Txt K mg t):aO P w K mg base CX0 4 t.a_D t.d_D ["deeds"] (aT K F_D):=by
 have G_C:=@xw P w _ _ base _ T;refine T.F_D.F.okD Fy (λds Q h=>?_) (λ_ _ _ _ H O ds Q E hr h=>?_)
 ·obtain⟨ps,h | h,_⟩:=h <;> subst h <;> rfl
 ·obtain⟨xs,e,gd,q⟩:=h;refine'⟨_,?A,?B⟩
  case A=>
   refine' au ?C
   case' C=>refine' aA ?D
   case D=>exact(fe (ED gX rfl G_C (br.in1 (br.in1 (hr.mono NB))) T.F_C.b rfl T.F_C.m rfl T.n_sorted LM (aH (fe (EH rfl xo (df (dv 0)) bw cw NB (λ_ _ _ _=>(bq (i:=0) xo.nd rfl NG)) (λ_ _ _ _=>(gE (aL (cA hr) cB (ay aE aF (dv 0) af) aM (aC _)))) (λ_ _ _ _=>(dv 0)))) aG)))
  case B=>
  clear hr T G_C;have ln:=gd.ln;have pl:=gd.gp.ln;have step:∀x∈xs,∀(R:NI->Prop)(S:Prop),(if dD (λ_=>true) x=true then R x.enc else S)->(if (x.w==HD "paper")=true then R x.enc else S):=λx hx R S h=>by
   cases x with
   | pap p=>exact h
   | oth w d nm r=>
    rw [show((De.oth w d nm r).w==HD "paper")=false from fy (gd.np w d nm r hx),ND IJ];rw [ND (show ¬dD (λ_=>true) (.oth w d nm r)=true from IJ)] at h;exact h
  have fin:∀ds':List NI,ds'.Perm ((aI xs).map Pp.enc)->ds'.Pairwise (λa b=>aX (gX a) (gX b)=true)->Q (.list ds'):=λds' h1 h2=>by
   rw [F9 gd.gp.nd h1 h2];exact q
  have tail:(∀d∈(aI xs).map Pp.enc,∀R:NI->Prop,R (eh (gX d))->pI [d] R)/\((aI xs).map Pp.enc).length < 64/\(((aI xs).map Pp.enc).map gX).Nodup:=by
   refine⟨λd hd R z=>Gf hd R z,by rw [HB];omega,?_⟩;rw [Iy];exact Gg gd.gp.nd
  rcases e with e | e <;> subst e <;> walk_at "a"
  ·refine⟨by rw [HB];omega,gz (dD λ_=>true) De.enc (λx hx R S h=>?_) ?_⟩
   ·have h:=step x hx R S h;cases x <;> simp only [De.enc,De.w,Pp.enc] at h⊢<;> walk_at "a" <;> exact h
   ·rw [kC,mh];exact⟨tail.1,tail.2.1,tail.2.2,fin⟩
  ·refine⟨by rw [HB];omega,gz (dD λ_=>true) De.enc (λx hx R S h=>?_) ?_⟩
   ·have h:=step x hx R S h;cases x <;> simp only [De.enc,De.w,Pp.enc] at h⊢<;> walk_at "a" <;> exact h
   ·rw [kC,mh];exact⟨tail.1,tail.2.1,tail.2.2,fin⟩
def Gh:List NI->(NI->Prop)->Prop:=λds Q=>∃(xs:List De)(c:Pp),ds=[.tuple (xs.map De.enc),.str c.nm]/\fx xs/\c∈aI xs/\Q c.enc
theorem Gi(T:Txt K mg t):aO P w K mg base CX0 1 t.a_E t.d_E ["deeds","paper"] (aT K Gh):=by
 refine T.F_E.F.okD wD (λds Q h=>?_) (λ_ _ _ _ H O ds Q E hr h=>?_)
 ·obtain⟨ps,c,rfl,_⟩:=h;rfl
 ·obtain⟨xs,c,rfl,gd,hc,q⟩:=h;refine'⟨_,?A,?B⟩
  case A=>
   refine' av ?C ?D
   case C=>
    refine' BW IU rfl (dv 0) ?E bw ?F
    case E=>exact(bq (i:=2) wD.nd rfl NG)
    case' F=>refine' au ?G
    case' G=>refine' aW ?H ?I aV
    case H=>exact(PW.pt (dJ (aL (cA hr) cB (ay aE aF (dv 2) af) aM (aC _)) (eL (aL (bM hr.units) bN (ay aE aF (dv 2) af) (dv 1) (aC _)))))
    case' I=>refine' au ?J
    case J=>exact(aA (dv 2))
   case D=>refine' au jh
  case B=>
  clear hr T;walk_at "a";refine⟨λi δ=>(∀x∈aI (xs.take i),x.nm≠c.nm)/\∃o2,δ=[some (Sl.v (.tuple (xs.map De.enc))),some (Sl.v (.str c.nm)),o2],⟨by simp [aI],_,rfl⟩,?_,?_⟩
  ·rintro i z δ hz ⟨hn,o2,rfl⟩;rw [Ie] at hz;cases hz':xs[i]? with
   | none=>rw [hz'] at hz;cases hz
   | some x=>
    rw [hz'] at hz;cases hz;have hx:=Ik hz';cases x with
    | pap p=>
     simp only [De.enc,Pp.enc];walk_at "a";refine⟨gi.mpr (gd.nm _ hx),gi.mpr (gd.gp.nm c hc),?_⟩;split
     ·rename_i h;have e:=mf gd.gp.nd (pF.mpr hx) hc (eq_of_beq h);subst e;exact q
     ·rename_i h;refine⟨λy hy=>?_,_,rfl⟩;rw [Js,hz'] at hy;unfold aI at hy;rw [Ma] at hy;rcases Ij.mp hy with z | z
      ·exact hn y z
      ·have:y=p:=by simpa [De.pp] using z
       rw [this];exact λe=>h (by rw [e];exact beq_self_eq_true _)
    | oth w d nm r=>
     simp only [De.enc];walk_at "a";rw [fy (gd.np w d nm r hx),ND IJ];refine⟨λy hy=>?_,_,rfl⟩;rw [Js,hz'] at hy;unfold aI at hy;rw [Ma] at hy;rcases Ij.mp hy with z | z
     ·exact hn y z
     ·simp [De.pp] at z
  ·rintro δ ⟨hn,o2,rfl⟩;rw [HB,Iu (HE _)] at hn;exact absurd rfl (hn c hc)
def F_F:List NI->(NI->Prop)->Prop:=λds Q=>∃xs:List De,ds=[.tuple (xs.map De.enc)]/\fx xs/\Q (.tuple (((cU (aI xs)).map (·.nm)).map .str))
theorem Gj(T:Txt K mg t):aO P w K mg base CX0 5 t.a_F t.d_F ["deeds"] (aT K F_F):=by
 have G_D:=@xx P w _ _ base _ T;refine T.F_F.F.okD Fz (λds Q h=>?_) (λ_ _ _ _ H O ds Q E hr h=>?_)
 ·obtain⟨ps,rfl,_⟩:=h;rfl
 ·obtain⟨xs,rfl,gd,q⟩:=h;refine'⟨_,?A,?B⟩
  case A=>
   refine' au ?C
   case' C=>refine' aA ?D
   case D=>exact(PE.imp (fE jI rfl T.n_tuple eI (aH (fe (ib rfl xp (df (aq G_D hr T.F_D (aa (dv 0) ag))) bw cw NB (λ_ _ _ _=>(bq (i:=0) xp.nd rfl NG)) (λ_ _ _ _=>dO) (λ_ _ _ _=>(ay aE aF (dv 0) af)))) aG)) (aP jQ))
  case B=>
  clear hr T G_D;walk_at "a";refine⟨xs,.inr rfl,gd,_,rfl,by rw [HB,xj];have:=gd.gp.ln;omega,gz (λ_=>true) (λp:Pp=>.str p.nm) (λx hx R S h=>?_) ?_⟩
  ·simp only [Pp.enc];walk_at "a";rw [NF rfl] at h;exact h
  ·rw [mh];rw [Iy] at q;exact q
def Gk:List NI->(NI->Prop)->Prop:=λds Q=>∃(xs:List De)(c:Pp),ds=[.tuple (xs.map De.enc),c.enc]/\fx xs/\c∈aI xs/\Q (.list ((ck (aI xs) c).map Pp.enc))
theorem Gm(T:Txt K mg t):aO P w K mg base CX0 5 t.a_G t.d_G ["deeds","coming"] (aT K Gk):=by
 have G_D:=@xx P w _ _ base _ T;have G_C:=@xw P w _ _ base _ T;refine T.F_G.F.okD wF (λds Q h=>?_) (λ_ _ _ _ H O ds Q E hr h=>?_)
 ·obtain⟨ps,c,rfl,_⟩:=h;rfl
 ·obtain⟨xs,c,rfl,gd,hc,q⟩:=h;refine'⟨_,?A,?B⟩
  case A=>
   refine' av ?C ?D
   case C=>exact(nU (i:=2) wF.nd rfl NG (vi rfl xt (df (dv 0)) bw cw NB (λ_ _ _ _=>(bq (i:=0) xt.nd rfl NG)) (λ_ _ _ _=>(gE (PW.pt (dJ (aL (cA hr) cB (ay aE aF (dv 0) af) aM (aC _)) (eL (aL (uc hr) lI (ay aE aF (dv 0) af) (ay aE aF (dv 1) af) rfl)))))) (λ_ _ _ _=>(dv 0))))
   case' D=>refine' au ?E
   case' E=>refine' aA ?F
   case F=>exact(aq G_D hr T.F_D (aa (fe (ib rfl xu (df (dv 2)) bw cw NB (λ_ _ _ _=>(bq (i:=0) xu.nd rfl NG)) (λ_ _ _ _=>(gE (aL (vC hr.units0) vE (aq G_C hr T.F_C (aa (dv 0) ag)) (aq G_C hr T.F_C (aa (dv 1) ag)) (aC _)))) (λ_ _ _ _=>(dv 0)))) ag))
  case B=>
  clear hr T G_D G_C;have ln:=gd.ln;have pl:=gd.gp.ln;obtain⟨hm1,hm2⟩:=gd.gp.ms c hc;walk_at "a";refine⟨by rw [HB];omega,gz (dD λp=>c.ms.contains p.nm) De.enc (λx hx R S h=>?_) ?_⟩
  ·cases x with
   | pap p=>
    simp only [De.enc,Pp.enc];walk_at "a";refine⟨gi.mpr (gd.nm _ hx),pH hm1,?_⟩;rw [pG];exact h
   | oth w d nm r=>
    simp only [De.enc];walk_at "a";rw [fy (gd.np w d nm r hx),ND IJ];rw [ND (show ¬dD _ (.oth w d nm r)=true from IJ)] at h;exact h
  ·rw [kC];have fl:=Kg (λp:Pp=>c.ms.contains p.nm) (aI xs);refine⟨by rw [HB];omega,gz (λp=>aX p.key c.key) Pp.enc (λx hx R S h=>?_) ?_⟩
   ·walk_at "a";exact⟨.pap x,rfl,.pap c,rfl,x.key,rfl,c.key,rfl,h⟩
   ·rw [Gd];refine⟨_,.inl rfl,fx.of ((gd.gp.filter _).filter _),?_⟩;rw [xn,xm (pE gd.gp.nd),xm gd.gp.nd,List.filter_filter];have e:(cU (aI xs)).filter (λa=>aX a.key c.key && c.ms.contains a.nm)=ck (aI xs) c:=by
     unfold ck js;congr 1;funext a;rw [M6]
    rw [e];exact q
theorem Gn{ps:List Pp}{c:Pp}(g:jr ps):(ck ps c).length<=41:=by
 unfold ck;have h1:=Kg (js c) (cU ps);have h2:=xj (ps:=ps);have h3:=g.ln;omega
def F_H:List NI->(NI->Prop)->Prop:=λds Q=>∃(xs:List De)(c:Pp),ds=[.tuple (xs.map De.enc),.str c.nm]/\fx xs/\c∈aI xs/\Q (.tuple (((ck (aI xs) c).map (·.nm)).map .str))
theorem Gp(T:Txt K mg t):aO P w K mg base CX0 6 t.a_H t.d_H ["deeds","paper"] (aT K F_H):=by
 have G_G:=@Gm P w _ _ base _ T;have G_E:=@Gi P w _ _ base _ T;refine T.F_H.F.okD FA (λds Q h=>?_) (λ_ _ _ _ H O ds Q E hr h=>?_)
 ·obtain⟨ps,c,rfl,_⟩:=h;rfl
 ·obtain⟨xs,c,rfl,gd,hc,q⟩:=h;refine'⟨_,?A,?B⟩
  case A=>
   refine' au ?C
   case' C=>refine' aA ?D
   case D=>exact(PE.imp (fE jI rfl T.n_tuple eI (aH (fe (ib rfl xv (df (aq G_G hr T.F_G (aa (dv 0) (aa (aq G_E hr T.F_E (aa (dv 0) (aa (dv 1) ag))) ag)))) bw cw NB (λ_ _ _ _=>(bq (i:=0) xv.nd rfl NG)) (λ_ _ _ _=>dO) (λ_ _ _ _=>(ay aE aF (dv 0) af)))) aG)) (aP jQ))
  case B=>
  clear hr T G_G G_E;walk_at "a";refine⟨xs,c,rfl,gd,hc,xs,c,rfl,gd,hc,⟨_,rfl,by rw [HB];have:=Gn (c:=c) gd.gp;omega,gz (λ_=>true) (λp:Pp=>.str p.nm) (λx hx R S h=>?_) ?_⟩⟩
  ·simp only [Pp.enc];walk_at "a";rw [NF rfl] at h;exact h
  ·rw [mh];rw [Iy] at q;exact q
end
theorem xy:bu (aD lV) ["deeds","place"] ["other","deeds","place"] 1 [0,1] ⟨HS,[ (Hz ".0",O5),(Hz "other",O5),(Hz "quarrel",Ib),(Hz "deeds",HY),(Hz "place",HY)],false,false,[]⟩:= .of
section
variable {P:NV} {w:NX} {K:Hx} {mg:Str->Option NJ} {base:NZ} {t:cI}
def mi(d:NI):Prop:=∃(w:Str)(n:Int)(x:Str)(r:List NI),d= .tuple (.str w:: .int n:: .str x::r)/\bJ d
def bz(w:Str)(a b:Str):Bool:=w==a || w==b
def cJ(d e:NI):Bool:=match d,e with
 | .tuple (.str w:: .int n:: .str x::r),.tuple (.str w':: .int n':: .str x'::r')=>
  HA d e || (x==x' && ((w==("paper":Str) && w'==("paper":Str)) || (w==("leave":Str) && w'==("leave":Str)) || (n==n' && ((bz w "rule" "end" && bz w' "rule" "end") || (bz w "hold" "lift" && bz w' "hold" "lift")))))
 | _,_=>false
theorem Gq(A B C C' L L' R R' D D' N:Bool)(Q:Bool->Prop)(h:Q (A || (B && (C && C' || L && L' || N && (R && R' || D && D'))))):
 if A=true then Q true else if B=false then Q false else
  if C=true then if C'=true then Q true else
   if L=true then if L'=true then Q true else
    if R=true then if R'=true then Q N else if D=true then if D'=true then Q N else Q false else Q false
    else if D=true then if D'=true then Q N else Q false else Q false
   else if R=true then if R'=true then Q N else if D=true then if D'=true then Q N else Q false else Q false
    else if D=true then if D'=true then Q N else Q false else Q false
  else
   if L=true then if L'=true then Q true else
    if R=true then if R'=true then Q N else if D=true then if D'=true then Q N else Q false else Q false
    else if D=true then if D'=true then Q N else Q false else Q false
   else if R=true then if R'=true then Q N else if D=true then if D'=true then Q N else Q false else Q false
    else if D=true then if D'=true then Q N else Q false else Q false:=by
 cases A
 ·cases B
  ·simpa using h
  ·have tail:∀p:Bool,p=false->Q (false || (true && (p || N && (R && R' || D && D'))))->if R=true then if R'=true then Q N else if D=true then if D'=true then Q N else Q false else Q false else if D=true then if D'=true then Q N else Q false else Q false:=λp hp h=>by
    subst hp;cases R <;> cases R' <;> cases D <;> cases D' <;> simpa using h
   cases C <;> cases C' <;> cases L <;> cases L' <;> first | simpa using h | (simp only [Ka,if_false,if_true,reduceCtorEq];exact tail _ (by rfl) h)
 ·simpa using h
def Gr:List NI->(NI->Prop)->Prop:=λds Q=>∃d e,ds=[d,e]/\mi d/\mi e/\Q (.bool (cJ d e))
theorem Gs(T:Txt K mg t):aO P w K mg base CX0 1 t.a_R t.d_R ["one","other"] (aT K Gr):=by
 refine T.F_R.F.okD pj (λds Q h=>?_) (λ_ _ _ _ H O ds Q E hr h=>?_)
 ·obtain⟨d,e,rfl,_⟩:=h;rfl
 ·obtain⟨d,e,rfl,⟨w,n,x,r,rfl,sd⟩,⟨w',n',x',r',rfl,se⟩,q⟩:=h;refine⟨_,(av (aW (aL (bM hr.units) bN (dv 0) (dv 1) (aC _)) (au (aA bW)) aV)
   (av (aW (aL (jO hr.units) jP (ay aE aF (dv 0) af) (ay aE aF (dv 1) af) (aC _)) (au (aA bW)) aV)
   (av (sE IU rfl (bb (aa aM (aa aM ag))) (bq (i:=2) pj.nd rfl NG) bw (au (aW (PW.pt (dJ (aL (bM hr.units) bN (ay aE aF (dv 0) af) (dv 2) (aC _)) (eL (aL (bM hr.units) bN (ay aE aF (dv 1) af) (dv 2) (aC _))))) (au (aA bW)) aV)))
   (av (sE IU rfl (bb (aa (bb (aa aM (aa aM ag))) (aa (bb (aa aM (aa aM ag))) ag))) (bq (i:=3) pj.nd rfl NG) bw (au (aW (PW.pt (dJ (aL (fq hr) ft (ay aE aF (dv 0) af) (dv 3) rfl) (eL (aL (fq hr) ft (ay aE aF (dv 1) af) (dv 3) rfl)))) (au (aA (bS (bM hr.units) bN (df (ay aE aF (dv 0) af)) (df (ay aE aF (dv 1) af)) (aC _)))) aV)))
   (au (aA bW)))))),?_⟩
  have hw:bJ (.str w):=fK sd _ NH;have hw':bJ (.str w'):=fK se _ NH;have hx:bJ (.str x):=fK sd _ NH;have hx':bJ (.str x'):=fK se _ NH;walk_at "a";simp only [hw,hw',hx,hx',sd,se,true_and,lit0,lit1,lit2,lit3,lit4,lit5,lit6,lit7,lit8,lit9,lit10,lit11,lit12,lit13,lit14,lit15,lit16,lit17,lit18,lit19,lit20,lit21,lit22,lit23,lit24,lit25,lit26,lit27,lit28,lit29,lit30,lit31,lit32,lit33,lit34,lit35,lit36,lit37,lit38,lit39];have fin:∀{b:Bool},b=cJ (.tuple (.str w:: .int n:: .str x::r)) (.tuple (.str w':: .int n':: .str x'::r'))->Q (.bool b):=λe=>by rw [e];exact q
  have qd:cJ (.tuple (.str w:: .int n:: .str x::r)) (.tuple (.str w':: .int n':: .str x'::r'))=(HA (.tuple (.str w:: .int n:: .str x::r)) (.tuple (.str w':: .int n':: .str x'::r')) || (x==x' && ((w==("paper":Str) && w'==("paper":Str)) || (w==("leave":Str) && w'==("leave":Str)) || (n==n' && ((bz w "rule" "end" && bz w' "rule" "end") || (bz w "hold" "lift" && bz w' "hold" "lift")))))):=rfl;rw [qd] at fin;clear qd q;have cm:∀a b:Str,(a==b)=(b==a):=λa b=>La;simp only [bz,cm w,cm w'] at fin;generalize (HI (Hy w::HG n::Hy x::r)).eqv (HI (Hy w'::HG n'::Hy x'::r'))=A at*;simp only [cm w,cm w'];generalize (x==x')=B at*;generalize (("paper":Str)==w)=C at*;generalize (("paper":Str)==w')=C' at*;generalize (("leave":Str)==w)=L at*;generalize (("leave":Str)==w')=L' at*;generalize (("rule":Str)==w || ("end":Str)==w)=R at*;generalize (("rule":Str)==w' || ("end":Str)==w')=R' at*;generalize (("hold":Str)==w || ("lift":Str)==w)=D at*;generalize (("hold":Str)==w' || ("lift":Str)==w')=D' at*;generalize (n==n')=N at*;exact Gq A B C C' L L' R R' D D' N (λb=>Q (.bool b)) (fin rfl)
def NQ(a b:NI):Prop:=cJ a b=false
instance (a b:NI):Decidable (NQ a b):=by unfold NQ;infer_instance
def Gu:List NI->(NI->Prop)->Prop:=λds Q=>∃xs,ds=[.tuple xs]/\(∀d∈xs,mi d)/\xs.length<=1000/\Q (.bool (decide (xs.Pairwise NQ)))
theorem Gv(T:Txt K mg t):aO P w K mg base CX0 2 t.a_S t.d_S ["deeds"] (aT K Gu):=by
 have G_R:=@Gs P w _ _ base _ T;refine T.F_S.F.okD wH (λds Q h=>?_) (λ_ _ _ _ H O ds Q E hr h=>?_)
 ·obtain⟨d,rfl,_⟩:=h;rfl
 ·obtain⟨xs,rfl,hd,hl,q⟩:=h;refine⟨_,(av (nG IU rfl rfl T.n_range (aa (PE.imp (aS bI rfl T.n_len HW (aH (dv 0) aG)) (aP bO)) ag) (bq (i:=1) wH.nd rfl NG) bw (au (aW (cE (PE.imp (aS (rC rfl) rfl T.n_any rD (aH (fe (i6 rfl xy (df (dQ (df (dv 0)) cy (bU (dv 1)))) bw cw NB (λ_ _ _ _=>(bq (i:=0) xy.nd rfl NG)) (λ_ _ _ _=>dO) (λ_ _ _ _=>(aq G_R hr T.F_R (aa (dv 0) (aa (ay aE aF (dv 1) (dv 2)) ag)))))) aG)) (aP gI))) (au (aA bW)) aV)))
   (au (aA bW))),?_⟩
  walk_at "a";refine⟨NC,NC,λi δ=>(xs.take i).Pairwise NQ/\∃o,δ=[some (Sl.v (HI xs)),o],⟨NH,_,rfl⟩,?_,?_⟩
  ·rintro i x δ hx ⟨hp,o,rfl⟩;obtain⟨hi,rfl⟩:=gn hx;have hi':i < xs.length:=NC
   walk_at "a";simp only [Mu];have et:xs.take (i+1)=xs.take i++[xs[i]]:=by rw [Js,HL hi'];rfl
   rw [i8 NC NC,JV];refine⟨?_,λj acc=>acc=((xs.take i).take j).map (λd=>.bool (cJ d xs[i])),NH,?_,?_⟩
   ·rw [IH];omega
   ·rintro j x acc hx rfl;have hm:x∈xs:=IS (Ik hx);walk_at "a";refine⟨xs[i],cQ (by simp [hi']),x,xs[i],rfl,hd _ hm,hd _ (IP hi'),?_⟩;rw [Js,hx];simp
   ·rintro acc rfl;refine⟨(xs.take i).map (λd=>cJ d xs[i]),?_,?_⟩
    ·rw [Iu (HE _),Iy];rfl
    ·split
     ·rename_i h;rw [decide_eq_false (λz=>?_)] at q
      ·exact q
      ·have z2:=(M7.sublist (JU (i+1) xs) z);rw [et,Mg] at z2;rw [LN,J1] at h;obtain⟨d,hd1,hd2⟩:=h;have z3:=z2.2.2 d hd1 xs[i] NH;unfold NQ at z3;simp [z3] at hd2
     ·rename_i h;refine⟨?_,_,rfl⟩;rw [et,Mg];refine⟨hp,NH,λd hd1 e he=>?_⟩;rw [Ig] at he;subst he;rw [Bool.not_eq_true,LN,Lw] at h;have:=h d hd1;unfold NQ;simpa using this
  ·rintro δ ⟨hp,o,rfl⟩;walk_at "a";rw [gJ,JV,Iu (HE _)] at hp;rw [decide_eq_true hp] at q;exact q
local macro_rules | `(tactic| walk_at "c") =>rzT "qi qh qp qo qj jy g5 dF tC iJ qA rI fh rU Ba Bb Bc Bd Be mP tB p5 p7 p8 qc qf qg kQ qG qF kR qH qI mF mD mC qt qu Br Bs Bt Bu Bv Bw Bx By kN mO jE L2.start HF Jq HN Jt Ia KW Jx JH Mj Mk Nc Nd Nf LU J6 Ms Mt Lv exists_eq_left' exists_eq_left exists_and_left exists_and_right V.int.injEq V.bl.injEq V.str.injEq V.ref.injEq Jv and_true true_and Ng exists_const decide_eq_true_eq Nh Ni M4 M5 Lu decide_eq_false_iff_not and_assoc bP MK My ML L2.cxK L2.cmK or_true true_or"
theorem xA{H H1:Hp}{p:NK}(hp:H p=some (fk p))(h:∀b o,b≠p->H b=some o->H1 b=some o):ao H (ak H1 p (fk p)):=λb o e=>by
 by_cases hb:b=p
 ·subst hb;rw [bj,<-hp,e]
 ·rw [aB hb];exact h b o hb e
theorem ix(T:Txt K mg t):aO P w K mg base CX0 1 t.a_Z t.d_Z ["_law_purse_here","_law_many"] (aT K nK):=by
 refine T.F_Z.F.ok pz (λvs H Q E h=>?_) (λcdv A outer s H vs Q E hr h=>?_)
 ·obtain⟨O,ds,Qd,_,r,⟨z,rfl,_⟩,_⟩:=h;exact r.length
 ·obtain⟨O,ds,Qd,tr,r,⟨z,rfl,z0,z1,qq⟩,k⟩:=h;cases r with
  | cons r1 r2=>
   cases r2 with
   | cons r2 r3=>
    cases r3;cases r2;cases r1 with
    | @purse p hp hn=>
     refine⟨_,bx.purse (gB (kH (dG bV (hV bH (pv 0) cn (λ_ _=>rfl)) cn) (mH (pv 0) cn mX))
   (gB (g9 (i:=2) pz.nd rfl NG (hV bH (pv 0) cn (λ_ _=>rfl)))
   (gB (kH (dG fi (dG bV (dG fD (pv 2) (dG bV (dG fi (pv 2) cn) cn)) (dG fD cn (hV bH (pv 0) cn (λ_ _=>rfl)))) cn) (mH (pv 0) cn mX))
   (gB (mz (kP jG (hV bH (pv 0) cn (λ_ _=>rfl)) cn (aC _)) (gB (kH (aS As rfl T.n_divmod BA (cM (hV bH (pv 0) cn (λ_ _=>rfl)) (cM (pv 1) eG))) (mG (n:=2) rfl (g6 (mH (pv 0) cn mX) (g6 (bq (i:=3) pz.nd rfl NG) mE))))
   (jx (kF (pv 3)))) my)
   (jx (kF (dG fi (dG kO (hV bH (pv 0) cn (λ_ _=>rfl)) cn) (pv 1)))))))),p,hp,λa b c=>?_⟩
     walk_at "c";refine iS (aQ.of bj) rfl ⟨c,rfl,p,[.int a,.int b,.int c],2,2,rfl,rfl,bj,rfl,?_⟩;refine iS (aQ.of bj) rfl ⟨a,rfl,a,rfl,.inr ⟨NC,NC⟩,?_⟩;refine iS (aQ.of bj) rfl ⟨c+1,rfl,p,[.int a,.int b,.int (c+1)],0,0,rfl,rfl,bj,rfl,?_⟩;generalize (a*(a % 44497+21701)+86243*(c+1))% 2147483579=a';refine iS (aQ.of bj) rfl ⟨b,rfl,?_⟩;split
     ·refine iS (aQ.of bj) rfl ⟨b,rfl,z0,NC,λq hq=>?_⟩;have hpq:p≠q:=cC bj hq;refine⟨_,bg.of bj,rfl,_,_,rfl,p,[.int a',.int b,.int (c+1)],1,1,rfl,rfl,by rw [aB hpq,bj];rfl,rfl,?_⟩;refine⟨_,_,rfl,rfl,⟨_,_,_,bj⟩,k _ _ _ (qq (b % z) (LY _ NC) (Lg _ z0)) (xA hp λx o hx e=>?_) (.int _)⟩;have hxq:x≠q:=λy=>by
       subst y;rw [aB hx,aB hx,aB hx] at hq;rw [hq] at e;cases e
      rw [aB hx,aB hxq,aB hx,aB hx,aB hx];exact e
     ·refine iS (aQ.of bj) rfl ⟨a',rfl,z0,⟨_,_,_,bj⟩,k _ _ _ (qq (a' / 16 % z) (LY _ NC) (Lg _ z0)) (xA hp λx o hx e=>?_) (.int _)⟩;rw [aB hx,aB hx,aB hx];exact e
def Gw:List NI->(NI->Prop)->Prop:=λds Q=>∃c:Int,ds=[.int c]/\Q di
theorem xB(T:Txt K mg t):aO P w K mg base CX0 1 t.a_Y t.d_Y ["_law_cell_here"] (aT K Gw):=by
 refine T.F_Y.F.ok pw (λvs H Q E h=>?_) (λcdv A outer s H vs Q E hr h=>?_)
 ·obtain⟨O,ds,Qd,_,r,⟨z,rfl,_⟩,_⟩:=h;exact r.length
 ·obtain⟨O,ds,Qd,tr,r,⟨c,rfl,qq⟩,k⟩:=h;cases r with
  | cons r1 r2=>
   cases r2;cases r1;refine⟨_,bx.newPurse (gB (g9 (i:=1) pw.nd rfl NG cn)
   (gB (mz (PW.pt (qa (kP iK (pv 0) cn (aC _)) (p9 (kP Ak (pv 0) (dG Ai cn cn) (aC _))))) (jx (g9 (i:=1) pw.nd rfl NG (aS Aq rfl T.n_abs PyProof.Rows.boot_abs (cM (pv 0) eG)))) my)
   (jx (kF (mT (cM (dG fi (pv 0) cn) (cM (pv 1) (cM cn eG)))))))),?_⟩
   walk_at "c";have fin:∀(x y z:Int)(p:NK),H p=none->(∃u v w,ak H p (HO.lst [V.int x,V.int y,V.int z]) p=some (HO.lst [V.int u,V.int v,V.int w]))/\Q (V.ref p) (ak (ak H p (HO.lst [V.int x,V.int y,V.int z])) p (fk p)):=λx y z p hp=>
    ⟨⟨_,_,_,bj⟩,k _ _ _ qq (λb o e=>by rw [aB (cC e hp),aB (cC e hp)];exact e) (.purse bj λh=>tr p h hp)⟩
   have sl:3<=NO:=NB
   split
   ·rw [NF trivial];exact⟨sl,fin _ _ _⟩
   ·refine⟨NB,?_⟩;split
    ·exact⟨sl,fin _ _ _⟩
    ·exact⟨sl,fin _ _ _⟩
end
open Day
theorem xC:bu (aD kq) ["_law_purse_here","_law_many","_law_letters","_law_stem","_law_at","_law_first","_law_step"] ["_law_k","_law_letters","_law_purse_here"] 1 [2,0] ⟨HS,[ (Hz ".0",O5),(Hz "_law_k",O5),(Hz "_law_take",Ib),(Hz "_law_letters",HY),(Hz "_law_purse_here",HY)],false,false,[]⟩:= .of
theorem xD:bu (aD kq) ["_law_purse_here","_law_many","_law_letters","_law_stem","_law_at","_law_first","_law_step"] ["_law_k","_law_stem","_law_letters","_law_at","_law_first","_law_step"] 1 [3,2,4,5,6] ⟨HS,[ (Hz ".0",O5),(Hz "_law_k",O5),(Hz "_law_at",HY),(Hz "_law_first",HY),(Hz "_law_letters",HY),(Hz "_law_stem",HY),(Hz "_law_step",HY)],false,false,[]⟩:= .of
theorem xE:bu (aD lX) ["_law_year_here","_law_month_here","_law_number"] ["_law_k","_law_year_here"] 1 [0] ⟨HS,[ (Hz ".0",O5),(Hz "_law_k",O5),(Hz "_law_month",Ib),(Hz "_law_year_here",HY)],false,false,[]⟩:= .of
section
variable {P:NV} {w:NX} {K:Hx} {mg:Str->Option NJ} {base:NZ} {t:cI}
def Gx:List NI->(NI->Prop)->Prop:=λds Q=>∃(ns:List Int)(k:Int),ds=[d6 (ns.map .int),.int k]/\0<=k/\k<=1000/\∀c:Int,Q (.int c)
theorem xF(T:Txt K mg t):aO P w K mg base CX0 1 t.a_X t.d_X ["_law_script","_law_k"] (aT K Gx):=by
 refine T.F_X.F.okD l5 (λds Q h=>?_) (λ_ _ _ _ H O ds Q E hr h=>?_)
 ·obtain⟨ns,k,rfl,_⟩:=h;rfl
 ·obtain⟨ns,k,rfl,k0,k1,q⟩:=h;refine'⟨_,?A,?B⟩
  case A=>
   refine' av ?C ?D
   case C=>
    refine' aW ?E ?F aV
    case E=>exact(aL iK dm (dv 1) (PE.imp (aS bI rfl T.n_len HW (aH (dv 0) aG)) (aP B1)) (aC _))
    case' F=>refine' au ?G
    case G=>exact(aA (ay bH El (dv 0) (dv 1)))
   case' D=>refine' av ?H ?I
   case H=>
    refine' bK (i:=2) l5.nd rfl NG ?J (hs:=je)
    case J=>exact(aK fi cN (aK fD cN af (aK bV bC (aK bV bC (aK fD cN (dv 1) (dv 1)) (aK fD cN af (dv 1))) af)) af)
   case' I=>refine' av ?K ?L
   case K=>
    refine' lu IU rfl (fe (Em (df (dv 0)) cy (bU af))) ?M bw ?N
    case M=>exact(bq (i:=3) l5.nd rfl NG)
    case' N=>refine' au ?O
    case' O=>refine' bK (i:=2) l5.nd rfl NG ?P (hs:=je)
    case P=>exact(aK fi cN (aK bV bC (aK fD cN (dv 2) af) (dv 3)) af)
   case' L=>refine' au ?Q
   case Q=>exact(aA (dv 2))
  case B=>
  clear hr T;walk_at "a";refine⟨_,rfl,?_⟩;rw [HB];split
  ·rename_i hlt;obtain⟨j,rfl⟩:=Jp k0;have hj:j < ns.length:=NC
   exact⟨_,rfl,.int ns[j],cQ (by simp [hj]),q _⟩
  ·refine⟨.inl ⟨NC,NC⟩,_,rfl,λi δ=>∃(st:Int)(o:Option Sl),δ=[some (Sl.v (d6 (ns.map .int))),some (Sl.v (.int k)),some (Sl.v (.int st)),o],⟨_,_,rfl⟩,?_,?_⟩
   ·rintro i x δ hx ⟨st,o,rfl⟩;have hm:=Ik hx;unfold aR at hm;have hm2:=JY (IS hm);obtain⟨c,_,rfl⟩:=HR.mp hm2;walk_at "a"
    first | exact⟨_,_,rfl,rfl⟩ | exact⟨_,_,rfl⟩ | exact⟨_,rfl,_,rfl⟩ | exact⟨_,rfl⟩ | exact⟨_,_,trivial⟩ | exact⟨⟨_,rfl⟩,⟨_,rfl⟩⟩
   ·rintro δ ⟨st,o,rfl⟩;walk_at "a";exact q _
def Gy:List NI->(NI->Prop)->Prop:=λds Q=>∃y m:Int,ds=[.int y,.int m]/\1<=m/\m<=12/\Q (.int (bp y m))
theorem xG(T:Txt K mg t):aO P w K mg base CX0 1 t.a_b t.d_b ["_law_year_here","_law_month_here"] (aT K Gy):=by
 refine T.F_b.F.okD wJ (λds Q h=>?_) (λ_ _ _ _ H O ds Q E hr h=>?_)
 ·obtain⟨y,m,rfl,_⟩:=h;rfl
 ·obtain⟨y,m,rfl,m1,m2,q⟩:=h;refine'⟨_,?A,?B⟩
  case A=>
   refine' av ?C ?D
   case C=>
    generalize hG2:Expr.Call _ _ _ _=eg2;refine' bK (i:=2) wJ.nd rfl NG ?E (hs:=by subst hG2;exact jf)
    case' E=>subst hG2
    exact(PE.imp (fE mS rfl T.n_int k6 (aH (BQ (bS (bM hr.units) bN (df (aK fi cN (dv 0) af)) (df af) (aC _)) (cF (cg (bS (bM hr.units) bN (df (aK fi cN (dv 0) af)) (df af) (aC _)) (cF (bS (jO hr.units) jP (df (aK fi cN (dv 0) af)) (df af) (aC _)))))) aG)) (aP nJ))
   case' D=>refine' au ?F
   case' F=>generalize hG5:MU _ _ _=eg5
   refine' aA ?G
   case' G=>subst hG5
   refine' dz bH bX (df ?H) ?I
   case H=>
    refine' fe ?J
    case' J=>refine' cv ?K
    case' K=>refine' aa af ?L
    case' L=>refine' aa ?M ?N
    case M=>exact(aK bV bC af (dv 2))
    case N=>refine' gM (ds:=[.int 31,.int 30,.int 31,.int 30,.int 31,.int 31,.int 30,.int 31,.int 30,.int 31]) (by rfl)
   case I=>exact(df (aK eF bC (dv 1) af))
  case B=>
  clear hr T;walk_at "a";have ma:=oz y;have key:∀l2:Int,l2=bp y 2->∃d,atI [HG 31,HG l2,HG 31,HG 30,HG 31,HG 30,HG 31,HG 31,HG 30,HG 31,HG 30,HG 31] (m - 1)=some d/\Q d:=λl2 e=>by
   obtain⟨a1,a3,a4,a5,a6,a7,a8,a9,a10,a11,a12⟩:=ma;rcases oA m1 m2 with z | z | z | z | z | z | z | z | z | z | z | z <;> subst z
   ·rw [a1] at q;exact⟨_,rfl,q⟩
   ·rw [<-e] at q;exact⟨_,rfl,q⟩
   ·rw [a3] at q;exact⟨_,rfl,q⟩
   ·rw [a4] at q;exact⟨_,rfl,q⟩
   ·rw [a5] at q;exact⟨_,rfl,q⟩
   ·rw [a6] at q;exact⟨_,rfl,q⟩
   ·rw [a7] at q;exact⟨_,rfl,q⟩
   ·rw [a8] at q;exact⟨_,rfl,q⟩
   ·rw [a9] at q;exact⟨_,rfl,q⟩
   ·rw [a10] at q;exact⟨_,rfl,q⟩
   ·rw [a11] at q;exact⟨_,rfl,q⟩
   ·rw [a12] at q;exact⟨_,rfl,q⟩
  have e2:=lN y;unfold ld at e2;have li:=oy y;split
  ·rename_i h;have h:=eq_of_beq h;exact key _ (by rw [e2,NF (li.mpr (.inl h))])
  ·rename_i h;have h:¬y % 400=0:=λe=>h (by rw [e];rfl);split
   ·rename_i h4;have h4:=eq_of_beq h4;by_cases h100:y % 100=0
    ·have nl:¬gW y=true:=λz=>by rcases li.mp z with z | z;exact h z;exact z.2 h100
     have nb:¬(y % 100==0)=false:=by rw [h100];decide
     exact key _ (by rw [e2,ND nl,ND nb])
    ·exact key _ (by rw [e2,NF (show gW y=true from li.mpr (.inr ⟨h4,h100⟩)),NF (show(y % 100==0)=false by simpa using h100)])
   ·rename_i h4;have h4:¬y % 4=0:=λe=>h4 (by rw [e];rfl);exact key _ (by rw [e2,ND (λz=>by rcases li.mp z with z | z;exact h z;exact h4 z.1)])
def Gz:List NI->(NI->Prop)->Prop:=λds Q=>∃y:Int,ds=[.int y]/\Q (.int (iq y))
theorem GA(T:Txt K mg t):aO P w K mg base CX0 1 t.a_c t.d_c ["_law_year_here"] (aT K Gz):=by
 refine T.F_c.F.okD wK (λds Q h=>?_) (λ_ _ _ _ H O ds Q E hr h=>?_)
 ·obtain⟨y,rfl,_⟩:=h;rfl
 ·obtain⟨y,rfl,q⟩:=h;refine'⟨_,?A,?B⟩
  case A=>
   refine' av ?C ?D
   case C=>exact(bK (i:=0) wK.nd rfl NG (aK eF bC (dv 0) af))
   case' D=>refine' au ?E
   case' E=>generalize hG4:Nw _ _ _ _=eg4
   refine' aA ?F
   case' F=>subst hG4
   exact(aK eF bC (aK bV bC (aK eF bC (aK bV bC (aK fD cN af (aK eF bC (dv 0) af)) (aK kO cN (dv 0) af)) (aK kO cN (dv 0) af)) (aK kO cN (dv 0) af)) af)
  case B=>
  clear hr T;walk_at "a";have e:365*(y - 1 - 1999)+(y - 1)/ 4 - (y - 1)/ 100+(y - 1)/ 400 - 484=iq y:=by
   unfold iq lb;omega
  rw [e];exact q
def xH:List NI->(NI->Prop)->Prop:=λds Q=>∃y m n:Int,ds=[.int y,.int m,.int n]/\1<=m/\m<=12/\Q (.int (kh y m n))
theorem GB(T:Txt K mg t):aO P w K mg base CX0 2 t.a_d t.d_d ["_law_year_here","_law_month_here","_law_number"] (aT K xH):=by
 have G_c:=@GA P w _ _ base _ T;have G_b:=@xG P w _ _ base _ T;refine T.F_d.F.okD FO (λds Q h=>?_) (λ_ _ _ _ H O ds Q E hr h=>?_)
 ·obtain⟨y,m,n,rfl,_⟩:=h;rfl
 ·obtain⟨y,m,n,rfl,m1,m2,q⟩:=h;refine'⟨_,?A,?B⟩
  case A=>
   refine' au ?C
   case' C=>refine' aA ?D
   case D=>exact(aK eF bC (aK bV bC (aK bV bC (aq G_c hr T.F_c (aa (dv 0) ag)) (PE.imp (aS (Bo rfl) rfl T.n_sum Nt (aH (fe (ua rfl xE rfl T.n_range (aH af (aH (dv 1) aG)) bw cw NB (λ_ _ _ _=>(bq (i:=0) xE.nd rfl NG)) (λ_ _ _ _=>dO) (λ_ _ _ _=>(aq G_b hr T.F_b (aa (dv 1) (aa (dv 0) ag)))))) aG)) (aP EI))) (dv 2)) af)
  case B=>
  clear hr T G_c G_b;walk_at "a";refine⟨y,rfl,by have:((16777216:Nat):Int)=16777216:=rfl;omega,NC,NC,?_⟩;refine uJ (λx=>match x with | .int i=>.int (bp y i) | _=>.none) (λx hx R hR=>?_) ?_
  ·obtain⟨i,hi⟩:=List.getElem?_of_mem hx;obtain⟨hlt,rfl⟩:=gn hi;walk_at "a";exact⟨y,1+(i:Int),rfl,NC,NC,hR⟩
  ·refine⟨(IG (m - 1).toNat).map λ(i:Nat)=>bp y (1+(i:Int)),by unfold dN;rw [Iy,Iy];rfl,_,rfl,?_⟩;exact q
def fR(ss:List Str):Prop:=∀s∈ss,Nm s
def pJ:List Str:=["paper","rule","keep","gone","deep","first","kind","leave","made","held","lift","end"]
theorem GC:∀z∈pJ,Nm z:=by
 intro z hz;have a:pJ.all (λz=>bY (.str z))=true:=NA
 obtain⟨y,e,h⟩:=gQ (Ja.mp a z hz);cases e;exact h
def cV(x:Str):Prop:=∀c∈x.cps.toList,c∈cH.cps.toList
theorem cV.append{x y:Str}(h:cV x)(h':cV y):cV (x++y):=λc hc=>by
 rw [jW,J4] at hc;rcases Ij.mp hc with z | z
 ·exact h c z
 ·exact h' c z
theorem cV.chr{c:Nat}(h:c∈cH.cps.toList):cV ⟨#[c]⟩:=λd hd=>by
 have:d=c:=by simpa using hd
 rw [this];exact h
theorem cV.join{ys:List Str}(h:∀y∈ys,cV y):cV (Txt.join "" ys):=by
 have key:∀ys:List Str,(∀y∈ys,cV y)->cV (MF "" ys):=by
  intro ys;have e:cV ("":Str):=λc hc=>by
   have:("":Str).cps.toList=[]:=NA
   rw [this] at hc;cases hc
  induction ys with
  | nil=>intro _;exact e
  | cons y r ih=>
   intro h;cases r with
   | nil=>exact h y NH
   | cons z r=>exact((h y NH).append e).append (ih λw hw=>h w (by simp [hw]))
 rw [show Txt.join "" ys=MF "" ys from L8 "" ys];exact key ys h
theorem GF{j:Int}(h0:0<=j)(h1:j < 26):cz j∈cH.cps.toList:=by
 obtain⟨c,_,e2,_⟩:=jX h0 h1;have:cz j=c:=by unfold cz;rw [e2];rfl
 rw [this];exact Ik e2
def iy(st:Str)(at0 fs sp:Int)(k:Nat):Str:=Txt.slice st none (some at0)++⟨#[cz ((fs+sp*(0+(k:Int)))% 26)]⟩++Txt.slice st (some at0) none
theorem GG{st:Str}{at0 fs sp:Int}{a b:Nat}(h:iy st at0 fs sp a=iy st at0 fs sp b):cz ((fs+sp*(0+(a:Int)))% 26)=cz ((fs+sp*(0+(b:Int)))% 26):=by
 have z:=congrArg (λs:Str=>s.cps.toList) h;unfold iy at z;simp only [jW,J4] at z;have z:=List.append_cancel_left (List.append_cancel_right z);exact(List.cons.inj z).1
theorem GH{st:Str}{at0 fs sp:Int}{k:Nat}(h:cV st)(l7:st.length<=7)(a0:0<=at0)(a1:at0<=st.length):Nm (iy st at0 fs sp k):=by
 rw [n9] at l7 a1;have e:(iy st at0 fs sp k).cps.toList=st.cps.toList.take at0.toNat++[cz ((fs+sp*(0+(k:Int)))% 26)]++st.cps.toList.drop at0.toNat:=by
  unfold iy;rw [jW,jW,J4,J4,uL,uL,Di a0 a1,Dj a0 a1]
 refine Nm.of e ?_ ?_ λc hc=>?_
 ·simp only [HU,HN,Jt];omega
 ·simp only [HU,HN,Jt,IH,JB];omega
 ·rcases Ij.mp hc with z | z
  ·rcases Ij.mp z with z | z
   ·exact h c (IS z)
   ·rw [Ig.mp z];exact GF (LY _ NB) (Lg _ NB)
  ·exact h c (JY z)
def GI:List NI->(NI->Prop)->Prop:=λds Q=>ds=[di,.int 12]/\∀ss:List Str,ss.length=12->fR ss->ss.Nodup->Q (.list (ss.map .str))
theorem GJ(T:Txt K mg t):aO P w K mg base CX0 2 t.a_a t.d_a ["_law_purse_here","_law_many"] (aT K GI):=by
 have G_Z:=@ix P w _ _ base _ T;refine T.F_a.F.okD jm (λds Q h=>?_) (λ_ _ _ _ H O ds Q E hr h=>?_)
 ·obtain⟨rfl,_⟩:=h;rfl
 ·obtain⟨rfl,q⟩:=h;refine'⟨_,?A,?B⟩
  case A=>
   refine' av ?C ?D
   case C=>exact(bK (i:=2) jm.nd rfl NG aM)
   case' D=>refine' av ?E ?F
   case E=>
    refine' bK (i:=3) jm.nd rfl NG ?G (hs:=jf)
    case G=>exact(Ca aM (df (fe (lB rfl xC rfl T.n_range (aH (aq G_Z hr T.F_Z (aa (dv 0) (aa af ag))) aG) bw cw NB (λ_ _ _ _=>(bq (i:=0) xC.nd rfl NG)) (λ_ _ _ _=>dO) (λ_ _ _ _=>(ay qV tw (dv 1) (aq G_Z hr T.F_Z (aa (dv 2) (aa af ag)))))))))
   case' F=>refine' av ?H ?I
   case H=>
    refine' bK (i:=4) jm.nd rfl NG ?J (hs:=jf)
    case J=>exact(aq G_Z hr T.F_Z (aa (dv 0) (aa (aK bV bC (PE.imp (aS qX rfl T.n_len HW (aH (dv 3) aG)) (aP uh)) af) ag)))
   case' I=>refine' av ?K ?L
   case K=>
    generalize hE10_0:MW _ _=ee10_0;exact(sr (bb (aa (aq G_Z hr T.F_Z (aa (dv 0) (aa af ag))) (aa (ay bH bX (fe (tW (ds:=[.int 1,.int 3,.int 5,.int 7,.int 9,.int 11]) (by first | (subst hE10_0;rfl)))) (aq G_Z hr T.F_Z (aa (dv 0) (aa af ag)))) ag))) (mG (n:=2) rfl (g6 (bq (i:=5) jm.nd rfl NG) (g6 (bq (i:=6) jm.nd rfl NG) mE))) (sk (jN bw (jN bw si))))
   case' L=>refine' av ?M ?N
   case M=>
    refine' aW ?O ?P aV
    case O=>exact(aL (bM hr.units) bN (aq G_Z hr T.F_Z (aa (dv 0) (aa af ag))) af (aC _))
    case' P=>refine' au ?Q
    case' Q=>generalize hE14_0:MW _ _=ee14_0
    exact(aA (fe (ic (df (fe (tW (ds:=[.str "paper",.str "rule",.str "keep",.str "gone",.str "deep",.str "first",.str "kind",.str "leave",.str "made",.str "held",.str "lift",.str "end"]) (by first | (subst hE14_0;rfl))))) cy (bU (dv 1)))))
   case' N=>refine' au ?R
   case' R=>refine' aA ?S
   case' S=>refine' fe ?T
   case T=>exact(lB rfl xD rfl T.n_range (aH (dv 1) aG) bw cw NB (λ_ _ _ _=>(bq (i:=0) xD.nd rfl NG)) (λ_ _ _ _=>dO) (λ_ _ _ _=>(aK qE tq (aK qE tq (tE (df (dv 1)) cy (bU (dv 3))) (ay qV tw (dv 2) (aK fi cN (aK bV bC (dv 4) (aK fD cN (dv 5) (dv 0))) af))) (tE (df (dv 1)) (bU (dv 3)) cy))))
  case B=>
  clear hr T G_Z;walk_at "a";refine⟨8,rfl,NB,NB,λj j0 j8=>⟨j,rfl,NC,by have:((16777216:Nat):Int)=16777216:=rfl;omega,?_⟩⟩;refine⟨λi acc=>∃ys:List Str,acc=ys.map .str/\ys.length=i/\∀y∈ys,cu 1 y/\cV y,⟨[],rfl,rfl,NH⟩,?_,?_⟩
  ·rintro i z acc hz ⟨ys,rfl,hl,hg⟩;obtain⟨hi,rfl⟩:=gn hz;walk_at "a";refine⟨26,rfl,NB,NB,λa a0 a1=>?_⟩;obtain⟨x,e1,x2,x1⟩:=jX a0 a1;refine⟨_,rfl,NA,x,e1,ys++[⟨#[x]⟩],by rw [Io];rfl,by simp [hl],λz hz=>?_⟩;rcases Ij.mp hz with h | h
   ·exact hg z h
   ·rw [Ig] at h;rw [h];exact⟨cu.chr x1,cV.chr (Ik x2)⟩
  ·rintro acc ⟨ys,rfl,hl,hg⟩;rw [gJ] at hl;have gj:=cu.join λy hy=>(hg y hy).1;have aj:=cV.join λy hy=>(hg y hy).2;have sl:(ys.map λx=>x.length).sum<=ys.length:=by
    clear hl gj aj
    induction ys with
    | nil=>simp
    | cons y ys ih=>
     rw [HF,MZ,HN];have:=(hg y NH).1.le;have:=ih λz hz=>hg z (by simp [hz]);omega
   have l7:ys.length<=7:=NC
   refine⟨ys,rfl,?_⟩;generalize hst:Txt.join (HD "") ys=st;have gs:cu 7 st:=by rw [<-hst];exact gj.mono l7
   have ab:cV st:=by rw [<-hst];exact aj
   have e0:(HD "").length=0:=NA
   have gl:=gs.le;refine⟨by rw [e0];omega,NC,_,rfl,NC,NC,λat0 a0 a1=>⟨26,rfl,NB,NB,λfs f0 f1=>⟨6,rfl,NB,NB,λsx s0 s1=>⟨_,rfl,?_⟩⟩⟩⟩;have six:∃sp:Int,atI [HG 1,HG 3,HG 5,HG 7,HG 9,HG 11] sx=some (.int sp)/\(0<=sp/\sp<=11)/\(sp=1\/sp=3\/sp=5\/sp=7\/sp=9\/sp=11):=by
    have:sx=0\/sx=1\/sx=2\/sx=3\/sx=4\/sx=5:=NC
    rcases this with h | h | h | h | h | h <;> subst h
    ·exact⟨1,rfl,NB,NB⟩
    ·exact⟨3,rfl,NB,NB⟩
    ·exact⟨5,rfl,NB,NB⟩
    ·exact⟨7,rfl,NB,NB⟩
    ·exact⟨9,rfl,NB,NB⟩
    ·exact⟨11,rfl,NB,NB⟩
   obtain⟨sp,hsp,⟨p0,p1⟩,p6⟩:=six;refine⟨_,hsp,8,rfl,NB,NB,λv v0 v1=>⟨fJ,?_⟩⟩;rw [lE];split
   ·exact q pJ rfl GC NA
   ·have g1:=gs.slice none (some at0);have g2:=gs.slice (some at0) none;have abr:∀i:Nat,cz ((fs+sp*(0+(i:Int)))% 26) < 0x110000/\atI cH.cps.toList ((fs+sp*(0+(i:Int)))% 26)=some (cz ((fs+sp*(0+(i:Int)))% 26)):=λi=>(CF NC NC).symm;refine⟨NB,λi acc=>acc=((IG i).map λ(k:Nat)=>iy st at0 fs sp k).map .str,rfl,?_,?_⟩
    ·rintro i z acc hz rfl;obtain⟨hi,rfl⟩:=gn hz;walk_at "a";obtain⟨x1,e1⟩:=abr i;have lx:(⟨#[cz ((fs+sp*(0+(i:Int)))% 26)]⟩:Str).length=1:=rfl;have l1:=g1.le;have l2:=g2.le;have ga:=(g1.append (cu.chr x1)).append g2;have gal:=ga.le;refine⟨NC,.inl ⟨NC,NC⟩,NA,_,e1,by rw [lx];omega,NC,by rw [tX,lx];omega,?_⟩;rw [JO,Io,Io];rfl
    ·rintro acc rfl;rw [gJ];refine q _ NH (λz hz=>?_) ?_
     ·obtain⟨k,_,rfl⟩:=HR.mp hz;exact GH ab gl a0 NC
     ·rw [LB,Jw];refine Kt.mpr λa b ha hb lt e=>?_;rw [Mv,Mv] at e;have hb:b < 12:=by simpa using hb
      have e2:=GG e;have e3:=CG NC NC NC NC e2;rcases p6 with h | h | h | h | h | h <;> subst h <;> omega
def GK:List NI->(NI->Prop)->Prop:=λds Q=>∃far:Int,ds=[di,.int far]/\∀d:Int,0<=d->d < 100000->Q (.int d)
theorem xI{a b:NI}{i:Int}(h0:0<=i)(h1:i < 2):∃d,atI [a,b] i=some d/\(d=a\/d=b):=by
 have:i=0\/i=1:=NC
 rcases this with e | e <;> subst e
 ·exact⟨_,cR,.inl rfl⟩
 ·exact⟨_,cZ,.inr rfl⟩
theorem GL{y m n:Int}(y0:2000<=y)(y1:y<=2269)(m1:1<=m)(m2:m<=12)(n1:1<=n)(n2:n<=bp y m):0<=kh y m n/\kh y m n < 100000:=by
 have ba:=EL (y:=y) m1 m2;have ld:=vN y;have ys:0<=iq y/\iq y<=98300:=by unfold iq lb;omega
 unfold kh;omega
theorem GN(T:Txt K mg t):aO P w K mg base CX0 3 t.a_e t.d_e ["_law_purse_here","_law_far"] (aT K GK):=by
 have G_Z:=@ix P w _ _ base _ T;have G_b:=@xG P w _ _ base _ T;have G_d:=@GB P w _ _ base _ T;refine T.F_e.F.okD wL (λds Q h=>?_) (λ_ _ _ _ H O ds Q E hr h=>?_)
 ·obtain⟨far,rfl,_⟩:=h;rfl
 ·obtain⟨far,rfl,q⟩:=h;refine'⟨_,?A,?B⟩
  case A=>
   refine' av ?C ?D
   case C=>
    refine' aW ?E ?F aV
    case E=>exact(aL (bM hr.units) bN (dv 1) af (aC _))
    case' F=>refine' au ?G
    case G=>exact(aA (aq G_Z hr T.F_Z (aa (dv 0) (aa af ag))))
   case' D=>refine' av ?H ?I
   case H=>
    refine' aW ?J ?K aV
    case J=>exact(aL (bM hr.units) bN (aq G_Z hr T.F_Z (aa (dv 0) (aa af ag))) af (aC _))
    case' K=>refine' au ?L
    case L=>exact(aA (aq G_Z hr T.F_Z (aa (dv 0) (aa af ag))))
   case' I=>refine' av ?M ?N
   case M=>exact(sv (i:=2) (j:=3) rfl wL.nd rfl rfl NB rfl rfl (aa (aK bV bC af (aq G_Z hr T.F_Z (aa (dv 0) (aa af ag)))) (aa (aK bV bC af (aq G_Z hr T.F_Z (aa (dv 0) (aa af ag)))) ag)) (by rfl))
   case' N=>refine' au ?O
   case' O=>refine' aA ?P
   case P=>exact(aq G_d hr T.F_d (aa (dv 2) (aa (dv 3) (aa (ay bH bX (fe (cv (aa af (aa (aK eF bC (aq G_b hr T.F_b (aa (dv 2) (aa (dv 3) ag))) (aq G_Z hr T.F_Z (aa (dv 0) (aa af ag)))) ag)))) (aq G_Z hr T.F_Z (aa (dv 0) (aa af ag)))) ag))))
  case B=>
  clear hr T G_Z G_b G_d;walk_at "a";split
  ·exact⟨41,rfl,NB,NB,λd d0 d1=>q d d0 NC⟩
  ·refine⟨2,rfl,NB,NB,λv v0 v1=>⟨fJ,?_⟩⟩;rw [lE];split
   ·exact⟨100000,rfl,NB,NB,λd d0 d1=>q d d0 d1⟩
   ·refine⟨270,rfl,NB,NB,λy y0 y1=>⟨_,rfl,12,rfl,NB,NB,λm m0 m1=>⟨_,rfl,?_⟩⟩⟩;refine⟨2000+y,1+m,rfl,NC,NC,4,rfl,NB,NB,λz z0 z1=>⟨_,rfl,_,rfl,2,rfl,NB,NB,λe e0 e1=>⟨_,rfl,?_⟩⟩⟩;have mb:=vP (y:=2000+y) (m:=1+m) NC NC;have nb:∀n,1<=n->n<=bp (2000+y) (1+m)->xH [.int (2000+y),.int (1+m),.int n] Q:=λn n1 n2=>by
     have:=GL (y:=2000+y) (m:=1+m) (n:=n) NC NC NC NC n1 n2;exact⟨_,_,_,rfl,NC,NC,q _ this.1 this.2⟩
    obtain⟨d,hd,hd'⟩:=xI (a:=HG 1) (b:=HG (bp (2000+y) (1+m) - z)) e0 e1;refine⟨d,hd,?_⟩;rcases hd' with h | h <;> rw [h]
    ·exact nb 1 NC NC
    ·exact nb _ NC NC
structure pK (ns ks:List Str) (far:Int):Prop where
 nl:ns.length=12
 no:fR ns
 nn:ns.Nodup
 k0:2<=ks.length
 k1:ks.length<=3
 ko:fR ks
 f0:0<=far
 f1:far<=1
def pL:Str:=HD "keep"
def GO:List NI->(NI->Prop)->Prop:=λds Q=>∃(ns ks:List Str)(far:Int),ds=[di,.str pL,.list (ns.map .str),.list (ks.map .str),.int far]/\pK ns ks far/\∀d,gw d->Q d
theorem fb{ss:List Str}{i:Int}(h0:0<=i)(h1:i < ss.length):∃s∈ss,atI (ss.map Hy) i=some (.str s):=by
 obtain⟨k,rfl⟩:=Jp h0;have hk:k < ss.length:=NC
 exact⟨ss[k],IP hk,cQ (by simp [hk])⟩
theorem GP(T:Txt K mg t):aO P w K mg base CX0 2 t.a_f t.d_f ["_law_purse_here","_law_word","_law_names_here","_law_kinds","_law_far"] (aT K GO):=by
 have G_Z:=@ix P w _ _ base _ T;refine T.F_f.F.okD l6 (λds Q h=>?_) (λ_ _ _ _ H O ds Q E hr h=>?_)
 ·obtain⟨ns,ks,far,rfl,_⟩:=h;rfl
 ·obtain⟨ns,ks,far,rfl,dr,q⟩:=h;refine'⟨_,?A,?B⟩
  case A=>
   refine' av ?C ?D
   case C=>
    refine' bK (i:=5) l6.nd rfl NG ?E (hs:=jg)
    case' E=>refine' dz bH bX (df (dv 3)) ?F
    case F=>exact(df (aq G_Z hr T.F_Z (aa (dv 0) (aa (PE.imp (aS bI rfl T.n_len HW (aH (dv 3) aG)) (aP bO)) ag))))
   case' D=>refine' av ?G ?H
   case G=>
    refine' aW ?I ?J aV
    case I=>exact(aL (ue hr) lI (dv 1) (bb (aa aM (aa aM ag))) rfl)
    case' J=>refine' au ?K
    case K=>exact(aA (bb (aa (dv 1) (aa (dv 5) ag))))
   case' H=>refine' av ?L ?M
   case L=>
    generalize hG10:MU _ _ _=eg10;refine' bK (i:=6) l6.nd rfl NG ?N (hs:=by subst hG10;exact jg)
    case' N=>subst hG10
    refine' dz bH bX (df ?O) ?P
    case O=>
     refine' fe ?Q
     case' Q=>refine' cv ?R
     case' R=>refine' aa ?S ?T
     case S=>exact(bb (aa aM ag))
     case' T=>refine' aa ?U ?V
     case U=>exact(bb (aa aM (aa (ay bH bX (dv 2) af) ag)))
     case' V=>refine' aa ?W ag
     case' W=>refine' bb ?X
     case' X=>refine' aa aM ?Y
     case' Y=>refine' aa ?Z ag
     case' Z=>refine' dz bH bX (df (dv 2)) ?a
     case a=>exact(df (aK bV bC af (aq G_Z hr T.F_Z (aa (dv 0) (aa af ag)))))
    case P=>exact(df (aq G_Z hr T.F_Z (aa (dv 0) (aa af ag))))
   case' M=>refine' av ?b ?c
   case b=>
    refine' aW ?d ?e aV
    case d=>exact(aL (bM hr.units) bN (dv 4) af (aC _))
    case' e=>refine' au ?f
    case' f=>refine' aA ?g
    case' g=>refine' bb ?h
    case' h=>refine' aa (dv 1) ?i
    case' i=>refine' aa (dv 5) ?j
    case' j=>refine' aa (dv 6) ?k
    case' k=>refine' aa ?l ?m
    case l=>exact(aq G_Z hr T.F_Z (aa (dv 0) (aa af ag)))
    case m=>refine' aa aM ag
   case' c=>refine' av ?n ?o
   case n=>
    refine' bK (i:=7) l6.nd rfl NG ?p (hs:=jf)
    case p=>exact(aq G_Z hr T.F_Z (aa (dv 0) (aa (ay bH bX (fe (cv (gM (ds:=[.int 1000,.int 14,.int 30]) (by rfl)))) (aq G_Z hr T.F_Z (aa (dv 0) (aa af ag)))) ag)))
   case' o=>refine' au ?q
   case' q=>refine' aA ?r
   case' r=>refine' bb ?s
   case' s=>refine' aa (dv 1) ?t
   case' t=>refine' aa (dv 5) ?u
   case' u=>refine' aa (dv 6) ?v
   case' v=>refine' aa (dv 7) ?w
   case' w=>refine' aa ?x ag
   case' x=>refine' dz bH bX (df ?y) ?z
   case y=>exact(fe (cv (gM (ds:=[.str "days",.str "months",.str "years"]) (by rfl))))
   case z=>exact(df (aq G_Z hr T.F_Z (aa (dv 0) (aa af ag))))
  case B=>
  clear hr T G_Z;walk_at "a";refine⟨_,rfl,by rw [HB];have:=dr.k0;omega,by rw [HB];have:=dr.k1;omega,λi i0 i1=>⟨_,rfl,?_⟩⟩;rw [HB] at i1;obtain⟨kd,hk,ek⟩:=fb i0 i1;have kok:=dr.ko kd hk;refine⟨_,ek,gi.mpr (show Im pL=true by decide+kernel),NA,?_⟩;rw [ND NA];have nl:=dr.nl;obtain⟨n6,h6,e6⟩:=fb (ss:=ns) (i:=6) NB NC;refine⟨_,e6,2,rfl,NB,NB,λj j0 j1=>⟨_,rfl,?_⟩⟩;obtain⟨n7,h7,e7⟩:=fb (ss:=ns) (i:=6+j) NC NC;refine⟨_,e7,3,rfl,NB,NB,λv v0 v1=>⟨_,rfl,?_⟩⟩;have sn:∃s:NI,fL s/\atI [HI [Hy (HD "coming")],HI [Hy (HD "first"),.str n6],HI [Hy (HD "last"),.str n7]] v=some s:=by
   have:v=0\/v=1\/v=2:=NC
   rcases this with e | e | e <;> subst e
   ·exact⟨_,.coming,rfl⟩
   ·exact⟨_,.first (dr.no n6 h6),rfl⟩
   ·exact⟨_,.last (dr.no n7 h7),rfl⟩
  obtain⟨sn,so,es⟩:=sn;refine⟨_,es,?_⟩;have fin:∀(k:Int)(u:Str),0<=k->k < 1000->u∈units->Q (HI [Hy pL,.str kd,sn,.int k,.str u]):=λk u k0 k1 hu=>q _ (.kg HZ kok so k0 NC hu);split
  ·exact⟨21,rfl,NB,NB,λk k0 k1=>fin k _ k0 NC HZ⟩
  ·refine⟨3,rfl,NB,NB,λa a0 a1=>⟨_,rfl,?_⟩⟩;have mx:∃z:Int,0 < z/\z<=1000/\atI [HG 1000,HG 14,HG 30] a=some (.int z):=by
    have:a=0\/a=1\/a=2:=NC
    rcases this with e | e | e <;> subst e
    ·exact⟨1000,NB,NB,rfl⟩
    ·exact⟨14,NB,NB,rfl⟩
    ·exact⟨30,NB,NB,rfl⟩
   obtain⟨z,z0,z1,ez⟩:=mx;refine⟨_,ez,z,rfl,z0,NC,λk k0 k1=>⟨3,rfl,NB,NB,λb b0 b1=>⟨_,rfl,?_⟩⟩⟩;have:b=0\/b=1\/b=2:=NC
   rcases this with e | e | e <;> subst e
   ·exact⟨_,cR,fin k _ k0 NC HZ⟩
   ·exact⟨_,cZ,fin k _ k0 NC (Ic _ HZ)⟩
   ·exact⟨_,jR,fin k _ k0 NC (Ic _ (Ic _ HZ))⟩
end
theorem xJ:bu (aD lY) ["_law_purse_here","_law_word","_law_names_here","_law_kinds","_law_far","_law_day_here","_law_name","_law_some","_law_kind","_law_target"] ["_law_one","_law_purse_here"] 1 [0] ⟨HS,[ (Hz ".0",O5),(Hz "_law_one",O5),(Hz "_law_take",Ib),(Hz "_law_purse_here",HY)],false,false,[]⟩:= .of
section
variable {P:NV} {w:NX} {K:Hx} {mg:Str->Option NJ} {base:NZ} {t:cI}
theorem GQ{a b:Str}(h:cO a b=true)(n:a≠b):ik a b:=by
 unfold cO at h;unfold ik;have h:=of_decide_eq_true h;rcases List.le_iff_lt_or_eq.mp h with z | z
 ·exact z
 ·exact absurd (by cases a;cases b;simp at z;rw [z]) n
theorem GR{ss:List Str}(h4:ss.length<=4)(hn:∀z∈ss,Nm z)(nd:ss.Nodup):j5 (eM ss):=by
 refine⟨by rw [(lJ ss).length_eq];exact h4,λm hm=>hn m ((lJ ss).mem_iff.mp hm),?_⟩;have n2:(eM ss).Nodup:=(lJ ss).nodup_iff.mpr nd;exact((uq ss).and n2).imp λh=>GQ h.1 h.2
def kD:List Str:=["paper","happens","hold","keep"]
structure fz (x:De):Prop where
 dv:cT x.enc
 np:∀w d nm r,x= .oth w d nm r->w≠HD "paper"
def GS:List NI->(NI->Prop)->Prop:=λds Q=>∃(wo:Str)(ns ks:List Str)(far:Int),ds=[di,.str wo,.list (ns.map .str),.list (ks.map .str),.int far]/\wo∈kD/\pK ns ks far/\∀x:De,fz x->(wo=HD "paper"->∃p,x= .pap p)->Q x.enc
theorem GU(T:Txt K mg t):aO P w K mg base CX0 4 t.a_g t.d_g ["_law_purse_here","_law_word","_law_names_here","_law_kinds","_law_far"] (aT K GS):=by
 have G_Z:=@ix P w _ _ base _ T;have G_e:=@GN P w _ _ base _ T;have G_f:=@GP P w _ _ base _ T;refine T.F_g.F.okD jn (λds Q h=>?_) (λ_ _ _ _ H O ds Q E hr h=>?_)
 ·obtain⟨wo,ns,ks,far,rfl,_⟩:=h;rfl
 ·obtain⟨wo,ns,ks,far,rfl,hw,dr,q⟩:=h;refine'⟨_,?A,?B⟩
  case A=>
   refine' av ?C ?D
   case C=>exact(bK (i:=5) jn.nd rfl NG (aq G_e hr T.F_e (aa (dv 0) (aa (dv 4) ag))))
   case' D=>refine' av ?E ?F
   case E=>exact(bK (i:=6) jn.nd rfl NG (ay bH bX (dv 2) (aq G_Z hr T.F_Z (aa (dv 0) (aa af ag)))))
   case' F=>refine' av ?G ?H
   case G=>
    refine' aW ?I ?J aV
    case I=>exact(aL (cA hr) cB (dv 1) aM (aC _))
    case' J=>refine' av ?K ?L
    case K=>exact(nU (i:=7) jn.nd rfl NG (CJ rfl xJ (df (fe (ic (df (dv 2)) cy (bU af)))) bw cw NB (λ_ _ _ _=>(bq (i:=0) xJ.nd rfl NG)) (λ_ _ _ _=>(gE (aL (bM hr.units) bN (aq G_Z hr T.F_Z (aa (dv 1) (aa af ag))) af (aC _)))) (λ_ _ _ _=>(dv 0))))
    case' L=>refine' au ?M
    case' M=>refine' aA ?N
    case' N=>refine' bb ?O
    case' O=>refine' aa (dv 1) ?P
    case' P=>refine' aa (dv 5) ?Q
    case' Q=>refine' aa (dv 6) ?R
    case' R=>refine' aa ?S ?T
    case S=>
     refine' dz bH bX (df (dv 3)) ?U
     case U=>exact(df (aq G_Z hr T.F_Z (aa (dv 0) (aa (PE.imp (aS bI rfl T.n_len HW (aH (dv 3) aG)) (aP bO)) ag))))
    case' T=>refine' aa ?V ag
    case V=>exact(PE.imp (fE jI rfl T.n_tuple eI (aH (fe (C2 rfl T.n_sorted LM (aH (fe (ic (df (dv 7)) cy (bU af))) aG))) aG)) (aP jQ))
   case' H=>refine' av ?W ?X
   case W=>
    refine' aW ?Y ?Z aV
    case Y=>exact(aL (cA hr) cB (dv 1) aM (aC _))
    case' Z=>refine' au ?a
    case' a=>refine' aA ?b
    case' b=>refine' bb ?c
    case' c=>refine' aa (dv 1) ?d
    case' d=>refine' aa (dv 5) ?e
    case' e=>refine' aa (dv 6) ?f
    case' f=>refine' aa ?g ag
    case' g=>refine' dz bH bX (df (dv 2)) ?h
    case h=>exact(df (aK bV bC af (aq G_Z hr T.F_Z (aa (dv 0) (aa af ag)))))
   case' X=>refine' av ?i ?j
   case i=>
    refine' aW ?k ?l aV
    case k=>exact(aL (fq hr) ft (dv 1) (bb (aa aM (aa aM ag))) rfl)
    case' l=>refine' au ?m
    case m=>exact(aA (bb (aa (dv 1) (aa (dv 5) (aa (dv 6) ag)))))
   case' j=>refine' av ?n ?o
   case n=>
    refine' bK (i:=8) jn.nd rfl NG ?p (hs:=jg)
    case' p=>refine' dz bH bX (df (dv 3)) ?q
    case q=>exact(df (aq G_Z hr T.F_Z (aa (dv 0) (aa (PE.imp (aS bI rfl T.n_len HW (aH (dv 3) aG)) (aP bO)) ag))))
   case' o=>refine' av ?r ?s
   case r=>
    refine' aW ?t ?u aV
    case t=>exact(aL (cA hr) cB (dv 1) aM (aC _))
    case' u=>refine' av ?v ?w
    case v=>
     refine' bK (i:=9) jn.nd rfl NG ?x (hs:=jg)
     case' x=>refine' dz bH bX (df ?y) ?z
     case y=>
      refine' fe ?A0
      case' A0=>refine' cv ?A1
      case' A1=>refine' aa ?A2 ?A3
      case A2=>
       refine' bb ?A4
       case' A4=>refine' aa aM ?A5
       case' A5=>refine' aa ?A6 ag
       case A6=>exact(ay bH bX (dv 2) (aq G_Z hr T.F_Z (aa (dv 0) (aa af ag))))
      case' A3=>refine' aa ?A7 ag
      case A7=>exact(bb (aa aM (aa (dv 8) ag)))
     case z=>exact(df (aq G_Z hr T.F_Z (aa (dv 0) (aa af ag))))
    case' w=>refine' au ?A8
    case' A8=>refine' aA ?A9
    case' A9=>refine' bb ?AA
    case' AA=>refine' aa (dv 1) ?AB
    case' AB=>refine' aa (dv 5) ?AC
    case' AC=>refine' aa (dv 6) ?AD
    case' AD=>refine' aa (dv 9) ?AE
    case' AE=>refine' aa ?AF ag
    case AF=>exact(bS (bM hr.units) bN (df (aq G_Z hr T.F_Z (aa (dv 0) (aa af ag)))) (df af) (aC _))
   case' s=>refine' av ?AG ?AH
   case AG=>
    refine' aW ?AI ?AJ aV
    case AI=>exact(aL (cA hr) cB (dv 1) aM (aC _))
    case' AJ=>refine' au ?AK
    case AK=>exact(aA (bb (aa aM (aa (dv 5) (aa (dv 6) (aa (dv 8) ag))))))
   case' AH=>refine' au ?AL
   case' AL=>refine' aA ?AM
   case' AM=>refine' bb ?AN
   case' AN=>refine' aa aM ?AO
   case' AO=>refine' aa (dv 5) ?AP
   case' AP=>refine' aa (dv 6) ?AQ
   case' AQ=>refine' aa ?AR ag
   case AR=>exact(aq G_f hr T.F_f (aa (dv 0) (aa (dv 1) (aa (dv 2) (aa (dv 3) (aa (dv 4) ag))))))
  case B=>
  clear hr T G_Z G_e G_f;walk_at "a";refine⟨far,rfl,λd d0 d1=>⟨10,rfl,NB,NB,λi i0 i1=>⟨_,rfl,?_⟩⟩⟩;have nl:=dr.nl;have k0:=dr.k0;have k1:=dr.k1;obtain⟨nm,hn,en⟩:=fb (ss:=ns) i0 NC;have nok:=dr.no nm hn;have dn:gR d:=⟨d0,NC⟩;refine⟨_,en,?_⟩;have kinds:∀R:NI->Prop,(∀kd∈ks,R (.str kd))->nK [di,HG ((HQ Hy ks).length:Int)] λy=>∃x,y=HG x/\∃x_2,atI (HQ Hy ks) x=some x_2/\R x_2:=λR hR=>by
   refine⟨_,rfl,by rw [HB];omega,by rw [HB];omega,λi i0 i1=>⟨_,rfl,?_⟩⟩;rw [HB] at i1;obtain⟨kd,hk,ek⟩:=fb i0 i1;exact⟨_,ek,hR kd hk⟩
  by_cases hp:wo=HD "paper"
  ·rw [NF (by rw [hp];exact beq_self_eq_true _)];have ec:aR (HQ Hy ns) none (some 10)=(ns.take 10).map Hy:=by
    rw [i8 NB (by simp;omega),<-Km];rfl
   rw [ec];refine⟨by rw [HB,IH];omega,λi acc=>∃ss:List Str,acc=ss.map .str/\ss.Sublist ((ns.take 10).take i),⟨[],rfl,List.nil_sublist _⟩,?_,?_⟩
   ·rintro i z acc hz ⟨ss,rfl,hs⟩;rw [Ie] at hz;cases hz':(ns.take 10)[i]? with
    | none=>rw [hz'] at hz;cases hz
    | some x=>
     rw [hz'] at hz;cases hz;walk_at "a";refine⟨3,rfl,NB,NB,λv v0 v1=>⟨fJ,?_⟩⟩;rw [lE];split
     ·refine⟨ss++[x],by rw [Io];rfl,?_⟩;rw [Js,hz'];exact hs.append (.refl _)
     ·refine⟨ss,rfl,?_⟩;rw [Js];exact hs.trans (List.sublist_append_left _ _)
   ·rintro acc ⟨ss,rfl,hs⟩;have hs:ss.Sublist (ns.take 10):=hs.trans (JU _ _);have hm:∀z∈ss,Nm z:=λz hz=>dr.no z (IS (hs.subset hz));have snd:ss.Nodup:=(dr.nn.sublist (JU _ _)).sublist hs;refine kinds (λx_2=>∃ss_1,aR (HQ Hy ss) none (some 4)=HQ Hy ss_1/\ss_1.length < 64/\Q (HI [Hy wo,.int d,.str nm,x_2,HI (HQ Hy (eM ss_1))])) λkd hk=>?_;have cc:aR (HQ Hy ss) none (some 4)=(ss.take 4).map Hy:=by
     by_cases h4:4<=ss.length
     ·rw [i8 NB (by simp;omega),<-Km];rfl
     ·match ss,h4 with
      | [],_=>rfl
      | [a],_=>rfl
      | [a,b],_=>rfl
      | [a,b,c],_=>rfl
      | a::b::c::e::l,h4=>exact absurd h4 NH
    refine⟨ss.take 4,cc,by rw [IH];omega,?_⟩;rw [hp];exact q (.pap ⟨d,nm,kd,eM (ss.take 4)⟩) ⟨.paper dn nok (dr.ko kd hk) (GR (by rw [IH];omega) (λz hz=>hm z (IS hz)) (snd.sublist (JU _ _))),λ_ _ _ _ e=>by cases e⟩ λ_=>⟨_,rfl⟩
  ·rw [fy hp,ND IJ];have q2:∀(w:Str)(r:List NI),w≠HD "paper"->cT (.tuple (.str w:: .int d:: .str nm::r))->Q (.tuple (.str w:: .int d:: .str nm::r)):=λw r wp dv=>
    q (.oth w d nm r) ⟨dv,λw' d' nm' r' e=>by cases e;exact wp⟩ (λe=>absurd e hp)
   simp only [kD,HM,IW,or_false] at hw;rcases hw with e | e | e | e
   ·exact absurd e hp
   ·subst e;rw [NF (beq_self_eq_true _)];refine⟨2,rfl,NB,NB,λj j0 j1=>⟨_,rfl,?_⟩⟩;obtain⟨n7,h7,e7⟩:=fb (ss:=ns) (i:=6+j) NC NC;exact⟨_,e7,q2 _ [.str n7] hp (.two HZ dn nok (dr.no n7 h7))⟩
   ·subst e;rw [ND NA,ND NA];refine kinds _ λkd hk=>?_;rw [NF (beq_self_eq_true _)];refine⟨6,rfl,NB,NB,λj j0 j1=>⟨_,rfl,?_⟩⟩;obtain⟨n3,h3,e3⟩:=fb (ss:=ns) j0 NC;refine⟨_,e3,2,rfl,NB,NB,λv v0 v1=>⟨_,rfl,?_⟩⟩;obtain⟨tg,et,ht⟩:=xI (a:=HI [Hy (HD "paper"),.str n3]) (b:=HI [Hy (HD "kind"),.str kd]) v0 v1;refine⟨_,et,2,rfl,NB,NB,λb b0 b1=>⟨fJ,?_⟩⟩;rcases ht with e | e <;> subst e
    ·exact q2 _ [_,.bool _] hp (.hold dn nok HZ (dr.no n3 h3))
    ·exact q2 _ [_,.bool _] hp (.hold dn nok (Ic _ HZ) (dr.ko kd hk))
   ·subst e;rw [ND NA,ND NA];refine kinds _ λkd hk=>?_;rw [ND NA,ND NA];exact⟨ns,ks,far,rfl,dr,λpt po=>q2 (HD "rule") [pt] NA (.rule dn nok po)⟩
def jt:List (ah×NI):=[(.inr (HD "rule"),.int 1),(.inr (HD "end"),.int 1),(.inr (HD "hold"),.int 2),(.inr (HD "lift"),.int 2)]
theorem GV:Kj (λa p=>dB a p.fst p.snd) [] jt=jt:=by
 rfl
def pM(w:Str):Option NI:=if bz w "rule" "end"=true then some (.int 1) else if bz w "hold" "lift"=true then some (.int 2) else none
theorem xK(w:Str):bZ jt (.inr w)=pM w:=by
 by_cases h1:w=HD "rule"
 ·subst h1;rfl
 by_cases h2:w=HD "end"
 ·subst h2;rfl
 by_cases h3:w=HD "hold"
 ·subst h3;rfl
 by_cases h4:w=HD "lift"
 ·subst h4;rfl
 unfold pM bz;rw [fy h1,fy h2,fy h3,fy h4];unfold bZ jt;have n:∀a:Str,w≠a->decide ((Je a:ah)=Je w)=false:=λa h=>decide_eq_false λe=>h (Kn e).symm;simp only [Jm,n _ h1,n _ h2,n _ h3,n _ h4,List.find?_nil];rfl
theorem xM{w:Str}(h:bz w "rule" "end"=true):bz w "hold" "lift"=false:=by
 simp only [bz,Ks,beq_iff_eq] at h;rcases h with e | e <;> subst e <;> decide+kernel
theorem xN{a b c:Str}(h:¬(a==b)=true):(a==c && b==c)=false:=by
 rw [KN];intro z;rw [HX] at z;exact h (beq_iff_eq.mpr ((beq_iff_eq.mp z.1).trans (beq_iff_eq.mp z.2).symm))
theorem GW{a b:Str}(h:¬(HD "paper"==a || HD "leave"==a)=true):(a==("paper":Str) && b==("paper":Str))=false/\(a==("leave":Str) && b==("leave":Str))=false:=by
 rw [Ks,not_or] at h;constructor <;> rw [KN] <;> intro z <;> rw [HX] at z
 ·exact h.1 (by rw [La];exact z.1)
 ·exact h.2 (by rw [La];exact z.1)
theorem pN{wx wy nx ny:Str}{dx dy:Int}{Q:NI->Prop}(snx:bJ (.str nx))(sny:bJ (.str ny))(q:Q (.bool (nx==ny && (dx==dy && ((bz wx "rule" "end" && bz wy "rule" "end") || (bz wx "hold" "lift" && bz wy "hold" "lift")))))):
 ∃kd:List (ah×NI),[(Hy (HD "rule"),HG 1),(Hy (HD "end"),HG 1),(Hy (HD "hold"),HG 2),(Hy (HD "lift"),HG 2)]=HQ (λp=>(dS p.fst,p.snd)) kd/\
  kd.length<=15/\(∀(p:ah×NI),p∈kd->(match p.snd with | Kc=>true | IZ b=>true | HG i=>true | Hy s=>true | x=>false)=true)/\
  if (bZ (Kj (λa p=>dB a p.fst p.snd) [] kd) (Je wx)).isSome=false then Q (IZ false)
  else ∃x_1,bZ (Kj (λa p=>dB a p.fst p.snd) [] kd) (Je wx)=some x_1/\HJ x_1=true/\HJ ((bZ (Kj (λa p=>dB a p.fst p.snd) [] kd) (Je wy)).getD Kc)=true/\
   if x_1.eqv ((bZ (Kj (λa p=>dB a p.fst p.snd) [] kd) (Je wy)).getD Kc)=false then Q (IZ false)
   else HJ (HI [HG dx,Hy nx])=true/\HJ (HI [HG dy,Hy ny])=true/\Q (IZ ((HI [HG dx,Hy nx]).eqv (HI [HG dy,Hy ny]))):=by
 refine⟨jt,rfl,NB,?_,?_⟩
 ·intro p hp;simp only [jt,HM,IW,or_false] at hp;rcases hp with e | e | e | e <;> rw [e]
 ·rw [GV,xK,xK];have two:∀(d:Int)(n:Str),bJ (.str n)->HJ (HI [HG d,Hy n])=true:=λd n hn=>(dP (n:=1) (bB il (bB (cj (gi.mp hn)) eS))).shp NB;have ev:(HI [HG dx,Hy nx]).eqv (HI [HG dy,Hy ny])=(dx==dy && nx==ny):=by simp [HA,Jr]
  rw [ev];have hx:=xM (w:=wx);have hy:=xM (w:=wy);unfold pM;generalize bz wx "rule" "end"=R,bz wx "hold" "lift"=D at*;generalize bz wy "rule" "end"=R',bz wy "hold" "lift"=D' at*;generalize (dx==dy)=U,(nx==ny)=V at*;have s1:=two dx nx snx;have s2:=two dy ny sny;have i1:HJ (HG 1)=true:=fJ;have i2:HJ (HG 2)=true:=fJ;have i3:HJ Kc=true:=tI;have e1:(HG 1).eqv (HG 2)=false:=rfl;have e2:(HG 2).eqv (HG 1)=false:=rfl;have e3:(HG 1).eqv (HG 1)=true:=rfl;have e4:(HG 2).eqv (HG 2)=true:=rfl;have e5:(HG 1).eqv .none=false:=rfl;have e6:(HG 2).eqv .none=false:=rfl;cases R <;> cases D <;> cases R' <;> cases D' <;> simp_all
  all_goals (cases U <;> cases V <;> simp_all)
def xO:List NI->(NI->Prop)->Prop:=λds Q=>∃x y:De,ds=[x.enc,y.enc]/\fz x/\fz y/\Q (.bool (cJ x.enc y.enc))
theorem GX(T:Txt K mg t):aO P w K mg base CX0 1 t.a_h t.d_h ["_law_one","_law_other"] (aT K xO):=by
 refine T.F_h.F.okD wM (λds Q h=>?_) (λ_ _ _ _ H O ds Q E hr h=>?_)
 ·obtain⟨x,y,rfl,_⟩:=h;rfl
 ·obtain⟨x,y,rfl,gx,gy,q⟩:=h;refine'⟨_,?A,?B⟩
  case A=>
   refine' av ?C ?D
   case C=>
    refine' aW ?E ?F aV
    case E=>exact(PW.pt (d7 (aL (bM hr.units) bN (dv 0) (dv 1) (aC _)) (fG (PW.pt (dJ (aL (bM hr.units) bN (ay aE aF (dv 0) af) (ay aE aF (dv 1) af) (aC _)) (dJ (aL (fq hr) ft (ay aE aF (dv 0) af) (bb (aa aM (aa aM ag))) rfl) (eL (aL (bM hr.units) bN (ay aE aF (dv 0) af) (ay aE aF (dv 1) af) (aC _)))))))))
    case F=>refine' au (aA bW)
   case' D=>refine' av ?G ?H
   case G=>
    generalize hD6:Expr.Dict _ _ _=ed6;refine' oj (i:=2) wM.nd rfl NG ?I (hs:=by subst hD6;first | rfl | exact DN)
    case' I=>subst hD6
    refine' Eo ?p6_0
    case p6_0=>
     refine' kc aM af ?p6_1
     case p6_1=>
      refine' kc aM af ?p6_2
      case p6_2=>
       refine' kc aM af ?p6_3
       case p6_3=>
        refine' kc aM af ?p6_4
        case p6_4=>exact vh
   case' H=>refine' av ?J ?K
   case J=>
    refine' aW ?L ?M aV
    case L=>exact(PW.pt (d7 (vb (i:=2) hr.units (pv 2) (ay aE aF (dv 0) af)) (fG (aL (jO hr.units) jP (u9 (i:=2) hr.units (pv 2) (ay aE aF (dv 0) af) (λ_ _=>rfl)) (Ee (i:=2) hr.units (pv 2) (ay aE aF (dv 1) af) ⟨rfl,rfl,rfl,rfl⟩) (aC _)))))
    case M=>refine' au (aA bW)
   case' K=>refine' au ?N
   case' N=>refine' aA ?O
   case O=>exact(bS (bM hr.units) bN (df (dQ (df (dv 0)) (bU af) (bU af))) (df (dQ (df (dv 1)) (bU af) (bU af))) (aC _))
  case B=>
  clear hr T;have sx:=gx.dv.shp;have sy:=gy.dv.shp;have ex:∃rx,x.enc= .tuple (.str x.w:: .int x.d:: .str x.nm::rx):=by cases x <;> exact⟨_,rfl⟩
  have ey:∃ry,y.enc= .tuple (.str y.w:: .int y.d:: .str y.nm::ry):=by cases y <;> exact⟨_,rfl⟩
  obtain⟨rx,ex⟩:=ex;obtain⟨ry,ey⟩:=ey;rw [ex] at sx q⊢;rw [ey] at sy q⊢;clear ex ey gx gy;generalize x.w=wx,x.d=dx,x.nm=nx at*;generalize y.w=wy,y.d=dy,y.nm=ny at*;have swx:bJ (.str wx):=fK sx _ NH;have swy:bJ (.str wy):=fK sy _ NH;have snx:bJ (.str nx):=fK sx _ NH;have sny:bJ (.str ny):=fK sy _ NH;walk_at "a";refine⟨sx,sy,?_⟩;have fin:∀{b:Bool},b=cJ (.tuple (.str wx:: .int dx:: .str nx::rx)) (.tuple (.str wy:: .int dy:: .str ny::ry))->Q (.bool b):=λe=>by rw [e];exact q
  have qd:cJ (.tuple (.str wx:: .int dx:: .str nx::rx)) (.tuple (.str wy:: .int dy:: .str ny::ry))=(HA (.tuple (.str wx:: .int dx:: .str nx::rx)) (.tuple (.str wy:: .int dy:: .str ny::ry)) || (nx==ny && ((wx==("paper":Str) && wy==("paper":Str)) || (wx==("leave":Str) && wy==("leave":Str)) || (dx==dy && ((bz wx "rule" "end" && bz wy "rule" "end") || (bz wx "hold" "lift" && bz wy "hold" "lift")))))):=rfl;rw [qd] at fin;clear qd q;split
  ·rename_i h0;exact fin (by rw [h0];rfl)
  ·rename_i h0;have h0:(HI (Hy wx::HG dx::Hy nx::rx)).eqv (HI (Hy wy::HG dy::Hy ny::ry))=false:=by simpa using h0
   rw [h0,JS] at fin;refine⟨swx,swy,?_⟩;split
   ·rename_i hw;split
    ·rename_i hp;refine⟨snx,sny,?_⟩;split
     ·rename_i hn;refine fin ?_;rw [hn,IK];have e:=beq_iff_eq.mp hw;subst e;rw [Ks] at hp;rcases hp with z | z
      ·have z:=beq_iff_eq.mp z;subst z;rfl
      ·have z:=beq_iff_eq.mp z;subst z;rw [show((HD "leave")==("leave":Str))=true from beq_self_eq_true _];simp
     ·rename_i hn;have hn:(nx==ny)=false:=by simpa using hn
      exact pN snx sny (fin (by rw [hn,J0,J0]))
    ·rename_i hp;have z:=GW (b:=wy) hp;exact pN snx sny (fin (by rw [z.1,z.2,JS,JS]))
   ·rename_i hw;exact pN snx sny (fin (by rw [xN hw,xN hw,JS,JS]))
end
theorem xP:bu (aD lZ) ["_law_script","_law_menu","_law_most","_law_head","_law_far","_law_chain","_law_names_here","_law_kinds","_law_words","_law_turn","_law_deeds_here","_law_k","_law_deed_here","_law_day_here"] ["_law_one","_law_deed_here"] 1 [12] ⟨HS,[ (Hz ".0",O5),(Hz "_law_one",O5),(Hz "_law_quarrels",Ib),(Hz "_law_deed_here",HY)],false,false,[]⟩:= .of
section
variable {P:NV} {w:NX} {K:Hx} {mg:Str->Option NJ} {base:NZ} {t:cI}
theorem GY{ns:List Str}(l u:Option Int):∃ms:List Str,aR (HQ Hy ns) l u=ms.map Hy/\(∀m∈ms,m∈ns)/\ms.length<=ns.length/\ms.Sublist ns:=by
 unfold aR;rw [<-M3,<-Km];exact⟨_,rfl,λm hm=>JY (IS hm),by rw [IH,JB];omega,(JU _ _).trans (List.drop_sublist _ _)⟩
theorem De.encE(x:De):∃r,x.enc= .tuple (.str x.w:: .int x.d:: .str x.nm::r):=by cases x <;> exact⟨_,rfl⟩
theorem pO(x y:De):cJ x.enc y.enc=cJ y.enc x.enc:=by
 obtain⟨rx,ex⟩:=x.encE;obtain⟨ry,ey⟩:=y.encE;rw [ex,ey];show(HA _ _ || (x.nm==y.nm && ((x.w==("paper":Str) && y.w==("paper":Str)) || (x.w==("leave":Str) && y.w==("leave":Str)) || (x.d==y.d && ((bz x.w "rule" "end" && bz y.w "rule" "end") || (bz x.w "hold" "lift" && bz y.w "hold" "lift"))))))=(HA _ _ || (y.nm==x.nm && ((y.w==("paper":Str) && x.w==("paper":Str)) || (y.w==("leave":Str) && x.w==("leave":Str)) || (y.d==x.d && ((bz y.w "rule" "end" && bz x.w "rule" "end") || (bz y.w "hold" "lift" && bz x.w "hold" "lift"))))));rw [nV,show(x.nm==y.nm)=(y.nm==x.nm) from La,show(x.d==y.d)=(y.d==x.d) from La];simp only [M6]
theorem GZ{xs:List NI}{i:Nat}(h:i<=xs.length):(aR xs (some (if 0+(i:Int) - 1 > 0 then 0+(i:Int) - 1 else 0)) (some (0+(i:Int)))).length<=1:=by
 unfold aR;rw [IH,JB];have e1:HT.sIx xs.length xs.length (some (0+(i:Int)))=i:=by
  rw [gm NC NC];omega
 have e2:HT.sIx xs.length 0 (some (if 0+(i:Int) - 1 > 0 then 0+(i:Int) - 1 else 0))=i - 1:=by
  split
  ·rw [gm NC NC];omega
  ·rw [gm NC NC];omega
 rw [e1,e2];omega
theorem G0{p:Pp}(h:cT p.enc):Nm p.kd:=by
 unfold Pp.enc at h;generalize hd:HI [.str (HD "paper"),.int p.d,.str p.nm,.str p.kd,.tuple (p.ms.map .str)]=d at h;cases h with
 | paper _ _ hk _=>
  simp only [Lf,Jv,J3,LL] at hd;rw [hd.2.2.2.1];exact hk
 | _=>simp at hd
structure eB (xs:List De):Prop where
 e:∀x∈xs,fz x
 q:xs.Pairwise λx y=>cJ x.enc y.enc=false
 l:xs.length<=23
def gZ:List Str:=["paper","paper","happens","hold","keep"]
theorem G1{m:Str}(h:m∈gZ):m∈kD:=by
 simp only [gZ,kD,HM,IW,or_false] at h⊢;rcases h with e | e | e | e | e <;> subst e <;> simp
def G2:List NI->(NI->Prop)->Prop:=λds Q=>∃(cs:List Int),ds=[d6 (cs.map .int),.list (gZ.map .str),.int 6]/\∀(xs:List De)(ns:List Str)(far:Int),eB xs->ns.length=12->fR ns->ns.Nodup->Q (.tuple [.tuple (xs.map De.enc),.list (ns.map .str),.int far])
theorem G3(T:Txt K mg t):aO P w K mg base CX0 5 t.a_i t.d_i ["_law_script","_law_menu","_law_most"] (aT K G2):=by
 have G_Z:=@ix P w _ _ base _ T;have G_Y:=@xB P w _ _ base _ T;have G_X:=@xF P w _ _ base _ T;have G_a:=@GJ P w _ _ base _ T;have G_g:=@GU P w _ _ base _ T;have G_h:=@GX P w _ _ base _ T;refine T.F_i.F.okD eZ (λds Q h=>?_) (λ_ _ _ _ H O ds Q E hr h=>?_)
 ·obtain⟨cs,rfl,_⟩:=h;rfl
 ·obtain⟨cs,rfl,q⟩:=h;refine'⟨_,?A,?B⟩
  case A=>
   refine' av ?C ?D
   case C=>exact(bK (i:=3) eZ.nd rfl NG (aq G_Y hr T.F_Y (aa (aq G_X hr T.F_X (aa (dv 0) (aa af ag))) ag)))
   case' D=>refine' av ?E ?F
   case E=>exact(sv (i:=4) (j:=5) rfl eZ.nd rfl rfl NB rfl rfl (aa (aq G_Z hr T.F_Z (aa (dv 3) (aa af ag))) (aa (bS (bM hr.units) bN (df (aq G_Z hr T.F_Z (aa (dv 3) (aa af ag)))) (df af) (aC _)) ag)) (by rfl))
   case' F=>refine' av ?G ?H
   case G=>exact(bK (i:=6) eZ.nd rfl NG (aq G_a hr T.F_a (aa (dv 3) (aa af ag))))
   case' H=>refine' av ?I ?J
   case I=>
    refine' bK (i:=7) eZ.nd rfl NG ?K (hs:=jg)
    case' K=>refine' fe ?L
    case L=>exact(ic (df (dv 6)) cy (bU (aK bV bC af (aq G_Z hr T.F_Z (aa (dv 3) (aa af ag))))))
   case' J=>refine' av ?M ?N
   case M=>
    generalize hG12:Nw _ _ _ _=eg12;refine' rZ (i:=8) eZ.nd rfl NG ?O (hs:=by subst hG12;exact je)
    case' O=>subst hG12
    exact(EM (cv (aa aM ag)) (aK bV bC af (aq G_Z hr T.F_Z (aa (dv 3) (aa (ay bH bX (fe (cv (aa af (aa af ag)))) (PE.imp (fE mS rfl T.n_int k6 (aH (bS (bM hr.units) bN (df (aq G_Z hr T.F_Z (aa (dv 3) (aa af ag)))) (df af) (aC _)) aG)) (aP nJ))) ag)))))
   case' N=>refine' av ?P ?Q
   case P=>
    refine' nG IU rfl rfl T.n_range (aa (aq G_Z hr T.F_Z (aa (dv 3) (aa (ay bH bX (fe (cv (aa (dv 2) (aa (aK fD cN af (dv 2)) ag)))) (PE.imp (fE mS rfl T.n_int k6 (aH (bS (bM hr.units) bN (df (aq G_Z hr T.F_Z (aa (dv 3) (aa af ag)))) (df af) (aC _)) aG)) (aP nJ))) ag))) ag) ?R bw ?S
    case R=>exact(bq (i:=9) eZ.nd rfl NG)
    case' S=>refine' au ?T
    case' T=>refine' sf (i:=8) (pv 8) ?U
    case' U=>refine' dz bH bX (df (dv 1)) ?V
    case V=>exact(df (aq G_Z hr T.F_Z (aa (dv 3) (aa (PE.imp (aS bI rfl T.n_len HW (aH (dv 1) aG)) (aP bO)) ag))))
   case' Q=>refine' av ?W ?X
   case W=>exact(rZ (i:=10) eZ.nd rfl NG (cv ag))
   case' X=>refine' av ?Y ?Z
   case Y=>
    refine' nG IU rfl rfl T.n_range (aa (PE.imp (aS bI rfl T.n_len HW (lp (dw 8) aG)) (aP bO)) ag) ?a bw ?b
    case a=>exact(bq (i:=11) eZ.nd rfl NG)
    case' b=>refine' av ?c ?d
    case c=>
     refine' bK (i:=12) eZ.nd rfl NG ?e (hs:=jf)
     case e=>exact(aq G_g hr T.F_g (aa (aq G_Y hr T.F_Y (aa (aq G_X hr T.F_X (aa (dv 0) (aa (aK bV bC af (dv 11)) ag))) ag)) (aa (dz bH bX (dw 8) (df (dv 11))) (aa (dv 6) (aa (dv 7) (aa (dv 4) ag))))))
    case' d=>refine' av ?f ?g
    case f=>
     refine' aW ?h ?i aV
     case h=>exact(PW.pt (dJ (cE (dv 5)) (dJ (aL iK dm (dv 11) af (aC _)) (eL (aL (cA hr) cB (dz bH bX (dw 8) (df (dv 11))) aM (aC _))))))
     case' i=>refine' av ?j ?k
     case j=>
      refine' bK (i:=13) eZ.nd rfl NG ?l (hs:=je)
      case l=>exact(aK bV bC (aK fD cN (ay bH bX (fe (cv (aa af (aa af ag)))) (dv 4)) (dv 11)) (aK fi cN (ay aE aF (dv 12) af) af))
     case' k=>refine' au ?m
     case' m=>refine' bK (i:=12) eZ.nd rfl NG ?n (hs:=DM)
     case' n=>refine' bb ?o
     case' o=>refine' aa aM ?p
     case' p=>refine' aa (dv 13) ?q
     case' q=>refine' aa ?r ?s
     case r=>exact(ay bH bX (dv 6) (dv 11))
     case' s=>refine' aa ?t ?u
     case t=>exact(ay aE aF (dv 12) af)
     case' u=>refine' aa ?v ag
     case v=>exact(PE.imp (fE jI rfl T.n_tuple eI (aH (fe (ic (df (dv 6)) (bU (PE.imp (aS (Ar rfl) rfl T.n_max Nu (aH af (aH (aK eF bC (dv 11) af) aG))) (aP B2))) (bU (dv 11)))) aG)) (aP jQ))
    case' g=>refine' au ?w
    case' w=>refine' aW ?x ?y aV
    case x=>exact(dM (cE (PE.imp (aS (rC rfl) rfl T.n_any rD (aH (fe (ib rfl xP (dw 10) bw cw NB (λ_ _ _ _=>(bq (i:=0) xP.nd rfl NG)) (λ_ _ _ _=>dO) (λ_ _ _ _=>(aq G_h hr T.F_h (aa (dv 0) (aa (dv 1) ag)))))) aG)) (aP gI))))
    case' y=>refine' au ?z
    case z=>exact(ET (i:=10) (pv 10) (aq G_Z hr T.F_Z (aa (dv 3) (aa (aK bV bC (PE.imp (aS bI rfl T.n_len HW (lp (dw 10) aG)) (aP bO)) af) ag))) (dv 12))
   case' Z=>refine' au ?A0
   case A0=>exact(aA (bb (aa (PE.imp (fE jI rfl T.n_tuple eI (lp (dw 10) aG)) (aP jQ)) (aa (dv 6) (aa (dv 4) ag)))))
  case B=>
  clear hr T G_Z G_Y G_X G_a G_g G_h;walk_at "a";refine⟨cs,0,rfl,NB,NB,λc=>⟨c,rfl,2,rfl,NB,NB,λfar f0 f1=>⟨8,rfl,NB,NB,λch c0 c1=>⟨fJ,rfl,λns nl nok nnd=>⟨2,rfl,NB,NB,λkk kk0 kk1=>⟨_,rfl,_,rfl,4,rfl,NB,NB,λpe pe0 pe1=>⟨fJ,?_⟩⟩⟩⟩⟩⟩⟩;have hz:∃z:Int,atI [HG 5,HG 12] (if (HG pe).eqv (HG 1)=true then 1 else 0)=some (.int z)/\0 < z/\z<=12:=by
   split
   ·exact⟨_,cZ,NB,NB⟩
   ·exact⟨_,cR,NB,NB⟩
  obtain⟨z,ez,z0,z1⟩:=hz;refine⟨_,ez,z,rfl,z0,NC,λpc p0 p1=>⟨_,rfl,NC,NC,8,rfl,NB,NB,λe e0 e1=>⟨fJ,?_⟩⟩⟩;have hz:∃z:Int,atI [HG 6,HG (2*6)] (if (HG e).eqv (HG 3)=true then 1 else 0)=some (.int z)/\0 < z/\z<=12:=by
   split
   ·exact⟨_,cZ,NB,NB⟩
   ·exact⟨_,cR,NB,NB⟩
  obtain⟨z2,ez2,z20,z21⟩:=hz;refine⟨_,ez2,z2,rfl,z20,NC,λj j0 j1=>⟨j,rfl,NC,NC,?_⟩⟩;obtain⟨ks,ek,dr⟩:∃ks:List Str,aR (HQ Hy ns) none (some (2+kk))=ks.map Hy/\pK ns ks far:=by
   refine⟨ns.take (2+kk).toNat,by rw [i8 NC (by simp;omega),<-Km],nl,nok,nnd,by rw [IH];omega,by rw [IH];omega,λz hz=>nok z (IS hz),f0,NC⟩
  rw [ek];have er:(Ia (1+pc).toNat [Hy (HD "paper")]).flatten=(Ia (1+pc).toNat (HD "paper")).map Hy:=by
   rw [List.flatten_replicate_singleton,List.map_replicate]
  rw [er];generalize (HG ch).eqv (HG 5)=cb;have n0:1<=(1+pc).toNat:=NC
  have n1:(1+pc).toNat<=12:=NC
  generalize (1+pc).toNat=n at n0 n1⊢;refine⟨λi δ=>∃(ms:List Str)(o9:Option Sl),ms.length=i/\(∀m∈ms,m∈gZ)/\δ=[some (Sl.v (d6 (HQ HG cs))),some (Sl.v (JF (HQ Hy gZ))),some (Sl.v (HG 6)),some (Sl.v di),some (Sl.v (.int far)),some (Sl.v (.bool cb)),some (Sl.v (.list (ns.map .str))),some (Sl.v (.list (ks.map .str))),some (Sl.o ((Ia n (HD "paper")++ms).map Hy)),o9,none,none,none,none],⟨[],_,rfl,NH,by rw [JH]⟩,?_,?_⟩
  ·rintro i x δ hx ⟨ms,o9,hl,hm,rfl⟩;obtain⟨hi,rfl⟩:=gn hx;walk_at "a";have ml:gZ.length=5:=rfl;refine⟨_,rfl,by rw [HB];omega,by rw [HB];omega,λv v0 v1=>⟨_,rfl,?_⟩⟩;rw [HB] at v1;obtain⟨m,hm1,em⟩:=fb v0 v1;refine⟨_,em,by rw [HB,HU,Kd];omega,ms++[m],by simp [hl],λz hz=>?_,?_⟩
   ·rcases Ij.mp hz with h | h
    ·exact hm z h
    ·rw [Ig] at h;rw [h];exact hm1
   ·refine⟨?_,_,rfl⟩;rw [<-Lp,Io (l₂:=[m])];rfl
  ·rintro δ ⟨ms,o9,hl,hm,rfl⟩;rw [gJ] at hl;have wl:(Ia n (HD "paper")++ms).length<=23:=by rw [HU,Kd];omega
   have wm:∀w∈Ia n (HD "paper")++ms,w∈kD:=λw hw=>by
    rcases Ij.mp hw with h | h
    ·rw [(List.mem_replicate.mp h).2];exact HZ
    ·exact G1 (hm w h)
   generalize Ia n (HD "paper")++ms=ws at wl wm⊢;walk_at "a";rw [HB];refine⟨NC,NC,?_⟩;refine⟨λi δ=>∃(xs:List De)(o11 o12 o13:Option Sl),(∀x∈xs,fz x)/\(xs.Pairwise λx y=>cJ x.enc y.enc=false)/\xs.length<=i/\δ=[some (Sl.v (d6 (HQ HG cs))),some (Sl.v (JF (HQ Hy gZ))),some (Sl.v (HG 6)),some (Sl.v di),some (Sl.v (.int far)),some (Sl.v (.bool cb)),some (Sl.v (.list (ns.map .str))),some (Sl.v (.list (ks.map .str))),some (Sl.o (ws.map Hy)),o9,some (Sl.o (xs.map De.enc)),o11,o12,o13],⟨[],_,_,_,NH,.nil,NH,rfl⟩,?_,?_⟩
   ·rintro i x δ hx ⟨xs,o11,o12,o13,xg,xq,xl,rfl⟩;obtain⟨hi,rfl⟩:=gn hx;walk_at "a";have hi:i < ws.length:=NC
    have hw:ws[i]?=some ws[i]:=HP.mpr ⟨hi,rfl⟩;have aw:atI (HQ Hy ws) (0+(i:Int))=some (.str ws[i]):=by rw [Mu];exact cQ (by simp [hi])
    have wo:=wm _ (IP hi);generalize ws[i]=wi at hw aw wo;have tail:∀(y:De)(o:Option Sl),fz y->((HQ De.enc xs).length<=16777216/\fI (nE 0) i5 (jL xO (iW (cD 0) (iW (cD 1) k9))) [none,some (Sl.v y.enc)] (HQ De.enc xs) λds=>∃bs,ds=HQ IZ bs/\
     if bs.any id=false then nK [di,HG (((HQ De.enc xs).length:Int)+1)] λa=>∃n:Nat,a=HG (n:Int)/\n<=(HQ De.enc xs).length/\(HQ De.enc xs).length < 1000000/\∃xs_1:List De,(∀x∈xs_1,fz x)/\M7 (λx y=>cJ x.enc y.enc=false) xs_1/\xs_1.length<=i+1/\dW (HQ De.enc xs) n y.enc=HQ De.enc xs_1/\∃x,o=x
     else ∃xs_1:List De,(∀x∈xs_1,fz x)/\M7 (λx y=>cJ x.enc y.enc=false) xs_1/\xs_1.length<=i+1/\HQ De.enc xs=HQ De.enc xs_1/\∃x,o=x):=λy o gy=>by
     refine⟨by rw [HB];omega,λk acc=>acc=((xs.take k).map λx=>cJ x.enc y.enc).map IZ,NH,?_,?_⟩
     ·rintro k x acc hk rfl;rw [Ie] at hk;cases hk':xs[k]? with
      | none=>rw [hk'] at hk;cases hk
      | some x=>
       rw [hk'] at hk;cases hk;walk_at "a";refine⟨x,y,rfl,xg x (Ik hk'),gy,?_⟩;rw [Js,hk'];simp
     ·rintro acc rfl;rw [HB,Iu (HE _)];refine⟨_,rfl,?_⟩;split
      ·rename_i h;have h:∀x∈xs,cJ x.enc y.enc=false:=λx hx=>by
        rw [LN,Lw] at h;simpa using h x hx
       refine⟨_,rfl,NC,NC,λv v0 v1=>?_⟩;obtain⟨n,rfl⟩:=Jp v0;refine⟨n,rfl,NC,NC,dW xs n y,λx hx=>?_,?_,by rw [vU];omega,(EN _ _ _ _).symm,_,rfl⟩
       ·rcases HM.mp ((oB xs n y).mem_iff.mp hx) with e | e
        ·rw [e];exact gy
        ·exact xg x e
       ·exact(L3 (λ{a b} h=>by rw [pO];exact h) (oB xs n y)).mpr (IQ.mpr ⟨λx hx=>by rw [pO];exact h x hx,xq⟩)
      ·exact⟨xs,xg,xq,NC,rfl,_,rfl⟩
    refine⟨cs,_,rfl,NC,NC,λc=>⟨c,rfl,_,aw,wi,ns,ks,far,rfl,wo,dr,λy gy yp=>?_⟩⟩;split
    ·split
     ·rename_i i12;refine⟨_,aw,rfl,?_⟩;rw [jS];split
      ·rename_i hp;have hp:=eq_of_beq hp;obtain⟨p,rfl⟩:=yp hp;have hf:∃z:Int,atI [HG 5,HG 8000] far=some (.int z)/\0<=z/\z<=8000:=by
        have:far=0\/far=1:=NC
        rcases this with h | h <;> rw [h]
        ·exact⟨5,rfl,NB,NB⟩
        ·exact⟨8000,rfl,NB,NB⟩
       obtain⟨z,ez,z0,z1⟩:=hf;obtain⟨nm,hn,en⟩:=fb (ss:=ns) (i:=0+(i:Int)) NC NC;refine⟨_,ez,_,rfl,.inr ⟨NC,NC⟩,_,rfl,_,cZ,_,rfl,_,en,_,rfl,_,lC,?_⟩;obtain⟨ms,em,hm,ml,msub⟩:=GY (ns:=ns) (some (if 0+(i:Int) - 1 > 0 then 0+(i:Int) - 1 else 0)) (some (0+(i:Int)));have m1:ms.length<=1:=by
        have:=congrArg Np em;rw [HB] at this;rw [<-this];exact GZ (by rw [HB];omega)
       rw [em];have pk:Nm p.kd:=by
        have:=gy.dv;exact G0 this
       have zi:0<=z*(0+(i:Int))/\z*(0+(i:Int))<=88000:=by
        have h11:i<=11:=NC
        have a:=Int.mul_le_mul z1 (show(0+(i:Int))<=11 by omega) NC NB;exact⟨Int.mul_nonneg z0 NC,NC⟩
       refine tail (.pap ⟨z*(0+(i:Int))+p.d % 5,nm,p.kd,ms⟩) _ ⟨.paper ⟨?_,?_⟩ (nok nm hn) pk ⟨Il m1 NB,λm h=>nok m (hm m h),?_⟩,λ_ _ _ _ e=>by cases e⟩
       ·show 0<=z*(0+(i:Int))+p.d % 5;omega
       ·show z*(0+(i:Int))+p.d % 5<=99999;omega
       ·match ms,m1 with
        | [],_=>exact .nil
        | [a],_=>exact LV _ _
        | a::b::l,h=>simp at h
      ·exact tail y _ gy
     ·exact tail y _ gy
    ·exact tail y _ gy
   ·rintro δ ⟨xs,o11,o12,o13,xg,xq,xl,rfl⟩;rw [gJ] at xl;walk_at "a";exact q xs ns far ⟨xg,xq,NC⟩ nl nok nnd
end
theorem xQ:bu (aD lW) ["thing"] ["deed"] 1 [] ⟨HS,[ (Hz ".0",O5),(Hz "deed",O5),(Hz "is_deed",Ib)],false,false,[]⟩:= .of
section
variable {P:NV} {w:NX} {K:Hx} {mg:Str->Option NJ} {base:NZ} {t:cI}
theorem De.deed{x:De}(g:fz x):mi x.enc:=by
 obtain⟨r,e⟩:=x.encE;exact⟨_,_,_,_,e,g.dv.shp⟩
def G4:List NI->(NI->Prop)->Prop:=λds Q=>∃xs:List De,ds=[.tuple (xs.map De.enc)]/\eB xs/\Q (.bool true)
theorem G5(T:Txt K mg t):aO P w K mg base CX0 6 t.a_T t.d_T ["thing"] (aT K G4):=by
 have G_Q:=@F5 P w _ _ base _ T;have G_S:=@Gv P w _ _ base _ T;refine T.F_T.F.okD FL (λds Q h=>?_) (λ_ _ _ _ H O ds Q E hr h=>?_)
 ·obtain⟨xs,rfl,_⟩:=h;rfl
 ·obtain⟨xs,rfl,g,q⟩:=h;refine'⟨_,?A,?B⟩
  case A=>
   refine' au ?C
   case' C=>refine' aA ?D
   case D=>exact(cg (el (K':=K) (T:="tuple") rfl rfl T.n_isinstance d5 (df (dv 0)) (d3 (v:= .ty "tuple") rfl T.n_tuple eI rfl)) (cg (PE.imp (aS (iT rfl) rfl T.n_all iU (aH (fe (i6 rfl xQ (df (dv 0)) bw cw NB (λ_ _ _ _=>(bq (i:=0) xQ.nd rfl NG)) (λ_ _ _ _=>dO) (λ_ _ _ _=>(aq G_Q hr T.F_Q (aa (dv 0) ag))))) aG)) (aP gI)) (cF (aq G_S hr T.F_S (aa (dv 0) ag)))))
  case B=>
  clear hr T G_Q G_S;walk_at "a";simp only [ij];walk_at "a";simp only [eN];walk_at "a";refine⟨λ_=>trivial,by rw [HB];have:=g.l;omega,λi acc=>∃bs:List Bool,acc=bs.map IZ/\bs.all id=true,⟨[],rfl,rfl⟩,?_,?_⟩
  ·rintro i z acc hz ⟨bs,rfl,hb⟩;rw [Ie] at hz;cases hz':xs[i]? with
   | none=>rw [hz'] at hz;cases hz
   | some x=>
    rw [hz'] at hz;cases hz;have dv:=(g.e x (Ik hz')).dv;walk_at "a";refine⟨_,rfl,dv.thg,?_⟩;exact⟨bs++[true],by rw [dv.is,Io];rfl,by simp [hb]⟩
  ·rintro acc ⟨bs,rfl,hb⟩;refine⟨_,rfl,?_⟩;rw [NF hb];refine⟨_,rfl,λd hd=>?_,by rw [HB];have:=g.l;omega,?_⟩
   ·obtain⟨x,hx,rfl⟩:=HR.mp hd;exact De.deed (g.e x hx)
   ·rw [decide_eq_true (Jw.mpr g.q)];exact q
theorem xR{d:NI}{z:Str}(h:HA d (.str z)=true):d= .str z:=by
 cases d <;> simp [HA] at h;rw [h]
theorem xS{d:NI}{z:Str}(h:HA (.str z) d=true):d= .str z:=by
 cases d <;> simp [HA] at h;rw [h]
def cK(ps:List Pp):Pp->List NI->Bool
 | _,[]=>true
 | c,e::es=>match (ck ps c).find? λm=>HA (.str m.nm) e with
  | some m=>cK ps m es
  | none=>false
def dE(ps:List Pp)(c:Pp):NI->Bool
 | .tuple (e::es)=>HA e (.str c.nm) && cK ps c es
 | _=>false
def G6:List NI->(NI->Prop)->Prop:=λds Q=>∃(xs:List De)(c:Pp)(d:NI),ds=[.tuple (xs.map De.enc),.str c.nm,d]/\fx xs/\c∈aI xs/\thg d=true/\(∀es,d= .tuple es->es.length<=1000)/\Q (.bool (dE (aI xs) c d))
theorem G7(T:Txt K mg t):aO P w K mg base CX0 7 t.a_U t.d_U ["deeds","paper","thing"] (aT K G6):=by
 have G_H:=@Gp P w _ _ base _ T;refine T.F_U.F.okD wI (λds Q h=>?_) (λ_ _ _ _ H O ds Q E hr h=>?_)
 ·obtain⟨xs,c,d,rfl,_⟩:=h;rfl
 ·obtain⟨xs,c,d,rfl,g,hc,hd,hl,q⟩:=h;refine'⟨_,?A,?B⟩
  case A=>
   refine' av ?C ?D
   case C=>
    refine' aW ?E ?F aV
    case E=>exact(PW.pt (d7 (dM (cE (el (K':=K) (T:="tuple") rfl rfl T.n_isinstance d5 (df (dv 2)) (d3 (v:= .ty "tuple") rfl T.n_tuple eI rfl)))) (fG (aL (Fh hr) Fi (dQ (df (dv 2)) cy (bU af)) (bb (aa (dv 1) ag)) (aC _)))))
    case F=>refine' au (aA bW)
   case' D=>refine' av ?G ?H
   case G=>
    refine' BX IU rfl rfl T.n_range (aa af (aa (PE.imp (aS bI rfl T.n_len HW (aH (dv 2) aG)) (aP bO)) ag)) ?I bw ?J
    case I=>exact(bq (i:=3) wI.nd rfl NG)
    case' J=>refine' au ?K
    case' K=>refine' aW ?L ?M aV
    case L=>exact(aL (Fj hr) Fl (ay aE aF (dv 2) (dv 3)) (aq G_H hr T.F_H (aa (dv 0) (aa (ay aE aF (dv 2) (aK eF bC (dv 3) af)) ag))) rfl)
    case M=>refine' au (aA bW)
   case H=>refine' au (aA bW)
  case B=>
  clear hr T G_H;walk_at "a";simp only [ij];walk_at "a";refine⟨gr hd,?_⟩;cases d with
  | tuple l=>
   simp only [eN];walk_at "a";have ht:∀e∈l,thg e=true:=λe he=>jZ hd he;have ll:=hl l rfl;unfold wg;refine⟨aR l none (some 1),c.nm,rfl,λd hd=>eO (ht d ?_),rfl,_,rfl,?_⟩
   ·unfold aR at hd;exact JY (IS hd)
   ·cases l with
    | nil=>exact q
    | cons e es=>
     have ec:aR (e::es) none (some 1)=[e]:=by
      rw [i8 NB (by simp only [HN];omega)];rfl
     have ev:HA (.tuple [e]) (.tuple [.str c.nm])=HA e (.str c.nm):=by simp [HA,Jr]
     rw [ec,ev];have qd:dE (aI xs) c (.tuple (e::es))=(HA e (.str c.nm) && cK (aI xs) c es):=rfl;rw [qd] at q;cases hev:HA e (.str c.nm) with
     | false=>rw [hev] at q;exact q
     | true=>
      rw [hev,IK] at q;rw [ND NH];have ee:=xR hev;subst ee;refine⟨NC,NC,?_⟩;rw [HN] at ll;refine⟨λi δ=>∃(ci:Pp)(o:Option Sl),ci∈aI xs/\cK (aI xs) c es=cK (aI xs) ci (es.drop i)/\(Hy c.nm::es)[i]?=some (.str ci.nm)/\δ=[some (Sl.v (HI (HQ De.enc xs))),some (Sl.v (Hy c.nm)),some (Sl.v (HI (Hy c.nm::es))),o],⟨c,_,hc,rfl,rfl,rfl⟩,?_,?_⟩
      ·rintro i z δ hz ⟨ci,o,ci1,ci2,ci3,rfl⟩;obtain⟨hi,rfl⟩:=gn hz;walk_at "a";rw [HN] at hi;have hi':i < es.length:=NC
       have he:es[i]?=some es[i]:=HL hi';have a1:atI (Hy c.nm::es) (1+(i:Int))=some es[i]:=by
        rw [show(1+(i:Int))=((i+1:Nat):Int) by omega];exact cQ he
       have a2:atI (Hy c.nm::es) (1+(i:Int) - 1)=some (.str ci.nm):=by
        rw [show(1+(i:Int) - 1)=(i:Int) by omega];exact cQ ci3
       have hm:es[i]∈Hy c.nm::es:=Ic _ (IP hi');have dr:es.drop i=es[i]::es.drop (i+1):=Kq hi';rw [dr] at ci2;generalize es[i]=ei at a1 he hm ci2;refine⟨_,a1,_,a2,xs,ci,rfl,g,ci1,?_⟩;unfold wk;refine⟨_,rfl,eO (ht _ hm),_,rfl,?_⟩;rw [LN];have wd:cK (aI xs) ci (ei::es.drop (i+1))=match (ck (aI xs) ci).find? λm=>HA (.str m.nm) ei with
        | some m=>cK (aI xs) m (es.drop (i+1))
        | none=>false:=rfl
       rw [wd] at ci2;cases hf:(ck (aI xs) ci).find? λm=>HA (.str m.nm) ei with
       | none=>
        rw [hf] at ci2;rw [ci2] at q;have na:(ck (aI xs) ci).any ((λz=>HA (.str z) ei)∘ λx=>x.nm)=false:=by
         rw [Lw];intro m hm';exact Jo.mp hf m hm'
        rw [na];exact q
       | some m=>
        rw [hf] at ci2;have mm:=ID hf;have me:=Jn hf;have ya:(ck (aI xs) ci).any ((λz=>HA (.str z) ei)∘ λx=>x.nm)=true:=J1.mpr ⟨m,mm,me⟩;rw [ya];exact⟨m,((Gb ci1).mp mm).1,ci2,by rw [he,xS me],_,rfl⟩
      ·rintro δ ⟨ci,o,ci1,ci2,ci3,rfl⟩;rw [gJ] at ci2;rw [KR (by rw [HN];omega)] at ci2;walk_at "a";rw [ci2] at q;exact q
  | _=>simpa [eN,dE] using q
theorem gU:∀{a b:List Str},a.map Hy=b.map Hy->a=b
 | [],[],_=>rfl
 | [],_::_,h=>by simp at h
 | _::_,[],h=>by simp at h
 | x::a,y::b,h=>by
  rw [HF,HF,Jv,J3] at h;rw [h.1,gU h.2]
theorem xT{p:Pp}(h:cT p.enc):Nm p.nm/\Nm p.kd/\j5 p.ms:=by
 unfold Pp.enc at h;generalize hd:HI [.str (HD "paper"),.int p.d,.str p.nm,.str p.kd,.tuple (p.ms.map .str)]=d at h;cases h with
 | paper _ hx hk hm=>
  simp only [Lf,Jv,J3,LL] at hd;rw [hd.2.2.1,hd.2.2.2.1,gU hd.2.2.2.2.1];exact⟨hx,hk,hm⟩
 | _=>simp at hd
theorem fz.ws{x:De}(h:fz x):Im x.w=true/\Im x.nm=true:=by
 have s:=h.dv.shp;obtain⟨r,e⟩:=x.encE;rw [e] at s;exact⟨gi.mp (fK s _ NH),gi.mp (fK s _ NH)⟩
theorem G8{p q:Pp}(h:cJ p.enc q.enc=false):p.nm≠q.nm:=λe=>by
 have qd:cJ p.enc q.enc=(HA p.enc q.enc || (p.nm==q.nm && ((HD "paper"==("paper":Str) && HD "paper"==("paper":Str)) || (HD "paper"==("leave":Str) && HD "paper"==("leave":Str)) || (p.d==q.d && ((bz (HD "paper") "rule" "end" && bz (HD "paper") "rule" "end") || (bz (HD "paper") "hold" "lift" && bz (HD "paper") "hold" "lift")))))):=rfl;rw [qd,e,beq_self_eq_true,IK,show(HD "paper"==("paper":Str))=true from beq_self_eq_true _] at h;simp at h
theorem eB.good{xs:List De}(h:eB xs):fx xs:=by
 obtain⟨h1,h2,h3⟩:=h;have pm:∀p∈aI xs,De.pap p∈xs:=λp hp=>pF.mp hp;have pv:∀p∈aI xs,Nm p.nm/\Nm p.kd/\j5 p.ms:=λp hp=>xT (h1 _ (pm p hp)).dv;refine⟨⟨?_,?_,λp hp=>(pv p hp).1.ok,λp hp=>(pv p hp).2.1.ok,λp hp=>⟨λm hm=>((pv p hp).2.2.nm m hm).ok,Il (pv p hp).2.2.len NB⟩⟩,λw d nm r hx=>(h1 _ hx).np _ _ _ _ rfl,NC,λx hx=>(h1 x hx).ws.1,λx hx=>(h1 x hx).ws.2⟩
 ·exact Il (LO _ _) NC
 ·unfold aI;rw [LB,Jw,List.pairwise_filterMap];refine h2.imp λ{a b} h p hp r hr=>?_;cases a with
  | oth w d nm r=>simp [De.pp] at hp
  | pap a=>
   cases b with
   | oth w d nm r=>simp [De.pp] at hr
   | pap b=>
    simp only [De.pp,Lv] at hp hr;subst hp hr;exact G8 h
theorem eB.perm{xs ys:List De}(g:eB xs)(h:ys.Perm xs):eB ys:=
 ⟨λx hx=>g.e x (h.mem_iff.mp hx),(L3 (λ{a b} h=>by rw [pO];exact h) h).mpr g.q,by rw [h.length_eq];exact g.l⟩
theorem xU(l:List NI)(e:NI):atI (l++[e]) (-1)=some e:=L2.atI_last l e
def iz(o:Str)(l:List NI):Bool:=match l.getLast? with
 | some e=>HA e (.str o)
 | none=>false
def dX(ps:List Pp)(nm o:Str)(d:NI):Bool:=match ps.find? λp=>p.nm==nm with
 | none=>false
 | some c=>dE ps c d && match d with
  | .tuple l=>decide (1 < l.length) && iz o l
  | _=>false
def gA(d:NI):Prop:=thg d=true/\∀es,d= .tuple es->es.length<=1000
def G9:List NI->(NI->Prop)->Prop:=λds Q=>∃(xs:List De)(nm o:Str)(d:NI),ds=[.tuple (xs.map De.enc),.str nm,.str o,d]/\fx xs/\Im nm=true/\gA d/\Q (.bool (dX (aI xs) nm o d))
theorem Ha(T:Txt K mg t):aO P w K mg base CX0 8 t.a_V t.d_V ["deeds","paper","other","grounds"] (aT K G9):=by
 have G_F:=@Gj P w _ _ base _ T;have G_U:=@G7 P w _ _ base _ T;refine T.F_V.F.okD FN (λds Q h=>?_) (λ_ _ _ _ H O ds Q E hr h=>?_)
 ·obtain⟨xs,nm,o,d,rfl,_⟩:=h;rfl
 ·obtain⟨xs,nm,o,d,rfl,g,hn,hd,q⟩:=h;refine'⟨_,?A,?B⟩
  case A=>
   refine' av ?C ?D
   case C=>
    refine' aW ?E ?F aV
    case E=>exact(PW.pt (d7 (aL (ue hr) lI (dv 1) (aq G_F hr T.F_F (aa (dv 0) ag)) rfl) (fG (dM (cE (aq G_U hr T.F_U (aa (dv 0) (aa (dv 1) (aa (dv 3) ag)))))))))
    case F=>refine' au (aA bW)
   case' D=>refine' au ?G
   case' G=>refine' aA ?H
   case H=>exact(cg (bS jG dm (df (PE.imp (aS bI rfl T.n_len HW (aH (dv 3) aG)) (aP bO))) (df af) (aC _)) (cF (bS (cA hr) cB (df (ay aE aF (dv 3) (oi af))) (df (dv 2)) (aC _))))
  case B=>
  clear hr T G_F G_U;walk_at "a";have cl:IX (((cU (aI xs)).map (·.nm)).map .str)=true:=pH λm hm=>by
   obtain⟨p,hp,rfl⟩:=HR.mp hm;exact g.gp.nm p (iw.mp hp)
  refine⟨xs,rfl,g,_,.inr rfl,gi.mpr hn,cl,?_⟩;rw [pG];unfold dX at q;cases hf:(aI xs).find? λp=>p.nm==nm with
  | none=>
   rw [hf] at q;rw [NF (by
    rw [KN];intro z;obtain⟨p,hp,e⟩:=HR.mp (JD.mp z);exact absurd (beq_iff_eq.mpr e) (by simpa using Jo.mp hf p (iw.mp hp)))]
   exact q
  | some c=>
   rw [hf] at q;have hc:=ID hf;have he:c.nm=nm:=beq_iff_eq.mp (by simpa using Jn hf);rw [ND (by
    rw [Mz];exact JD.mpr (HR.mpr ⟨c,iw.mpr hc,he⟩))]
   refine⟨xs,c,d,by rw [he],g,hc,hd.1,hd.2,_,rfl,?_⟩;dsimp only at q;cases hw:dE (aI xs) c d with
   | false=>rw [hw] at q;exact q
   | true=>
    rw [hw,IK] at q;rw [ND NH];cases d with
    | tuple l=>
     dsimp only at q;refine⟨l,.inr rfl,?_⟩;by_cases hl:1 < l.length
     ·rw [NF NC];rw [decide_eq_true hl,IK] at q;obtain⟨l',e,rfl⟩:∃(l':List NI)(e:NI),l=l'++[e]:=by
       refine⟨l.dropLast,l.getLast (by intro z;rw [z] at hl;simp at hl),(Lb _).symm⟩
      refine⟨_,rfl,e,xU l' e,eO (jZ hd.1 NH),?_⟩;unfold iz at q;rw [K4] at q;exact q
     ·rw [ND NC];rw [decide_eq_false hl,J0] at q;exact q
    | _=>simp [dE] at hw
def Hb:List NI->(NI->Prop)->Prop:=λds Q=>∃(xs:List De)(nm o:Str)(d:NI),ds=[.tuple [.str (HD "made"),.tuple (xs.map De.enc),.str nm,.str o],d]/\eB xs/\Im nm=true/\gA d/\Q (.bool (dX (aI xs) nm o d))
theorem Hc(T:Txt K mg t):aO P w K mg base CX0 9 t.a_W t.d_W ["claim","grounds"] (aT K Hb):=by
 have G_T:=@G5 P w _ _ base _ T;have G_V:=@Ha P w _ _ base _ T;refine T.F_W.F.okD pq (λds Q h=>?_) (λ_ _ _ _ H O ds Q E hr h=>?_)
 ·obtain⟨xs,nm,o,d,rfl,_⟩:=h;rfl
 ·obtain⟨xs,nm,o,d,rfl,g,hn,hd,q⟩:=h;refine'⟨_,?A,?B⟩
  case A=>
   refine' av ?C ?D
   case C=>
    refine' aW ?E ?F aV
    case E=>exact(PW.pt (d7 (dM (cE (el (K':=K) (T:="tuple") rfl rfl T.n_isinstance d5 (df (dv 0)) (d3 (v:= .ty "tuple") rfl T.n_tuple eI rfl)))) (d7 (aL iK dm (PE.imp (aS bI rfl T.n_len HW (aH (dv 0) aG)) (aP bO)) af (aC _)) (fG (dM (cE (aq G_T hr T.F_T (aa (ay aE aF (dv 0) af) ag))))))))
    case F=>refine' au (aA bW)
   case' D=>refine' av ?G ?H
   case G=>exact(bK (i:=2) pq.nd rfl NG (ay aE aF (dv 0) af))
   case' H=>refine' av ?I ?J
   case I=>exact(bK (i:=3) pq.nd rfl NG (ay aE aF (dv 0) af))
   case' J=>refine' av ?K ?L
   case K=>
    refine' aW ?M ?N aV
    case M=>exact(PW.pt (dJ (aL (cA hr) cB (dv 2) aM (aC _)) (eL (aL (bM hr.units) bN (PE.imp (aS bI rfl T.n_len HW (aH (dv 0) aG)) (aP bO)) af (aC _)))))
    case' N=>refine' au ?O
    case' O=>refine' aA ?P
    case P=>exact(aq G_V hr T.F_V (aa (dv 3) (aa (ay aE aF (dv 0) af) (aa (ay aE aF (dv 0) af) (aa (dv 1) ag)))))
   case' L=>refine' av ?Q ?R
   case Q=>
    refine' aW ?S ?T aV
    case S=>exact(PW.pt (dJ (aL (cA hr) cB (dv 2) aM (aC _)) (eL (aL (bM hr.units) bN (PE.imp (aS bI rfl T.n_len HW (aH (dv 0) aG)) (aP bO)) af (aC _)))))
    case T=>refine' au jh
   case' R=>refine' av ?U ?V
   case U=>
    refine' aW ?W ?X aV
    case W=>exact(PW.pt (dJ (aL (cA hr) cB (dv 2) aM (aC _)) (eL (aL (bM hr.units) bN (PE.imp (aS bI rfl T.n_len HW (aH (dv 0) aG)) (aP bO)) af (aC _)))))
    case X=>refine' au jh
   case' V=>refine' av ?Y ?Z
   case Y=>
    refine' aW ?a ?b aV
    case a=>exact(PW.pt (dJ (aL (cA hr) cB (dv 2) aM (aC _)) (eL (aL (bM hr.units) bN (PE.imp (aS bI rfl T.n_len HW (aH (dv 0) aG)) (aP bO)) af (aC _)))))
    case b=>refine' au jh
   case' Z=>refine' av ?c ?d
   case c=>
    refine' aW ?e ?f aV
    case e=>exact(PW.pt (dJ (aL (cA hr) cB (dv 2) aM (aC _)) (eL (aL (bM hr.units) bN (PE.imp (aS bI rfl T.n_len HW (aH (dv 0) aG)) (aP bO)) af (aC _)))))
    case f=>refine' au jh
   case' d=>refine' av ?g ?h
   case g=>
    refine' aW ?i ?j aV
    case i=>exact(PW.pt (dJ (aL (cA hr) cB (dv 2) aM (aC _)) (eL (aL (bM hr.units) bN (PE.imp (aS bI rfl T.n_len HW (aH (dv 0) aG)) (aP bO)) af (aC _)))))
    case j=>refine' au jh
   case h=>refine' au (aA bW)
  case B=>
  clear hr T G_T G_V;walk_at "a";simp only [ij];walk_at "a";refine⟨λ_=>trivial,?_⟩;rw [ND (by simp [eN]),ND NB];refine⟨xs,rfl,g,true,rfl,?_⟩;rw [ND NH,NF NB];exact⟨xs,nm,o,d,rfl,g.good,hn,hd,q⟩
end
theorem xV:bu (aD jl) ["_law_deeds_here","_law_rows","_law_web_here","_law_name","_law_some"] ["_law_deed_here"] 1 [] ⟨HS,[(Hz ".0",O5),(Hz "_law_deed_here",O5)],false,false,[]⟩:= .of
theorem xW:bu (aD jl) ["_law_deeds_here","_law_rows","_law_web_here","_law_name","_law_some"] ["_law_one","_law_rows"] 1 [1] ⟨HS,[ (Hz ".0",O5),(Hz "_law_one",O5),(Hz "_law_rows",HY)],false,false,[]⟩:= .of
theorem xX:bu (aD jl) ["_law_deeds_here","_law_rows","_law_web_here","_law_name","_law_some"] ["_law_one","_law_name","_law_rows"] 1 [3,1] ⟨HS,[ (Hz ".0",O5),(Hz "_law_one",O5),(Hz "_law_name",HY),(Hz "_law_rows",HY)],false,false,[]⟩:= .of
section
variable {P:NV} {w:NX} {K:Hx} {mg:Str->Option NJ} {base:NZ} {t:cI}
theorem pP(f:De->NI):∀xs:List De,(xs.filter (dD λ_=>true)).map f=(aI xs).map λp=>f (.pap p)
 | []=>rfl
 | .pap p::xs=>by
  rw [Kk,NF (show dD (λ_=>true) (De.pap p)=true from rfl),HF,pP f xs];rfl
 | .oth w d nm r::xs=>by
  rw [Kk,ND (by simp [dD])];exact pP f xs
theorem pQ{kd:List (ah×NI)}{k:ah}{d:NI}(h:k ∉ kd.map (·.1)):dB kd k d=kd++[(k,d)]:=by
 unfold dB;rw [ND];rw [J1];rintro⟨p,hp,e⟩;exact h (HR.mpr ⟨p,hp,of_decide_eq_true e⟩)
theorem xY:∀(kd acc:List (ah×NI)),((acc++kd).map (·.1)).Nodup->kd.foldl (λa p=>dB a p.1 p.2) acc=acc++kd
 | [],acc,_=>by simp
 | p::kd,acc,nd=>by
  have e:acc++p::kd=(acc++[p])++kd:=NH
  rw [JN,pQ,xY kd (acc++[(p.1,p.2)]),e]
  ·rw [<-e];exact nd
  ·intro h;rw [Io,Lx] at nd;exact nd.2.2 p.1 h p.1 NH rfl
theorem Hd{ss:List Str}(h:ss.Nodup):(ss.map (Je:Str->ah)).Nodup:=by
 rw [LB,Jw];exact h.imp λz e=>z (Kn e)
theorem iA{f:Pp->NI}:∀{ps:List Pp}{p:Pp},(ps.map (·.nm)).Nodup->p∈ps->cf (ps.map (·.nm)) (ps.map f) p.nm=some (f p)
 | x::ps,p,nd,h=>by
  rw [HF,HF];unfold cf;rw [HF,Jk] at nd;rcases HM.mp h with e | e
  ·rw [e,NF rfl]
  ·rw [ND (λz=>nd.1 (by rw [z];exact HR.mpr ⟨p,e,rfl⟩))];exact iA nd.2 e
theorem mj{f:Pp->NI}:∀{ps:List Pp}{z:Str},z ∉ ps.map (·.nm)->cf (ps.map (·.nm)) (ps.map f) z=none
 | [],z,_=>rfl
 | x::ps,z,h=>by
  rw [HF,HF];unfold cf;rw [HF,HM,not_or] at h;rw [ND (λe=>h.1 e.symm)];exact mj h.2
def mn(ps:List Pp)(z:Str):Int:=((ps.find? λp=>decide (p.nm=z)).map (·.d)).getD 0
theorem pR{ps:List Pp}(nd:(ps.map (·.nm)).Nodup){p:Pp}(h:p∈ps):mn ps p.nm=p.d:=by
 unfold mn;cases hf:ps.find? (λq=>decide (q.nm=p.nm)) with
 | none=>exact absurd (Jo.mp hf p h) NH
 | some q=>
  have e:q.nm=p.nm:=by simpa using Jn hf
  rw [mf nd (ID hf) h e];rfl
def iB(ps:List Pp)(c:Pp):List Str:=(c.ms.filter λz=>decide (z∈ps.map (·.nm))).filter λz=>aX (mn ps z,z) c.key
def ju(ps:List Pp)(p:Pp):NI:= .list ((iB ps p).map .str)
def iC(ps:List Pp):NI:=fO (ps.map (·.nm)) (ps.map (ju ps))
def He:List NI->(NI->Prop)->Prop:=λds Q=>∃xs:List De,ds=[.tuple (xs.map De.enc)]/\eB xs/\Q (iC (aI xs))
theorem xZ(T:Txt K mg t):aO P w K mg base CX0 1 t.a_j t.d_j ["_law_deeds_here"] (aT K He):=by
 refine T.F_j.F.okD ku (λds Q h=>?_) (λ_ _ _ _ H O ds Q E hr h=>?_)
 ·obtain⟨xs,rfl,_⟩:=h;rfl
 ·obtain⟨xs,rfl,gl,q⟩:=h;refine'⟨_,?A,?B⟩
  case A=>
   refine' av ?C ?D
   case C=>exact(oj (i:=1) ku.nd rfl NG (E1 rfl rfl T.n_dict (aH (fe (i6 rfl xV (df (dv 0)) bw cw NB (λ_ _ _ _=>(bq (i:=0) xV.nd rfl NG)) (λ_ _ _ _=>(gE (aL (cA hr) cB (ay aE aF (dv 0) af) aM (aC _)))) (λ_ _ _ _=>(bb (aa (ay aE aF (dv 0) af) (aa (dv 0) ag)))))) aG)))
   case' D=>refine' av ?E ?F
   case E=>exact(oj (i:=2) ku.nd rfl NG Ed)
   case' F=>refine' av ?G ?H
   case G=>
    refine' ox 1 ?I
    case' I=>refine' E7 IU rfl (dv 1) ?J bw ?K
    case J=>exact(bq (i:=3) ku.nd rfl NG)
    case' K=>refine' av ?L ?M
    case L=>exact(nU (i:=4) ku.nd rfl NG (vi rfl xW (df (ay aE aF (lM hr.units (dv 1) (dv 3) (λ_ _=>rfl)) af)) bw cw NB (λ_ _ _ _=>(bq (i:=0) xW.nd rfl NG)) (λ_ _ _ _=>(gE (E4 hr.units (dv 1) (dv 0)))) (λ_ _ _ _=>(dv 0))))
    case' M=>refine' au ?N
    case N=>exact(u5 (i:=2) hr.units (pv 2) (dv 3) (fe (ib rfl xX (df (dv 4)) bw cw NB (λ_ _ _ _=>(bq (i:=0) xX.nd rfl NG)) (λ_ _ _ _=>(gE (aL (vC hr.units0) vE (bb (aa (ay aE aF (lM hr.units (dv 2) (dv 0) (λ_ _=>rfl)) af) (aa (dv 0) ag))) (bb (aa (ay aE aF (lM hr.units (dv 2) (dv 1) (λ_ _=>rfl)) af) (aa (dv 1) ag))) (aC _)))) (λ_ _ _ _=>(dv 0)))))
   case' H=>refine' au ?O
   case' O=>refine' ox 2 ?P
   case P=>exact(aA (dv 2))
  case B=>
  clear hr T;walk_at "a";have g:=gl.good;have ln:=g.ln;have gp:=g.gp;refine⟨by rw [HB];omega,gz (dD λ_=>true) (λx=>.tuple [.str x.nm,x.enc]) (λx hx R S h=>?_) ?_⟩
  ·cases x with
   | pap p=>
    simp only [De.enc,Pp.enc] at h⊢;walk_at "a";exact h
   | oth wo d nm l=>
    simp only [De.enc] at h⊢;walk_at "a";rw [fy (g.np _ _ _ _ hx),ND IJ];rw [ND (by simp [dD])] at h;exact h
  ·rw [pP];generalize aI xs=ps at gp q⊢;have kn:((ps.map λp:Pp=>((Je p.nm:ah),p.enc)).map (·.1)).Nodup:=by
    rw [Iy];have:=Hd gp.nd;rw [Iy] at this;exact this
   have ef:=xY (ps.map λp:Pp=>((Je p.nm:ah),p.enc)) [] (by rw [Jx];exact kn);rw [Jx] at ef;refine⟨ps.map λp=>(.inr p.nm,p.enc),by rw [Iy];rfl,ps.map (·.nm),by rw [ef,Iy,Iy];rfl,ps.map (·.nm),⟨_,rfl⟩,?_⟩;rw [ef];have ed:HQ (λx=>x.snd) (ps.map λp:Pp=>((Je p.nm:ah),p.enc))=ps.map Pp.enc:=by rw [Iy];rfl
   rw [ed];refine⟨λi δ=>∃o3 o4,δ=[some (Sl.v (HI (HQ De.enc xs))),some (Sl.v (fO (ps.map (·.nm)) (ps.map Pp.enc))),some (Sl.k ((ps.take i).map λp=>(.inr p.nm,ju ps p))),o3,o4],⟨_,_,rfl⟩,?_,?_⟩
   ·rintro i z δ hz ⟨o3,o4,rfl⟩;rw [Ie,Ie] at hz;cases hz':ps[i]? with
    | none=>rw [hz'] at hz;cases hz
    | some p=>
     rw [hz'] at hz;cases hz;have hp:=Ik hz';have ap:=iA (f:=Pp.enc) gp.nd hp;walk_at "a";have ml:=(gp.ms p hp).2;have pl:=gp.ln;refine⟨_,_,rfl,_,ap,_,rfl,_,nL,_,rfl,by rw [HB];omega,gz (λz=>decide (z∈ps.map (·.nm))) (λz=>.str z) (λz hz R S h=>?_) ?_⟩
     ·walk_at "a";refine⟨_,_,rfl,?_⟩;by_cases hm:z∈ps.map (·.nm)
      ·rw [NF (decide_eq_true hm)] at h;obtain⟨m,hm1,rfl⟩:=HR.mp hm;rw [iA (f:=Pp.enc) gp.nd hm1,NF (by rfl)];exact h
      ·rw [ND (by simpa using hm)] at h;rw [mj hm,ND NH];exact h
     ·have fl:=Kg (λz=>decide (z∈ps.map (·.nm))) p.ms;refine⟨by rw [HB];omega,gz (λz=>aX (mn ps z,z) p.key) (λz=>.str z) (λz hz R S h=>?_) ?_⟩
      ·walk_at "a";obtain⟨m,hm1,rfl⟩:=HR.mp (of_decide_eq_true (IT.mp hz).2);have am:=iA (f:=Pp.enc) gp.nd hm1;rw [pR gp.nd hm1] at h;exact⟨_,_,rfl,_,am,_,rfl,_,cZ,_,_,rfl,_,ap,_,rfl,_,cZ,(m.d,m.nm),rfl,p.key,rfl,h⟩
      ·refine⟨by rw [HB,IH];omega,?_,_,rfl⟩;have tk:ps.take (i+1)=ps.take i++[p]:=by rw [Js,hz'];rfl
       rw [tk,Io,pQ]
       ·rfl
       ·rw [Iy];intro hin;obtain⟨m,hm,e⟩:=HR.mp hin;have e:m.nm=p.nm:=Kn e;have nd:=gp.nd;obtain⟨li,ei⟩:=HP.mp hz';rw [LB,Jw] at nd;obtain⟨j,hj,ej⟩:=K6 hm;rw [IH] at hj;rw [List.getElem_take] at ej;have:=Kt.mp nd j i NC li NC;rw [ej,ei] at this;exact this e
   ·rintro δ ⟨o3,o4,rfl⟩;walk_at "a";refine⟨ps.map (·.nm),?_,?_⟩
    ·rw [HB,HB,Iu (HE _),Iy,Iy];rfl
    ·rw [HB,HB,Iu (HE _),Iy];exact q
def cL(ps:List Pp)(a:Str):List Str:=match ps.find? λp=>decide (p.nm=a) with
 | some p=>iB ps p
 | none=>[]
inductive Wy (ps:List Pp) (nm:Str):Str->List Str->Prop
 | base:Wy ps nm nm [nm]
 | step {a b:Str} {l:List Str}:Wy ps nm a l->b∈cL ps a->Wy ps nm b (l++[b])
structure iD (ps:List Pp) (nm o:Str) (l:List Str):Prop where
 one:l=[nm]\/(1 < l.length/\Wy ps nm o l)
 len:l.length<=30
 ok:∀z∈l,Im z=true
structure Sw (ps:List Pp) (nm:Str) (kd:List (Str×List Str)) (todo:List Str):Prop where
 nd:(kd.map (·.1)).Nodup
 wy:∀p∈kd,Wy ps nm p.1 p.2
 ln:∀p∈kd,p.2.length<=kd.length
 ok:∀p∈kd,∀z∈p.2,Im z=true
 ko:∀p∈kd,Im p.1=true
 td:∀a∈todo,a∈kd.map (·.1)
 tn:todo.Nodup
 sb:∀p∈kd,p.1=nm\/p.1∈ps.map (·.nm)
def c7(kd:List (Str×List Str)):List (ah×NI):=kd.map λp=>(.inr p.1,.tuple (p.2.map .str))
theorem pT{α:Type}:∀{l L:List α},l.Nodup->(∀z∈l,z∈L)->l.length<=L.length
 | [],_,_,_=>Jl _
 | a::l,L,nd,hm=>by
  rw [Jk] at nd;obtain⟨p,q,e⟩:=List.append_of_mem (hm a NH);have:=pT (l:=l) (L:=p++q) nd.2 λb hb=>by
   have hb':=hm b (by simp [hb]);rw [e] at hb';rcases Ij.mp hb' with z | z
   ·exact JX _ z
   ·rcases HM.mp z with z | z
    ·exact absurd (by rw [<-z];exact hb) nd.1
    ·exact IE _ z
  rw [e,HU,HN,HN];rw [HU] at this;omega
theorem Sw.len{ps:List Pp}{nm:Str}{kd:List (Str×List Str)}{todo:List Str}(S:Sw ps nm kd todo)(pl:ps.length<=23):kd.length<=24:=by
 have:=pT (L:=nm::ps.map (·.nm)) S.nd λz hz=>by
  obtain⟨p,hp,rfl⟩:=HR.mp hz;exact HM.mpr (S.sb p hp)
 simp only [HB,HN] at this;omega
theorem Hf{ps:List Pp}(nd:(ps.map (·.nm)).Nodup)(a:Str):(cf (ps.map (·.nm)) (ps.map (ju ps)) a).getD (.list [])= .list ((cL ps a).map .str):=by
 unfold cL;cases hf:ps.find? λp=>decide (p.nm=a) with
 | none=>
  rw [mj]
  ·rfl
  ·intro h;obtain⟨p,hp,e⟩:=HR.mp h;exact absurd (Jo.mp hf p hp) (by simp [e])
 | some p=>
  have hp:=ID hf;have e:p.nm=a:=by simpa using Jn hf
  rw [<-e,iA (f:=ju ps) nd hp];rfl
theorem mq{ps:List Pp}{a b:Str}(h:b∈cL ps a):b∈ps.map (·.nm):=by
 unfold cL at h;split at h
 ·unfold iB at h;exact of_decide_eq_true (IT.mp (IT.mp h).1).2
 ·cases h
theorem x4:∀{kd:List (Str×List Str)}{a:Str}{l:List Str},(kd.map (·.1)).Nodup->(a,l)∈kd->bZ (c7 kd) (.inr a)=some (.tuple (l.map .str))
 | p::kd,a,l,nd,h=>by
  rw [HF,Jk] at nd;have e:bZ (c7 (p::kd)) (.inr a)=if p.1=a then some (.tuple (p.2.map .str)) else bZ (c7 kd) (.inr a):=by
   unfold bZ c7;rw [HF,Jm];by_cases hp:p.1=a
   ·rw [NF hp,hp];simp
   ·rw [ND hp,decide_eq_false (λz=>hp (Kn z))]
  rw [e];rcases HM.mp h with z | z
  ·rw [<-z,NF rfl]
  ·rw [ND (λy=>nd.1 (by rw [y];exact HR.mpr ⟨_,z,rfl⟩))];exact x4 nd.2 z
theorem Hg{kd:List (Str×List Str)}{b:Str}:(bZ (c7 kd) (.inr b)).isSome=decide (b∈kd.map (·.1)):=by
 induction kd with
 | nil=>rfl
 | cons p kd ih=>
  have e:bZ (c7 (p::kd)) (.inr b)=if p.1=b then some (.tuple (p.2.map .str)) else bZ (c7 kd) (.inr b):=by
   unfold bZ c7;rw [HF,Jm];by_cases hp:p.1=b
   ·rw [NF hp,hp];simp
   ·rw [ND hp,decide_eq_false (λz=>hp (Kn z))]
  rw [e];by_cases hp:p.1=b
  ·rw [NF hp];simp [hp]
  ·rw [ND hp,ih];have hb:¬b=p.1:=λz=>hp z.symm;simp [hb]
theorem x5:∀{kd:List (Str×List Str)}{p:Str×List Str},(kd.map (·.1)).Nodup->p∈kd->cf (kd.map (·.1)) (kd.map λp=>HI (p.2.map .str)) p.1=some (.tuple (p.2.map .str))
 | x::kd,p,nd,h=>by
  rw [HF,HF];unfold cf;rw [HF,Jk] at nd;rcases HM.mp h with e | e
  ·rw [e,NF rfl]
  ·rw [ND (λz=>nd.1 (by rw [z];exact HR.mpr ⟨p,e,rfl⟩))];exact x5 nd.2 e
theorem x6:∀{kd:List (Str×List Str)}{z:Str},z ∉ kd.map (·.1)->cf (kd.map (·.1)) (kd.map λp=>HI (p.2.map .str)) z=none
 | [],z,_=>rfl
 | x::kd,z,h=>by
  rw [HF,HF];unfold cf;rw [HF,HM,not_or] at h;rw [ND (λe=>h.1 e.symm)];exact x6 h.2
theorem Wy.pos{ps:List Pp}{nm a:Str}{l:List Str}(h:Wy ps nm a l):1<=l.length:=by
 cases h with
 | base=>exact HE _
 | step _ _=>simp
theorem Wy.short{ps:List Pp}{nm a:Str}{l:List Str}(h:Wy ps nm a l)(h1:¬1 < l.length):l=[nm]:=by
 cases h with
 | base=>rfl
 | step w _=>have:=w.pos;rw [HU,Jb] at h1;omega
def Hh:List NI->(NI->Prop)->Prop:=λds Q=>∃(xs:List De)(nm o:Str),ds=[iC (aI xs),.str nm,.str o]/\eB xs/\Im nm=true/\∀l,iD (aI xs) nm o l->Q (.tuple (l.map .str))
theorem x8(T:Txt K mg t):aO P w K mg base CX0 1 t.a_k t.d_k ["_law_web_here","_law_name","_law_other"] (aT K Hh):=by
 refine T.F_k.F.okD l8 (λds Q h=>?_) (λ_ _ _ _ H O ds Q E hr h=>?_)
 ·obtain⟨xs,nm,o,rfl,_⟩:=h;rfl
 ·obtain⟨xs,nm,o,rfl,gl,hn,q⟩:=h;refine'⟨_,?A,?B⟩
  case A=>
   refine' av ?C ?D
   case C=>exact(Fm (i:=3) (j:=4) (m:=1) rfl l8.nd rfl rfl NB rfl rfl (Fp (kc (dv 1) (bb (aa (dv 1) ag)) vh)) (pv 1) (by rfl))
   case' D=>refine' av ?E ?F
   case E=>
    refine' EF IU ?G ?H
    case G=>exact(rK (jO hr.units) jP (dw 4) (df (fe (cv ag))) (aC _))
    case' H=>refine' av ?I ?J
    case I=>exact(Fo (i:=5) (j:=4) l8.nd rfl NB NG (pv 4) af)
    case' J=>refine' au ?K
    case' K=>refine' lu IU rfl (vY hr.units (dv 0) (dv 5) (fe (cv ag)) ⟨rfl,rfl,rfl,rfl⟩) ?L bw ?M
    case L=>exact(bq (i:=6) l8.nd rfl NG)
    case' M=>refine' au ?N
    case' N=>refine' aW ?O ?P aV
    case O=>exact(vb (i:=3) hr.units (pv 3) (dv 6))
    case' P=>refine' av ?Q ?R
    case Q=>exact(u5 (i:=3) hr.units (pv 3) (dv 6) (aK jj jk (u9 (i:=3) hr.units (pv 3) (dv 5) (λ_ _=>rfl)) (bb (aa (dv 6) ag))))
    case' R=>refine' au ?S
    case S=>exact(sf (i:=4) (pv 4) (dv 6))
   case' F=>refine' au ?T
   case' T=>refine' ox 3 ?U
   case U=>exact(aA (vY hr.units (dv 3) (dv 2) (bb (aa (dv 1) ag)) ⟨rfl,rfl,rfl,rfl⟩))
  case B=>
  clear hr T;walk_at "a";unfold wq wu;walk_at "a";have g:=gl.good;have gp:=g.gp;have pl:(aI xs).length<=23:=Il (LO _ _) gl.l;generalize aI xs=ps at gp q pl⊢;refine⟨[(.inr nm,[nm])],rfl,by show 1<=15;decide,?_⟩;unfold vF;refine⟨λm δ=>∃(kd:List (Str×List Str))(todo:List Str)(o5 o6:Option Sl),Sw ps nm kd todo/\2*(24 - kd.length)+todo.length<=m/\δ=[some (Sl.v (iC ps)),some (Sl.v (.str nm)),some (Sl.v (.str o)),some (Sl.k (c7 kd)),some (Sl.o (todo.map .str)),o5,o6],⟨_,[(nm,[nm])],[nm],none,none,?_,HE _,rfl⟩,?_⟩
  ·exact⟨NH,λp hp=>by rw [Ig.mp hp];exact .base,λp hp=>by rw [Ig.mp hp];exact HE _,λp hp z hz=>by
    rw [Ig.mp hp] at hz;rw [Ig.mp hz];exact hn,λp hp=>by rw [Ig.mp hp];exact hn,λa ha=>by rw [Ig.mp ha];simp,NH,λp hp=>by rw [Ig.mp hp];exact .inl rfl⟩
  ·rintro m δ ⟨kd,todo,o5,o6,S,hm,rfl⟩;walk_at "a";have tok:∀z∈todo,Im z=true:=λz hz=>by
    obtain⟨p,hp,e⟩:=HR.mp (S.td z hz);rw [<-e];exact S.ko p hp
   have sl:HJ (JF (todo.map .str))=true:=by
    have h:=(dP (n:=1) (oh tok)).shp NB;simpa [bJ,HJ,IC,Kf] using h
   refine⟨sl,rfl,?_⟩;cases todo with
   | nil=>
    rw [ND (by simp [HA,Jr])];refine⟨kd.map (·.1),by unfold c7;rw [Iy,Iy];rfl,_,_,rfl,?_⟩;have ev:HQ (λx=>x.snd) (c7 kd)=kd.map λp=>HI (p.2.map .str):=by unfold c7;rw [Iy];rfl
    rw [ev];have kl:=S.len pl;by_cases ho:o∈kd.map (·.1)
    ·obtain⟨p,hp,e⟩:=HR.mp ho;rw [<-e,x5 S.nd hp];refine q p.2 ⟨?_,by have:=S.ln p hp;omega,S.ok p hp⟩;have wy:=S.wy p hp;rw [e] at wy;by_cases h1:1 < p.2.length
     ·exact .inr ⟨h1,wy⟩
     ·exact .inl (wy.short h1)
    ·rw [x6 ho];exact q [nm] ⟨.inl rfl,NH,λz hz=>by rw [Ig.mp hz];exact hn⟩
   | cons a rest=>
    rw [NF (by simp [HA,Jr])];unfold wt;refine⟨.str a,rest.map .str,rfl,?_⟩;walk_at "a";refine⟨_,_,rfl,_,Hf gp.nd a,?_⟩;have m0:2*(24 - kd.length)+rest.length<=m - 1/\1<=m:=by rw [HN] at hm;omega
    obtain⟨la,hla⟩:∃la,(a,la)∈kd:=by
     obtain⟨p,hp,e⟩:=HR.mp (S.td a HZ);exact⟨p.2,by rw [<-e];exact hp⟩
    refine⟨λi δ=>∃(kd:List (Str×List Str))(todo:List Str)(o6:Option Sl),Sw ps nm kd todo/\(a,la)∈kd/\2*(24 - kd.length)+todo.length<=m - 1/\δ=[some (Sl.v (iC ps)),some (Sl.v (.str nm)),some (Sl.v (.str o)),some (Sl.k (c7 kd)),some (Sl.o (todo.map .str)),some (Sl.v (.str a)),o6],⟨kd,rest,o6,⟨S.nd,S.wy,S.ln,S.ok,S.ko,λz hz=>S.td z (Ic _ hz),(Jk.mp S.tn).2,S.sb⟩,hla,m0.1,rfl⟩,?_,?_⟩
    ·rintro i z δ hz ⟨kd,todo,o6,S,hla,hm,rfl⟩;rw [Ie] at hz;cases hz':(cL ps a)[i]? with
     | none=>rw [hz'] at hz;cases hz
     | some b=>
      rw [hz'] at hz;cases hz;have hb:=Ik hz';walk_at "a";rw [Hg];by_cases hk:b∈kd.map (·.1)
      ·rw [ND (by rw [decide_eq_true hk];simp)];exact⟨kd,todo,S,hla,hm,rfl,rfl,_,rfl⟩
      ·rw [NF (decide_eq_false hk)];have kl:=S.len pl;have tl:todo.length<=kd.length:=by
        have:=pT S.tn S.td
        rwa [HB] at this
       have ll:=S.ln _ hla;have bok:Im b=true:=by
        obtain⟨p,hp,e⟩:=HR.mp (mq hb);rw [<-e];exact gp.nm p hp
       have N:Sw ps nm (kd++[(b,la++[b])]) (todo++[b]):=by
        have mem:∀p∈kd++[(b,la++[b])],p∈kd\/p=(b,la++[b]):=λp hp=>by simpa using hp
        refine⟨?_,λp hp=>?_,λp hp=>?_,λp hp z hz=>?_,λp hp=>?_,λz hz=>?_,?_,λp hp=>?_⟩
        ·rw [Io,Lx];refine⟨S.nd,NH,λx hx y hy e=>hk ?_⟩;have:y=b:=by simpa using hy
         rw [<-this,<-e];exact hx
        ·rcases mem p hp with h | h
         ·exact S.wy p h
         ·rw [h];exact .step (S.wy _ hla) hb
        ·rw [HU];rcases mem p hp with h | h
         ·have:=S.ln p h;omega
         ·rw [h];simp only [HU,HN,Jt];simp only at ll;omega
        ·rcases mem p hp with h | h
         ·exact S.ok p h z hz
         ·rw [h] at hz;rcases Ij.mp hz with y | y
          ·exact S.ok _ hla z y
          ·rw [Ig.mp y];exact bok
        ·rcases mem p hp with h | h
         ·exact S.ko p h
         ·rw [h];exact bok
        ·rw [Io];rcases Ij.mp hz with y | y
         ·exact JX _ (S.td z y)
         ·rw [Ig.mp y];simp
        ·rw [Lx];refine⟨S.tn,NH,λx hx y hy e=>hk ?_⟩;have:y=b:=by simpa using hy
         rw [<-this,<-e];exact S.td x hx
        ·rcases mem p hp with h | h
         ·exact S.sb p h
         ·rw [h];exact .inr (mq hb)
       have nl:=N.len pl;rw [HU,Jb] at nl;simp only at ll;refine⟨_,x4 S.nd hla,_,rfl,by rw [HB];omega,by unfold c7;rw [HB];omega,by rw [HB];omega,_,_,N,JX _ hla,?_,?_,by rw [Io];rfl,_,rfl⟩
       ·rw [HU,HU,Jb,Jb];omega
       ·rw [pQ]
        ·unfold c7;rw [Io,HF,Io];rfl
        ·unfold c7;rw [Iy];intro h;obtain⟨p,hp,e⟩:=HR.mp h;exact hk (HR.mpr ⟨p,hp,Kn e⟩)
    ·rintro δ ⟨kd,todo,o6,S,hla,hm,rfl⟩;exact⟨m - 1,NC,kd,todo,S,hm,_,_,rfl⟩
end
theorem x9:bu (aD kr) ["_law_web_here","_law_name","_law_other","_law_way_here"] ["_law_one","_law_web_here"] 1 [0] ⟨HS,[ (Hz ".0",O5),(Hz "_law_one",O5),(Hz "isinstance",Ib),(Hz "str",Ib),(Hz "_law_web_here",HY)],false,false,[]⟩:= .of
theorem yu:bu (aD kr) ["_law_web_here","_law_name","_law_other","_law_way_here"] ["_law_k","_law_way_here","_law_web_here"] 1 [3,0] ⟨HS,[ (Hz ".0",O5),(Hz "_law_k",O5),(Hz "_law_way_here",HY),(Hz "_law_web_here",HY)],false,false,[]⟩:= .of
section
variable {P:NV} {w:NX} {K:Hx} {mg:Str->Option NJ} {base:NZ} {t:cI}
theorem yw{ps:List Pp}(nd:(ps.map (·.nm)).Nodup){c:Pp}(hc:c∈ps):cL ps c.nm=iB ps c:=by
 unfold cL;cases hf:ps.find? λp=>decide (p.nm=c.nm) with
 | none=>exact absurd (Jo.mp hf c hc) NH
 | some p=>
  have e:p.nm=c.nm:=by simpa using Jn hf
  rw [mf nd (ID hf) hc e]
theorem yx{ps:List Pp}(nd:(ps.map (·.nm)).Nodup){c:Pp}(hc:c∈ps){b:Str}:b∈iB ps c↔∃m∈ck ps c,m.nm=b:=by
 unfold iB ck;rw [IT,IT];constructor
 ·rintro⟨⟨h1,h2⟩,h3⟩;obtain⟨m,hm,rfl⟩:=HR.mp (of_decide_eq_true h2);rw [pR nd hm] at h3;refine⟨m,IT.mpr ⟨iw.mpr hm,?_⟩,rfl⟩;unfold js;rw [JD.mpr h1,IK];exact h3
 ·rintro⟨m,hm,rfl⟩;obtain⟨hm1,hm2⟩:=IT.mp hm;unfold js at hm2;rw [HX] at hm2;have hm1:=iw.mp hm1;refine⟨⟨JD.mp hm2.1,decide_eq_true (HR.mpr ⟨m,hm1,rfl⟩)⟩,?_⟩;rw [pR nd hm1];exact hm2.2
def dY(ps:List Pp):Str->List Str->Bool
 | _,[]=>true
 | a,b::r=>decide (b∈cL ps a) && dY ps b r
theorem yz{ps:List Pp}{c m:Pp}(h:m∈ck ps c):m∈ps:=by
 unfold ck at h;exact iw.mp (IT.mp h).1
theorem pU{ps:List Pp}(nd:(ps.map (·.nm)).Nodup):∀{r:List Str}{c:Pp},c∈ps->cK ps c (r.map .str)=dY ps c.nm r
 | [],c,_=>rfl
 | b::r,c,hc=>by
  rw [HF];unfold cK dY;rw [yw nd hc];cases hf:(ck ps c).find? λm=>HA (.str m.nm) (.str b) with
  | none=>
   have:b ∉ iB ps c:=λh=>by
    obtain⟨m,hm,e⟩:=(yx nd hc).mp h;exact absurd (Jo.mp hf m hm) (by simp [HA,e])
   rw [decide_eq_false this];rfl
  | some m=>
   have hm:=ID hf;have e:m.nm=b:=by simpa [HA] using Jn hf
   rw [decide_eq_true ((yx nd hc).mpr ⟨m,hm,e⟩),IK,<-e];exact pU nd (yz hm)
theorem yA{ps:List Pp}:∀{es:List NI}{c:Pp},cK ps c es=true->∀e∈es,∃z∈ps.map (·.nm),e= .str z
 | e::es,c,h,x,hx=>by
  unfold cK at h;cases hf:(ck ps c).find? λm=>HA (.str m.nm) e with
  | none=>rw [hf] at h;cases h
  | some m=>
   rw [hf] at h;rcases HM.mp hx with z | z
   ·rw [z];exact⟨m.nm,HR.mpr ⟨m,yz (ID hf),rfl⟩,xS (by simpa using Jn hf)⟩
   ·exact yA h x z
theorem yB{ps:List Pp}:∀(a:Str)(r:List Str),((IG r.length).all λk=>decide (r.getD k a∈cL ps ((a::r).getD k a)))=dY ps a r
 | a,[]=>rfl
 | a,b::r=>by
  rw [HN,List.range_succ_eq_map,Ll,KA];unfold dY;rw [<-yB b r];congr 1;rw [K3,Ja,Ja];have key:∀k∈IG r.length,((λk=>decide ((b::r).getD k a∈cL ps ((a::b::r).getD k a)))∘ Nat.succ) k=decide (r.getD k b∈cL ps ((b::r).getD k b)):=λk hk=>by
   have hk:=JL.mp hk;have e1:(b::r).getD (k+1) a=r.getD k b:=by simp [List.getD,hk]
   have e2:(a::b::r).getD (k+1) a=(b::r).getD k b:=by
    rw [List.getD_cons_succ,Iq,Iq,HL (by rw [HN];omega)];rfl
   show decide ((b::r).getD (k+1) a∈cL ps ((a::b::r).getD (k+1) a))=_;rw [e1,e2]
  constructor <;> intro h k hk
  ·rw [<-key k hk];exact h k hk
  ·rw [key k hk];exact h k hk
def fS(ps:List Pp):NI->Bool
 | .str z=>decide (z∈ps.map (·.nm))
 | _=>false
theorem yC{ps:List Pp}:∀{l:List NI},l.all (fS ps)=true->∃zs:List Str,l=zs.map .str/\∀z∈zs,z∈ps.map (·.nm)
 | [],_=>⟨[],rfl,NH⟩
 | d::l,h=>by
  rw [Ll,HX] at h;obtain⟨zs,e,hz⟩:=yC h.2;cases d with
  | str z=>exact⟨z::zs,by rw [e];rfl,λy hy=>by
   rcases HM.mp hy with q | q
   ·rw [q];exact of_decide_eq_true h.1
   ·exact hz y q⟩
  | _=>exact absurd h.1 (by simp [fS])
theorem Hi{f:Pp->NI}{ps:List Pp}(nd:(ps.map (·.nm)).Nodup)(z:Str):(cf (ps.map (·.nm)) (ps.map f) z).isSome=decide (z∈ps.map (·.nm)):=by
 by_cases h:z∈ps.map (·.nm)
 ·obtain⟨p,hp,rfl⟩:=HR.mp h;rw [iA nd hp,decide_eq_true h];rfl
 ·rw [mj h,decide_eq_false h];rfl
theorem pV{ps:List Pp}(nd:(ps.map (·.nm)).Nodup){c:Pp}(hc:c∈ps):(ps.find? λp=>p.nm==c.nm)=some c:=by
 cases hf:ps.find? λp=>p.nm==c.nm with
 | none=>exact absurd (Jo.mp hf c hc) NH
 | some p=>
  have e:p.nm=c.nm:=by simpa using Jn hf
  rw [mf nd (ID hf) hc e]
def Hj:List NI->(NI->Prop)->Prop:=λds Q=>∃(xs:List De)(nm o:Str)(d:NI),ds=[iC (aI xs),.str nm,.str o,d]/\eB xs/\gA d/\Q (.bool (dX (aI xs) nm o d))
theorem Hk(T:Txt K mg t):aO P w K mg base CX0 1 t.a_l t.d_l ["_law_web_here","_law_name","_law_other","_law_way_here"] (aT K Hj):=by
 refine T.F_l.F.okD FP (λds Q h=>?_) (λ_ _ _ _ H O ds Q E hr h=>?_)
 ·obtain⟨xs,nm,o,d,rfl,_⟩:=h;rfl
 ·obtain⟨xs,nm,o,d,rfl,gl,hd,q⟩:=h;refine'⟨_,?A,?B⟩
  case A=>
   refine' av ?C ?D
   case C=>
    refine' aW ?E ?F aV
    case E=>exact(PW.pt (d7 (dM (cE (el (K':=K) (T:="tuple") rfl rfl T.n_isinstance d5 (df (dv 3)) (d3 (v:= .ty "tuple") rfl T.n_tuple eI rfl)))) (d7 (aL iK dm (PE.imp (aS bI rfl T.n_len HW (aH (dv 3) aG)) (aP bO)) af (aC _)) (d7 (aL (wA hr) wC (ay aE aF (dv 3) af) (dv 1) (aC _)) (fG (aL (wA hr) wC (ay aE aF (dv 3) (oi af)) (dv 2) (aC _)))))))
    case F=>refine' au (aA bW)
   case' D=>refine' av ?G ?H
   case G=>
    refine' aW ?I ?J aV
    case I=>exact(dM (cE (PE.imp (aS (iT rfl) rfl T.n_all iU (aH (fe (i6 rfl x9 (df (dv 3)) bw cw NB (λ_ _ _ _=>(bq (i:=0) x9.nd rfl NG)) (λ_ _ _ _=>dO) (λ_ _ _ _=>(cg (el (K':=K) (T:="str") rfl rfl T.n_isinstance d5 (df (dv 0)) (d3 (v:= .ty "str") rfl T.n_str rp rfl)) (cF (E3 hr.units (dv 1) (dv 0))))))) aG)) (aP gI))))
    case J=>refine' au (aA bW)
   case' H=>refine' au ?K
   case' K=>refine' aA ?L
   case L=>exact(PE.imp (aS (iT rfl) rfl T.n_all iU (aH (fe (lB rfl yu rfl T.n_range (aH (aK eF bC (PE.imp (aS bI rfl T.n_len HW (aH (dv 3) aG)) (aP bO)) af) aG) bw cw NB (λ_ _ _ _=>(bq (i:=0) yu.nd rfl NG)) (λ_ _ _ _=>dO) (λ_ _ _ _=>(bS (uc hr) lI (df (ay aE aF (dv 1) (aK bV bC (dv 0) af))) (df (lM hr.units (dv 2) (ay aE aF (dv 1) (dv 0)) (λ_ _=>rfl))) rfl)))) aG)) (aP gI))
  case B=>
  clear hr T;walk_at "a";simp only [ij];walk_at "a";refine⟨gr hd.1,?_⟩;have g:=gl.good;have gp:=g.gp;generalize aI xs=ps at gp q⊢;have no:∀{d:NI},(∀c,c∈ps->c.nm=nm->(dE ps c d && match d with
   | .tuple l=>decide (1 < l.length) && iz o l
   | _=>false)=false)->dX ps nm o d=false:=λ{d} h=>by
   unfold dX;cases hf:ps.find? λp=>p.nm==nm with
   | none=>rfl
   | some c=>exact h c (ID hf) (by simpa using Jn hf)
  cases d with
  | tuple l=>
   simp only [eN];walk_at "a";have ll:=hd.2 l rfl;have ht:∀e∈l,thg e=true:=λe he=>jZ hd.1 he;by_cases h2:(l.length:Int) < 2
   ·rw [NF h2];rw [no (λc _ _=>by dsimp only;rw [decide_eq_false (show ¬1 < l.length by omega),J0,KD])] at q;exact q
   ·rw [ND h2];cases l with
    | nil=>exact absurd (show((([]:List NI).length:Nat):Int) < 2 by decide) h2
    | cons e es=>
     refine⟨e,cR,?_⟩;unfold wB;refine⟨nm,rfl,eO (ht e HZ),_,rfl,?_⟩;cases he:HA e (.str nm) with
     | false=>
      rw [no (λc _ hc=>by
       have:dE ps c (.tuple (e::es))=(HA e (.str c.nm) && cK ps c es):=rfl;rw [this,hc,he];rfl)] at q
      exact q
     | true=>
      rw [ND NH];obtain⟨l',y,hl⟩:∃(l':List NI)(y:NI),e::es=l'++[y]:=⟨(e::es).dropLast,(e::es).getLast NH,(Lb _).symm⟩;have lb:iz o (e::es)=HA y (.str o):=by
       unfold iz;rw [hl,K4];rfl
      refine⟨y,by rw [hl];exact xU l' y,?_⟩;refine⟨o,rfl,eO (ht y (by rw [hl];simp)),_,rfl,?_⟩;cases hy:HA y (.str o) with
      | false=>
       rw [no (λc _ hc=>by dsimp only;rw [lb,hy,KD,KD])] at q;exact q
      | true=>
       rw [ND NH];have ee:=xR he;subst ee;refine⟨NC,λi acc=>acc=(((Hy nm::es).take i).map (fS ps)).map IZ,rfl,?_,?_⟩
       ·rintro i x acc hx rfl;walk_at "a";simp only [uI];walk_at "a";have tx:=ht x (Ik hx);refine⟨gr tx,?_⟩;have tk:(Hy nm::es).take (i+1)=(Hy nm::es).take i++[x]:=by rw [Js,hx];rfl
        have fin:∀b,fS ps x=b->HQ IZ (HQ (fS ps) (List.take i (Hy nm::es)))++[IZ b]=HQ IZ (HQ (fS ps) (List.take (i+1) (Hy nm::es))):=λb hb=>by
         rw [tk,Io,Io,<-hb];rfl
        cases x with
        | str z=>
         rw [NF (show lK (Hy z)=true from rfl)];exact⟨z,rfl,_,_,rfl,fin _ (Hi gp.nd z).symm⟩
        | _=>exact fin false rfl
       ·rintro acc rfl;rw [Iu (HE _)];refine⟨_,rfl,?_⟩;rw [KA];have ea:(Hy nm::es).all (id ∘ fS ps)=(Hy nm::es).all (fS ps):=rfl;rw [ea];cases hs:(Hy nm::es).all (fS ps) with
        | false=>
         rw [NF rfl];rw [no (λc hc hn=>by
          have wd:dE ps c (.tuple (.str nm::es))=(HA (.str nm) (.str c.nm) && cK ps c es):=rfl;rw [wd];cases hw:cK ps c es with
          | false=>rw [KD];rfl
          | true=>
           have:(Hy nm::es).all (fS ps)=true:=by
            rw [Ja];intro x hx;rcases HM.mp hx with z | z
            ·rw [z,<-hn];exact decide_eq_true (HR.mpr ⟨c,hc,rfl⟩)
            ·obtain⟨y,hy,rfl⟩:=yA hw x z;exact decide_eq_true hy
           rw [this] at hs;cases hs)] at q
         exact q
        | true=>
         rw [ND NH];obtain⟨zs,ez,hz⟩:=yC hs;cases zs with
         | nil=>cases ez
         | cons z r=>
          rw [HF,Jv,J3] at ez;obtain⟨e1,e2⟩:=ez;subst e1 e2;rw [HN,HB] at ll h2⊢;refine⟨NC,NC,λi acc=>acc=((IG i).map λk=>decide (r.getD k nm∈cL ps ((nm::r).getD k nm))).map IZ,rfl,?_,?_⟩
          ·rintro i x acc hx rfl;obtain⟨hi,rfl⟩:=gn hx;walk_at "a";have hi:i < r.length:=NC
           have a1:atI (Hy nm::r.map .str) (0+(i:Int)+1)=some (.str (r.getD i nm)):=by
            rw [show(0+(i:Int)+1)=((i+1:Nat):Int) by omega];refine cQ ?_;rw [J6,Ie,HL hi,Iq,HL hi];rfl
           have hi':i < (nm::r).length:=by rw [HN];omega
           have a2:atI (Hy nm::r.map .str) (0+(i:Int))=some (.str ((nm::r).getD i nm)):=by
            rw [Mu,show Hy nm::r.map Hy=(nm::r).map Hy from rfl];refine cQ ?_;rw [Ie,HL hi',Iq,HL hi'];rfl
           have m1:(nm::r).getD i nm∈nm::r:=by
            rw [Iq,HL hi'];exact IP hi'
           have m2:r.getD i nm∈nm::r:=by
            rw [Iq,HL hi];exact Ic _ (IP hi)
           obtain⟨p,hp,ep⟩:=HR.mp (hz _ m1);obtain⟨p2,hp2,ep2⟩:=HR.mp (hz _ m2);have aw:cf (ps.map (·.nm)) (ps.map (ju ps)) ((nm::r).getD i nm)=some (.list ((cL ps ((nm::r).getD i nm)).map .str)):=by
            rw [<-ep,iA (f:=ju ps) gp.nd hp,yw gp.nd hp];rfl
           refine⟨_,a1,_,_,rfl,_,a2,_,rfl,_,aw,_,.inl rfl,gi.mpr (by rw [<-ep2];exact gp.nm p2 hp2),pH λm hm=>?_,?_⟩
           ·obtain⟨p3,hp3,ep3⟩:=HR.mp (mq hm);rw [<-ep3];exact gp.nm p3 hp3
           ·rw [pG,JO,Io,Io];congr 2;show IZ _=IZ _;congr 1;rw [K3,JD,decide_eq_true_iff]
          ·rintro acc rfl;refine⟨_,rfl,?_⟩;rw [gJ,KA,show(((r.length+1:Nat):Int) - 1).toNat=r.length by omega];have ec:=yB (ps:=ps) nm r;have em:(IG r.length).all (id ∘ λk=>decide (r.getD k nm∈cL ps ((nm::r).getD k nm)))=dY ps nm r:=ec;rw [em];obtain⟨c,hc,hn⟩:=HR.mp (hz nm HZ);have eq:dX ps nm o (.tuple (.str nm::r.map .str))=dY ps nm r:=by
            unfold dX;rw [<-hn,pV gp.nd hc];have wd:dE ps c (.tuple (.str c.nm::r.map .str))=(HA (.str c.nm) (.str c.nm) && cK ps c (r.map .str)):=rfl;dsimp only;rw [wd,pU gp.nd hc,hn,lb,hy,decide_eq_true (show 1 < (Hy nm::r.map Hy).length by rw [HN,HB];omega)];simp [HA]
           rw [eq] at q;exact q
  | _=>
   rw [no (λc _ _=>by simp [dE])] at q;simpa [eN] using q
end
theorem yD:bu (aD l3) ["_law_purse_here","_law_names_here","_law_name","_law_other","_law_way_here","_law_at","_law_odd","_law_some"] ["_law_turn","_law_some","_law_purse_here"] 1 [7,0] ⟨HS,[ (Hz ".0",O5),(Hz "_law_turn",O5),(Hz "_law_take",Ib),(Hz "len",Ib),(Hz "_law_purse_here",HY),(Hz "_law_some",HY)],false,false,[]⟩:= .of
section
variable {P:NV} {w:NX} {K:Hx} {mg:Str->Option NJ} {base:NZ} {t:cI}
theorem pW:∀{a:List NI},(∀d∈a,thg d=true)->c5 a=true
 | [],_=>rfl
 | d::a,h=>by rw [c5,HX];exact⟨h d HZ,pW λx hx=>h x (Ic _ hx)⟩
theorem jv{z:Str}(h:Nm z):thg (.str z)=true:=by
 have:=h.hi;simp only [thg,decide_eq_true_eq];omega
theorem fA{ds:List NI}(h:∀d∈ds,thg d=true)(hl:ds.length<=1000):gA (.tuple ds):=⟨by rw [thg];exact pW h,λes e=>by cases e;exact hl⟩
theorem Hl{xs:List NI}{a b:Option Int}:(aR xs a b).length<=xs.length:=by
 unfold aR;rw [IH,JB];omega
theorem Hm{xs:List NI}{a b:Option Int}{d:NI}(h:d∈aR xs a b):d∈xs:=by
 unfold aR at h;exact JY (IS h)
def Hn:List NI->(NI->Prop)->Prop:=λds Q=>∃(ns:List Str)(nm o:Str)(l:List Str),ds=[di,.list (ns.map .str),.str nm,.str o,.tuple (l.map .str)]/\ns.length=12/\fR ns/\Nm nm/\Nm o/\1<=l.length/\l.length<=30/\fR l/\∀ds:List NI,(∀d∈ds,gA d)->ds.length=5->Q (.list ds)
theorem Ho(T:Txt K mg t):aO P w K mg base CX0 2 t.a_m t.d_m ["_law_purse_here","_law_names_here","_law_name","_law_other","_law_way_here"] (aT K Hn):=by
 have G_Z:=@ix P w _ _ base _ T;refine T.F_m.F.okD kx (λds Q h=>?_) (λ_ _ _ _ H O ds Q E hr h=>?_)
 ·obtain⟨ns,nm,o,l,rfl,_⟩:=h;rfl
 ·obtain⟨ns,nm,o,l,rfl,nl,nok,hn,ho,l1,l2,lok,q⟩:=h;refine'⟨_,?A,?B⟩
  case A=>
   refine' av ?C ?D
   case C=>exact(bK (i:=5) kx.nd rfl NG (aq G_Z hr T.F_Z (aa (dv 0) (aa (PE.imp (aS bI rfl T.n_len HW (aH (dv 4) aG)) (aP bO)) ag))))
   case' D=>refine' av ?E ?F
   case E=>
    refine' bK (i:=6) kx.nd rfl NG ?G (hs:=jg)
    case' G=>refine' dz bH bX (df ?H) ?I
    case H=>
     refine' fe ?J
     case' J=>refine' cv ?K
     case' K=>refine' aa ?L ?M
     case L=>
      refine' dz bH bX (df (dv 1)) ?N
      case N=>exact(df (aq G_Z hr T.F_Z (aa (dv 0) (aa (PE.imp (aS bI rfl T.n_len HW (aH (dv 1) aG)) (aP bO)) ag))))
     case' M=>refine' aa rH ?O
     case' O=>refine' aa ?P ?Q
     case P=>exact(bb (aa (dv 2) ag))
     case' Q=>refine' aa ?R ?S
     case R=>exact(fe (cv ag))
     case' S=>refine' aa Dy ?T
     case T=>refine' aa bW ag
    case I=>exact(df (aq G_Z hr T.F_Z (aa (dv 0) (aa af ag))))
   case' F=>refine' av ?U ?V
   case U=>
    generalize hG23:MW _ _=eg23;refine' bK (i:=7) kx.nd rfl NG ?W (hs:=by subst hG23;exact DL)
    case' W=>subst hG23
    refine' fe ?X
    case' X=>refine' cv ?Y
    case' Y=>refine' aa (dv 4) ?Z
    case' Z=>refine' aa ?a ?b
    case a=>exact(dQ (df (dv 4)) (bU af) cy)
    case' b=>refine' aa ?c ?d
    case c=>exact(dQ (df (dv 4)) cy (bU (oi af)))
    case' d=>refine' aa ?e ?f
    case e=>exact(uU (df (dv 4)))
    case' f=>refine' aa ?g ?h
    case g=>exact(fe (Cb rfl T.n_list BB (aH (dv 4) aG)))
    case' h=>refine' aa ?i ?j
    case i=>
     refine' aK jj jk ?k ?l
     case k=>exact(dQ (df (dv 4)) cy (bU (dv 5)))
     case l=>exact(dQ (df (dv 4)) (bU (aK bV bC (dv 5) af)) cy)
    case' j=>refine' aa ?m ag
    case' m=>refine' aK jj jk ?n ?o
    case n=>
     refine' aK jj jk ?p ?q
     case p=>exact(dQ (df (dv 4)) cy (bU (dv 5)))
     case q=>exact(dQ (df (dv 4)) (bU (dv 5)) (bU (aK bV bC (dv 5) af)))
    case o=>exact(dQ (df (dv 4)) (bU (dv 5)) cy)
   case' V=>refine' av ?r ?s
   case r=>
    refine' bK (i:=7) kx.nd rfl NG ?t (hs:=je)
    case' t=>refine' fe ?u
    case' u=>refine' nH (df (dv 7)) (df ?v)
    case' v=>refine' fe ?w
    case' w=>refine' cv ?x
    case' x=>refine' aa ?y ?z
    case y=>
     refine' aK jj jk ?A0 ?A1
     case A0=>
      refine' aK jj jk ?A2 ?A3
      case A2=>exact(dQ (df (dv 4)) cy (bU (dv 5)))
      case A3=>exact(bb (aa (dv 6) ag))
     case A1=>exact(dQ (df (dv 4)) (bU (aK bV bC (dv 5) af)) cy)
    case' z=>refine' aa ?A4 ?A5
    case A4=>exact(bb (aa (dv 2) (aa (dv 3) ag)))
    case' A5=>refine' aa ?A6 ?A7
    case A6=>exact(bb (aa (dv 3) (aa (dv 2) ag)))
    case' A7=>refine' aa ?A8 ?A9
    case A8=>exact(bb (aa (dv 2) ag))
    case' A9=>refine' aa ?AA ?AB
    case AA=>exact(bb (aa (dv 2) (aa (dv 2) ag)))
    case' AB=>refine' aa (bb ag) ?AC
    case AC=>refine' aa rH ag
   case' s=>refine' au ?AD
   case' AD=>refine' aA ?AE
   case' AE=>refine' fe ?AF
   case' AF=>refine' nH (df ?AG) (df ?AH)
   case AG=>exact(fe (cv (aa (dv 4) ag)))
   case' AH=>refine' fe ?AI
   case AI=>exact(lB rfl yD rfl T.n_range (aH af aG) bw cw NB (λ_ _ _ _=>(bq (i:=0) yD.nd rfl NG)) (λ_ _ _ _=>dO) (λ_ _ _ _=>(ay bH bX (dv 1) (aK bV bC af (aq G_Z hr T.F_Z (aa (dv 2) (aa (aK eF bC (PE.imp (aS bI rfl T.n_len HW (aH (dv 1) aG)) (aP bO)) af) ag)))))))
  case B=>
  clear hr T G_Z;walk_at "a";have ll:(HQ Hy l).length=l.length:=HB _;refine⟨_,rfl,NC,NC,λat0 a0 a1=>⟨_,rfl,by rw [HB];omega,by rw [HB];omega,λk k0 k1=>⟨_,rfl,?_⟩⟩⟩;rw [HB] at k1;obtain⟨z,hz,ez⟩:=fb k0 k1;refine⟨_,ez,6,rfl,NB,NB,λj j0 j1=>⟨_,rfl,?_⟩⟩;obtain⟨od,eo,ho2⟩:∃od,atI [.str z,Kc,HI [Hy nm],JF [],.dict [],IZ true] j=some od/\thg od=true:=by
   have:j=0\/j=1\/j=2\/j=3\/j=4\/j=5:=NC
   have tn:=jv hn;rcases this with e | e | e | e | e | e <;> subst e
   ·exact⟨_,rfl,jv (nok z hz)⟩
   ·exact⟨_,rfl,rfl⟩
   ·exact⟨_,rfl,by rw [thg,c5,c5,tn];rfl⟩
   ·exact⟨_,rfl,rfl⟩
   ·exact⟨_,rfl,rfl⟩
   ·exact⟨_,rfl,rfl⟩
  refine⟨od,eo,?_⟩;have lt:∀d∈l.map Hy,thg d=true:=λd hd=>by
   obtain⟨z,hz,rfl⟩:=HR.mp hd;exact jv (lok z hz)
  have ct:∀a b,(∀d∈aR (l.map Hy) a b,thg d=true)/\(aR (l.map Hy) a b).length<=30:=λa b=>⟨λd hd=>lt d (Hm hd),by have:=Hl (xs:=l.map Hy) (a:=a) (b:=b);omega⟩;have c1:=λa b=>(ct a b).2;refine⟨_,rfl,_,rfl,by have:=c1 none (some at0);have:=c1 (some (at0+1)) none;omega,_,rfl,_,rfl,_,rfl,by have:=c1 none (some at0);have:=c1 (some at0) (some (at0+1));omega,_,rfl,by rw [HU];have:=c1 none (some at0);have:=c1 (some at0) (some (at0+1));have:=c1 (some at0) none;omega,_,rfl,by have:=c1 none (some at0);omega,_,rfl,by rw [HU,Jb];have:=c1 none (some at0);have:=c1 (some (at0+1)) none;omega,NB,?_⟩;have tn:=jv hn;have to:=jv ho;have app:∀a b:List NI,(∀d∈a,thg d=true)->(∀d∈b,thg d=true)->∀d∈a++b,thg d=true:=λa b ha hb d hd=>by
   rcases Ij.mp hd with h | h
   ·exact ha d h
   ·exact hb d h
  have two:∀a b:Str,thg (.str a)=true->thg (.str b)=true->gA (.tuple [.str a,.str b]):=λa b ha hb=>fA (λd hd=>by
   simp only [HM,IW,or_false] at hd;rcases hd with e | e <;> rw [e]
   ·exact ha
   ·exact hb) NH
  have all:∀d∈[HI (HQ Hy l),HI (aR (HQ Hy l) (some 1) none),HI (HQ Hy l).dropLast,HI (HQ Hy l).reverse,JF (HQ Hy l),HI (aR (HQ Hy l) none (some at0)++aR (HQ Hy l) (some (at0+1)) none),HI (aR (HQ Hy l) none (some at0)++aR (HQ Hy l) (some at0) (some (at0+1))++aR (HQ Hy l) (some at0) none),HI (aR (HQ Hy l) none (some at0)++[od]++aR (HQ Hy l) (some (at0+1)) none),HI [Hy nm,Hy o],HI [Hy o,Hy nm],HI [Hy nm],HI [Hy nm,Hy nm],HI [],Kc],gA d:=by
   intro d hd;simp only [HM,IW,or_false] at hd;rcases hd with e | e | e | e | e | e | e | e | e | e | e | e | e | e <;> rw [e]
   ·exact fA lt NC
   ·exact fA (ct _ _).1 (by have:=c1 (some 1) none;omega)
   ·exact fA (λd hd=>lt d ((List.dropLast_sublist _).subset hd)) (by rw [List.length_dropLast];omega)
   ·exact fA (λd hd=>lt d (List.mem_reverse.mp hd)) (by rw [K7];omega)
   ·exact⟨by rw [thg];exact pW lt,λes e=>by cases e⟩
   ·exact fA (app _ _ (ct _ _).1 (ct _ _).1) (by rw [HU];have:=c1 none (some at0);have:=c1 (some (at0+1)) none;omega)
   ·exact fA (app _ _ (app _ _ (ct _ _).1 (ct _ _).1) (ct _ _).1) (by rw [HU,HU];have:=c1 none (some at0);have:=c1 (some at0) (some (at0+1));have:=c1 (some at0) none;omega)
   ·exact fA (app _ _ (app _ _ (ct _ _).1 (λd hd=>by rw [Ig.mp hd];exact ho2)) (ct _ _).1) (by rw [HU,HU,Jb];have:=c1 none (some at0);have:=c1 (some (at0+1)) none;omega)
   ·exact two _ _ tn to
   ·exact two _ _ to tn
   ·exact fA (λd hd=>by rw [Ig.mp hd];exact tn) NH
   ·exact two _ _ tn tn
   ·exact fA (λd hd=>by cases hd) NH
   ·exact⟨rfl,λes e=>by cases e⟩
  have w0:gA (.tuple (HQ Hy l)):=all _ HZ;generalize hS:[HI (HQ Hy l),HI (aR (HQ Hy l) (some 1) none),HI (HQ Hy l).dropLast,HI (HQ Hy l).reverse,JF (HQ Hy l),HI (aR (HQ Hy l) none (some at0)++aR (HQ Hy l) (some (at0+1)) none),HI (aR (HQ Hy l) none (some at0)++aR (HQ Hy l) (some at0) (some (at0+1))++aR (HQ Hy l) (some at0) none),HI (aR (HQ Hy l) none (some at0)++[od]++aR (HQ Hy l) (some (at0+1)) none),HI [Hy nm,Hy o],HI [Hy o,Hy nm],HI [Hy nm],HI [Hy nm,Hy nm],HI [],Kc]=S at all⊢;have sl:S.length=14:=by rw [<-hS];rfl
  clear hS;refine⟨λi acc=>acc.length=i/\∀d∈acc,gA d,⟨rfl,λd hd=>by cases hd⟩,?_,?_⟩
  ·rintro i x acc hx ⟨al,aw⟩;obtain⟨hi,rfl⟩:=gn hx;walk_at "a";refine⟨_,rfl,NC,NC,λv v0 v1=>⟨_,rfl,?_⟩⟩;obtain⟨k,hk⟩:=Jp (show 0<=1+v by omega);have h14:k < S.length:=NC
   refine⟨S[k],by rw [hk];exact cQ (HL h14),by rw [HU,al];rfl,λd hd=>?_⟩
   ·rcases Ij.mp hd with h | h
    ·exact aw d h
    ·rw [Ig.mp h];exact all _ (IP h14)
  ·rintro acc ⟨al,aw⟩;rw [gJ] at al;refine⟨NC,q _ (λd hd=>?_) (by rw [HN,al];rfl)⟩;rcases HM.mp hd with h | h
   ·rw [h];exact w0
   ·exact aw d h
theorem yE{ps qs:List Pp}(h:∀c,ck ps c=ck qs c):∀(es:List NI)(c:Pp),cK ps c es=cK qs c es
 | [],c=>rfl
 | e::es,c=>by
  unfold cK;rw [h c];cases (ck qs c).find? λm=>HA (.str m.nm) e with
  | none=>rfl
  | some m=>exact yE h es m
theorem Hq{ps qs:List Pp}(nd:(ps.map (·.nm)).Nodup)(h:qs.Perm ps)(nm o:Str)(d:NI):dX qs nm o d=dX ps nm o d:=by
 have nq:(qs.map (·.nm)).Nodup:=(h.map _).nodup_iff.mpr nd;have hm:∀c,ck qs c=ck ps c:=λc=>by unfold ck;rw [F8 nd h]
 have hw:∀c,dE qs c d=dE ps c d:=λc=>by
  unfold dE;split
  ·rw [yE hm]
  ·rfl
 have hf:(qs.find? λp=>p.nm==nm)=ps.find? λp=>p.nm==nm:=by
  cases h1:ps.find? λp=>p.nm==nm with
  | none=>
   rw [Jo];intro p hp;exact Jo.mp h1 p (h.mem_iff.mp hp)
  | some c=>
   have hc:=ID h1;have e:c.nm=nm:=by simpa using Jn h1
   rw [<-e];exact pV nq (h.mem_iff.mpr hc)
 unfold dX;rw [hf];split
 ·rfl
 ·rw [hw]
theorem yF{ps:List Pp}:∀(a:Str)(r:List Str)(b z:Str),dY ps a r=true->(a::r).getLast?=some z->b∈cL ps z->dY ps a (r++[b])=true
 | a,[],b,z,_,h2,h3=>by
  have:a=z:=by simpa using h2
  subst this;simp only [Jx,dY,decide_eq_true h3,IK]
 | a,x::r,b,z,h1,h2,h3=>by
  unfold dY at h1;rw [HX] at h1;rw [KW];unfold dY;rw [h1.1,IK];exact yF x r b z h1.2 (by rw [List.getLast?_cons_cons] at h2;exact h2) h3
theorem Wy.chain{ps:List Pp}{nm a:Str}{l:List Str}(h:Wy ps nm a l):∃r,l=nm::r/\dY ps nm r=true/\l.getLast?=some a:=by
 induction h with
 | base=>exact⟨[],rfl,rfl,rfl⟩
 | @step a b l w hb ih=>
  obtain⟨r,e,hc,hl⟩:=ih;refine⟨r++[b],by rw [e];rfl,yF nm r b a hc (by rw [<-e];exact hl) hb,by rw [K4];rfl⟩
theorem Wy.mem{ps:List Pp}{nm a:Str}{l:List Str}(h:Wy ps nm a l):∀z∈l,z=nm\/z∈ps.map (·.nm):=by
 induction h with
 | base=>intro z hz;exact .inl (Ig.mp hz)
 | step w hb ih=>
  intro z hz;rcases Ij.mp hz with h | h
  ·exact ih z h
  ·rw [Ig.mp h];exact .inr (mq hb)
theorem iD.pos{ps:List Pp}{nm o:Str}{l:List Str}(h:iD ps nm o l):1<=l.length:=by
 rcases h.one with e | e
 ·rw [e];exact HE _
 ·omega
theorem iD.strs{xs:List De}(g:eB xs){nm o:Str}(hn:Nm nm){l:List Str}(h:iD (aI xs) nm o l):fR l:=λz hz=>by
 have:z=nm\/z∈(aI xs).map (·.nm):=by
  rcases h.one with e | e
  ·rw [e] at hz;exact .inl (Ig.mp hz)
  ·exact e.2.mem z hz
 rcases this with e | e
 ·rw [e];exact hn
 ·obtain⟨p,hp,rfl⟩:=HR.mp e;exact(xT (g.e _ (pF.mp hp)).dv).1
theorem iD.made{ps:List Pp}(nd:(ps.map (·.nm)).Nodup){nm o:Str}{l:List Str}(h:iD ps nm o l):dX ps nm o (.tuple (l.map .str))=decide (1 < l.length):=by
 rcases h.one with e | ⟨h1,wy⟩
 ·subst e;unfold dX;split
  ·rfl
  ·dsimp only;rw [decide_eq_false (show ¬1 < (HQ Hy [nm]).length by simp),J0,KD];rfl
 ·obtain⟨r,e,hc,hl⟩:=wy.chain;subst e;cases r with
  | nil=>exact absurd h1 NH
  | cons b r=>
   have hb:b∈cL ps nm:=by
    unfold dY at hc;rw [HX] at hc;exact of_decide_eq_true hc.1
   obtain⟨c,hcm,hcn⟩:∃c∈ps,c.nm=nm:=by
    unfold cL at hb;split at hb
    ·rename_i p hf;exact⟨p,ID hf,by simpa using Jn hf⟩
    ·cases hb
   subst hcn;unfold dX;rw [pV nd hcm];dsimp only;have wd:dE ps c (.tuple ((c.nm::b::r).map .str))=(HA (.str c.nm) (.str c.nm) && cK ps c ((b::r).map .str)):=rfl;have lb:iz o ((c.nm::b::r).map Hy)=true:=by
    unfold iz;rw [List.getLast?_map,hl];simp [HA]
   rw [wd,pU nd hcm,hc,lb,decide_eq_true (show 1 < ((c.nm::b::r).map Hy).length by rw [HB];exact h1),decide_eq_true h1];simp [HA]
def Hr:List NI->(NI->Prop)->Prop:=λds Q=>∃(xs:List De)(ns:List Str)(nm o:Str),ds=[di,.tuple (xs.map De.enc),.list (ns.map .str),.str nm,.str o]/\eB xs/\ns.length=12/\fR ns/\Nm nm/\Nm o/\Q (.bool true)
theorem Hs(T:Txt K mg t):aO P w K mg base CX0 10 t.a_n t.d_n ["_law_purse_here","_law_deeds_here","_law_names_here","_law_name","_law_other"] (aT K Hr):=by
 have G_j:=@xZ P w _ _ base _ T;have G_m:=@Ho P w _ _ base _ T;have G_k:=@x8 P w _ _ base _ T;have G_W:=@Hc P w _ _ base _ T;have G_l:=@Hk P w _ _ base _ T;refine T.F_n.F.okD kA (λds Q h=>?_) (λ_ _ _ _ H O ds Q E hr h=>?_)
 ·obtain⟨xs,ns,nm,o,rfl,_⟩:=h;rfl
 ·obtain⟨xs,ns,nm,o,rfl,gl,nl,nok,hn,ho,q⟩:=h;refine'⟨_,?A,?B⟩
  case A=>
   refine' av ?C ?D
   case C=>exact(bK (i:=5) kA.nd rfl NG (aq G_j hr T.F_j (aa (dv 1) ag)))
   case' D=>refine' av ?E ?F
   case E=>
    refine' lu IU rfl (aq G_m hr T.F_m (aa (dv 0) (aa (dv 2) (aa (dv 3) (aa (dv 4) (aa (aq G_k hr T.F_k (aa (dv 5) (aa (dv 3) (aa (dv 4) ag)))) ag)))))) ?G bw ?H
    case G=>exact(bq (i:=6) kA.nd rfl NG)
    case' H=>refine' av ?I ?J
    case I=>
     refine' bK (i:=7) kA.nd rfl NG ?K (hs:=jf)
     case K=>exact(aq G_W hr T.F_W (aa (bb (aa aM (aa (dv 1) (aa (dv 3) (aa (dv 4) ag))))) (aa (dv 6) ag)))
    case' J=>refine' au ?L
    case' L=>refine' aW ?M ?N aV
    case M=>exact(PW.pt (d7 (dM (cE (el (K':=K) (T:="bool") rfl rfl T.n_isinstance d5 (df (dv 7)) (d3 (v:= .ty "bool") rfl T.n_bool nv rfl)))) (fG (aL (jO hr.units) jP (dv 7) (aq G_l hr T.F_l (aa (dv 5) (aa (dv 3) (aa (dv 4) (aa (dv 6) ag))))) (aC _)))))
    case N=>refine' au (aA bW)
   case' F=>refine' av ?O ?P
   case O=>exact(bK (i:=6) kA.nd rfl NG (aq G_k hr T.F_k (aa (dv 5) (aa (dv 3) (aa (dv 4) ag)))))
   case' P=>refine' au ?Q
   case' Q=>refine' aA ?R
   case R=>exact(bS (bM hr.units) bN (df (aq G_W hr T.F_W (aa (bb (aa aM (aa (uU (df (dv 1))) (aa (dv 3) (aa (dv 4) ag))))) (aa (dv 6) ag)))) (df (bS jG dm (df (PE.imp (aS bI rfl T.n_len HW (aH (dv 6) aG)) (aP bO))) (df af) (aC _))) (aC _))
  case B=>
  clear hr T G_j G_m G_k G_W G_l;walk_at "a";have gp:=gl.good.gp;refine⟨xs,rfl,gl,xs,nm,o,rfl,gl,hn.ok,λl wl=>⟨ns,nm,o,l,rfl,nl,nok,hn,ho,wl.pos,wl.len,wl.strs gl hn,λds dw dl=>⟨ds,rfl,?_⟩⟩⟩;refine⟨λi δ=>∃o6 o7:Option Sl,δ=[some (Sl.v di),some (Sl.v (HI (HQ De.enc xs))),some (Sl.v (JF (HQ Hy ns))),some (Sl.v (Hy nm)),some (Sl.v (Hy o)),some (Sl.v (iC (aI xs))),o6,o7],⟨_,_,rfl⟩,?_,?_⟩
  ·rintro i d δ hd ⟨o6,o7,rfl⟩;have wd:=dw d (Ik hd);walk_at "a";refine⟨xs,nm,o,d,rfl,gl,hn.ok,wd,?_⟩;simp only [n4];walk_at "a";refine⟨λ_=>trivial,?_⟩;rw [ND (by simp [jY])];refine⟨xs,nm,o,d,rfl,gl,wd,nM,?_⟩;rw [ND (by simp [HA])];exact⟨_,rfl⟩
  ·rintro δ ⟨o6,o7,rfl⟩;walk_at "a";refine⟨xs,nm,o,rfl,gl,hn.ok,λl wl=>?_⟩;have ls:=wl.strs gl hn;refine⟨xs.reverse,nm,o,_,by rw [List.map_reverse],gl.perm (MA xs),hn.ok,fA (λd hd=>?_) (by rw [HB];have:=wl.len;omega),_,.inr rfl,nM,?_⟩
   ·obtain⟨z,hz,rfl⟩:=HR.mp hd;exact jv (ls z hz)
   ·rw [Hq gp.nd (show(aI xs.reverse).Perm (aI xs) from(MA xs).filterMap De.pp),wl.made gp.nd];have:HA (.bool (decide (1 < l.length))) (.bool (decide (1 < ((HQ Hy l).length:Int))))=true:=by
     rw [HB];have:decide (1 < (l.length:Int))=decide (1 < l.length):=by
      rw [decide_eq_decide];omega
     rw [this];simp [HA]
    rw [this];exact q
end
theorem yG:bu (aD l4) ["_law_script","_law_menu","_law_deeds_here","_law_names_here","_law_far","_law_purse_here","_law_web_here","_law_name","_law_above","_law_other"] ["_law_one","_law_web_here","_law_name"] 1 [6,7] ⟨HS,[ (Hz ".0",O5),(Hz "_law_one",O5),(Hz "len",Ib),(Hz "_law_way",Ib),(Hz "_law_name",HY),(Hz "_law_web_here",HY)],false,false,[]⟩:= .of
section
variable {P:NV} {w:NX} {K:Hx} {mg:Str->Option NJ} {base:NZ} {t:cI}
def F_o:List NI->(NI->Prop)->Prop:=λds Q=>∃ns:List Int,ds=[d6 (ns.map .int)]/\ns.length<=63/\(∀z∈ns,Ji z<=1048576)/\Q (.bool true)
def sp_law(K:Hx):Sp:=aT K F_o
theorem start_law{K:Hx}{H:Hp}{a:NK}{ns:List Int}(hl:ns.length<=63)(hb:∀z∈ns,Ji z<=1048576)(hS:aQ K H a (ns.map V.int)):sp_law K [.ref a] H (λv _=>v= .bl true) λ_ _ _=>False:=
 ⟨λ_=>False,[d6 (ns.map .int)],λd=>d= .bool true,λ_ z=>z.elim,.cons (.scr (by
  rcases hS with h | h
  ·exact .inl ⟨h,λz=>z⟩
  ·exact .inr (.inr h)) (ai.ints ns)) .nil,⟨ns,rfl,hl,hb,rfl⟩,λd v H' e _ r=>by subst e;cases r;rfl⟩
theorem ok_law(T:Txt K mg t):aO P w K mg base CX0 11 t.a_o t.d_o ["_law_script"] (sp_law K):=by
 have G_i:=@G3 P w _ _ base _ T;have G_Y:=@xB P w _ _ base _ T;have G_X:=@xF P w _ _ base _ T;have G_Z:=@ix P w _ _ base _ T;have G_j:=@xZ P w _ _ base _ T;have G_k:=@x8 P w _ _ base _ T;have G_n:=@Hs P w _ _ base _ T;refine T.F_o.F.okD fQ (λds Q h=>?_) (λ_ _ _ _ H O ds Q E hr h=>?_)
 ·obtain⟨ns,rfl,_⟩:=h;rfl
 ·obtain⟨ns,rfl,hl,hb,q⟩:=h;refine'⟨_,?A,?B⟩
  case A=>
   refine' av ?C ?D
   case C=>exact(bK (i:=1) fQ.nd rfl NG (fe (cv (gM (ds:=[.str "paper",.str "paper",.str "happens",.str "hold",.str "keep"]) (by rfl)))))
   case' D=>refine' av ?E ?F
   case E=>exact(sr (aq G_i hr T.F_i (aa (dv 0) (aa (dv 1) (aa af ag)))) (mG (n:=3) rfl (g6 (bq (i:=2) fQ.nd rfl NG) (g6 (bq (i:=3) fQ.nd rfl NG) (g6 (bq (i:=4) fQ.nd rfl NG) mE)))) (sk (jN bw (jN bw (jN bw si)))))
   case' F=>refine' av ?G ?H
   case G=>exact(bK (i:=5) fQ.nd rfl NG (aq G_Y hr T.F_Y (aa (aq G_X hr T.F_X (aa (dv 0) (aa af ag))) ag)))
   case' H=>refine' av ?I ?J
   case I=>exact(bK (i:=6) fQ.nd rfl NG (aq G_j hr T.F_j (aa (dv 2) ag)))
   case' J=>refine' av ?K ?L
   case K=>
    refine' lu IU rfl (fe (ic (df (dv 3)) cy (bU af))) ?M bw ?N
    case M=>exact(bq (i:=7) fQ.nd rfl NG)
    case' N=>refine' av ?O ?P
    case O=>
     refine' bK (i:=8) fQ.nd rfl NG ?Q (hs:=je)
     case' Q=>refine' fe ?R
     case' R=>refine' nH (df ?S) (df ?T)
     case S=>
      refine' fe ?U
      case U=>exact(ib rfl yG (df (fe (ic (df (dv 3)) cy (bU af)))) bw cw NB (λ_ _ _ _=>(bq (i:=0) yG.nd rfl NG)) (λ_ _ _ _=>(gE (aL jG dm (PE.imp (aS bI rfl T.n_len HW (aH (aq G_k hr T.F_k (aa (dv 1) (aa (dv 2) (aa (dv 0) ag)))) aG)) (aP bO)) af (aC _)))) (λ_ _ _ _=>(dv 0)))
     case T=>exact(fe (cv (aa (dv 7) ag)))
    case' P=>refine' au ?V
    case' V=>refine' BV IU rfl (fe (cv (aa (ay bH bX (dv 8) (aq G_Z hr T.F_Z (aa (dv 5) (aa (PE.imp (aS bI rfl T.n_len HW (aH (dv 8) aG)) (aP bO)) ag)))) (aa (ay bH bX (dv 3) (aq G_Z hr T.F_Z (aa (dv 5) (aa af ag)))) ag)))) ?W bw ?X
    case W=>exact(bq (i:=9) fQ.nd rfl NG)
    case' X=>refine' au ?Y
    case' Y=>refine' aW ?Z ?a aV
    case Z=>exact(dM (cE (aq G_n hr T.F_n (aa (dv 5) (aa (dv 2) (aa (dv 3) (aa (dv 7) (aa (dv 9) ag))))))))
    case a=>refine' au (aA bW)
   case L=>refine' au (aA bW)
  case B=>
  clear G_i G_Y G_X G_Z G_j G_k G_n hr T;walk_at "a";refine⟨ns,rfl,λxs nms far gl nl nok nnd=>?_⟩;refine⟨_,rfl,rfl,_,_,rfl,_,_,rfl,_,_,rfl,rfl,ns,30,rfl,NB,NB,λc=>⟨c,rfl,xs,rfl,gl,_,rfl,?_⟩⟩;have ec:aR (nms.map Hy) none (some 10)=(nms.take 10).map Hy:=by
   rw [i8 NB (by rw [HB];omega),<-Km];rfl
  rw [ec];refine⟨λi δ=>∃o7 o8 o9:Option Sl,δ=[some (Sl.v (d6 (HQ HG ns))),some (Sl.v (.list (gZ.map .str))),some (Sl.v (.tuple (xs.map De.enc))),some (Sl.v (.list (nms.map .str))),some (Sl.v (.int far)),some (Sl.v di),some (Sl.v (iC (aI xs))),o7,o8,o9],⟨_,_,_,rfl⟩,?_,?_⟩
  ·rintro i z δ hz ⟨o7,o8,o9,rfl⟩;rw [Ie] at hz;cases hz':(nms.take 10)[i]? with
   | none=>rw [hz'] at hz;cases hz
   | some nm=>
    rw [hz'] at hz;cases hz;have hn:Nm nm:=nok nm (IS (Ik hz'));walk_at "a";rw [ec];have tl:(nms.take 10).length=10:=by rw [IH];omega
    refine⟨by rw [HB];omega,λi acc=>∃ss:List Str,acc=ss.map .str/\ss.length<=i/\fR ss,⟨[],rfl,HE _,λz hz=>by cases hz⟩,?_,?_⟩
    ·rintro i z acc hz ⟨ss,rfl,sl,sok⟩;rw [Ie] at hz;cases hz':(nms.take 10)[i]? with
     | none=>rw [hz'] at hz;cases hz
     | some on=>
      rw [hz'] at hz;cases hz;have hon:Nm on:=nok on (IS (Ik hz'));walk_at "a";refine⟨xs,nm,on,rfl,gl,hn.ok,λl wl=>⟨_,.inr rfl,?_⟩⟩;split
      ·exact⟨ss++[on],by rw [Io];rfl,by rw [HU,Jb];omega,λz hz=>by
        rcases Ij.mp hz with h | h
        ·exact sok z h
        ·rw [Ig.mp h];exact hon⟩
      ·exact⟨ss,rfl,NC,sok⟩
    ·rintro acc ⟨ss,rfl,sl,sok⟩;rw [HB,tl] at sl;have ea:ss.map Hy++[Hy nm]=(ss++[nm]).map Hy:=by rw [Io];rfl
     have aok:fR (ss++[nm]):=λz hz=>by
      rcases Ij.mp hz with h | h
      ·exact sok z h
      ·rw [Ig.mp h];exact hn
     have al:(ss++[nm]).length=ss.length+1:=by rw [HU,Jb]
     rw [ea,HB,HB,al];refine⟨NC,_,rfl,NC,NC,λv v0 v1=>⟨_,rfl,?_⟩⟩;obtain⟨o1,ho1,eo1⟩:=fb (ss:=ss++[nm]) v0 (by rw [al];omega);refine⟨_,eo1,10,rfl,NB,NB,λu u0 u1=>⟨_,rfl,?_⟩⟩;obtain⟨o2,ho2,eo2⟩:=fb (ss:=nms) u0 NC;refine⟨_,eo2,xs,nms,nm,o1,rfl,gl,nl,nok,hn,aok o1 ho1,true,rfl,?_⟩;rw [ND NH];refine⟨xs,nms,nm,o2,rfl,gl,nl,nok,hn,nok o2 ho2,true,rfl,?_⟩;rw [ND NH];exact⟨_,rfl⟩
  ·rintro δ ⟨o7,o8,o9,rfl⟩;walk_at "a";exact q
end
end K48
namespace PySem.W.Fast
def tw5137878131248981721:=0
def tw12577231519855824053:=0
def tw10343671489405007590:=0
def tw13778732577586217168:=0
def tw12471093098387088546:=0
def tw15028634229287414170:=0
def tw419013431183329716:=0
def tw15861642085813977739:=0
def tw11366889012623264912:=0
def tw862877870996858182:=0
def tw15671809303381316471:=0
def tw13490233473380332133:=0
def tw15267625024451831523:=0
def tw7437495650353168775:=0
def tw2509526557718709430:=0
def tw5081636870080771418:=0
def tw11605680155647041698:=0
def tw9633082844389886586:=0
def tw3297488915970173841:=0
def tw8883486517785761032:=0
def tw14374685794862889970:=0
def tw13539704518404363060:=0
def tw8539928084230451635:=0
def tw17615774138006493748:=0
def tw6865685254439693781:=0
def tw10207424701391891375:=0
def tw16660032351017346376:=0
def tw10017908531326852627:=0
def tw18429345222207603876:=0
def tw12962279540870935014:=0
def tw16079157669992614370:=0
def tw12672920429895974538:=0
def tw11675425698381899971:=0
def tw12298661503669786667:=0
def tw4087757690476288826:=0
def tw16051967547223521769:=0
def tw6150192134873500805:=0
def tw529980702704516217:=0
def tw6323357846019968047:=0
def tw4942127677924181952:=0
def tw6955048774557305157:=0
def tw18349757011510685379:=0
def tw10234864155896653071:=0
def tw10043139262386793207:=0
def tw17055072854005427977:=0
def tw8976141768260922609:=0
def tw8176197535728192384:=0
def tw8651121354858651858:=0
def tw785772870786142507:=0
def tw11672607208582232497:=0
def tw4216806218065546786:=0
def tw4513796514141640643:=0
def tw4784861582244318194:=0
def tw3809563795314279980:=0
def tw18446054764833611595:=0
def tw1042556575528553626:=0
def tw7492687884726265347:=0
def tw10426552911239738382:=0
def tw9765718130857818910:=0
def tw5837767703323212892:=0
def tw9878713125705581705:=0
def tw9996114148932143589:=0
def tw1494160390145899042:=0
def tw17845330999440514048:=0
def tw15768994972969196257:=0
def tw9906154627169007409:=0
def tw5189627781912692517:=0
def tw13115963409906512491:=0
def tw14559282268666921776:=0
def tw13616167164795055022:=0
def tw9352848880494178925:=0
def tw5605031753846026326:=0
def tw2624766184512109891:=0
def tw196108017194963265:=0
def tw9445379814232349374:=0
def tw9381999750549571901:=0
def tw11173643158147191665:=0
def tw6364290906561887117:=0
def tw15734525838931309401:=0
def tw6371458349173960050:=0
def tw7903014771216813486:=0
def tw17619592492625718063:=0
def tw9124472473214716230:=0
def tw10247796280202096898:=0
def tw17997924423858522746:=0
def tw6857698311402282179:=0
def tw7367912530563207168:=0
def tw3920366599260728720:=0
def tw10888882119695284377:=0
def tw8310008312942220047:=0
def tw15285795524112587166:=0
def tw14360872931042226862:=0
def tw6778425676386440213:=0
def tw7604915260462680197:=0
def tw9023814030607930527:=0
def tw17838807735769642337:=0
def tw250594063377392607:=0
def tw3892957997677151325:=0
def tw15000778853137997259:=0
def tw13798330856268973796:=0
def tw12421774690609947803:=0
def tw7409083557479568785:=0
def tw1856627696294903241:=0
def tw6264733477846953549:=0
def tw10262385452250908136:=0
def tw4470406124767637875:=0
def tw6836145832316096518:=0
def tw446217787375267826:=0
def tw4542197763619916530:=0
def tw16272016818921965903:=0
def tw630492723019092826:=0
def tw14251493443915059608:=0
def tw13493954713685897858:=0
def tw4090167153514560244:=0
def tw6347396589238337605:=0
def tw14130837738790093150:=0
def tw14199813647180556309:=0
def tw8700059866419650419:=0
def tw12909982684797354637:=0
def tw8314351388663426515:=0
def tw2423663595861687034:=0
def tw1568758444579719452:=0
def tw6452828742559793739:=0
def tw178353204272193418:=0
def tw4765049352912469428:=0
def tw11438571396156729176:=0
def tw14857748897424266754:=0
def tw8821408751024869202:=0
def tw6986822336776809013:=0
def tw15466074017145485579:=0
def tw12585240629489840729:=0
def tw1727814062788754009:=0
def tw4285585436001638995:=0
def tw2694615610146175077:=0
def tw10523248648402620257:=0
def tw936449487609857830:=0
def tw14760802019656904512:=0
def tw13022933614390425519:=0
def tw11793806739757486209:=0
def tw7385258564465603376:=0
def tw9425207820398194229:=0
def tw9409347263108886814:=0
def tw13922819614125941279:=0
def tw3150660635343967765:=0
def tw16966739803433871171:=0
def tw17278800441772264918:=0
def tw2842100903874735383:=0
def tw14624571300905848607:=0
def tw13527614762418866369:=0
def tw4498337537995379730:=0
def tw14487214889126703555:=0
def tw4342144331164332500:=0
def tw571544882795407221:=0
def tw6530708262546338689:=0
def tw5765331694630387751:=0
def tw3826216348065814519:=0
def tw970156216233653291:=0
def tw2893623617020109260:=0
def tw13838431961543937716:=0
def tw1641246337537931894:=0
def tw11732017984876450686:=0
def tw7714301644413459744:=0
def tw12635990462614231733:=0
def tw989198169047740130:=0
def tw4374346792496375424:=0
def tw3874290382371001049:=0
def tw4862314758471093693:=0
def tw1539483859462020373:=0
def tw11537689899362270512:=0
def tw7572303362038783791:=0
def tw13772656119338128793:=0
def tw12643867547603084855:=0
def tw8028086949289730730:=0
def tw13985324980252779207:=0
def tw5891578062250174341:=0
def tw11753920402280386492:=0
def tw10086731769758642612:=0
def tw16655356883338200715:=0
def tw1779599501513867745:=0
def tw15518694741932362483:=0
def tw12394511874486350179:=0
def tw2620636004342147915:=0
def tw17618147880155447612:=0
def tw11420110573888381678:=0
def tw5207368788312238025:=0
def tw8817633907014590469:=0
def tw10095555613271201678:=0
def tw1891930561241878583:=0
def tw16840232888317298730:=0
def tw10993529245519826494:=0
def tw5924066431131138413:=0
def tw17445456562066795118:=0
def tw3877819024006555228:=0
def tw8316745236574612449:=0
def tw17197848181239550889:=0
def tw8310811831530832111:=0
def tw15824691709875395864:=0
def tw7887719869651325194:=0
def tw7255647762267926671:=0
def tw2960241750104604957:=0
def tw1166339290872622858:=0
def tw14745872443389283488:=0
def tw15006613926814618466:=0
def tw15776817196277122688:=0
def tw11129313686735850206:=0
def tw17608413410028707539:=0
def tw13013753317418768532:=0
def tw2464103209820297415:=0
def tw7607259184582275111:=0
def tw333243310737229937:=0
def tw12150618482577382141:=0
def tw2094845800704296841:=0
def tw17970459943056857480:=0
def tw3163626491719664235:=0
def tw1348761969766259729:=0
def tw10467770551677338853:=0
def tw7577471505196129814:=0
def tw17520828338058242878:=0
def tw17201374933622980394:=0
def tw13314518797791368933:=0
def tw5416446890163585977:=0
def tw4476819877848447785:=0
def tw11389078984430375026:=0
def tw91932918096423982:=0
def tw9440363915578158790:=0
def tw3309912825866771874:=0
def tw13146631683306846101:=0
def tw10232109709644647536:=0
def tw11901183933276215518:=0
def tw13898020674321000900:=0
def tw17923521440299797673:=0
def tw12671966918969090676:=0
def tw6469596177424739036:=0
def tw3849287337304413940:=0
def tw17518195230730335907:=0
def tw14676041756613173271:=0
def tw16965565979462674856:=0
def tw13739421704546213575:=0
def tw11554178567062685946:=0
def tw10129598742096812286:=0
def tw5620360665806242495:=0
def tw12099183650027610272:=0
def tw5580590354041631973:=0
def tw12148269732083007758:=0
def tw87486885300532252:=0
def tw9383639475358891141:=0
def tw11282814268538378797:=0
def tw7767390813765047214:=0
def tw10847977395653607379:=0
def tw11991422943958515193:=0
def tw13737293535531190508:=0
def tw7513148627571805948:=0
def tw6102016292512605392:=0
def tw4075929716674100420:=0
def tw13189405944226490136:=0
def tw12637973631711892860:=0
def tw15042734169795489427:=0
def tw6633552219580909329:=0
def tw17826735883525508756:=0
def tw11740528836068235422:=0
def tw15023007312467463217:=0
def tw3132226104044499238:=0
def tw2034184829512558784:=0
def tw18439876712675259420:=0
def tw15587965885899704885:=0
def tw12110233360891361848:=0
def tw9913841520064435017:=0
def tw9400184812531904152:=0
def tw4103518103675304808:=0
def tw2053789932929337587:=0
def tw17950144207166225479:=0
def tw13985824968391807740:=0
def tw7339805637931484335:=0
def tw5866251478218944481:=0
def tw4678343152158061813:=0
def tw3184905972402421893:=0
def tw15237881019144383236:=0
def tw8341682535270307204:=0
def tw4822154923688762816:=0
def tw4493809859377757175:=0
def tw15753107666267497915:=0
def tw14436633538758664631:=0
def tw12111065734075270988:=0
def tw343275115341445543:=0
def tw13823924448032832823:=0
def tw10330974837519680808:=0
def tw4914041986209141103:=0
def tw4539698666294907828:=0
def tw14977220173129165861:=0
def tw10615376787628237776:=0
def tw8552930944150185177:=0
def tw8004529997041720666:=0
def tw720879391458577661:=0
def tw4672163534568098923:=0
def tw4508717354704627109:=0
def tw17745431282382274901:=0
def tw16093995069645573452:=0
def tw11155030012952391406:=0
def tw10918855381951351473:=0
def tw12560010357012170705:=0
def tw9795987722454842280:=0
def tw7001057608498050714:=0
def tw3975367451641705434:=0
def tw11470665183047574374:=0
def tw2282379825656625491:=0
def tw15211397120742629174:=0
def tw13034216193980155718:=0
def tw12682824966717738007:=0
def tw12349753638937894835:=0
def tw4336022424654835177:=0
def tw12395771932259073822:=0
def tw522278134109987879:=0
def tw13292627606507478818:=0
def tw13146029567160006670:=0
def tw1167469378686498114:=0
def tw11493053389021715136:=0
def tw14127021272064780681:=0
def tw4653263884052150463:=0
def tw4483482727752160692:=0
def tw301092157198251291:=0
def tw1418376149271682560:=0
def tw13654131903235317268:=0
def tw12030155500982088923:=0
def tw7890132942658971884:=0
def tw5821210520585525077:=0
def tw15068391159204056727:=0
def tw7429273541492308411:=0
def tw18244699905383049844:=0
def tw17986835755751266072:=0
def tw7196043024547197062:=0
def tw9205549122522419675:=0
def tw8312397683322054678:=0
def tw15355329052622950145:=0
def tw10869699962491760042:=0
def tw4400133252880233344:=0
def tw8935656148063970082:=0
def tw397488443603716104:=0
def tw2971169515584185914:=0
def tw1216399435308653842:=0
def tw7321234410846618344:=0
def tw16102153289901449376:=0
def tw10304849649620932941:=0
def tw11449841881261560423:=0
def tw4767152250448404983:=0
def tw1578215434443543324:=0
def tw15674813621253614736:=0
def tw17132738882157158648:=0
def tw7716472242364943448:=0
def tw6150341793032514793:=0
def tw17195621852559895584:=0
def tw10605500334106424882:=0
def tw1058911951728726892:=0
def tw13476311312041030753:=0
def tw5364715284446677318:=0
def tw12284294867463975405:=0
def tw6805832039098890630:=0
def tw10449614755050083379:=0
def tw5302951840051654425:=0
def tw17800223590216738966:=0
def tw8347784437306028406:=0
def tw10097297181635657529:=0
def tw5493762060967332824:=0
def tw11469795196520308423:=0
def tw13418469353938796547:=0
def tw7316770691323470700:=0
def tw1476912508770302069:=0
def tw8891891514788980486:=0
def tw5932215555166235949:=0
def tw17315443129407243618:=0
def tw17686847022642111776:=0
def tw12988668372078325550:=0
def tw2790573628189658720:=0
def tw602903475962155683:=0
def tw1547010631866009269:=0
def tw1711509708708570111:=0
def tw17919939018645915950:=0
def tw8111276938312981758:=0
def tw5911854207125150545:=0
def tw3999696303267176251:=0
def tw16550400132158465902:=0
def tw15935268404236653975:=0
def tw15651890158039413684:=0
def tw15087927328394854754:=0
def tw1245528903477751849:=0
def tw16888031694824730524:=0
def tw16638101524192081448:=0
def tw14402585986411382422:=0
def tw9971085518992034184:=0
def tw14143721012784042480:=0
def tw10101141969963097179:=0
def tw10570809010275199803:=0
def tw7640418622298809839:=0
def tw5172174536547880247:=0
def tw237200852425353269:=0
def tw12461932920925097149:=0
def tw15696295642417373225:=0
def tw3677578840360137666:=0
def tw3608014667485670819:=0
def tw15251993922565300007:=0
def tw9936935347126700342:=0
def tw9786012135566588448:=0
def tw9731100860022908776:=0
def tw9720802287566691818:=0
def tw9666720758033488681:=0
def tw9321122763523225025:=0
def tw9275001409797974557:=0
def tw9148530738423457753:=0
def tw9131479263353658677:=0
def tw9124565912610276886:=0
def tw9053494194046037103:=0
def tw9050592304846334220:=0
def tw9009777808127111104:=0
def tw8977883667449914614:=0
def tw8901036565861366287:=0
def tw8886029504859397659:=0
def tw8755333988198778181:=0
def tw8745109328718336943:=0
def tw8407134106803204816:=0
def tw8191211713892261384:=0
def tw8082899200183701641:=0
def tw7914497986896364256:=0
def tw7881746735639250032:=0
def tw7880799013926155926:=0
def tw765102038469578687:=0
def tw7526616648982194795:=0
def tw7386381100185888997:=0
def tw7362374869227051366:=0
def tw7330795638246022927:=0
def tw7194491360379836209:=0
def tw7128275576114700647:=0
def tw7066646782591434813:=0
def tw6912673569287481911:=0
def tw6756643594910560167:=0
def tw6736013903968891177:=0
def tw6700507080013378739:=0
def tw6630210595059206010:=0
def tw6557632089525150264:=0
def tw6530001096351647089:=0
def tw6520977728881091476:=0
def tw6495234470290968864:=0
def tw6488949864946422355:=0
def tw6466907716961407731:=0
def tw6433897043747008415:=0
def tw6374710516287849332:=0
def tw6374336082087813753:=0
def tw6287644868880040833:=0
def tw6229739582188856176:=0
def tw6211840436586576440:=0
def tw6177689919589838560:=0
def tw6092079778935083217:=0
def tw6034275331896700664:=0
def tw5856796439923150666:=0
def tw56288349354537295:=0
def tw5585369681357922622:=0
def tw5577972555292114806:=0
def tw5372599118760825814:=0
def tw5350006359813728251:=0
def tw5305522262757737293:=0
def tw5022570320383173915:=0
def tw4981031951090791710:=0
def tw4615658777086460687:=0
def tw4591389976965163128:=0
def tw4587641621488370522:=0
def tw4378759574253089125:=0
def tw4286970297343608984:=0
def tw411803227717445525:=0
def tw4028203828554016369:=0
def tw3914387861306518052:=0
def tw3754277392950880419:=0
def tw3685089078899417648:=0
def tw3457041925958410941:=0
def tw3330480623703402414:=0
def tw3222383560408094899:=0
def tw3188415167495783075:=0
def tw3118190203365979292:=0
def tw3098260612943059178:=0
def tw3027644336389669865:=0
def tw2957557867879558335:=0
def tw2886481089596329028:=0
def tw2885879359727188819:=0
def tw271781046846976553:=0
def tw2620393752003905810:=0
def tw2397012243284911525:=0
def tw2358872121335024200:=0
def tw2269084821680883895:=0
def tw2233800195332613828:=0
def tw1952746414129222608:=0
def tw18378134945593479463:=0
def tw18227000361667188181:=0
def tw17999666008231069639:=0
def tw17943879929998304145:=0
def tw17920418940533750711:=0
def tw17879497183574853816:=0
def tw17846425909273152538:=0
def tw17588927895292047491:=0
def tw16979343198321570500:=0
def tw16961514700953998179:=0
def tw16881452979965144701:=0
def tw16786919109124592870:=0
def tw16726464070214672807:=0
def tw16637895693224375179:=0
def tw16579899126999542393:=0
def tw16508159437906393638:=0
def tw1607914399038826168:=0
def tw16038639929238813819:=0
def tw15862216567746322798:=0
def tw1541853819862955041:=0
def tw15408602609093420458:=0
def tw14572506119197647584:=0
def tw14538148532975018984:=0
def tw14482940696899835924:=0
def tw14481245158008583653:=0
def tw14268891119934129465:=0
def tw14178302761077533877:=0
def tw14175745427455018947:=0
def tw14028346235553133656:=0
def tw13990742612516741851:=0
def tw13963535652695151812:=0
def tw13913437470448876511:=0
def tw1387039067531575202:=0
def tw13778784693245446845:=0
def tw13630890555339489076:=0
def tw13584376081682241833:=0
def tw13449694953027339585:=0
def tw13384023885001707816:=0
def tw13350912241692898621:=0
def tw13154407246572984365:=0
def tw13053229029117457323:=0
def tw12898981878782568700:=0
def tw12747492043358010954:=0
def tw12691104472745422778:=0
def tw12493932794525613640:=0
def tw12056526094888190723:=0
def tw12035062007149923631:=0
def tw11916541943532198553:=0
def tw1184023697975713573:=0
def tw11819112034913028120:=0
def tw11643118581489544856:=0
def tw11487425903619666212:=0
def tw1146132815360095029:=0
def tw11424111465210800274:=0
def tw1140046356212536862:=0
def tw11357706743630498005:=0
def tw11232152836503018631:=0
def tw11097507139685885037:=0
def tw11011816722815136729:=0
def tw10989823075122265438:=0
def tw1087966225622455265:=0
def tw10822473492871710631:=0
def tw10633926455909317687:=0
def tw10474613016100392201:=0
def tw10214707559614592231:=0
end PySem.W.Fast
open PySem PySem.W PyProof.Rows
local macro_rules | `(tactic| walk_at "f")=>`(tactic| (refine' L2.DfT.of ?a ?l ?c ?k;(case a=>k_is);(case l=>k_is);(case c=>k_is);(case k=>k_is)))
set_option maxRecDepth 100000 in
theorem PySem.Challenge.cw_goneday_k48_claims_of_making_holds : PySem.Challenge.rw_goneday_k48_claims_of_making.Holds := by
 w_on;o_law;k_head;(case hw=>w_witness2)
 k_fill
 refine L2.walk_ofBK (l:=PySem.Challenge.rw_goneday_k48_claims_of_making) (n:=63) (k:=11) (x:="_law_script") (CX:=L2.CX0) (sp:=K48.sp_law) rfl NB rfl ⟨rfl,NB,NB⟩ (λw h Y=>PySem.W.kIn_of Y) ?F ?S ?C
 case F=>
  intro w mg fa h KX G hmg;have T:∃t,K48.Txt (L2.KOf KX) mg t:=by
   dsimp only [L2.KOf];refine' K48.txt_mk KX G ?za ?zb ?zc ?zd ?ze ?zf ?zg ?zh ?zi ?zj ?zk ?zl ?zm ?zn ?zo ?zp ?zq ?zr ?zs ?zt ?zu ?zv ?zw ?zx ?zy ?zz ?zA ?zB ?zC ?zD ?zE ?zF ?zG ?zH ?zI ?zJ ?zK ?zL ?zM ?zN ?zO ?zP ?zQ ?zR ?zS ?zT ?zU ?zV ?zW ?zX ?zY ?zZ ?ya ?yb ?yc ?yd ?ye ?yf ?yg ?yh ?yi ?yj ?yk ?yl ?ym ?yn ?yo ?yp ?yq ?yr ?ys ?yt
   (case za | zb | zc | zd | ze | zf | zg | zh | zi | zj | zk | zl | zm | zn | zo | zp | zq | zr | zs | zt | zu | zv | zw | zx | zy | zz | zA | zB | zC | zD | zE | zF | zG | zH | zI | zJ | zK | zL | zM | zN | zO=>walk_at "f")
   (case zP=>k_is)
   (case zQ=>exact⟨_,rfl⟩)
   (case zR | zS=>k_is)
   (case zT=>exact⟨_,rfl⟩)
   (case zU=>k_is)
   (case zV=>exact⟨_,rfl⟩)
   (case zW=>k_is)
   (case zX=>exact⟨_,rfl⟩)
   (case zY | zZ=>k_is)
   (case ya=>first | (repeat (first | exact .nil | refine .cons ⟨_,rfl⟩ ?_)))
   (case yb=>decide)
   (case yc=>k_is)
   (case yd=>exact⟨_,rfl⟩)
   (case ye | yf | yg | yh | yi | yj | yk | yl | ym | yn | yo | yp | yq | yr | ys | yt=>k_is)
  obtain⟨t,T⟩:=T;have e0:=hmg.symm.trans T.F_o.m;cases e0;exact⟨t.d_o,T.bt_o,λbase kb nb=>K48.ok_law T⟩
 case S=>exact λK H a ns hl hb hO hS=>K48.start_law hl hb hS
 case C=>exact λ_ _ _ _ z=>z
