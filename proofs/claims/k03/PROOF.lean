import PyProof.Rows.All
import Wide.All
import OpenK.AllK
import PySem.Challenge.RW_goneday_k03_days_as_texts
open PySem.W renaming Frag->Dj,nsIn->DD,mg_of->Es,mg_none_of->EM,findIn->ES,kia_one->EZ,fnOf->E5,mroIn->Fj,keepIn->Fm,kitOne->FA,specialIn->FJ,InstAt->FK,codeIn->F0,cellsFrom_some->F4,excIn->F8,kitAny->Gr,callWith_K->Gv,methodObj->GB,hasDictIn->GC,instObj->GQ,takesIn->GS,lookIn->GZ,isFn->Hm,kitx_list->Ho,kitx_dict->Hq,plainGet->Hy,OpenLaw->HE,readsIn->HI,findCls->HJ,isClsIn->HK,WalkO->HP
open PySem.Str renaming ofString->Dk,ofString->Ee,empty->Gb,join->HB
open PySem renaming Spec->Dm,boot_len->E9,mem_of_lookup->Fc,intText?->F1,Scope->Gs,Builtin->Ha,frameOf->Hb,call->HD,Within->HR,field->Ic
open PySem.PyData renaming int->Dn,str->Dw,eqv->DL,tuple->EV,canLay0->E8,list->Fz,canLayAll0->F3,bool->GX
open List renaming length_cons->Dp,map_cons->Dq,getElem?_cons_zero->Du,getElem?_cons_succ->Dv,replicate->Dx,append_nil->DH,length_nil->DJ,set_cons_zero->DM,set_cons_succ->DN,map_nil->DQ,cons_append->DR,getElem?_nil->DX,getElem?_eq_some_iff->DY,nil_append->DZ,getElem?_set_ne->D3,size_toArray->D4,lookup_cons->D5,any_cons->Ef,getElem?_set_self->Ep,all_cons->EG,mem_cons_of_mem->EK,mem_cons->EL,all_nil->EO,any_nil->ER,mem_append_right->ET,length_map->E1,getElem?_map->E3,mem_cons_self->E4,getElem?_eq_getElem->E7,getElem?_append_left->Fg,not_mem_nil->Fo,range->Fp,length_append->Fs,getElem?_append_right->Fx,getElem?_replicate->FC,takeWhile_sublist->FI,getElem?_eq_none->FN,all_eq_true->FQ,map->FT,getD_eq_getElem?_getD->FU,foldl_cons->FW,mem_map->FZ,take_of_length_le->F6,nodup_cons->Gg,mem_of_getElem?->Gh,map_map->Gj,filterMap_cons->Gm,mem_range->Gq,mem_filterMap->Gu,contains_cons->Gw,getElem_mem->GN,getElem?_set_self'->GP,mem_append->GR,of_mem_zip->GU,length_replicate->G0,mem_append_left->G6,takeWhile_cons->Hf,length_reverse->Hg,length_range->Ht,length_drop->HA,mem_filter->HC,range_succ->HF,map_append->HG,length->Ib
open PySem.Heap renaming get?_push_of_some->Dr,lt_size->Ds,get?_push_size->EW,get?_update_other->FG,get?_update_self->FL,get?_none_of_le->FP,SameBut->Gf,FlyingW->Gi,size_push->G1,MadeExcOf->G2,get?_update_ne->He,get?_push_at->Hv
open List.cons renaming injEq->Dy
open Nat renaming le_refl->Dz,lt_of_lt_of_le->DU,reduceLeDiff->Ec,reduceAdd->Eg,reduceSub->Ei,ne_of_lt->Em,add_zero->Ew,zero_add->Ey,sub_self->Ez,reduceLT->EA,le_trans->EY,zero_le->Fq,lt_irrefl->Fw,toDigits_of_base_le->F2,le_of_succ_le->GF,le_of_lt->GJ,le_of_not_lt->GK,lt_succ_of_lt->Hs,le_succ_of_le->Hx,le_antisymm->HH,digitChar->HQ,ne_of_gt->HS,le_of_eq->HU
open PySem.Value renaming ref->DC,builtin->Fe,bool->Fy,int->F9,str->Ga,none->Ge,isStrOf->HN,isInt->HX,float->HY,type->Ie
open Bool renaming not_eq_true'->DI,false_eq_true->DV,true_eq_false->DW,false_ne_true->Ed,not_false->El,or_false->Er,not_true->Et,and_true->EH,true_and->EI,false_or->EJ,and_eq_true->E6,eq_iff_iff->Fv,or_true->Hk
open Option.some renaming injEq->DP,inj->Eu
open PySem.PyData.tuple renaming injEq->D1
open Option renaming join_some->D6,join_none->D7,map_some->Ej,map_none->Ek,isSome_iff_exists->Fh
open PySem.PyData.bool renaming injEq->D8
open PySem.PyData.list renaming injEq->D9
open PySem.PyData.int renaming injEq->Ea
open PySem.PyData.str renaming injEq->Eb
open Int renaming reduceNeg->En,reducePow->Eo,reduceLT->EB,reduceLE->EC,eq_ofNat_of_zero_le->EN,toNat_of_nonneg->Gp,fdiv_eq_ediv_of_nonneg->Gz,fmod_eq_emod_of_nonneg->GA,toNat_natCast->Hr,lt_trichotomy->Hu
open Array renaming length_toList->ED,append_empty->Hn,size_append->Hw
open PySem.Builtin.Int renaming intBits->EF
open True renaming intro->EU
open PySem.NameKind renaming free->EX,globalImplicit->Fl,cell->F7,free->Hh
open False renaming elim->E2
open PySem.Builtin.Str renaming occurrences->Fb,partsBetween->GO,strKind->Hd
open PySem.SeqAt renaming canLay_of_shaped->Fd,shaped->FY,eqv_refl->G9
open PySem.F renaming excBase_ValueError->Ff,plainAttrs_str->FH
open PySem.ScopeKind renaming function->Fi
open PySem.Sem renaming wp->Ft
open PySem.W.WData renaming int->FD,weightAll->FX,list->GH,layableAll->Hz,weight->HV
open ForInStep renaming yield->FF
open PyProof.Rows renaming callWith_type1->FO,boot_min->Gd,boot_sum->G3,boot_max->G5
open Sum renaming inr->FV,inl->GI
open Or renaming inr->F5,inl->GL
open PySem.PassesOwn renaming never->Gk
open PySem.EntryCells renaming newEntry->Gn
open PySem.Code renaming quiet_builtin->Gx,isFrame->Hj,frames->Ia
open PySem.Calls renaming Name_function_global->Gy,callWith_builtin->GW,evalArgs_plain->G7,call_len_list->Hc
open PySem.Obj renaming mapSeq->GG
open PyProof renaming noPylong_small->GV
open PySem.SeqAt.RcNeAt renaming tuple_str->GY
open PySem.StrLaws renaming glued_eq_join->G4,join_split->Hl
open PySem.SeqAt.RcAt renaming tuple_str->G8
open PySem.Around renaming under->Hi
open PySem.Bind renaming checkArgs->HL
open PySem.Expr renaming List->HM
open Nat.succ renaming inj->HW
open PySem.CmpOp renaming NotIn->HZ
open PySem.SeqAt.EqAt renaming str_int->Ig
open PySem renaming PyData->Im,Value->Io,Addr->Ip,Shared->Iq,sizeLine->Ir,Expr->Iu,starEach->Iw,model->Iy,wpAny->Iz,mainGlobals->IA,FuncData->IB,Heap->IC,wpAny_bind->ID,Program->IE,World->IF,sizeLine_eq->IG,Around->IH,Stmt->II,compareOp->IJ,bootBuiltins->IK,wpAny_pure->IL,wpAny_mono->IM,wpAny_truthy_bool->IP,wpAny_loadPart_at->IQ,backTo->IS,cellsFrom->IT,Scope->IU,wpAny_loadPart'->IV,NameKind->IW,excClassObj->IX,behindInMarks->IY,foldedSetIterable->IZ,wpAny_passesOwn->I0,binaryOp->Ja,typeIs_str->Jb,codeAny_call_builtin->Jc,swapsWith->Jd,ExcBaseFacts->Jf,wpAny_isSubtype_exc->Jg,attributeBase->Jh,wpAny_execs_nil->Ji,wpAny_Call_Name_kw->Jj,assignEach->Jk,call_meets->Jl,Keyword->Jn,sysModules->Jo,Model->Jq,codeAny->Jr,keywordEach->Js,strIterType->Jt,checkBuiltinCall->Ju,holding->Jw,DictEntry->Jx,letOwnedTupleGo->Jz,codeAny_mono->JA,noteFrame->JC,wpAny_holding->JD,wpAny_standAt->JE,GenState->JF,wpAny_execs_cons->JG
open PySem.W renaming looks_findIn->Je,kia_one->Jv,findIn->Jy,hideAll_get->JB
open PyProof.Rows renaming envOfC->Jm,AllBare->Jp
theorem td{p:Prop}[Decidable p](h:decide p=true:=by decide+kernel):p:=of_decide_eq_true h
theorem Ce{p:Prop}(h:p:=by decide):p:=h
theorem Ih{p:Prop}(h:p:=by omega):p:=h
theorem Il{p:Prop}(h:p:=by simp):p:=h
theorem Ii{c:Prop}{h:Decidable c}(k:¬c){α:Sort u}{t e:α}:ite c t e=e:=if_neg k
theorem Ij{c:Prop}{h:Decidable c}(k:c){α:Sort u}{t e:α}:ite c t e=t:=if_pos k
abbrev JH:=PySem.NameKind.local
set_option compiler.extract_closed false
def rzT (n : String) : Lean.MacroM (Lean.TSyntax `tactic) := do
 let ts : Array (Lean.TSyntax `Lean.Parser.Tactic.simpLemma) <- ((n.splitOn " ").toArray).mapM λs =>do
  if s.startsWith "↓" then
   let i := Lean.mkIdent (s.drop 1).toString.toName
   `(Lean.Parser.Tactic.simpLemma| ↓ $i:ident)
  else
   let i := Lean.mkIdent s.toName
   `(Lean.Parser.Tactic.simpLemma| $i:ident)
 `(tactic| simp only [$ts,*])
local macro_rules|`(command|def $i:declId $s:optDeclSig $v:declVal)=>`(command|noncomputable def $i:declId $s:optDeclSig $v:declVal)|`(command|abbrev $i:declId $s:optDeclSig $v:declVal)=>`(command|noncomputable abbrev $i:declId $s:optDeclSig $v:declVal)
noncomputable section
set_option Elab.async false
set_option linter.all false
set_option maxRecDepth 100000
set_option maxHeartbeats 0
set_option genSizeOf false
namespace L2
open PySem PySem.Spec PyProof.Rows
abbrev ao:=Sum Int Str
def lY:ao->Io->Bool
 | .inl k,v=>HX k v
 | .inr x,v=>HN x v
def vR(w:IF):ao->Int
 | .inl k=>hashInt k
 | .inr x=>hashStr w x
theorem ky:∀{k:ao}{v:Io},lY k v=true->(∃i t,k=GI i/\v=F9 i t)\/(∃x t,k=FV x/\v=Ga x t)
 | .inl i,v,h=>by
  obtain⟨t,e⟩:=Value.isInt_shape (k:=i) (v:=v) h;exact .inl ⟨i,t,rfl,e⟩
 | .inr x,v,h=>by
  obtain⟨t,e⟩:=Value.isStrOf_shape (x:=x) (v:=v) h;exact .inr ⟨x,t,rfl,e⟩
theorem vS(i:Int)(t:Tok):lY (.inl i) (.int i t)=true:=by simp [lY,HX]
theorem vT(x:Str)(t:Tok):lY (.inr x) (.str x t)=true:=by simp [lY,HN]
theorem vU(a b:Int):decide ((GI a:ao)=GI b)=(a==b):=by
 by_cases e:a=b
 ·subst e;simp
 ·have h:¬(GI a:ao)=GI b:=λq=>e (GI.inj q);rw [decide_eq_false h];exact(beq_eq_false_iff_ne.mpr e).symm
theorem vV(a b:Str):decide ((FV a:ao)=FV b)=decide (a=b):=by
 by_cases e:a=b
 ·subst e;simp
 ·have h:¬(FV a:ao)=FV b:=λq=>e (FV.inj q);rw [decide_eq_false h,decide_eq_false e]
theorem vW(a:Int)(b:Str):decide ((GI a:ao)=FV b)=false:=decide_eq_false (λq=>nomatch q)
theorem vX(a:Str)(b:Int):decide ((FV a:ao)=GI b)=false:=decide_eq_false (λq=>nomatch q)
def j8(prog:IE)(w:IF):PySem.KeyKind prog w ao where
 is:=lY
 hash:=vR w
 inj:=λv a b ha hb=>by
  rcases ky ha with⟨i,t,rfl,rfl⟩ | ⟨x,t,rfl,rfl⟩
  ·rcases ky hb with⟨j,u,rfl,e⟩ | ⟨y,u,rfl,e⟩
   ·injection e with e1 _;rw [e1]
   ·exact nomatch e
  ·rcases ky hb with⟨j,u,rfl,e⟩ | ⟨y,u,rfl,e⟩
   ·exact nomatch e
   ·injection e with e1 _;rw [e1]
 byValue:=λk v h=>by
  rcases ky h with⟨i,t,rfl,rfl⟩ | ⟨x,t,rfl,rfl⟩ <;> rfl
 pyHash:=λhv h=>by
  rcases ky hv with⟨i,t,rfl,rfl⟩ | ⟨x,t,rfl,rfl⟩
  ·exact wpAny_pyHash_int h
  ·exact wpAny_pyHash_str h
 eqBool:=λhu hv h=>by
  rcases ky hu with⟨i,t,rfl,rfl⟩ | ⟨x,t,rfl,rfl⟩
  ·rcases ky hv with⟨j,u,rfl,rfl⟩ | ⟨y,u,rfl,rfl⟩
   ·rw [vU] at h;exact wpAny_eqBool_int h
   ·rw [vW] at h;exact SeqAt.EqAt.int_str i t y u _ _ _ _ h
  ·rcases ky hv with⟨j,u,rfl,rfl⟩ | ⟨y,u,rfl,rfl⟩
   ·rw [vX] at h;exact Ig x t j u _ _ _ _ h
   ·rw [vV] at h;exact wpAny_eqBool_str h
 «strs»:=λk x t v h=>by
  rcases ky h with⟨i,u,rfl,e⟩ | ⟨y,u,rfl,e⟩
  ·exact nomatch e
  ·injection e with e1 _
   subst e1;cases v <;> rfl
theorem vY(prog:IE)(w:IF)(i:Int)(t:Tok):(j8 prog w).is (.inl i) (.int i t)=true:=vS i t
theorem vZ(prog:IE)(w:IF)(x:Str)(t:Tok):(j8 prog w).is (.inr x) (.str x t)=true:=vT x t
inductive V where
 | non | bl (b:Bool) | int (i:Int) | str (x:Str) | byt (b:Array UInt8) | flt (b:UInt64) | ref (a:Ip) | ty (n:String)
 deriving DecidableEq
def au:V->Io->Prop
 | .non,u=>u=Ge
 | .bl b,u=>u=Fy b
 | .int i,u=>∃t,u=F9 i t
 | .str x,u=>∃t,u=Ga x t
 | .byt b,u=>∃t,u=Value.bytes b t
 | .flt b,u=>∃t,u=HY b t
 | .ref a,u=>u=DC a
 | .ty n,u=>u=Ie n
abbrev az:List V->List Io->Prop:=Paired au
theorem az.length{xs:List V}{us:List Io}(r:az xs us):xs.length=us.length:=Paired.length r
theorem az.get:∀{xs:List V}{us:List Io}{i:Nat}{x:V},az xs us->xs[i]?=some x->∃u,us[i]?=some u/\au x u
 | _,_,_,_,.nil,e=>by simp at e
 | _,_,0,_,.cons r _,e=>by simp at e;subst e;exact⟨_,rfl,r⟩
 | _,_,i+1,x,.cons _ t,e=>by
  obtain⟨u,h1,h2⟩:=az.get (i:=i) (x:=x) t (by simpa using e);exact⟨u,by simpa using h1,h2⟩
theorem az.set{x:V}{u:Io}(r:au x u):∀{xs:List V}{us:List Io}(i:Nat),az xs us->az (xs.set i x) (us.set i u)
 | _,_,_,.nil=>.nil
 | _,_,0,.cons _ t=>.cons r t
 | _,_,i+1,.cons q t=>.cons q (az.set r i t)
theorem az.append:∀{xs ys:List V}{us ws:List Io},az xs us->az ys ws->az (xs++ys) (us++ws)
 | _,_,_,_,.nil,s=>s
 | _,_,_,_,.cons r t,s=>.cons r (az.append t s)
def lZ:Option V->Option Io->Prop
 | some v,some u=>au v u
 | none,none=>True
 | _,_=>False
def KV{κ:Type}:List (κ×V)->List (κ×Io)->Prop:=Paired λ(p:κ×V) (q:κ×Io)=>p.1=q.1/\au p.2 q.2
def kV:ao->V
 | .inl i=>.int i
 | .inr x=>.str x
inductive HO where
 | lst (xs:List V)
 | tup (xs:List V)
 | dK (kvs:List (ao×V)) | dT (kvs:List (List ao×V))
 | set (S:Int->Bool) (n:Nat)
 | ins (C dx:Ip) (fs:List (Str×V))
 | own (x:Ip)
 | xd (fs:List (Str×V))
 | met (f x:Ip)
 | rng (lo hi:Int)
 | frz (o:Obj) (u:HO)
 | tbl (ps:Array Io)
 | cod (q:Str)
 | ext (φ:IC->Prop)
abbrev Hp:=Ip->Option HO
def ah(H:Hp)(a:Ip)(o:HO):Hp:=λb=>if b=a then some o else H b
theorem aD{H:Hp}{a:Ip}{o:HO}:ah H a o a=some o:=by unfold ah;rw [Ij rfl]
theorem aq{H:Hp}{a b:Ip}{o:HO}(h:b≠a):ah H a o b=H b:=by unfold ah;rw [Ii h]
theorem v3{H:Hp}{a:Ip}{o u:HO}:ah (ah H a o) a u=ah H a u:=by
 funext b;unfold ah;split <;> rfl
theorem cA{H:Hp}{a b:Ip}{o:HO}(h:H a=some o)(h':H b=none):a≠b:=by
 intro e;subst e;rw [h] at h';cases h'
def v5(h:IC)(a:Ip)(q:Str):Prop:=∃oc vs t,h.get? a=some oc/\oc.data= .fields vs/\vs[1]?=some (.str q t)
def v7(H:Hp)(h:IC)(a:Ip)(q:Str):Prop:=∃ps:Array Io,h.get? a=some {cls:= .none,data:= .fields ps}/\PySem.TriplesOk ps.toList/\∀pos cv,PySem.codeAmong pos ps.toList=some cv->∃c,cv= .ref c/\H c=some (.cod q)
section
variable (P:IE) (w:IF)
def aE(H:Hp)(h:IC)(a:Ip):HO->Prop
 | .lst xs=>xs.length<=Ir/\∃(its:List Io)(n:Nat),az xs its/\h.get? a=some {cls:= .type "list",data:= .seq its.toArray n}
 | .tup xs=>xs.length<=Ir/\∃its:List Io,az xs its/\IsTup h a its.toArray
 | .dK kvs=>kvs.length<=Ir/\(a==Jo)=false/\∃vs,KV kvs vs/\h.DictOf (j8 P w) a vs
 | .dT kvs=>kvs.length<=Ir/\(a==Jo)=false/\∃xs:List (List ao×Ip×Io),
  Paired (λ(p:List ao×V) (q:List ao×Ip×Io)=>p.1=q.1/\H q.2.1=some (.tup (p.1.map kV))/\au p.2 q.2.2) kvs xs/\
  ∃o es ep,h.get? a=some o/\o.ExactDict/\o.data= .dict es ep/\es.toList=xs.map (entryOfKey (tupleKind (j8 P w)))/\(xs.map (·.1)).Nodup
 | .set S n=>h.SetOf (intKind P w) a S n
 | .ins C dx fs=>H dx=some (.own a)/\fs.length<=1000/\dx≠a/\h.get? a=some (GQ C dx)/\
  ∃mA,h.Ns1 dx mA/\(∀f,lZ (fs.lookup f) (mA f))/\HR mA (fs.map (·.1))
 | .own _=>∃o,h.get? a=some o
 | .xd fs=>∃mA,h.Ns1 a mA/\∀f,lZ (fs.lookup f) (mA f)
 | .rng lo hi=>∃t u v,h.get? a=some {cls:= .type "range",data:= .fields #[.int lo t,.int hi u,.int 1 v]}
 | .frz o u=>h.get? a=some o/\aE H h a u
 | .tbl ps=>∃q t,ps[0]?=some (.str q t)/\v7 H h a q
 | .cod q=>v5 h a q
 | .met f x=>h.get? a=some (GB (.ref f) (.ref x))
 | .ext φ=>φ h/\(∃o,h.get? a=some o)/\∀h1 h2:IC,φ h1->(∀o,h1.get? a=some o->h2.get? a=some o)->φ h2
def aH(H:Hp)(h:IC):Prop:=∀a o,H a=some o->aE P w H h a o
end
section
variable {P:IE} {w:IF} {H H':Hp} {h h':IC} {a:Ip} {o:HO}
theorem aE.lt(x:aE P w H h a o):a < h.objs.size:=by
 cases o with
 | lst xs=>obtain⟨_,_,_,_,e⟩:=x;exact Ds e
 | tup xs=>obtain⟨_,_,_,p⟩:=x;exact p.lt
 | dK kvs=>obtain⟨_,_,_,_,o,_,_,e,_⟩:=x;exact Ds e
 | dT kvs=>obtain⟨_,_,_,_,o,_,_,e,_⟩:=x;exact Ds e
 | set S n=>obtain⟨o,_,_,_,e,_⟩:=x;exact Ds e
 | ins C dx fs=>obtain⟨_,_,_,e,_⟩:=x;exact Ds e
 | own y=>obtain⟨_,e⟩:=x;exact Ds e
 | xd fs=>obtain⟨_,⟨_,_,_,e,_⟩,_⟩:=x;exact Ds e
 | rng lo hi=>obtain⟨_,_,_,e⟩:=x;exact Ds e
 | frz ob u=>obtain⟨e,_⟩:=x;exact Ds e
 | tbl ps=>obtain⟨_,_,_,_,e,_⟩:=x;exact Ds e
 | cod q=>obtain⟨_,_,_,e,_⟩:=x;exact Ds e
 | met f y=>exact Ds (show h.get? a=some _ from x)
 | ext φ=>obtain⟨_,⟨_,e⟩,_⟩:=x;exact Ds e
theorem Paired.mapP{α β:Type}{F G:α->β->Prop}:∀{l₁:List α}{l₂:List β},Paired F l₁ l₂->(∀a b,F a b->G a b)->Paired G l₁ l₂
 | _,_,.nil,_=>.nil
 | _,_,.cons r t,f=>.cons (f _ _ r) (Paired.mapP t f)
theorem aE.stay(x:aE P w H h a o)(k:∀b u,(b=a\/H b=some (.own a))->h.get? b=some u->h'.get? b=some u)
 (ho:∀b,H b=some (.own a)->H' b=some (.own a))(ht:∀b xs,H b=some (.tup xs)->H' b=some (.tup xs))(hc:∀b q,H b=some (.cod q)->H' b=some (.cod q)):aE P w H' h' a o:=by
 induction o with
 | lst xs=>obtain⟨z,its,n,r,e⟩:=x;exact⟨z,its,n,r,k _ _ (.inl rfl) e⟩
 | tup xs=>obtain⟨z,its,r,ob,e,c⟩:=x;exact⟨z,its,r,ob,k _ _ (.inl rfl) e,c⟩
 | dK kvs=>obtain⟨z,y,vs,r,ob,es,ep,e,c⟩:=x;exact⟨z,y,vs,r,ob,es,ep,k _ _ (.inl rfl) e,c⟩
 | dT kvs=>
  obtain⟨z,y,xs,r,ob,es,ep,e,c⟩:=x;exact⟨z,y,xs,Paired.mapP r λp q z=>⟨z.1,ht _ _ z.2.1,z.2.2⟩,ob,es,ep,k _ _ (.inl rfl) e,c⟩
 | set S n=>obtain⟨ob,es,ep,t,e,c⟩:=x;exact⟨ob,es,ep,t,k _ _ (.inl rfl) e,c⟩
 | ins C dx fs=>
  obtain⟨d,z,ne,e,mA,⟨od,es,ep,e2,c⟩,r⟩:=x;exact⟨ho _ d,z,ne,k _ _ (.inl rfl) e,mA,⟨od,es,ep,k _ _ (.inr d) e2,c⟩,r⟩
 | own y=>obtain⟨ob,e⟩:=x;exact⟨ob,k _ _ (.inl rfl) e⟩
 | xd fs=>obtain⟨mA,⟨od,es,ep,e,c⟩,r⟩:=x;exact⟨mA,⟨od,es,ep,k _ _ (.inl rfl) e,c⟩,r⟩
 | rng lo hi=>obtain⟨t,u,v,e⟩:=x;exact⟨t,u,v,k _ _ (.inl rfl) e⟩
 | frz ob u ih=>obtain⟨e,q⟩:=x;exact⟨k _ _ (.inl rfl) e,ih q⟩
 | tbl ps=>
  obtain⟨q,t,z,qs,e,tr,y⟩:=x;exact⟨q,t,z,qs,k _ _ (.inl rfl) e,tr,λpos cv w=>let ⟨c,e1,e2⟩:=y pos cv w;⟨c,e1,hc _ _ e2⟩⟩
 | cod q=>obtain⟨oc,vs,t,e,r⟩:=x;exact⟨oc,vs,t,k _ _ (.inl rfl) e,r⟩
 | met f y=>
  have e:h.get? a=some (GB (.ref f) (.ref y)):=x;show h'.get? a=some (GB (.ref f) (.ref y));exact k a _ (.inl rfl) e
 | ext φ=>obtain⟨p,⟨o,e⟩,st⟩:=x;exact⟨st _ _ p λo q=>k _ _ (.inl rfl) q,⟨o,k _ _ (.inl rfl) e⟩,st⟩
theorem aH.lt(x:aH P w H h)(e:H a=some o):a < h.objs.size:=(x a o e).lt
theorem aH.fresh(x:aH P w H h)(e:h.objs.size<=a):H a=none:=by
 cases q:H a with
 | none=>rfl
 | some u=>exact absurd (DU (x.lt q) e) (Fw _)
theorem aH.kept(x:aH P w H h)(k:∀b u,h.get? b=some u->h'.get? b=some u):aH P w H h':=λa o e=>
 (x a o e).stay (λb u _ q=>k b u q) (λ_ q=>q) (λ_ _ q=>q) λ_ _ q=>q
theorem aH.laid(x:aH P w H h)(k:∀b u,h.get? b=some u->h'.get? b=some u)(hp:h.objs.size<=a)(new:aE P w (ah H a o) h' a o):aH P w (ah H a o) h':=λb u e=>by
 have hn:=x.fresh hp;by_cases hb:b=a
 ·subst hb;rw [aD] at e;cases e;exact new
 ·rw [aq hb] at e;exact(x b u e).stay (λc v _ q=>k c v q) (λc q=>by rw [aq (cA q hn)];exact q) (λc xs q=>by rw [aq (cA q hn)];exact q) λc xs q=>by rw [aq (cA q hn)];exact q
end
def Rd(H:Hp)(a:Ip)(u:HO):Prop:=H a=some u\/∃o,H a=some (.frz o u)
theorem Rd.ok{P:IE}{w:IF}{H:Hp}{h:IC}{a:Ip}{u:HO}(r:Rd H a u)(x:aH P w H h):aE P w H h a u:=by
 rcases r with r | ⟨o,r⟩
 ·exact x a u r
 ·obtain⟨_,q⟩:=x a _ r;exact q
def l9:Option HO->Prop
 | some (.lst _)=>True
 | some (.dK _)=>True
 | some (.dT _)=>True
 | some (.set _ _)=>True
 | some (.ins _ _ _)=>True
 | some (.ext _)=>True
 | _=>False
section
variable {P:IE} {w:IF} {H:Hp} {h h':IC} {x e:Ip} {o':HO}
theorem aH.write(ok:aH P w H h)(mu:l9 (H x))(he:e=x\/H e=some (.own x))(k:∀b u,b≠e->h.get? b=some u->h'.get? b=some u)(heo:∃u,h'.get? e=some u)
 (new:aE P w (ah H x o') h' x o'):aH P w (ah H x o') h':=λb u q=>by
 have nown:∀c y,H c=some (.own y)->c≠x:=λc y r z=>by subst z;rw [r] at mu;exact mu
 have ntup:∀c xs,H c=some (.tup xs)->c≠x:=λc xs r z=>by subst z;rw [r] at mu;exact mu
 have ncod:∀c xs,H c=some (.cod xs)->c≠x:=λc xs r z=>by subst z;rw [r] at mu;exact mu
 by_cases hb:b=x
 ·subst hb;rw [aD] at q;cases q;exact new
 ·rw [aq hb] at q;by_cases hbe:b=e
  ·have q':H b=some (.own x):=by
    rcases he with z | z
    ·exact absurd (hbe.trans z) hb
    ·rw [hbe];exact z
   rw [q] at q';cases q';obtain⟨v,hv⟩:=heo;exact⟨v,by rw [hbe];exact hv⟩
  ·refine(ok b u q).stay (λc v hc r=>k c v ?_ r) (λc r=>by rw [aq (nown c b r)];exact r) (λc xs r=>by rw [aq (ntup c xs r)];exact r) λc xs r=>by rw [aq (ncod c xs r)];exact r
   rcases hc with rfl | hc
   ·exact hbe
   ·rintro rfl;rcases he with z | z
    ·exact nown c b hc z
    ·rw [hc] at z;cases z;exact hb rfl
end
structure Un (fs ex:List Ip) (H H':Hp) (h h':IC):Prop where
 keep:∀b o,h.get? b=some o->H b=none->b ∉ fs->b ∉ ex->h'.get? b=some o
 slot:∀b o,h.get? b=some o->H b=none->b∈fs->b ∉ ex->∃sl,h'.get? b=some {o with slots:=sl}
 free:∀b o,h.get? b=some o->H b=none->b ∉ ex->H' b=none
 there:∀b o,h.get? b=some o->b ∉ ex->∃o',h'.get? b=some o'
 tups:∀b xs,H b=some (.tup xs)->H' b=some (.tup xs)
 frzs:∀b o u,H b=some (.frz o u)->H' b=some (.frz o u)
 tbls:∀b ps,H b=some (.tbl ps)->∃more,H' b=some (.tbl (ps++more))
section
variable {fs fs' ex ex':List Ip} {H H1 H2:Hp} {h h1 h2 h':IC} {a x e:Ip} {o:HO}
theorem Un.any(u:Un fs ex H H1 h h1){b:Ip}{ob:Obj}(q:h.get? b=some ob)(n:H b=none)(hx:b ∉ ex):∃sl,h1.get? b=some {ob with slots:=sl}:=by
 by_cases hb:b∈fs
 ·exact u.slot b ob q n hb hx
 ·exact⟨ob.slots,u.keep b ob q n hb hx⟩
theorem Un.kept(k:∀b u,h.get? b=some u->h'.get? b=some u):Un fs ex H H h h':=
 ⟨λb ob q _ _ _=>k b ob q,λb ob q _ _ _=>⟨ob.slots,k b ob q⟩,λ_ _ _ n _=>n,λb ob q _=>⟨ob,k b ob q⟩,λ_ _ q=>q,λ_ _ _ q=>q,λ_ ps q=>⟨#[],by rw [q];simp⟩⟩
theorem Un.refl:Un fs ex H H h h:=Un.kept λ_ _ q=>q
theorem Un.laid(k:∀b u,h.get? b=some u->h'.get? b=some u)(hp:h.objs.size<=a)(hn:H a=none):Un fs ex H (ah H a o) h h' where
 keep:=λb u q _ _ _=>k b u q
 slot:=λb u q _ _ _=>⟨u.slots,k b u q⟩
 free:=λb u q n _=>by rw [aq (Em (DU (Ds q) hp))];exact n
 there:=λb u q _=>⟨u,k b u q⟩
 tups:=λb xs q=>by rw [aq (cA q hn)];exact q
 frzs:=λb u xs q=>by rw [aq (cA q hn)];exact q
 tbls:=λb ps q=>⟨#[],by rw [aq (cA q hn),q];simp⟩
theorem Un.write(mu:l9 (H x))(he:e=x\/H e=some (.own x))(k:∀b u,b≠e->h.get? b=some u->h'.get? b=some u)(heo:∃u,h'.get? e=some u):Un fs ex H (ah H x o) h h':=by
 have hx:∀b,H b=none->b≠x:=λb n z=>by subst z;rw [n] at mu;exact mu
 have hb:∀b,H b=none->b≠e:=λb n z=>by
  subst z;rcases he with r | r
  ·exact hx b n r
  ·rw [n] at r;cases r
 have hm:∀b u,H b=some u->¬l9 (some u)->b≠x:=λb u q nm z=>by subst z;rw [q] at mu;exact nm mu
 refine⟨λb u q n _ _=>k b u (hb b n) q,λb u q n _ _=>⟨u.slots,k b u (hb b n) q⟩,λb u q n _=>by rw [aq (hx b n)];exact n,λb u q _=>?_,
  λb xs q=>by rw [aq (hm b _ q λz=>z)];exact q,λb u xs q=>by rw [aq (hm b _ q λz=>z)];exact q,λb ps q=>⟨#[],by rw [aq (hm b _ q λz=>z),q];simp⟩⟩
 by_cases hbe:b=e
 ·subst hbe;exact heo
 ·exact⟨u,k b u hbe q⟩
end
def trk(h:IC)(H:Hp):List Ip:=(Fp h.objs.size).filter λa=>(H a).isSome
def kz(h:IC)(H:Hp):IC:=PySem.W.hideAll h (trk h H)
theorem v8(h:IC)(H:Hp):(kz h H).objs.size=h.objs.size:=PySem.W.hideAll_size _ _
theorem v9{h:IC}{H:Hp}{b:Ip}{o:Obj}(e:h.get? b=some o)(n:H b=none):(kz h H).get? b=some o:=
 PySem.W.hideAll_get _ e λhm=>by
  have q:(H b).isSome=true:=(HC.mp hm).2;rw [n] at q;simp at q
theorem wd{h:IC}{H:Hp}{b:Ip}{o:Obj}(e:(kz h H).get? b=some o):h.get? b=some o/\H b=none:=by
 have e':h.get? b=some o:=PySem.W.of_hideAll (trk h H) e;refine⟨e',?_⟩;cases q:H b with
 | none=>rfl
 | some x=>
  have hm:b∈trk h H:=HC.mpr ⟨Gq.mpr (Ds e'),by simp [q]⟩;have z:(kz h H).get? b=none:=PySem.W.hideAll_none (trk h H) hm;rw [z] at e;cases e
def we(g h:IC)(L:Ip):List (Ip×Obj):=(Fp h.objs.size).filterMap λa=>if a=L\/(g.get? a).isSome=true then none else(h.get? a).map λo=>(a,o)
def rest(g h:IC)(L d:Ip):List (Ip×Obj):=(we g h L).filter λp=>decide (p.1≠d)
structure Mod (K:Dj) (mg:Str->Option Io) (base:IC):Prop where
 kin:K.In base
 glob:base.Ns IA mg
 blt:∃mb,base.Ns builtinsNs mb/\∀x:Str,x≠"__name__"->mb x=IK x
 nolimit:base.NoLimit
structure Cx where
 prog:IE
 w:IF
 K:Dj
 mg:Str->Option Io
 base:IC
 A:IH
 N:List Str
 s₀:Iq
 H₀:Hp
 env:Env
 outer:List Env
 stack:List Env
 ex:List Ip
 fn:Str->Bool
 calm:Bool
 pn:List (Ip×Obj)
 xe:Io->Iq->Prop
def bb(l:List Env):List Ip:=l.filterMap (·.frame)
abbrev Cx.fs(X:Cx):List Ip:=bb X.outer
def mG(sc:IU)(x:Str):Prop:=sc.names.lookup x=some .local\/sc.names.lookup x=some .cell\/sc.names.lookup x=some .free
def k9(sc:IU)(x:Str):Prop:=sc.names.lookup x=some .local\/sc.names.lookup x=some .cell
def wg(env:Env)(h:IC)(m:Str->Option Io)(x:Str)(u:Io):Prop:=
 (env.kindOf x=some .local/\m x=some u)\/((env.kindOf x=some .cell\/env.kindOf x=some .free)/\∃c,env.cells.lookup x=some c/\h.IsCell c (some u))
structure Cx.Ok (X:Cx):Prop where
 mod:Mod X.K X.mg X.base
 kind:X.env.scope.kind= .function
 glob:X.env.globals=IA
 blt:X.env.builtins=builtinsNs
 above:X.s₀.heap.objs.size<=X.env.locals
 inj:∀x y c,X.env.cells.lookup x=some c->X.env.cells.lookup y=some c->x=y
 has:∀x,(X.env.kindOf x=some .cell\/X.env.kindOf x=some .free)->∃c,X.env.cells.lookup x=some c
 cab:∀x c,X.fn x=true->X.env.cells.lookup x=some c->X.s₀.heap.objs.size<=c
 hd:X.calm=true->X.A.handled=none
 frames:X.A.frames=some X.stack
 stk:X.stack=X.outer\/(X.stack=X.env::X.outer/\X.env.frame=some X.env.locals)
 exf:∀b∈X.ex,b≠X.env.locals/\∀x c,X.env.cells.lookup x=some c->c≠b
 bs:∀b o,X.base.get? b=some o->X.s₀.heap.get? b=some o/\X.H₀ b=none
 bsz:X.base.objs.size<=X.s₀.heap.objs.size
 noex:∀b o,X.base.get? b=some o->b ∉ X.ex
 exfs:∀b∈X.ex,b ∉ X.fs
 funs:X.s₀.heap.FunFrames X.base X.outer
 frf:∀b∈X.fs,X.H₀ b=none
structure aa (X:Cx) (JI:List (Ip×Obj)) (σ:List (Option V)) (H:Hp) (s:Iq):Prop where
 ok:X.Ok
 os:s.os=X.s₀.os
 bare:Jp s.gens
 base:Un X.fs X.ex X.H₀ H X.s₀.heap s.heap
 loc:∃m,s.heap.Ns X.env.locals m/\∀(i:Nat)(x:Str)(v:V),X.N[i]?=some x->σ[i]?=some (some v)->mG X.env.scope x->∃u,au v u/\wg X.env s.heap m x u
 cell:∀x c,X.env.cells.lookup x=some c->∃v,s.heap.IsCell c v
 free:H X.env.locals=none
 freeC:∀x c,X.env.cells.lookup x=some c->H c=none
 pin:∀p∈X.pn++JI,s.heap.get? p.1=some p.2/\H p.1=none/\p.1≠X.env.locals/\p.1 ∉ X.fs/\∀v,p.2.data≠ .cell v
 hok:aH X.prog X.w H s.heap
 len:σ.length=X.N.length
section
variable {X:Cx} {JI:List (Ip×Obj)} {σ:List (Option V)} {H H':Hp} {s:Iq} {h':IC}
theorem Cx.Ok.nofr(ok:X.Ok){b:Ip}{o:Obj}(e:X.base.get? b=some o):b ∉ X.fs:=λhb=>by
 have:=(ok.funs.mem hb).1;rw [e] at this;cases this
theorem aa.bs(I:aa X JI σ H s):∀b o,X.base.get? b=some o->s.heap.get? b=some o/\H b=none:=λb o e=>
 ⟨I.base.keep b o (I.ok.bs b o e).1 (I.ok.bs b o e).2 (I.ok.nofr e) (I.ok.noex b o e),I.base.free b o (I.ok.bs b o e).1 (I.ok.bs b o e).2 (I.ok.noex b o e)⟩
theorem aa.bk(I:aa X JI σ H s):∀b o,X.base.get? b=some o->s.heap.get? b=some o:=λb o e=>(I.bs b o e).1
theorem aa.mod(I:aa X JI σ H s):Mod X.K X.mg X.base:=I.ok.mod
theorem aa.kIn(I:aa X JI σ H s):X.K.In s.heap:=I.ok.mod.kin.keeps I.bk
theorem aa.fr(I:aa X JI σ H s):∃m,Fr X.base X.env.locals s.heap m:=
 let ⟨m,hn,_⟩:=I.loc
 ⟨m,hn,I.bk,EY I.ok.bsz I.ok.above⟩
theorem aa.lt(I:aa X JI σ H s):X.env.locals < s.heap.objs.size:=let ⟨_,hn,_⟩:=I.loc;hn.lt
theorem aa.sz(I:aa X JI σ H s):X.s₀.heap.objs.size<=s.heap.objs.size:=EY I.ok.above (GJ I.lt)
theorem aa.nofs(I:aa X JI σ H s){a:Ip}(h:s.heap.objs.size<=a):a ∉ X.fs:=λhb=>by
 obtain⟨_,o,ho,_⟩:=I.ok.funs.mem hb;exact absurd (DU (Ds ho) (EY I.sz h)) (Fw _)
theorem aa.cne(I:aa X JI σ H s):∀x c,X.env.cells.lookup x=some c->c≠X.env.locals:=λx c e z=>by
 obtain⟨v,o,ho,hd⟩:=I.cell x c e;obtain⟨m,⟨o',es,ep,ho',hd',_⟩,_⟩:=I.loc;rw [z,ho'] at ho;cases ho;rw [hd'] at hd;cases hd
theorem aa.funs(I:aa X JI σ H s):s.heap.FunFrames X.base X.outer:=by
 have all:∀(l:List Env),(∀b∈bb l,b∈X.fs)->X.s₀.heap.FunFrames X.base l->s.heap.FunFrames X.base l:=by
  intro l
  induction l with
  | nil=>intro _ _;trivial
  | cons env r ih=>
   intro hs hl;obtain⟨hk,⟨L,o,hf,hn,ho,hd⟩,hr⟩:=hl;have hL:L∈X.fs:=hs L (by unfold bb;rw [Gm,hf];exact E4);obtain⟨sl,e⟩:=I.base.slot L o ho (I.ok.frf L hL) hL λz=>I.ok.exfs L z hL;exact⟨hk,⟨L,_,hf,hn,e,hd⟩,ih (λb hb=>hs b (by unfold bb;rw [Gm,hf];exact EK _ hb)) hr⟩
 exact all X.outer (λ_ hb=>hb) I.ok.funs
theorem aa.stack(I:aa X JI σ H s):s.heap.FunFrames X.base X.stack:=by
 rcases I.ok.stk with e | ⟨e,hf⟩
 ·rw [e];exact I.funs
 ·rw [e];obtain⟨m,hn,_⟩:=I.loc;refine .cons (by rw [I.ok.kind];decide) hf hn ?_ I.funs;exact FP (EY I.ok.bsz I.ok.above)
theorem aa.stkSub(I:aa X JI σ H s):∀b∈bb X.stack,b∈X.env.locals::X.fs:=λb hb=>by
 rcases I.ok.stk with e | ⟨e,hf⟩
 ·rw [e] at hb;exact EK _ hb
 ·rw [e] at hb;unfold bb at hb;rw [Gm,hf] at hb;exact hb
theorem aa.stkFree(I:aa X JI σ H s):∀b∈bb X.stack,H b=none:=λb hb=>by
 rcases EL.mp (I.stkSub b hb) with e | hb
 ·rw [e];exact I.free
 ·obtain⟨_,o,ho,_⟩:=I.ok.funs.mem hb;exact I.base.free b o ho (I.ok.frf b hb) λz=>I.ok.exfs b z hb
theorem aa.step{g':Array JF}{t':Nat}{d':Drawn}{ch:List Ip}(I:aa X JI σ H s)
 (hch:∀b∈ch,(b∈X.ex\/X.s₀.heap.objs.size<=b)/\b≠X.env.locals/\(∀x c,X.env.cells.lookup x=some c->c≠b)/\∀p∈X.pn++JI,p.1≠b)
 (keep:∀b o,b≠X.env.locals->b ∉ X.fs->b ∉ ch->s.heap.get? b=some o->H b=none->h'.get? b=some o)
 (slot:∀b o,b≠X.env.locals->b∈X.fs->b ∉ ch->s.heap.get? b=some o->H b=none->∃sl,h'.get? b=some {o with slots:=sl})(free:∀b o,b ∉ ch->s.heap.get? b=some o->H b=none->H' b=none)
 (there:∀b o,b ∉ ch->s.heap.get? b=some o->∃o',h'.get? b=some o')
 (tups:∀b xs,H b=some (.tup xs)->H' b=some (.tup xs))(frzs:∀b o u,H b=some (.frz o u)->H' b=some (.frz o u))(tbls:∀b ps,H b=some (.tbl ps)->∃more,H' b=some (.tbl (ps++more)))
 (ns:∀m,s.heap.Ns X.env.locals m->h'.Ns X.env.locals m)(hok:aH X.prog X.w H' h')(hg:Jp g'):
 aa X JI σ H' {s with heap:=h',gens:=g',drawn:=d',toks:=t'}:=by
 have neL:∀b o,X.s₀.heap.get? b=some o->b≠X.env.locals:=λb o e=>Em (DU (Ds e) I.ok.above);have neC:∀b o,X.s₀.heap.get? b=some o->b ∉ X.ex->b ∉ ch:=λb o e hx hb=>by
  rcases(hch b hb).1 with z | z
  ·exact hx z
  ·exact absurd (DU (Ds e) z) (Fw _)
 have cellK:∀x c,X.env.cells.lookup x=some c->∀v,s.heap.IsCell c v->h'.IsCell c v:=λx c e v uu1=>by
  obtain⟨o,ho,hd⟩:=uu1;have nch:c ∉ ch:=λz=>(hch c z).2.2.1 x c e rfl;by_cases hc:c∈X.fs
  ·obtain⟨sl,q⟩:=slot c o (I.cne x c e) hc nch ho (I.freeC x c e);exact⟨_,q,hd⟩
  ·exact⟨o,keep c o (I.cne x c e) hc nch ho (I.freeC x c e),hd⟩
 refine⟨I.ok,I.os,hg,⟨λb o e n hb hx=>?_,λb o e n hb hx=>?_,λb o e n hx=>?_,λb o e hx=>?_,λb xs e=>tups b xs (I.base.tups b xs e),λb o xs e=>frzs b o xs (I.base.frzs b o xs e),λb ps e=>?_⟩,?_,λx c e=>?_,?_,λx c e=>?_,λp hp=>?_,hok,I.len⟩
 ·exact keep b o (neL b o e) hb (neC b o e hx) (I.base.keep b o e n hb hx) (I.base.free b o e n hx)
 ·obtain⟨sl,e1⟩:=I.base.slot b o e n hb hx;obtain⟨sl',e2⟩:=slot b _ (neL b o e) hb (neC b o e hx) e1 (I.base.free b o e n hx);exact⟨sl',e2⟩
 ·obtain⟨o',e1⟩:=I.base.there b o e hx;exact free b o' (neC b o e hx) e1 (I.base.free b o e n hx)
 ·obtain⟨o',e1⟩:=I.base.there b o e hx;exact there b o' (neC b o e hx) e1
 ·obtain⟨m1,e1⟩:=I.base.tbls b ps e;obtain⟨m2,e2⟩:=tbls b _ e1;exact⟨m1++m2,by rw [e2,Array.append_assoc]⟩
 ·obtain⟨m,hn,hl⟩:=I.loc;refine⟨m,ns m hn,λi x v e1 e2 e3=>?_⟩;obtain⟨u,r,l⟩:=hl i x v e1 e2 e3;refine⟨u,r,?_⟩;rcases l with l | ⟨k,c,e,z⟩
  ·exact .inl l
  ·exact .inr ⟨k,c,e,cellK x c e _ z⟩
 ·obtain⟨v,z⟩:=I.cell x c e;exact⟨v,cellK x c e v z⟩
 ·obtain⟨m,⟨o,_,_,ho,_⟩,_⟩:=I.loc;exact free _ o (λz=>(hch _ z).2.1 rfl) ho I.free
 ·obtain⟨v,o,ho,hd⟩:=I.cell x c e;exact free c o (λz=>(hch c z).2.2.1 x c e rfl) ho (I.freeC x c e)
 ·obtain⟨e,n,ne,nf,d⟩:=I.pin p hp;have nch:p.1 ∉ ch:=λz=>(hch p.1 z).2.2.2 p hp rfl;exact⟨keep p.1 p.2 ne nf nch e n,free p.1 p.2 nch e n,ne,nf,d⟩
theorem aa.un{t':Nat}(I:aa X JI σ H s)(u:Un X.fs [] H H' s.heap h')(hok:aH X.prog X.w H' h'):aa X JI σ H' {s with heap:=h',toks:=t'}:=by
 obtain⟨m,⟨o,es,ep,ho,r⟩,_⟩:=id I.loc;obtain⟨sl,hL⟩:=u.any ho I.free Il;exact I.step (g':=s.gens) (d':=s.drawn) (ch:=[]) (λ_ z=>nomatch z) (λb o _ hb _ e n=>u.keep b o e n hb Il) (λb o _ hb _ e n=>u.slot b o e n hb Il) (λb o _ e n=>u.free b o e n Il) (λb o _ e=>u.there b o e Il) u.tups u.frzs u.tbls (λm' hm=>by
  obtain⟨o',es',ep',ho',r'⟩:=hm;rw [ho] at ho';cases ho';exact⟨_,es',ep',hL,r'⟩) hok I.bare
theorem aa.call{g':Array JF}{t':Nat}{d':Drawn}{ch:List Ip}(I:aa X JI σ H s)(u:Un (bb X.stack) ch H H' s.heap h')(hok:aH X.prog X.w H' h')(hg:Jp g')
 (hch:∀b∈ch,(b∈X.ex\/X.s₀.heap.objs.size<=b)/\b≠X.env.locals/\(∀x c,X.env.cells.lookup x=some c->c≠b)/\∀p∈X.pn++JI,p.1≠b):
 aa X JI σ H' {s with heap:=h',gens:=g',drawn:=d',toks:=t'}:=by
 obtain⟨m,⟨o,es,ep,ho,r⟩,_⟩:=id I.loc;obtain⟨sl,hL⟩:=u.any ho I.free λz=>(hch _ z).2.1 rfl;exact I.step (ch:=ch) hch (λb o hL hb hc e n=>u.keep b o e n (λz=>(EL.mp (I.stkSub b z)).elim hL hb) hc) (λb o _ _ hc e n=>u.any e n hc) (λb o hc e n=>u.free b o e n hc) (λb o hc e=>u.there b o e hc) u.tups u.frzs u.tbls (λm' hm=>by
  obtain⟨o',es',ep',ho',r'⟩:=hm;rw [ho] at ho';cases ho';exact⟨_,es',ep',hL,r'⟩) hok hg
theorem aa.turned{t':Nat}{it:Ip}(I:aa X JI σ H s)(k:∀b o,b≠it->s.heap.get? b=some o->h'.get? b=some o)(hn:H it=none)(hL:it≠X.env.locals)
 (h1:it∈X.ex\/X.s₀.heap.objs.size<=it)(h2:∀x c,X.env.cells.lookup x=some c->c≠it)(h3:∀p∈X.pn++JI,p.1≠it):aa X JI σ H {s with heap:=h',toks:=t'}:=by
 have nit:∀b u,H b=some u->b≠it:=λb u e z=>by rw [z,hn] at e;cases e
 refine I.step (g':=s.gens) (d':=s.drawn) (ch:=[it]) (λb hb=>?_) (λb o _ _ hc e _=>k b o (λz=>hc (by simp [z])) e) (λb o _ _ hc e _=>⟨o.slots,k b o (λz=>hc (by simp [z])) e⟩) (λ_ _ _ _ n=>n)
  (λb o hc e=>⟨o,k b o (λz=>hc (by simp [z])) e⟩) (λ_ _ e=>e) (λ_ _ _ e=>e) (λb ps e=>⟨#[],by rw [e];simp⟩) (λm hm=>?_) (λb u e=>?_) I.bare
 ·have e:b=it:=by simpa using hb
  subst e;exact⟨h1,hL,h2,h3⟩
 ·obtain⟨o,es,ep,ho,r⟩:=hm;exact⟨o,es,ep,k _ o (Ne.symm hL) ho,r⟩
 ·refine(I.hok b u e).stay (λc v hc q=>k c v ?_ q) (λ_ q=>q) (λ_ _ q=>q) λ_ _ q=>q;rcases hc with z | z
  ·rw [z];exact nit b u e
  ·exact nit c _ z
theorem aa.tok(I:aa X JI σ H s)(t:Nat):aa X JI σ H {s with toks:=t}:=I.un (h':=s.heap) (t':=t) Un.refl I.hok
theorem aa.kept{t':Nat}(I:aa X JI σ H s)(k:∀b u,s.heap.get? b=some u->h'.get? b=some u):aa X JI σ H {s with heap:=h',toks:=t'}:=I.un (Un.kept k) (I.hok.kept k)
theorem aa.laid{a:Ip}{o:HO}{t':Nat}(I:aa X JI σ H s)(k:∀b u,s.heap.get? b=some u->h'.get? b=some u)(hp:s.heap.objs.size<=a)(new:aE X.prog X.w (ah H a o) h' a o):
 aa X JI σ (ah H a o) {s with heap:=h',toks:=t'}:=I.un (Un.laid k hp (I.hok.fresh hp)) (I.hok.laid k hp new)
theorem aa.write{x e:Ip}{o:HO}{t':Nat}(I:aa X JI σ H s)(mu:l9 (H x))(he:e=x\/H e=some (.own x))(k:∀b u,b≠e->s.heap.get? b=some u->h'.get? b=some u)(heo:∃u,h'.get? e=some u)
 (new:aE X.prog X.w (ah H x o) h' x o):aa X JI σ (ah H x o) {s with heap:=h',toks:=t'}:=I.un (Un.write mu he k heo) (I.hok.write mu he k heo new)
theorem aa.weak{σ':List (Option V)}(I:aa X JI σ H s)(hl:σ'.length=σ.length)(w:∀(i:Nat) v,σ'[i]?=some (some v)->σ[i]?=some (some v)):aa X JI σ' H s:=
 ⟨I.ok,I.os,I.bare,I.base,let ⟨m,hn,hl'⟩:=I.loc;⟨m,hn,λi x v e1 e2 e3=>hl' i x v e1 (w i v e2) e3⟩,I.cell,I.free,I.freeC,I.pin,I.hok,hl.trans I.len⟩
theorem aa.pins_of{pins':List (Ip×Obj)}(I:aa X JI σ H s)(h:∀p∈pins',s.heap.get? p.1=some p.2/\H p.1=none/\p.1≠X.env.locals/\p.1 ∉ X.fs/\∀v,p.2.data≠ .cell v):aa X pins' σ H s:=
 ⟨I.ok,I.os,I.bare,I.base,I.loc,I.cell,I.free,I.freeC,λp hp=>(GR.mp hp).elim (λz=>I.pin p (G6 _ z)) (h p),I.hok,I.len⟩
theorem pk{N:List Str}(hN:N.Nodup){i j:Nat}{x:Str}(a:N[i]?=some x)(b:N[j]?=some x):i=j:=by
 obtain⟨h1,e1⟩:=DY.mp a;obtain⟨h2,e2⟩:=DY.mp b;exact(List.getElem_inj hN).mp (e1.trans e2.symm)
theorem wj{M:Jq}{A:IH}{E:Io->Iq->Prop}{i:Nat}{x:Str}{v:V}{u:Io}{Q:Unit->Iq->Prop}(I:aa X JI σ H s)(hN:X.N.Nodup)(hi:X.N[i]?=some x)(hx:k9 X.env.scope x)(r:au v u)
 (h:∀s',aa X JI (σ.set i (some v)) H s'->(∃a,Gf a s.heap s'.heap/\(a=X.env.locals\/X.env.cells.lookup x=some a))->Q () s')(hf:X.fn x=true\/X.env.scope.names.lookup x=some .local:=by first | exact .inl rfl | exact .inr rfl | assumption):Iz M A (storeName X.env x u) Q E s:=by
 obtain⟨m,hn,hl⟩:=id I.loc;have hcls:(X.env.scope.kind== .class || (X.env.scope.kind== .module && X.env.locals !=X.env.globals))=false:=by rw [I.ok.kind];rfl
 have hiσ:i < σ.length:=by rw [I.len];exact(DY.mp hi).1
 have cne:=I.cne;have tracked:∀{a:Ip}{h':IC},(∃o,s.heap.get? a=some o/\H a=none)->Gf a s.heap h'->aH X.prog X.w H h':=λ{a h'} ha hs b ob e=>by
  obtain⟨_,_,hfree⟩:=ha;refine(I.hok b ob e).stay (λc w' hc q=>(hs.2 c ?_).trans q) (λ_ q=>q) (λ_ _ q=>q) λ_ _ q=>q;rintro rfl;rcases hc with rfl | hc
  ·rw [hfree] at e;cases e
  ·rw [hfree] at hc;cases hc
 rcases hx with hk | hk
 ·refine wpAny_storeName_local hk hn (λh' hn' hs=>?_) hcls;obtain⟨oL,_,_,hoL,_⟩:=id hn;refine h _ ⟨I.ok,I.os,I.bare,⟨λb o e n hb hx=>?_,λb o e n hb hx=>?_,I.base.free,λb o e hx=>?_,I.base.tups,I.base.frzs,I.base.tbls⟩,⟨_,hn',λj y v' e1 e2 e3=>?_⟩,λy c e=>?_,I.free,I.freeC,λp hp=>?_,tracked ⟨oL,hoL,I.free⟩ hs,by simpa using I.len⟩ ⟨_,hs,.inl rfl⟩
  ·exact(hs.2 b (Em (DU (Ds e) I.ok.above))).trans (I.base.keep b o e n hb hx)
  ·obtain⟨sl,e1⟩:=I.base.slot b o e n hb hx;exact⟨sl,(hs.2 b (Em (DU (Ds e) I.ok.above))).trans e1⟩
  ·obtain⟨o',e1⟩:=I.base.there b o e hx;exact⟨o',(hs.2 b (Em (DU (Ds e) I.ok.above))).trans e1⟩
  ·by_cases hj:j=i
   ·subst hj;rw [hi] at e1;cases e1;rw [Ep hiσ] at e2;cases e2;exact⟨u,r,.inl ⟨hk,Il⟩⟩
   ·rw [D3 (Ne.symm hj)] at e2;obtain⟨u',r',q⟩:=hl j y v' e1 e2 e3;refine⟨u',r',?_⟩;rcases q with⟨k,e⟩ | ⟨k,c,e,z⟩
    ·refine .inl ⟨k,?_⟩;have:y≠x:=λe=>hj (pk hN e1 (e▸hi));simp [this,e]
    ·exact .inr ⟨k,c,e,z.sameBut hs (cne y c e)⟩
  ·obtain⟨w',z⟩:=I.cell y c e;exact⟨w',z.sameBut hs (cne y c e)⟩
  ·obtain⟨e,n,ne,nf,d⟩:=I.pin p hp;exact⟨(hs.2 p.1 ne).trans e,n,ne,nf,d⟩
 ·have hfn:X.fn x=true:=by
   rcases hf with z | z
   ·exact z
   ·rw [z] at hk;cases hk
  obtain⟨c,hc⟩:=I.ok.has x (.inl hk);obtain⟨w',z⟩:=I.cell x c hc;refine wpAny_storeName_cell I.ok.kind hk hc z (λh' hc' hs=>?_);obtain⟨oc,hoc,hocd⟩:=id z;refine h {s with heap:=h'} ⟨I.ok,I.os,I.bare,⟨λb o e n hb hx=>?_,λb o e n hb hx=>?_,I.base.free,λb o e hx=>?_,I.base.tups,I.base.frzs,I.base.tbls⟩,⟨m,hn.sameBut hs (Ne.symm (cne x c hc)),λj y v' e1 e2 e3=>?_⟩,λy c' e=>?_,I.free,I.freeC,λp hp=>?_,tracked ⟨oc,hoc,I.freeC x c hc⟩ hs,by simpa using I.len⟩ ⟨c,hs,.inr hc⟩
  ·exact(hs.2 b (Em (DU (Ds e) (I.ok.cab x c hfn hc)))).trans (I.base.keep b o e n hb hx)
  ·obtain⟨sl,e1⟩:=I.base.slot b o e n hb hx;exact⟨sl,(hs.2 b (Em (DU (Ds e) (I.ok.cab x c hfn hc)))).trans e1⟩
  ·obtain⟨o',e1⟩:=I.base.there b o e hx;exact⟨o',(hs.2 b (Em (DU (Ds e) (I.ok.cab x c hfn hc)))).trans e1⟩
  ·by_cases hj:j=i
   ·subst hj;rw [hi] at e1;cases e1;rw [Ep hiσ] at e2;cases e2;exact⟨u,r,.inr ⟨.inl hk,c,hc,hc'⟩⟩
   ·rw [D3 (Ne.symm hj)] at e2;obtain⟨u',r',q⟩:=hl j y v' e1 e2 e3;refine⟨u',r',?_⟩;rcases q with q | ⟨k,c',e,z'⟩
    ·exact .inl q
    ·refine .inr ⟨k,c',e,z'.sameBut hs ?_⟩;rintro rfl;exact hj (pk hN e1 (I.ok.inj _ _ _ e hc▸hi))
  ·by_cases hcc:c'=c
   ·subst hcc;exact⟨_,hc'⟩
   ·obtain⟨w2,z2⟩:=I.cell y c' e;exact⟨w2,z2.sameBut hs hcc⟩
  ·obtain⟨e,n,ne,nf,d⟩:=I.pin p hp;refine⟨(hs.2 p.1 ?_).trans e,n,ne,nf,d⟩;intro q;rw [q,hoc] at e;have q':oc=p.2:=Eu e;exact d w' (by rw [<-q'];exact hocd)
theorem mH{M:Jq}{A:IH}{E:Io->Iq->Prop}{i:Nat}{x:Str}{v:V}{u:Io}{Q:Unit->Iq->Prop}(I:aa X JI σ H s)(hN:X.N.Nodup)(hi:X.N[i]?=some x)(hx:k9 X.env.scope x)(r:au v u)
 (h:∀s',aa X JI (σ.set i (some v)) H s'->Q () s')(hf:X.fn x=true\/X.env.scope.names.lookup x=some .local:=by first | exact .inl rfl | exact .inr rfl | assumption):Iz M A (storeName X.env x u) Q E s:=
 wj I hN hi hx r (λs' I' _=>h s' I') hf
theorem aa.call'{s':Iq}{ch:List Ip}(I:aa X JI σ H s)(ho:s'.os=s.os)(u:Un (bb X.stack) ch H H' s.heap s'.heap)(hok:aH X.prog X.w H' s'.heap)(hg:Jp s'.gens)
 (hch:∀b∈ch,(b∈X.ex\/X.s₀.heap.objs.size<=b)/\b≠X.env.locals/\(∀x c,X.env.cells.lookup x=some c->c≠b)/\∀p∈X.pn++JI,p.1≠b):aa X JI σ H' s':=by
 obtain⟨h',g',d',t',o'⟩:=s';have e:o'=s.os:=ho;subst e;exact I.call (g':=g') (t':=t') (d':=d') u hok hg hch
end
abbrev XK:=Io->Option Ip->Hp->Prop
abbrev St:=List (Option V)
abbrev VK:=V->Hp->Prop
abbrev TE:=St->Hp->VK->Prop
abbrev TT:=St->Hp->(Bool->Hp->Prop)->Prop
abbrev TA:=St->Hp->(List V->Hp->Prop)->Prop
structure kQ where
 nx:St->Hp->Prop
 rt:VK
 bk:St->Hp->Prop:=λ_ _=>False
 ct:St->Hp->Prop:=λ_ _=>False
abbrev TS:=kQ->St->Hp->Prop
inductive EP (X:Cx) (JI:List (Ip×Obj)) (σ:St) (Q:VK) (u:Io) (s':Iq):Prop
 | mk (v:V) (H':Hp):aa X JI σ H' s'->au v u->Q v H'->EP X JI σ Q u s'
inductive TP (X:Cx) (JI:List (Ip×Obj)) (σ:St) (Q:Bool->Hp->Prop) (b:Bool) (s':Iq):Prop
 | mk (H':Hp):aa X JI σ H' s'->Q b H'->TP X JI σ Q b s'
inductive AP (X:Cx) (JI:List (Ip×Obj)) (σ:St) (Q:List V->Hp->Prop) (us:List Io) (s':Iq):Prop
 | mk (vs:List V) (H':Hp):aa X JI σ H' s'->az vs us->Q vs H'->AP X JI σ Q us s'
def SP(X:Cx)(JI:List (Ip×Obj))(D:kQ)(f:Flow)(s':Iq):Prop:=
 match f with
 | .next=>∃σ' H',aa X JI σ' H' s'/\D.nx σ' H'
 | .brk=>∃σ' H',aa X JI σ' H' s'/\D.bk σ' H'
 | .cont=>∃σ' H',aa X JI σ' H' s'/\D.ct σ' H'
 | .ret u=>∃v σ' H',aa X JI σ' H' s'/\au v u/\D.rt v H'
def PE(X:Cx)(e:Iu)(t:TE):Prop:=
 ∀(JI:List (Ip×Obj))(s:Iq)(σ:St)(H:Hp)(Q:VK),aa X JI σ H s->t σ H Q->Iz (Iy X.prog X.w) X.A (eval e X.env) (EP X JI σ Q) X.xe s
def PT(X:Cx)(e:Iu)(t:TT):Prop:=
 ∀(JI:List (Ip×Obj))(s:Iq)(σ:St)(H:Hp)(Q:Bool->Hp->Prop),aa X JI σ H s->t σ H Q->Iz (Iy X.prog X.w) X.A (isTrue e X.env (eval e X.env)) (TP X JI σ Q) X.xe s
def PW(X:Cx)(e:Iu)(t:TT):Prop:=
 ∀(whole:Sem Io)(JI:List (Ip×Obj))(s:Iq)(σ:St)(H:Hp)(Q:Bool->Hp->Prop),aa X JI σ H s->t σ H Q->Iz (Iy X.prog X.w) X.A (isTrue e X.env whole) (TP X JI σ Q) X.xe s
theorem PW.pt{X:Cx}{e:Iu}{t:TT}(h:PW X e t):PT X e t:=h _
def PA(X:Cx)(es:List Iu)(t:TA):Prop:=
 ∀(pos:Pos)(JI:List (Ip×Obj))(s:Iq)(σ:St)(H:Hp)(Q:List V->Hp->Prop),aa X JI σ H s->t σ H Q->Iz (Iy X.prog X.w) X.A (spliced (IS pos (Iw es X.env))) (AP X JI σ Q) X.xe s
def PS(X:Cx)(st:II)(t:TS):Prop:=
 ∀(JI:List (Ip×Obj))(s:Iq)(σ:St)(H:Hp)(D:kQ),aa X JI σ H s->t D σ H->Iz (Iy X.prog X.w) X.A (exec st X.env) (SP X JI D) X.xe s
def aR(X:Cx)(st:List II)(t:TS):Prop:=
 ∀(JI:List (Ip×Obj))(s:Iq)(σ:St)(H:Hp)(D:kQ),aa X JI σ H s->t D σ H->Iz (Iy X.prog X.w) X.A (execs st X.env) (SP X JI D) X.xe s
theorem ak{α:Type}{t:Sem α}{Q Q':α->Iq->Prop}{M:Jq}{A:IH}{E:Io->Iq->Prop}{s:Iq}(h:Iz M A t Q E s)(hQ:∀a s,Q a s->Q' a s):Iz M A t Q' E s:=IM h hQ λ_ _ x=>x
section
variable {X:Cx}
theorem Dh{a b:Iu}{ta tb:TE}(ha:PE X a ta)(hb:PE X b tb){JI:List (Ip×Obj)}{s:Iq}{σ:St}{H:Hp}{R:V->V->Hp->Prop}(I:aa X JI σ H s)(h:ta σ H λx H1=>tb σ H1 λy H2=>R x y H2)
 {α:Type}{Q:α->Iq->Prop}{f:Io->Io->Sem α}
 (hf:∀v u s2 x y H2,aa X JI σ H2 s2->au x v->au y u->R x y H2->Iz (Iy X.prog X.w) X.A (f v u) Q X.xe s2):
 Iz (Iy X.prog X.w) X.A (eval a X.env) (λv s₁=>Iz (Iy X.prog X.w) X.A (eval b X.env) (λu s₂=>Iz (Iy X.prog X.w) X.A (f v u) Q X.xe s₂) X.xe s₁) X.xe s:=by
 refine ak (ha JI s σ H _ I h) λv s1 ⟨x,H1,I1,r1,q1⟩=>?_;refine ak (hb JI s1 σ H1 _ I1 q1) λu s2 ⟨y,H2,I2,r2,q2⟩=>?_;exact hf v u s2 x y H2 I2 r1 r2 q2
def kA(i:Nat):TE:=λσ H Q=>∃v,σ[i]?=some (some v)/\Q v H
def tC(v:V):TE:=λ_ H Q=>Q v H
theorem lg{i:Nat}{x:Str}{pos:Pos}(hN:X.N[i]?=some x)(hv:mG X.env.scope x)(hd:(x==("__debug__":Str))=false:=by decide)(hcd:(x==("__classdict__":Str))=false:=by decide):PE X (.Name x pos) (kA i):=by
 intro JI s σ H Q I h;obtain⟨v,e,h⟩:=h;obtain⟨m,hn,hl⟩:=I.loc;obtain⟨u,r,l⟩:=hl i x v hN e hv;have fin:EP X JI σ Q u s:=⟨v,H,I,r,h⟩;rcases l with⟨hk,hm⟩ | ⟨hk,c,hc,hcell⟩
 ·exact wpAny_Name (wpAny_loadName_local I.ok.kind hk hn hm fin) hd
 ·rcases hk with hk | hk
  ·exact wpAny_Name (wpAny_loadName_cell I.ok.kind hk hc hcell fin) hd
  ·exact wpAny_Name (wpAny_loadName_free I.ok.kind hk hc hcell fin hcd) hd
theorem bg{i j pos}:PE X (.Constant (.int i) j pos) (tC (.int i)):=λ_ _ _ H _ I h=>wpAny_Constant_int ⟨.int i,H,I.tok _,⟨_,rfl⟩,h⟩
theorem wk{b j pos}:PE X (.Constant (.bool b) j pos) (tC (.bl b)):=λ_ _ _ H _ I h=>Constant_bool ⟨.bl b,H,I,rfl,h⟩
theorem nL{j pos}:PE X (.Constant .none j pos) (tC .non):=λ_ _ _ H _ I h=>Constant_none ⟨.non,H,I,rfl,h⟩
theorem lh{x j pos}:PE X (.Constant (.str x) j pos) (tC (.str x)):=λ_ _ _ H _ I h=>Calls.Constant_str ⟨.str x,H,I.tok _,⟨_,rfl⟩,h⟩
def Gl(X:Cx)(x:Str):Prop:=X.env.kindOf x=some .globalImplicit
theorem ma{E:Io->Iq->Prop}{JI:List (Ip×Obj)}{s:Iq}{σ:St}{H:Hp}{x:Str}{u:Io}{pos:Pos}{Q:Io->Iq->Prop}(I:aa X JI σ H s)(hg:Gl X x)(hm:X.mg x=some u)(h:Q u s)
 (hd:(x==("__debug__":Str))=false:=by decide):Iz (Iy X.prog X.w) X.A (eval (.Name x pos) X.env) Q E s:=
 Gy I.ok.kind hg (Calls.loadGlobal_global (by rw [I.ok.glob];exact I.mod.glob.keeps I.bk) hm h) hd
theorem mI{E:Io->Iq->Prop}{JI:List (Ip×Obj)}{s:Iq}{σ:St}{H:Hp}{x:Str}{u:Io}{pos:Pos}{Q:Io->Iq->Prop}(I:aa X JI σ H s)(hg:Gl X x)(hm:X.mg x=none)(hv:IK x=some u)(h:Q u s)
 (hn:x≠"__name__":=by decide)(hd:(x==("__debug__":Str))=false:=by decide):Iz (Iy X.prog X.w) X.A (eval (.Name x pos) X.env) Q E s:=by
 obtain⟨mb,h1,h2⟩:=I.mod.blt;exact Gy I.ok.kind hg (Calls.loadGlobal_builtin (by rw [I.ok.glob];exact I.mod.glob.keeps I.bk) hm (by rw [I.ok.blt];exact h1.keeps I.bk) ((h2 x hn).trans hv) h) hd
theorem bZ{x:Str}{v:V}{u:Io}{pos:Pos}(hg:Gl X x)(hm:X.mg x=some u)(r:au v u)(hd:(x==("__debug__":Str))=false:=by decide):PE X (.Name x pos) (tC v):=
 λ_ _ _ H _ I h=>ma I hg hm ⟨v,H,I,r,h⟩ hd
theorem lj{x:Str}{v:V}{u:Io}{pos:Pos}(hg:Gl X x)(hm:X.mg x=none)(hv:IK x=some u)(r:au v u)(hn:x≠"__name__":=by decide)(hd:(x==("__debug__":Str))=false:=by decide):PE X (.Name x pos) (tC v):=
 λ_ _ _ H _ I h=>mI I hg hm hv ⟨v,H,I,r,h⟩ hn hd
variable {a b:Iu} {ta tb:TE} {pos:Pos}
def PC(X:Cx)(op:CmpOp)(a b:Iu)(t:TE):Prop:=
 ∀(JI:List (Ip×Obj))(s:Iq)(σ:St)(H:Hp)(Q:VK),aa X JI σ H s->t σ H Q->
  Iz (Iy X.prog X.w) X.A (eval a X.env) (λv s₁=>Iz (Iy X.prog X.w) X.A (eval b X.env) (λu s₂=>Iz (Iy X.prog X.w) X.A (IJ op v u) (EP X JI σ Q) X.xe s₂) X.xe s₁) X.xe s
theorem wm(b:Iu){op:CmpOp}(h:op≠ .In)(h2:op≠ .NotIn):IY op b=false:=by
 have e1:(op==CmpOp.In)=false:=by cases op <;> first | rfl | exact absurd rfl h
 have e2:(op==HZ)=false:=by cases op <;> first | rfl | exact absurd rfl h2
 cases b <;> simp [IY,e1,e2]
def tB(t:TE):TT:=λσ H Q=>t σ H λx H1=>∃c,x= .bl c/\Q c H1
theorem Di{op:CmpOp}{t:TE}(h:PC X op a b t)(h1:IY op b=false:=by first | exact wm _ Ce Ce | rfl):PT X (.Compare a [op] [b] pos) (tB t):=by
 intro JI s σ H Q I hw;refine wpAny_isTrue_Compare1 (ak (h JI s σ H _ I hw) λv s1 h1=>ak h1 λu s2 h2=>ak h2 λc s3 ⟨x,H1,I1,r1,q1⟩=>?_) h1;obtain⟨d,rfl,q⟩:=q1;cases r1;exact IP ⟨H1,I1,q⟩
theorem me{e:Iu}{t:TE}(h:PE X e t)(he:∀whole,isTrue e X.env whole=(do let v<-whole;standAt e.pos;Jw [v] (truthy v)):=by intro _;rfl):PT X e (tB t):=by
 intro JI s σ H Q I hw;refine isTrue_plain (ak (h JI s σ H _ I hw) λv s1 ⟨x,H1,I1,r1,q1⟩=>?_) (he _);obtain⟨d,rfl,q⟩:=q1;cases r1;exact IP ⟨H1,I1,q⟩
variable {tA tB':TT} {rest:List Iu}
def pq(t u:TT):TT:=λσ H Q=>t σ H λc H1=>if c=true then u σ H1 Q else Q false H1
def pw(t u:TT):TT:=λσ H Q=>t σ H λc H1=>if c=true then Q true H1 else u σ H1 Q
def px(t:TT):TT:=λσ H Q=>t σ H λc H1=>Q (!c) H1
theorem sd(ha:PT X a tA):PW X (.BoolOp .And [a] pos) tA:=by
 intro wh JI s σ H Q I h;refine isTrue_and (ak (ha JI s σ H Q I h) λc s1 e=>?_);cases c with
 | true=>exact isTrue_and_nil e
 | false=>exact e
theorem se(ha:PT X a tA):PW X (.BoolOp .Or [a] pos) tA:=by
 intro wh JI s σ H Q I h;refine isTrue_or (ak (ha JI s σ H Q I h) λc s1 e=>?_);cases c with
 | false=>exact isTrue_or_nil e
 | true=>exact e
theorem sg(ha:PT X a tA)(hb:PW X (.BoolOp .And (b::rest) pos) tB'):PW X (.BoolOp .And (a::b::rest) pos) (pq tA tB'):=by
 intro wh JI s σ H Q I h;refine isTrue_and (ak (ha JI s σ H _ I h) λc s1 ⟨H1,I1,q1⟩=>?_);cases c with
 | true=>exact hb wh JI s1 σ H1 Q I1 q1
 | false=>exact⟨H1,I1,q1⟩
theorem pz(ha:PT X a tA)(hb:PW X (.BoolOp .Or (b::rest) pos) tB'):PW X (.BoolOp .Or (a::b::rest) pos) (pw tA tB'):=by
 intro wh JI s σ H Q I h;refine isTrue_or (ak (ha JI s σ H _ I h) λc s1 ⟨H1,I1,q1⟩=>?_);cases c with
 | true=>exact⟨H1,I1,q1⟩
 | false=>exact hb wh JI s1 σ H1 Q I1 q1
theorem pA(ha:PT X a tA):PT X (.UnaryOp .Not a pos) (px tA):=by
 intro JI s σ H Q I h;exact isTrue_not (ak (ha JI s σ H (λc H1=>Q (!c) H1) I h) λc s1 uu8=>by obtain⟨H1,I1,q⟩:=uu8;exact⟨H1,I1,q⟩)
def pB(ta tb:TE):TE:=λσ H Q=>ta σ H λx H1=>∃c,x= .bl c/\if c=true then tb σ H1 Q else Q (.bl false) H1
def pC(ta tb:TE):TE:=λσ H Q=>ta σ H λx H1=>∃c,x= .bl c/\if c=true then Q (.bl true) H1 else tb σ H1 Q
def pD(ta:TE):TE:=λσ H Q=>ta σ H λx H1=>∃c,x= .bl c/\Q (.bl (!c)) H1
theorem pE{op}{t:TE}(h:PE X a t):PE X (.BoolOp op [a] pos) t:=λJI s σ H Q I hw=>BoolOp_one (h JI s σ H Q I hw)
theorem sh(ha:PE X a ta)(hb:PE X (.BoolOp .And (b::rest) pos) tb):PE X (.BoolOp .And (a::b::rest) pos) (pB ta tb):=by
 intro JI s σ H Q I h;refine BoolOp_and (ak (ha JI s σ H _ I h) λv s1 ⟨x,H1,I1,r1,q1⟩=>?_);obtain⟨c,rfl,q1⟩:=q1;cases r1;refine IP ?_;cases c with
 | true=>exact hb JI s1 σ H1 Q I1 q1
 | false=>exact⟨.bl false,H1,I1,rfl,q1⟩
theorem wo(ha:PE X a ta)(hb:PE X (.BoolOp .Or (b::rest) pos) tb):PE X (.BoolOp .Or (a::b::rest) pos) (pC ta tb):=by
 intro JI s σ H Q I h;refine BoolOp_or (ak (ha JI s σ H _ I h) λv s1 ⟨x,H1,I1,r1,q1⟩=>?_);obtain⟨c,rfl,q1⟩:=q1;cases r1;refine IP ?_;cases c with
 | false=>exact hb JI s1 σ H1 Q I1 q1
 | true=>exact⟨.bl true,H1,I1,rfl,q1⟩
theorem wq(ha:PE X a ta):PE X (.UnaryOp .Not a pos) (pD ta):=by
 intro JI s σ H Q I h;refine UnaryOp_ (ak (ha JI s σ H _ I h) λv s1 ⟨x,H1,I1,r1,q1⟩=>?_);obtain⟨c,rfl,q1⟩:=q1;cases r1;exact not_of (IP ⟨.bl (!c),H1,I1,rfl,q1⟩)
end
def aG(K:Dj)(H:Hp)(a:Ip)(xs:List V):Prop:=
 Rd H a (.lst xs)\/
  ∃(o:Obj)(its:Array Io)(n:Nat),K.lookup a=some o/\o.cls= .type "list"/\o.dict=none/\o.data= .seq its n/\its.size<=Ir/\az xs its.toList
def bD(K:Dj)(H:Hp)(a:Ip)(xs:List V):Prop:=
 Rd H a (.tup xs)\/
  ∃(o:Obj)(its:Array Io)(n:Nat),K.lookup a=some o/\o.cls= .type "tuple"/\o.data= .seq its n/\its.size<=Ir/\az xs its.toList
def wt:Io->Option V
 | .none=>some .non
 | .bool b=>some (.bl b)
 | .int i _=>some (.int i)
 | .str x _=>some (.str x)
 | .bytes b _=>some (.byt b)
 | .float b _=>some (.flt b)
 | .ref a=>some (.ref a)
 | .type n=>some (.ty n)
 | _=>none
theorem au.abs{x:V}{u:Io}(r:au x u):wt u=some x:=by
 cases x with
 | non=>cases r;rfl
 | bl _=>cases r;rfl
 | int _=>obtain⟨t,rfl⟩:=r;rfl
 | str _=>obtain⟨t,rfl⟩:=r;rfl
 | byt _=>obtain⟨t,rfl⟩:=r;rfl
 | flt _=>obtain⟨t,rfl⟩:=r;rfl
 | ref _=>cases r;rfl
 | ty _=>cases r;rfl
theorem au.inj{x y:V}{u:Io}(r:au x u)(q:au y u):x=y:=Eu (r.abs.symm.trans q.abs)
theorem az.inj:∀{xs ys:List V}{us:List Io},az xs us->az ys us->xs=ys
 | _,_,_,.nil,.nil=>rfl
 | _,_,_,.cons r t,.cons r' t'=>by rw [r.inj r',az.inj t t']
section
variable {X:Cx} {JI:List (Ip×Obj)} {σ:St} {H:Hp} {s:Iq} {a:Ip} {xs ys:List V}
theorem aG.of{K:Dj}(h:H a=some (.lst xs)):aG K H a xs:= .inl (.inl h)
theorem bD.of{K:Dj}(h:H a=some (.tup xs)):bD K H a xs:= .inl (.inl h)
theorem aa.list(I:aa X JI σ H s)(h:aG X.K H a xs):∃its:List Io,az xs its/\PlainL s.heap a its.toArray/\xs.length<=Ir:=by
 rcases h with h | ⟨o,its,n,hk,hc,hd,hs,hz,r⟩
 ·obtain⟨z,its,n,r,e⟩:=h.ok I.hok;exact⟨its,r,⟨_,n,e,rfl,rfl,rfl⟩,z⟩
 ·refine⟨its.toList,r,⟨o,n,I.kIn a o hk,hc,hd,by simpa using hs⟩,?_⟩;have e:=r.length;simp only [ED] at e;omega
theorem aa.tuple(I:aa X JI σ H s)(h:bD X.K H a xs):∃its:List Io,az xs its/\IsTup s.heap a its.toArray/\xs.length<=Ir:=by
 rcases h with h | ⟨o,its,n,hk,hc,hs,hz,r⟩
 ·obtain⟨z,its,r,p⟩:=h.ok I.hok;exact⟨its,r,p,z⟩
 ·refine⟨its.toList,r,⟨o,I.kIn a o hk,hc,n,by simpa using hs⟩,?_⟩;have e:=r.length;simp only [ED] at e;omega
theorem aa.list_inj(I:aa X JI σ H s)(h:aG X.K H a xs)(h':aG X.K H a ys):xs=ys:=by
 obtain⟨its,r,⟨o,n,e,_,_,d⟩,_⟩:=I.list h;obtain⟨its',r',⟨o',n',e',_,_,d'⟩,_⟩:=I.list h';rw [e] at e';cases e';rw [d] at d';injection d' with d1 _
 have:its=its':=by simpa using congrArg Array.toList d1
 subst this;exact r.inj r'
end
abbrev Cx.wish(X:Cx)(E:Io->Iq->Prop):Cx:={X with xe:=E}
abbrev Cx.nox(X:Cx):Cx:=X.wish λ_ _=>False
theorem Cx.Ok.wish{X:Cx}(ok:X.Ok)(E:Io->Iq->Prop):(X.wish E).Ok:=
 ⟨ok.mod,ok.kind,ok.glob,ok.blt,ok.above,ok.inj,ok.has,ok.cab,ok.hd,ok.frames,ok.stk,ok.exf,ok.bs,ok.bsz,ok.noex,ok.exfs,ok.funs,ok.frf⟩
theorem Cx.Ok.unwish{X:Cx}{E:Io->Iq->Prop}(ok:(X.wish E).Ok):X.Ok:=
 ⟨ok.mod,ok.kind,ok.glob,ok.blt,ok.above,ok.inj,ok.has,ok.cab,ok.hd,ok.frames,ok.stk,ok.exf,ok.bs,ok.bsz,ok.noex,ok.exfs,ok.funs,ok.frf⟩
section
variable {X:Cx} {JI:List (Ip×Obj)} {σ:St} {H:Hp} {s:Iq} {E:Io->Iq->Prop}
theorem aa.wish(I:aa X JI σ H s)(E:Io->Iq->Prop):aa (X.wish E) JI σ H s:=⟨I.ok.wish E,I.os,I.bare,I.base,I.loc,I.cell,I.free,I.freeC,I.pin,I.hok,I.len⟩
theorem aa.unwish(I:aa (X.wish E) JI σ H s):aa X JI σ H s:=⟨I.ok.unwish,I.os,I.bare,I.base,I.loc,I.cell,I.free,I.freeC,I.pin,I.hok,I.len⟩
theorem SP.unwish{D:kQ}{f:Flow}{s':Iq}(h:SP (X.wish E) JI D f s'):SP X JI D f s':=by
 cases f with
 | next=>obtain⟨σ',H',I,q⟩:=h;exact⟨σ',H',I.unwish,q⟩
 | brk=>obtain⟨σ',H',I,q⟩:=h;exact⟨σ',H',I.unwish,q⟩
 | cont=>obtain⟨σ',H',I,q⟩:=h;exact⟨σ',H',I.unwish,q⟩
 | ret u=>obtain⟨v,σ',H',I,r,q⟩:=h;exact⟨v,σ',H',I.unwish,r,q⟩
theorem aR.nox{st:List II}{t:TS}(h:aR X.nox st t):aR X st t:=λJI s σ H D I hw=>
 IM (h JI s σ H D (I.wish _) hw) (λ_ _ q=>q.unwish) λ_ _ z=>E2 z
end
section
variable {X:Cx} {st:II} {rest:List II} {t u:TS} {e:Iu} {te:TE} {pos:Pos}
def pF:TS:=λD σ H=>D.nx σ H
def nM(t u:TS):TS:=λD σ H=>t {D with nx:=u D} σ H
theorem kR:aR X [] pF:=λ_ _ σ H _ I h=>Ji ⟨σ,H,I,h⟩
theorem b7(h1:PS X st t)(h2:aR X rest u):aR X (st::rest) (nM t u):=by
 intro JI s σ H D I h;refine JG (ak (h1 JI s σ H {D with nx:=u D} I h) λf s1 q=>?_);cases f with
 | next=>
  obtain⟨σ',H',I',q⟩:=q;exact h2 JI s1 σ' H' D I' q
 | ret v=>exact q
 | brk=>exact q
 | cont=>exact q
theorem bS(h1:PS X st t):aR X [st] t:=by
 intro JI s σ H D I h;refine JG (ak (h1 JI s σ H D I h) λf s1 q=>?_);cases f with
 | next=>exact Ji q
 | ret v=>exact q
 | brk=>exact q
 | cont=>exact q
theorem aa.quiet{JI:List (Ip×Obj)}{σ:St}{H:Hp}{s:Iq}(I:aa X JI σ H s):interactive X.env=false:=by simp [interactive,I.ok.kind]
def pG(te:TE):TS:=λD σ H=>te σ H D.rt
theorem eg(he:PE X e te):PS X (.Return (some e) pos) (pG te):=by
 intro JI s σ H D I h;exact wpAny_Return_some (ak (he JI s σ H _ I h) λv s1 uu12=>by obtain⟨x,H1,I1,r1,q1⟩:=uu12;exact⟨x,σ,H1,I1,r1,q1⟩)
def pH(c:TT)(t u:TS):TS:=λD σ H=>c σ H λb H1=>if b=true then t D σ H1 else u D σ H1
theorem kS{c:Iu}{a b:List II}{tc:TT}(hc:PT X c tc)(ha:aR X a t)(hb:aR X b u):PS X (.If c a b pos) (pH tc t u):=by
 intro JI s σ H D I h;refine wpAny_If (ak (hc JI s σ H _ I h) λd s1 ⟨H1,I1,q1⟩=>?_);cases d with
 | true=>exact ha JI s1 σ H1 D I1 q1
 | false=>exact hb JI s1 σ H1 D I1 q1
def wu:TS:=λ_ _ _=>False
theorem wx:PS X st wu:=λ_ _ _ _ _ _ h=>h.elim
end
abbrev TG:=V->St->Hp->(St->Hp->Prop)->Prop
abbrev j9:=List V->St->Hp->(St->Hp->Prop)->Prop
def PG(X:Cx)(target:Iu)(t:TG):Prop:=
 ∀(JI:List (Ip×Obj))(s:Iq)(σ:St)(H:Hp)(v:V)(u:Io)(Q:St->Hp->Prop),aa X JI σ H s->au v u->t v σ H Q->
  Iz (Iy X.prog X.w) X.A (assign target X.env u) (λ_ s'=>∃σ' H',aa X JI σ' H' s'/\Q σ' H') X.xe s
def nN(X:Cx)(ts:List Iu)(t:j9):Prop:=
 ∀(JI:List (Ip×Obj))(s:Iq)(σ:St)(H:Hp)(vs:List V)(us:List Io)(Q:St->Hp->Prop),aa X JI σ H s->az vs us->t vs σ H Q->
  Iz (Iy X.prog X.w) X.A (assignInOrder ((Jk ts X.env).map (·.2)) us) (λ_ s'=>∃σ' H',aa X JI σ' H' s'/\Q σ' H') X.xe s
abbrev pI:=V->V->V->Hp->(Hp->Prop)->Prop
def si(X:Cx)(t:pI):Prop:=
 ∀(JI:List (Ip×Obj))(s:Iq)(σ:St)(H:Hp)(o i v:V)(ov iv u:Io)(Q:Hp->Prop),aa X JI σ H s->au o ov->au i iv->au v u->t o i v H Q->
  Iz (Iy X.prog X.w) X.A (setItem ov iv u) (λ_ s'=>∃H',aa X JI σ H' s'/\Q H') X.xe s
section
variable {X:Cx} {pos:Pos}
def ll(i:Nat):TG:=λv σ H Q=>Q (σ.set i (some v)) H
theorem jU{i:Nat}{x:Str}(hN:X.N.Nodup)(hi:X.N[i]?=some x)(hx:k9 X.env.scope x)(hf:X.fn x=true\/X.env.scope.names.lookup x=some .local:=by first | exact .inl rfl | exact .inr rfl | assumption):PG X (.Name x pos) (ll i):=by
 intro JI s σ H v u Q I r h;exact wpAny_assign_Name (mH I hN hi hx r (λs' I'=>⟨_,H,I',h⟩) hf)
def nO:j9:=λvs σ H Q=>vs=[]/\Q σ H
def nP(t:TG)(u:j9):j9:=λvs σ H Q=>∃v r,vs=v::r/\t v σ H λσ' H'=>u r σ' H' Q
theorem sj:nN X [] nO:=by
 intro JI s σ H vs us Q I r h;obtain⟨e,h⟩:=h;subst e;cases r;exact assignInOrder_nil ⟨σ,H,I,h⟩
theorem mJ{e:Iu}{es:List Iu}{t:TG}{u:j9}(h1:PG X e t)(h2:nN X es u)
 (hs:(Jk (e::es) X.env).map (·.2)=assign e X.env::(Jk es X.env).map (·.2):=by rfl):nN X (e::es) (nP t u):=by
 intro JI s σ H vs us Q I r h;obtain⟨v,vr,e1,h⟩:=h;subst e1;cases r with
 | cons r rr=>
  rw [hs];refine assignInOrder_cons (ak (h1 JI s σ H _ _ _ I r h) λ_ s1 ⟨σ1,H1,I1,q1⟩=>?_);exact h2 JI s1 σ1 H1 _ _ Q I1 rr q1
def nQ(K:Dj)(n:Nat)(t:j9):TG:=λv σ H Q=>∃a xs,v= .ref a/\bD K H a xs/\xs.length=n/\t xs σ H Q
theorem sk{es:List Iu}{k:Nat}{t:j9}{n:Nat}(hc:X.calm=true)(h:nN X es t)
 (hn:(Jk es X.env).length=n:=by rfl)(hst:(Jk es X.env).findIdx? (·.1)=none:=by rfl):PG X (.Tuple es k pos) (nQ X.K n t):=by
 intro JI s σ H v u Q I r hw;obtain⟨a,xs,e1,hq,hl,hw⟩:=hw;subst e1;cases r;obtain⟨its,rv,ht,hz⟩:=I.tuple hq;refine assign_Tuple_tuple (I.ok.hd hc) ht (by simp [hn,<-hl,rv.length]) hst λh' hx=>?_;have I1:aa X JI σ H {s with heap:=h'}:=I.kept (t':=s.toks) λb o e=>hx b o (Em (Ds e)) e;exact h JI _ σ H xs _ Q I1 (by simpa using rv) hw
def pJ(to ti:TE)(t:pI):TG:=λv σ H Q=>to σ H λo H1=>ti σ H1 λi H2=>t o i v H2 λH3=>Q σ H3
theorem so{o i:Iu}{to ti:TE}{t:pI}(ho:PE X o to)(hi:PE X i ti)(hs:si X t)
 (ha:∀v,assign (.Subscript o i pos) X.env v=(do
   let ov<-Jw [v] (eval o X.env)
   let iv<-Jw [v,ov] (eval i X.env)
   standAt pos
   Jw [v,ov,iv] (setItem ov iv v)
   release [v,ov,iv] []):=by intro _;rfl):PG X (.Subscript o i pos) (pJ to ti t):=by
 intro JI s σ H v u Q I r h;rw [ha];refine ID (JD (ak (ho JI s σ H _ I h) λov s1 ⟨x,H1,I1,r1,q1⟩=>?_));refine ID (JD (ak (hi JI s1 σ H1 _ I1 q1) λiv s2 ⟨y,H2,I2,r2,q2⟩=>?_));refine ID (JE (ID (JD (ak (hs JI s2 σ H2 x y v ov iv u _ I2 r1 r2 r q2) λ_ s3 ⟨H3,I3,q3⟩=>?_))));exact wpAny_release ⟨σ,H3,I3,q3⟩
def nR(te:TE)(g:TG):TS:=λD σ H=>te σ H λx H1=>g x σ H1 D.nx
theorem pK{tg e:Iu}{te:TE}{g:TG}(he:PE X e te)(hg:PG X tg g)(hs:swapsWithSole [tg] e pos.line X.env=pure false:=by rfl)(hw:swappedStores [tg] e X.env=pure none:=by rfl)
 (h1:(Jk [tg] X.env).map (·.2)=[assign tg X.env]:=by rfl):PS X (.Assign [tg] e pos) (nR te g):=by
 intro JI s σ H D I h;refine wpAny_Assign_stores (ak (he JI s σ H _ I h) λv s1 ⟨x,H1,I1,r1,q1⟩=>?_) hs hw;rw [h1];exact ak (hg JI s1 σ H1 x v _ I1 r1 q1) λ_ s2 q=>q
theorem jP{i:Nat}{x:Str}{e:Iu}{te:TE}{pos':Pos}(hN:X.N.Nodup)(hi:X.N[i]?=some x)(hx:k9 X.env.scope x)(he:PE X e te)(hs:Jd e (some (.Name x pos')) pos.line X.env=pure false:=by rfl)(hf:X.fn x=true\/X.env.scope.names.lookup x=some .local:=by first | exact .inl rfl | exact .inr rfl | assumption):
 PS X (.Assign [.Name x pos'] e pos) (nR te (ll i)):=by
 intro JI s σ H D I h;refine wpAny_Assign_Name (ak (he JI s σ H _ I h) λv s1 ⟨y,H1,I1,r1,q1⟩=>?_) hs;exact mH I1 hN hi hx r1 (λs2 I2=>⟨_,H1,I2,q1⟩) hf
def wy(c:TT)(tb:TS):TS:=λD σ H=>∃W:Nat->St->Hp->Prop,(∃m,W m σ H)/\∀m σ H,W m σ H->
 c σ H λb H1=>if b=true then ∃N:St->Hp->Prop,(∀σ' H',N σ' H'->∃m',m' < m/\W m' σ' H')/\tb {D with nx:=N,ct:=N,bk:=D.nx} σ H1 else D.nx σ H1
theorem wz{c:Iu}{body:List II}{tc:TT}{tb:TS}(hp:PassesOwn (Iy X.prog X.w) X.A X.env X.xe)(hc:PT X c tc)(hb:aR X body tb):PS X (.While c body [] pos) (wy tc tb):=by
 intro JI s σ H D I h;obtain⟨W,⟨m0,w0⟩,turn⟩:=h;refine wpAny_While (codeAny_whileLoop (λn s'=>∃σ' H',aa X JI σ' H' s'/\W n σ' H') ?_ m0 ⟨σ,H,I,w0⟩);rintro n s1 ⟨σ1,H1,I1,w1⟩;refine I0 hp (ak (hc JI s1 σ1 H1 _ I1 (turn n σ1 H1 w1)) λb s2 ⟨H2,I2,q2⟩=>?_);cases b with
 | true=>
  obtain⟨N,hN,q2⟩:=q2;rw [Ij rfl];refine I0 hp (ak (hb JI s2 σ1 H2 _ I2 q2) λf s3 q3=>?_);cases f with
  | next=>
   obtain⟨σ3,H3,I3,n3⟩:=q3;obtain⟨m',hm,w3⟩:=hN σ3 H3 n3;exact⟨m',hm,σ3,H3,I3,w3⟩
  | cont=>
   obtain⟨σ3,H3,I3,n3⟩:=q3;obtain⟨m',hm,w3⟩:=hN σ3 H3 n3;exact⟨m',hm,σ3,H3,I3,w3⟩
  | brk=>exact q3
  | ret v=>exact q3
 | false=>
  rw [Ii Ed];exact Ji ⟨σ1,H2,I2,q2⟩
end
structure It where
 go:Nat->Hp->Prop
 yld:Nat->Hp->V->Hp->Prop
 stop:Nat->Hp->Prop
def kc(X:Cx)(JI:List (Ip×Obj))(H:Hp)(b:Ip):Prop:=
 H b=none/\b≠X.env.locals/\b ∉ X.fs/\(b∈X.ex\/X.s₀.heap.objs.size<=b)/\(∀x c,X.env.cells.lookup x=some c->c≠b)/\∀p∈X.pn++JI,p.1≠b
theorem aa.fpOk{X:Cx}{JI:List (Ip×Obj)}{σ:St}{H H':Hp}{s:Iq}{b:Ip}(I:aa X JI σ H s)(hb:s.heap.objs.size<=b)(hn:H' b=none):kc X JI H' b:=by
 refine⟨hn,HS (DU I.lt hb),I.nofs hb,.inr (EY I.sz hb),λx c e z=>?_,λp hp z=>?_⟩
 ·obtain⟨v,q⟩:=I.cell x c e;exact absurd (DU q.lt (by rw [z];exact hb)) (Fw _)
 ·exact absurd (DU (Ds (I.pin p hp).1) (by rw [z];exact hb)) (Fw _)
structure nS (P:IE) (w:IF) (K:Dj) (tg:Iu) (J:It) (fp:List Ip) (it:Ip) (tn:Nat->IC->Prop):Prop where
 mem:it∈fp
 obj:∀i h,tn i h->∀b∈fp,∃o,h.get? b=some o/\∀v,o.data≠ .cell v
 keep:∀i h h',tn i h->(∀b∈fp,∀o,h.get? b=some o->h'.get? b=some o)->tn i h'
 item:∀(X:Cx),X.prog=P->X.w=w->X.K=K->X.calm=true->∀(i:Nat)(JI:List (Ip×Obj))(s:Iq)(σ:St)(H:Hp)(E:Io->Iq->Prop),aa X JI σ H s->(∀b∈fp,kc X JI H b)->tn i s.heap->J.go i H->
  Iz (Iy P w) X.A (pyNext (.ref it)) (λr s1=>∃u,r=some u/\
   Iz (Iy P w) X.A (Jz tg (.ref it) u) (λ_ s2=>∃x H',aa X JI σ H' s2/\au x u/\J.yld i H x H'/\tn (i+1) s2.heap/\∀b∈fp,H' b=none) E s1) E s
 done:∀(X:Cx),X.prog=P->X.w=w->X.K=K->X.calm=true->∀(i:Nat)(JI:List (Ip×Obj))(s:Iq)(σ:St)(H:Hp)(E:Io->Iq->Prop),aa X JI σ H s->(∀b∈fp,kc X JI H b)->tn i s.heap->J.stop i H->
  Iz (Iy P w) X.A (pyNext (.ref it)) (λr s1=>r=none/\aa X JI σ H s1) E s
 self:∀(A:IH)(i:Nat)(s:Iq)(Q:Io->Iq->Prop)(E:Io->Iq->Prop),tn i s.heap->Q (.ref it) s->Iz (Iy P w) A (pyIter (.ref it)) Q E s
abbrev TI:=St->Hp->(It->Hp->Prop)->Prop
def sq(X:Cx)(JI:List (Ip×Obj))(σ:St)(tg:Iu)(R:It->Hp->Prop)(itv:Io)(s2:Iq):Prop:=
 ∃(it:Ip)(fp:List Ip)(tn:Nat->IC->Prop)(J:It)(H':Hp),itv= .ref it/\aa X JI σ H' s2/\nS X.prog X.w X.K tg J fp it tn/\tn 0 s2.heap/\(∀b∈fp,kc X JI H' b)/\R J H'
def PI(X:Cx)(tg iter:Iu)(wi:TI):Prop:=
 ∀(JI:List (Ip×Obj))(s:Iq)(σ:St)(H:Hp)(R:It->Hp->Prop),aa X JI σ H s->wi σ H R->
  Iz (Iy X.prog X.w) X.A (eval iter X.env) (λv s1=>Iz (Iy X.prog X.w) X.A (pyIter v) (sq X JI σ tg R) X.xe s1) X.xe s
theorem pL{M:Jq}{A:IH}{E:Io->Iq->Prop}{s:Iq}{tg:Iu}{it:Ip}{u:Io}{o:Obj}{n:String}{vs:Array Io}{Q:Unit->Iq->Prop}(ho:s.heap.get? it=some o)(hc:o.cls= .type n)(hd:o.data= .fields vs)
 (hn:["enumerate","zip","dict_itemiterator","dict_reverseitemiterator","odict_iterator","itertools.zip_longest","itertools.pairwise"].contains n=false)(hQ:Q () s):Iz M A (Jz tg (.ref it) u) Q E s:=by
 unfold Jz;cases tg <;> first
  | exact IL hQ
  | (cases u <;> first
      | exact IL hQ
      | (refine ID (wpAny_load ho ?_)
         rw [hc,hd];show Iz M A (if (["enumerate","zip","dict_itemiterator","dict_reverseitemiterator","odict_iterator","itertools.zip_longest","itertools.pairwise"].contains n && vs[0]?==some (rawInt _))=true then _ else _) Q E s;rw [Ii (by intro h;rw [hn,Bool.false_and] at h;cases h)];exact IL hQ))
def mK(K:Dj)(a:Ip):It:=
 ⟨λi H=>∃xs x,aG K H a xs/\xs[i]?=some x,λi H x H'=>H'=H/\∀xs,aG K H a xs->xs[i]?=some x,λi H=>∃xs,aG K H a xs/\xs.length<=i⟩
def pM(K:Dj)(a:Ip):It:=
 ⟨λi H=>∃xs x,bD K H a xs/\xs[i]?=some x,λi H x H'=>H'=H/\∀xs,bD K H a xs->xs[i]?=some x,λi H=>∃xs,bD K H a xs/\xs.length<=i⟩
def ke(lo:Int)(n:Nat):It:=⟨λi _=>i < n,λi H x H'=>H'=H/\x= .int (lo+i),λi _=>n<=i⟩
theorem wA{P:IE}{w:IF}{K:Dj}{tg:Iu}(a it:Ip):nS P w K tg (mK K a) [it] it (λi h=>h.IsListIter it a i) where
 mem:=Il
 obj:=λi h st b hb=>by
  have e:b=it:=by simpa using hb
  subst e;obtain⟨o,e,c,d⟩:=st;exact⟨o,e,λv z=>by rw [d] at z;cases z⟩
 keep:=λi h h' st k=>st.at λo e=>k it Il o e
 item:=by
  intro X hP hw hK hc i JI s σ H E I hf st hg;subst hP hw hK;obtain⟨xs,x,hq,hx⟩:=hg;obtain⟨its,rv,p,hz⟩:=I.list hq;obtain⟨u,hu,ru⟩:=rv.get hx;obtain⟨f0,f1,f2,f3,f4,f5⟩:=hf it Il;refine wpAny_pyNext_list_item st p.isList (x:=u) (by simpa using hu) λh' st' sb=>?_;have I1:aa X JI σ H {s with heap:=h'}:=I.turned (t':=s.toks) (λb o hb e=>(sb.2 b hb).trans e) f0 f1 f3 f4 f5;obtain⟨o,e,c,d⟩:=id st';exact⟨u,rfl,pL (s:={s with heap:=h'}) e c d Ce ⟨x,H,I1,ru,⟨rfl,λys hy=>by rw [I.list_inj hy hq];exact hx⟩,st',λb hb=>(hf b hb).1⟩⟩
 done:=by
  intro X hP hw hK hc i JI s σ H E I hf st hg;subst hP hw hK;obtain⟨xs,hq,hx⟩:=hg;obtain⟨its,rv,p,hz⟩:=I.list hq;obtain⟨f0,f1,f2,f3,f4,f5⟩:=hf it Il;have hl:=rv.length;exact wpAny_pyNext_list_end (I.ok.hd hc) st p.isList (by simp;omega) λh' eb=>⟨rfl,I.turned (t':=s.toks) (λb o hb e=>eb b o hb e) f0 f1 f3 f4 f5⟩
 self:=λ_ _ _ _ _ st h=>wpAny_pyIter_listiter st h
theorem wB{P:IE}{w:IF}{K:Dj}{tg:Iu}(it:Ip)(lo:Int)(n:Nat):nS P w K tg (ke lo n) [it] it (λi h=>IsRangeIter h it (lo+(i:Nat)*1) ((n:Int) - (i:Nat)) 1) where
 mem:=Il
 obj:=λi h st b hb=>by
  have e:b=it:=by simpa using hb
  subst e;exact⟨_,st,λv z=>by
   have z':Data.fields _=Data.cell v:=z;cases z'⟩
 keep:=λi h h' st k=>k it Il _ st
 item:=by
  intro X hP hw hK hc i JI s σ H E I hf st hg;subst hP hw hK;obtain⟨f0,f1,f2,f3,f4,f5⟩:=hf it Il;have W:=Walks.range (prog:=X.prog) (w:=X.w) (I.ok.hd hc) it lo 1 n;refine W.item i s _ _ hg st λv h' tk hv st' kk=>?_;obtain⟨t,rfl⟩:=hv;have I1:aa X JI σ H {s with heap:=h',toks:=tk}:=I.turned (λb o hb e=>kk b o (by simpa using hb) e) f0 f1 f3 f4 f5;refine⟨_,rfl,pL (s:={s with heap:=h',toks:=tk}) (n:="range_iterator") st' rfl rfl Ce ⟨.int (lo+i),H,I1,⟨t,?_⟩,⟨rfl,rfl⟩,st',λb hb=>(hf b hb).1⟩⟩;rw [Int.mul_one]
 done:=by
  intro X hP hw hK hc i JI s σ H E I hf st hg;subst hP hw hK;obtain⟨f0,f1,f2,f3,f4,f5⟩:=hf it Il;exact wpAny_pyNext_range_end (I.ok.hd hc) st (by have:n<=i:=hg;omega) λh' eb=>⟨rfl,I.turned (t':=s.toks) (λb o hb e=>eb b o hb e) f0 f1 f3 f4 f5⟩
 self:=λ_ _ _ _ _ st h=>wpAny_pyIter_rangeiter st h
section
variable {X:Cx} {tg:Iu}
def pN(K:Dj)(tl:TE):TI:=λσ H R=>tl σ H λx H1=>∃a,x= .ref a/\(∃xs,aG K H1 a xs)/\R (mK K a) H1
def su(K:Dj)(tl:TE):TI:=λσ H R=>tl σ H λx H1=>∃a,x= .ref a/\(∃xs,bD K H1 a xs)/\R (pM K a) H1
theorem sv{l:Iu}{tl:TE}(hl:PE X l tl):PI X tg l (pN X.K tl):=by
 intro JI s σ H R I h;refine ak (hl JI s σ H _ I h) λv s1 ⟨x,H1,I1,r1,q1⟩=>?_;obtain⟨a,e,⟨xs,hq⟩,q⟩:=q1;subst e;cases r1;obtain⟨its,rv,p,hz⟩:=I1.list hq;refine wpAny_pyIter_list p.isList ?_;refine⟨s1.heap.objs.size,[s1.heap.objs.size],_,_,H1,rfl,I1.kept (t':=s1.toks) λb o e=>Dr _ e,wA a _,⟨_,EW _ rfl,rfl,rfl⟩,λb hb=>?_,q⟩;have e:b=s1.heap.objs.size:=by simpa using hb
 subst e;exact I1.fpOk (Dz _) (I1.hok.fresh (Dz _))
theorem sA{JI:List (Ip×Obj)}{σ:St}{H:Hp}{s:Iq}{R:It->Hp->Prop}{E:Io->Iq->Prop}{lo hi:Int}{t u v:Tok}{tk:Nat}(I:aa X JI σ H s)(h1:-(2 ^ 62)<=lo)(h2:lo < 2 ^ 62)(h3:-(2 ^ 62)<=hi)(h4:hi < 2 ^ 62)
 (q:R (ke lo (hi - lo).toNat) H):Iz (Iy X.prog X.w) X.A (pyIter (.ref s.heap.objs.size)) (sq X JI σ tg R) E {s with heap:=s.heap.push {cls:= .type "range",data:= .fields #[.int lo t,.int hi u,.int 1 v]},toks:=tk}:=by
 refine wpAny_pyIter_range (IsRange.new ..) (small_one h1 h2 h3 h4) ?_;have I1:aa X JI σ H {s with heap:=s.heap.push {cls:= .type "range",data:= .fields #[.int lo t,.int hi u,.int 1 v]},toks:=tk}:=I.kept λb o e=>Dr _ e;refine⟨(s.heap.push {cls:= .type "range",data:= .fields #[.int lo t,.int hi u,.int 1 v]}).objs.size,[(s.heap.push {cls:= .type "range",data:= .fields #[.int lo t,.int hi u,.int 1 v]}).objs.size],_,_,H,rfl,
  I1.kept (t':=tk) λb o e=>Dr _ e,wB _ lo (hi - lo).toNat,?_,λb hb=>?_,q⟩
 ·have e1:lo+((0:Nat):Int)*1=lo:=Il
  have e2:(((hi - lo).toNat:Nat):Int) - ((0:Nat):Int)=Builtin.Range.rangeSize lo hi 1:=by rw [rangeSize_one];split <;> omega
  show IsRangeIter _ _ (lo+((0:Nat):Int)*1) ((((hi - lo).toNat:Nat):Int) - ((0:Nat):Int)) 1;rw [e1,e2];exact EW _ rfl
 ·have e:b=(s.heap.push {cls:= .type "range",data:= .fields #[.int lo t,.int hi u,.int 1 v]}).objs.size:=by simpa using hb
  subst e;exact I1.fpOk (Dz _) (I1.hok.fresh (Dz _))
def pO(ta:TA):TI:=λσ H R=>ta σ H λvs H1=>∃j:Int,vs=[.int j]/\-(2 ^ 62)<=j/\j < 2 ^ 62/\R (ke 0 j.toNat) H1
def pP(ta:TA):TI:=λσ H R=>ta σ H λvs H1=>∃i j:Int,vs=[.int i,.int j]/\(-(2 ^ 62)<=i/\i < 2 ^ 62/\-(2 ^ 62)<=j/\j < 2 ^ 62)/\R (ke i (j - i).toNat) H1
theorem wC{a:Iu}{ta:TA}{p pos:Pos}(hg:Gl X "range")(hm:X.mg "range"=none)(ha:PA X [a] ta)(hs:Iw [a] X.env=[(false,eval a X.env)]:=by rfl):PI X tg (.Call (.Name "range" p) [a] [] pos) (pO ta):=by
 intro JI s σ H R I h;refine Call_ (mI I hg hm boot_range (FO (ak (ha pos JI s σ H _ I h) λus s1 ⟨vs,H1,I1,r1,q1⟩=>?_) hs rfl));obtain⟨j,e,q1,q2,q⟩:=q1;subst e;cases r1 with
 | cons r rr=>
  cases rr;obtain⟨t,rfl⟩:=r;exact call_range_1 (sA I1 Ih Ih q1 q2 (by simpa using q))
theorem sC{a b:Iu}{ta:TA}{p pos:Pos}(hg:Gl X "range")(hm:X.mg "range"=none)(ha:PA X [a,b] ta)(hs:Iw [a,b] X.env=[(false,eval a X.env),(false,eval b X.env)]:=by rfl)(hs2:Iw [b] X.env=[(false,eval b X.env)]:=by rfl):
 PI X tg (.Call (.Name "range" p) [a,b] [] pos) (pP ta):=by
 intro JI s σ H R I h;refine Call_ (mI I hg hm boot_range (FO (ak (ha pos JI s σ H _ I h) λus s1 ⟨vs,H1,I1,r1,q1⟩=>?_) (by rw [hs,hs2]) (by rw [hs2];rfl)));obtain⟨i,j,e,⟨q1,q2,q3,q4⟩,q⟩:=q1;subst e;cases r1 with
 | cons r rr=>
  cases rr with
  | cons r' rr=>
   cases rr;obtain⟨t,rfl⟩:=r;obtain⟨t',rfl⟩:=r';exact call_range_2 (sA I1 q1 q2 q3 q4 q)
def mL(wi:TI)(g:TG)(tb:TS):TS:=λD σ H=>wi σ H λJ H1=>∃W:Nat->Nat->St->Hp->Prop,(∃m,W 0 m σ H1)/\∀i m σ H,W i m σ H->
 (J.stop i H/\D.nx σ H)\/(J.go i H/\∃N:St->Hp->Prop,(∀σ' H',N σ' H'->∃m',m' < m/\W (i+1) m' σ' H')/\∀x H',J.yld i H x H'->g x σ H' λσ2 H2=>tb {D with nx:=N,ct:=N,bk:=D.nx} σ2 H2)
def mM(fp:List Ip)(h:IC):List (Ip×Obj):=fp.filterMap λb=>(h.get? b).map λo=>(b,o)
theorem nT{fp:List Ip}{h:IC}{b:Ip}{o:Obj}(hb:b∈fp)(e:h.get? b=some o):(b,o)∈mM fp h:=Gu.mpr ⟨b,hb,by rw [e];rfl⟩
theorem wD{fp:List Ip}{h:IC}{p:Ip×Obj}(hp:p∈mM fp h):p.1∈fp/\h.get? p.1=some p.2:=by
 obtain⟨b,hb,e⟩:=Gu.mp hp;cases q:h.get? b with
 | none=>rw [q] at e;cases e
 | some o=>
  rw [q] at e;have e':(b,o)=p:=Eu e;subst e';exact⟨hb,q⟩
theorem aa.pinned{JI:List (Ip×Obj)}{σ:St}{H:Hp}{s:Iq}{fp:List Ip}(I:aa X JI σ H s)(hf:∀b∈fp,kc X JI H b)(ho:∀b∈fp,∃o,s.heap.get? b=some o/\∀v,o.data≠ .cell v):aa X (JI++mM fp s.heap) σ H s:=
 I.pins_of λp hp=>(GR.mp hp).elim (λz=>I.pin p (ET _ z)) λz=>by
  obtain⟨hb,e⟩:=wD z;obtain⟨f0,f1,f2,_⟩:=hf p.1 hb;obtain⟨o,e',d⟩:=ho p.1 hb;rw [e] at e';cases e';exact⟨e,f0,f1,f2,d⟩
theorem aa.unpinned{JI pl:List (Ip×Obj)}{σ:St}{H:Hp}{s:Iq}(I:aa X (JI++pl) σ H s):aa X JI σ H s:=I.pins_of λp hp=>I.pin p (ET _ (G6 _ hp))
theorem wF{iter:Iu}{body:List II}{wi:TI}{g:TG}{tb:TS}{pos:Pos}(hp:PassesOwn (Iy X.prog X.w) X.A X.env X.xe)(hc:X.calm=true)(hi:PI X tg iter wi)(hg:PG X tg g)(hb:aR X body tb)
 (hs:∀x,IZ iter X.env x=pure x:=by intro _;rfl):PS X (.For tg iter body [] pos) (mL wi g tb):=by
 intro JI s σ H D I h;refine wpAny_For (ak (hi JI s σ H _ I h) λv s1 h1=>ak h1 λitv s2 h2=>?_) hs;obtain⟨it,fp,tn,J,H2,e,I2,T,st2,f2,W,⟨m0,w0⟩,turn⟩:=h2;subst e;have stat:∀{H':Hp},(∀b∈fp,H' b=none)->∀b∈fp,kc X JI H' b:=λhn b hb=>⟨hn b hb,(f2 b hb).2⟩;refine codeAny_forLoop_any (λn s'=>∃i σ' H',aa X JI σ' H' s'/\tn i s'.heap/\(∀b∈fp,H' b=none)/\W i n σ' H') ?_ m0 ⟨0,σ,H2,I2,st2,λb hb=>(f2 b hb).1,w0⟩;rintro n s3 ⟨i,σ3,H3,I3,st3,fr3,w3⟩;rcases turn i n σ3 H3 w3 with⟨stop,qn⟩ | ⟨go,N,hN,step⟩
 ·refine I0 hp (ak (T.done X rfl rfl rfl hc i JI s3 σ3 H3 X.xe I3 (stat fr3) st3 stop) λr s4 ⟨hr,I4⟩=>?_);subst hr;exact Ji ⟨σ3,H3,I4,qn⟩
 ·refine I0 hp (ak (T.item X rfl rfl rfl hc i JI s3 σ3 H3 X.xe I3 (stat fr3) st3 go) λr s4 ⟨u,hr,h4⟩=>?_);subst hr;refine I0 hp (ak h4 λ_ s5 ⟨x,H5,I5,r5,y5,st5,fr5⟩=>?_);have I5':=I5.pinned (stat fr5) (T.obj _ _ st5);refine I0 hp (ak (hg _ s5 σ3 H5 x u _ I5' r5 (step x H5 y5)) λ_ s6 ⟨σ6,H6,I6,q6⟩=>?_);refine I0 hp (ak (hb _ s6 σ6 H6 _ I6 q6) λf s7 q7=>?_);have again:∀{σ7:St}{H7:Hp},aa X (JI++mM fp s5.heap) σ7 H7 s7->N σ7 H7->∃m,m < n/\∃i σ' H',aa X JI σ' H' s7/\tn i s7.heap/\(∀b∈fp,H' b=none)/\W i m σ' H':=λ{σ7 H7} I7 n7=>by
   obtain⟨m',hm,w7⟩:=hN σ7 H7 n7;refine⟨m',hm,i+1,σ7,H7,I7.unpinned,T.keep _ _ _ st5 λb hb o e=>(I7.pin (b,o) (ET _ (ET _ (nT hb e)))).1,λb hb=>?_,w7⟩;obtain⟨o,e,d⟩:=T.obj _ _ st5 b hb;exact(I7.pin (b,o) (ET _ (ET _ (nT hb e)))).2.1
  cases f with
  | next=>obtain⟨σ7,H7,I7,n7⟩:=q7;exact again I7 n7
  | cont=>obtain⟨σ7,H7,I7,n7⟩:=q7;exact again I7 n7
  | brk=>obtain⟨σ7,H7,I7,q7⟩:=q7;exact⟨σ7,H7,I7.unpinned,q7⟩
  | ret v=>obtain⟨x7,σ7,H7,I7,r7,q7⟩:=q7;exact⟨x7,σ7,H7,I7.unpinned,r7,q7⟩
end
abbrev R2:=V->V->Hp->VK->Prop
def aI(X:Cx)(f:Io->Io->Sem Io)(r:R2):Prop:=
 ∀(JI:List (Ip×Obj))(s:Iq)(σ:St)(H:Hp)(x y:V)(v u:Io)(Q:VK),aa X JI σ H s->au x v->au y u->r x y H Q->
  Iz (Iy X.prog X.w) X.A (f v u) (EP X JI σ Q) X.xe s
def cB(X:Cx)(f:Io)(r:List V->Hp->VK->Prop):Prop:=
 ∀(JI:List (Ip×Obj))(s:Iq)(σ:St)(H:Hp)(xs:List V)(us:List Io)(Q:VK),aa X JI σ H s->az xs us->r xs H Q->
  Iz (Iy X.prog X.w) X.A (call f us) (EP X JI σ Q) X.xe s
def lq(r:R2)(ta tb:TE):TE:=λσ H Q=>ta σ H λx H1=>tb σ H1 λy H2=>r x y H2 Q
def rI(C:Int->Int->Prop)(g:Int->Int->V):R2:=λx y H Q=>∃i j,x= .int i/\y= .int j/\C i j/\Q (g i j) H
def jV(g:Int->Int->V):R2:=λx y H Q=>∃i j,x= .int i/\y= .int j/\Q (g i j) H
section
variable {X:Cx} {a b c:Iu} {ta tb tc:TE} {pos:Pos}
theorem pQ(ha:PE X a ta)(hb:PE X b tb){JI:List (Ip×Obj)}{s:Iq}{σ:St}{H:Hp}{R:V->V->Hp->Prop}(I:aa X JI σ H s)
 (h:ta σ H λx H1=>tb σ H1 λy H2=>R x y H2){Q:Io->Iq->Prop}{f:Io->Io->Sem Io}
 (hf:∀v u s2 x y H2,aa X JI σ H2 s2->au x v->au y u->R x y H2->Iz (Iy X.prog X.w) X.A (f v u) Q X.xe s2):
 Iz (Iy X.prog X.w) X.A (eval a X.env) (λv s₁=>Iz (Iy X.prog X.w) X.A (eval b X.env) (λu s₂=>Iz (Iy X.prog X.w) X.A (f v u) Q X.xe s₂) X.xe s₁) X.xe s:=by
 refine ak (ha JI s σ H _ I h) λv s1 ⟨x,H1,I1,r1,q1⟩=>?_;refine ak (hb JI s1 σ H1 _ I1 q1) λu s2 ⟨y,H2,I2,r2,q2⟩=>?_;exact hf v u s2 x y H2 I2 r1 r2 q2
theorem aS{op:Operator}{r:R2}(ho:aI X (Ja op) r)(ha:PE X a ta)(hb:PE X b tb):PE X (.BinOp a op b pos) (lq r ta tb):=by
 intro JI s σ H Q I h;exact wpAny_BinOp (pQ ha hb I h λv u s2 x y H2 I2 rx ry q=>ho JI s2 σ H2 x y v u Q I2 rx ry q)
theorem mN{f:Io->Io->Sem Io}{C:Int->Int->Prop}{g:Int->Int->Int}
 (rule:∀(i j:Int) (t u:Tok) (s:Iq) (Q:Io->Iq->Prop) (E:Io->Iq->Prop),C i j->Q (.int (g i j) s.toks) {s with toks:=s.toks+1}->Iz (Iy X.prog X.w) X.A (f (.int i t) (.int j u)) Q E s):
 aI X f (rI C λi j=>.int (g i j)):=by
 intro JI s σ H x y v u Q I rx ry h;obtain⟨i,j,rfl,rfl,hc,q⟩:=h;obtain⟨t,rfl⟩:=rx;obtain⟨t',rfl⟩:=ry;exact rule i j t t' s _ _ hc ⟨.int (g i j),H,I.tok _,⟨_,rfl⟩,q⟩
theorem sE{f:Io->Io->Sem Io}{g:Int->Int->Int}
 (rule:∀(i j:Int) (t u:Tok) (s:Iq) (Q:Io->Iq->Prop) (E:Io->Iq->Prop),Q (.int (g i j) s.toks) {s with toks:=s.toks+1}->Iz (Iy X.prog X.w) X.A (f (.int i t) (.int j u)) Q E s):
 aI X f (jV λi j=>.int (g i j)):=by
 intro JI s σ H x y v u Q I rx ry h;obtain⟨i,j,rfl,rfl,q⟩:=h;obtain⟨t,rfl⟩:=rx;obtain⟨t',rfl⟩:=ry;exact rule i j t t' s _ _ ⟨.int (g i j),H,I.tok _,⟨_,rfl⟩,q⟩
theorem nU{f:Io->Io->Sem Io}{g:Int->Int->Bool}
 (rule:∀(i j:Int) (t u:Tok) (s:Iq) (Q:Io->Iq->Prop) (E:Io->Iq->Prop),Q (.bool (g i j)) s->Iz (Iy X.prog X.w) X.A (f (.int i t) (.int j u)) Q E s):
 aI X f (jV λi j=>.bl (g i j)):=by
 intro JI s σ H x y v u Q I rx ry h;obtain⟨i,j,rfl,rfl,q⟩:=h;obtain⟨t,rfl⟩:=rx;obtain⟨t',rfl⟩:=ry;exact rule i j t t' s _ _ ⟨.bl (g i j),H,I,rfl,q⟩
def bH(i j:Int):Prop:=0 < j/\j < 1073741824
def bT(i j:Int):Prop:=0<=j/\j<=1000000/\i.natAbs < 2 ^ 64
def bI(i j:Int):Prop:=(-(2 ^ 64) < i/\i < 2 ^ 64)\/(-(2 ^ 64) < j/\j < 2 ^ 64)
theorem bI.ok{i j:Int}(h:bI i j):IntMulOk i j:=by
 rcases h with⟨h1,h2⟩ | ⟨h1,h2⟩
 ·exact .of_left (intBits_le_64 h1 h2)
 ·exact .of_right (intBits_le_64 h1 h2)
theorem bo:aI X (Ja .Add) (jV λi j=>.int (i+j)):=sE λ_ _ _ _ _ _ _ q=>add_int q
theorem jE:aI X (Ja .Sub) (jV λi j=>.int (i - j)):=sE λ_ _ _ _ _ _ _ q=>sub_int q
theorem mf:aI X (Ja .Mult) (rI bI λi j=>.int (i*j)):=mN λ_ _ _ _ _ _ _ hc q=>mul_int q hc.ok
theorem kT:aI X (Ja .FloorDiv) (rI bH λi j=>.int (i / j)):=mN λi j _ _ _ _ _ hc q=>by
 have h1:(0:Int) < j:=hc.1;have h2:j < 1073741824:=hc.2;exact floordiv_int Ih (by rw [Gz i Ih];exact q) (.inl (GV Ih))
theorem lu:aI X (Ja .Mod) (rI (λ_ j=>0 < j) λi j=>.int (i % j)):=mN λi j _ _ _ _ _ hc q=>by
 have h1:(0:Int) < j:=hc;exact mod_int' Ih (by rw [GA i Ih];exact q)
theorem wG:aI X (Ja .Pow) (rI bT λi j=>.int (i ^ j.toNat)):=mN λ_ _ _ _ _ _ _ hc q=>pow_int_small hc.1 hc.2.1 hc.2.2 q
end
def kU:V->V->Bool
 | .non,.non=>true | .non,.int _=>true | .int _,.non=>true | .non,.bl _=>true | .bl _,.non=>true | .non,.str _=>true | .str _,.non=>true
 | .int _,.int _=>true | .bl _,.bl _=>true | .str _,.str _=>true | .byt _,.byt _=>true
 | .int _,.str _=>true | .str _,.int _=>true | .bl _,.str _=>true | .str _,.bl _=>true
 | _,_=>false
def pR:R2:=λx y H Q=>kU x y=true/\Q (.bl (decide (x=y))) H
def pS:R2:=λx y H Q=>kU x y=true/\Q (.bl (!decide (x=y))) H
theorem sF{i j:Int}:decide (V.int i=V.int j)=(i==j):=by
 rw [Fv];simp
theorem sG{i j:Bool}:decide (V.bl i=V.bl j)=(i==j):=by
 rw [Fv];simp
theorem sH{i j:Str}:decide (V.str i=V.str j)=(i==j):=by
 rw [Fv];simp
theorem sI{i j:Array UInt8}:decide (V.byt i=V.byt j)=(i.toList==j.toList):=by
 rw [Fv];cases i;cases j;simp
section
variable {X:Cx} {a b c:Iu} {ta tb tc:TE} {pos:Pos}
theorem aT{JI:List (Ip×Obj)}{σ:St}{H:Hp}{s:Iq}{Q:VK}{k k':Bool}(I:aa X JI σ H s)(q:Q (.bl k) H)(e:k=k'):EP X JI σ Q (.bool k') s:=by
 subst e;exact⟨.bl k,H,I,rfl,q⟩
theorem pT:aI X (IJ .Eq) pR:=by
 intro JI s σ H x y v u Q I rx ry h;obtain⟨hs,q⟩:=h;cases x with
 | non=>
  cases rx;cases y with
  | non=>cases ry;exact PySem.EqNone.eq_none_none (aT I q Il)
  | bl j=>cases ry;exact PySem.EqNone.eq_none_bool (aT I q Il)
  | int j=>obtain⟨t',rfl⟩:=ry;exact PySem.EqNone.eq_none_int (aT I q Il)
  | str j=>obtain⟨t',rfl⟩:=ry;exact PySem.EqNone.eq_none_str (aT I q Il)
  | _=>exact absurd (show false=true from hs) Ed
 | bl i=>
  cases rx;cases y with
  | non=>cases ry;exact PySem.EqNone.eq_bool_none (aT I q Il)
  | bl j=>cases ry;exact eq_bool (aT I q sG)
  | str j=>obtain⟨t',rfl⟩:=ry;exact PySem.EqMixed.eq_bool_str (aT I q Il)
  | _=>exact absurd (show false=true from hs) Ed
 | int i=>
  obtain⟨t,rfl⟩:=rx;cases y with
  | non=>cases ry;exact PySem.EqNone.eq_int_none (aT I q Il)
  | int j=>obtain⟨t',rfl⟩:=ry;exact eq_int (aT I q sF)
  | str j=>obtain⟨t',rfl⟩:=ry;exact PySem.EqMixed.eq_int_str (aT I q Il)
  | _=>exact absurd (show false=true from hs) Ed
 | str i=>
  obtain⟨t,rfl⟩:=rx;cases y with
  | non=>cases ry;exact PySem.EqNone.eq_str_none (aT I q Il)
  | bl j=>cases ry;exact PySem.EqMixed.eq_str_bool (aT I q Il)
  | int j=>obtain⟨t',rfl⟩:=ry;exact PySem.EqMixed.eq_str_int (aT I q Il)
  | str j=>obtain⟨t',rfl⟩:=ry;exact eq_str (aT I q sH)
  | _=>exact absurd (show false=true from hs) Ed
 | byt i=>
  obtain⟨t,rfl⟩:=rx;cases y with
  | byt j=>obtain⟨t',rfl⟩:=ry;exact PySem.W.eq_bytes (aT I q sI)
  | _=>exact absurd (show false=true from hs) Ed
 | _=>cases y <;> exact absurd (show false=true from hs) Ed
theorem wH:aI X (IJ .NotEq) pS:=by
 intro JI s σ H x y v u Q I rx ry h;obtain⟨hs,q⟩:=h;cases x with
 | non=>
  cases rx;cases y with
  | non=>cases ry;exact PySem.EqNone.ne_none_none (aT I q Il)
  | bl j=>cases ry;exact PySem.EqNone.ne_none_bool (aT I q Il)
  | int j=>obtain⟨t',rfl⟩:=ry;exact PySem.EqNone.ne_none_int (aT I q Il)
  | str j=>obtain⟨t',rfl⟩:=ry;exact PySem.EqNone.ne_none_str (aT I q Il)
  | _=>exact absurd (show false=true from hs) Ed
 | bl i=>
  cases rx;cases y with
  | non=>cases ry;exact PySem.EqNone.ne_bool_none (aT I q Il)
  | bl j=>cases ry;exact ne_bool (aT I q (congrArg not sG))
  | str j=>obtain⟨t',rfl⟩:=ry;exact PySem.EqMixed.ne_bool_str (aT I q Il)
  | _=>exact absurd (show false=true from hs) Ed
 | int i=>
  obtain⟨t,rfl⟩:=rx;cases y with
  | non=>cases ry;exact PySem.EqNone.ne_int_none (aT I q Il)
  | int j=>obtain⟨t',rfl⟩:=ry;exact ne_int (aT I q (congrArg not sF))
  | str j=>obtain⟨t',rfl⟩:=ry;exact PySem.EqMixed.ne_int_str (aT I q Il)
  | _=>exact absurd (show false=true from hs) Ed
 | str i=>
  obtain⟨t,rfl⟩:=rx;cases y with
  | non=>cases ry;exact PySem.EqNone.ne_str_none (aT I q Il)
  | bl j=>cases ry;exact PySem.EqMixed.ne_str_bool (aT I q Il)
  | int j=>obtain⟨t',rfl⟩:=ry;exact PySem.EqMixed.ne_str_int (aT I q Il)
  | str j=>obtain⟨t',rfl⟩:=ry;exact ne_str (aT I q (congrArg not sH))
  | _=>exact absurd (show false=true from hs) Ed
 | byt i=>
  obtain⟨t,rfl⟩:=rx;cases y with
  | byt j=>obtain⟨t',rfl⟩:=ry;exact PySem.W.ne_bytes (aT I q (congrArg not sI))
  | _=>exact absurd (show false=true from hs) Ed
 | _=>cases y <;> exact absurd (show false=true from hs) Ed
theorem sJ:aI X (IJ .Lt) (jV λi j=>.bl (decide (i < j))):=nU λ_ _ _ _ _ _ _ q=>lt_int q
theorem jQ:aI X (IJ .LtE) (jV λi j=>.bl (decide (i<=j))):=nU λ_ _ _ _ _ _ _ q=>le_int q
theorem pU:aI X (IJ .Gt) (jV λi j=>.bl (decide (j < i))):=nU λ_ _ _ _ _ _ _ q=>gt_int q
theorem wI:aI X (IJ .GtE) (jV λi j=>.bl (decide (j<=i))):=nU λ_ _ _ _ _ _ _ q=>ge_int q
theorem wJ:aI X (IJ .In) (λx y H Q=>∃i j,x= .str i/\y= .str j/\Q (.bl (!(Fb j i 0 j.length 1).isEmpty)) H):=by
 intro JI s σ H x y v u Q I rx ry h;obtain⟨i,j,rfl,rfl,q⟩:=h;obtain⟨t,rfl⟩:=rx;obtain⟨t',rfl⟩:=ry;exact in_str (aT I q rfl)
theorem sL:aI X (IJ .Is) (λx y H Q=>y= .non/\Q (.bl (decide (x= .non))) H):=by
 intro JI s σ H x y v u Q I rx ry h;obtain⟨rfl,q⟩:=h;cases ry;refine is_none_gen (aT I q ?_);cases x <;> first
  | (cases rx;rfl)
  | (obtain⟨t,rfl⟩:=rx;rfl)
theorem aZ(b:Iu){op:CmpOp}(h:op≠ .In:=by decide)(h2:op≠ .NotIn:=by decide):IY op b=false:=by
 have e1:(op==CmpOp.In)=false:=by cases op <;> first | rfl | exact absurd rfl h
 have e2:(op==HZ)=false:=by cases op <;> first | rfl | exact absurd rfl h2
 cases b <;> simp [IY,e1,e2]
theorem nV{op:CmpOp}{r:R2}(ho:aI X (IJ op) r)(ha:PE X a ta)(hb:PE X b tb)(hm:IY op b=false):PE X (.Compare a [op] [b] pos) (lq r ta tb):=by
 intro JI s σ H Q I h;exact wpAny_Compare1 (pQ ha hb I h λv u s2 x y H2 I2 rx ry q=>ho JI s2 σ H2 x y v u Q I2 rx ry q) hm
def nW(t:TE):TT:=λσ H Q=>t σ H λx H'=>∃k,x= .bl k/\Q k H'
theorem lx{op:CmpOp}{r:R2}(ho:aI X (IJ op) r)(ha:PE X a ta)(hb:PE X b tb)(hm:IY op b=false):PT X (.Compare a [op] [b] pos) (nW (lq r ta tb)):=by
 intro JI s σ H Q I h;refine wpAny_isTrue_Compare1 (ak (ha JI s σ H _ I h) λv s1 ⟨x,H1,I1,r1,q1⟩=>ak (hb JI s1 σ H1 _ I1 q1) λu s2 ⟨y,H2,I2,r2,q2⟩=>
  ak (ho JI s2 σ H2 x y v u _ I2 r1 r2 q2) λc s3 ⟨z,H3,I3,r3,k,e,q3⟩=>?_) hm
 subst e;cases r3;exact IP ⟨H3,I3,q3⟩
def nX(r r':R2)(ta tb tc:TE):TE:=λσ H Q=>ta σ H λx H1=>tb σ H1 λy H2=>r x y H2 λz H3=>∃k,z= .bl k/\
 (if k=true then tc σ H3 λw' H4=>r' y w' H4 Q else Q (.bl false) H3)
theorem wK{op op':CmpOp}{r r':R2}(ho:aI X (IJ op) r)(ho':aI X (IJ op') r')(ha:PE X a ta)(hb:PE X b tb)(hc:PE X c tc)
 (hm:lastMarks [op,op'] [b,c]=false:=by with_unfolding_all rfl):PE X (.Compare a [op,op'] [b,c] pos) (nX r r' ta tb tc):=by
 intro JI s σ H Q I h;refine Compare_chain (ak (ha JI s σ H _ I h) λv s1 ⟨x,H1,I1,r1,q1⟩=>chain_link (ak (hb JI s1 σ H1 _ I1 q1) λu s2 ⟨y,H2,I2,r2,q2⟩=>
  ak (ho JI s2 σ H2 x y v u _ I2 r1 r2 q2) λd s3 ⟨z,H3,I3,r3,k,e,q3⟩=>?_)) hm
 subst e;cases r3;refine IP ?_;cases k with
 | false=>exact ite_ff ⟨.bl false,H3,I3,rfl,q3⟩
 | true=>exact ite_tt (chain_last (ak (hc JI s3 σ H3 _ I3 q3) λw' s4 uu36=>by obtain⟨z',H4,I4,r4,q4⟩:=uu36;exact ho' JI s4 σ H4 y z' u w' Q I4 r2 r4 q4))
theorem wL{op op':CmpOp}{r r':R2}(ho:aI X (IJ op) r)(ho':aI X (IJ op') r')(ha:PE X a ta)(hb:PE X b tb)(hc:PE X c tc)
 (hm:lastMarks [op,op'] [b,c]=false:=by with_unfolding_all rfl):PT X (.Compare a [op,op'] [b,c] pos) (nW (nX r r' ta tb tc)):=by
 intro JI s σ H Q I h;refine isTrue_chain (ak (ha JI s σ H _ I h) λv s1 ⟨x,H1,I1,r1,q1⟩=>test_link (ak (hb JI s1 σ H1 _ I1 q1) λu s2 ⟨y,H2,I2,r2,q2⟩=>
  ak (ho JI s2 σ H2 x y v u _ I2 r1 r2 q2) λd s3 ⟨z,H3,I3,r3,k,e,q3⟩=>?_)) hm
 subst e;cases r3;refine IP ?_;cases k with
 | false=>
  obtain⟨k',e',q'⟩:=q3;cases e';exact ite_ff ⟨H3,I3,q'⟩
 | true=>
  refine ite_tt (test_last (ak (hc JI s3 σ H3 _ I3 q3) λw' s4 ⟨z',H4,I4,r4,q4⟩=>ak (ho' JI s4 σ H4 y z' u w' _ I4 r2 r4 q4) λd' s5 ⟨z2,H5,I5,r5,k2,e2,q5⟩=>?_));subst e2;cases r5;exact IP ⟨H5,I5,q5⟩
theorem lz:(Ir:Nat) < 2 ^ 63:=by rw [IG];decide
theorem lA:aI X (Ja .Add) (λx y H Q=>∃i j,x= .str i/\y= .str j/\i.length+j.length<=Ir/\Q (.str (i++j)) H):=by
 intro JI s σ H x y v u Q I rx ry h;obtain⟨i,j,rfl,rfl,hz,q⟩:=h;obtain⟨t,rfl⟩:=rx;obtain⟨t',rfl⟩:=ry;exact add_str (λt' tk=>⟨.str (i++j),H,I.tok _,⟨_,rfl⟩,q⟩) hz
theorem jK{x:V}{us:List Io}(r:az [x] us):∃u,us=[u]/\au x u:=by
 cases r with
 | cons r1 r2=>cases r2;exact⟨_,rfl,r1⟩
theorem lB{x y:V}{us:List Io}(r:az [x,y] us):∃u w',us=[u,w']/\au x u/\au y w':=by
 cases r with
 | cons r1 r2=>
  cases r2 with
  | cons r3 r4=>cases r4;exact⟨_,_,rfl,r1,r3⟩
theorem sM(hc:X.calm=true):cB X (.builtin "max") (λxs H Q=>∃i j,xs=[.int i,.int j]/\Q (.int (if j > i then j else i)) H):=by
 intro JI s σ H xs us Q I r h;obtain⟨i,j,rfl,q⟩:=h;obtain⟨u,w',rfl,⟨t,rfl⟩,⟨t',rfl⟩⟩:=lB r;refine max_two_ints (I.ok.hd hc) λh' tk k=>⟨_,H,I.kept k,?_,q⟩;by_cases hj:j > i
 ·rw [Ij hj,Ij hj];exact⟨_,rfl⟩
 ·rw [Ii hj,Ii hj];exact⟨_,rfl⟩
theorem pV(hc:X.calm=true):cB X (.builtin "min") (λxs H Q=>∃i j,xs=[.int i,.int j]/\Q (.int (if j < i then j else i)) H):=by
 intro JI s σ H xs us Q I r h;obtain⟨i,j,rfl,q⟩:=h;obtain⟨u,w',rfl,⟨t,rfl⟩,⟨t',rfl⟩⟩:=lB r;refine min_two_ints (I.ok.hd hc) λh' tk k=>⟨_,H,I.kept k,?_,q⟩;by_cases hj:j < i
 ·rw [Ij hj,Ij hj];exact⟨_,rfl⟩
 ·rw [Ii hj,Ii hj];exact⟨_,rfl⟩
theorem nY:cB X (.type "int") (λxs H Q=>(∃i,xs=[.int i]/\Q (.int i) H)\/∃k,xs=[.bl k]/\Q (.int (if k then 1 else 0)) H):=by
 intro JI s σ H xs us Q I r h;rcases h with⟨i,rfl,q⟩ | ⟨k,rfl,q⟩
 ·obtain⟨u,rfl,t,rfl⟩:=jK r;exact call_int_int ⟨.int i,H,I,⟨_,rfl⟩,q⟩
 ·obtain⟨u,rfl,r1⟩:=jK r;cases r1;exact call_int_bool ⟨.int (if k then 1 else 0),H,I.tok _,⟨_,rfl⟩,q⟩
theorem kB:cB X (.type "str") (λxs H Q=>∃i,xs=[.int i]/\i.natAbs.log2 < 1920/\Q (.str (toString i)) H):=by
 intro JI s σ H xs us Q I r h;obtain⟨i,rfl,hz,q⟩:=h;obtain⟨u,rfl,t,rfl⟩:=jK r;exact PySem.P.str_of_int hz ⟨.str _,H,I.tok _,⟨_,rfl⟩,q⟩
def wM(K:Dj)(x:V)(H:Hp)(n:Nat):Prop:=
 match x with
 | .str y=>y.length<=Ir/\n=y.length
 | .byt y=>y.size<=Ir/\n=y.size
 | .ref p=>(∃xs,aG K H p xs/\n=xs.length)\/∃xs,bD K H p xs/\n=xs.length
 | _=>False
theorem wN:cB X (.builtin "len") (λxs H Q=>∃x n,xs=[x]/\wM X.K x H n/\Q (.int n) H):=by
 intro JI s σ H xs us Q I r h;obtain⟨x,n,rfl,e,q⟩:=h;obtain⟨u,rfl,rx⟩:=jK r;have hl:=lz;have hs:Ir=16777216:=IG;cases x with
 | str y=>
  obtain⟨t,rfl⟩:=rx;obtain⟨hy,e'⟩:y.length<=Ir/\n=y.length:=e;subst e';exact len_str Ih ⟨.int _,H,I.tok _,⟨_,rfl⟩,q⟩
 | byt y=>
  obtain⟨t,rfl⟩:=rx;obtain⟨hy,e'⟩:y.size<=Ir/\n=y.size:=e;subst e';exact PySem.W.len_bytes Ih ⟨.int _,H,I.tok _,⟨_,rfl⟩,q⟩
 | ref p=>
  cases rx;have e':(∃xs,aG X.K H p xs/\n=xs.length)\/∃xs,bD X.K H p xs/\n=xs.length:=e;rcases e' with⟨xs,hx,e'⟩ | ⟨xs,hx,e'⟩
  ·subst e';obtain⟨its,r',pl,hz⟩:=I.list hx;have hlen:=r'.length;exact Hc pl.isList (by simp only [D4];omega) ⟨.int xs.length,H,I.tok _,⟨_,by simp only [D4];rw [hlen]⟩,q⟩
  ·subst e';obtain⟨its,r',pl,hz⟩:=I.tuple hx;have hlen:=r'.length;exact len_tuple pl (by simp only [D4];omega) ⟨.int xs.length,H,I.tok _,⟨_,by simp only [D4];rw [hlen]⟩,q⟩
 | _=>exact(show False from e).elim
theorem wO:cB X (.builtin "divmod") (λxs H Q=>∃i j,xs=[.int i,.int j]/\bH i j/\∀p,H p=none->Q (.ref p) (ah H p (.tup [.int (i / j),.int (i % j)]))):=by
 intro JI s σ H xs us Q I r h;obtain⟨i,j,rfl,⟨h1,h2⟩,q⟩:=h;obtain⟨u,w',rfl,⟨t,rfl⟩,⟨t',rfl⟩⟩:=lB r;refine divmod_int Ih ?_ (.inl (GV Ih));rw [Gz i Ih,GA i Ih];have hn:H s.heap.objs.size=none:=I.hok.fresh (Dz _);refine⟨.ref s.heap.objs.size,_,?_,rfl,q _ hn⟩;refine I.laid (λb o e=>Dr _ e) (Dz _) ⟨by simp only [Dp,DJ];rw [IG];decide,[.int (i / j) s.toks,.int (i % j) (s.toks+1)],.cons ⟨_,rfl⟩ (.cons ⟨_,rfl⟩ .nil),?_⟩;exact⟨_,EW s.heap rfl,rfl,0,rfl⟩
end
structure pW (h:IC) (x dx C:Ip) (mA:Str->Option Io):Prop where
 obj:h.get? x=some (GQ C dx)
 ns:h.Ns1 dx mA
 ne:dx≠x
theorem sN{h:IC}{dx:Ip}{mA:Str->Option Io}(n:h.Ns1 dx mA):∃od,h.get? dx=some od/\∀name,GZ name od=some (mA name):=by
 obtain⟨o,es,ep,ho,hd,hk,_,hm⟩:=n;refine⟨o,ho,λname=>?_⟩;have e:=hm name;unfold nsFind findBy at e;rw [<-Array.find?_toList] at e;unfold GZ;rw [hd];dsimp only;split
 ·rename_i y q;rw [q] at e;exact congrArg some e
 ·rename_i q;rw [q] at e;have a:es.toList.any (·.refKey)=false:=by
   rw [List.any_eq_false];intro y hy;obtain⟨z,t,hkey⟩:=hk y (Array.mem_toList_iff.mp hy);simp [DictEntry.refKey,hkey]
  have a':¬es.toList.any (·.refKey)=true:=by rw [a];exact Ed
  rw [Ii a'];exact congrArg some e
theorem pW.look{h:IC}{x dx C:Ip}{mA:Str->Option Io}(I:pW h x dx C mA):∃od,FK h x (GQ C dx) C (some od)/\∀name,GZ name od=some (mA name):=
 let ⟨od,ho,hl⟩:=sN I.ns
 ⟨od,⟨I.obj,rfl,rfl,ho⟩,hl⟩
theorem lZ.some_of{v:V}{o:Option Io}(r:lZ (some v) o):∃u,o=some u/\au v u:=by
 cases o with
 | none=>exact(show False from r).elim
 | some u=>exact⟨u,rfl,r⟩
section
variable {P:IE} {w:IF} {H H':Hp} {h h':IC} {a C dx:Ip} {fs fs':List (Str×V)}
theorem wQ(hok:aH P w H h)(e:H a=some (.ins C dx fs)):∃mA,pW h a dx C mA/\(∀f,lZ (fs.lookup f) (mA f))/\HR mA (fs.map (·.1))/\fs.length<=1000/\H dx=some (.own a):=by
 obtain⟨d,z,ne,ob,mA,n,r,q⟩:=(show aE P w H h a (.ins C dx fs) from hok a _ e);exact⟨mA,⟨ob,n,ne⟩,r,q,z,d⟩
end
structure pX (K:Dj) (C:Ip):Prop where
 pg:Hy K C Gb=true
 hd:GC K C=true
 po:PySem.W.plainOver K C=true
 sa:ES K (.ref C) "__setattr__"=some (some (.builtin "object.__setattr__"))
theorem pX.get{K:Dj}{C:Ip}(c:pX K C)(f:Str):Hy K C f=true:=c.pg
section
variable {X:Cx} {JI:List (Ip×Obj)} {σ:St} {H:Hp} {s:Iq} {a C dx:Ip} {fs:List (Str×V)} {f:Str} {v:V} {A:IH} {E:Io->Iq->Prop}
theorem wR{prog:IE}{w:IF}{env:Env}{e:Iu}{f:Str}{pos:Pos}{s:Iq}{Q:Io->Iq->Prop}(hb:Jh e f env (eval e env)=eval e env)
 (h:Iz (Iy prog w) A (eval e env) (λo s₁=>Iz (Iy prog w) A (getAttr o f true) Q E s₁) E s):Iz (Iy prog w) A (eval (.Attribute e f pos) env) Q E s:=
 Attribute_any_ h (by rw [arm_eval_Attribute,hb])
end
section
variable {X:Cx} {JI:List (Ip×Obj)} {σ:St} {H:Hp} {s:Iq} {A:IH} {E:Io->Iq->Prop} {Q:Io->Iq->Prop} {c:Io} {b:Bool}
inductive jR (K:Dj) (H:Hp):V->Io->Prop where
 | non:jR K H .non (.type "NoneType")
 | bl (x:Bool):jR K H (.bl x) (.type "bool")
 | int (i:Int):jR K H (.int i) (.type "int")
 | str (x:Str):jR K H (.str x) (.type "str")
 | flt (x:UInt64):jR K H (.flt x) (.type "float")
 | lst {a:Ip} {xs:List V} (e:H a=some (.lst xs)):jR K H (.ref a) (.type "list")
 | frz {a:Ip} {o:Obj} {xs:List V} (e:H a=some (.frz o (.lst xs))):jR K H (.ref a) (.type "list")
 | tup {a:Ip} {xs:List V} (e:H a=some (.tup xs)):jR K H (.ref a) (.type "tuple")
 | dK {a:Ip} {kvs:List (ao×V)} (e:H a=some (.dK kvs)):jR K H (.ref a) (.type "dict")
 | dT {a:Ip} {kvs:List (List ao×V)} (e:H a=some (.dT kvs)):jR K H (.ref a) (.type "dict")
 | ins {a C dx:Ip} {fs:List (Str×V)} (e:H a=some (.ins C dx fs)) (cl:pX K C) (ha:ES K (.ref C) "__class__"=some (some (.builtin "object.__class__")))
  (hn:FJ K (.builtin "object.__class__") "__get__"=some (some (.builtin "getset_descriptor.__get__"))) (htk:GS K (.builtin "object.__class__")=some true)
  (hm:Fj K C (.type "object")=some true):jR K H (.ref a) (.ref C)
theorem wU{x:V}{u t:Io}(I:aa X JI σ H s)(rx:au x u)(ty:jR X.K H x t)(e:FA X.K t c=some b)(h:∀tk,Q (.bool b) {s with toks:=tk}):
 Iz (Iy X.prog X.w) A (call (.builtin "isinstance") [u,c]) Q E s:=by
 cases ty with
 | non=>cases (show u=Ge from rx);exact EZ PySem.W.kitx_none I.kIn EU e (λz=>nomatch z) h
 | bl y=>cases (show u=Fy y from rx);exact EZ PySem.W.kitx_bool I.kIn EU e (λz=>nomatch z) h
 | int i=>obtain⟨t,q⟩:=(show ∃t,u=F9 i t from rx);cases q;exact EZ PySem.W.kitx_int I.kIn EU e (λz=>nomatch z) h
 | str y=>obtain⟨t,q⟩:=(show ∃t,u=Ga y t from rx);cases q;exact EZ PySem.W.kitx_str I.kIn EU e (λz=>nomatch z) h
 | flt y=>obtain⟨t,q⟩:=(show ∃t,u=HY y t from rx);cases q;exact EZ PySem.W.kitx_float I.kIn EU e (λz=>nomatch z) h
 | @lst a xs ea=>
  cases (show u=DC a from rx);obtain⟨_,_,n,_,h1⟩:=(show aE X.prog X.w H s.heap a (.lst xs) from I.hok a _ ea);exact EZ Ho I.kIn ⟨_,h1,rfl⟩ e (λz=>nomatch z) h
 | @frz a ob xs ea=>
  cases (show u=DC a from rx);obtain⟨_,_,_,n,_,h1⟩:=(show aE X.prog X.w H s.heap a (.frz ob (.lst xs)) from I.hok a _ ea);exact EZ Ho I.kIn ⟨_,h1,rfl⟩ e (λz=>nomatch z) h
 | @tup a xs ea=>
  cases (show u=DC a from rx);obtain⟨_,_,_,p⟩:=(show aE X.prog X.w H s.heap a (.tup xs) from I.hok a _ ea);obtain⟨o,h1,h2,_⟩:=p;exact EZ PySem.W.kitx_tuple I.kIn ⟨o,h1,h2⟩ e (λz=>nomatch z) h
 | @dK a kvs ea=>
  cases (show u=DC a from rx);obtain⟨_,_,vs,_,p⟩:=(show aE X.prog X.w H s.heap a (.dK kvs) from I.hok a _ ea);obtain⟨o,es,ep,h1,h2,_⟩:=p;exact EZ Hq I.kIn ⟨o,h1,h2.1⟩ e (λz=>nomatch z) h
 | @dT a kvs ea=>
  cases (show u=DC a from rx);obtain⟨_,_,xs,_,o,es,ep,h1,h2,_⟩:=(show aE X.prog X.w H s.heap a (.dT kvs) from I.hok a _ ea);exact EZ Hq I.kIn ⟨o,h1,h2.1⟩ e (λz=>nomatch z) h
 | @ins a C dx fs ea cl ha hn htk hm=>
  cases (show u=DC a from rx);obtain⟨mA,O,_⟩:=wQ I.hok ea;obtain⟨od,J,_⟩:=O.look;exact EZ (PySem.W.kitx_own (cl.get _) cl.hd ha hn htk hm) I.kIn J e (λz=>nomatch z) h
end
structure aU (k:Nat) (A:IH):Prop where
 hd:A.handled=none
 dp:A.depth+3*k+5 < recursionLimit
 un:A.units+16*k+200 < cLine
theorem aU.mono{j k:Nat}{A:IH}(r:aU k A)(h:j<=k):aU j A:=⟨r.hd,by have:=r.dp;omega,by have:=r.un;omega⟩
theorem aU.deeper{k:Nat}{A:IH}(r:aU (k+1) A)(env:Env):aU k (A.deeper env):=
 ⟨r.hd,by have:=r.dp;show A.depth+1+3*k+5 < _;omega,by have:=r.un;show A.units+3+16*k+200 < _;omega⟩
theorem wV{A:IH}{C:Ip}{us:List Io}{kw:List (Str×Io)}:(A.under (.builtin "type.__call__" ⟨.ref C::us,kw⟩)).depth=A.depth+1:=by
 first | rfl | simp [Hi,Code.weight,Code.isCreation,Code.isGuard,Code.isCaller,Ia,Hj,guardIds]
theorem wX{A:IH}{C:Ip}{us:List Io}{kw:List (Str×Io)}:(A.under (.builtin "type.__call__" ⟨.ref C::us,kw⟩)).units=A.units+1:=by
 first | rfl | simp [Hi,Code.cUnits,Ia,Hj]
theorem aU.make{k:Nat}{A:IH}(r:aU (k+1) A)(C:Ip)(us:List Io)(kw:List (Str×Io)):aU k (A.under (.builtin "type.__call__" ⟨.ref C::us,kw⟩)):=
 ⟨r.hd,by have:=r.dp;rw [wV];omega,by have:=r.un;rw [wX];omega⟩
theorem aU.depth{k:Nat}{A:IH}(r:aU k A):A.depth < recursionLimit:=by have:=r.dp;omega
theorem aU.units{k:Nat}{A:IH}(r:aU k A):A.units+64 < cLine:=by have:=r.un;omega
theorem aU.units0{k:Nat}{A:IH}(r:aU k A):A.units < cLine:=by have:=r.un;omega
def nZ:TA:=λ_ H Q=>Q [] H
def mO(ta:TE)(tr:TA):TA:=λσ H Q=>ta σ H λx H1=>tr σ H1 λxs H2=>Q (x::xs) H2
section
variable {X:Cx} {e:Iu} {es:List Iu} {te:TE} {t:TA} {pos:Pos}
theorem aK:PA X [] nZ:=λ_ _ _ _ H Q I h=>Calls.spliced_nil ⟨[],H,I,.nil,h⟩
theorem aw(ha:PE X e te)(hr:PA X es t)(hs:Iw (e::es) X.env=(false,eval e X.env)::Iw es X.env:=by rfl):PA X (e::es) (mO te t):=by
 intro pos JI s σ H Q I h;rw [hs];show Iz _ _ (spliced ((false,eval e X.env)::IS pos (Iw es X.env))) _ _ s;refine Calls.spliced_cons (ak (ha JI s σ H _ I h) λu s1 ⟨x,H1,I1,r1,q1⟩=>?_);exact ak (hr pos JI s1 σ H1 _ I1 q1) λus s2 uu43=>by obtain⟨xs,H2,I2,r2,q2⟩:=uu43;exact⟨x::xs,H2,I2,.cons r1 r2,q2⟩
def pY(t:TA):TE:=λσ H Q=>t σ H λxs H1=>xs.length<=Ir/\∀p,H1 p=none->Q (.ref p) (ah H1 p (.tup xs))
def pZ(t:TA):TE:=λσ H Q=>t σ H λxs H1=>xs.length<=Ir/\∀p,H1 p=none->Q (.ref p) (ah H1 p (.lst xs))
theorem lC{x1}(h:PA X es t):PE X (.Tuple es x1 pos) (pY t):=by
 intro JI s σ H Q I hq;refine wpAny_Tuple_spliced (ak (h pos JI s σ H _ I hq) λus s1 ⟨xs,H1,I1,r,z,q⟩=>⟨by rw [<-r.length];exact z,?_⟩);have hf:H1 s1.heap.objs.size=none:=I1.hok.fresh (Dz _);refine⟨.ref s1.heap.objs.size,ah H1 s1.heap.objs.size (.tup xs),I1.laid (t':=s1.toks) (λb u e=>Dr _ e) (Dz _) ?_,rfl,q _ hf⟩;exact⟨z,us,r,⟨_,EW _ rfl,rfl,_,rfl⟩⟩
theorem p4(h:PA X es t):PE X (.List es pos) (pZ t):=by
 intro JI s σ H Q I hq;refine wpAny_List_spliced (ak (h pos JI s σ H _ I hq) λus s1 ⟨xs,H1,I1,r,z,q⟩=>⟨by rw [<-r.length];exact z,?_⟩);have hf:H1 s1.heap.objs.size=none:=I1.hok.fresh (Dz _);refine⟨.ref s1.heap.objs.size,ah H1 s1.heap.objs.size (.lst xs),I1.laid (t':=s1.toks) (λb u e=>Dr _ e) (Dz _) ?_,rfl,q _ hf⟩;exact⟨z,us,0,r,EW _ rfl⟩
end
abbrev Sp:=List V->Hp->VK->XK->Prop
abbrev cC:=List Env->Hp->Iq->XK->Io->Iq->Prop
structure lD (P:IE) (w:IF) (K:Dj) (mg:Str->Option Io) (base:IC) (A:IH) (outer:List Env) (s:Iq) (H:Hp):Prop where
 frames:A.frames=some outer
 mod:Mod K mg base
 bs:∀b o,base.get? b=some o->s.heap.get? b=some o/\H b=none
 bsz:base.objs.size<=s.heap.objs.size
 funs:s.heap.FunFrames base outer
 frf:∀b∈bb outer,H b=none
 hok:aH P w H s.heap
 bare:Jp s.gens
def CE(outer:List Env)(P:IE)(w:IF)(H:Hp)(s:Iq)(Q:VK)(u:Io)(s':Iq):Prop:=
 ∃v H',s'.os=s.os/\Jp s'.gens/\Un (bb outer) [] H H' s.heap s'.heap/\aH P w H' s'.heap/\au v u/\Q v H'
def CR(CX:cC)(outer:List Env)(P:IE)(w:IF)(H:Hp)(s:Iq)(Q:VK)(E:XK)(r:Result)(s':Iq):Prop:=
 match r with
 | .ok (.ret u)=>CE outer P w H s Q u s'
 | .ok _=>False
 | .error e=>CX outer H s E e s'
structure aA (P:IE) (w:IF) (K:Dj) (mg:Str->Option Io) (base:IC) (CX:cC) (k:Nat) (f:Ip) (fd:IB) (ps:List Str) (sp:Sp):Prop where
 len:∀vs H Q E,sp vs H Q E->vs.length=ps.length
 run:∀(A:IH)(outer:List Env)(s:Iq)(H:Hp)(args:Args)(us:List Io)(vs:List V)(Q:VK)(E:XK),aU k A->lD P w K mg base A outer s H->BindsTo s fd args (ps.zip us)->az vs us->sp vs H Q E->
  Jr (Iy P w) A (.call (.ref f) args) (CR CX outer P w H s Q E) s
theorem aA.imp{P:IE}{w:IF}{K:Dj}{mg:Str->Option Io}{base:IC}{CX:cC}{k:Nat}{f:Ip}{fd:IB}{ps:List Str}{sp sp':Sp}(F:aA P w K mg base CX k f fd ps sp)
 (h:∀vs H Q E,sp' vs H Q E->sp vs H Q E):aA P w K mg base CX k f fd ps sp':=
 ⟨λvs H Q E q=>F.len vs H Q E (h _ _ _ _ q),λA outer s H args us vs Q E hr he hb hv hs=>F.run A outer s H args us vs Q E hr he hb hv (h _ _ _ _ hs)⟩
theorem lD.make{P:IE}{w:IF}{K:Dj}{mg:Str->Option Io}{base:IC}{A:IH}{outer:List Env}{s:Iq}{H:Hp}(e:lD P w K mg base A outer s H)(C:Ip)(us:List Io)(kw:List (Str×Io)):
 lD P w K mg base (A.under (.builtin "type.__call__" ⟨.ref C::us,kw⟩)) outer s H:=⟨by first | exact e.frames | (simpa [Hi,Code.envs,Hj,pushEnvs] using e.frames),e.mod,e.bs,e.bsz,e.funs,e.frf,e.hok,e.bare⟩
section
variable {X:Cx} {JI:List (Ip×Obj)} {σ:St} {H:Hp} {s s':Iq}
theorem aa.env0(I:aa X JI σ H s):lD X.prog X.w X.K X.mg X.base X.A X.stack s H:=
 ⟨I.ok.frames,I.ok.mod,I.bs,EY I.ok.bsz I.sz,I.stack,I.stkFree,I.hok,I.bare⟩
theorem aa.after{Q:VK}{u:Io}(I:aa X JI σ H s)(h:CE X.stack X.prog X.w H s Q u s'):EP X JI σ Q u s':=by
 obtain⟨v,H',os,bare,un,hok,r,q⟩:=h;obtain⟨hh,g,d,t,os'⟩:=s';obtain rfl:os'=s.os:=os;exact⟨v,H',I.call (h':=hh) (g':=g) (d':=d) (t':=t) (ch:=[]) un hok bare (λb z=>absurd z Il),r,q⟩
end
def mP(sp:Sp)(dvs:List V)(E:XK)(t:TA):TE:=λσ H Q=>t σ H λvs H1=>sp (vs++dvs) H1 Q E
def jW(K:Dj)(fd:IB)(ps:List Str)(ds:List Io):Prop:=
 ∀(s:Iq)(us:List Io),K.In s.heap->(us++ds).length=ps.length->BindsTo s fd ⟨us,[]⟩ (ps.zip (us++ds))
theorem jW.all{K:Dj}{fd:IB}{ps:List Str}(h:∀us:List Io,us.length=ps.length->bindArgs fd ⟨us,[]⟩=pure (ps.zip us)):jW K fd ps []:=λs us _ hl=>by
 rw [DH] at hl⊢;exact .of_eq (h us hl)
def mh(CX:cC)(X:Cx)(E:XK):Prop:=∀(JI:List (Ip×Obj))(σ:St)(H:Hp)(s:Iq)(e:Io)(s':Iq),aa X JI σ H s->CX X.stack H s E e s'->X.xe e s'
section
variable {X:Cx} {CX:cC} {k:Nat} {f C:Ip} {fd:IB} {ps:List Str} {sp:Sp} {dvs:List V} {ds:List Io} {E:XK} {x m:Str} {p pos apos:Pos} {e o:Iu} {es:List Iu} {ta:TE} {t:TA}
theorem wY{JI:List (Ip×Obj)}{σ:St}{H:Hp}{s:Iq}{Q:VK}{us:List Io}{vs:List V}(F:aA X.prog X.w X.K X.mg X.base CX k f fd ps sp)(hr:aU k X.A)(hb:jW X.K fd ps ds)(hd:az dvs ds)(hx:mh CX X E)
 (I:aa X JI σ H s)(r:az vs us)(h:sp (vs++dvs) H Q E):Iz (Iy X.prog X.w) X.A (call (.ref f) us) (EP X JI σ Q) X.xe s:=by
 have r2:az (vs++dvs) (us++ds):=r.append hd;have hl:(us++ds).length=ps.length:=by rw [<-r2.length];exact F.len _ _ _ _ h
 refine wpAny_call (JA (F.run X.A X.stack s H ⟨us,[]⟩ (us++ds) (vs++dvs) Q E hr I.env0 (hb s us I.kIn hl) r2 h) λr s' hq=>?_);cases r with
 | error e=>exact hx JI σ H s e s' I hq
 | ok fl=>
  cases fl with
  | ret u=>exact I.after hq
  | next=>exact E2 hq
  | brk=>exact E2 hq
  | cont=>exact E2 hq
theorem wZ(F:aA X.prog X.w X.K X.mg X.base CX k f fd ps sp)(hr:aU k X.A)(hg:Gl X x)(hm:X.mg x=some (.ref f))(hk:Fm X.K (.ref f)=true)(hb:jW X.K fd ps ds)(hd:az dvs ds)(hx:mh CX X E)
 (ha:PA X (e::es) t)(hdb:(x==("__debug__":Str))=false:=by decide)(he:Iw (e::es) X.env=(false,eval e X.env)::Iw es X.env:=by rfl)(hpl:(IS pos (Iw es X.env)).any (·.1)=false:=by rfl):
 PE X (.Call (.Name x p) (e::es) [] pos) (mP sp dvs E t):=by
 intro JI s σ H Q I h;refine Jj (ma I hg hm ?_ hdb);refine Gv (h₀:=X.base) I.ok.mod.kin hk (ak (ha pos JI s σ H _ I h) λus s1 ⟨vs,H1,I1,r,q⟩=>⟨I1.kIn,?_⟩) he hpl;exact wY F hr hb hd hx I1 r q
end
section
variable {X:Cx} {CX:cC} {k:Nat} {f C:Ip} {fd:IB} {ps ks:List Str} {sp:Sp} {E:XK} {x m:Str} {p pos apos kpos:Pos} {e o:Iu} {es:List Iu} {kws:List Jn} {te ta:TE} {t tk:TA} {nm:Option Str}
variable {g:List Io->List Io->List Io} {gV:List V->List V->List V}
end
structure aL (N P:List Str) (sc:IU):Prop where
 kind:sc.kind= .function
 co:sc.isCoroutine=false
 gen:sc.isGenerator=false
 nd:N.Nodup
 pre:N.take P.length=P
 par:∀x∈P,sc.names.lookup x=some .local\/sc.names.lookup x=some .cell
 nofree:∀y∈sc.names,y.2≠ .free
theorem sO{kindOf:Str->Option IW}{x:Str}:∀{binds:List (Str×Io)}{m:Str->Option Io},(∀v,(x,v)∉ binds)->bindL kindOf binds m x=m x
 | [],_,_=>rfl
 | (n,v)::r,m,h=>by
  unfold bindL;rw [sO λw hw=>h w (EK _ hw)];split
  ·have:x≠n:=by rintro rfl;exact h v E4
   simp [this]
  ·rfl
theorem sP{kindOf:Str->Option IW}{x:Str}:∀{binds:List (Str×Io)}{m:Str->Option Io},(∀v,(x,v)∉ binds)->bindC kindOf binds m x=m x
 | [],_,_=>rfl
 | (n,v)::r,m,h=>by
  unfold bindC;rw [sP λw hw=>h w (EK _ hw)];split
  ·rfl
  ·have:x≠n:=by rintro rfl;exact h v E4
   simp [this]
theorem sQ{kindOf:Str->Option IW}{x:Str}{v:Io}:∀{P:List Str}{vs:List Io}{i:Nat}{m:Str->Option Io},P.Nodup->P[i]?=some x->vs[i]?=some v->kindOf x=some .local->
 bindL kindOf (P.zip vs) m x=some v
 | [],_,_,_,_,h,_,_=>by simp at h
 | _::_,[],_,_,_,_,h,_=>by simp at h
 | p::P,w::vs,0,m,nd,h1,h2,hk=>by
  simp at h1 h2;subst h1;subst h2;show bindL kindOf ((p,w)::P.zip vs) m p=_;unfold bindL;rw [sO λv hv=>(Gg.mp nd).1 (GU hv).1,Ij hk];simp
 | p::P,w::vs,i+1,m,nd,h1,h2,hk=>by
  show bindL kindOf ((p,w)::P.zip vs) m x=_;unfold bindL;exact sQ (i:=i) (Gg.mp nd).2 (by simpa using h1) (by simpa using h2) hk
theorem sR{kindOf:Str->Option IW}{x:Str}{v:Io}:∀{P:List Str}{vs:List Io}{i:Nat}{m:Str->Option Io},P.Nodup->P[i]?=some x->vs[i]?=some v->kindOf x≠some .local->
 bindC kindOf (P.zip vs) m x=some v
 | [],_,_,_,_,h,_,_=>by simp at h
 | _::_,[],_,_,_,_,h,_=>by simp at h
 | p::P,w::vs,0,m,nd,h1,h2,hk=>by
  simp at h1 h2;subst h1;subst h2;show bindC kindOf ((p,w)::P.zip vs) m p=_;unfold bindC;rw [sP λv hv=>(Gg.mp nd).1 (GU hv).1,Ii hk];simp
 | p::P,w::vs,i+1,m,nd,h1,h2,hk=>by
  show bindC kindOf ((p,w)::P.zip vs) m x=_;unfold bindC;exact sR (i:=i) (Gg.mp nd).2 (by simpa using h1) (by simpa using h2) hk
def start(N:List Str)(vs:List V):St:=vs.map some++Dx (N.length - vs.length) none
def bp(CX:cC)(P:IE)(w:IF)(K:Dj)(mg:Str->Option Io)(base:IC)(N:List Str)(qual:Str)(scope:IU)(f:Ip)(cd:Io)(A:IH)(outer:List Env)(s:Iq)(H:Hp)(E:XK):Cx where
 prog:=P
 w:=w
 K:=K
 mg:=mg
 base:=base
 A:=A.deeper (Jm qual scope s.heap.objs.size f cd)
 N:=N
 s₀:=s
 H₀:=H
 env:=Jm qual scope s.heap.objs.size f cd
 outer:=outer
 stack:=Jm qual scope s.heap.objs.size f cd::outer
 ex:=[]
 calm:=true
 fn:=λ_=>true
 pn:=[]
 xe:=λe s'=>Iz (Iy P w) (A.deeper (Jm qual scope s.heap.objs.size f cd)) (leaving (Jm qual scope s.heap.objs.size f cd) e) (λ_ s''=>CX outer H s E e s'') (λe' s''=>CX outer H s E e' s'') s'
theorem sS{sc:IU}{n:Nat}{x:Str}(h:sc.names.lookup x=some .cell):∃c,(IT n sc.names []).lookup x=some c:=by
 have q:=F4 sc.names n [] (.inl h);exact Fh.mp q
theorem w4{CX:cC}{P:IE}{w:IF}{K:Dj}{mg:Str->Option Io}{base:IC}{N ps:List Str}{qual:Str}{scope:IU}{f:Ip}{cd:Io}{A:IH}{outer:List Env}{s s1:Iq}{H:Hp}{E:XK}{us:List Io}{vs:List V}
 (S:aL N ps scope)(hd:A.handled=none)(e0:lD P w K mg base A outer s H)(hl:vs.length=ps.length)(r:az vs us)
 (x:InCallC s s.heap.objs.size (bindL (Jm qual scope s.heap.objs.size f cd).kindOf (ps.zip us) λ_=>none) (IT (s.heap.objs.size+1) scope.names []) (bindC (Jm qual scope s.heap.objs.size f cd).kindOf (ps.zip us) λ_=>none) s1):
 aa (bp CX P w K mg base N qual scope f cd A outer s H E) [] (start N vs) H s1:=by
 have hpl:ps.length<=N.length:=by have:=congrArg Ib S.pre;rw [List.length_take] at this;omega
 obtain⟨h1,tk,rfl,hk⟩:=x.done;have noA:∀b:Ip,b ∉ (bp CX P w K mg base N qual scope f cd A outer s H E).ex:=λb z=>absurd (show b∈([]:List Ip) from z) Il;refine⟨⟨e0.mod,S.kind,rfl,rfl,Dz _,λy z c h1 h2=>?_,λy hy=>?_,λy c _ h=>?_,λ_=>hd,Around.frames_deeper e0.frames,.inr ⟨rfl,rfl⟩,λb z=>absurd z (noA b),e0.bs,e0.bsz,λb _ _=>noA b,λb z=>absurd z (noA b),e0.funs,e0.frf⟩,
  rfl,e0.bare,Un.kept hk,⟨_,x.toInCall.ns,λi y v h1 h2 h3=>?_⟩,λy c h=>⟨_,x.cell y c h⟩,e0.hok.fresh (Dz _),λy c h=>?_,λp hp=>absurd (show p∈([]:List (Ip×Obj)) from hp) Il,e0.hok.kept hk,?_⟩
 ·exact name_of_addr x.apart (Fc h1) (Fc h2)
 ·have hy:scope.names.lookup y=some .cell\/scope.names.lookup y=some .free:=hy;rcases hy with hy | hy
  ·exact sS hy
  ·exact absurd rfl (S.nofree _ (Fc hy))
 ·exact GJ (x.above y c (Fc h))
 ·have hi:i < vs.length:=by
   unfold start at h2;by_cases hi:i < vs.length
   ·exact hi
   ·rw [Fx (by simpa using hi)] at h2;rw [FC] at h2;split at h2 <;> cases h2
  have ha:vs[i]?=some v:=by
   unfold start at h2;rw [Fg (by simpa using hi),E3] at h2;cases e:vs[i]? with
   | none=>rw [e] at h2;cases h2
   | some a=>rw [e] at h2;cases h2;rfl
  obtain⟨u,hu,rv⟩:=r.get ha;have hp:ps[i]?=some y:=by
   rw [<-S.pre,List.getElem?_take_of_lt Ih];exact h1
  have ndP:ps.Nodup:=by rw [<-S.pre];exact S.nd.sublist (List.take_sublist _ _)
  refine⟨u,rv,?_⟩;rcases S.par y (Gh hp) with k | k
  ·exact .inl ⟨k,sQ ndP hp hu k⟩
  ·obtain⟨c,e⟩:=sS (n:=s.heap.objs.size+1) k;refine .inr ⟨.inl k,c,e,?_⟩;have q:=x.cell y c e;rw [sR ndP hp hu (by show scope.names.lookup y≠_;rw [k];decide)] at q;exact q
 ·exact e0.hok.fresh (GJ (x.above y c (Fc h)))
 ·unfold start;show _=N.length;rw [Fs,E1,G0];omega
theorem sT{CX:cC}{P:IE}{w:IF}{K:Dj}{mg:Str->Option Io}{base:IC}{k:Nat}{f:Ip}{name qual:Str}{params:Arguments}{body:List II}{scope:IU}{dV kV doc pm cdv ct oc:Io}{an od:Option Ip}
 {osl:Array (Option Io)}{N ps:List Str}{sp:Sp}(lk:K.lookup f=some ⟨oc,od,.func (E5 name qual params body scope dV kV doc pm an cdv ct),osl⟩)(hcd:F0 K cdv qual=true)(S:aL N ps scope)
 (len:∀vs H Q E,sp vs H Q E->vs.length=ps.length)
 (hbody:∀(A:IH) (outer:List Env) (s:Iq) (H:Hp) (vs:List V) (Q:VK) (E:XK),aU k (A.deeper (Jm qual scope s.heap.objs.size f cdv))->sp vs H Q E->
   ∃t,aR (bp CX P w K mg base N qual scope f cdv A outer s H E) body t/\t {nx:=λ_ H'=>Q .non H',rt:=Q} (start N vs) H):
 aA P w K mg base CX (k+1) f (E5 name qual params body scope dV kV doc pm an cdv ct) ps sp:=by
 refine⟨len,λA outer s H args us vs Q E hr e0 hb r hsp=>?_⟩;have hl:=len _ _ _ _ hsp;have KX:K.In s.heap:=e0.mod.kin.keeps λb o e=>(e0.bs b o e).1;have lim:s.heap.NoLimit:=e0.mod.nolimit.keeps λb o e=>(e0.bs b o e).1;have hkind:∀y∈ps.zip us,scope.names.lookup y.1=some .local\/(scope.names.lookup y.1=some .cell/\((IT (s.heap.objs.size+1) scope.names []).lookup y.1).isSome=true):=λuu47 hy=>by
  obtain⟨n,v⟩:=uu47;rcases S.par n (GU hy).1 with q | q
  ·exact .inl q
  ·exact .inr ⟨q,F4 _ _ _ (.inl q)⟩
 refine codeAny_call_function hr.depth (KX _ _ lk) rfl S.co S.gen rfl (PySem.W.codeRec_of KX hcd) (hb _ _ _ _ ?_);refine wpAny_newFunctionEnv_cells S.kind hkind λenv he s1 x=>?_;subst he;refine⟨lim.keeps x.toInCall.keep,codeAny_func ?_⟩;obtain⟨t,ht,hq⟩:=hbody A outer s H vs Q E (hr.deeper _) hsp;have I:aa (bp CX P w K mg base N qual scope f cdv A outer s H E) [] (start N vs) H s1:=w4 S hr.hd e0 hl r x;refine IM (ht [] s1 (start N vs) H _ I hq) (λfl s' hs=>?_) λe s' hs=>hs;have fin:∀{σ':St}{H':Hp}{v:V}{u:Io},aa (bp CX P w K mg base N qual scope f cdv A outer s H E) [] σ' H' s'->au v u->Q v H'->CE outer P w H s Q u s':=
  λ{σ' H' v u} J rv q=>⟨v,H',J.os,J.bare,J.base,J.hok,rv,q⟩
 cases fl with
 | ret u=>
  obtain⟨v,σ',H',J,rv,q⟩:=hs;exact fin J rv q
 | next=>
  obtain⟨σ',H',J,q⟩:=hs;exact fin (v:=V.non) (u:=Ge) J rfl q
 | brk=>
  obtain⟨_,_,_,q⟩:=hs;exact E2 q
 | cont=>
  obtain⟨_,_,_,q⟩:=hs;exact E2 q
section
variable {X:Cx} {x:Str} {p pos:Pos} {e:Iu} {es:List Iu} {t:TA} {id T:String} {r:List V->Hp->VK->Prop}
def mQ(r:List V->Hp->VK->Prop)(t:TA):TE:=λσ H Q=>t σ H λvs H1=>r vs H1 Q
theorem bz(hc:cB X (.builtin id) r)(hg:Gl X x)(hm:X.mg x=none)(hv:IK x=some (.builtin id))(ha:PA X (e::es) t)(hn:x≠"__name__":=by decide)(hdb:(x==("__debug__":Str))=false:=by decide)
 (he:Iw (e::es) X.env=(false,eval e X.env)::Iw es X.env:=by rfl)(hpl:(IS pos (Iw es X.env)).any (·.1)=false:=by rfl):PE X (.Call (.Name x p) (e::es) [] pos) (mQ r t):=by
 intro JI s σ H Q I h;refine Jj (mI I hg hm hv ?_ hn hdb);exact PyProof.Rows.callWith_builtin1 (ak (ha pos JI s σ H _ I h) λus s1 uu48=>by obtain⟨vs,H1,I1,r1,q1⟩:=uu48;exact hc JI s1 σ H1 vs us Q I1 r1 q1) he hpl
theorem b8(hc:cB X (.type T) r)(hg:Gl X x)(hm:X.mg x=none)(hv:IK x=some (.type T))(ha:PA X (e::es) t)(hn:x≠"__name__":=by decide)(hdb:(x==("__debug__":Str))=false:=by decide)
 (he:Iw (e::es) X.env=(false,eval e X.env)::Iw es X.env:=by rfl)(hpl:(IS pos (Iw es X.env)).any (·.1)=false:=by rfl):PE X (.Call (.Name x p) (e::es) [] pos) (mQ r t):=by
 intro JI s σ H Q I h;refine Jj (mI I hg hm hv ?_ hn hdb);exact FO (ak (ha pos JI s σ H _ I h) λus s1 uu49=>by obtain⟨vs,H1,I1,r1,q1⟩:=uu49;exact hc JI s1 σ H1 vs us Q I1 r1 q1) he hpl
end
end L2
namespace HT
open PySem PyProof.Rows
def lexLt:List Int->List Int->Bool
 | [],[]=>false
 | [],_::_=>true
 | _::_,[]=>false
 | x::xs,y::ys=>if x=y then lexLt xs ys else decide (x < y)
section
open PySem.SeqAt
open PySem.AutoSeq1 (wpAny_loadPart')
open PySem.MeetsSeq PySem.MeetsSeq2 PySem.MeetsSeq3
end
section
variable {prog:IE} {w:IF} {A:IH} {E:Io->Iq->Prop} {s:Iq}
def sIx(n d:Nat):Option Int->Nat
 | none=>d
 | some v=>if v < 0 then(v+(n:Int)).toNat else min v.toNat n
theorem n4(n d:Nat):sIx n d none=d:=rfl
theorem sIx_nat(n d k:Nat):sIx n d (some (k:Int))=min k n:=by
 show(if (k:Int) < 0 then((k:Int)+(n:Int)).toNat else min (k:Int).toNat n)=min k n;rw [Ii Ih,Hr]
end
end HT
namespace L2
open PySem PySem.Spec PyProof.Rows
abbrev TO:=St->Hp->(Option Int->Hp->Prop)->Prop
def PO(X:Cx)(e:Option Iu)(t:TO):Prop:=
 ∀(JI:List (Ip×Obj))(s:Iq)(σ:St)(H:Hp)(Q:Option Int->Hp->Prop),aa X JI σ H s->t σ H Q->
  Iz (Iy X.prog X.w) X.A (evalPart e X.env) (λu s'=>∃o H',aa X JI σ H' s'/\IsPart u o/\Q o H') X.xe s
def w6:TO:=λ_ H Q=>Q none H
def w8(t:TE):TO:=λσ H Q=>t σ H λx H1=>∃i,x= .int i/\Q (some i) H1
theorem xa{ns:List Int}:∀{us:List Io},az (ns.map V.int) us->IntsAre us ns:=by
 induction ns with
 | nil=>intro us r;rw [DQ] at r;cases r;exact .nil
 | cons n ns ih=>
  intro us r;rw [Dq] at r;cases r with
  | cons r1 r2=>
   obtain⟨t,e⟩:=r1;subst e;exact .cons n t (ih r2)
section
variable {X:Cx} {e:Iu} {te:TE} {lo hi:Option Iu} {tl th:TO} {pos p2:Pos}
theorem xb:PO X none w6:=by
 intro JI s σ H Q I h;rw [evalPart_none];exact IL ⟨none,H,I,.none,h⟩
theorem xc(h:PE X e te):PO X (some e) (w8 te):=by
 intro JI s σ H Q I hw;rw [evalPart_some];refine ak (h JI s σ H _ I hw) λu s1 ⟨x,H1,I1,r1,q1⟩=>?_;obtain⟨i,rfl,q⟩:=q1;obtain⟨t,rfl⟩:=r1;exact⟨some i,H1,I1,.int i t,q⟩
def sU(X:Cx)(r:V->Option Int->Option Int->Hp->VK->Prop):Prop:=
 ∀(JI:List (Ip×Obj))(s:Iq)(σ:St)(H:Hp)(x:V)(v vl vu:Io)(lo hi:Option Int)(sl:Ip)(Q:VK),aa X JI σ H s->au x v->s.heap.IsSliceOf sl vl vu .none->IsPart vl lo->IsPart vu hi->r x lo hi H Q->
  ∃T id,typeLookup (.type T) "__getitem__"=pure (some (.builtin id))/\s.TypeIs v T/\Iz (Iy X.prog X.w) X.A (getItem v (.ref sl)) (EP X JI σ Q) X.xe s
def xf(r:V->Option Int->Option Int->Hp->VK->Prop)(te:TE)(tl th:TO):TE:=λσ H Q=>te σ H λx H1=>tl σ H1 λl H2=>th σ H2 λu H3=>r x l u H3 Q
theorem xg{r:V->Option Int->Option Int->Hp->VK->Prop}(hr:sU X r)(he:PE X e te)(hl:PO X lo tl)(hu:PO X hi th):PE X (.Subscript e (.Slice lo hi none p2) pos) (xf r te tl th):=by
 intro JI s σ H Q I h;refine Subscript_ (ak (he JI s σ H _ I h) λv s1 ⟨x,H1,I1,r1,q1⟩=>?_);refine wpAny_Slice (ak (hl JI s1 σ H1 _ I1 q1) λvl s2 ⟨l,H2,I2,pl,q2⟩=>ak (hu JI s2 σ H2 _ I2 q2) λvu s3 ⟨u,H3,I3,pu,q3⟩=>?_);rw [evalPart_none];refine IL ?_;have I4:aa X JI σ H3 {s3 with heap:=s3.heap.push {cls:= .type "slice",data:= .fields #[vl,vu,.none]}}:=I3.kept (t':=s3.toks) λb ob q=>Dr _ q;obtain⟨T,id,hT,ht,hg⟩:=hr JI {s3 with heap:=s3.heap.push {cls:= .type "slice",data:= .fields #[vl,vu,.none]}} σ H3 x v vl vu l u s3.heap.objs.size Q I4 r1 (Heap.IsSliceOf.new ..) pl pu q3;show Iz (Iy X.prog X.w) X.A (subscriptTail e (.Slice lo hi none p2) v (.ref s3.heap.objs.size)) (EP X JI σ Q) X.xe {s3 with heap:=s3.heap.push {cls:= .type "slice",data:= .fields #[vl,vu,.none]}};exact tail_any (ops:=[.ref s3.heap.objs.size,v]) ht hT hg (by with_unfolding_all rfl)
end
def kg(n:Nat)(i:Int):Option Nat:=if 0<=i then(if i < n then some i.toNat else none) else if -(n:Int)<=i then some (i+n).toNat else none
def atI{α:Type}(xs:List α)(i:Int):Option α:=(kg xs.length i).bind λj=>xs[j]?
theorem sV{n:Nat}{i:Int}{j:Nat}(h:kg n i=some j):seqIndex? i n=some j/\j < n/\-(n:Int)<=i/\i < n:=by
 unfold kg at h;by_cases h0:0<=i
 ·rw [Ij h0] at h;by_cases h1:i < n
  ·rw [Ij h1] at h;have e:i.toNat=j:=Eu h;exact⟨by rw [seqIndex_of h0 h1,e],Ih,Ih,h1⟩
  ·rw [Ii h1] at h;cases h
 ·rw [Ii h0] at h;by_cases h1:-(n:Int)<=i
  ·rw [Ij h1] at h;have e:(i+n).toNat=j:=Eu h;exact⟨by rw [seqIndex_neg Ih h1,e],Ih,h1,Ih⟩
  ·rw [Ii h1] at h;cases h
theorem p7{α:Type}{xs:List α}{i:Int}{v:α}(h:atI xs i=some v):∃j,seqIndex? i xs.length=some j/\xs[j]?=some v/\j < xs.length/\-(xs.length:Int)<=i/\i < xs.length:=by
 unfold atI at h;cases e:kg xs.length i with
 | none=>rw [e] at h;cases h
 | some j=>
  rw [e] at h;obtain⟨h1,h2,h3,h4⟩:=sV e;exact⟨j,h1,h,h2,h3,h4⟩
theorem lE{α:Type}{xs:List α}{j:Nat}{v:α}(h:xs[j]?=some v):atI xs (j:Int)=some v:=by
 have hj:j < xs.length:=(DY.mp h).1;have e:kg xs.length (j:Int)=some j:=by
  unfold kg;rw [Ij Ih,Ij Ih];simp
 unfold atI;rw [e];exact h
def xh(b:Iu):Prop:=∀o i,subscripted b false o i=operate [o,i] (getItem o i)
def mi(X:Cx)(r:R2):Prop:=
 ∀(value slice:Iu)(JI:List (Ip×Obj))(s:Iq)(σ:St)(H:Hp)(x y:V)(v u:Io)(Q:VK),aa X JI σ H s->au x v->au y u->r x y H Q->
  subscripted slice false v u=operate [v,u] (getItem v u)->Iz (Iy X.prog X.w) X.A (subscriptTail value slice v u) (EP X JI σ Q) X.xe s
def mR(X:Cx)(id:String)(r:V->List V->Hp->VK->Prop):Prop:=
 ∀(JI:List (Ip×Obj))(s:Iq)(σ:St)(H:Hp)(x:V)(xs:List V)(v:Io)(us:List Io)(Q:VK),aa X JI σ H s->au x v->az xs us->r x xs H Q->
  Iz (Iy X.prog X.w) X.A (call (.builtin id) (v::us)) (EP X JI σ Q) X.xe s
section
variable {X:Cx} {a b:Iu} {ta tb:TE} {pos:Pos}
theorem n5{r:R2}(hr:mi X r)(ha:PE X a ta)(hb:PE X b tb)(hs:xh b):PE X (.Subscript a b pos) (lq r ta tb):=by
 intro JI s σ H Q I h;exact Subscript_ (pQ ha hb I h λv u s2 x y H2 I2 rx ry q=>hr a b JI s2 σ H2 x y v u Q I2 rx ry q (hs _ _))
def p8(K:Dj):R2:=λx y H Q=>∃p xs i v,x= .ref p/\y= .int i/\aG K H p xs/\atI xs i=some v/\Q v H
def p9(K:Dj):R2:=λx y H Q=>∃p xs i v,x= .ref p/\y= .int i/\bD K H p xs/\atI xs i=some v/\Q v H
def sW:R2:=λx y H Q=>∃z i c,x= .str z/\y= .int i/\z.length<=Ir/\atI z.cps.toList i=some c/\Q (.str ⟨#[c]⟩) H
theorem bh:mi X (p8 X.K):=by
 intro value slice JI s σ H x y v u Q I rx ry h hs;obtain⟨p,xs,i,z,rfl,rfl,hq,he,q⟩:=h;cases rx;obtain⟨t,rfl⟩:=ry;obtain⟨its,r,pl,hz⟩:=I.list hq;obtain⟨j,h1,h2,h3,h4,h5⟩:=p7 he;obtain⟨w,ew,rw'⟩:=r.get h2;have hl:=r.length;have hn:=lz;have fin:EP X JI σ Q w s:=⟨z,H,I,rw',q⟩;by_cases h0:0<=i
 ·have hj:i.toNat=j:=by
   rw [seqIndex_of h0 h5] at h1;exact Eu h1
  exact item_listR pl.isList h0 Ih (by rw [hj];simpa using ew) fin hs
 ·have hj:(i+(its.toArray.size:Int)).toNat=j:=by
   rw [seqIndex_neg Ih h4] at h1;rw [D4,<-hl];exact Eu h1
  exact subscriptTail_builtinR (x:=w) pl.isList.typeIs slot_list_getitem.lookup
   (wpAny_getItem_list_neg (Q:=λr s'=>r=w/\EP X JI σ Q r s') pl.isList Ih (by rw [D4] <;> omega) Ih (by rw [hj];simpa using ew) ⟨rfl,fin⟩) hs
theorem jr:mi X (p9 X.K):=by
 intro value slice JI s σ H x y v u Q I rx ry h hs;obtain⟨p,xs,i,z,rfl,rfl,hq,he,q⟩:=h;cases rx;obtain⟨t,rfl⟩:=ry;obtain⟨its,r,pl,hz⟩:=I.tuple hq;obtain⟨j,h1,h2,h3,h4,h5⟩:=p7 he;obtain⟨w,ew,rw'⟩:=r.get h2;have hl:=r.length;have hn:=lz;have fin:EP X JI σ Q w s:=⟨z,H,I,rw',q⟩;exact subscriptTail_builtinR (x:=w) pl.typeIs slot_tuple_getitem.lookup
  (getItem_tuple (j:=j) (Q:=λr s'=>r=w/\EP X JI σ Q r s') pl Ih Ih (by rw [D4,<-hl];exact h1) (by simpa using ew) ⟨rfl,fin⟩) hs
theorem qa:mi X sW:=by
 intro value slice JI s σ H x y v u Q I rx ry h hs;obtain⟨z,i,c,rfl,rfl,hz,he,q⟩:=h;obtain⟨t,rfl⟩:=rx;obtain⟨t',rfl⟩:=ry;obtain⟨j,h1,h2,h3,h4,h5⟩:=p7 he;have hl:z.cps.toList.length=z.length:=by simp [Str.length]
 rw [hl] at h1 h4 h5;have hn:=lz;exact tail_any (Jb s z t) slot_str_getitem.lookup (getItem_str (c:=c) (by
  have e1:decide (i < -(2 ^ 63:Int))=false:=decide_eq_false Ih;have e2:decide (i >= 2 ^ 63)=false:=decide_eq_false Ih;rw [e1,e2,Er]) (by rw [h1];simpa using h2) ⟨.str ⟨#[c]⟩,H,I.tok _,⟨_,rfl⟩,q⟩) hs
theorem xi(its:List Io)(n j:Nat)(u:Io):GG (·.setIfInBounds j u) {cls:= .type "list",data:= .seq its.toArray n}={cls:= .type "list",data:= .seq (its.set j u).toArray n}:=by
 simp [GG]
theorem aa.lst{JI:List (Ip×Obj)}{σ:St}{H:Hp}{s:Iq}{p:Ip}{xs:List V}(I:aa X JI σ H s)(h:H p=some (.lst xs)):
 ∃(its:List Io)(n:Nat),az xs its/\s.heap.get? p=some {cls:= .type "list",data:= .seq its.toArray n}/\xs.length<=Ir:=by
 obtain⟨z,its,n,r,e⟩:=I.hok p _ h;exact⟨its,n,r,e,z⟩
theorem aa.lstUpd{JI:List (Ip×Obj)}{σ:St}{H:Hp}{s:Iq}{p:Ip}{xs ys:List V}{its its':List Io}{n n':Nat}{f:Obj->Obj}(I:aa X JI σ H s)(h:H p=some (.lst xs))
 (ho:s.heap.get? p=some {cls:= .type "list",data:= .seq its.toArray n})(hf:f {cls:= .type "list",data:= .seq its.toArray n}={cls:= .type "list",data:= .seq its'.toArray n'})(r:az ys its')(hz:ys.length<=Ir)(t:Nat):
 aa X JI σ (ah H p (.lst ys)) {s with heap:=s.heap.update p f,toks:=t}:=by
 have e:(s.heap.update p f).get? p=some {cls:= .type "list",data:= .seq its'.toArray n'}:=by
  rw [FL f ho (by rw [hf] <;> rfl),hf]
 refine I.write (x:=p) (e:=p) (by rw [h];trivial) (.inl rfl) (λb u hb q=>(FG _ _ (Ne.symm hb)).trans q) ⟨_,e⟩ ?_;exact⟨hz,its',n',r,e⟩
def xj:V->V->V->Hp->(Hp->Prop)->Prop:=λo i v H Q=>∃p xs k j,o= .ref p/\i= .int k/\H p=some (.lst xs)/\kg xs.length k=some j/\Q (ah H p (.lst (xs.set j v)))
theorem sX:si X xj:=by
 intro JI s σ H o i v ov iv u Q I ro ri rv h;obtain⟨p,xs,k,j,rfl,rfl,hp,hj,q⟩:=h;cases ro;obtain⟨t,rfl⟩:=ri;obtain⟨its,n,r,ho,hz⟩:=I.lst hp;obtain⟨h1,h2,h3,h4⟩:=sV hj;have hl:=r.length;have hn:=lz;have I':aa X JI σ (ah H p (.lst (xs.set j v))) {s with heap:=s.heap.update p (GG (·.setIfInBounds j u))}:=
  I.lstUpd hp ho (xi its n j u) (r.set rv j) (by rw [List.length_set];exact hz) s.toks
 by_cases h0:0<=k
 ·have hk:k.toNat=j:=by
   rw [seqIndex_of h0 h4] at h1;exact Eu h1
  exact PySem.W.ki_setAt ho h0 Ih (by rw [D4,<-hl];exact h4) (by rw [hk];exact⟨_,I',q⟩)
 ·have hk:(k+(its.toArray.size:Int)).toNat=j:=by
   rw [seqIndex_neg Ih h3] at h1;rw [D4,<-hl];exact Eu h1
  exact PySem.W.ki_setBack ho Ih (by rw [D4,<-hl];exact h3) Ih (by rw [hk];exact⟨_,I',q⟩)
theorem qc:cB X (.builtin "len") (λxs H Q=>∃p ys,xs=[.ref p]/\(aG X.K H p ys\/bD X.K H p ys)/\Q (.int ys.length) H):=by
 intro JI s σ H xs us Q I r h;obtain⟨p,ys,rfl,hq,q⟩:=h;obtain⟨u,rfl,rx⟩:=jK r;cases rx;have hn:=lz;rcases hq with hq | hq
 ·obtain⟨its,r',pl,hz⟩:=I.list hq;have hlen:=r'.length;exact Hc pl.isList (by simp only [D4] <;> omega) ⟨.int ys.length,H,I.tok _,⟨s.toks+1,by rw [D4,hlen]⟩,q⟩
 ·obtain⟨its,r',pl,hz⟩:=I.tuple hq;have hlen:=r'.length;exact len_tuple pl (by simp only [D4] <;> omega) ⟨.int ys.length,H,I.tok _,⟨s.toks+1,by rw [D4,hlen]⟩,q⟩
theorem mj:cB X (.builtin "len") (λxs H Q=>∃z,xs=[.str z]/\z.length<=Ir/\Q (.int z.length) H):=by
 intro JI s σ H xs us Q I r h;obtain⟨z,rfl,hz,q⟩:=h;obtain⟨u,rfl,t,rfl⟩:=jK r;have hn:=lz;exact len_str Ih ⟨.int z.length,H,I.tok _,⟨_,rfl⟩,q⟩
theorem xk:cB X (.type "list") (λxs H Q=>∃p ys,xs=[.ref p]/\(aG X.K H p ys\/bD X.K H p ys)/\∀l,H l=none->Q (.ref l) (ah H l (.lst ys))):=by
 intro JI s σ H xs us Q I r h;obtain⟨p,ys,rfl,hq,q⟩:=h;obtain⟨u,rfl,rx⟩:=jK r;cases rx;have fin:∀(its:List Io),az ys its->ys.length<=Ir->∀(h':IC)(c':Nat),(∀b o',s.heap.get? b=some o'->h'.get? b=some o')->
  h'.get? s.heap.objs.size=some {cls:= .type "list",dict:=none,data:= .seq its.toArray c',slots:=#[]}->EP X JI σ Q (.ref s.heap.objs.size) {s with heap:=h'}:=λits r' hz h' c' kp e=>
  ⟨.ref s.heap.objs.size,_,I.laid (t':=s.toks) kp (Dz _) (show aE X.prog X.w _ h' _ (.lst ys) from⟨hz,its,c',r',e⟩),rfl,q _ (I.hok.fresh (Dz _))⟩
 rcases hq with hq | hq
 ·obtain⟨its,r',pl,hz⟩:=I.list hq;have hlen:=r'.length;obtain⟨o,ho,hc,n,hd⟩:=pl.isList;exact call_list_seq p (.inl rfl) ho hc hd (λh' c' kp e=>fin its r' hz h' c' kp e) (by simp only [D4] <;> omega)
 ·obtain⟨its,r',pl,hz⟩:=I.tuple hq;have hlen:=r'.length;obtain⟨o,ho,hc,n,hd⟩:=pl;exact call_list_seq p (.inr rfl) ho hc hd (λh' c' kp e=>fin its r' hz h' c' kp e) (by simp only [D4] <;> omega)
def sY(K:Dj)(T:String)(x:V)(H:Hp):Prop:=match x with
 | .str _=>T="str"
 | .int _=>T="int"
 | .ref p=>(T="list"/\∃xs,aG K H p xs)\/(T="tuple"/\∃o,K.lookup p=some o/\o.cls= .type "tuple"/\o.dict=none)\/
  (T="dict"/\((∃kvs,H p=some (.dK kvs))\/∃kvs,H p=some (.dT kvs)))\/(T="set"/\∃S n,H p=some (.set S n))
 | _=>False
theorem xl{JI:List (Ip×Obj)}{σ:St}{H:Hp}{s:Iq}{T:String}{x:V}{v:Io}(I:aa X JI σ H s)(r:au x v)(ty:sY X.K T x H):
 s.TypeIs v T/\∀a,v= .ref a->∃ob,s.heap.get? a=some ob/\ob.dict=none:=by
 cases x with
 | str z=>
  obtain⟨t,rfl⟩:=r;cases (show T="str" from ty);exact⟨Jb s z t,λ_ e=>nomatch e⟩
 | int i=>
  obtain⟨t,rfl⟩:=r;cases (show T="int" from ty);exact⟨typeIs_int s i t,λ_ e=>nomatch e⟩
 | ref p=>
  cases r;rcases ty with⟨rfl,xs,hq⟩ | ⟨rfl,o,hk,hc,hd⟩ | ⟨rfl,hk⟩ | ⟨rfl,S,n,hk⟩
  ·obtain⟨its,_,pl,_⟩:=I.list hq;refine⟨pl.isList.typeIs,λa e=>?_⟩;cases e;obtain⟨o,n,e,c,hd,_⟩:=pl;exact⟨o,e,hd⟩
  ·refine⟨⟨o,I.kIn p o hk,hc⟩,λa e=>?_⟩;cases e;exact⟨o,I.kIn _ o hk,hd⟩
  ·have z:∃o,s.heap.get? p=some o/\o.ExactDict:=by
    rcases hk with⟨kvs,hk⟩ | ⟨kvs,hk⟩
    ·obtain⟨_,_,_,_,o,_,_,e,ex,_⟩:=I.hok p _ hk;exact⟨o,e,ex⟩
    ·obtain⟨_,_,_,_,o,_,_,e,ex,_⟩:=I.hok p _ hk;exact⟨o,e,ex⟩
   obtain⟨o,e,ex⟩:=z;refine⟨⟨o,e,ex.1⟩,λa e2=>?_⟩;cases e2;exact⟨o,e,ex.2.1⟩
  ·obtain⟨o,_,_,_,e,ex,_⟩:=I.hok p _ hk;refine⟨⟨o,e,ex.1⟩,λa e2=>?_⟩;cases e2;exact⟨o,e,ex.2.1⟩
 | _=>exact E2 ty
def xm(K:Dj)(T:String)(r:V->List V->Hp->VK->Prop)(to:TE)(t:TA):TE:=λσ H Q=>to σ H λx H1=>sY K T x H1/\t σ H1 λxs H2=>r x xs H2 Q
variable {o e:Iu} {es:List Iu} {to:TE} {t:TA} {name:Str} {apos cpos:Pos} {T id:String} {r:V->List V->Hp->VK->Prop}
theorem n6(pa:PlainAttrs T)(slot:Slot T name id)(hty:typeOf (.builtin id)=pure (.type "method_descriptor"))(hm:mR X id r)(ho:PE X o to)(ha:PA X (e::es) t)
 (hbase:Jh o name X.env (eval o X.env)=eval o X.env:=by rfl)
 (hfew:((IS cpos (Iw (e::es) X.env)).all (λx=>!x.1) && (backToKw cpos (Js [] X.env)).all (λx=>x.1.isSome)
   && decide ((e::es).length+([]:List Jn).length+(if ([]:List Jn).isEmpty then 0 else 1) < 30))=true:=by rfl)
 (hline:(apos.endLine==cpos.line)=true:=by rfl)(hs:Iw (e::es) X.env=(false,eval e X.env)::Iw es X.env:=by rfl)(hplain:(IS cpos (Iw es X.env)).any (·.1)=false:=by rfl):
 PE X (.Call (.Attribute o name apos) (e::es) [] cpos) (xm X.K T r to t):=by
 intro JI s σ H Q I h;refine wpAny_Call_method_late hbase hfew hline rfl (ak (ho JI s σ H _ I h) λv s1 ⟨x,H1,I1,r1,ty,q1⟩=>?_);obtain⟨h1,h2⟩:=xl I1 r1 ty;refine⟨T,id,pa,slot,hty,h1,h2,?_⟩;have hA:=ha cpos JI s1 σ H1 _ I1 q1;rw [hs] at hA⊢;refine GW (by show(false || (IS cpos (Iw es X.env)).any (·.1))=false;rw [hplain] <;> rfl) (G7 ?_);exact ak hA λus s2 uu55=>by obtain⟨vs,H2,I2,r2,q2⟩:=uu55;exact hm JI s2 σ H2 x vs v us Q I2 r1 r2 q2
end
def xn(X:Cx)(id:String)(r:V->List V->Hp->VK->Prop):Prop:=
 ∀(JI:List (Ip×Obj))(s:Iq)(σ:St)(H:Hp)(x:V)(xs:List V)(v:Io)(us:List Io)(Q:VK),aa X JI σ H s->au x v->az xs us->r x xs H Q->
  Iz (Iy X.prog X.w) X.A (call (.builtin id) (v::us)) (EP X JI σ Q) X.xe s
theorem az.one:∀{x:V}{us:List Io},az [x] us->∃u,us=[u]/\au x u
 | _,_,.cons r .nil=>⟨_,rfl,r⟩
section
variable {X:Cx} {JI:List (Ip×Obj)} {σ:St} {H:Hp} {s:Iq} {l b:Ip} {xs ys zs:List V}
theorem aa.lset{its its':List Io}{n:Nat}{f:Array Io->Array Io}{t':Nat}(I:aa X JI σ H s)(hH:H l=some (.lst xs))
 (e:s.heap.get? l=some {cls:= .type "list",data:= .seq its.toArray n})(hf:f its.toArray=its'.toArray)(hv:az ys its')(hz:ys.length<=Ir):
 aa X JI σ (ah H l (.lst ys)) {s with heap:=s.heap.update l (GG f),toks:=t'}:=by
 have q:=PySem.IsL.update e f;rw [hf] at q;refine I.write (x:=l) (e:=l) (by rw [hH];exact trivial) (.inl rfl) (λb' u hb hu=>(FG s.heap (GG f) (Ne.symm hb)).trans hu) ⟨_,q⟩ ?_;exact⟨hz,its',_,hv,q⟩
theorem aa.lnew{its:List Io}{t':Nat}(I:aa X JI σ H s)(hv:az ys its)(hz:ys.length<=Ir):
 aa X JI σ (ah H s.heap.objs.size (.lst ys)) {s with heap:=s.heap.push {cls:= .type "list",data:= .seq its.toArray},toks:=t'}:=
 I.laid (λ_ _ q=>Dr _ q) (Dz _) ⟨hz,its,0,hv,EW _ rfl⟩
theorem aa.fresh(I:aa X JI σ H s):H s.heap.objs.size=none:=I.hok.fresh (Dz _)
theorem aa.lstM(I:aa X JI σ H s)(hH:H l=some (.lst xs)):xs.length<=Ir/\∃(its:List Io)(n:Nat),az xs its/\xs.length=its.length/\s.heap.get? l=some {cls:= .type "list",data:= .seq its.toArray n}:=by
 obtain⟨z,its,n,r,e⟩:=I.hok l _ hH;exact⟨z,its,n,r,r.length,e⟩
end
section
variable {X:Cx}
def xo:V->List V->Hp->VK->Prop:=λx vs H Q=>∃l xs y,x= .ref l/\vs=[y]/\H l=some (.lst xs)/\xs.length < Ir/\Q .non (ah H l (.lst (xs++[y])))
theorem xp:xn X "list.append" xo:=by
 intro JI s σ H x vs v us Q I rx rv h;obtain⟨l,xs,y,rfl,rfl,hH,hz,q⟩:=h;cases rx;obtain⟨u,rfl,ru⟩:=rv.one;obtain⟨z,its,n,r,hl,e⟩:=I.lstM hH;refine Jl F.slot_list_append ⟨_,e,rfl⟩ F.entry_list_append (F.args_list_append_2 _ _) (PySem.list_append l its.toArray n u (by rw [D4];omega)) ⟨e,?_⟩;refine⟨.non,_,I.lset (its':=its++[u]) hH e Il (r.append (.cons ru .nil)) ?_,rfl,q⟩;rw [Fs,List.length_singleton];omega
end
end L2
namespace Att
open PySem PySem.W PySem.Calls PyProof.Rows
theorem xq{P:Params}{h:IC}:∀(ns:List Int)(vs:List Io),WellAll P h vs (ns.map FD)->IntsAre vs ns:=by
 intro ns
 induction ns with
 | nil=>
  intro vs w;rw [DQ] at w;cases w;exact .nil
 | cons n ns ih=>
  intro vs w;rw [Dq] at w;cases w with
  | cons a b=>
   cases a;exact .cons _ _ (ih _ b)
theorem xr{l:OpenLaw}{n:Nat}(hn:l.most=some n){P:Params}{h:IC}{args:List WData}{vals:List Io}
 (hpre:l.row.toRowW.claim.pre args=true)(hwl:WellAll P h vals args):
 ∃a vs ns,vals=[DC a]/\args=[GH (ns.map FD)]/\h.get? a=some {cls:= .type "list",data:= .seq vs.toArray}/\IntsAre vs ns/\ns.length<=n:=by
 have hsh:WShape.hasAll [] args [.list .int]=true:=(pre_splitW hpre).1;have hc:l.pre.holds [] {args:=args}=true:=(pre_splitW hpre).2;obtain⟨d,r,rfl,h1,h2⟩:=hasAllW_cons hsh;obtain rfl:=hasAllW_nil h2;obtain⟨xs,rfl,h3⟩:=hasW_list h1;obtain⟨ns,rfl⟩:=items_int h3;have hlen:ns.length<=n:=by
  unfold OpenLaw.pre at hc;have h4:(WTm.not (.lt (.lit (.int (n:Int))) (.len (.arg 0)))).holds [] {args:=[.list (ns.map .int)]}=true:=by
   have h4:=(holds_andW hc).1;rw [hn] at h4;exact h4
  have h5:=condW_of h4 (w_not (w_lt w_lit (w_len_list (w_arg rfl))));rw [E1] at h5;refine GK λq=>?_;have q':(n:Int) < ((ns.length:Nat):Int):=Ih
  first
   | (rw [decide_eq_true q'] at h5;exact absurd h5 Ce)
   | (simp at h5;omega)
 cases hwl with
 | cons w1 w2=>
  cases w2;cases w1 with
  | list ho hall=>exact⟨_,_,ns,rfl,rfl,ho,xq ns _ hall,hlen⟩
theorem xt(l:OpenLaw)(args:List WData):l.row.toRowW.claim.post args (.bool true) args=true:=
 postW_of (r:=l.row.toRowW) (X:=(true==true))
  (show WShape.has [] (.bool true) .bool=true by first | rfl | decide | simp [WShape.has,WShape.arms,WShape.armsAll])
  (show(WTm.eq .res (.lit (.bool true))).value [] {args:=args,res:=some (.bool true),after:=args}=some (.bool (true==true)) from w_eq_bool (w_res rfl) w_lit) rfl
end Att
namespace L2
open PySem PySem.Spec PyProof.Rows
theorem sZ:∀{vs:List Io}{ns:List Int},IntsAre vs ns->az (ns.map V.int) vs
 | _,_,.nil=>.nil
 | _,_,.cons n t h=>.cons ⟨t,rfl⟩ (sZ h)
def n8(H:Hp):Prop:=∀b,H b=none\/∃o xs,H b=some (.frz o (.lst xs))
theorem xu{P:IE}{w:IF}{K:Dj}{mg mb:Str->Option Io}{CX:cC}{k:Nat}{fa a:Ip}{fd:IB}{x:Str}{sp:Sp}{s₁:Iq}{vs:List Io}{ns:List Int}
 (KX:K.In s₁.heap)(hns:s₁.heap.Ns IA mg)(hb:s₁.heap.Ns builtinsNs mb)(hbb:∀x:Str,x≠"__name__"->mb x=IK x)(hlim:s₁.heap.NoLimit)(hg:s₁.gens=#[])
 (ha:s₁.heap.get? a=some {cls:= .type "list",data:= .seq vs.toArray})(hi:IntsAre vs ns)(hl:ns.length<=Ir)(hr:aU k callerA)
 (F:∀base:IC,K.In base->base.Ns IA mg->aA P w K mg base CX k fa fd [x] sp)(hbind:∀(s:Iq) (u:Io),BindsTo s fd ⟨[u],[]⟩ [(x,u)])
 (hsp:∀H:Hp,n8 H->aG K H a (ns.map V.int)->sp [.ref a] H (λv _=>v= .bl true) λ_ _ _=>False)
 (hCX:∀H e s',CX [] H s₁ (λ_ _ _=>False) e s'->False):
 Jr (Iy P w) callerA (.call (.ref fa) ⟨[.ref a],[]⟩) (λr s'=>r= .ok (.ret (.bool true))/\OldK s₁.heap s'.heap/\s'.os=s₁.os/\Jp s'.gens) s₁:=by
 have rv:=sZ hi;have lenV:=hi.length;have core:∀H:Hp,n8 H->aG K H a (ns.map V.int)->aH P w H s₁.heap->(∀b,H b≠none->b=a)->(H a≠none->K.lookup a=none)->
  Jr (Iy P w) callerA (.call (.ref fa) ⟨[.ref a],[]⟩) (λr s'=>r= .ok (.ret (.bool true))/\OldK s₁.heap s'.heap/\s'.os=s₁.os/\Jp s'.gens) s₁:=by
  intro H hO hS hok hA hK;have base_of:∀{b:Ip}{o:Obj},s₁.heap.get? b=some o->H b=none->(kz s₁.heap H).get? b=some o:=λe n=>v9 e n;have noA:∀{b:Ip}{o:Obj}{es:Array Jx}{ep:Nat},s₁.heap.get? b=some o->o.data= .dict es ep->H b=none:=λ{b o es ep} e d=>by
   cases q:H b with
   | none=>rfl
   | some u=>
    have e':b=a:=hA b (by rw [q];simp);subst e';rw [ha] at e;cases e;have d':Data.seq vs.toArray _=Data.dict es ep:=d;cases d'
  have nsK:∀{b:Ip}{m:Str->Option Io},s₁.heap.Ns b m->(kz s₁.heap H).Ns b m:=λ{b m} ⟨o,es,ep,e,d,r⟩=>⟨o,es,ep,base_of e (noA e d),d,r⟩;have hKb:K.In (kz s₁.heap H):=λb o e=>base_of (KX b o e) (by
   cases q:H b with
   | none=>rfl
   | some u=>
    have e':b=a:=hA b (by rw [q];simp);subst e';rw [hK (by rw [q];simp)] at e;cases e)
  have hM:Mod K mg (kz s₁.heap H):=⟨hKb,nsK hns,⟨mb,nsK hb,hbb⟩,let ⟨mc,h1,h2⟩:=hlim;⟨mc,nsK h1,h2⟩⟩;have e0:lD P w K mg (kz s₁.heap H) callerA [] s₁ H:=⟨rfl,hM,λb o e=>wd e,HU (v8 _ _),trivial,λb hb=>absurd (show b∈([]:List Ip) from hb) Il,hok,.of_eq hg⟩;refine JA ((F _ hKb (nsK hns)).run callerA [] s₁ H ⟨[.ref a],[]⟩ [.ref a] [.ref a] _ _ hr e0 (hbind s₁ (.ref a)) (.cons rfl .nil) (hsp H hO hS)) λr s' h=>?_;cases r with
  | error e=>exact(hCX H e s' h).elim
  | ok fl=>
   cases fl with
   | next=>exact E2 h
   | brk=>exact E2 h
   | cont=>exact E2 h
   | ret u=>
    obtain⟨v,H',os,bare,un,hok',r',q⟩:=h;have q':v= .bl true:=q;subst q';obtain rfl:u=Fy true:=r';refine⟨rfl,OldK.of_keep λb o e=>?_,os,bare⟩;cases q:H b with
    | none=>exact un.keep b o e q (by intro z;exact absurd (show b∈([]:List Ip) from z) Il) Il
    | some u=>
     rcases hO b with z | ⟨ob,xs,z⟩
     ·rw [q] at z;cases z
     ·have z2:=un.frzs b ob _ z;obtain⟨e1,_⟩:=hok b _ z;obtain⟨e2,_⟩:=hok' b _ z2;rw [e] at e1;cases e1;exact e2
 cases hk:K.lookup a with
 | some o=>
  have e:=KX a o hk;rw [ha] at e;cases e;refine core (λ_=>none) (λ_=>.inl rfl) (.inr ⟨_,vs.toArray,_,hk,rfl,rfl,rfl,by rw [D4,lenV];exact hl,by simpa using rv⟩) (λb u z=>by have z':(none:Option HO)=some u:=z;cases z') (λb z=>absurd rfl z) λz=>absurd rfl z
 | none=>
  refine core (λb=>if b=a then some (.frz {cls:= .type "list",data:= .seq vs.toArray} (.lst (ns.map V.int))) else none) (λb=>?_) (.inl (.inr ⟨{cls:= .type "list",data:= .seq vs.toArray},Ij rfl⟩)) (λb u z=>?_) (λb z=>?_) λ_=>hk
  ·by_cases hb:b=a
   ·exact .inr ⟨_,_,Ij hb⟩
   ·exact .inl (Ii hb)
  ·by_cases hb:b=a
   ·have z':=(Ij hb).symm.trans z;cases z';subst hb;exact⟨ha,by rw [E1];exact hl,vs,_,rv,ha⟩
   ·have z':=(Ii hb).symm.trans z;cases z'
  ·by_cases hb:b=a
   ·exact hb
   ·exact absurd (Ii hb) z
abbrev KOf{K:Dj}{h:IC}(_:K.In h):Dj:=K
def inClass(s:II)(j:Nat):II:=match s with
 | .ClassDef _ _ _ body _ _ _ _ _ _ _=>body.getD j (.Pass ⟨0,0,0,0⟩)
 | _=>.Pass ⟨0,0,0,0⟩
def kh(s:II):Arguments:=match s with
 | .FunctionDef _ a _ _ _ _ _ _ _ _=>a
 | _=>{posonlyargs:=[],args:=[],vararg:=none,kwonlyargs:=[],kw_defaults:=[],kwarg:=none,defaults:=[]}
def jG(s:II):List II:=match s with
 | .FunctionDef _ _ b _ _ _ _ _ _ _=>b
 | _=>[]
def ax(s:II):IU:=match s with
 | .FunctionDef _ _ _ _ _ _ sc _ _ _=>sc
 | _=>{kind:= .function,names:=[],isGenerator:=false,isCoroutine:=false}
abbrev CX0:cC:=λ_ _ _ _ _ _=>False
abbrev E0:XK:=λ_ _ _=>False
theorem tf{X:Cx}:mh CX0 X E0:=λ_ _ _ _ _ _ _ h=>h.elim
structure ju (K:Dj) (x qual:Str) (st:II) (f:Ip) (fd:IB):Prop where
 ex:∃(oc:Io)(od:Option Ip)(kV doc pm:Io)(an:Option Ip)(cdv ct:Io)(osl:Array (Option Io)),
  fd=E5 x qual (kh st) (jG st) (ax st) .none kV doc pm an cdv ct/\K.lookup f=some ⟨oc,od,.func fd,osl⟩/\F0 K cdv qual=true
 kp:Fm K (.ref f)=true
section
variable {P:IE} {w:IF} {K:Dj} {mg:Str->Option Io} {base:IC}
theorem ju.ok{x qual:Str}{st:II}{f:Ip}{fd:IB}{N ps:List Str}{k:Nat}{sp:Sp}(F:ju K x qual st f fd)(S:aL N ps (ax st))(len:∀vs H Q E,sp vs H Q E->vs.length=ps.length)
 (hbody:∀(cdv:Io) (A:IH) (outer:List Env) (s:Iq) (H:Hp) (vs:List V) (Q:VK) (E:XK),aU k (A.deeper (Jm qual (ax st) s.heap.objs.size f cdv))->sp vs H Q E->
   ∃t,aR (bp CX0 P w K mg base N qual (ax st) f cdv A outer s H E).nox (jG st) t/\t {nx:=λ_ H'=>Q .non H',rt:=Q} (start N vs) H):aA P w K mg base CX0 (k+1) f fd ps sp:=by
 obtain⟨oc,od,kV,doc,pm,an,cdv,ct,osl,rfl,lk,hcd⟩:=F.ex;refine sT lk hcd S len λA outer s H vs Q E hr hsp=>?_;obtain⟨t,h,q⟩:=hbody cdv A outer s H vs Q E hr hsp;exact⟨t,h.nox,q⟩
theorem ju.binds{x qual:Str}{st:II}{f:Ip}{fd:IB}{ps:List Str}(F:ju K x qual st f fd)
 (h:∀(kV doc pm:Io) (an:Option Ip) (cdv ct:Io) (us:List Io),us.length=ps.length->bindArgs (E5 x qual (kh st) (jG st) (ax st) .none kV doc pm an cdv ct) ⟨us,[]⟩=pure (ps.zip us)):jW K fd ps []:=by
 obtain⟨oc,od,kV,doc,pm,an,cdv,ct,osl,rfl,lk,hcd⟩:=F.ex;exact .all (h kV doc pm an cdv ct)
theorem tj{x qual:Str}{st:II}{f:Ip}{oc:Io}{od an:Option Ip}{osl:Array (Option Io)}{kV doc pm cdv ct:Io}(l:K.lookup f=some ⟨oc,od,.func (E5 x qual (kh st) (jG st) (ax st) .none kV doc pm an cdv ct),osl⟩)
 (c:F0 K cdv qual=true)(k:Fm K (.ref f)=true):ju K x qual st f (E5 x qual (kh st) (jG st) (ax st) .none kV doc pm an cdv ct):=⟨⟨oc,od,kV,doc,pm,an,cdv,ct,osl,rfl,l,c⟩,k⟩
end
section
variable {X:Cx}
theorem pv(i:Nat){x:Str}{pos:Pos}(hN:X.N[i]?=some x:=by rfl)(hv:mG X.env.scope x:=by first | exact GL rfl | exact F5 (GL rfl) | exact F5 (F5 rfl))(hd:(x==("__debug__":Str))=false:=by decide)
 (hcd:(x==("__classdict__":Str))=false:=by decide):PE X (.Name x pos) (kA i):=lg hN hv hd hcd
end
def ai(H H':Hp):Prop:=∀b o,H b=some o->H' b=some o
theorem ai.refl(H:Hp):ai H H:=λ_ _ h=>h
theorem ai.trans{H H1 H2:Hp}(a:ai H H1)(b:ai H1 H2):ai H H2:=λc o h=>b c o (a c o h)
def jL(env:Env)(names:List (Str×IW))(cs:List (Str×Ip)):List (Str×Ip):=
 names.foldl (λcs p=>if (p.2==EX)=true then(p.1,(env.cells.lookup p.1).getD 0)::cs else cs) cs
theorem xv{scope:IU}{env:Env}(h:∀y∈scope.names,y.2= .free->∃c,env.cells.lookup y.1=some c):closureFor scope env=pure (jL env scope.names []):=by
 unfold closureFor;have key:∀(l:List (Str×IW))(cs:List (Str×Ip)),(∀y∈l,y.2= .free->∃c,env.cells.lookup y.1=some c)->
  (forIn l cs λ(x:Str×IW) (r:List (Str×Ip))=>(if (x.2==EX)=true then do let a<-cellOf env x.1;pure (FF ((x.1,a)::r)) else pure (FF r):Sem (ForInStep (List (Str×Ip)))))=pure (jL env l cs):=by
  intro l
  induction l with
  | nil=>intro cs _;rfl
  | cons p r ih=>
   intro cs hl;rw [List.forIn_cons];by_cases hk:(p.2==EX)=true
   ·obtain⟨c,hc⟩:=hl p E4 (by simpa using hk);rw [Ij hk];have e:cellOf env p.1=pure c:=by unfold cellOf;rw [hc]
    rw [e];simp only [pure_bind];rw [ih _ λy hy=>hl y (EK _ hy)];unfold jL;rw [FW,Ij hk,hc];rfl
   ·rw [Ii hk];simp only [pure_bind];rw [ih _ λy hy=>hl y (EK _ hy)];unfold jL;rw [FW,Ii hk]
 have:=key scope.names [] h;simp only [bind_pure];exact this
theorem qf{env:Env}:∀(l:List (Str×IW))(cs:List (Str×Ip)){x:Str}{c:Ip},(∀y∈l,y.2= .free->∃c,env.cells.lookup y.1=some c)->(∀y d,cs.lookup y=some d->env.cells.lookup y=some d)->
 (jL env l cs).lookup x=some c->env.cells.lookup x=some c
 | [],cs,x,c,_,hc,h=>hc x c h
 | p::r,cs,x,c,hl,hc,h=>by
  unfold jL at h;rw [FW] at h;by_cases hk:(p.2==EX)=true
  ·rw [Ij hk] at h;refine qf r _ (λy hy=>hl y (EK _ hy)) (λy d e=>?_) h;obtain⟨a,ha⟩:=hl p E4 (by simpa using hk);rw [D5] at e;cases hx:y==p.1 with
   | true=>
    rw [hx] at e;have hy:y=p.1:=by simpa using hx
    rw [ha] at e;cases e;rw [hy];exact ha
   | false=>rw [hx] at e;exact hc y d e
  ·rw [Ii hk] at h;exact qf r cs (λy hy=>hl y (EK _ hy)) hc h
theorem qg{env:Env}:∀(l:List (Str×IW))(cs:List (Str×Ip)){x:Str},(∃c,cs.lookup x=some c)->∃c,(jL env l cs).lookup x=some c
 | [],cs,x,h=>h
 | p::r,cs,x,⟨c,h⟩=>by
  unfold jL;rw [FW];by_cases hk:(p.2==EX)=true
  ·rw [Ij hk];refine qg r _ ?_;rw [D5];cases hx:x==p.1 with
   | true=>exact⟨_,rfl⟩
   | false=>exact⟨c,h⟩
  ·rw [Ii hk];exact qg r cs ⟨c,h⟩
theorem qh{env:Env}:∀(l:List (Str×IW))(cs:List (Str×Ip)){x:Str},(x,EX)∈l->∃c,(jL env l cs).lookup x=some c
 | [],_,_,h=>by simp at h
 | p::r,cs,x,h=>by
  unfold jL;rw [FW];rcases EL.mp h with e | e
  ·subst e;rw [Ij (by rfl)];exact qg r _ ⟨(env.cells.lookup x).getD 0,by rw [D5];simp⟩
  ·exact qh r _ e
theorem xw{env:Env}{scope:IU}{x:Str}(h:(relabel scope env).names.lookup x=some .cell\/(relabel scope env).names.lookup x=some .free):scope.names.lookup x=some .free\/scope.names.lookup x=some .cell:=by
 have key:∀(l:List (Str×IW)),
  ((l.map λ(n,k)=>if (k==EX && env.scope.kind== .function && env.kindOf n==some .cell) then(n,F7) else(n,k)).lookup x=some .cell\/
  (l.map λ(n,k)=>if (k==EX && env.scope.kind== .function && env.kindOf n==some .cell) then(n,F7) else(n,k)).lookup x=some .free)->l.lookup x=some .free\/l.lookup x=some .cell:=by
  intro l
  induction l with
  | nil=>intro h;simp at h
  | cons p r ih=>
   obtain⟨n,k⟩:=p;intro h;rw [Dq] at h;rw [D5];by_cases hx:x=n
   ·subst hx;rw [beq_self_eq_true];by_cases hq:(k==EX && env.scope.kind== .function && env.kindOf x==some .cell)=true
    ·have:k= .free:=by simp only [E6,beq_iff_eq] at hq;exact hq.1.1
     subst this;exact .inl rfl
    ·simp only [Ii hq,D5,beq_self_eq_true] at h;exact h.symm
   ·have hb:(x==n)=false:=by simpa using hx
    rw [hb];refine ih ?_;by_cases hq:(k==EX && env.scope.kind== .function && env.kindOf n==some .cell)=true
    ·simpa only [Ij hq,D5,hb] using h
    ·simpa only [Ii hq,D5,hb] using h
 exact key scope.names h
theorem xx{env:Env}{scope:IU}{x:Str}(h:scope.names.lookup x=some .cell\/scope.names.lookup x=some .free):(relabel scope env).names.lookup x=some .cell\/(relabel scope env).names.lookup x=some .free:=by
 have key:∀(l:List (Str×IW)),l.lookup x=some .cell\/l.lookup x=some .free->
  ((l.map λ(n,k)=>if (k==EX && env.scope.kind== .function && env.kindOf n==some .cell) then(n,F7) else(n,k)).lookup x=some .cell\/
  (l.map λ(n,k)=>if (k==EX && env.scope.kind== .function && env.kindOf n==some .cell) then(n,F7) else(n,k)).lookup x=some .free):=by
  intro l
  induction l with
  | nil=>intro h;simp at h
  | cons p r ih=>
   obtain⟨n,k⟩:=p;intro h;rw [Dq];by_cases hx:x=n
   ·subst hx;rw [D5,beq_self_eq_true] at h;by_cases hq:(k==EX && env.scope.kind== .function && env.kindOf x==some .cell)=true
    ·left;simp only [Ij hq,D5,beq_self_eq_true]
    ·simp only [Ii hq,D5,beq_self_eq_true];exact h
   ·have hb:(x==n)=false:=by simpa using hx
    rw [D5,hb] at h;by_cases hq:(k==EX && env.scope.kind== .function && env.kindOf n==some .cell)=true
    ·simpa only [Ij hq,D5,hb] using ih h
    ·simpa only [Ii hq,D5,hb] using ih h
 exact key scope.names h
structure jv (sc:IU) (N N':List Str) (k:Nat) (fr:List Nat) (scope:IU):Prop where
 kind:scope.kind= .function
 cell:∀y∈scope.names,y.2= .cell->scope.names.lookup y.1=some .cell
 names:∀y∈scope.names,y.2= .local->scope.names.lookup y.1=some .local
 nd:N'.Nodup
 slot:fr.map (λj=>N[j]?)=(N'.drop k).map some
 frees:∀x∈N'.drop k,scope.names.lookup x=some .free
 outer:∀y∈scope.names,y.2= .free->sc.names.lookup y.1=some .cell\/sc.names.lookup y.1=some .free
 outer':∀x∈N'.drop k,sc.names.lookup x=some .cell\/sc.names.lookup x=some .free
 len:N'.length=k+fr.length
theorem n9:∀(l:List (Str×IW)){n:Nat}{a:List (Str×Ip)}{x:Str}{c:Ip},(IT n l a).lookup x=some c->n<=c\/a.lookup x=some c
 | [],_,_,_,_,h=>.inr h
 | (y,k)::r,n,a,x,c,h=>by
  unfold IT at h;split at h
  ·rcases n9 r h with z | z
   ·exact .inl Ih
   ·rw [D5] at z;split at z
    ·exact .inl (by cases z;exact Dz _)
    ·exact .inr z
  ·exact n9 r h
theorem qi:∀(l:List (Str×IW)){n:Nat}{a:List (Str×Ip)}{x:Str}{c:Ip},l.lookup x=some .cell->(IT n l a).lookup x=some c->n<=c
 | [],_,_,_,_,e,_=>nomatch e
 | (y,k)::r,n,a,x,c,e,h=>by
  unfold IT at h;rw [D5] at e;cases hx:x==y with
  | true=>
   rw [hx] at e;cases e;have h:List.lookup x (IT (n+1) r ((y,n)::a))=some c:=h;rcases n9 r h with z | z
   ·exact GF z
   ·rw [D5,hx] at z;cases z;exact Dz _
  | false=>
   rw [hx] at e;split at h
   ·exact GF (qi r e h)
   ·exact qi r e h
theorem qj:∀(l:List (Str×IW)){n:Nat}{a:List (Str×Ip)}{x:Str},(∀y∈l,y.2= .cell->y.1≠x)->(IT n l a).lookup x=a.lookup x
 | [],_,_,_,_=>rfl
 | (y,k)::r,n,a,x,h=>by
  unfold IT;split
  ·rename_i hk;rw [qj r λz hz=>h z (EK _ hz),D5];have:(x==y)=false:=by simpa using Ne.symm (h (y,k) E4 (by simpa using hk))
   rw [this]
  ·exact qj r λz hz=>h z (EK _ hz)
theorem qm:∀(l:List (Str×IW)){n:Nat}{a:List (Str×Ip)},(∀x c,a.lookup x=some c->c < n)->(∀x y c,a.lookup x=some c->a.lookup y=some c->x=y)->∀x y c,(IT n l a).lookup x=some c->(IT n l a).lookup y=some c->x=y
 | [],_,_,_,h=>h
 | (z,k)::r,n,a,hl,hi=>by
  unfold IT;split
  ·have one:∀x c,((z,n)::a).lookup x=some c->x=z/\c=n\/c < n/\a.lookup x=some c:=λx c e=>by
    rw [D5] at e;cases hx:x==z with
    | true=>rw [hx] at e;cases e;exact .inl ⟨by simpa using hx,rfl⟩
    | false=>rw [hx] at e;exact .inr ⟨hl x c e,e⟩
   refine qm r (λx c e=>?_) λx y c e1 e2=>?_
   ·rcases one x c e with⟨_,z⟩ | ⟨z,_⟩
    ·rw [z];exact Nat.lt_succ_self _
    ·exact Hs z
   ·rcases one x c e1 with⟨a1,b1⟩ | ⟨a1,b1⟩ <;> rcases one y c e2 with⟨a2,b2⟩ | ⟨a2,b2⟩
    ·rw [a1,a2]
    ·omega
    ·omega
    ·exact hi x y c b1 b2
  ·exact qm r hl hi
theorem qo:∀(l:List (Str×IW)){h:IC}{a:List (Str×Ip)},(∀x c,a.lookup x=some c->∃v,h.IsCell c v)->∀x c,(IT h.objs.size l a).lookup x=some c->∃v,(pushCells h l).IsCell c v
 | [],_,_,h=>h
 | (z,k)::r,h,a,ha=>by
  unfold IT pushCells;split
  ·have:=qo r (h:=h.push {cls:= .type "cell",data:= .cell none}) (a:=(z,h.objs.size)::a) λx c e=>by
    rw [D5] at e;split at e
    ·cases e;exact⟨none,_,EW _ rfl,rfl⟩
    ·obtain⟨v,q⟩:=ha x c e;exact⟨v,q.keeps λb o e=>Dr _ e⟩
   rwa [G1] at this
  ·exact qo r ha
def oa(X:Cx)(scope:IU)(C:Ip):List (Str×Ip):=IT (C+1) scope.names (jL X.env scope.names [])
def bJ(X:Cx)(scope:IU)(N':List Str)(fp:List Ip)(C:Ip)(s:Iq)(H:Hp):Cx where
 prog:=X.prog
 w:=X.w
 K:=X.K
 mg:=X.mg
 base:=X.base
 A:=X.A
 N:=N'
 s₀:=s
 H₀:=H
 env:=compEnvC scope (oa X scope C) C X.env
 outer:=X.stack
 stack:=X.stack
 ex:=fp
 fn:=λx=>scope.names.lookup x==some .cell
 calm:=X.calm
 pn:=[]
 xe:=λ_ _=>False
def aY(k:Nat)(fr:List Nat)(σ:St):St:=Dx k none++fr.map λj=>(σ[j]?).join
def mm(σ σ':St):Prop:=σ.length=σ'.length/\∀(i:Nat) v,σ[i]?=some (some v)->σ'[i]?=some (some v)
section
variable {X:Cx} {JI:List (Ip×Obj)} {σ:St} {H:Hp} {s:Iq} {scope:IU} {N':List Str} {k:Nat} {fr:List Nat} {fp:List Ip}
theorem qp(S:jv X.env.scope X.N N' k fr scope)(I:aa X JI σ H s):∀x c,(jL X.env scope.names []).lookup x=some c->X.env.cells.lookup x=some c:=λx c e=>qf scope.names [] (λy hy e=>I.ok.has y.1 (S.outer y hy e)) (λ_ _ z=>by simp at z) e
theorem tm(S:jv X.env.scope X.N N' k fr scope)(I:aa X JI σ H s){x:Str}{c:Ip}(e:(oa X scope s.heap.objs.size).lookup x=some c):s.heap.objs.size < c\/X.env.cells.lookup x=some c:=
 (n9 _ e).imp (λz=>z) λz=>qp S I x c z
theorem xy(S:jv X.env.scope X.N N' k fr scope)(I:aa X JI σ H s)(hf:∀b∈fp,kc X JI H b)(hlt:∀b∈fp,b < s.heap.objs.size):
 (bJ X scope N' fp s.heap.objs.size s H).Ok:=by
 have hcl:=qp S I;refine⟨I.ok.mod,S.kind,I.ok.glob,I.ok.blt,Dz _,qm _ (λx c e=>?_) (λx y c h1 h2=>I.ok.inj x y c (hcl x c h1) (hcl y c h2)),λx hx=>Fh.mp (F4 _ _ _ ?_),λx c h e=>GF (qi _ (eq_of_beq h) e),I.ok.hd,I.ok.frames,.inl rfl,λb hb=>⟨Em (hlt b hb),λx c e=>?_⟩,
  I.bs,EY I.ok.bsz I.sz,λb o e hb=>?_,λb hb hb'=>?_,I.stack,I.stkFree⟩
 ·obtain⟨v,o,ho,_⟩:=I.cell x c (hcl x c e);exact Hs (Ds ho)
 ·rcases xw hx with z | z
  ·exact .inr (Fh.mpr (qh _ _ (Fc z)))
  ·exact .inl z
 ·rcases tm S I e with z | z
  ·exact λq=>absurd (hlt b hb) (by rw [<-q];exact Nat.lt_asymm z)
  ·exact(hf b hb).2.2.2.2.1 x c z
 ·rcases(hf b hb).2.2.2.1 with z | z
  ·exact I.ok.noex b o e z
  ·exact absurd (DU (Ds e) (EY I.ok.bsz z)) (Fw _)
 ·rcases EL.mp (I.stkSub b hb') with z | z
  ·exact(hf b hb).2.1 z
  ·exact(hf b hb).2.2.1 z
theorem xA(S:jv X.env.scope X.N N' k fr scope)(I:aa X JI σ H s)(hf:∀b∈fp,kc X JI H b)(hlt:∀b∈fp,b < s.heap.objs.size){o:Obj}{h':IC}(e':h'=pushCells (s.heap.push o) scope.names)
 (hn:h'.Ns s.heap.objs.size (λ_=>none))(hk:∀b o,s.heap.get? b=some o->h'.get? b=some o):
 aa (bJ X scope N' fp s.heap.objs.size s H) [] (aY k fr σ) H {s with heap:=h'}:=by
 have hcl:=qp S I;refine⟨xy S I hf hlt,rfl,I.bare,Un.kept hk,⟨_,hn,λi x v h1 h2 h3=>?_⟩,λx c e=>?_,I.hok.fresh (Dz _),λx c e=>?_,λp hp=>absurd hp (by simp [bJ]),I.hok.kept hk,?_⟩
 ·have hi:k<=i:=by
   rcases Nat.lt_or_ge i k with z | z
   ·exfalso;unfold aY at h2;rw [Fg (by simpa using z),FC,Ij z] at h2;cases h2
   ·exact z
  have h2':(fr.map λj=>(σ[j]?).join)[i - k]?=some (some v):=by
   unfold aY at h2;rw [Fx (by simpa using hi)] at h2;simpa using h2
  have h1':(N'.drop k)[i - k]?=some x:=by
   rw [List.getElem?_drop,Nat.add_sub_cancel' hi];exact h1
  have hmem:x∈N'.drop k:=Gh h1';have e2:(fr.map λj=>X.N[j]?)[i - k]?=some (some x):=by
   rw [S.slot,E3,h1'];rfl
  obtain⟨j,hj,ej⟩:∃j,fr[i - k]?=some j/\X.N[j]?=some x:=by
   rw [E3] at e2;cases e:fr[i - k]? with
   | none=>rw [e] at e2;cases e2
   | some j=>rw [e] at e2;exact⟨j,rfl,Eu e2⟩
  have hv:σ[j]?=some (some v):=by
   rw [E3,hj] at h2';have h3':(σ[j]?).join=some v:=Eu h2';cases e:σ[j]? with
   | none=>rw [e] at h3';cases h3'
   | some o=>rw [e] at h3';rw [show o=some v from h3']
  obtain⟨m,hn0,hl⟩:=I.loc;have ho:=S.outer' x hmem;obtain⟨u,ru,lk⟩:=hl j x v ej hv (.inr ho);refine⟨u,ru,.inr ⟨xx (.inr (S.frees x hmem)),?_⟩⟩;rcases lk with⟨z,_⟩ | ⟨_,c,hc,hx⟩
  ·exfalso;rcases ho with ho | ho
   ·exact absurd (z.symm.trans ho) Il
   ·exact absurd (z.symm.trans ho) Il
  ·obtain⟨c',hc'⟩:=qh (env:=X.env) scope.names [] (Fc (S.frees x hmem));have:=hcl x c' hc';rw [hc] at this;cases this;obtain⟨o,ho,hd⟩:=hx;exact⟨c,(qj _ λy hy ey ex=>by have q:=S.cell y hy ey;rw [ex,S.frees x hmem] at q;cases q).trans hc',o,hk c o ho,hd⟩
 ·subst e';have:=qo scope.names (h:=s.heap.push o) (a:=jL X.env scope.names []) (λx c e=>by
   obtain⟨v,q⟩:=I.cell x c (hcl x c e);exact⟨v,q.keeps λb o e=>Dr _ e⟩) x c
  rw [G1] at this;exact this e
 ·rcases tm S I e with z | z
  ·exact I.hok.fresh (GJ z)
  ·exact I.freeC x c z
 ·unfold aY;show _=N'.length;rw [Fs,G0,E1,S.len]
end
section
variable {prog:IE} {w:IF} {A:IH} {E:Io->Iq->Prop} {R:Result->Iq->Prop} {s:Iq}
theorem xB{elt target iter:Iu}{ifs:List Iu}{scope:IU}{pos:Pos}{it acc:Io}{env:Env}(I:Nat->Iq->Prop)
 (turn:∀n s,I n s->Iz (Iy prog w) A (pyNext it) (λr s₁=>match r with
  | none=>R (.ok .next) s₁
  | some v=>Iz (Iy prog w) A (Jz target it v) (λ_ s₁'=>Iz (Iy prog w) A (assign target env v) (λ_ s₂=>
   Iz (Iy prog w) A (forIn ifs true λc r=>if r=true then do let ok<-isTrue c env (eval c env);pure (FF ok) else pure (FF r)) (λok s₃=>
    if ok=true then Iz (Iy prog w) A (eval elt env) (λx s₄=>
     Iz (Iy prog w) A (call (.builtin "list.append") [acc,x]) (λ_ s₅=>∃m,m < n/\I m s₅) (λ_ _=>False) s₄) (λ_ _=>False) s₃
    else ∃m,m < n/\I m s₃) (λ_ _=>False) s₂) (λ_ _=>False) s₁') (λ_ _=>False) s₁) (λ_ _=>False) s)
 (n:Nat)(h:I n s):
 Jr (Iy prog w) A (.compLoop (.ListComp elt [⟨target,iter,ifs,0⟩] scope pos) 0 it acc env) R s:=by
 refine codeAny_loop rfl I (λn s hI=>?_) n h;show Iz _ A ((compTurn (.ListComp elt [⟨target,iter,ifs,0⟩] scope pos) 0 it acc env).onRaise (λx=>do JC x env;theTreesLotGoes x)) _ _ s;refine wpAny_noted ?_;rw [compTurn_list];refine ID (JE (ID (IM (turn n s hI) (λr s₁ h₁=>?_) λ_ _ h'=>h'.elim)));cases r with
 | none=>exact IL h₁
 | some v=>
  refine ID (IM h₁ (λ_ s₁' h₁'=>?_) λ_ _ h'=>h'.elim);refine ID (IM h₁' (λ_ s₂ h₂=>ID (IM h₂ (λok s₃ h₃=>?_) λ_ _ h'=>h'.elim)) λ_ _ h'=>h'.elim);cases ok with
  | false=>exact IL ⟨rfl,h₃⟩
  | true=>
   exact ID (ID (IM h₃ (λx s₄ h₄=>ID (IM h₄ (λ_ s₅ h₅=>IL (IL ⟨rfl,h₅⟩)) λ_ _ h'=>h'.elim)) λ_ _ h'=>h'.elim))
end
def kC(X:Cx)(ifs:List Iu)(t:TT):Prop:=
 ∀(JI:List (Ip×Obj))(s:Iq)(σ:St)(H:Hp)(Q:Bool->Hp->Prop),aa X JI σ H s->t σ H Q->
  Iz (Iy X.prog X.w) X.A (forIn ifs true λc r=>if r=true then do let ok<-isTrue c X.env (eval c X.env);pure (FF ok) else pure (FF r)) (TP X JI σ Q) X.xe s
def tq:TT:=λ_ H Q=>Q true H
theorem tu{X:Cx}:kC X [] tq:=λJI s σ H Q I h=>wpAny_tests_nil ⟨H,I,h⟩
theorem aH.but{P:IE}{w:IF}{H:Hp}{h h':IC}{C:Ip}(x:aH P w H h)(hC:H C=none)(k:∀b o,b≠C->h.get? b=some o->h'.get? b=some o):aH P w H h':=λa o e=>by
 refine(x a o e).stay (λb u hb q=>k b u ?_ q) (λ_ q=>q) (λ_ _ q=>q) λ_ _ q=>q;intro z;subst z;rcases hb with z | z
 ·rw [<-z,hC] at e;cases e
 ·rw [hC] at z;cases z
theorem xC{M:Jq}{A:IH}{E:Io->Iq->Prop}{s:Iq}{scope:IU}{g:Ip}{cl:List (Str×Ip)}{qual:Str}{e:Env}{Q:Env->Iq->Prop}
 (hQ:∀h',h'=pushCells (s.heap.push {cls:= .type "dict",data:= .dict #[]}) scope.names->h'.Ns s.heap.objs.size (λ_=>none)->(∀b o,s.heap.get? b=some o->h'.get? b=some o)->
  Q (newEnv scope s.heap.objs.size g (IT (s.heap.objs.size+1) scope.names cl) qual none .none (some e) builtinsNs) {s with heap:=h'}):
 Iz M A (newFunctionEnv scope g cl [] qual none .none (some e)) Q E s:=by
 simp only [newFunctionEnv,Option.isSome_some,if_true];refine ID (wpAny_alloc (ID (wpAny_layCells _ (λname kind cells=>by cases hkc:kind==F7 <;> simp [hkc]) _ _ _ _ ?_)));rw [show({s with heap:=s.heap.push {cls:= .type "dict",data:= .dict #[]}}:Iq).heap.objs.size=s.heap.objs.size+1 from G1 ..];rw [List.forIn_nil];exact ID (IL (IL (hQ _ rfl ((Heap.Ns.new s.heap (.type "dict")).keeps (pushCells_keeps _ _)) λb o e=>pushCells_keeps _ _ b o (Dr _ e))))
def mn(wi:TI)(g:TG)(tc:TT)(te:TE)(k:Nat)(fr:List Nat):TE:=λσ H Q=>wi σ H λJ H1=>∀D,H1 D=none->∃W:Nat->Nat->Hp->Prop,(∃m,W 0 m (ah H1 D (.lst [])))/\∀i m H,W i m H->
 (J.stop i H/\Q (.ref D) H)\/(J.go i H/\∀x H',J.yld i H x H'->g x (aY k fr σ) H' λσ2 H2=>mm (aY k fr σ) σ2/\tc σ2 H2 λok H3=>
  if ok=true then te σ2 H3 λy H4=>∃ys,H4 D=some (.lst ys)/\ys.length < Ir/\∃m',m' < m/\W (i+1) m' (ah H4 D (.lst (ys++[y])))
  else ∃m',m' < m/\W (i+1) m' H3)
section
variable {X:Cx} {tg iter elt:Iu} {ifs:List Iu} {scope:IU} {N':List Str} {k:Nat} {fr:List Nat} {wi:TI} {g:TG} {tc:TT} {te:TE} {pos:Pos}
theorem xD{use:Option (Io->Sem Unit)}{Q':Io->Iq->Prop}{JI:List (Ip×Obj)}{s:Iq}{σ:St}{H:Hp}{Q:VK}(hc:X.calm=true)(S:jv X.env.scope X.N N' k fr scope)(hi:PI X tg iter wi)
 (hg:∀fp C s H,PG (bJ X scope N' fp C s H) tg g)(hf:∀fp C s H,kC (bJ X scope N' fp C s H) ifs tc)(he:∀fp C s H,PE (bJ X scope N' fp C s H) elt te)
 (I:aa X JI σ H s)(h:mn wi g tc te k fr σ H Q)
 (hQ:∀D C s' H',C≠X.env.locals->aa X JI σ H' s'->(∀h',Gf C s'.heap h'->aa X JI σ H' {s' with heap:=h'})->Q (.ref D) H'->(∃m,s'.heap.Ns C m)->X.env.locals < C->H' C=none/\(∀x c,X.env.cells.lookup x=some c->c≠C)/\(∀p∈X.pn++JI,p.1≠C)->compPost (Iy X.prog X.w) X.A X.xe use Q' (.ref D) C (.ok .next) s'):
 Iz (Iy X.prog X.w) X.A (eval iter X.env) (λx s₁=>Iz (Iy X.prog X.w) X.A (pyIter x) (λit s₂=>Iz (Iy X.prog X.w) X.A (newList []) (λacc s₃=>
  Iz (Iy X.prog X.w) X.A (newFunctionEnv scope X.env.globals (jL X.env scope.names []) [] X.env.qual none .none (some X.env)) (λcenv s₄=>
   Jr (Iy X.prog X.w) X.A (.compStart (.ListComp elt [⟨tg,iter,ifs,0⟩] scope pos) 0 it acc {cenv with scope:=relabel scope X.env}) (compPost (Iy X.prog X.w) X.A X.xe use Q' acc cenv.locals) s₄) X.xe s₃) X.xe s₂) X.xe s₁) X.xe s:=by
 refine ak (hi JI s σ H _ I h) λv s1 h1=>ak h1 λitv s2 h2=>?_;obtain⟨it,fp,tn,J,H2,e,I2,T,st2,f2,wW⟩:=h2;subst e;refine wpAny_newObj_type ?_;have hD0:H2 s2.heap.objs.size=none:=I2.hok.fresh (Dz _);obtain⟨W,⟨m0,w0⟩,turn⟩:=wW _ hD0;generalize hD:s2.heap.objs.size=D at*;have I3:aa X JI σ (ah H2 D (.lst [])) {s2 with heap:=s2.heap.push {cls:= .type "list",dict:=none,data:= .seq ([]:List Io).toArray}}:=by
  have:=I2.lnew (ys:=[]) (its:=[]) (t':=s2.toks) .nil (Fq _);rw [hD] at this;exact this
 generalize hs3:({s2 with heap:=s2.heap.push {cls:= .type "list",dict:=none,data:= .seq ([]:List Io).toArray}}:Iq)=s3 at*;have up23:∀b o,s2.heap.get? b=some o->s3.heap.get? b=some o:=λb o e=>by rw [<-hs3];exact Dr _ e
 have fpD:∀b∈fp,b≠D:=λb hb z=>by
  obtain⟨o,ho,_⟩:=T.obj _ _ st2 b hb;have:=Ds ho;rw [hD,z] at this;exact Fw _ this
 have f3:∀b∈fp,kc X JI (ah H2 D (.lst [])) b:=λb hb=>⟨by rw [aq (fpD b hb)];exact(f2 b hb).1,(f2 b hb).2⟩;have st3:tn 0 s3.heap:=T.keep _ _ _ st2 λb hb o e=>up23 b o e;have lt3:∀b∈fp,b < s3.heap.objs.size:=λb hb=>by obtain⟨o,ho,_⟩:=T.obj _ _ st3 b hb;exact Ds ho
 refine xC λh₁ e₁ hns₁ up34=>?_;have I4:=xA S I3 f3 lt3 e₁ hns₁ up34;have st4:tn 0 h₁:=T.keep _ _ _ st3 λb hb o e=>up34 b o e;generalize hX':bJ X scope N' fp s3.heap.objs.size s3 (ah H2 D (.lst []))=X' at*;have hg':PG X' tg g:=by rw [<-hX'];exact hg _ _ _ _
 have hf':kC X' ifs tc:=by rw [<-hX'];exact hf _ _ _ _
 have he':PE X' elt te:=by rw [<-hX'];exact he _ _ _ _
 have eP:X'.prog=X.prog:=by rw [<-hX'];rfl
 have eW:X'.w=X.w:=by rw [<-hX'];rfl
 have eK:X'.K=X.K:=by rw [<-hX'];rfl
 have eA:X'.A=X.A:=by rw [<-hX'];rfl
 have eC:X'.calm=true:=by rw [<-hX'];exact hc
 have eE:X'.xe=λ_ _=>False:=by rw [<-hX'];rfl
 have eEnv:X'.env=compEnvC scope (oa X scope s3.heap.objs.size) s3.heap.objs.size X.env:=by rw [<-hX'];rfl
 have fpx:∀{H':Hp},(∀b∈fp,H' b=none)->∀b∈fp,kc X' [] H' b:=λ{H'} hn b hb=>by
  refine⟨hn b hb,?_,?_,.inl ?_,?_,?_⟩
  ·rw [eEnv];exact Em (lt3 b hb)
  ·have:=I4.ok.exfs b (by rw [<-hX'];exact hb);exact this
  ·rw [<-hX'];exact hb
  ·have:=I4.ok.exf b (by rw [<-hX'];exact hb);exact this.2
  ·intro p hp;rw [<-hX'] at hp;simp [bJ] at hp
 have fin:∀(s':Iq)(H':Hp)(σ':St),aa X' [] σ' H' s'->Q (.ref D) H'->compPost (Iy X.prog X.w) X.A X.xe use Q' (.ref D) s3.heap.objs.size (.ok .next) s':=λs' H' σ' J q=>by
  have un:Un (bb X.stack) fp (ah H2 D (.lst [])) H' s3.heap s'.heap:=by have:=J.base;rw [<-hX'] at this;exact this
  have jos:s'.os=s3.os:=by have:=J.os;rw [<-hX'] at this;exact this
  have hC:H' s3.heap.objs.size=none:=by have:=J.free;rw [eEnv] at this;exact this
  have hok':aH X.prog X.w H' s'.heap:=by have:=J.hok;rw [eP,eW] at this;exact this
  have kJ:∀h',Gf s3.heap.objs.size s'.heap h'->aa X JI σ H' {s' with heap:=h'}:=λh' hs'=>by
   have un':Un (bb X.stack) fp (ah H2 D (.lst [])) H' s3.heap h':=
    ⟨λb o e n h1 h2=>hs'.extBut b o (Em (Ds e)) (un.keep b o e n h1 h2),λb o e n h1 h2=>by
     obtain⟨sl,z⟩:=un.slot b o e n h1 h2;exact⟨sl,hs'.extBut b _ (Em (Ds e)) z⟩,un.free,λb o e h2=>by
     obtain⟨o',z⟩:=un.there b o e h2;exact⟨o',hs'.extBut b o' (Em (Ds e)) z⟩,un.tups,un.frzs,un.tbls⟩
   exact aa.call' (s':={s' with heap:=h'}) I3 jos un' (hok'.but hC hs'.extBut) J.bare λb hb=>⟨(f3 b hb).2.2.2.1,(f3 b hb).2.1,(f3 b hb).2.2.2.2.1,(f3 b hb).2.2.2.2.2⟩
  have nsC:∃m,s'.heap.Ns s3.heap.objs.size m:=by
   obtain⟨m,hn,_⟩:=J.loc;rw [eEnv] at hn;exact⟨m,hn⟩
  exact hQ D s3.heap.objs.size s' H' (HS I3.lt) (kJ s'.heap (.refl ..)) kJ q nsC I3.lt
   ⟨hC,λx c e=>by obtain⟨v,o,ho,_⟩:=I3.cell x c e;exact Em (Ds ho),λp hp=>Em (Ds (I3.pin p hp).1)⟩
 have loop:∀s4:Iq,s4=({s3 with heap:=h₁}:Iq)->
  Jr (Iy X.prog X.w) X.A (.compLoop (.ListComp elt [⟨tg,iter,ifs,0⟩] scope pos) 0 (.ref it) (.ref D) X'.env) (compPost (Iy X.prog X.w) X.A X.xe use Q' (.ref D) s3.heap.objs.size) s4:=by
  rintro s4 rfl;refine xB (λn s'=>∃i H',aa X' [] (aY k fr σ) H' s'/\tn i s'.heap/\(∀b∈fp,H' b=none)/\W i n H') ?_ m0 ⟨0,_,I4,st4,λb hb=>(f3 b hb).1,w0⟩;rintro n s5 ⟨i,H5,I5,st5,fr5,w5⟩;rcases turn i n H5 w5 with⟨stop,qn⟩ | ⟨go,step⟩
  ·have:=T.done X' eP eW eK eC i [] s5 _ H5 (λ_ _=>False) I5 (fpx fr5) st5 stop;rw [eA] at this;refine ak this λr s6 ⟨hr,I6⟩=>?_;subst hr;exact fin s6 H5 _ I6 qn
  ·have:=T.item X' eP eW eK eC i [] s5 _ H5 (λ_ _=>False) I5 (fpx fr5) st5 go;rw [eA] at this;refine ak this λr s6 ⟨u,hr,h6⟩=>?_;subst hr;refine ak h6 λ_ s7 ⟨x,H7,I7,r7,y7,st7,fr7⟩=>?_;have I7':=I7.pinned (fpx fr7) (T.obj _ _ st7);have h8:=hg' _ s7 _ H7 x u _ I7' r7 (step x H7 y7);rw [eP,eW,eA,eE] at h8;refine ak h8 λ_ s8 ⟨σ8,H8,I8,kp,q8⟩=>?_;have h9:=hf' _ s8 σ8 H8 _ I8 q8;rw [eP,eW,eA,eE] at h9;have again:∀{s9:Iq}{H9:Hp}{n':Nat},aa X' ([]++mM fp s7.heap) σ8 H9 s9->n' < n->W (i+1) n' H9->∃m,m < n/\∃i H',aa X' [] (aY k fr σ) H' s9/\tn i s9.heap/\(∀b∈fp,H' b=none)/\W i m H':=λ{s9 H9 n'} I9 hn' w9=>by
    refine⟨n',hn',i+1,H9,I9.unpinned.weak kp.1 kp.2,T.keep _ _ _ st7 λb hb o e=>(I9.pin (b,o) (ET _ (ET _ (nT hb e)))).1,λb hb=>?_,w9⟩;obtain⟨o,e,d⟩:=T.obj _ _ st7 b hb;exact(I9.pin (b,o) (ET _ (ET _ (nT hb e)))).2.1
   refine ak h9 λok s9 ⟨H9,I9,q9⟩=>?_;cases ok with
   | false=>
    rw [Ii Ed] at q9;obtain⟨m',hm',w9⟩:=q9;rw [Ii Ed];exact again I9 hm' w9
   | true=>
    rw [Ij rfl] at q9;rw [Ij rfl];have h10:=he' _ s9 σ8 H9 _ I9 q9;rw [eP,eW,eA,eE] at h10;refine ak h10 λy s10 ⟨yv,H10,I10,r10,ys,hys,hz,m',hm',w10⟩=>?_;have h11:=xp (X:=X') _ s10 σ8 H10 (.ref D) [yv] (.ref D) [y] (λ_ H'=>W (i+1) m' H') I10 rfl (.cons r10 .nil) ⟨D,ys,yv,rfl,rfl,hys,hz,w10⟩;rw [eP,eW,eA,eE] at h11;exact ak h11 λ_ s11 uu62=>by obtain⟨_,H11,I11,_,q11⟩:=uu62;exact again I11 hm' q11
 have hE:({newEnv scope s3.heap.objs.size X.env.globals (oa X scope s3.heap.objs.size) X.env.qual none .none (some X.env) builtinsNs with scope:=relabel scope X.env}:Env)=X'.env:=by
  rw [eEnv];rfl
 have goal:=codeAny_compStart_list (elt:=elt) (target:=tg) (iter:=iter) (ifs:=ifs) (rest:=[]) (scope:=scope) (pos:=pos) (loop _ rfl) (T.self X.A 0 _ _ _ st4 (loop _ rfl));rw [<-hE] at goal;exact goal
theorem mS(hc:X.calm=true)(S:jv X.env.scope X.N N' k fr scope)(hi:PI X tg iter wi)
 (hg:∀fp C s H,PG (bJ X scope N' fp C s H) tg g)(hf:∀fp C s H,kC (bJ X scope N' fp C s H) ifs tc)(he:∀fp C s H,PE (bJ X scope N' fp C s H) elt te)
 (hs:∀x,IZ iter X.env x=pure x:=by intro _;rfl):PE X (.ListComp elt [⟨tg,iter,ifs,0⟩] scope pos) (mn wi g tc te k fr):=by
 intro JI s σ H Q I h;have hcell:∀y∈scope.names,y.2= .free->∃c,X.env.cells.lookup y.1=some c:=λy hy e=>I.ok.has y.1 (S.outer y hy e);rw [eval_ListComp];refine wpAny_comprehension_free (use:=none) rfl hs (xv hcell) S.kind S.names (xD hc S hi hg hf he I h ?_);intro D C s' H' hC J kJ q ns hlt _;obtain⟨m,hn⟩:=ns;exact⟨m,hn,λh' hs'=>⟨.ref D,H',kJ h' hs',rfl,q⟩⟩
end
section
variable {X:Cx}
theorem xE:aI X (Ja .Mult) (rI IntMulOk λi j=>.int (i*j)):=mN λ_ _ _ _ _ _ _ hc q=>mul_int q hc
theorem tw(hc:X.calm=true):cB X (.builtin "sum") (λxs H Q=>∃(a:Ip)(ns:List Int),xs=[.ref a]/\aG X.K H a (ns.map V.int)/\Q (.int ns.sum) H):=by
 intro JI s σ H xs us Q I r h;obtain⟨a,ns,rfl,hl,q⟩:=h;obtain⟨u,rfl,rx⟩:=jK r;cases rx;obtain⟨its,rv,p,hz⟩:=I.list hl;have hi:IntsAre its ns:=xa rv;have hall:AllInts its.toArray:=hi.allInts;obtain⟨ys,hys⟩:=hall.items;have hn:numsOf its.toArray.toList=ns:=by rw [show its.toArray.toList=its from rfl,hi.numsOf]
 rw [hys,nums_intItems] at hn;have hl':=p.isList;rw [hys] at hl';refine sum_intListG (I.ok.hd hc) hl' λh' tk t' hk=>?_;refine⟨.int ns.sum,H,I.kept hk,⟨t',?_⟩,q⟩;rw [preSum_eq,F6 Il,hn]
theorem xF:cB X (.builtin "isinstance") (λxs H Q=>∃x T t b,xs=[x,.ty T]/\jR X.K H x t/\FA X.K t (.type T)=some b/\Q (.bl b) H):=by
 intro JI s σ H xs us Q I r h;obtain⟨x,T,t,b,rfl,ty,e,q⟩:=h;obtain⟨u,w',rfl,rx,rt⟩:=lB r;cases rt;exact wU I rx ty e λtk=>⟨.bl b,H,I.tok tk,rfl,q⟩
end
end L2
namespace Att
open PySem PySem.W PySem.Calls PyProof.Rows
theorem xG{ns:List Int}(h:Hz [GH (ns.map FD)]=true):∀n∈ns,EF n<=1048576:=by
 have h1:(GH (ns.map FD)).layable=true:=by simpa [Hz] using h
 have h2:(GH (ns.map FD)).weight<=1048576:=(PySem.W.layableW_iff.mp h1).2.2;have key:∀l:List Int,∀n∈l,EF n<=FX (l.map FD):=by
  intro l
  induction l with
  | nil=>intro n hn;simp at hn
  | cons x r ih=>
   intro n hn;have e:FX ((x::r).map FD)=EF x+1+FX (r.map FD):=by
    rw [Dq,FX,HV];rfl
   rw [e];rcases EL.mp hn with z | z
   ·subst z;omega
   ·have:=ih n z;omega
 intro n hn;have e:(GH (ns.map FD)).weight=FX (ns.map FD):=by rw [HV]
 rw [e] at h2;exact EY (key ns n hn) h2
theorem attach_callB{l:OpenLaw}{n:Nat}{q:IE}{loose:List Str}{XP:(Str->Option Io)->IC->Prop}{YP:IF->IC->Prop}{d:DefRec}
 (hn:l.most=some n)(hdf:d.params.defaults=[])
 (call:∀(w:IF) (s₀ s₁:Iq) (mg mb:Str->Option Io) (fa:Ip) (o:Obj) (pm cd doc:Io) (a:Ip) (vs:List Io) (ns:List Int),
  Ground q loose [] XP w s₀ mg mb s₁.heap->YP w s₁.heap->
  s₁.heap.get? fa=some o->o.data= .func (docDef d.name d.params d.body d.scope pm cd doc)->s₁.heap.CodeRec cd d.name->mg d.name=some (.ref fa)->
  s₁.heap.get? a=some {cls:= .type "list",data:= .seq vs.toArray}->IntsAre vs ns->ns.length<=n->(∀z∈ns,EF z<=1048576)->s₁.gens=#[]->
  Jr (Iy l.prog w) callerA (.call (.ref fa) ⟨[.ref a],[]⟩) (λr s'=>r= .ok (.ret (.bool true))/\OldK s₁.heap s'.heap/\s'.os=s₁.os/\Jp s'.gens) s₁):
 WalkO q loose XP YP l.row.toRowW d [] (λf vs=>HD f vs):=by
 intro w s₀ s₁ mg mb G Y fa o pm cd doc dV kV ho hd hcd hD hmg hg args vals as hpre hlay hrd hwl hlo;obtain rfl:dV= .none:=Dflts.none hD hdf;obtain rfl:kV= .none:=Dflts.noKw hD;obtain⟨a,vs,ns,rfl,rfl,hobj,hints,hlen⟩:=xr hn hpre hwl;have hb:∀z∈ns,EF z<=1048576:=xG hlay;refine enter_call (JA (call w s₀ s₁ mg mb fa o pm cd doc a vs ns G Y ho (fd_plain hd) hcd hmg hobj hints hlen hb hg) λr s' hq=>?_);obtain⟨rfl,h2,h3,h4⟩:=hq;exact⟨.inl ⟨.bool true,.bool true,[],rfl,λ_=>rfl,.bool true,xt l _,λ_=>⟨List.Pairwise.nil,λ_ hm=>(nomatch hm)⟩⟩,h2,h3,h4⟩
end Att
namespace L2
open PySem PySem.Spec PyProof.Rows
theorem xH{l:HE}{n k:Nat}{q:IE}{loose:List Str}{XP:(Str->Option Io)->IC->Prop}{YP:IF->IC->Prop}{d:DefRec}{K:Params->Dj}{CX:IF->cC}{sp:IF->Sp}{x:Str}
 (hn:l.most=some n)(hn2:n<=Ir)(hdf:d.params.defaults=[])(hr:aU k callerA)
 (hY:∀(w:IF) (h:IC),YP w h->(K w.params).In h)
 (F:∀(w:IF) (mg:Str->Option Io) (fa:Ip) (h:IC),(K w.params).In h->h.Ns IA mg->mg d.name=some (.ref fa)->
  ∃fd:IB,(∀(s:Iq) (u:Io),BindsTo s fd ⟨[u],[]⟩ [(x,u)])/\
   ∀base:IC,(K w.params).In base->base.Ns IA mg->aA l.prog w (K w.params) mg base (CX w) k fa fd [x] (sp w))
 (hsp:∀(w:IF) (H:Hp) (a:Ip) (ns:List Int),ns.length<=n->(∀z∈ns,EF z<=1048576)->n8 H->aG (K w.params) H a (ns.map V.int)->sp w [.ref a] H (λv _=>v= .bl true) λ_ _ _=>False)
 (hCX:∀(w:IF) (H:Hp) (s:Iq) (e:Io) (s':Iq),CX w [] H s (λ_ _ _=>False) e s'->False):
 HP q loose XP YP l.row.toRowW d [] (λf vs=>HD f vs):=by
 refine Att.attach_callB hn hdf λw s₀ s₁ mg mb fa o pm cd doc a vs ns G Y ho hd hcd hmg hobj hints hlen hb hg=>?_;have KX:=hY w _ Y;obtain⟨fd,hbi,hF⟩:=F w mg fa _ KX G.T.g hmg;exact xu KX G.T.g G.T.b G.T.builtins G.T.nolimit hg hobj hints (EY hlen hn2) hr hF hbi (λH hO hS=>hsp w H a ns hlen hb hO hS) λH e s'=>hCX w H s₁ e s'
theorem walk_ofBK{l:HE}{n k:Nat}{q:IE}{loose:List Str}{XP:(Str->Option Io)->IC->Prop}{YP:IF->IC->Prop}{d:DefRec}{K:Params->Dj}{CX:cC}{sp:Dj->Sp}{x:Str}
 (hn:l.most=some n)(hn2:n<=Ir)(hdf:d.params.defaults=[])(hr:aU k callerA)
 (hY:∀(w:IF) (h:IC),YP w h->(K w.params).In h)
 (F:∀(w:IF) (mg:Str->Option Io) (fa:Ip) (h:IC),(K w.params).In h->h.Ns IA mg->mg d.name=some (.ref fa)->
  ∃fd:IB,(∀(s:Iq) (u:Io),BindsTo s fd ⟨[u],[]⟩ [(x,u)])/\
   ∀base:IC,(K w.params).In base->base.Ns IA mg->aA l.prog w (K w.params) mg base CX k fa fd [x] (sp (K w.params)))
 (hsp:∀(K:Dj) (H:Hp) (a:Ip) (ns:List Int),ns.length<=n->(∀z∈ns,EF z<=1048576)->n8 H->aG K H a (ns.map V.int)->sp K [.ref a] H (λv _=>v= .bl true) λ_ _ _=>False)
 (hCX:∀(H:Hp) (s:Iq) (e:Io) (s':Iq),CX [] H s (λ_ _ _=>False) e s'->False):
 HP q loose XP YP l.row.toRowW d [] (λf vs=>HD f vs):=
 xH (K:=K) (CX:=λ_=>CX) (sp:=λw=>sp (K w.params)) hn hn2 hdf hr hY F (λw H a ns h1 hb h2 h3=>hsp (K w.params) H a ns h1 hb h2 h3) λ_ H s e s'=>hCX H s e s'
def mq(p:Ip)(H H':Hp):Prop:=∀b o,H b=some o->b≠p->H' b=some o
theorem ai.new{H:Hp}{p:Ip}{o:HO}(h:H p=none):ai H (ah H p o):=λb u e=>by rw [aq (cA e h)];exact e
def FR(J:It)(g:TG)(tb:TS)(D:kQ)(σ:St)(H1:Hp):Prop:=∃W:Nat->Nat->St->Hp->Prop,(∃m,W 0 m σ H1)/\∀i m σ H,W i m σ H->
 (J.stop i H/\D.nx σ H)\/(J.go i H/\∃N:St->Hp->Prop,(∀σ' H',N σ' H'->∃m',m' < m/\W (i+1) m' σ' H')/\∀x H',J.yld i H x H'->g x σ H' λσ2 H2=>tb {D with nx:=N,ct:=N,bk:=D.nx} σ2 H2)
theorem tD{ta:TA}{g:TG}{tb:TS}:mL (pO ta) g tb=λD σ H=>ta σ H λvs H1=>∃j:Int,vs=[.int j]/\-(2 ^ 62)<=j/\j < 2 ^ 62/\FR (ke 0 j.toNat) g tb D σ H1:=rfl
theorem tE{ta:TA}{g:TG}{tb:TS}:mL (pP ta) g tb=λD σ H=>ta σ H λvs H1=>∃i j:Int,vs=[.int i,.int j]/\(-(2 ^ 62)<=i/\i < 2 ^ 62/\-(2 ^ 62)<=j/\j < 2 ^ 62)/\FR (ke i (j - i).toNat) g tb D σ H1:=rfl
theorem tF{K:Dj}{tl:TE}{g:TG}{tb:TS}:mL (pN K tl) g tb=λD σ H=>tl σ H λx H1=>∃a,x= .ref a/\(∃xs,aG K H1 a xs)/\FR (mK K a) g tb D σ H1:=rfl
theorem tG{K:Dj}{tl:TE}{g:TG}{tb:TS}:mL (su K tl) g tb=λD σ H=>tl σ H λx H1=>∃a,x= .ref a/\(∃xs,bD K H1 a xs)/\FR (pM K a) g tb D σ H1:=rfl
def lF(J:It)(g:TG)(tc:TT)(te:TE)(k:Nat)(fr:List Nat)(σ:St)(H1:Hp)(Q:VK):Prop:=∀D,H1 D=none->∃W:Nat->Nat->Hp->Prop,(∃m,W 0 m (ah H1 D (.lst [])))/\∀i m H,W i m H->
 (J.stop i H/\Q (.ref D) H)\/(J.go i H/\∀x H',J.yld i H x H'->g x (aY k fr σ) H' λσ2 H2=>mm (aY k fr σ) σ2/\tc σ2 H2 λok H3=>
  if ok=true then te σ2 H3 λy H4=>∃ys,H4 D=some (.lst ys)/\ys.length < Ir/\∃m',m' < m/\W (i+1) m' (ah H4 D (.lst (ys++[y])))
  else ∃m',m' < m/\W (i+1) m' H3)
theorem tH{ta:TA}{g:TG}{tc:TT}{te:TE}{k:Nat}{fr:List Nat}:mn (pO ta) g tc te k fr=λσ H Q=>ta σ H λvs H1=>∃j:Int,vs=[.int j]/\-(2 ^ 62)<=j/\j < 2 ^ 62/\lF (ke 0 j.toNat) g tc te k fr σ H1 Q:=rfl
theorem tI{ta:TA}{g:TG}{tc:TT}{te:TE}{k:Nat}{fr:List Nat}:mn (pP ta) g tc te k fr=λσ H Q=>ta σ H λvs H1=>∃i j:Int,vs=[.int i,.int j]/\(-(2 ^ 62)<=i/\i < 2 ^ 62/\-(2 ^ 62)<=j/\j < 2 ^ 62)/\lF (ke i (j - i).toNat) g tc te k fr σ H1 Q:=rfl
theorem tJ{K:Dj}{tl:TE}{g:TG}{tc:TT}{te:TE}{k:Nat}{fr:List Nat}:mn (pN K tl) g tc te k fr=λσ H Q=>tl σ H λx H1=>∃a,x= .ref a/\(∃xs,aG K H1 a xs)/\lF (mK K a) g tc te k fr σ H1 Q:=rfl
theorem tK{K:Dj}{tl:TE}{g:TG}{tc:TT}{te:TE}{k:Nat}{fr:List Nat}:mn (su K tl) g tc te k fr=λσ H Q=>tl σ H λx H1=>∃a,x= .ref a/\(∃xs,bD K H1 a xs)/\lF (pM K a) g tc te k fr σ H1 Q:=rfl
theorem tL{fr:List Nat}{σ:St}{v:Option V}:mm (aY 1 fr σ) ((aY 1 fr σ).set 0 v):=by
 refine⟨Il,λi w h=>?_⟩;cases i with
 | zero=>simp [aY,Dx] at h
 | succ i=>simpa [aY,Dx] using h
theorem xI{lo:Int}{n:Nat}{te:TE}{fr:List Nat}{σ:St}{H:Hp}{Q:VK}(f:Nat->V)(hn:n<=1000000)
 (ht:∀(i:Nat) (H':Hp) (R:VK),i < n->ai H H'->(∀H'',ai H' H''->R (f i) H'')->te ((aY 1 fr σ).set 0 (some (.int (lo+i)))) H' R)
 (hq:∀D H',H D=none->ai H H'->H' D=some (.lst ((Fp n).map f))->Q (.ref D) H'):lF (ke lo n) (ll 0) tq te 1 fr σ H Q:=by
 intro D hD;refine⟨λi m H'=>m=n - i/\i<=n/\ai H H'/\H' D=some (.lst ((Fp i).map f)),⟨n,Il,Fq _,ai.new hD,by rw [aD];rfl⟩,?_⟩;rintro i m H1 ⟨rfl,hi,s1,e1⟩;by_cases hlt:i < n
 ·refine .inr ⟨hlt,λx H' y=>?_⟩;obtain⟨e,y⟩:=y;subst e y;refine⟨tL,?_⟩;show te _ _ _;refine ht i H' _ hlt s1 λH2 s2=>?_;refine⟨_,s2 D _ e1,?_,n - (i+1),Ih,rfl,hlt,?_,?_⟩
  ·rw [E1,Ht,IG];omega
  ·exact λb o h=>by rw [aq (cA h hD)];exact s2 b o (s1 b o h)
  ·rw [aD,HF,HG];rfl
 ·have e:i=n:=Ih
  subst e;exact .inl ⟨Dz _,hq D H1 hD s1 e1⟩
theorem cxK{CX:cC}{P:IE}{w:IF}{K:Dj}{mg:Str->Option Io}{base:IC}{N:List Str}{qual:Str}{scope:IU}{f:Ip}{cd:Io}{A:IH}{outer:List Env}{s:Iq}{H:Hp}{E:XK}:(bp CX P w K mg base N qual scope f cd A outer s H E).K=K:=rfl
theorem cmK{X:Cx}{scope:IU}{N':List Str}{fp:List Ip}{C:Ip}{s:Iq}{H:Hp}:(bJ X scope N' fp C s H).K=X.K:=rfl
theorem tM{K:Dj}{p:Ip}{xs:List V}{i:Int}{v:V}{H:Hp}{Q:VK}(h:aG K H p xs)(hv:atI xs i=some v)(q:Q v H):p8 K (.ref p) (.int i) H Q:=⟨p,xs,i,v,rfl,rfl,h,hv,q⟩
theorem kW{α:Type}{xs:List α}{i:Int}(h0:0<=i)(h1:i < xs.length):∃v,atI xs i=some v/\v∈xs:=by
 obtain⟨j,rfl⟩:=EN h0;have hj:j < xs.length:=Ih
 exact⟨xs[j],lE (by simp [hj]),GN hj⟩
theorem xJ:IK "divmod"=some (.builtin "divmod"):=td
theorem kD:IK "isinstance"=some (.builtin "isinstance"):=td
theorem jX:IK "int"=some (.type "int"):=td
theorem qr:IK "bool"=some (.type "bool"):=td
theorem j2:IK "str"=some (.type "str"):=td
theorem xK:IK "list"=some (.type "list"):=td
open PySem PySem.Spec PyProof.Rows PySem.W
theorem aH.hide{P:IE}{w:IF}{H:Hp}{h:IC}{as:List Ip}(x:aH P w H h)(hn:∀b∈as,H b=none):aH P w H (hideAll h as):=λa o e=>by
 refine(x a o e).stay (λb u hb q=>JB _ q λhm=>?_) (λ_ q=>q) (λ_ _ q=>q) λ_ _ q=>q;have z:=hn b hm;rcases hb with r | r
 ·rw [r] at z;rw [z] at e;cases e
 ·rw [z] at r;cases r
theorem xM{K:Dj}{h:IC}{mg:Str->Option Io}{x:Str}{C:Ip}{bmB:List Io}{newId:String}(X:K.In h)(hm:mg x=some (.ref C))(q:F8 K C bmB newId=true):OwnCls x C bmB newId mg h:=by
 refine⟨hm,?_⟩;unfold F8 at q;split at q
 ·rename_i dd cd sl ho;split at q
  ·rename_i C' bm k0 k1 k2 k3 n k5 hm hs;simp only [E6,beq_iff_eq,DI] at q;obtain⟨⟨⟨⟨⟨rfl,rfl⟩,hdel⟩,ht⟩,hok⟩,hni⟩:=q;obtain⟨nm,bs,mro,ns,qn,hd,sn,sub,ab,col,del⟩:=cd;dsimp only at hm hdel hok hni;subst hm hdel;have hsl:sl=#[k0,k1,k2,k3,some (.builtin n),k5]:=by
    obtain⟨l⟩:=sl;simp only at hs;rw [hs]
   subst hsl;exact⟨bm,ns,nm,qn,bs,hd,sn,sub,ab,col,dd,k0,k1,k2,k3,k5,_,X _ _ ho,.of_isNs (isNs_of_in X hok),nsMap_none_of_in X hok hni,tail_of_in X ht⟩
  ·cases q
 ·cases q
section
variable {M:Jq} {A:IH} {E:Io->Iq->Prop}
variable {nm q:Str} {C N:Ip} {bs bm:List Io} {hdct:Bool} {sn:List Str} {sub:List Io} {ab:Bool} {col:Option Bool} {dd:Option Ip} {k0 k1 k2 k3 k5:Option Io} {newId:String}
variable {nm' q':Str} {C' N':Ip} {bs' bm':List Io} {hdct':Bool} {sn':List Str} {sub':List Io} {ab':Bool} {col':Option Bool} {dd':Option Ip} {k0' k1' k2' k3' k5':Option Io} {newId':String}
theorem xN{h:IC}{g:Array JF}{d:Drawn}{t:Nat}{os:OsState}{e:Ip}{oe:Obj}{Q:Bool->Iq->Prop}
 (hC:h.get? C=some (IX nm q C N bs bm hdct sn sub ab col dd k0 k1 k2 k3 k5 newId))(hC':h.get? C'=some (IX nm' q' C' N' bs' bm' hdct' sn' sub' ab' col' dd' k0' k1' k2' k3' k5' newId'))
 (he:h.get? e=some oe)(hcls:oe.cls= .ref C)(hbase:bm'.contains (.type "BaseException")=true)(hin:(DC C::bm).contains (.ref C')=true)
 (hq:Q true ⟨h,g,d,t,os⟩):Iz M A (excMatches (.ref e) (.ref C')) Q E ⟨h,g,d,t,os⟩:=by
 have hcB:(DC C'::bm').contains (.type "BaseException")=true:=by rw [Gw,hbase,Hk]
 have f:=tc_notTuple;unfold excMatches
 repeat (first | (with_reducible refine IQ he ?_;rw [hcls]) | with_reducible refine IQ hC' ?_ | (with_reducible refine Jg hC' ?_;rw [hcB]) | (with_reducible refine Jg hC ?_;rw [hin]) | wp_step)
 exact hq
end
section
variable {X:Cx} {JI:List (Ip×Obj)} {σ:St} {H:Hp} {s:Iq}
theorem xO{M:Jq}{A:IH}{E:Io->Iq->Prop}{i:Nat}{x:Str}{pos:Pos}{Q:Unit->Iq->Prop}(I:aa X JI σ H s)(hN:X.N.Nodup)(hi:X.N[i]?=some x)(hx:X.env.scope.names.lookup x=some .local)
 (h:∀s',aa X JI (σ.set i none) H s'->Q () s'):Iz M A (do bindName X.env x .none;unbindBehindTheSuite X.env x pos) Q E s:=by
 have hcls:(X.env.scope.kind== .class || (X.env.scope.kind== .module && X.env.locals !=X.env.globals))=false:=by rw [I.ok.kind];rfl
 have hiσ:i < σ.length:=by rw [I.len];exact(DY.mp hi).1
 refine ID (wpAny_bindName (mH I hN hi (.inl hx) (v:= .non) rfl (λs1 I1=>?_) (.inr hx)));obtain⟨m,hn,hl⟩:=id I1.loc;obtain⟨u0,r0,lk⟩:=hl i x .non hi (by rw [Ep hiσ]) (.inl hx);have hv:∃v,m x=some v:=by
  rcases lk with⟨_,z⟩ | ⟨z,_⟩
  ·exact⟨_,z⟩
  ·rcases z with z | z
   ·exact absurd (z.symm.trans hx) Il
   ·exact absurd (z.symm.trans hx) Il
 obtain⟨v,hv⟩:=hv;unfold unbindBehindTheSuite;refine wpAny_onRaise (IM (wpAny_unbindName_local (E:=λ_ _=>False) hx hn hv hcls λh' u hn' hs=>?_) (λ_ _ z=>z) λ_ _ z=>z.elim);obtain⟨oL,_,_,hoL,_⟩:=id hn;have cne:=I1.cne;have tracked:aH X.prog X.w H h':=λb ob e=>by
  refine(I1.hok b ob e).stay (λc w' hc q=>(hs.2 c ?_).trans q) (λ_ q=>q) (λ_ _ q=>q) λ_ _ q=>q;rintro rfl;rcases hc with z | hc
  ·rw [<-z,I1.free] at e;cases e
  ·rw [I1.free] at hc;cases hc
 refine h _ ⟨I1.ok,I1.os,I1.bare,⟨λb o e n hb hx'=>?_,λb o e n hb hx'=>?_,I1.base.free,λb o e hx'=>?_,I1.base.tups,I1.base.frzs,I1.base.tbls⟩,⟨_,hn',λj y v' e1 e2 e3=>?_⟩,λy c e=>?_,I1.free,I1.freeC,λp hp=>?_,tracked,by simpa using I.len⟩
 ·exact(hs.2 b (Em (DU (Ds e) I.ok.above))).trans (I1.base.keep b o e n hb hx')
 ·obtain⟨sl,e1⟩:=I1.base.slot b o e n hb hx';exact⟨sl,(hs.2 b (Em (DU (Ds e) I.ok.above))).trans e1⟩
 ·obtain⟨o',e1⟩:=I1.base.there b o e hx';exact⟨o',(hs.2 b (Em (DU (Ds e) I.ok.above))).trans e1⟩
 ·by_cases hj:j=i
  ·subst hj;rw [Ep hiσ] at e2;cases e2
  ·rw [D3 (Ne.symm hj)] at e2;obtain⟨u',r',q⟩:=hl j y v' e1 (by rw [D3 (Ne.symm hj)];exact e2) e3;refine⟨u',r',?_⟩;rcases q with⟨k,e⟩ | ⟨k,c,e,z⟩
   ·refine .inl ⟨k,?_⟩;have:y≠x:=λe=>hj (pk hN e1 (e▸hi));simp [this,e]
   ·exact .inr ⟨k,c,e,z.sameBut hs (cne y c e)⟩
 ·obtain⟨w',z⟩:=I1.cell y c e;exact⟨w',z.sameBut hs (cne y c e)⟩
 ·obtain⟨e,n,ne,nf,d⟩:=I1.pin p hp;exact⟨(hs.2 p.1 ne).trans e,n,ne,nf,d⟩
end
def cb(e:Ip)(C:Io)(h:IC):Prop:=∃o,h.get? e=some o/\o.cls=C
theorem aE.there{P:IE}{w:IF}{H:Hp}{h:IC}{a:Ip}{o:HO}(x:aE P w H h a o):∃ob,h.get? a=some ob:=by
 cases o with
 | lst xs=>obtain⟨_,_,_,_,e⟩:=x;exact⟨_,e⟩
 | tup xs=>obtain⟨_,_,_,ob,e,_⟩:=x;exact⟨_,e⟩
 | dK kvs=>obtain⟨_,_,_,_,o,_,_,e,_⟩:=x;exact⟨_,e⟩
 | dT kvs=>obtain⟨_,_,_,_,o,_,_,e,_⟩:=x;exact⟨_,e⟩
 | set S n=>obtain⟨o,_,_,_,e,_⟩:=x;exact⟨_,e⟩
 | ins C dx fs=>obtain⟨_,_,_,e,_⟩:=x;exact⟨_,e⟩
 | own y=>exact x
 | xd fs=>obtain⟨_,⟨_,_,_,e,_⟩,_⟩:=x;exact⟨_,e⟩
 | rng lo hi=>obtain⟨_,_,_,e⟩:=x;exact⟨_,e⟩
 | frz ob u=>obtain⟨e,_⟩:=x;exact⟨_,e⟩
 | tbl ps=>obtain⟨_,_,_,_,e,_⟩:=x;exact⟨_,e⟩
 | cod q=>obtain⟨_,_,_,e,_⟩:=x;exact⟨_,e⟩
 | met f y=>exact⟨_,(show h.get? a=some _ from x)⟩
 | ext φ=>exact x.2.1
theorem tN{X:Cx}{outer:List Env}{H H':Hp}{h h1 h2 B:IC}{e:Ip}{cls a0:Io}(un:Un (bb outer) [] H H' h h1)(fl:Gi B outer e cls a0 h1)(st:B.StaysIn h2)(sm:h1.UpToSlots h2)
 (kb:∀b o,h.get? b=some o->H b=none->b ∉ bb outer->B.get? b=some o)(th:∀b o,h.get? b=some o->b ∉ bb outer->∃o',B.get? b=some o'):Un (bb outer) [] H H' h h2:=by
 have up:∀b∈bb outer,∀o,h1.get? b=some o->∃sl,h2.get? b=some {o with slots:=sl}:=λb hb o eo=>by
  obtain⟨_,o',ho',hd⟩:=fl.2.2.1.mem hb;rw [eo] at ho';cases ho';exact sm b o eo hd
 refine⟨λb o eb n hb _=>st b o (kb b o eb n hb),λb o eb n hb hx=>?_,un.free,λb o eb hx=>?_,un.tups,un.frzs,un.tbls⟩
 ·obtain⟨sl,es⟩:=un.slot b o eb n hb hx;obtain⟨sl',es'⟩:=up b hb _ es;exact⟨sl',es'⟩
 ·by_cases hb:b∈bb outer
  ·obtain⟨o',eo'⟩:=un.there b o eb hx;obtain⟨sl',es'⟩:=up b hb _ eo';exact⟨_,es'⟩
  ·obtain⟨o',eo'⟩:=th b o eb hb;exact⟨o',st b o' eo'⟩
abbrev Cx.inEx(X:Cx)(e:Ip):Cx:={X with A:=X.A.mark (some (.ref e)),calm:=false,xe:=λ_ _=>False}
theorem Cx.Ok.inEx{X:Cx}(ok:X.Ok)(e:Ip):(X.inEx e).Ok:=
 ⟨ok.mod,ok.kind,ok.glob,ok.blt,ok.above,ok.inj,ok.has,ok.cab,λz=>absurd z Il,ok.frames,ok.stk,ok.exf,ok.bs,ok.bsz,ok.noex,ok.exfs,ok.funs,ok.frf⟩
theorem Cx.Ok.outEx{X:Cx}{e:Ip}(ok:(X.inEx e).Ok)(hd:X.calm=true->X.A.handled=none):X.Ok:=
 ⟨ok.mod,ok.kind,ok.glob,ok.blt,ok.above,ok.inj,ok.has,ok.cab,hd,ok.frames,ok.stk,ok.exf,ok.bs,ok.bsz,ok.noex,ok.exfs,ok.funs,ok.frf⟩
section
variable {X:Cx} {JI:List (Ip×Obj)} {σ:St} {H:Hp} {s:Iq}
theorem aa.inEx(I:aa X JI σ H s)(e:Ip):aa (X.inEx e) JI σ H s:=⟨I.ok.inEx e,I.os,I.bare,I.base,I.loc,I.cell,I.free,I.freeC,I.pin,I.hok,I.len⟩
theorem aa.outEx{e:Ip}(I:aa (X.inEx e) JI σ H s)(hd:X.calm=true->X.A.handled=none):aa X JI σ H s:=⟨I.ok.outEx hd,I.os,I.bare,I.base,I.loc,I.cell,I.free,I.freeC,I.pin,I.hok,I.len⟩
end
theorem xP{K:Dj}{h:IC}{C C':Ip}{nm qn:Str}{N:Ip}{bs bm:List Io}{hdct:Bool}{sn:List Str}{sub:List Io}{ab:Bool}{col:Option Bool}{dd:Option Ip}{k0 k1 k2 k3 k5:Option Io}{newId:String}(X:K.In h)(e:Fj K C (.ref C')=some true)
 (hC:h.get? C=some (IX nm qn C N bs bm hdct sn sub ab col dd k0 k1 k2 k3 k5 newId)):(DC C::bm).contains (.ref C')=true:=by
 obtain⟨cd,a,b⟩:=Option.bind_eq_some_iff.mp e;unfold PySem.W.clsIn at a;split at a
 ·rename_i ho;cases a;have z:=(X _ _ ho).symm.trans hC;have z1:cd.mro=DC C::bm:=by unfold IX at z;cases z;rfl
  split at b
  ·cases b
  ·rw [z1] at b;exact Eu b
 ·cases a
section
variable {X:Cx}
theorem xQ{bs:List Bool}{its:List Io}(r:az (bs.map V.bl) its):its=bs.map Fy:=by
 induction bs generalizing its with
 | nil=>cases r;rfl
 | cons b bs ih=>
  rw [Dq] at r;cases r with
  | cons r1 r2=>
   rw [Dq,<-ih r2];exact congrArg (·::_) r1
theorem xR(bs:List Bool)(f:Nat->Bool)(h:∀i,i < bs.length->f i=bs.getD i true):(Fp bs.length).all f=bs.all id:=by
 rw [Fv,FQ,FQ];constructor
 ·intro z b hb;obtain⟨i,hi,e⟩:=List.getElem_of_mem hb;have:=z i (Gq.mpr hi);rw [h i hi,FU,E7 hi] at this;rw [<-e];exact this
 ·intro z i hi;have hi:=Gq.mp hi;rw [h i hi,FU,E7 hi];exact z _ (GN hi)
theorem xS{bs:List Bool}{i:Nat}{v:Io}(h:(bs.map Fy).toArray[i]?=some v):v= .bool (bs.getD i true):=by
 have h':(bs.map Fy)[i]?=some v:=by simpa using h
 rw [E3] at h';cases e:bs[i]? with
 | none=>rw [e] at h';cases h'
 | some b=>
  rw [e] at h';rw [FU,e];exact(Eu h').symm
theorem xT{prog:IE}{w:IF}{A:IH}{E:Io->Iq->Prop}{s:Iq}{l:Ip}{items:Array Io}{Q:Io->Iq->Prop}(hl:s.heap.IsList l items)
 (h:∀s₂:Iq,s₂={s with heap:=s.heap.push {cls:= .type "list_iterator",data:= .fields #[.ref l,.int 0 0]}}->
  (s₂.heap.IsListIter s.heap.objs.size l 0/\s₂.heap.IsList l items)->l≠s.heap.objs.size->Q (.ref s.heap.objs.size) s₂):Iz (Iy prog w) A (pyIter (.ref l)) Q E s:=by
 have hlt:l < s.heap.objs.size:=by obtain⟨_,e,_⟩:=hl;exact Ds e
 exact wpAny_pyIter_list hl (h _ rfl ⟨⟨_,EW _ rfl,rfl,rfl⟩,hl.push _⟩ (Em hlt))
theorem qt(hc:X.calm=true):cB X (.builtin "all") (λxs H Q=>∃(a:Ip)(bs:List Bool),xs=[.ref a]/\aG X.K H a (bs.map V.bl)/\Q (.bl (bs.all id)) H):=by
 intro JI s σ H xs us Q I r h;obtain⟨a,bs,rfl,hl,q⟩:=h;obtain⟨u,rfl,rx⟩:=jK r;cases rx;obtain⟨its,rv,p,hz⟩:=I.list hl;have hi:=xQ rv;subst hi;refine call_all_walk (xT p.isList λs₂ e st hlI=>?_);subst e;refine⟨_,_,_,_,_,_,λi=>bs.getD i true,rfl,Walks.list (A:=X.A.in1) (I.ok.hd hc) _ a hlI _,st,λi v s' Q' E' hP hq=>by rw [xS hP];exact IP hq,λh' tk hk=>?_⟩;have e:=xR bs (λi=>bs.getD i true) λ_ _=>rfl;have e2:(FT Fy bs).toArray.size=bs.length:=Il
 rw [e2,e];exact⟨.bl (bs.all id),H,I.kept (old_kept hk),rfl,q⟩
end
open PySem PySem.Spec PyProof.Rows PySem.W PySem.Calls PySem.Builtin.ObjectAttr PySem.Builtin PySem.Builtin.Getset_descriptor
section
variable {prog:IE} {w:IF} {A:IH} {E:Io->Iq->Prop} {s:Iq} {K:Dj} {x C:Ip}
theorem cb.type{M:Jq}{h:IC}(p:cb x (.ref C) h):Looks M h (typeOf (.ref x)) (.ref C):=by
 obtain⟨o,h1,h2⟩:=p;exact h2▸(Looks.ld h1).andThen .now
theorem xU{tp:Io}{R:Result->Iq->Prop}(X:K.In s.heap)(p:cb x (.ref C) s.heap)(hm:mroIn K C (.type "object")=some true)(hq:R (.ok (.ret (.ref C))) s):
 Jr (Iy prog w) A (.call (.builtin "getset_descriptor.__get__") ⟨[.builtin "object.__class__",.ref x,tp],[]⟩) R s:=by
 obtain⟨hh,gg,dr,tt,os⟩:=s;have LT:=cb.type (M:=Iy prog w) p;have LM:=looks_mroIn (M:=Iy prog w) X hm;refine Jc KF.slot_gs.plain KF.entry_gs (KF.slot_gs.check _ _ _ _ _ _ _ _ KF.type_class (KF.args_gs _ _ _) ?_);unfold Builtin.«getset_descriptor.__get__» descrGet;rw [dga_obj];refine ID (IL ?_);unfold descrGetter descrCheckInstance descrNameAndClass isInstance;simp only [KF.owner_class]
 repeat lk
 refine⟨Gx _ td,codeAny_builtin KF.entry_class ?_⟩;unfold Builtin.«object.__class__» shownTypeOf;(repeat lk);exact hq
structure jF (K:Dj) (C:Ip):Prop where
 ga:Jy K (.ref C) "__getattribute__"=some (some (.builtin "BaseException.__getattribute__"))
 hk:Jy K (.ref C) "__getattr__"=some none
 cl:Jy K (.ref C) "__class__"=some (some (.builtin "object.__class__"))
 gt:specialIn K (.builtin "object.__class__") "__get__"=some (some (.builtin "getset_descriptor.__get__"))
 tk:takesIn K (.builtin "object.__class__")=some true
 ob:mroIn K C (.type "object")=some true
 be:mroIn K C (.type "BaseException")=some true
 cd:(clsIn K C).isSome=true
theorem tO{nameV:Io}{Q:Unit->Iq->Prop}(Z:jF K C)(X:K.In s.heap)(p:cb x (.ref C) s.heap)(hq:Q () s):
 Iz (Iy prog w) A (Ju "BaseException.__getattribute__" ⟨[.ref x,nameV],[]⟩) Q E s:=by
 have hk:builtinKind "BaseException.__getattribute__"=some .slot:=td
 have hsp:splitId "BaseException.__getattribute__"=some ("BaseException","__getattribute__"):=td
 have ha:=F.args_bexc_ga (.ref x) nameV;have LI:Looks (Iy prog w) s.heap (isInstance (.ref x) (.type "BaseException")) true:=(cb.type p).andThen (looks_mroIn X Z.be);simp only [Ju,hk,hsp];refine ID (LI.at ?_)
 repeat (first | wp_step)
 exact hq
theorem xV{tk:Tok}{Q:Fin->Iq->Prop}(Z:jF K C)(X:K.In s.heap)(p:cb x (.ref C) s.heap)(hq:Q (.done (.ret (.ref C))) s):
 Iz (Iy prog w) A (Builtin.«object.__getattribute__» ⟨[.ref x,.str "__class__" tk],[]⟩) Q E s:=by
 obtain⟨hh,gg,dr,tt,os⟩:=s;have L0:=cb.type (M:=Iy prog w) p;have L1:=Je (M:=Iy prog w) X Z.cl;have L2:=looks_specialIn (M:=Iy prog w) X Z.gt;have L3:=looks_takesIn (M:=Iy prog w) X Z.tk;have LF:Looks (Iy prog w) hh (PySem.Builtin.ObjectAttr.find (.ref x) (.ref C) "__class__") (.bind (.builtin "getset_descriptor.__get__") (.builtin "object.__class__")):=
  L1.andThen (L2.andThen ((show Looks (Iy prog w) hh (dataDescriptor? (some (.builtin "object.__class__")) (some (.builtin "getset_descriptor.__get__"))) (some (.builtin "getset_descriptor.__get__",.builtin "object.__class__")) from L3.andThen .now).andThen (Looks.tag .now)))
 unfold Builtin.«object.__getattribute__»
 repeat (first | with_reducible refine ID (L0.at ?_) | with_reducible refine ID (LF.at ?_) | wp_step)
 refine xU X p Z.ob ?_
 repeat (first | wp_step)
 exact hq
theorem xW{tk:Tok}{R:Result->Iq->Prop}(Z:jF K C)(X:K.In s.heap)(p:cb x (.ref C) s.heap)(hq:R (.ok (.ret (.ref C))) s):
 Jr (Iy prog w) A (.call (.builtin "BaseException.__getattribute__") ⟨[.ref x,.str "__class__" tk],[]⟩) R s:=
 Jc F.excAttr_ValueError.ga.plain F.entry_bexc_ga (tO Z X p (xV Z X p hq))
theorem xX{tk:Tok}{Q:Io->Iq->Prop}(Z:jF K C)(X:K.In s.heap)(p:cb x (.ref C) s.heap)(hq:Q (.ref C) s):
 Iz (Iy prog w) A (getAttrBy (.ref x) (.str "__class__" tk) false) Q E s:=by
 obtain⟨hh,gg,dr,tt,os⟩:=s;have L0:=cb.type (M:=Iy prog w) p;have L1:=Je (M:=Iy prog w) X Z.ga;have L2:=Je (M:=Iy prog w) X Z.hk;have f3:=F.excAttr_ValueError.ga.bind (.ref x);have hx0:(false && onTheHeap (Fe "BaseException.__getattribute__"))=false:=rfl;have hx2:(Fe "BaseException.__getattribute__"==Fe "object.__getattribute__")=false:=td
 have hx1:(onTheHeap (DC C) && Fe "BaseException.__getattribute__"==Fe "object.__getattribute__")=false:=by rw [hx2];rfl
 repeat (first | with_reducible refine ID (L0.at ?_) | with_reducible refine ID (L1.at ?_) | with_reducible refine L2.at ?_ | wp_step)
 refine xW (s:=⟨hh,gg,dr,tt,os⟩) Z X p ?_
 repeat (first | wp_step)
 exact hq
theorem xY{Q:Option Io->Iq->Prop}(Z:jF K C)(X:K.In s.heap)(p:cb x (.ref C) s.heap)(hq:Q (some (.ref C)) {s with toks:=s.toks+1}):
 Iz (Iy prog w) A (getAttr? (.ref x) "__class__") Q E s:=by
 obtain⟨hh,gg,dr,tt,os⟩:=s;unfold getAttr? getAttrBy?
 repeat (any_goals (first | assumption | with_reducible apply xX (s:=⟨hh,gg,dr,tt+1,os⟩) Z X p | wp_step))
theorem tP(Z:jF K C):KitX K (.ref x) (.ref C) (cb x (.ref C)) where
 ty:=λM h _ p=>cb.type p
 it:=λM h X _=>by
  obtain⟨cdD,hcD⟩:=Fh.mp Z.cd;unfold clsIn at hcD;split at hcD
  ·rename_i ho;intro A' Q' E' s' k q;unfold isType loadHead;exact ID (wpAny_loadPart (k _ _ (X _ _ ho)) (IL q))
  ·cases hcD
 ne:=λh tp dd its n sl X htp=>by
  obtain⟨cdD,hcD⟩:=Fh.mp Z.cd;refine Bool.eq_false_iff.mpr λq=>?_;have e:=DC.inj (beq_iff_eq.mp q);subst e;unfold clsIn at hcD;split at hcD
  ·rename_i ho;have z:=(X _ _ ho).symm.trans htp;cases z
  ·cases hcD
 ca:=λX p k=>xY Z X p k
end
section
variable {X:Cx}
abbrev bj(d:Im):Prop:=FY d=true
theorem xZ{cs:List Ip}{its:List Io}(r:az (cs.map V.ref) its):its=cs.map DC:=by
 induction cs generalizing its with
 | nil=>cases r;rfl
 | cons b bs ih=>
  rw [Dq] at r;cases r with
  | cons r1 r2=>
   rw [Dq,<-ih r2];exact congrArg (·::_) r1
end
theorem qu:IK "all"=some (.builtin "all"):=td
theorem x4:IK "ValueError"=some (.type "ValueError"):=td
def x5(p:Ip)(h:IC):Prop:=∃(n:Int)(t:Tok)(k:Nat),h.get? p=some {cls:= .type "list",data:= .seq #[.int n t] k}
abbrev kE(p:Ip):HO:= .ext (x5 p)
abbrev kF:Im:= .dict [(.none,.none)]
def x6(p:Ip)(h:IC):Prop:=∃(a b c:Int)(t u v:Tok)(k:Nat),h.get? p=some {cls:= .type "list",data:= .seq #[.int a t,.int b u,.int c v] k}
abbrev x8(p:Ip):HO:= .ext (x6 p)
abbrev x9:Im:= .dict [(.none,.bool true)]
abbrev j3(ds:List Im):Im:= .dict [(.none,.list ds)]
abbrev tQ(C:Ip)(kp ds:List Im):Im:= .dict [(.none,.tuple [.int (C:Int),.list kp,.list ds])]
abbrev tR(kp ds:List Im):Im:= .dict [(.bool true,.tuple [.list kp,.list ds])]
abbrev Ex:=Ip->Prop
abbrev oh:Hp:=λ_=>none
mutual
inductive Dt (K:Dj) (H:Hp) (O:Ex):V->Im->Prop
 | non:Dt K H O .non .none
 | bl (b:Bool):Dt K H O (.bl b) (.bool b)
 | int (i:Int):Dt K H O (.int i) (.int i)
 | str (x:Str):Dt K H O (.str x) (.str x)
 | tup {a:Ip} {xs:List V} {ds:List Im}:Rd H a (.tup xs)->¬O a->aj K H O xs ds->Dt K H O (.ref a) (.tuple ds)
 | tupK {a:Ip} {xs:List V} {ds:List Im}:bD K oh a xs->aj K H O xs ds->Dt K H O (.ref a) (.tuple ds)
 | lst {a:Ip} {xs:List V} {ds:List Im}:Rd H a (.lst xs)->¬O a->aj K H O xs ds->Dt K H O (.ref a) (.list ds)
 | pack {p:Ip}:H p=some (kE p)->¬O p->Dt K H O (.ref p) kF
 | purse {p:Ip}:H p=some (x8 p)->¬O p->Dt K H O (.ref p) x9
 | dct0 {a:Ip}:H a=some (.dK [])->¬O a->Dt K H O (.ref a) (.dict [])
 | obj {a C dx:Ip} {fs:List (Str×V)} {kp ds:List Im}:H a=some (.ins C dx fs)->kp=fs.map (λp=>Dw p.1)->¬O a->aj K H O (fs.map (·.2)) ds->Dt K H O (.ref a) (tQ C kp ds)
 | dic {a:Ip} {ob:Obj} {kv:List (ao×V)} {ks:List Str} {kp ds:List Im}:H a=some (.frz ob (.dK kv))->kv.map (·.1)=ks.map FV->kp=ks.map Dw->¬O a->aj K H O (kv.map (·.2)) ds->Dt K H O (.ref a) (tR kp ds)
 | scr {a:Ip} {xs:List V} {ds:List Im}:(Rd H a (.lst xs)/\¬O a)\/aG K oh a xs->aj K H O xs ds->Dt K H O (.ref a) (j3 ds)
inductive aj (K:Dj) (H:Hp) (O:Ex):List V->List Im->Prop
 | nil:aj K H O [] []
 | cons {v:V} {d:Im} {vs:List V} {ds:List Im}:Dt K H O v d->aj K H O vs ds->aj K H O (v::vs) (d::ds)
end
theorem Rd.same{H H':Hp}{a:Ip}{u:HO}(s:∀o,H a=some o->H' a=some o)(h:Rd H a u):Rd H' a u:=by
 rcases h with h | ⟨o,h⟩
 ·exact .inl (s _ h)
 ·exact .inr ⟨o,s _ h⟩
theorem Rd.trk{H:Hp}{a:Ip}{u:HO}(h:Rd H a u):H a≠none:=by
 rcases h with h | ⟨o,h⟩ <;> rw [h] <;> exact λz=>nomatch z
section
variable {K:Dj}
structure aV (H H':Hp) (O O':Ex):Prop where
 keep:∀b o,H b=some o->¬O b->H' b=some o
 out:∀b,H b≠none->¬O b->¬O' b
mutual
theorem Dt.step{H H':Hp}{O O':Ex}(S:aV H H' O O'):∀{v:V}{d:Im},Dt K H O v d->Dt K H' O' v d
 | _,_,.non=>.non
 | _,_,.bl b=>.bl b
 | _,_,.int i=>.int i
 | _,_,.str x=>.str x
 | _,_,.tup h n r=>.tup (h.same λo e=>S.keep _ o e n) (S.out _ h.trk n) (aj.step S r)
 | _,_,.tupK h r=>.tupK h (aj.step S r)
 | _,_,.lst h n r=>.lst (h.same λo e=>S.keep _ o e n) (S.out _ h.trk n) (aj.step S r)
 | _,_,.pack h n=>.pack (S.keep _ _ h n) (S.out _ (by rw [h];exact λz=>nomatch z) n)
 | _,_,.purse h n=>.purse (S.keep _ _ h n) (S.out _ (by rw [h];exact λz=>nomatch z) n)
 | _,_,.dct0 h n=>.dct0 (S.keep _ _ h n) (S.out _ (by rw [h];exact λz=>nomatch z) n)
 | _,_,.obj h e n r=>.obj (S.keep _ _ h n) e (S.out _ (by rw [h];exact λz=>nomatch z) n) (aj.step S r)
 | _,_,.dic h e1 e2 n r=>.dic (S.keep _ _ h n) e1 e2 (S.out _ (by rw [h];exact λz=>nomatch z) n) (aj.step S r)
 | _,_,.scr h r=>.scr (h.imp (λh=>⟨h.1.same λo e=>S.keep _ o e h.2,S.out _ h.1.trk h.2⟩) id) (aj.step S r)
theorem aj.step{H H':Hp}{O O':Ex}(S:aV H H' O O'):∀{vs:List V}{ds:List Im},aj K H O vs ds->aj K H' O' vs ds
 | _,_,.nil=>.nil
 | _,_,.cons h r=>.cons (Dt.step S h) (aj.step S r)
end
theorem aV.same{H H':Hp}{O:Ex}(s:ai H H'):aV H H' O O:=⟨λb o e _=>s b o e,λ_ _ n=>n⟩
theorem Dt.mono{H H':Hp}{O:Ex}{v:V}{d:Im}(s:ai H H')(h:Dt K H O v d):Dt K H' O v d:=h.step (.same s)
theorem aj.mono{H H':Hp}{O:Ex}{v:List V}{d:List Im}(s:ai H H')(h:aj K H O v d):aj K H' O v d:=h.step (.same s)
theorem aj.length{H:Hp}{O:Ex}:∀{vs:List V}{ds:List Im},aj K H O vs ds->vs.length=ds.length
 | _,_,.nil=>rfl
 | _,_,.cons _ r=>by rw [Dp,Dp,aj.length r]
theorem aj.get{H:Hp}{O:Ex}:∀{vs:List V}{ds:List Im}{i:Nat}{v:V},aj K H O vs ds->vs[i]?=some v->∃d,ds[i]?=some d/\Dt K H O v d
 | _,_,_,_,.nil,e=>by simp at e
 | _,_,0,_,.cons h _,e=>by simp at e;subst e;exact⟨_,rfl,h⟩
 | _,_,i+1,_,.cons _ r,e=>by simpa using aj.get (i:=i) r (by simpa using e)
theorem aj.getD{H:Hp}{O:Ex}:∀{vs:List V}{ds:List Im}{i:Nat}{d:Im},aj K H O vs ds->ds[i]?=some d->∃v,vs[i]?=some v/\Dt K H O v d
 | _,_,_,_,.nil,e=>by simp at e
 | _,_,0,_,.cons h _,e=>by simp at e;subst e;exact⟨_,rfl,h⟩
 | _,_,i+1,_,.cons _ r,e=>by simpa using aj.getD (i:=i) r (by simpa using e)
theorem aj.append{H:Hp}{O:Ex}:∀{vs ws:List V}{ds es:List Im},aj K H O vs ds->aj K H O ws es->aj K H O (vs++ws) (ds++es)
 | _,_,_,_,.nil,s=>s
 | _,_,_,_,.cons h r,s=>.cons h (aj.append r s)
theorem aj.ints{H:Hp}{O:Ex}:∀(ns:List Int),aj K H O (ns.map V.int) (ns.map Dn)
 | []=>.nil
 | n::r=>.cons (.int n) (aj.ints r)
inductive Sh (K:Dj) (H:Hp) (O:Ex):V->Im->Prop
 | dt {v:V} {d:Im}:Dt K H O v d->Sh K H O v d
 | own {l:Ip} {vs:List V} {ds:List Im}:H l=some (.lst vs)->aj K H O vs ds->Sh K H O (.ref l) (.list ds)
theorem Sh.mono{H H':Hp}{O:Ex}{v:V}{d:Im}(s:ai H H'):Sh K H O v d->Sh K H' O v d
 | .dt h=>.dt (h.mono s)
 | .own h r=>.own (s _ _ h) (r.mono s)
theorem Dt.all{H:Hp}{O:Ex}{v:V}{d:Im}(h:Dt K H O v d):Dt K H (λ_=>False) v d:=h.step ⟨λ_ _ e _=>e,λ_ _ _ z=>z⟩
theorem aj.all{H:Hp}{O:Ex}{v:List V}{d:List Im}(h:aj K H O v d):aj K H (λ_=>False) v d:=h.step ⟨λ_ _ e _=>e,λ_ _ _ z=>z⟩
theorem Sh.all{H:Hp}{O:Ex}{v:V}{d:Im}:Sh K H O v d->Dt K H (λ_=>False) v d
 | .dt h=>h.all
 | .own h r=>.lst (.inl h) (λz=>z) r.all
theorem bD.of0{H:Hp}{a:Ip}{xs:List V}(h:bD K oh a xs):bD K H a xs:=by
 rcases h with(h | ⟨o,h⟩) | h
 ·cases h
 ·cases h
 ·exact .inr h
theorem aG.of0{H:Hp}{a:Ip}{xs:List V}(h:aG K oh a xs):aG K H a xs:=by
 rcases h with(h | ⟨o,h⟩) | h
 ·cases h
 ·cases h
 ·exact .inr h
theorem Sh.tup{H:Hp}{O:Ex}{v:V}{ds:List Im}(h:Sh K H O v (.tuple ds)):∃a xs,v= .ref a/\bD K H a xs/\aj K H O xs ds:=by
 cases h with
 | dt h=>
  cases h with
  | tup h _ r=>exact⟨_,_,rfl,.inl h,r⟩
  | tupK h r=>exact⟨_,_,rfl,h.of0,r⟩
theorem Sh.lstR{H:Hp}{O:Ex}{v:V}{ds:List Im}(h:Sh K H O v (.list ds)):∃a xs,v= .ref a/\Rd H a (.lst xs)/\aj K H O xs ds:=by
 cases h with
 | dt h=>
  cases h with
  | lst h _ r=>exact⟨_,_,rfl,h,r⟩
 | own h r=>exact⟨_,_,rfl,.inl h,r⟩
theorem Sh.lst{H:Hp}{O:Ex}{v:V}{ds:List Im}(h:Sh K H O v (.list ds)):∃a xs,v= .ref a/\aG K H a xs/\aj K H O xs ds:=by
 obtain⟨a,xs,e,h,r⟩:=h.lstR;exact⟨a,xs,e,.inl h,r⟩
theorem Sh.scr{H:Hp}{O:Ex}{v:V}{ds:List Im}(h:Sh K H O v (j3 ds)):∃a xs,v= .ref a/\aG K H a xs/\aj K H O xs ds:=by
 cases h with
 | dt h=>
  cases h with
  | scr h r=>
   rcases h with h | h
   ·exact⟨_,_,rfl,.inl h.1,r⟩
   ·exact⟨_,_,rfl,h.of0,r⟩
theorem Sh.int{H:Hp}{O:Ex}{v:V}{i:Int}(h:Sh K H O v (.int i)):v= .int i:=by cases h with | dt h=>cases h;rfl
theorem Sh.bl{H:Hp}{O:Ex}{v:V}{i:Bool}(h:Sh K H O v (.bool i)):v= .bl i:=by cases h with | dt h=>cases h;rfl
theorem Sh.str{H:Hp}{O:Ex}{v:V}{i:Str}(h:Sh K H O v (.str i)):v= .str i:=by cases h with | dt h=>cases h;rfl
theorem Sh.non{H:Hp}{O:Ex}{v:V}(h:Sh K H O v .none):v= .non:=by cases h with | dt h=>cases h;rfl
def bE:Im->Bool
 | .none | .bool _ | .int _ | .str _=>true
 | _=>false
end
section
variable {X:Cx} {JI:List (Ip×Obj)} {σ:St} {H:Hp} {s:Iq}
mutual
theorem mT(I:aa X JI σ H s){O:Ex}:∀{v:V}{d:Im}{u:Io},Dt X.K H O v d->d.canLay0=true->au v u->∃as,Reads s.heap u d as
 | _,_,_,.non,_,r=>by cases r;exact⟨_,Reads.none⟩
 | _,_,_,.bl b,_,r=>by cases r;exact⟨_,Reads.bool b⟩
 | _,_,_,.int i,_,r=>by obtain⟨t,rfl⟩:=r;exact⟨_,Reads.int i t⟩
 | _,_,_,.str x,_,r=>by obtain⟨t,rfl⟩:=r;exact⟨_,Reads.str x t⟩
 | _,_,_,.tup h _ hs,c,r=>by
  cases r;obtain⟨its,rv,⟨o,e,c',n,dd⟩,_⟩:=I.tuple (.inl h);obtain⟨as,q⟩:=oi I hs (by simpa [E8] using c) rv;exact⟨as,reads_tuple_at e c' dd (by simpa using q)⟩
 | _,_,_,.tupK h hs,c,r=>by
  cases r;obtain⟨its,rv,⟨o,e,c',n,dd⟩,_⟩:=I.tuple h.of0;obtain⟨as,q⟩:=oi I hs (by simpa [E8] using c) rv;exact⟨as,reads_tuple_at e c' dd (by simpa using q)⟩
 | _,_,_,.lst h _ hs,c,r=>by
  cases r;obtain⟨its,rv,⟨o,n,e,c',_,dd⟩,_⟩:=I.list (.inl h);obtain⟨as,q⟩:=oi I hs (by simpa [E8] using c) rv;exact⟨_,reads_list_at e c' dd (by simpa using q)⟩
 | _,_,_,.pack _ _,c,_=>by simp [E8] at c
 | _,_,_,.purse _ _,c,_=>by simp [E8] at c
 | _,_,_,.dct0 _ _,c,_=>by simp [E8] at c
 | _,_,_,.obj _ _ _ _,c,_=>by simp [E8] at c
 | _,_,_,.dic _ _ _ _ _,c,_=>by simp [E8] at c
 | _,_,_,.scr _ _,c,_=>by simp [E8] at c
theorem oi(I:aa X JI σ H s){O:Ex}:∀{vs:List V}{ds:List Im}{us:List Io},aj X.K H O vs ds->F3 ds=true->az vs us->∃as,ReadsAll s.heap us ds as
 | _,_,_,.nil,_,r=>by cases r;exact⟨_,ReadsAll.nil⟩
 | _,_,_,.cons h hs,c,r=>by
  rw [F3,E6] at c;cases r with
  | cons r1 r2=>
   obtain⟨as,q⟩:=mT I h c.1 r1;obtain⟨bs,p⟩:=oi I hs c.2 r2;exact⟨_,ReadsAll.cons q p⟩
end
end
inductive Sl where
 | v (d:Im)
 | o (ds:List Im)
 | k (kd:List (ao×Im))
 | i (l C:Ip) (fd:List (Str×Im))
 | r (l C g u:Ip) (fd:List (Str×Im)) (gd ud:List (ao×Im))
 | b (ds:List Im)
 | f (kd:List (ao×Im))
abbrev Dl:=List (Option Sl)
inductive aM (K:Dj) (H:Hp) (O:Ex):List (ao×V)->List (ao×Im)->Prop
 | nil:aM K H O [] []
 | cons {k:ao} {v:V} {d:Im} {r:List (ao×V)} {s:List (ao×Im)}:Dt K H O v d->aM K H O r s->aM K H O ((k,v)::r) ((k,d)::s)
theorem aM.step{K:Dj}{H H':Hp}{O O':Ex}(S:aV H H' O O'){r:List (ao×V)}{s:List (ao×Im)}(h:aM K H O r s):aM K H' O' r s:=by
 induction h with
 | nil=>exact .nil
 | cons a _ ih=>exact .cons (a.step S) ih
theorem aM.mono{K:Dj}{H H':Hp}{O:Ex}(S:ai H H'){r:List (ao×V)}{s:List (ao×Im)}(h:aM K H O r s):aM K H' O r s:=h.step (.same S)
def qv(K:Dj)(H:Hp)(O:Ex)(fs:List (Str×V))(fd:List (Str×Im)):Prop:=fs.map (·.1)=fd.map (·.1)/\aj K H O (fs.map (·.2)) (fd.map (·.2))
def Sl.own:Sl->Prop
 | .v _=>False
 | .b _=>False
 | .f _=>False
 | _=>True
abbrev yL:Str:=Dk "gone"
abbrev yM:Str:=Dk "used"
def yN(K:Dj)(H:Hp)(O0 O:Ex)(l C g u:Ip)(fd:List (Str×Im))(gd ud:List (ao×Im)):Prop:=∃dx fs og ou gv uv,H l=some (.ins C dx (fs++[(yL,.ref g),(yM,.ref u)]))/\qv K H O fs fd/\g≠u/\
 (O g/\¬O0 g/\H g=some (.frz og (.dK gv))/\aM K H O gv gd)/\(O u/\¬O0 u/\H u=some (.frz ou (.dK uv))/\aM K H O uv ud)
def kG(K:Dj)(H:Hp)(O0 O:Ex)(x:Option V):Option Sl->Prop
 | none=>True
 | some (.v d)=>∃v,x=some v/\Dt K H O v d
 | some (.o ds)=>∃l vs,x=some (.ref l)/\O l/\¬O0 l/\H l=some (.lst vs)/\aj K H O vs ds
 | some (.k kd)=>∃l kv,x=some (.ref l)/\O l/\¬O0 l/\H l=some (.dK kv)/\aM K H O kv kd
 | some (.i l C fd)=>∃dx fs,x=some (.ref l)/\O l/\¬O0 l/\H l=some (.ins C dx fs)/\qv K H O fs fd
 | some (.r l C g u fd gd ud)=>x=some (.ref l)/\O l/\¬O0 l/\yN K H O0 O l C g u fd gd ud
 | some (.b ds)=>∃l vs,x=some (.ref l)/\O0 l/\H l=some (.lst vs)/\aj K H O vs ds
 | some (.f kd)=>∃l o kv,x=some (.ref l)/\¬O l/\H l=some (.frz o (.dK kv))/\aM K H O kv kd
structure Wd (K:Dj) (H0:Hp) (O0:Ex) (H:Hp) (O:Ex) (σ:St) (δ:Dl):Prop where
 same:ai H0 H
 sub:∀l,O0 l->O l
 new:∀l,O l->O0 l\/H0 l=none
 trk:∀l,O l->H l≠none
 len:σ.length=δ.length
 sl:∀(i:Nat) y,δ[i]?=some y->kG K H O0 O ((σ[i]?).join) y
 dis:∀(i j:Nat) y z l,δ[i]?=some (some y)->y.own->δ[j]?=some (some z)->z.own->σ[i]?=some (some (.ref l))->σ[j]?=some (some (.ref l))->i=j
section
variable {K:Dj} {H0 H H':Hp} {O0 O:Ex} {σ:St} {δ:Dl}
theorem kG.mono{x:Option V}{y:Option Sl}(s:ai H H')(h:kG K H O0 O x y):kG K H' O0 O x y:=by
 cases y with
 | none=>exact EU
 | some y=>
  cases y with
  | v d=>
   obtain⟨v,e,r⟩:=h;exact⟨v,e,r.mono s⟩
  | o ds=>
   obtain⟨l,vs,e,a,b,c,r⟩:=h;exact⟨l,vs,e,a,b,s _ _ c,r.mono s⟩
  | k ds=>
   obtain⟨l,vs,e,a,b,c,r⟩:=h;exact⟨l,vs,e,a,b,s _ _ c,r.mono s⟩
  | i l C ds=>
   obtain⟨dx,vs,e,a,b,c,r1,r2⟩:=h;exact⟨dx,vs,e,a,b,s _ _ c,r1,r2.mono s⟩
  | r l C g u fd gd ud=>
   obtain⟨e,a,b,dx,fs,og,ou,gv,uv,c,⟨r1,r2⟩,ne,⟨g1,g2,g3,g4⟩,u1,u2,u3,u4⟩:=h;exact⟨e,a,b,dx,fs,og,ou,gv,uv,s _ _ c,⟨r1,r2.mono s⟩,ne,⟨g1,g2,s _ _ g3,g4.mono s⟩,u1,u2,s _ _ u3,u4.mono s⟩
  | b ds=>
   obtain⟨l,vs,e,a,c,r⟩:=h;exact⟨l,vs,e,a,s _ _ c,r.mono s⟩
  | f kd=>
   obtain⟨l,o,kv,e,a,c,r⟩:=h;exact⟨l,o,kv,e,a,s _ _ c,r.mono s⟩
theorem kG.go{O':Ex}{x:Option V}{y:Option Sl}(h:kG K H O0 O x y)(S:aV H H' O O')(kp:∀l o,y.any (λz=>match z with | .v _=>false | .b _=>false | .f _=>false | _=>true)=true->x=some (.ref l)->O l->¬O0 l->H l=some o->O' l/\H' l=some o)
 (kp2:∀a o u,O a->¬O0 a->H a=some (.frz o u)->O' a/\H' a=some (.frz o u))(kp3:∀a o,O0 a->H a=some o->H' a=some o):kG K H' O0 O' x y:=by
 cases y with
 | none=>exact EU
 | some y=>
  cases y with
  | v d=>
   obtain⟨v,e,r⟩:=h;exact⟨v,e,r.step S⟩
  | o ds=>
   obtain⟨l,vs,e,a,b,c,r⟩:=h;exact⟨l,vs,e,(kp l _ rfl e a b c).1,b,(kp l _ rfl e a b c).2,r.step S⟩
  | k ds=>
   obtain⟨l,vs,e,a,b,c,r⟩:=h;exact⟨l,vs,e,(kp l _ rfl e a b c).1,b,(kp l _ rfl e a b c).2,r.step S⟩
  | i l C ds=>
   obtain⟨dx,vs,e,a,b,c,r1,r2⟩:=h;exact⟨dx,vs,e,(kp l _ rfl e a b c).1,b,(kp l _ rfl e a b c).2,r1,r2.step S⟩
  | r l C g u fd gd ud=>
   obtain⟨e,a,b,dx,fs,og,ou,gv,uv,c,⟨r1,r2⟩,ne,⟨g1,g2,g3,g4⟩,u1,u2,u3,u4⟩:=h;exact⟨e,(kp l _ rfl e a b c).1,b,dx,fs,og,ou,gv,uv,(kp l _ rfl e a b c).2,⟨r1,r2.step S⟩,ne,⟨(kp2 _ _ _ g1 g2 g3).1,g2,(kp2 _ _ _ g1 g2 g3).2,g4.step S⟩,(kp2 _ _ _ u1 u2 u3).1,u2,(kp2 _ _ _ u1 u2 u3).2,u4.step S⟩
  | b ds=>
   obtain⟨l,vs,e,a,c,r⟩:=h;exact⟨l,vs,e,a,kp3 _ _ a c,r.step S⟩
  | f kd=>
   obtain⟨l,o,kv,e,a,c,r⟩:=h;exact⟨l,o,kv,e,S.out _ (by rw [c];exact λz=>nomatch z) a,S.keep _ _ c a,r.step S⟩
theorem Wd.mono(s:ai H H')(w:Wd K H0 O0 H O σ δ):Wd K H0 O0 H' O σ δ:=
 ⟨w.same.trans s,w.sub,w.new,λl h z=>(by
  cases e:H l with
  | none=>exact w.trk l h e
  | some o=>rw [s _ _ e] at z;cases z),w.len,λi y e=>(w.sl i y e).mono s,w.dis⟩
theorem lG{i:Nat}{v:V}(h:(σ[i]?).join=some v):σ[i]?=some (some v):=by
 cases q:σ[i]? with
 | none=>rw [q] at h;cases h
 | some o=>rw [q] at h;rw [show o=some v from h]
theorem Wd.val(w:Wd K H0 O0 H O σ δ){i:Nat}{d:Im}(e:δ[i]?=some (some (.v d))):∃v,σ[i]?=some (some v)/\Dt K H O v d:=by
 obtain⟨v,h,r⟩:=w.sl i _ e;exact⟨v,lG h,r⟩
theorem Wd.own(w:Wd K H0 O0 H O σ δ){i:Nat}{ds:List Im}(e:δ[i]?=some (some (.o ds))):∃l vs,σ[i]?=some (some (.ref l))/\O l/\¬O0 l/\H l=some (.lst vs)/\aj K H O vs ds:=by
 obtain⟨l,vs,h,r⟩:=w.sl i _ e;exact⟨l,vs,lG h,r⟩
theorem Wd.ownK(w:Wd K H0 O0 H O σ δ){i:Nat}{kd:List (ao×Im)}(e:δ[i]?=some (some (.k kd))):∃l kv,σ[i]?=some (some (.ref l))/\O l/\¬O0 l/\H l=some (.dK kv)/\aM K H O kv kd:=by
 obtain⟨l,vs,h,r⟩:=w.sl i _ e;exact⟨l,vs,lG h,r⟩
theorem Wd.ownI(w:Wd K H0 O0 H O σ δ){i:Nat}{l C:Ip}{fd:List (Str×Im)}(e:δ[i]?=some (some (.i l C fd))):∃dx fs,σ[i]?=some (some (.ref l))/\O l/\¬O0 l/\H l=some (.ins C dx fs)/\qv K H O fs fd:=by
 obtain⟨dx,vs,h,r⟩:=w.sl i _ e;exact⟨dx,vs,lG h,r⟩
theorem Wd.adr(w:Wd K H0 O0 H O σ δ){i:Nat}{y:Sl}(e:δ[i]?=some (some y))(h:y.own):∃l,σ[i]?=some (some (.ref l))/\O l/\¬O0 l:=by
 match y,h,e with
 | .o ds,_,e=>obtain⟨l,vs,a,b,c,_⟩:=w.own e;exact⟨l,a,b,c⟩
 | .k ds,_,e=>obtain⟨l,vs,a,b,c,_⟩:=w.ownK e;exact⟨l,a,b,c⟩
 | .i l C ds,_,e=>obtain⟨dx,vs,a,b,c,_⟩:=w.ownI e;exact⟨l,a,b,c⟩
 | .r l C g u fd gd ud,_,e=>obtain⟨a,b,c,_⟩:=w.sl i _ e;exact⟨l,lG a,b,c⟩
theorem Wd.nofrz(w:Wd K H0 O0 H O σ δ){i:Nat}{y:Sl}{l:Ip}(e:δ[i]?=some (some y))(h:y.own)(hl:σ[i]?=some (some (.ref l)))(o:Obj)(u:HO):H l≠some (.frz o u):=by
 match y,h,e with
 | .o ds,_,e=>obtain⟨l',vs,a,b,c,d,_⟩:=w.own e;rw [hl] at a;cases a;rw [d];exact λz=>nomatch z
 | .k ds,_,e=>obtain⟨l',vs,a,b,c,d,_⟩:=w.ownK e;rw [hl] at a;cases a;rw [d];exact λz=>nomatch z
 | .i l C ds,_,e=>obtain⟨dx,vs,a,b,c,d,_⟩:=w.ownI e;rw [hl] at a;cases a;rw [d];exact λz=>nomatch z
 | .r l C g u fd gd ud,_,e=>obtain⟨a,b,c,_,_,_,_,_,_,d,_⟩:=w.sl i _ e;have a:=lG a;rw [hl] at a;cases a;rw [d];exact λz=>nomatch z
theorem Wd.set(w:Wd K H0 O0 H O σ δ){i:Nat}{v:V}{d:Im}(h:Dt K H O v d):Wd K H0 O0 H O (σ.set i (some v)) (δ.set i (some (.v d))):=by
 refine⟨w.same,w.sub,w.new,w.trk,by simp [w.len],λj y e=>?_,λj k y z l e1 y1 e2 z2 e3 e4=>?_⟩
 ·by_cases hj:j=i
  ·subst hj;have hl:j < δ.length:=by
    have:=(DY.mp e).1;simpa using this
   rw [Ep hl] at e;cases e;rw [Ep (by rw [w.len];exact hl)];exact⟨v,rfl,h⟩
  ·rw [D3 (Ne.symm hj)] at e⊢;exact w.sl j y e
 ·have ne:∀{j:Nat}{y:Sl},(δ.set i (some (.v d)))[j]?=some (some y)->y.own->j≠i:=λ{j y} e ho z=>by
   subst z;by_cases hl:j < δ.length
   ·rw [Ep hl] at e;cases e;exact ho
   ·rw [FN (by simpa using hl)] at e;cases e
  have n1:=ne e1 y1;have n2:=ne e2 z2;rw [D3 (Ne.symm n1)] at e1 e3;rw [D3 (Ne.symm n2)] at e2 e4;exact w.dis j k y z l e1 y1 e2 z2 e3 e4
theorem Wd.setY(w:Wd K H0 O0 H O σ δ){i:Nat}{p:Ip}{ho:HO}{y0:Sl}(hy:y0.own)(hp:H p=none)(h:∀O',aV H (ah H p ho) O O'->O' p->¬O0 p->kG K (ah H p ho) O0 O' (some (.ref p)) (some y0)):
 Wd K H0 O0 (ah H p ho) (λl=>O l\/l=p) (σ.set i (some (.ref p))) (δ.set i (some y0)):=by
 have sm:ai H (ah H p ho):=ai.new hp;have np:∀l,O l->l≠p:=λl hl z=>w.trk l hl (by rw [z];exact hp);have p0:H0 p=none:=by
  cases e:H0 p with
  | none=>rfl
  | some o=>rw [w.same _ _ e] at hp;cases hp
 have S:aV H (ah H p ho) O (λl=>O l\/l=p):=⟨λb o e _=>sm b o e,λb hb hn z=>z.elim hn λq=>hb (by rw [q];exact hp)⟩;have n0:¬O0 p:=λz=>np p (w.sub p z) rfl;refine⟨w.same.trans sm,λl z=>.inl (w.sub l z),λl z=>z.elim (w.new l) λq=>.inr (by rw [q];exact p0),λl z=>?_,by simp [w.len],λj y e=>?_,λj k y z l e1 y1 e2 z2 e3 e4=>?_⟩
 ·by_cases q:l=p
  ·rw [q,aD];exact λz=>nomatch z
  ·rw [aq q];exact w.trk l (z.resolve_right q)
 ·by_cases hj:j=i
  ·subst hj;have hl:j < δ.length:=by
    have:=(DY.mp e).1;simpa using this
   rw [Ep hl] at e;cases e;rw [Ep (by rw [w.len];exact hl)];exact h _ S (.inr rfl) n0
  ·rw [D3 (Ne.symm hj)] at e⊢;exact(w.sl j y e).go S (λl o _ _ a _ c=>⟨.inl a,sm _ _ c⟩) (λa o u a1 _ a3=>⟨.inl a1,sm _ _ a3⟩) λa o _ a3=>sm _ _ a3
 ·by_cases hj:j=i
  ·by_cases hk:k=i
   ·rw [hj,hk]
   ·exfalso;rw [hj] at e1 e3;have hl:i < σ.length:=by
     have:=(DY.mp e3).1;simpa using this
    rw [Ep hl] at e3;cases e3;rw [D3 (Ne.symm hk)] at e2 e4;obtain⟨l',x1,x2,_⟩:=w.adr e2 z2;rw [e4] at x1;cases x1;exact np _ x2 rfl
  ·by_cases hk:k=i
   ·exfalso;rw [hk] at e2 e4;have hl:i < σ.length:=by
     have:=(DY.mp e4).1;simpa using this
    rw [Ep hl] at e4;cases e4;rw [D3 (Ne.symm hj)] at e1 e3;obtain⟨l',x1,x2,_⟩:=w.adr e1 y1;rw [e3] at x1;cases x1;exact np _ x2 rfl
   ·rw [D3 (Ne.symm hj)] at e1 e3;rw [D3 (Ne.symm hk)] at e2 e4;exact w.dis j k _ _ l e1 y1 e2 z2 e3 e4
theorem Wd.setO(w:Wd K H0 O0 H O σ δ){i:Nat}{p:Ip}{vs:List V}{ds:List Im}(hp:H p=none)(h:aj K H O vs ds):
 Wd K H0 O0 (ah H p (.lst vs)) (λl=>O l\/l=p) (σ.set i (some (.ref p))) (δ.set i (some (.o ds))):=
 w.setY trivial hp λO' S a b=>⟨p,vs,rfl,a,b,aD,h.step S⟩
theorem Wd.putY(w:Wd K H0 O0 H O σ δ){i:Nat}{l:Ip}{ho:HO}{y0 y1:Sl}(h0:y0.own)(h1:y1.own)(e:δ[i]?=some (some y0))(hl:σ[i]?=some (some (.ref l)))(h:aV H (ah H l ho) O O->O l->¬O0 l->kG K (ah H l ho) O0 O (some (.ref l)) (some y1)):
 Wd K H0 O0 (ah H l ho) O σ (δ.set i (some y1)):=by
 obtain⟨l',x1,x2,x3⟩:=w.adr e h0;rw [hl] at x1;cases x1;have l0:H0 l=none:=(w.new l x2).resolve_left x3;have S:aV H (ah H l ho) O O:=⟨λb o q n=>by rw [aq (λz=>n (by rw [z];exact x2))];exact q,λ_ _ n=>n⟩;have li:i < δ.length:=(DY.mp e).1;refine⟨λb o q=>by rw [aq (λz=>by rw [z,l0] at q;cases q)];exact w.same b o q,w.sub,w.new,λb z=>?_,by simp [w.len],λj y q=>?_,λj k y z b e1 y1' e2 z2 e3 e4=>?_⟩
 ·by_cases q:b=l
  ·rw [q,aD];exact λz=>nomatch z
  ·rw [aq q];exact w.trk b z
 ·by_cases hj:j=i
  ·subst hj;rw [Ep li] at q;cases q;rw [hl];exact h S x2 x3
  ·rw [D3 (Ne.symm hj)] at q;refine(w.sl j y q).go S (λb o ho' e' a1 a2 a3=>⟨a1,?_⟩) (λb o u a1 a2 a3=>⟨a1,by rw [aq (λz=>w.nofrz e h0 hl o u (by rw [<-z];exact a3))];exact a3⟩) λb o a1 a3=>by rw [aq (λz=>x3 (by rw [<-z];exact a1))];exact a3
   have nb:b≠l:=λz=>by
    subst z
    match y,ho',q with
    | some z,ho',q=>exact hj (w.dis j i z y0 b q (by cases z <;> first | trivial | cases ho') e h0 (lG e') hl)
   rw [aq nb];exact a3
 ·have kJ:∀{j:Nat}{y:Sl},(δ.set i (some y1))[j]?=some (some y)->y.own->∃y',δ[j]?=some (some y')/\y'.own:=λ{j y} q hq=>by
   by_cases hj:j=i
   ·subst hj;exact⟨_,e,h0⟩
   ·rw [D3 (Ne.symm hj)] at q;exact⟨_,q,hq⟩
  obtain⟨_,q1,r1⟩:=kJ e1 y1';obtain⟨_,q2,r2⟩:=kJ e2 z2;exact w.dis j k _ _ b q1 r1 q2 r2 e3 e4
theorem Wd.putO(w:Wd K H0 O0 H O σ δ){i:Nat}{l:Ip}{vs us:List V}{ds es:List Im}(e:δ[i]?=some (some (.o ds)))(hl:σ[i]?=some (some (.ref l)))(h:aj K H O us es):
 Wd K H0 O0 (ah H l (.lst us)) O σ (δ.set i (some (.o es))):=
 w.putY (y0:= .o ds) (y1:= .o es) trivial trivial e hl λS a b=>⟨l,us,rfl,a,b,aD,h.step S⟩
end
abbrev DT:=Dl->(Im->Prop)->Prop
abbrev DA:=Dl->(List Im->Prop)->Prop
abbrev DB:=Dl->(Bool->Prop)->Prop
structure mU where
 nx:Dl->Prop
 rt:Im->Prop
 bk:Dl->Prop:=λ_=>False
 ct:Dl->Prop:=λ_=>False
abbrev DS:=mU->Dl->Prop
section
variable (K:Dj) (H0:Hp) (O0:Ex)
inductive up (t:DT) (σ:St) (H:Hp) (R:VK):Prop
 | mk (O:Ex) (δ:Dl) (Qd:Im->Prop):Wd K H0 O0 H O σ δ->t δ Qd->(∀d v H',Qd d->ai H H'->Dt K H' O v d->R v H')->up t σ H R
inductive lH (t:DT) (σ:St) (H:Hp) (R:VK):Prop
 | mk (O:Ex) (δ:Dl) (Qd:Im->Prop):Wd K H0 O0 H O σ δ->t δ Qd->(∀d v H',Qd d->ai H H'->Sh K H' O v d->R v H')->lH t σ H R
inductive j4 (t:DA) (σ:St) (H:Hp) (R:List V->Hp->Prop):Prop
 | mk (O:Ex) (δ:Dl) (Qd:List Im->Prop):Wd K H0 O0 H O σ δ->t δ Qd->(∀ds vs H',Qd ds->ai H H'->aj K H' O vs ds->R vs H')->j4 t σ H R
inductive bF (t:DB) (σ:St) (H:Hp) (R:Bool->Hp->Prop):Prop
 | mk (O:Ex) (δ:Dl) (Qd:Bool->Prop):Wd K H0 O0 H O σ δ->t δ Qd->(∀b H',Qd b->ai H H'->R b H')->bF t σ H R
inductive bQ (t:DS) (D:kQ) (σ:St) (H:Hp):Prop
 | mk (O:Ex) (δ:Dl) (E:mU):Wd K H0 O0 H O σ δ->t E δ->(∀O' δ' σ' H',E.nx δ'->Wd K H0 O0 H' O' σ' δ'->aV H H' O O'->D.nx σ' H')->(∀d v H',E.rt d->ai H0 H'->Dt K H' O0 v d->D.rt v H')->
 (∀O' δ' σ' H',E.bk δ'->Wd K H0 O0 H' O' σ' δ'->aV H H' O O'->D.bk σ' H')->(∀O' δ' σ' H',E.ct δ'->Wd K H0 O0 H' O' σ' δ'->aV H H' O O'->D.ct σ' H')->bQ t D σ H
end
theorem PE.imp{X:Cx}{e:Iu}{t u:TE}(h:PE X e t)(i:∀σ H Q,u σ H Q->t σ H Q):PE X e u:=λJI s σ H Q I z=>h JI s σ H Q I (i σ H Q z)
theorem PT.imp{X:Cx}{e:Iu}{t u:TT}(h:PT X e t)(i:∀σ H Q,u σ H Q->t σ H Q):PT X e u:=λJI s σ H Q I z=>h JI s σ H Q I (i σ H Q z)
theorem PW.imp{X:Cx}{e:Iu}{t u:TT}(h:PW X e t)(i:∀σ H Q,u σ H Q->t σ H Q):PW X e u:=λwh JI s σ H Q I z=>h wh JI s σ H Q I (i σ H Q z)
theorem PA.imp{X:Cx}{e:List Iu}{t u:TA}(h:PA X e t)(i:∀σ H Q,u σ H Q->t σ H Q):PA X e u:=λpos JI s σ H Q I z=>h pos JI s σ H Q I (i σ H Q z)
theorem PS.imp{X:Cx}{e:II}{t u:TS}(h:PS X e t)(i:∀D σ H,u D σ H->t D σ H):PS X e u:=λJI s σ H D I z=>h JI s σ H D I (i D σ H z)
theorem aR.imp{X:Cx}{e:List II}{t u:TS}(h:aR X e t)(i:∀D σ H,u D σ H->t D σ H):aR X e u:=λJI s σ H D I z=>h JI s σ H D I (i D σ H z)
section
variable {X:Cx} {H0:Hp} {O0:Ex}
abbrev DE(X:Cx)(H0:Hp)(O0:Ex)(e:Iu)(t:DT):Prop:=PE X e (up X.K H0 O0 t)
abbrev DF(X:Cx)(H0:Hp)(O0:Ex)(e:Iu)(t:DT):Prop:=PE X e (lH X.K H0 O0 t)
theorem df{e:Iu}{t:DT}(h:DE X H0 O0 e t):DF X H0 O0 e t:=h.imp λσ H Q uu63=>by obtain⟨O,δ,Qd,w,q,k⟩:=uu63;exact⟨O,δ,Qd,w,q,λd v H' a b c=>k d v H' a b (.dt c)⟩
def tS(Q:Im->Prop):Option (Option Sl)->Prop
 | some (some (.v d))=>Q d
 | _=>False
def cf(i:Nat):DT:=λδ Q=>tS Q δ[i]?
theorem yO{Q:Im->Prop}{o:Option (Option Sl)}:tS Q o↔∃d,o=some (some (.v d))/\Q d:=by
 constructor
 ·intro h
  match o,h with
  | some (some (.v d)),h=>exact⟨d,rfl,h⟩
 ·rintro⟨d,rfl,h⟩;exact h
theorem yP{i:Nat}{δ:Dl}{Q:Im->Prop}(h:cf i δ Q):∃d,δ[i]?=some (some (.v d))/\Q d:=yO.mp h
def cD(i:Nat):DT:=λδ Q=>∃ds,δ[i]?=some (some (.o ds))/\Q (.list ds)
def dC(d:Im):DT:=λ_ Q=>Q d
theorem dv(i:Nat){x:Str}{pos:Pos}(hN:X.N[i]?=some x:=by rfl)(hv:mG X.env.scope x:=by first | exact GL rfl | exact F5 (GL rfl) | exact F5 (F5 rfl))
 (hd:(x==("__debug__":Str))=false:=by decide)(hcd:(x==("__classdict__":Str))=false:=by decide):DE X H0 O0 (.Name x pos) (cf i):=
 (lg hN hv hd hcd).imp λσ H Q uu64=>by
  obtain⟨O,δ,Qd,w,dq,k⟩:=uu64;obtain⟨d,e,q⟩:=yP dq;obtain⟨v,h,r⟩:=w.val e;exact⟨v,h,k d v H q (ai.refl _) r⟩
theorem dw(i:Nat){x:Str}{pos:Pos}(hN:X.N[i]?=some x:=by rfl)(hv:mG X.env.scope x:=by first | exact GL rfl | exact F5 (GL rfl) | exact F5 (F5 rfl))
 (hd:(x==("__debug__":Str))=false:=by decide)(hcd:(x==("__classdict__":Str))=false:=by decide):DF X H0 O0 (.Name x pos) (cD i):=
 (lg hN hv hd hcd).imp λσ H Q uu65=>by
  obtain⟨O,δ,Qd,w,⟨ds,e,q⟩,k⟩:=uu65;obtain⟨l,vs,h,_,_,r,rs⟩:=w.own e;exact⟨_,h,k _ _ H q (ai.refl _) (.own r rs)⟩
theorem dc{e:Iu}{v:V}{d:Im}(h:PE X e (tC v))(r:∀H O,Dt X.K H O v d):DE X H0 O0 e (dC d):=h.imp λσ H Q uu66=>by obtain⟨O,δ,Qd,w,q,k⟩:=uu66;exact k d v H q (ai.refl _) (r H O)
theorem ag{i j pos}:DE X H0 O0 (.Constant (.int i) j pos) (dC (.int i)):=dc bg λ_ _=>.int i
theorem kX{b j pos}:DE X H0 O0 (.Constant (.bool b) j pos) (dC (.bool b)):=dc wk λ_ _=>.bl b
theorem mr{j pos}:DE X H0 O0 (.Constant .none j pos) (dC .none):=dc nL λ_ _=>.non
theorem bK{x j pos}:DE X H0 O0 (.Constant (.str x) j pos) (dC (.str x)):=dc lh λ_ _=>.str x
def cg:DA:=λ_ Q=>Q []
def bU(t:DT)(u:DA):DA:=λδ Q=>t δ λd=>u δ λds=>Q (d::ds)
theorem ar:PA X [] (j4 X.K H0 O0 cg):=aK.imp λσ H Q uu67=>by obtain⟨O,δ,Qd,w,q,k⟩:=uu67;exact k [] [] H q (ai.refl _) .nil
theorem ae{e:Iu}{es:List Iu}{t:DT}{u:DA}(h:DE X H0 O0 e t)(hs:PA X es (j4 X.K H0 O0 u))(he:Iw (e::es) X.env=(false,eval e X.env)::Iw es X.env:=by rfl):PA X (e::es) (j4 X.K H0 O0 (bU t u)):=
 (aw h hs he).imp λσ H Q uu68=>by obtain⟨O,δ,Qd,w,q,k⟩:=uu68;exact⟨O,δ,_,w,q,λd v H1 q1 s1 r1=>⟨O,δ,_,w.mono s1,q1,λds vs H2 q2 s2 r2=>k (d::ds) (v::vs) H2 q2 (s1.trans s2) (.cons (r1.mono s2) r2)⟩⟩
def cE(t:DA):DT:=λδ Q=>t δ λds=>ds.length<=Ir/\Q (.tuple ds)
def eh(t:DA):DT:=λδ Q=>t δ λds=>ds.length<=Ir/\Q (.list ds)
theorem qw{H:Hp}{O:Ex}{σ:St}{δ:Dl}{H1:Hp}{p:Ip}{K:Dj}(w:Wd K H0 O0 H O σ δ)(s:ai H H1)(hp:H1 p=none):¬O p:=λz=>(w.mono s).trk p z hp
theorem lI{es:List Iu}{t:DA}{x1}{pos:Pos}(h:PA X es (j4 X.K H0 O0 t)):DE X H0 O0 (.Tuple es x1 pos) (cE t):=
 (lC h).imp λσ H Q uu69=>by obtain⟨O,δ,Qd,w,q,k⟩:=uu69;exact⟨O,δ,_,w,q,λds vs H1 q1 s1 r1=>⟨by rw [r1.length];exact q1.1,λp hp=>k _ _ _ q1.2 (s1.trans (ai.new hp)) (.tup (.inl aD) (qw w s1 hp) (r1.mono (ai.new hp)))⟩⟩
end
theorem aV.refl(H:Hp)(O:Ex):aV H H O O:=⟨λ_ _ e _=>e,λ_ _ n=>n⟩
theorem aV.trans{H H1 H2:Hp}{O O1 O2:Ex}(a:aV H H1 O O1)(b:aV H1 H2 O1 O2):aV H H2 O O2:=by
 refine⟨λc o e n=>?_,λc e n=>?_⟩
 ·have h1:=a.keep c o e n;exact b.keep c o h1 (a.out c (by rw [e];exact λz=>nomatch z) n)
 ·cases q:H c with
  | none=>exact absurd q e
  | some o=>exact b.out c (by rw [a.keep c o q n];exact λz=>nomatch z) (a.out c e n)
section
variable {X:Cx} {H0:Hp} {O0:Ex}
def bw(K:Dj)(r:R2)(rd:Im->Im->(Im->Prop)->Prop):Prop:=
 ∀(H:Hp)(O:Ex)(x y:V)(dx dy:Im)(Qd:Im->Prop)(R:VK),(∀l,O l->H l≠none)->Sh K H O x dx->Sh K H O y dy->rd dx dy Qd->(∀d v H',Qd d->ai H H'->Dt K H' O v d->R v H')->r x y H R
def aX(rd:Im->Im->(Im->Prop)->Prop)(ta tb:DT):DT:=λδ Q=>ta δ λx=>tb δ λy=>rd x y Q
theorem oj{K:Dj}{r:R2}{rd:Im->Im->(Im->Prop)->Prop}{ta tb:DT}(hd:bw K r rd):∀σ H Q,up K H0 O0 (aX rd ta tb) σ H Q->lq r (lH K H0 O0 ta) (lH K H0 O0 tb) σ H Q:=
 λσ H Q uu70=>by obtain⟨O,δ,Qd,w,q,k⟩:=uu70;exact⟨O,δ,_,w,q,λx v H1 q1 s1 r1=>⟨O,δ,_,w.mono s1,q1,λy u H2 q2 s2 r2=>hd H2 O v u x y Qd _ (w.mono (s1.trans s2)).trk (r1.mono s2) r2 q2 λd z H3 qd s3 r3=>k d z H3 qd (s1.trans (s2.trans s3)) r3⟩⟩
theorem yQ{a b:Iu}{ta tb:DT}{op:Operator}{r:R2}{rd:Im->Im->(Im->Prop)->Prop}{pos:Pos}(ho:aI X (Ja op) r)(hd:bw X.K r rd)(ha:DF X H0 O0 a ta)(hb:DF X H0 O0 b tb):DE X H0 O0 (.BinOp a op b pos) (aX rd ta tb):=(aS ho ha hb).imp (oj hd)
theorem ki{a b:Iu}{ta tb:DT}{op:CmpOp}{r:R2}{rd:Im->Im->(Im->Prop)->Prop}{pos:Pos}(ho:aI X (IJ op) r)(hd:bw X.K r rd)(ha:DF X H0 O0 a ta)(hb:DF X H0 O0 b tb)(hm:IY op b=false):DE X H0 O0 (.Compare a [op] [b] pos) (aX rd ta tb):=(nV ho ha hb hm).imp (oj hd)
def bx(t:DT):DB:=λδ Q=>t δ λd=>∃b,d= .bool b/\Q b
theorem yR{a b:Iu}{ta tb:DT}{op:CmpOp}{r:R2}{rd:Im->Im->(Im->Prop)->Prop}{pos:Pos}(ho:aI X (IJ op) r)(hd:bw X.K r rd)(ha:DF X H0 O0 a ta)(hb:DF X H0 O0 b tb)(hm:IY op b=false):PT X (.Compare a [op] [b] pos) (bF X.K H0 O0 (bx (aX rd ta tb))):=
 (lx ho ha hb hm).imp λσ H Q uu71=>by obtain⟨O,δ,Qd,w,q,k⟩:=uu71;exact oj hd σ H _ ⟨O,δ,_,w,q,λd v H' uu72 s r=>by obtain⟨b,e,qb⟩:=uu72;subst e;cases r;exact⟨b,rfl,k b H' qb s⟩⟩
theorem jw{e:Iu}{t:DT}(h:DE X H0 O0 e t)(he:∀whole,isTrue e X.env whole=(do let v<-whole;standAt e.pos;Jw [v] (truthy v)):=by intro _;rfl):PT X e (bF X.K H0 O0 (bx t)):=
 (me h he).imp λσ H Q uu73=>by obtain⟨O,δ,Qd,w,q,k⟩:=uu73;exact⟨O,δ,_,w,q,λd v H' uu74 s r=>by obtain⟨b,e,qb⟩:=uu74;subst e;cases r;exact⟨b,rfl,k b H' qb s⟩⟩
def cF(t u:DB):DB:=λδ Q=>t δ λc=>if c=true then u δ Q else Q false
def cG(t u:DB):DB:=λδ Q=>t δ λc=>if c=true then Q true else u δ Q
def cH(t:DB):DB:=λδ Q=>t δ λc=>Q (!c)
theorem mV{a:Iu}{t:DB}{pos:Pos}(h:PT X a (bF X.K H0 O0 t)):PW X (.BoolOp .And [a] pos) (bF X.K H0 O0 t):=sd h
theorem kH{a:Iu}{t:DB}{pos:Pos}(h:PT X a (bF X.K H0 O0 t)):PW X (.BoolOp .Or [a] pos) (bF X.K H0 O0 t):=se h
theorem mv{a b:Iu}{rest:List Iu}{t u:DB}{pos:Pos}(h:PT X a (bF X.K H0 O0 t))(hb:PW X (.BoolOp .And (b::rest) pos) (bF X.K H0 O0 u)):PW X (.BoolOp .And (a::b::rest) pos) (bF X.K H0 O0 (cF t u)):=
 (sg h hb).imp λσ H Q uu75=>by obtain⟨O,δ,Qd,w,q,k⟩:=uu75;exact⟨O,δ,_,w,q,λc H1 q1 s1=>by
  cases c with
  | true=>exact⟨O,δ,_,w.mono s1,q1,λb H2 q2 s2=>k b H2 q2 (s1.trans s2)⟩
  | false=>exact k false H1 q1 s1⟩
theorem jS{a b:Iu}{rest:List Iu}{t u:DB}{pos:Pos}(h:PT X a (bF X.K H0 O0 t))(hb:PW X (.BoolOp .Or (b::rest) pos) (bF X.K H0 O0 u)):PW X (.BoolOp .Or (a::b::rest) pos) (bF X.K H0 O0 (cG t u)):=
 (pz h hb).imp λσ H Q uu76=>by obtain⟨O,δ,Qd,w,q,k⟩:=uu76;exact⟨O,δ,_,w,q,λc H1 q1 s1=>by
  cases c with
  | false=>exact⟨O,δ,_,w.mono s1,q1,λb H2 q2 s2=>k b H2 q2 (s1.trans s2)⟩
  | true=>exact k true H1 q1 s1⟩
theorem jx{a:Iu}{t:DB}{pos:Pos}(h:PT X a (bF X.K H0 O0 t)):PT X (.UnaryOp .Not a pos) (bF X.K H0 O0 (cH t)):=
 (pA h).imp λσ H Q uu77=>by obtain⟨O,δ,Qd,w,q,k⟩:=uu77;exact⟨O,δ,_,w,q,λc H1 q1 s1=>k (!c) H1 q1 s1⟩
def cI(t u:DT):DT:=λδ Q=>t δ λd=>∃c,d= .bool c/\if c=true then u δ Q else Q (.bool false)
def ei(t u:DT):DT:=λδ Q=>t δ λd=>∃c,d= .bool c/\if c=true then Q (.bool true) else u δ Q
def cJ(t:DT):DT:=λδ Q=>t δ λd=>∃c,d= .bool c/\Q (.bool (!c))
theorem mW{op}{a:Iu}{t:DT}{pos:Pos}(h:DE X H0 O0 a t):DE X H0 O0 (.BoolOp op [a] pos) t:=pE h
theorem mX{a b:Iu}{rest:List Iu}{t u:DT}{pos:Pos}(h:DE X H0 O0 a t)(hb:DE X H0 O0 (.BoolOp .And (b::rest) pos) u):DE X H0 O0 (.BoolOp .And (a::b::rest) pos) (cI t u):=
 (sh h hb).imp λσ H Q ⟨O,δ,Qd,w,q,k⟩=>⟨O,δ,_,w,q,λd v H1 uu79 s1 r=>by
  obtain⟨c,e,q1⟩:=uu79;subst e;cases r;refine⟨c,rfl,?_⟩;cases c with
  | true=>exact⟨O,δ,_,w.mono s1,q1,λd v H2 q2 s2 r2=>k d v H2 q2 (s1.trans s2) r2⟩
  | false=>exact k _ _ H1 q1 s1 (.bl false)⟩
theorem tT{a:Iu}{t:DT}{pos:Pos}(h:DE X H0 O0 a t):DE X H0 O0 (.UnaryOp .Not a pos) (cJ t):=
 (wq h).imp λσ H Q uu80=>by obtain⟨O,δ,Qd,w,q,k⟩:=uu80;exact⟨O,δ,_,w,q,λd v H1 uu81 s1 r=>by
  obtain⟨c,e,q1⟩:=uu81;subst e;cases r;exact⟨c,rfl,k _ _ H1 q1 s1 (.bl _)⟩⟩
def el(c:DB)(t u:DT):DT:=λδ Q=>c δ λb=>if b=true then t δ Q else u δ Q
def bV(rd rd':Im->Im->(Im->Prop)->Prop)(ta tb tc:DT):DT:=λδ Q=>ta δ λx=>tb δ λy=>rd x y λz=>∃k,z= .bool k/\if k=true then tc δ λu=>rd' y u Q else Q (.bool false)
theorem tU{K:Dj}{r r':R2}{rd rd':Im->Im->(Im->Prop)->Prop}{ta tb tc:DT}(hd:bw K r rd)(hd':bw K r' rd'):∀σ H Q,up K H0 O0 (bV rd rd' ta tb tc) σ H Q->nX r r' (lH K H0 O0 ta) (lH K H0 O0 tb) (lH K H0 O0 tc) σ H Q:=
 λσ H Q ⟨O,δ,Qd,w,q,k⟩=>⟨O,δ,_,w,q,λx v H1 q1 s1 r1=>⟨O,δ,_,w.mono s1,q1,λy u H2 q2 s2 r2=>hd H2 O v u x y _ _ (w.mono (s1.trans s2)).trk (r1.mono s2) r2 q2 λd z H3 uu83 s3 r3=>by
  obtain⟨c,e,q3⟩:=uu83;subst e;cases r3;refine⟨c,rfl,?_⟩;cases c with
  | true=>exact⟨O,δ,_,w.mono (s1.trans (s2.trans s3)),q3,λu' p H4 q4 s4 r4=>hd' H4 O u p y u' Qd _ (w.mono (s1.trans (s2.trans (s3.trans s4)))).trk (r2.mono (s3.trans s4)) r4 q4 λd z H5 qd s5 r5=>k d z H5 qd (s1.trans (s2.trans (s3.trans (s4.trans s5)))) r5⟩
  | false=>exact k _ _ H3 q3 (s1.trans (s2.trans s3)) (.bl false)⟩⟩
theorem tV{a b c:Iu}{ta tb tc:DT}{op op':CmpOp}{r r':R2}{rd rd':Im->Im->(Im->Prop)->Prop}{pos:Pos}(ho:aI X (IJ op) r)(ho':aI X (IJ op') r')(hd:bw X.K r rd)(hd':bw X.K r' rd')(ha:DF X H0 O0 a ta)(hb:DF X H0 O0 b tb)(hc:DF X H0 O0 c tc)
 (hm:lastMarks [op,op'] [b,c]=false:=by with_unfolding_all rfl):DE X H0 O0 (.Compare a [op,op'] [b,c] pos) (bV rd rd' ta tb tc):=(wK ho ho' ha hb hc hm).imp (tU hd hd')
theorem om{a b c:Iu}{ta tb tc:DT}{op op':CmpOp}{r r':R2}{rd rd':Im->Im->(Im->Prop)->Prop}{pos:Pos}(ho:aI X (IJ op) r)(ho':aI X (IJ op') r')(hd:bw X.K r rd)(hd':bw X.K r' rd')(ha:DF X H0 O0 a ta)(hb:DF X H0 O0 b tb)(hc:DF X H0 O0 c tc)
 (hm:lastMarks [op,op'] [b,c]=false:=by with_unfolding_all rfl):PT X (.Compare a [op,op'] [b,c] pos) (bF X.K H0 O0 (bx (bV rd rd' ta tb tc))):=
 (wL ho ho' ha hb hc hm).imp λσ H Q uu84=>by obtain⟨O,δ,Qd,w,q,k⟩:=uu84;exact tU hd hd' σ H _ ⟨O,δ,_,w,q,λd v H' uu85 s r=>by obtain⟨b,e,qb⟩:=uu85;subst e;cases r;exact⟨b,rfl,k b H' qb s⟩⟩
inductive bA (K:Dj) (F:List Im->(Im->Prop)->Prop) (vs:List V) (H:Hp) (Q:VK) (E:XK):Prop
 | mk (O:Ex) (ds:List Im) (Qd:Im->Prop):(∀l,O l->H l≠none)->aj K H O vs ds->F ds Qd->(∀d v H',Qd d->ai H H'->Dt K H' O v d->Q v H')->bA K F vs H Q E
def bW(F:List Im->(Im->Prop)->Prop)(t:DA):DT:=λδ Q=>t δ λds=>F ds Q
theorem yS{K:Dj}{F:List Im->(Im->Prop)->Prop}{t:DA}{E:XK}:∀σ H Q,up K H0 O0 (bW F t) σ H Q->mP (bA K F) [] E (j4 K H0 O0 t) σ H Q:=
 λσ H Q uu86=>by obtain⟨O,δ,Qd,w,q,k⟩:=uu86;exact⟨O,δ,_,w,q,λds vs H1 q1 s1 r1=>⟨O,ds,Qd,(w.mono s1).trk,by rw [DH];exact r1,q1,λd v H2 q2 s2 r2=>k d v H2 q2 (s1.trans s2) r2⟩⟩
inductive mY (K:Dj) (H:Hp) (O:Ex):List V->List Im->Prop
 | nil:mY K H O [] []
 | cons {v:V} {d:Im} {vs:List V} {ds:List Im}:Sh K H O v d->mY K H O vs ds->mY K H O (v::vs) (d::ds)
inductive kI (K:Dj) (H0:Hp) (O0:Ex) (t:DA) (σ:St) (H:Hp) (R:List V->Hp->Prop):Prop
 | mk (O:Ex) (δ:Dl) (Qd:List Im->Prop):Wd K H0 O0 H O σ δ->t δ Qd->(∀ds vs H',Qd ds->ai H H'->mY K H' O vs ds->R vs H')->kI K H0 O0 t σ H R
theorem aJ:PA X [] (kI X.K H0 O0 cg):=aK.imp λσ H Q uu87=>by obtain⟨O,δ,Qd,w,q,k⟩:=uu87;exact k [] [] H q (ai.refl _) .nil
theorem yT{e:Iu}{es:List Iu}{t:DT}{u:DA}(h:DF X H0 O0 e t)(hs:PA X es (kI X.K H0 O0 u))(he:Iw (e::es) X.env=(false,eval e X.env)::Iw es X.env:=by rfl):PA X (e::es) (kI X.K H0 O0 (bU t u)):=
 (aw h hs he).imp λσ H Q uu88=>by obtain⟨O,δ,Qd,w,q,k⟩:=uu88;exact⟨O,δ,_,w,q,λd v H1 q1 s1 r1=>⟨O,δ,_,w.mono s1,q1,λds vs H2 q2 s2 r2=>k (d::ds) (v::vs) H2 q2 (s1.trans s2) (.cons (r1.mono s2) r2)⟩⟩
def eD(F:List Im->(Im->Prop)->Prop)(t:DA):DT:=λδ Q=>t δ λds=>F ds λd=>bE d=true/\Q d
def kj(K:Dj)(r:List V->Hp->VK->Prop)(rd:List Im->(Im->Prop)->Prop):Prop:=
 ∀(H:Hp)(O:Ex)(xs:List V)(ds:List Im)(Qd:Im->Prop)(R:VK),(∀l,O l->H l≠none)->mY K H O xs ds->rd ds Qd->(∀d v H',Qd d->ai H H'->Dt K H' O v d->R v H')->r xs H R
theorem aN{K:Dj}{r:List V->Hp->VK->Prop}{rd:List Im->(Im->Prop)->Prop}{t:DA}(hd:kj K r rd):∀σ H Q,up K H0 O0 (bW rd t) σ H Q->mQ r (kI K H0 O0 t) σ H Q:=
 λσ H Q uu89=>by obtain⟨O,δ,Qd,w,q,k⟩:=uu89;exact⟨O,δ,_,w,q,λds vs H1 q1 s1 r1=>hd H1 O vs ds Qd _ (w.mono s1).trk r1 q1 λd v H2 q2 s2 r2=>k d v H2 q2 (s1.trans s2) r2⟩
def cK(t u:DS):DS:=λE δ=>t {E with nx:=u E} δ
theorem aB{st:II}{rest:List II}{t u:DS}(h:PS X st (bQ X.K H0 O0 t))(h2:aR X rest (bQ X.K H0 O0 u)):aR X (st::rest) (bQ X.K H0 O0 (cK t u)):=
 (b7 h h2).imp λD σ H uu90=>by obtain⟨O,δ,E,w,q,k1,k2,k3,k4⟩:=uu90;exact⟨O,δ,_,w,q,λO' δ' σ' H' z w' S=>⟨O',δ',E,w',z,λO2 δ2 σ2 H2 z2 w2 S2=>k1 O2 δ2 σ2 H2 z2 w2 (S.trans S2),k2,λO2 δ2 σ2 H2 z2 w2 S2=>k3 O2 δ2 σ2 H2 z2 w2 (S.trans S2),λO2 δ2 σ2 H2 z2 w2 S2=>k4 O2 δ2 σ2 H2 z2 w2 (S.trans S2)⟩,k2,k3,k4⟩
def cL:DS:=λE δ=>E.nx δ
theorem jy:aR X [] (bQ X.K H0 O0 cL):=kR.imp λD σ H uu91=>by obtain⟨O,δ,E,w,q,k1,k2,k3,k4⟩:=uu91;exact k1 O δ σ H q w (aV.refl _ _)
theorem aO{st:II}{t:DS}(h:PS X st (bQ X.K H0 O0 t)):aR X [st] (bQ X.K H0 O0 t):=bS h
def cM(i:Nat)(t:DT):DS:=λE δ=>t δ λd=>E.nx (δ.set i (some (.v d)))
theorem bf{i:Nat}{x:Str}{e:Iu}{t:DT}{pos pos':Pos}(hN:X.N.Nodup)(hi:X.N[i]?=some x)(hx:k9 X.env.scope x)(he:DE X H0 O0 e t)(hs:Jd e (some (.Name x pos')) pos.line X.env=pure false:=by rfl)(hf:X.fn x=true\/X.env.scope.names.lookup x=some .local:=by first | exact .inl rfl | exact .inr rfl | assumption):
 PS X (.Assign [.Name x pos'] e pos) (bQ X.K H0 O0 (cM i t)):=
 (jP hN hi hx he hs hf).imp λD σ H uu92=>by obtain⟨O,δ,E,w,q,k1,k2,k3,k4⟩:=uu92;exact⟨O,δ,_,w,q,λd v H1 q1 s1 r1=>k1 O _ _ H1 q1 ((w.mono s1).set r1) (.same s1)⟩
def cN(t:DT):DS:=λE δ=>t δ E.rt
theorem kJ{K:Dj}{H:Hp}{O:Ex}{σ:St}{δ:Dl}(w:Wd K H0 O0 H O σ δ):aV H H O O0:=⟨λ_ _ e _=>e,λb _ n z=>n (w.sub b z)⟩
theorem bq{e:Iu}{t:DT}{pos:Pos}(he:DE X H0 O0 e t):PS X (.Return (some e) pos) (bQ X.K H0 O0 (cN t)):=
 (eg he).imp λD σ H uu93=>by obtain⟨O,δ,E,w,q,k1,k2,k3,k4⟩:=uu93;exact⟨O,δ,_,w,q,λd v H1 q1 s1 r1=>k2 d v H1 q1 (w.same.trans s1) (r1.step (kJ (w.mono s1)))⟩
def eF(i:Nat):DS:=λE δ=>∃ds,δ[i]?=some (some (.o ds))/\E.rt (.list ds)
def cO(c:DB)(t u:DS):DS:=λE δ=>c δ λb=>if b=true then t E δ else u E δ
theorem jz{c:Iu}{a b:List II}{tc:DB}{t u:DS}{pos:Pos}(hc:PT X c (bF X.K H0 O0 tc))(ha:aR X a (bQ X.K H0 O0 t))(hb:aR X b (bQ X.K H0 O0 u)):PS X (.If c a b pos) (bQ X.K H0 O0 (cO tc t u)):=
 (kS hc ha hb).imp λD σ H uu94=>by obtain⟨O,δ,E,w,q,k1,k2,k3,k4⟩:=uu94;exact⟨O,δ,_,w,q,λc H1 q1 s1=>by
  have g:∀{t':DS},t' E δ->bQ X.K H0 O0 t' D σ H1:=λz=>⟨O,δ,E,w.mono s1,z,λO2 δ2 σ2 H2 z2 w2 S2=>k1 O2 δ2 σ2 H2 z2 w2 (aV.trans (.same s1) S2),k2,λO2 δ2 σ2 H2 z2 w2 S2=>k3 O2 δ2 σ2 H2 z2 w2 (aV.trans (.same s1) S2),λO2 δ2 σ2 H2 z2 w2 S2=>k4 O2 δ2 σ2 H2 z2 w2 (aV.trans (.same s1) S2)⟩;cases c with
  | true=>exact g q1
  | false=>exact g q1⟩
def eG(t:DT):DS:=λE δ=>t δ λ_=>E.nx δ
inductive tW (K:Dj) (H0:Hp) (O0:Ex) (t:DA) (σ:St) (H:Hp) (R:VK):Prop
 | mk (O:Ex) (δ:Dl) (Qd:List Im->Prop):Wd K H0 O0 H O σ δ->t δ Qd->(∀ds vs p H',Qd ds->ai H H'->H' p=none->aj K H' O vs ds->R (.ref p) (ah H' p (.lst vs)))->tW K H0 O0 t σ H R
abbrev FE(X:Cx)(H0:Hp)(O0:Ex)(e:Iu)(t:DA):Prop:=PE X e (tW X.K H0 O0 t)
def dL(t:DA):DT:=λδ Q=>t δ λds=>Q (.list ds)
theorem fe{e:Iu}{t:DA}(h:FE X H0 O0 e t):DE X H0 O0 e (dL t):=
 h.imp λσ H Q uu95=>by obtain⟨O,δ,Qd,w,q,k⟩:=uu95;exact⟨O,δ,_,w,q,λds vs p H1 q1 s1 hp r1=>k _ _ _ q1 (s1.trans (ai.new hp)) (.lst (.inl aD) (qw w s1 hp) (r1.mono (ai.new hp)))⟩
def cj(t:DA):DA:=λδ Q=>t δ λds=>ds.length<=Ir/\Q ds
theorem jY{es:List Iu}{t:DA}{pos:Pos}(h:PA X es (j4 X.K H0 O0 t)):FE X H0 O0 (.List es pos) (cj t):=
 (p4 h).imp λσ H Q uu96=>by obtain⟨O,δ,Qd,w,q,k⟩:=uu96;exact⟨O,δ,_,w,q,λds vs H1 q1 s1 r1=>⟨by rw [r1.length];exact q1.1,λp hp=>k _ _ _ _ q1.2 s1 hp r1⟩⟩
def cP(i:Nat)(t:DA):DS:=λE δ=>t δ λds=>E.nx (δ.set i (some (.o ds)))
theorem yU{i:Nat}{x:Str}{e:Iu}{t:DA}{pos pos':Pos}(hN:X.N.Nodup)(hi:X.N[i]?=some x)(hx:k9 X.env.scope x)(he:FE X H0 O0 e t)(hs:Jd e (some (.Name x pos')) pos.line X.env=pure false:=by rfl)(hf:X.fn x=true\/X.env.scope.names.lookup x=some .local:=by first | exact .inl rfl | exact .inr rfl | assumption):
 PS X (.Assign [.Name x pos'] e pos) (bQ X.K H0 O0 (cP i t)):=
 (jP hN hi hx he hs hf).imp λD σ H ⟨O,δ,E,w,q,k1,k2,k3,k4⟩=>⟨O,δ,_,w,q,λds vs p H1 q1 s1 hp r1=>k1 _ _ _ _ q1 ((w.mono s1).setO hp r1)
  ⟨λb o e _=>(s1.trans (ai.new hp)) b o e,λb e n z=>z.elim n λy=>by
   cases q:H b with
   | none=>exact e q
   | some o=>have:=s1 _ _ q;rw [y,hp] at this;cases this⟩⟩
def eI(i:Nat)(t:DT):DS:=λE δ=>∃ds,δ[i]?=some (some (.o ds))/\t δ λd=>ds.length < Ir/\E.nx (δ.set i (some (.o (ds++[d]))))
end
structure jM (J:It) (P:Hp->Prop) (vs:List V):Prop where
 go:∀i H',P H'->i < vs.length->J.go i H'
 yl:∀i H' x H'',P H'->i < vs.length->J.yld i H' x H''->H''=H'/\vs[i]?=some x
 st:∀i H',P H'->vs.length<=i->J.stop i H'
def tX(H1:Hp)(a:Ip)(H':Hp):Prop:=∀o,H1 a=some o->H' a=some o
theorem aG.keep{K:Dj}{H H':Hp}{a:Ip}{xs:List V}(s:tX H a H')(h:aG K H a xs):aG K H' a xs:=by
 rcases h with(h | ⟨o,h⟩) | h
 ·exact .inl (.inl (s _ h))
 ·exact .inl (.inr ⟨o,s _ h⟩)
 ·exact .inr h
theorem jM.list{K:Dj}{H:Hp}{a:Ip}{vs:List V}(h:aG K H a vs):jM (mK K a) (tX H a) vs:=
 ⟨λi H' s hi=>⟨vs,vs[i],h.keep s,by simp [hi]⟩,λi H' x H'' s _ y=>⟨y.1,y.2 vs (h.keep s)⟩,λi H' s hi=>⟨vs,h.keep s,hi⟩⟩
def kl(lo:Int)(n:Nat):List Im:=(Fp n).map λ(k:Nat)=>.int (lo+k)
theorem jM.rng{lo:Int}{n:Nat}:jM (ke lo n) (λ_=>True) ((Fp n).map λ(k:Nat)=>V.int (lo+k)):=by
 refine⟨λi H' s hi=>(by simpa using hi:i < n),λi H' x H'' s hi y=>⟨y.1,?_⟩,λi H' s hi=>(by simpa using hi:n<=i)⟩;obtain⟨_,rfl⟩:=y;have hn:i < n:=by simpa using hi
 simp [hn]
theorem aj.rng{K:Dj}{H:Hp}{O:Ex}{lo:Int}:∀(l:List Nat),aj K H O (l.map λ(k:Nat)=>V.int (lo+k)) (l.map λ(k:Nat)=>Dn (lo+k))
 | []=>.nil
 | n::r=>.cons (.int _) (aj.rng r)
abbrev DG:=Im->Dl->(Dl->Prop)->Prop
def GD(K:Dj)(g:TG)(dg:DG):Prop:=∀(H0:Hp)(O0:Ex)(H:Hp)(O:Ex)(σ:St)(δ:Dl)(v:V)(x:Im)(R:St->Hp->Prop)(Qd:Dl->Prop),Wd K H0 O0 H O σ δ->Dt K H O v x->dg x δ Qd->(∀δ' σ',Qd δ'->Wd K H0 O0 H O σ' δ'->R σ' H)->g v σ H R
def cQ(i:Nat):DG:=λx δ Q=>Q (δ.set i (some (.v x)))
theorem km{K:Dj}{i:Nat}:GD K (ll i) (cQ i):=λH0 O0 H O σ δ v x R Qd w r q k=>k _ _ q (w.set r)
abbrev lJ:=List Im->Dl->(Dl->Prop)->Prop
def oo(K:Dj)(g:j9)(dg:lJ):Prop:=∀(H0:Hp)(O0:Ex)(H:Hp)(O:Ex)(σ:St)(δ:Dl)(vs:List V)(xs:List Im)(R:St->Hp->Prop)(Qd:Dl->Prop),Wd K H0 O0 H O σ δ->aj K H O vs xs->dg xs δ Qd->(∀δ' σ',Qd δ'->Wd K H0 O0 H O σ' δ'->R σ' H)->g vs σ H R
def cR:lJ:=λxs δ Q=>xs=[]/\Q δ
def cS(t:DG)(u:lJ):lJ:=λxs δ Q=>∃x r,xs=x::r/\t x δ λδ'=>u r δ' Q
theorem yV{K:Dj}:oo K nO cR:=λH0 O0 H O σ δ vs xs R Qd w r uu1 k=>by obtain⟨e,q⟩:=uu1;subst e;cases r;exact⟨rfl,k _ _ q w⟩
theorem qx{K:Dj}{t:TG}{u:j9}{dt:DG}{du:lJ}(h:GD K t dt)(h2:oo K u du):oo K (nP t u) (cS dt du):=λH0 O0 H O σ δ vs xs R Qd w r uu2 k=>by
 obtain⟨x,rr,e,q⟩:=uu2;subst e;cases r with
 | cons r1 r2=>exact⟨_,_,rfl,h H0 O0 H O σ δ _ _ _ _ w r1 q λδ' σ' q' w'=>h2 H0 O0 H O σ' δ' _ _ R Qd w' r2 q' k⟩
def cT(n:Nat)(t:lJ):DG:=λx δ Q=>∃xs,x= .tuple xs/\xs.length=n/\t xs δ Q
theorem yW{K:Dj}{n:Nat}{t:j9}{dt:lJ}(h:oo K t dt):GD K (nQ K n t) (cT n dt):=λH0 O0 H O σ δ v x R Qd w r uu3 k=>by
 obtain⟨xs,e,hl,q⟩:=uu3;subst e;obtain⟨a,vs,rfl,hs,rr⟩:=(Sh.dt r).tup;exact⟨a,vs,rfl,hs,by rw [rr.length];exact hl,h H0 O0 H O σ δ _ _ R Qd w rr q k⟩
section
variable {X:Cx} {H0:Hp} {O0:Ex}
def cU(t:DT)(g:DG):DS:=λE δ=>t δ λd=>g d δ E.nx
theorem yX{tg e:Iu}{t:DT}{g:TG}{dg:DG}{pos:Pos}(he:DE X H0 O0 e t)(hg:PG X tg g)(gd:GD X.K g dg)(hs:swapsWithSole [tg] e pos.line X.env=pure false:=by rfl)(hw:swappedStores [tg] e X.env=pure none:=by rfl)
 (h1:(Jk [tg] X.env).map (·.2)=[assign tg X.env]:=by rfl):PS X (.Assign [tg] e pos) (bQ X.K H0 O0 (cU t dg)):=
 (pK he hg hs hw h1).imp λD σ H uu4=>by obtain⟨O,δ,E,w,q,k1,k2,k3,k4⟩:=uu4;exact⟨O,δ,_,w,q,λd v H1 q1 s1 r1=>gd H0 O0 H1 O σ δ v d _ _ (w.mono s1) r1 q1 λδ' σ' q' w'=>k1 O δ' σ' H1 q' w' (.same s1)⟩
def eJ(i j:Nat)(t:DA):DS:=λE δ=>t δ λds=>∃x y,ds=[x,y]/\E.nx ((δ.set i (some (.v x))).set j (some (.v y)))
def bG(g:DG)(tb:DS)(E:mU):List Im->Dl->Prop
 | [],δ=>E.nx δ
 | x::xs,δ=>g x δ λδ2=>tb {E with nx:=bG g tb E xs,ct:=bG g tb E xs,bk:=E.nx} δ2
def lK(g:DG)(tb:DS)(E:mU)(xs:List Im)(δ:Dl):Prop:=∃I:Nat->Dl->Prop,I 0 δ/\(∀i x δ,xs[i]?=some x->I i δ->g x δ λδ2=>tb {E with nx:=I (i+1),ct:=I (i+1),bk:=E.nx} δ2)/\∀δ,I xs.length δ->E.nx δ
theorem yY{K:Dj}{J:It}{P:Hp->Prop}{vs:List V}{xs:List Im}{g:TG}{dg:DG}{tb:DS}{D:kQ}{E:mU}{σ:St}{H:Hp}{O:Ex}{δ:Dl}(S:jM J P vs)(gd:GD K g dg)
 (hP:∀H' O',aV H H' O O'->P H')(r:aj K H O vs xs)(w:Wd K H0 O0 H O σ δ)(q:lK dg tb E xs δ)
 (k1:∀O' δ' σ' H',E.nx δ'->Wd K H0 O0 H' O' σ' δ'->aV H H' O O'->D.nx σ' H')(k2:∀d v H',E.rt d->ai H0 H'->Dt K H' O0 v d->D.rt v H'):FR J g (bQ K H0 O0 tb) D σ H:=by
 obtain⟨Iv,q0,qs,qe⟩:=q;refine⟨λi m σ' H'=>∃O' δ',m=vs.length - i/\i<=vs.length/\Wd K H0 O0 H' O' σ' δ'/\aV H H' O O'/\Iv i δ',⟨vs.length,O,δ,Il,Fq _,w,aV.refl _ _,q0⟩,?_⟩;rintro i m σ1 H1 ⟨O1,δ1,rfl,hi,w1,S1,q1⟩;by_cases hlt:i < vs.length
 ·refine .inr ⟨S.go i H1 (hP _ _ S1) hlt,λσ' H'=>∃O' δ',Wd K H0 O0 H' O' σ' δ'/\aV H H' O O'/\Iv (i+1) δ',λσ' H' uu5=>by obtain⟨O',δ',w',S',q'⟩:=uu5;exact⟨vs.length - (i+1),Ih,O',δ',rfl,hlt,w',S',q'⟩,λx H' y=>?_⟩;have yy:=S.yl i H1 x H' (hP _ _ S1) hlt y;clear y;obtain⟨e,y⟩:=yy;subst e;obtain⟨d,ed,rd⟩:=r.get y;refine gd H0 O0 _ O1 σ1 δ1 x d _ _ w1 (rd.step S1) (qs i d δ1 ed q1) λδ2 σ2 q2 w2=>?_;refine⟨O1,δ2,_,w2,q2,λO' δ' σ' H' z w' S'=>⟨O',δ',w',S1.trans S',z⟩,k2,λO' δ' σ' H' z w' S'=>k1 O' δ' σ' H' z w' (S1.trans S'),λO' δ' σ' H' z w' S'=>⟨O',δ',w',S1.trans S',z⟩⟩
 ·have e:i=vs.length:=Ih
  subst e;refine .inl ⟨S.st _ H1 (hP _ _ S1) (Dz _),?_⟩;rw [r.length] at q1;exact k1 O1 δ1 σ1 H1 (qe δ1 q1) w1 S1
def eL(t:DT)(g:DG)(tb:DS):DS:=λE δ=>t δ λd=>∃xs,d= .list xs/\bG g tb E xs δ
def eM(t:DT)(g:DG)(tb:DS):DS:=λE δ=>t δ λd=>∃xs,d= .tuple xs/\bG g tb E xs δ
def eN(t:DA)(g:DG)(tb:DS):DS:=λE δ=>t δ λds=>∃j:Int,ds=[.int j]/\-(2 ^ 62)<=j/\j < 2 ^ 62/\bG g tb E (kl 0 j.toNat) δ
def eO(t:DA)(g:DG)(tb:DS):DS:=λE δ=>t δ λds=>∃i j:Int,ds=[.int i,.int j]/\(-(2 ^ 62)<=i/\i < 2 ^ 62/\-(2 ^ 62)<=j/\j < 2 ^ 62)/\bG g tb E (kl i (j - i).toNat) δ
def eQ(t:DT)(g:DG)(tb:DS):DS:=λE δ=>t δ λd=>∃xs,d= .list xs/\lK g tb E xs δ
def eR(t:DT)(g:DG)(tb:DS):DS:=λE δ=>t δ λd=>∃xs,d= .tuple xs/\lK g tb E xs δ
def cV(t:DA)(g:DG)(tb:DS):DS:=λE δ=>t δ λds=>∃j:Int,ds=[.int j]/\-(2 ^ 62)<=j/\j < 2 ^ 62/\lK g tb E (kl 0 j.toNat) δ
def eS(t:DA)(g:DG)(tb:DS):DS:=λE δ=>t δ λds=>∃i j:Int,ds=[.int i,.int j]/\(-(2 ^ 62)<=i/\i < 2 ^ 62/\-(2 ^ 62)<=j/\j < 2 ^ 62)/\lK g tb E (kl i (j - i).toNat) δ
section
variable {tg iter:Iu} {body:List II} {t:DT} {ta:DA} {g:TG} {dg:DG} {tb:DS} {pos p ps:Pos}
theorem qy(hp:PassesOwn (Iy X.prog X.w) X.A X.env X.xe)(hc:X.calm=true){a:Iu}(hgl:Gl X "range")(hm:X.mg "range"=none)(ha:PA X [a] (j4 X.K H0 O0 ta))(hg:PG X tg g)(gd:GD X.K g dg)(hb:aR X body (bQ X.K H0 O0 tb))
 (hst:Iw [a] X.env=[(false,eval a X.env)]:=by rfl)(hs:∀x,IZ (.Call (.Name "range" p) [a] [] ps) X.env x=pure x:=by intro _;rfl):
 PS X (.For tg (.Call (.Name "range" p) [a] [] ps) body [] pos) (bQ X.K H0 O0 (cV ta dg tb)):=
 (wF hp hc (wC hgl hm ha hst) hg hb hs).imp λD σ H uu6=>by obtain⟨O,δ,E,w,q,k1,k2,k3,k4⟩:=uu6;exact⟨O,δ,_,w,q,λds vs H1 uu7 s1 r1=>by
  obtain⟨j,e,b1,b2,q1⟩:=uu7;subst e;cases r1 with
  | cons r1 r2=>
   cases r2;cases r1;exact⟨j,rfl,b1,b2,yY jM.rng gd (λ_ _ _=>trivial) (aj.rng _) (w.mono s1) q1 (λO' δ' σ' H' z w' S=>k1 O' δ' σ' H' z w' (aV.trans (.same s1) S)) k2⟩⟩
end
def eT(i:Nat)(t:DS):DS:=λE δ=>∃ds,δ[i]?=some (some (.o ds))/\t E (δ.set i (some (.v (.list ds))))
def aP(k:Nat)(fr:List Nat)(δ:Dl):Dl:=Dx k none++fr.map λj=>(δ[j]?).join
def kY(g:DG)(tc:DB)(te:DT)(δ0:Dl):List Im->List Im->(List Im->Prop)->Prop
 | [],acc,Q=>Q acc
 | x::xs,acc,Q=>g x δ0 λδ2=>tc δ2 λok=>if ok=true then te δ2 λy=>kY g tc te δ0 xs (acc++[y]) Q else kY g tc te δ0 xs acc Q
theorem Wd.comp{K:Dj}{H:Hp}{O:Ex}{σ:St}{δ:Dl}(w:Wd K H0 O0 H O σ δ){k:Nat}{fr:List Nat}(hf:fr.Nodup):Wd K H0 O0 H O (aY k fr σ) (aP k fr δ):=by
 have at1:∀{α:Type}(l:List (Option α))(i:Nat),(Dx k none++fr.map λj=>(l[j]?).join)[i]?=if i < k then some none else(fr[i - k]?).map λj=>(l[j]?).join:=by
  intro α l i;by_cases h:i < k
  ·rw [Ij h,Fg (by simpa using h),FC,Ij h]
  ·rw [Ii h,Fx (by simpa using GK h),E3];simp
 have un:∀{α:Type}(l:List (Option α))(i:Nat)(x:α),(Dx k none++fr.map λj=>(l[j]?).join)[i]?=some (some x)->∃j,fr[i - k]?=some j/\k<=i/\l[j]?=some (some x):=by
  intro α l i x h;rw [at1] at h;split at h
  ·cases h
  ·cases e:fr[i - k]? with
   | none=>rw [e] at h;cases h
   | some j=>
    rw [e] at h;refine⟨j,rfl,Ih,?_⟩;have h':(l[j]?).join=some x:=Eu h;cases q:l[j]? with
    | none=>rw [q] at h';cases h'
    | some o=>rw [q] at h';rw [show o=some x from h']
 refine⟨w.same,w.sub,w.new,w.trk,by simp [aY,aP],λi y e=>?_,λi j y z l e1 y1 e2 z2 e3 e4=>?_⟩
 ·match y,e with
  | none,_=>exact EU
  | some x,e=>
   obtain⟨j,hj,hk,ej⟩:=un δ i x e;have q:=w.sl j _ ej;have e2:((aY k fr σ)[i]?).join=(σ[j]?).join:=by
    unfold aY;rw [at1,Ii Ih,hj];rfl
   rw [e2];exact q
 ·obtain⟨a,ha,ka,ea⟩:=un δ i _ e1;obtain⟨b,hb,kb,eb⟩:=un δ j _ e2;obtain⟨a',ha',_,ea'⟩:=un σ i _ e3;obtain⟨b',hb',_,eb'⟩:=un σ j _ e4;rw [ha] at ha';cases ha';rw [hb] at hb';cases hb';have:=w.dis a b y z l ea y1 eb z2 ea' eb';subst this;have e5:=(List.getElem?_inj (l:=fr) (i:=i - k) (j:=j - k) (DY.mp ha).1 hf).mp (by rw [ha,hb]);omega
theorem yZ{K:Dj}{J:It}{P:Hp->Prop}{vs:List V}{xs:List Im}{g:TG}{dg:DG}{tc:TT}{dc:DB}{te:TE}{de:DT}{k:Nat}{fr:List Nat}{σ:St}{H:Hp}{O:Ex}{δ:Dl}{Qd:List Im->Prop}{Q:VK}(S:jM J P vs)(gd:GD K g dg)(hf:fr.Nodup)
 (hk:∀v:V,∀σ':St,∀H':Hp,∀R:St->Hp->Prop,g v (aY k fr σ) H' R->g v (aY k fr σ) H' λσ2 H2=>mm (aY k fr σ) σ2/\R σ2 H2)
 (hc:∀σ H Q,bF K H0 O0 dc σ H Q->tc σ H Q)(he:∀σ H Q,up K H0 O0 de σ H Q->te σ H Q)
 (hP:∀D H',H D=none->mq D H H'->P H')(r:aj K H O vs xs)(w:Wd K H0 O0 H O σ δ)(hz:vs.length<=Ir)(q:kY dg dc de (aP k fr δ) xs [] Qd)
 (k1:∀ds us p H',Qd ds->ai H H'->H' p=none->aj K H' O us ds->Q (.ref p) (ah H' p (.lst us))):lF J g tc te k fr σ H Q:=by
 intro D hD;have w0:Wd K H0 O0 H O (aY k fr σ) (aP k fr δ):=w.comp hf;have nD:¬O D:=λz=>w.trk D z hD;have D0:H0 D=none:=by
  cases e:H0 D with
  | none=>rfl
  | some o=>rw [w.same _ _ e] at hD;cases hD
 have ex:∀H',mq D H H'->H' D≠none->Wd K H0 O0 H' (λa=>O a\/a=D) (aY k fr σ) (aP k fr δ):=λH' s' hd=>by
  have S':aV H H' O (λa=>O a\/a=D):=⟨λb o e _=>s' b o e (cA e hD),λb hb hn z=>z.elim hn λq=>hb (by rw [q];exact hD)⟩;refine⟨λb o e=>s' b o (w.same b o e) (λz=>by rw [z,D0] at e;cases e),λl z=>.inl (w.sub l z),λl z=>z.elim (w.new l) λq=>.inr (by rw [q];exact D0),λl z=>?_,w0.len,λj y e=>?_,w0.dis⟩
  ·by_cases ql:l=D
   ·rw [ql];exact hd
   ·have hl:=w.trk l (z.resolve_right ql);cases e:H l with
    | none=>exact absurd e hl
    | some o=>rw [s' l o e ql];exact λz=>nomatch z
  ·exact(w0.sl j y e).go S' (λl o _ _ a1 _ a3=>⟨.inl a1,s' _ _ a3 (λz=>nD (by rw [<-z];exact a1))⟩) (λa o u a1 _ a3=>⟨.inl a1,s' _ _ a3 (λz=>nD (by rw [<-z];exact a1))⟩) λa o a1 a3=>s' _ _ a3 (λz=>nD (by rw [<-z];exact w.sub _ a1))
 refine⟨λi m H'=>∃acc ys,m=vs.length - i/\i<=vs.length/\mq D H H'/\H' D=some (.lst ys)/\ys.length<=i/\aj K H' (λa=>O a\/a=D) ys acc/\kY dg dc de (aP k fr δ) (xs.drop i) acc Qd,⟨vs.length,[],[],Il,Fq _,λb o e n=>by rw [aq n];exact e,aD,Fq _,.nil,by simpa using q⟩,?_⟩;rintro i m H1 ⟨acc,ys,rfl,hi,s1,e1,hy,ra,q1⟩;by_cases hlt:i < vs.length
 ·refine .inr ⟨S.go i H1 (hP D H1 hD s1) hlt,λx H' y=>?_⟩;have yy:=S.yl i H1 x H' (hP D H1 hD s1) hlt y;clear y;obtain⟨e,y⟩:=yy;subst e;obtain⟨d,ed,rd⟩:=r.get y;have hd:xs.drop i=d::xs.drop (i+1):=by
   rw [List.drop_eq_getElem_cons (h:=(DY.mp ed).1),(DY.mp ed).2]
  rw [hd] at q1;have w1:=ex _ s1 (by rw [e1];exact λz=>nomatch z);have S':aV H H' O (λa=>O a\/a=D):=⟨λb o e _=>s1 b o e (cA e hD),λb hb hn z=>z.elim hn λq=>hb (by rw [q];exact hD)⟩;refine hk x σ _ _ (gd H0 O0 _ _ _ _ x d _ _ w1 (rd.step S') q1 λδ2 σ2 q2 w2=>?_);refine hc σ2 _ _ ⟨_,δ2,_,w2,q2,λok H3 q3 s3=>?_⟩;cases ok with
  | true=>
   rw [Ij rfl];refine he σ2 H3 _ ⟨_,δ2,_,w2.mono s3,q3,λd' v H4 q4 s4 r4=>?_⟩;have e4:=s4 _ _ (s3 _ _ e1);have sD:aV H4 (ah H4 D (.lst (ys++[v]))) (λa=>O a\/a=D) (λa=>O a\/a=D):=⟨λb o e n=>by rw [aq (λz=>n (.inr z))];exact e,λ_ _ n=>n⟩;refine⟨ys,e4,Ih,vs.length - (i+1),Ih,acc++[d'],ys++[v],rfl,hlt,λb o e n=>by rw [aq n];exact s4 _ _ (s3 _ _ (s1 b o e n)),aD,by simpa using hy,?_,q4⟩;exact((ra.mono (s3.trans s4)).append (.cons r4 .nil)).step sD
  | false=>
   rw [Ii Ce];exact⟨vs.length - (i+1),Ih,acc,ys,rfl,hlt,λb o e n=>s3 _ _ (s1 b o e n),s3 _ _ e1,Ih,ra.mono s3,q3⟩
 ·have e:i=vs.length:=Ih
  subst e;refine .inl ⟨S.st _ H1 (hP D H1 hD s1) (Dz _),?_⟩;rw [r.length,List.drop_of_length_le (Dz _)] at q1;have hrest:∃H2:Hp,H2 D=none/\ai H H2/\H1=ah H2 D (.lst ys):=by
   refine⟨λb=>if b=D then none else H1 b,Il,λb o e=>?_,?_⟩
   ·have n:=cA e hD;show(if b=D then none else H1 b)=some o;rw [Ii n];exact s1 b o e n
   ·funext b;by_cases z:b=D
    ·rw [z,aD];exact e1
    ·rw [aq z];show H1 b=if b=D then none else H1 b;rw [Ii z]
  obtain⟨H2,h2,s2,rfl⟩:=hrest;refine k1 acc ys D H2 q1 s2 h2 (ra.step ⟨λb o e n=>?_,λb _ n z=>n (.inl z)⟩);rw [aq (λz=>n (.inr z))] at e;exact e
def kK(g:DG)(tc:DB)(te:DT)(δ0:Dl)(xs:List Im)(Q:List Im->Prop):Prop:=∃I:Nat->List Im->Prop,I 0 []/\(∀i x acc,xs[i]?=some x->I i acc->g x δ0 λδ2=>tc δ2 λok=>if ok=true then te δ2 λy=>I (i+1) (acc++[y]) else I (i+1) acc)/\∀acc,I xs.length acc->Q acc
theorem qz{K:Dj}{J:It}{P:Hp->Prop}{vs:List V}{xs:List Im}{g:TG}{dg:DG}{tc:TT}{dc:DB}{te:TE}{de:DT}{k:Nat}{fr:List Nat}{σ:St}{H:Hp}{O:Ex}{δ:Dl}{Qd:List Im->Prop}{Q:VK}(S:jM J P vs)(gd:GD K g dg)(hf:fr.Nodup)
 (hk:∀v:V,∀σ':St,∀H':Hp,∀R:St->Hp->Prop,g v (aY k fr σ) H' R->g v (aY k fr σ) H' λσ2 H2=>mm (aY k fr σ) σ2/\R σ2 H2)
 (hc:∀σ H Q,bF K H0 O0 dc σ H Q->tc σ H Q)(he:∀σ H Q,up K H0 O0 de σ H Q->te σ H Q)
 (hP:∀D H',H D=none->mq D H H'->P H')(r:aj K H O vs xs)(w:Wd K H0 O0 H O σ δ)(hz:vs.length<=Ir)(q:kK dg dc de (aP k fr δ) xs Qd)
 (k1:∀ds us p H',Qd ds->ai H H'->H' p=none->aj K H' O us ds->Q (.ref p) (ah H' p (.lst us))):lF J g tc te k fr σ H Q:=by
 obtain⟨Iv,q0,qs,qe⟩:=q;intro D hD;have w0:Wd K H0 O0 H O (aY k fr σ) (aP k fr δ):=w.comp hf;have nD:¬O D:=λz=>w.trk D z hD;have D0:H0 D=none:=by
  cases e:H0 D with
  | none=>rfl
  | some o=>rw [w.same _ _ e] at hD;cases hD
 have ex:∀H',mq D H H'->H' D≠none->Wd K H0 O0 H' (λa=>O a\/a=D) (aY k fr σ) (aP k fr δ):=λH' s' hd=>by
  have S':aV H H' O (λa=>O a\/a=D):=⟨λb o e _=>s' b o e (cA e hD),λb hb hn z=>z.elim hn λq=>hb (by rw [q];exact hD)⟩;refine⟨λb o e=>s' b o (w.same b o e) (λz=>by rw [z,D0] at e;cases e),λl z=>.inl (w.sub l z),λl z=>z.elim (w.new l) λq=>.inr (by rw [q];exact D0),λl z=>?_,w0.len,λj y e=>?_,w0.dis⟩
  ·by_cases ql:l=D
   ·rw [ql];exact hd
   ·have hl:=w.trk l (z.resolve_right ql);cases e:H l with
    | none=>exact absurd e hl
    | some o=>rw [s' l o e ql];exact λz=>nomatch z
  ·exact(w0.sl j y e).go S' (λl o _ _ a1 _ a3=>⟨.inl a1,s' _ _ a3 (λz=>nD (by rw [<-z];exact a1))⟩) (λa o u a1 _ a3=>⟨.inl a1,s' _ _ a3 (λz=>nD (by rw [<-z];exact a1))⟩) λa o a1 a3=>s' _ _ a3 (λz=>nD (by rw [<-z];exact w.sub _ a1))
 refine⟨λi m H'=>∃acc ys,m=vs.length - i/\i<=vs.length/\mq D H H'/\H' D=some (.lst ys)/\ys.length<=i/\aj K H' (λa=>O a\/a=D) ys acc/\Iv i acc,⟨vs.length,[],[],Il,Fq _,λb o e n=>by rw [aq n];exact e,aD,Fq _,.nil,q0⟩,?_⟩;rintro i m H1 ⟨acc,ys,rfl,hi,s1,e1,hy,ra,q1⟩;by_cases hlt:i < vs.length
 ·refine .inr ⟨S.go i H1 (hP D H1 hD s1) hlt,λx H' y=>?_⟩;have yy:=S.yl i H1 x H' (hP D H1 hD s1) hlt y;clear y;obtain⟨e,y⟩:=yy;subst e;obtain⟨d,ed,rd⟩:=r.get y;have w1:=ex _ s1 (by rw [e1];exact λz=>nomatch z);have S':aV H H' O (λa=>O a\/a=D):=⟨λb o e _=>s1 b o e (cA e hD),λb hb hn z=>z.elim hn λq=>hb (by rw [q];exact hD)⟩;refine hk x σ _ _ (gd H0 O0 _ _ _ _ x d _ _ w1 (rd.step S') (qs i d acc ed q1) λδ2 σ2 q2 w2=>?_);refine hc σ2 _ _ ⟨_,δ2,_,w2,q2,λok H3 q3 s3=>?_⟩;cases ok with
  | true=>
   rw [Ij rfl];refine he σ2 H3 _ ⟨_,δ2,_,w2.mono s3,q3,λd' v H4 q4 s4 r4=>?_⟩;have e4:=s4 _ _ (s3 _ _ e1);have sD:aV H4 (ah H4 D (.lst (ys++[v]))) (λa=>O a\/a=D) (λa=>O a\/a=D):=⟨λb o e n=>by rw [aq (λz=>n (.inr z))];exact e,λ_ _ n=>n⟩;refine⟨ys,e4,Ih,vs.length - (i+1),Ih,acc++[d'],ys++[v],rfl,hlt,λb o e n=>by rw [aq n];exact s4 _ _ (s3 _ _ (s1 b o e n)),aD,by simpa using hy,?_,q4⟩;exact((ra.mono (s3.trans s4)).append (.cons r4 .nil)).step sD
  | false=>
   rw [Ii Ce];exact⟨vs.length - (i+1),Ih,acc,ys,rfl,hlt,λb o e n=>s3 _ _ (s1 b o e n),s3 _ _ e1,Ih,ra.mono s3,q3⟩
 ·have e:i=vs.length:=Ih
  subst e;refine .inl ⟨S.st _ H1 (hP D H1 hD s1) (Dz _),?_⟩;rw [r.length] at q1;have hrest:∃H2:Hp,H2 D=none/\ai H H2/\H1=ah H2 D (.lst ys):=by
   refine⟨λb=>if b=D then none else H1 b,Il,λb o e=>?_,?_⟩
   ·have n:=cA e hD;show(if b=D then none else H1 b)=some o;rw [Ii n];exact s1 b o e n
   ·funext b;by_cases z:b=D
    ·rw [z,aD];exact e1
    ·rw [aq z];show H1 b=if b=D then none else H1 b;rw [Ii z]
  obtain⟨H2,h2,s2,rfl⟩:=hrest;refine k1 acc ys D H2 (qe acc q1) s2 h2 (ra.step ⟨λb o e n=>?_,λb _ n z=>n (.inl z)⟩);rw [aq (λz=>n (.inr z))] at e;exact e
def cW(t:DT)(g:DG)(tc:DB)(te:DT)(k:Nat)(fr:List Nat):DA:=λδ Q=>t δ λd=>∃xs,d= .list xs/\xs.length<=Ir/\kY g tc te (aP k fr δ) xs [] Q
def eU(t:DT)(g:DG)(tc:DB)(te:DT)(k:Nat)(fr:List Nat):DA:=λδ Q=>t δ λd=>∃xs,d= .tuple xs/\xs.length<=Ir/\kY g tc te (aP k fr δ) xs [] Q
def eV(ta:DA)(g:DG)(tc:DB)(te:DT)(k:Nat)(fr:List Nat):DA:=λδ Q=>ta δ λds=>∃j:Int,ds=[.int j]/\-(2 ^ 62)<=j/\j < Ir/\kY g tc te (aP k fr δ) (kl 0 j.toNat) [] Q
def bR:DB:=λ_ Q=>Q true
def mZ(g:TG)(k:Nat):Prop:=∀(fr:List Nat)(σ:St)(v:V)(H':Hp)(R:St->Hp->Prop),g v (aY k fr σ) H' R->g v (aY k fr σ) H' λσ2 H2=>mm (aY k fr σ) σ2/\R σ2 H2
theorem oq:mZ (ll 0) 1:=λfr σ v H' R h=>⟨tL,h⟩
section
variable {tg iter elt:Iu} {ifs:List Iu} {scope:IU} {N':List Str} {k:Nat} {fr:List Nat} {g:TG} {dg:DG} {t:DT} {ta:DA} {tc:DB} {te:DT} {pos p ps:Pos}
theorem y6(hc:X.calm=true)(S:jv X.env.scope X.N N' k fr scope)(hi:DF X H0 O0 iter t)(gd:GD X.K g dg)(hk:mZ g k)(hfr:fr.Nodup)
 (hg:∀fp C s H,PG (bJ X scope N' fp C s H) tg g)(hf:∀fp C s H,kC (bJ X scope N' fp C s H) ifs (bF X.K H0 O0 tc))(he:∀fp C s H,PE (bJ X scope N' fp C s H) elt (up X.K H0 O0 te))
 (hs:∀x,IZ iter X.env x=pure x:=by intro _;rfl):FE X H0 O0 (.ListComp elt [⟨tg,iter,ifs,0⟩] scope pos) (cW t dg tc te k fr):=
 (mS hc S (sv hi) hg hf he hs).imp λσ H Q uu8=>by obtain⟨O,δ,Qd,w,q,kk⟩:=uu8;exact⟨O,δ,_,w,q,λd v H1 uu9 s1 r1=>by
  obtain⟨xs,e,hz,q1⟩:=uu9;subst e;obtain⟨a,vs,rfl,hq,rr⟩:=r1.lst;refine⟨a,rfl,⟨_,hq⟩,λD hD=>yZ (jM.list hq) gd hfr (λv _ H' R h=>hk fr σ v H' R h) (λ_ _ _ z=>z) (λ_ _ _ z=>z) (λD H' hD s' o e=>s' _ _ e (cA e hD)) rr (w.mono s1) (by rw [rr.length];exact hz) q1 (λds us p H' z s' hp r'=>kk ds us p H' z (s1.trans s') hp r') D hD⟩⟩
end
def ck(t:DT)(g:DG)(tc:DB)(te:DT)(k:Nat)(fr:List Nat):DA:=λδ Q=>t δ λd=>∃xs,d= .list xs/\xs.length<=Ir/\kK g tc te (aP k fr δ) xs Q
def cX(t:DT)(g:DG)(tc:DB)(te:DT)(k:Nat)(fr:List Nat):DA:=λδ Q=>t δ λd=>∃xs,d= .tuple xs/\xs.length<=Ir/\kK g tc te (aP k fr δ) xs Q
def eX(ta:DA)(g:DG)(tc:DB)(te:DT)(k:Nat)(fr:List Nat):DA:=λδ Q=>ta δ λds=>∃j:Int,ds=[.int j]/\-(2 ^ 62)<=j/\j < Ir/\kK g tc te (aP k fr δ) (kl 0 j.toNat) Q
section
variable {tg iter elt:Iu} {ifs:List Iu} {scope:IU} {N':List Str} {k:Nat} {fr:List Nat} {g:TG} {dg:DG} {t:DT} {ta:DA} {tc:DB} {te:DT} {pos p ps:Pos}
theorem y8(hc:X.calm=true)(S:jv X.env.scope X.N N' k fr scope)(hi:DF X H0 O0 iter t)(gd:GD X.K g dg)(hk:mZ g k)(hfr:fr.Nodup)
 (hg:∀fp C s H,PG (bJ X scope N' fp C s H) tg g)(hf:∀fp C s H,kC (bJ X scope N' fp C s H) ifs (bF X.K H0 O0 tc))(he:∀fp C s H,PE (bJ X scope N' fp C s H) elt (up X.K H0 O0 te))
 (hs:∀x,IZ iter X.env x=pure x:=by intro _;rfl):FE X H0 O0 (.ListComp elt [⟨tg,iter,ifs,0⟩] scope pos) (ck t dg tc te k fr):=
 (mS hc S (sv hi) hg hf he hs).imp λσ H Q uu10=>by obtain⟨O,δ,Qd,w,q,kk⟩:=uu10;exact⟨O,δ,_,w,q,λd v H1 uu11 s1 r1=>by
  obtain⟨xs,e,hz,q1⟩:=uu11;subst e;obtain⟨a,vs,rfl,hq,rr⟩:=r1.lst;refine⟨a,rfl,⟨_,hq⟩,λD hD=>qz (jM.list hq) gd hfr (λv _ H' R h=>hk fr σ v H' R h) (λ_ _ _ z=>z) (λ_ _ _ z=>z) (λD H' hD s' o e=>s' _ _ e (cA e hD)) rr (w.mono s1) (by rw [rr.length];exact hz) q1 (λds us p H' z s' hp r'=>kk ds us p H' z (s1.trans s') hp r') D hD⟩⟩
end
end
section
variable {K:Dj}
def dI(g:Int->Int->Im):Im->Im->(Im->Prop)->Prop:=λx y Q=>∃i j,x= .int i/\y= .int j/\Q (g i j)
def cY(C:Int->Int->Prop)(g:Int->Int->Im):Im->Im->(Im->Prop)->Prop:=λx y Q=>∃i j,x= .int i/\y= .int j/\C i j/\Q (g i j)
theorem bB{g:Int->Int->Int}:bw K (jV λi j=>.int (g i j)) (dI λi j=>.int (g i j)):=λH O x y dx dy Qd R _ hx hy uu12 k=>by
 obtain⟨i,j,e1,e2,q⟩:=uu12;subst e1 e2;cases hx.int;cases hy.int;exact⟨i,j,rfl,rfl,k _ _ H q (ai.refl _) (.int _)⟩
theorem jH{g:Int->Int->Bool}:bw K (jV λi j=>.bl (g i j)) (dI λi j=>.bool (g i j)):=λH O x y dx dy Qd R _ hx hy uu13 k=>by
 obtain⟨i,j,e1,e2,q⟩:=uu13;subst e1 e2;cases hx.int;cases hy.int;exact⟨i,j,rfl,rfl,k _ _ H q (ai.refl _) (.bl _)⟩
theorem kL{C:Int->Int->Prop}{g:Int->Int->Int}:bw K (rI C λi j=>.int (g i j)) (cY C λi j=>.int (g i j)):=λH O x y dx dy Qd R _ hx hy uu14 k=>by
 obtain⟨i,j,e1,e2,c,q⟩:=uu14;subst e1 e2;cases hx.int;cases hy.int;exact⟨i,j,rfl,rfl,c,k _ _ H q (ai.refl _) (.int _)⟩
def tY(K:Dj):R2:=λx y H Q=>∃O dx dy,Sh K H O x dx/\Sh K H O y dy/\bj dx/\bj dy/\Q (.bl (DL dx dy)) H
def tZ(K:Dj):R2:=λx y H Q=>∃O dx dy,Sh K H O x dx/\Sh K H O y dy/\bj dx/\bj dy/\Q (.bl (!DL dx dy)) H
theorem lL{X:Cx}(hu:X.A.units+64 < cLine):aI X (IJ .Eq) (tY X.K):=by
 intro JI s σ H x y v u Q I rx ry h;obtain⟨O,dx,dy,hx,hy,sx,sy,q⟩:=h;obtain⟨as,ra⟩:=mT I hx.all (Fd sx) rx;obtain⟨bs,rb⟩:=mT I hy.all (Fd sy) ry;exact SeqAt.compareEq_shaped ra rb sx sy hu (aT I q rfl)
theorem kM{X:Cx}(hu:X.A.units+64 < cLine):aI X (IJ .NotEq) (tZ X.K):=by
 intro JI s σ H x y v u Q I rx ry h;obtain⟨O,dx,dy,hx,hy,sx,sy,q⟩:=h;obtain⟨as,ra⟩:=mT I hx.all (Fd sx) rx;obtain⟨bs,rb⟩:=mT I hy.all (Fd sy) ry;exact SeqAt.compareNe_shaped ra rb sx sy hu (aT I q rfl)
def cZ:Im->Im->(Im->Prop)->Prop:=λx y Q=>bj x/\bj y/\Q (.bool (DL x y))
def c5:Im->Im->(Im->Prop)->Prop:=λx y Q=>bj x/\bj y/\Q (.bool (!DL x y))
theorem lM:bw K (tY K) cZ:=λH O x y dx dy Qd R _ hx hy uu15 k=>by obtain⟨a,b,q⟩:=uu15;exact⟨O,dx,dy,hx,hy,a,b,k _ _ H q (ai.refl _) (.bl _)⟩
theorem kN:bw K (tZ K) c5:=λH O x y dx dy Qd R _ hx hy uu16 k=>by obtain⟨a,b,q⟩:=uu16;exact⟨O,dx,dy,hx,hy,a,b,k _ _ H q (ai.refl _) (.bl _)⟩
def c7:Im->Im->(Im->Prop)->Prop:=λx y Q=>∃ds i d,x= .list ds/\y= .int i/\atI ds i=some d/\Q d
def bL:Im->Im->(Im->Prop)->Prop:=λx y Q=>∃ds i d,x= .tuple ds/\y= .int i/\atI ds i=some d/\Q d
theorem aj.atI{H:Hp}{O:Ex}{vs:List V}{ds:List Im}{i:Int}{d:Im}(r:aj K H O vs ds)(e:L2.atI ds i=some d):∃v,L2.atI vs i=some v/\Dt K H O v d:=by
 unfold L2.atI at e⊢;rw [r.length];cases q:kg ds.length i with
 | none=>rw [q] at e;cases e
 | some j=>rw [q] at e;exact r.getD e
theorem br:bw K (p8 K) c7:=λH O x y dx dy Qd R _ hx hy uu17 k=>by
 obtain⟨ds,i,d,e1,e2,e3,q⟩:=uu17;subst e1 e2;obtain⟨a,vs,rfl,hs,r⟩:=hx.lst;cases hy.int;obtain⟨v,hv,rv⟩:=r.atI e3;exact⟨a,vs,i,v,rfl,rfl,hs,hv,k d v H q (ai.refl _) rv⟩
theorem jA:bw K (p9 K) bL:=λH O x y dx dy Qd R _ hx hy uu18 k=>by
 obtain⟨ds,i,d,e1,e2,e3,q⟩:=uu18;subst e1 e2;obtain⟨a,vs,rfl,hs,r⟩:=hx.tup;cases hy.int;obtain⟨v,hv,rv⟩:=r.atI e3;exact⟨a,vs,i,v,rfl,rfl,hs,hv,k d v H q (ai.refl _) rv⟩
end
section
variable {X:Cx} {H0:Hp} {O0:Ex}
def y9:R2:=λx y H Q=>∃l b xs zs,x= .ref l/\y= .ref b/\Rd H l (.lst xs)/\Rd H b (.lst zs)/\xs.length+zs.length<=Ir/\∀p,H p=none->Q (.ref p) (ah H p (.lst (xs++zs)))
theorem z9:aI X (Ja .Add) y9:=by
 intro JI s σ H x y v u Q I rx ry h;obtain⟨l,b,xs,zs,rfl,rfl,hH,hB,hz,q⟩:=h;cases rx;cases ry;obtain⟨z,its,n,r,e⟩:=hH.ok I.hok;obtain⟨z2,its2,n2,r2,e2⟩:=hB.ok I.hok;have l1:=r.length;have l2:=r2.length;refine PySem.P.add_list e e2 ?_ (by rw [D4,D4];omega);have ea:its.toArray++its2.toArray=(its++its2).toArray:=Il
 rw [ea];exact⟨.ref _,_,I.lnew (t':=s.toks) (r.append r2) (by rw [Fs];omega),rfl,q _ I.fresh⟩
def c9(ta tb:DT):DA:=λδ Q=>ta δ λx=>tb δ λy=>∃xs ys,x= .list xs/\y= .list ys/\xs.length+ys.length<=Ir/\Q (xs++ys)
theorem Aa{a b:Iu}{ta tb:DT}{pos:Pos}(ha:DF X H0 O0 a ta)(hb:DF X H0 O0 b tb):FE X H0 O0 (.BinOp a .Add b pos) (c9 ta tb):=
 (aS z9 ha hb).imp λσ H Q uu19=>by obtain⟨O,δ,Qd,w,q,k⟩:=uu19;exact⟨O,δ,_,w,q,λx v H1 q1 s1 r1=>⟨O,δ,_,w.mono s1,q1,λy u H2 uu20 s2 r2=>by
  obtain⟨xs,ys,e1,e2,hz,q2⟩:=uu20;subst e1 e2;obtain⟨a,vs,rfl,h1,d1⟩:=(r1.mono s2).lstR;obtain⟨b,us,rfl,h2,d2⟩:=r2.lstR;exact⟨a,b,vs,us,rfl,rfl,h1,h2,by rw [d1.length,d2.length];exact hz,λp hp=>k _ _ _ _ q2 (s1.trans s2) hp (d1.append d2)⟩⟩⟩
def eY:Im->Im->(Im->Prop)->Prop:=λx y Q=>∃xs ys,x= .tuple xs/\y= .tuple ys/\xs≠[]/\xs.length+ys.length<=Ir/\Q (.tuple (xs++ys))
def da(xs:List Im)(lo hi:Option Int):List Im:=(xs.drop (HT.sIx xs.length 0 lo)).take (HT.sIx xs.length xs.length hi - HT.sIx xs.length 0 lo)
abbrev DO:=Dl->(Option Int->Prop)->Prop
inductive ng (K:Dj) (H0:Hp) (O0:Ex) (t:DO) (σ:St) (H:Hp) (R:Option Int->Hp->Prop):Prop
 | mk (O:Ex) (δ:Dl) (Qd:Option Int->Prop):Wd K H0 O0 H O σ δ->t δ Qd->(∀d H',Qd d->ai H H'->R d H')->ng K H0 O0 t σ H R
def dh:DO:=λ_ Q=>Q none
def di(t:DT):DO:=λδ Q=>t δ λd=>∃i,d= .int i/\Q (some i)
theorem PO.imp{X:Cx}{e:Option Iu}{t u:TO}(h:PO X e t)(i:∀σ H Q,u σ H Q->t σ H Q):PO X e u:=λJI s σ H Q I z=>h JI s σ H Q I (i σ H Q z)
theorem nh:PO X none (ng X.K H0 O0 dh):=xb.imp λσ H Q uu21=>by obtain⟨O,δ,Qd,w,q,k⟩:=uu21;exact k none H q (ai.refl _)
theorem ni{e:Iu}{t:DT}(h:DE X H0 O0 e t):PO X (some e) (ng X.K H0 O0 (di t)):=(xc h).imp λσ H Q uu22=>by obtain⟨O,δ,Qd,w,q,k⟩:=uu22;exact⟨O,δ,_,w,q,λd v H1 uu23 s1 r1=>by obtain⟨i,e,q1⟩:=uu23;subst e;cases r1;exact⟨i,rfl,k _ H1 q1 s1⟩⟩
def eZ(t:DT)(tl th:DO):DA:=λδ Q=>t δ λd=>tl δ λl=>th δ λu=>∃xs,d= .list xs/\Q (da xs l u)
def ff(t:DT)(tl th:DO):DT:=λδ Q=>t δ λd=>tl δ λl=>th δ λu=>∃xs,d= .tuple xs/\¬(HT.sIx xs.length 0 l=0/\HT.sIx xs.length xs.length u=xs.length)/\Q (.tuple (da xs l u))
theorem jN{a b:Iu}{ta tb:DT}{r:R2}{rd:Im->Im->(Im->Prop)->Prop}{pos:Pos}(ho:mi X r)(hd:bw X.K r rd)(ha:DF X H0 O0 a ta)(hb:DF X H0 O0 b tb)(hs:∀v u,subscripted b false v u=operate [v,u] (getItem v u):=by intro _ _;rfl):DE X H0 O0 (.Subscript a b pos) (aX rd ta tb):=(n5 ho ha hb hs).imp (oj hd)
def dj:List Im->(Im->Prop)->Prop:=λds Q=>∃xs,(ds=[.list xs]\/ds=[.tuple xs])/\Q (.int xs.length)
def dn:List Im->(Im->Prop)->Prop:=λds Q=>∃xs,ds=[j3 xs]/\Q (.int xs.length)
theorem t4{K:Dj}:kj K (λxs H Q=>∃p ys,xs=[.ref p]/\(aG K H p ys\/bD K H p ys)/\Q (.int ys.length) H) dj:=λH O xs ds Qd R _ hs uu24 k=>by
 obtain⟨ys,e,q⟩:=uu24;rcases e with e | e <;> subst e
 ·cases hs with
  | cons h r=>
   cases r;obtain⟨a,vs,rfl,h1,d1⟩:=h.lst;exact⟨a,vs,rfl,.inl h1,by rw [d1.length];exact k _ _ H q (ai.refl _) (.int _)⟩
 ·cases hs with
  | cons h r=>
   cases r;obtain⟨a,vs,rfl,h1,d1⟩:=h.tup;exact⟨a,vs,rfl,.inr h1,by rw [d1.length];exact k _ _ H q (ai.refl _) (.int _)⟩
theorem Ab{K:Dj}:kj K (λxs H Q=>∃p ys,xs=[.ref p]/\(aG K H p ys\/bD K H p ys)/\Q (.int ys.length) H) dn:=λH O xs ds Qd R _ hs uu25 k=>by
 obtain⟨ys,e,q⟩:=uu25;subst e;cases hs with
 | cons h r=>
  cases r;obtain⟨a,vs,rfl,h1,d1⟩:=h.scr;exact⟨a,vs,rfl,.inl h1,by rw [d1.length];exact k _ _ H q (ai.refl _) (.int _)⟩
def fg:List Im->(Im->Prop)->Prop:=λds Q=>∃xs,ds=[.list xs]/\Q (.tuple xs)
theorem aj.bools{K:Dj}{H:Hp}{O:Ex}:∀{bs:List Bool}{vs:List V},aj K H O vs (bs.map GX)->vs=bs.map V.bl
 | [],_,r=>by rw [DQ] at r;cases r;rfl
 | b::bs,_,r=>by
  rw [Dq] at r;cases r with
  | cons h r=>cases h;rw [Dq,aj.bools r]
def dz(g:List Bool->Bool):List Im->(Im->Prop)->Prop:=λds Q=>∃bs:List Bool,ds=[.list (bs.map .bool)]/\Q (.bool (g bs))
theorem qA{K:Dj}{g:List Bool->Bool}:kj K (λxs H Q=>∃(a:Ip)(bs:List Bool),xs=[.ref a]/\aG K H a (bs.map V.bl)/\Q (.bl (g bs)) H) (dz g):=λH O xs ds Qd R tr hs uu26 k=>by
 obtain⟨bs,e,q⟩:=uu26;subst e;cases hs with
 | cons h r=>
  cases r;obtain⟨a,vs,rfl,h1,d1⟩:=h.lst;cases d1.bools;exact⟨a,bs,rfl,h1,k _ _ H q (ai.refl _) (.bl _)⟩
def dA(g:Int->Int->Int):List Im->(Im->Prop)->Prop:=λds Q=>∃i j,ds=[.int i,.int j]/\Q (.int (g i j))
theorem nj{K:Dj}{g:Int->Int->Int}:kj K (λxs H Q=>∃i j,xs=[.int i,.int j]/\Q (.int (g i j)) H) (dA g):=λH O xs ds Qd R tr hs uu27 k=>by
 obtain⟨i,j,e,q⟩:=uu27;subst e;cases hs with
 | cons h r=>
  cases r with
  | cons h2 r=>
   cases r;cases h.int;cases h2.int;exact⟨i,j,rfl,k _ _ H q (ai.refl _) (.int _)⟩
def nk:Im->String
 | .none=> "NoneType" | .bool _=> "bool" | .int _=> "int" | .str _=> "str" | .list _=> "list" | .tuple _=> "tuple" | .dict _=> "dict"
def fh(neg:Bool):Im->Im->(Im->Prop)->Prop:=λx y Q=>∃ds,(y= .list ds\/y= .tuple ds)/\bE x=true/\ds.all bE=true/\Q (.bool (if neg then !(ds.any λd=>DL d x) else ds.any λd=>DL d x))
end
section
variable {P:IE} {w:IF} {K:Dj} {mg:Str->Option Io} {base:IC}
def bC(N:List Str)(ds:List Im):Dl:=ds.map (λd=>some (.v d))++Dx (N.length - ds.length) none
theorem t5{H:Hp}{O:Ex}{N:List Str}{vs:List V}{ds:List Im}(tr:∀l,O l->H l≠none)(r:aj K H O vs ds):Wd K H O H O (start N vs) (bC N ds):=by
 have hl:=r.length;have at1:∀(i:Nat) y,(bC N ds)[i]?=some y->(∃d,ds[i]?=some d/\y=some (.v d))\/y=none:=λi y e=>by
  unfold bC at e;by_cases h:i < ds.length
  ·rw [Fg (by simpa using h),E3] at e;cases q:ds[i]? with
   | none=>rw [q] at e;cases e
   | some d=>rw [q] at e;exact .inl ⟨d,rfl,(Eu e).symm⟩
  ·rw [Fx (by simpa using GK h),FC] at e;split at e
   ·exact .inr (Eu e).symm
   ·cases e
 refine⟨ai.refl _,λ_ z=>z,λ_ z=>.inl z,tr,by simp [start,bC,hl],λi y e=>?_,λi j ds' es l e1=>?_⟩
 ·rcases at1 i y e with⟨d,hd,rfl⟩ | rfl
  ·obtain⟨v,hv,rv⟩:=r.getD hd;refine⟨v,?_,rv⟩;unfold start;rw [Fg (by simpa using(DY.mp hv).1),E3,hv];rfl
  ·exact EU
 ·rcases at1 i _ e1 with⟨d,_,z⟩ | z
  ·cases z;intro h;exact h.elim
  ·cases z
theorem ju.okD{x qual:Str}{st:II}{f:Ip}{fd:IB}{N ps:List Str}{k:Nat}{F:List Im->(Im->Prop)->Prop}(Fu:ju K x qual st f fd)(S:aL N ps (ax st))(len:∀ds Q,F ds Q->ds.length=ps.length)
 (hbody:∀(cdv:Io) (A:IH) (outer:List Env) (s:Iq) (H:Hp) (O:Ex) (ds:List Im) (Q:Im->Prop) (E:XK),aU k (A.deeper (Jm qual (ax st) s.heap.objs.size f cdv))->F ds Q->
  ∃t,aR (bp CX0 P w K mg base N qual (ax st) f cdv A outer s H E).nox (jG st) (bQ K H O t)/\t {nx:=λ_=>Q .none,rt:=Q} (bC N ds)):aA P w K mg base CX0 (k+1) f fd ps (bA K F):=by
 refine Fu.ok S (λvs H Q E h=>?_) (λcdv A outer s H vs Q E hr h=>?_)
 ·obtain⟨O,ds,Qd,_,r,q,_⟩:=h;rw [r.length];exact len _ _ q
 ·obtain⟨O,ds,Qd,tr,r,q,k⟩:=h;obtain⟨t,ht,q'⟩:=hbody cdv A outer s H O ds Qd E hr q;refine⟨_,ht,O,_,_,t5 tr r,q',λO' δ' σ' H' z w' S'=>?_,λd v H' z s' r'=>k d v H' z s' r',λ_ _ _ _ z=>z.elim,λ_ _ _ _ z=>z.elim⟩;exact k _ _ _ z w'.same .non
end
section
variable {X:Cx} {H0:Hp} {O0:Ex}
theorem ot:kC X [] (bF X.K H0 O0 bR):=λJI s σ H Q I h=>by
 obtain⟨O,δ,Qd,w,q,k⟩:=h;exact tu JI s σ H Q I (k true H q (ai.refl _))
theorem Ac:cB X (.builtin "isinstance") (λxs H Q=>∃O d T b x,xs=[x,.ty T]/\Dt X.K H O x d/\(∀x,d≠ .dict [(.none,x)])/\kitOne X.K (.type (nk d)) (.type T)=some b/\Q (.bl b) H):=by
 intro JI s σ H xs us Q I r h;obtain⟨O,d,T,b,x,rfl,hd,hp,hk,q⟩:=h;obtain⟨u,w',rfl,rx,rt⟩:=lB r;cases (show w'=Ie T from rt);have fin:∀tk,EP X JI σ Q (.bool b) {s with toks:=tk}:=λtk=>⟨.bl b,H,I.tok tk,rfl,q⟩;cases hd with
 | non=>cases (show u=Ge from rx);exact Jv kitx_none I.kIn EU hk (λz=>nomatch z) fin
 | bl y=>cases (show u=Fy y from rx);exact Jv kitx_bool I.kIn EU hk (λz=>nomatch z) fin
 | int i=>obtain⟨t,e⟩:=(show ∃t,u=F9 i t from rx);cases e;exact Jv kitx_int I.kIn EU hk (λz=>nomatch z) fin
 | str y=>obtain⟨t,e⟩:=(show ∃t,u=Ga y t from rx);cases e;exact Jv kitx_str I.kIn EU hk (λz=>nomatch z) fin
 | @tup a xs ds h n rr=>
  cases (show u=DC a from rx);obtain⟨its,rv,⟨o,e,c,_⟩,_⟩:=I.tuple (.inl h);exact Jv kitx_tuple I.kIn ⟨o,e,c⟩ hk (λz=>nomatch z) fin
 | @tupK a xs ds h rr=>
  cases (show u=DC a from rx);obtain⟨its,rv,⟨o,e,c,_⟩,_⟩:=I.tuple h.of0;exact Jv kitx_tuple I.kIn ⟨o,e,c⟩ hk (λz=>nomatch z) fin
 | @lst a xs ds h n rr=>
  cases (show u=DC a from rx);obtain⟨its,rv,⟨o,_,e,c,_⟩,_⟩:=I.list (.inl h);exact Jv kitx_list I.kIn ⟨o,e,c⟩ hk (λz=>nomatch z) fin
 | pack h n=>exact absurd rfl (hp _)
 | purse h n=>exact absurd rfl (hp _)
 | scr h r=>exact absurd rfl (hp _)
 | obj h e n r=>exact absurd rfl (hp _)
 | @dct0 a h n=>
  cases (show u=DC a from rx);obtain⟨_,_,_,_,o,_,_,e,c,_⟩:=(show aE X.prog X.w H s.heap a (.dK []) from I.hok a _ h);exact Jv kitx_dict I.kIn ⟨o,e,c.1⟩ hk (λz=>nomatch z) fin
 | @dic a ob kv ks kp ds h e1 e2 n rr=>
  cases (show u=DC a from rx);obtain⟨_,_,_,_,o,_,_,e,c,_⟩:=(show aE X.prog X.w H s.heap a (.dK kv) from(I.hok a _ h).2);exact Jv kitx_dict I.kIn ⟨o,e,c.1⟩ hk (λz=>nomatch z) fin
def cm(K:Dj)(T:String)(t:DT):DT:=λδ Q=>t δ λd=>∃b,kitOne K (.type (nk d)) (.type T)=some b/\(∀x,d≠ .dict [(.none,x)])/\Q (.bool b)
theorem Ad{T:String}{a c:Iu}{t:DT}{np p:Pos}(hg:Gl X "isinstance")(hm:X.mg "isinstance"=none)(hv:IK "isinstance"=some (.builtin "isinstance"))(ha:DF X H0 O0 a t)(hc:PE X c (tC (.ty T)))
 (hs:Iw [a,c] X.env=(false,eval a X.env)::Iw [c] X.env:=by rfl)(hs2:Iw [c] X.env=[(false,eval c X.env)]:=by rfl)(hb:(IS p (Iw [c] X.env)).any (·.1)=false:=by rfl):DE X H0 O0 (.Call (.Name "isinstance" np) [a,c] [] p) (cm X.K T t):=
 (bz Ac hg hm hv (aw ha (aw hc aK hs2) hs) (he:=hs) (hpl:=hb)).imp λσ H Q uu28=>by obtain⟨O,δ,Qd,w,q,k⟩:=uu28;exact⟨O,δ,_,w,q,λd v H1 uu29 s1 r1=>by obtain⟨b,e,hp,q1⟩:=uu29;exact⟨λ_=>False,d,T,b,v,rfl,r1.all,hp,e,k _ _ H1 q1 s1 (.bl b)⟩⟩
def dB:Im->Im->(Im->Prop)->Prop:=λx y Q=>∃i j,x= .str i/\y= .str j/\i.length+j.length<=Ir/\Q (.str (i++j))
theorem lN{K:Dj}:bw K (λx y H Q=>∃i j,x= .str i/\y= .str j/\i.length+j.length<=Ir/\Q (.str (i++j)) H) dB:=λH O x y dx dy Qd R tr hx hy uu30 k=>by
 obtain⟨i,j,e1,e2,hz,q⟩:=uu30;subst e1 e2;cases hx.str;cases hy.str;exact⟨i,j,rfl,rfl,hz,k _ _ H q (ai.refl _) (.str _)⟩
def dD:Im->Im->(Im->Prop)->Prop:=λx y Q=>∃z i c,x= .str z/\y= .int i/\z.length<=Ir/\atI z.cps.toList i=some c/\Q (.str ⟨#[c]⟩)
theorem qB{K:Dj}:bw K sW dD:=λH O x y dx dy Qd R tr hx hy uu31 k=>by
 obtain⟨z,i,c,e1,e2,hz,e3,q⟩:=uu31;subst e1 e2;cases hx.str;cases hy.int;exact⟨z,i,c,rfl,rfl,hz,e3,k _ _ H q (ai.refl _) (.str _)⟩
def Ae:V->Option Int->Option Int->Hp->VK->Prop:=λx lo hi H Q=>∃z,x= .str z/\z.length<=Ir/\Q (.str (Txt.slice z lo hi)) H
theorem Af:sU X Ae:=by
 intro JI s σ H x v vl vu lo hi sl Q I rx hs pl pu h;obtain⟨z,rfl,hz,q⟩:=h;obtain⟨t,rfl⟩:=rx;have e1:∃l:Option (Int×Tok),vl=partValue l/\l.map (·.1)=lo:=by
  cases pl with
  | none=>exact⟨none,rfl,rfl⟩
  | int i t=>exact⟨some (i,t),rfl,rfl⟩
 have e2:∃l:Option (Int×Tok),vu=partValue l/\l.map (·.1)=hi:=by
  cases pu with
  | none=>exact⟨none,rfl,rfl⟩
  | int i t=>exact⟨some (i,t),rfl,rfl⟩
 obtain⟨l,rfl,rfl⟩:=e1;obtain⟨u,rfl,rfl⟩:=e2;refine⟨"str",_,F.slot_str_getitem.lookup,Jb _ _ _,wpAny_getItem_str_slice (l:=l) (u:=u) (st:=none) hs rfl ?_⟩;exact post_val_or_str ⟨EY (Txt.slice_le z _ _) hz,λt' k=>⟨.str (Txt.slice z (l.map (·.1)) (u.map (·.1))),H,I.tok _,⟨_,rfl⟩,q⟩⟩
def dE(t:DT)(tl th:DO):DT:=λδ Q=>t δ λd=>tl δ λl=>th δ λu=>∃z,d= .str z/\z.length<=Ir/\Q (.str (Txt.slice z l u))
theorem nq{e:Iu}{lo hi:Option Iu}{t:DT}{tl th:DO}{pos p2:Pos}(h:DF X H0 O0 e t)(hl:PO X lo (ng X.K H0 O0 tl))(hu:PO X hi (ng X.K H0 O0 th)):DE X H0 O0 (.Subscript e (.Slice lo hi none p2) pos) (dE t tl th):=
 (xg Af h hl hu).imp λσ H Q uu32=>by obtain⟨O,δ,Qd,w,q,k⟩:=uu32;exact⟨O,δ,_,w,q,λd v H1 q1 s1 r1=>⟨O,δ,_,w.mono s1,q1,λl H2 q2 s2=>⟨O,δ,_,w.mono (s1.trans s2),q2,λu H3 uu33 s3=>by
  obtain⟨z,e,hz,q3⟩:=uu33;subst e;cases r1.str;exact⟨z,rfl,hz,k _ _ H3 q3 (s1.trans (s2.trans s3)) (.str _)⟩⟩⟩⟩
theorem Ag{K:Dj}{H:Hp}{O:Ex}:∀{ys:List Str}{vs:List V}{us:List Io},aj K H O vs (ys.map Dw)->az vs us->StrsAre us ys:=by
 intro ys
 induction ys with
 | nil=>intro vs us r rv;rw [DQ] at r;cases r;cases rv;exact .nil
 | cons y ys ih=>
  intro vs us r rv;rw [Dq] at r;cases r with
  | cons h r=>
   cases h;cases rv with
   | cons r1 r2=>
    obtain⟨t,rfl⟩:=r1;exact .cons y t (ih r r2)
theorem Ah:mR X "str.join" (λx xs H Q=>∃(O:Ex)(z:Str)(a:V)(ys:List Str),x= .str z/\xs=[a]/\Sh X.K H O a (.list (ys.map .str))/\(ys.map (·.length)).sum+ys.length*z.length<=16777216/\Q (.str (Txt.join z ys)) H):=by
 intro JI s σ H x xs v us Q I rx rs h;obtain⟨O,z,a,ys,rfl,rfl,ha,hz,q⟩:=h;obtain⟨t,rfl⟩:=rx;obtain⟨u,rfl,ru⟩:=jK rs;obtain⟨l,vs,rfl,hl,dl⟩:=ha.lst;cases ru;obtain⟨its,rv,pl,_⟩:=I.list hl;exact join_list pl.isList (by simpa using Ag dl rv) hz λt' k=>⟨.str _,H,I.tok _,⟨_,rfl⟩,q⟩
def dF(to:DT)(t:DT):DT:=λδ Q=>to δ λx=>∃z:Str,x= .str z/\t δ λy=>∃(ys:List Str),y= .list (ys.map .str)/\(ys.map (·.length)).sum+ys.length*z.length<=16777216/\Q (.str (Txt.join z ys))
theorem t6{o e:Iu}{to t:DT}{apos cpos:Pos}(ho:DE X H0 O0 o to)(ha:DF X H0 O0 e t)(hbase:Jh o "join" X.env (eval o X.env)=eval o X.env:=by rfl)
 (hfew:((IS cpos (Iw [e] X.env)).all (λx=>!x.1) && (backToKw cpos (Js [] X.env)).all (λx=>x.1.isSome) && decide ([e].length+([]:List Jn).length+(if ([]:List Jn).isEmpty then 0 else 1) < 30))=true:=by rfl)
 (hline:(apos.endLine==cpos.line)=true:=by rfl)(hst:Iw [e] X.env=(false,eval e X.env)::Iw [] X.env:=by rfl)(hplain:(IS cpos (Iw [] X.env)).any (·.1)=false:=by rfl):
 DE X H0 O0 (.Call (.Attribute o "join" apos) [e] [] cpos) (dF to t):=
 (n6 FH PySem.F.slot_str_join PySem.F.type_str_join Ah ho (aw ha aK hst) hbase hfew hline hst hplain).imp λσ H Q uu34=>by obtain⟨O,δ,Qd,w,q,k⟩:=uu34;exact⟨O,δ,_,w,q,λx v H1 uu35 s1 r1=>by
  obtain⟨z,e,q1⟩:=uu35;subst e;cases r1;exact⟨rfl,O,δ,_,w.mono s1,q1,λy u H2 uu36 s2 r2=>by obtain⟨ys,e,hz,q2⟩:=uu36;subst e;exact⟨O,z,u,ys,rfl,rfl,r2,hz,k _ _ H2 q2 (s1.trans s2) (.str _)⟩⟩⟩
def dG:List Im->(Im->Prop)->Prop:=λds Q=>(∃i,ds=[.int i]/\Q (.int i))\/∃b,ds=[.bool b]/\Q (.int (if b then 1 else 0))
theorem ow{K:Dj}:kj K (λxs H Q=>(∃i,xs=[.int i]/\Q (.int i) H)\/∃k,xs=[.bl k]/\Q (.int (if k then 1 else 0)) H) dG:=λH O xs ds Qd R tr hs h k=>by
 rcases h with⟨i,e,q⟩ | ⟨b,e,q⟩ <;> subst e
 ·cases hs with
  | cons h r=>cases r;cases h.int;exact .inl ⟨i,rfl,k _ _ H q (ai.refl _) (.int _)⟩
 ·cases hs with
  | cons h r=>cases r;cases h.bl;exact .inr ⟨b,rfl,k _ _ H q (ai.refl _) (.int _)⟩
def dH(t:DA):DA:=λδ Q=>t δ λds=>∃xs,(ds=[.list xs]\/ds=[.tuple xs])/\Q xs
theorem Ai{a:Iu}{t:DA}{np p:Pos}(hg:Gl X "list")(hm:X.mg "list"=none)(hv:IK "list"=some (.type "list"))(ha:PA X [a] (kI X.K H0 O0 t))(he:Iw [a] X.env=(false,eval a X.env)::Iw [] X.env:=by rfl)(hpl:(IS p (Iw [] X.env)).any (·.1)=false:=by rfl):FE X H0 O0 (.Call (.Name "list" np) [a] [] p) (dH t):=
 (b8 xk hg hm hv ha (he:=he) (hpl:=hpl)).imp λσ H Q uu37=>by obtain⟨O,δ,Qd,w,q,k⟩:=uu37;exact⟨O,δ,_,w,q,λds vs H1 uu38 s1 r1=>by
  obtain⟨xs,e,q1⟩:=uu38;rcases e with e | e <;> subst e
  ·cases r1 with
   | cons h r=>
    cases r;obtain⟨a,us,rfl,h1,d1⟩:=h.lst;exact⟨a,us,rfl,.inl h1,λl hl=>k _ _ _ _ q1 s1 hl d1⟩
  ·cases r1 with
   | cons h r=>
    cases r;obtain⟨a,us,rfl,h1,d1⟩:=h.tup;exact⟨a,us,rfl,.inr h1,λl hl=>k _ _ _ _ q1 s1 hl d1⟩⟩
def fj(t:DT):DA:=λδ Q=>t δ λd=>∃xs,d= .list xs/\Q xs.reverse
end
section
variable {X:Cx} {JI:List (Ip×Obj)} {σ:St} {H:Hp} {s:Iq}
theorem aa.swap{p:Ip}{o':HO}(I:aa X JI σ H s)(mu:l9 (H p))(new:aE X.prog X.w (ah H p o') s.heap p o'):aa X JI σ (ah H p o') s:=by
 have hp:∃o,H p=some o:=by
  cases e:H p with
  | none=>rw [e] at mu;exact mu.elim
  | some o=>exact⟨o,rfl⟩
 obtain⟨o,ho⟩:=hp;have nn:∀{b:Ip},H b=none->b≠p:=λhb z=>by rw [z,ho] at hb;cases hb
 have nt:∀{b:Ip}{xs:List V},H b=some (.tup xs)->b≠p:=λhb z=>by rw [z] at hb;rw [hb] at mu;exact mu
 have nw:∀{b y:Ip},H b=some (.own y)->b≠p:=λhb z=>by rw [z] at hb;rw [hb] at mu;exact mu
 have nf:∀{b:Ip}{ob:Obj}{u:HO},H b=some (.frz ob u)->b≠p:=λhb z=>by rw [z] at hb;rw [hb] at mu;exact mu
 have nc:∀{b:Ip}{q:Str},H b=some (.cod q)->b≠p:=λhb z=>by rw [z] at hb;rw [hb] at mu;exact mu
 have nb:∀{b:Ip}{ps:Array Io},H b=some (.tbl ps)->b≠p:=λhb z=>by rw [z] at hb;rw [hb] at mu;exact mu
 have ub:=I.base;refine⟨I.ok,I.os,I.bare,⟨ub.keep,ub.slot,λb ob e n hx=>?_,ub.there,λb xs z=>?_,λb ob u z=>?_,λb ps z=>?_⟩,I.loc,I.cell,?_,λx c e=>?_,λq hq=>?_,λb u e=>?_,I.len⟩
 ·have:=ub.free b ob e n hx;rw [aq (nn this)];exact this
 ·have:=ub.tups b xs z;rw [aq (nt this)];exact this
 ·have:=ub.frzs b ob u z;rw [aq (nf this)];exact this
 ·obtain⟨m,this⟩:=ub.tbls b ps z;exact⟨m,by rw [aq (nb this)];exact this⟩
 ·rw [aq (nn I.free)];exact I.free
 ·have:=I.freeC x c e;rw [aq (nn this)];exact this
 ·obtain⟨a,b,c⟩:=I.pin q hq;exact⟨a,by rw [aq (nn b)];exact b,c⟩
 ·by_cases hb:b=p
  ·subst hb;rw [aD] at e;cases e;exact new
  ·rw [aq hb] at e;exact(I.hok b u e).stay (λ_ _ _ q=>q) (λc z=>by rw [aq (nw z)];exact z) (λc xs z=>by rw [aq (nt z)];exact z) λc xs z=>by rw [aq (nc z)];exact z
theorem aa.open{p:Ip}(I:aa X JI σ H s)(e:H p=some (kE p)):∃n,aa X JI σ (ah H p (.lst [.int n])) s:=by
 obtain⟨⟨n,t,k,h⟩,_,_⟩:=(show aE X.prog X.w H s.heap p (kE p) from I.hok p _ e);exact⟨n,I.swap (by rw [e];exact EU) ⟨(show 1<=Ir by decide),[.int n t],k,.cons ⟨t,rfl⟩ .nil,h⟩⟩
theorem aa.shut{p:Ip}{n:Int}(I:aa X JI σ H s)(e:H p=some (.lst [.int n])):aa X JI σ (ah H p (kE p)) s:=by
 obtain⟨_,its,k,r,h⟩:=(show aE X.prog X.w H s.heap p (.lst [.int n]) from I.hok p _ e);cases r with
 | cons r1 r2=>
  cases r2;obtain⟨t,rfl⟩:=r1;refine I.swap (by rw [e];exact EU) ⟨⟨n,t,k,h⟩,⟨_,h⟩,λh1 h2 uu39 kk=>by obtain⟨n,t,k,z⟩:=uu39;exact⟨n,t,k,kk _ z⟩⟩
theorem aR.pack{st:List II}{t:TS}(h:aR X st t):aR X st (λD σ H=>∃p,H p=some (kE p)/\∀n,t {nx:=λσ' H'=>∃n',H' p=some (.lst [.int n'])/\D.nx σ' (ah H' p (kE p)),rt:=λv H'=>∃n',H' p=some (.lst [.int n'])/\D.rt v (ah H' p (kE p))} σ (ah H p (.lst [.int n]))):=by
 intro JI s σ H D I ⟨p,e,q⟩;obtain⟨n,I1⟩:=I.open e;refine ak (h JI s σ _ _ I1 (q n)) λf s1 z=>?_;cases f with
 | next=>obtain⟨σ',H',J,n',e',q'⟩:=z;exact⟨σ',_,J.shut e',q'⟩
 | ret u=>obtain⟨v,σ',H',J,r,n',e',q'⟩:=z;exact⟨v,σ',_,J.shut e',r,q'⟩
 | brk=>obtain⟨_,_,_,z⟩:=z;exact z.elim
 | cont=>obtain⟨_,_,_,z⟩:=z;exact z.elim
theorem aR.newPack{st:List II}{t:TS}(h:aR X st t):aR X st (λD σ H=>t {nx:=λ_ _=>False,rt:=λv H'=>∃p n,v= .ref p/\H' p=some (.lst [.int n])/\D.rt v (ah H' p (kE p))} σ H):=by
 intro JI s σ H D I q;refine ak (h JI s σ _ _ I q) λf s1 z=>?_;cases f with
 | next=>obtain⟨_,_,_,z⟩:=z;exact z.elim
 | ret u=>obtain⟨v,σ',H',J,r,p,n',e,e',q'⟩:=z;subst e;exact⟨_,σ',_,J.shut e',r,q'⟩
 | brk=>obtain⟨_,_,_,z⟩:=z;exact z.elim
 | cont=>obtain⟨_,_,_,z⟩:=z;exact z.elim
end
def t7:List Im->(Im->Prop)->Prop:=λds Q=>∃z:Int,ds=[kF,.int z]/\0 < z/\z<=1000000/\∀i:Int,0<=i->i < z->Q (.int i)
def Aj:List Im->(Im->Prop)->Prop:=λds Q=>∃(ns:List Int)(i:Int),ds=[j3 (ns.map .int),.int i]/\(∀z∈ns,EF z<=1048576)/\0<=i/\i<=64/\Q kF
theorem bM{α:Type}{a:α}{l:List α}:atI (a::l) 0=some a:=lE (j:=0) rfl
theorem bX{α:Type}{a b:α}{l:List α}:atI (a::b::l) 1=some b:=lE (j:=1) rfl
theorem cn{α:Type}{a b c:α}{l:List α}:atI (a::b::c::l) 2=some c:=lE (j:=2) rfl
theorem dJ{α:Type}{a b c d:α}{l:List α}:atI (a::b::c::d::l) 3=some d:=lE (j:=3) rfl
theorem fk{α:Type}{a b c d e:α}{l:List α}:atI (a::b::c::d::e::l) 4=some e:=lE (j:=4) rfl
theorem fm{i:Int}:bj (.int i):=rfl
theorem fq{i:Bool}:bj (.bool i):=rfl
theorem ft:bj .none:=rfl
theorem cq{x y:Str}:DL (.str x) (.str y)=(x==y):=by simp [DL]
theorem fu{x y:Int}:DL (.int x) (.int y)=(x==y):=by simp [DL]
theorem fv{x y:Bool}:DL (.bool x) (.bool y)=(x==y):=by simp [DL]
theorem n4{n d:Nat}:HT.sIx n d none=d:=rfl
theorem oy{n d:Nat}{i:Int}(h0:0<=i)(h1:i<=n):HT.sIx n d (some i)=i.toNat:=by
 obtain⟨j,rfl⟩:=EN h0;rw [HT.sIx_nat,Hr];omega
theorem oz{xs:List Im}{i:Int}(h0:0<=i)(h1:i<=xs.length):da xs none (some i)=xs.take i.toNat:=by
 unfold da;rw [n4,oy h0 h1];simp
theorem oA{xs:List Im}{i:Int}(h0:0<=i)(h1:i<=xs.length):da xs (some i) none=xs.drop i.toNat:=by
 unfold da;rw [n4,oy h0 h1,F6 (by rw [HA];exact Dz _)]
theorem qC{lo:Int}{n i:Nat}{x:Im}(h:(kl lo n)[i]?=some x):i < n/\x= .int (lo+i):=by
 unfold kl at h;rw [E3] at h;by_cases hi:i < n
 ·rw [List.getElem?_range hi] at h;exact⟨hi,(Eu h).symm⟩
 ·rw [FN (by simpa using hi)] at h;cases h
section
variable {κ:Type} [DecidableEq κ]
def kn(kvs:List (κ×V))(k:κ)(v:V):List (κ×V):=
 if (kvs.any λkv=>decide (kv.1=k))=true then kvs.map (λkv=>if kv.1=k then(kv.1,v) else kv) else kvs++[(k,v)]
theorem Ak(kvs:List (κ×V))(k:κ)(v:V):(kn kvs k v).length<=kvs.length+1:=by
 unfold kn;split
 ·rw [E1];omega
 ·rw [Fs,Dp,DJ];omega
theorem KV.any{kvs:List (κ×V)}{vs:List (κ×Io)}(r:KV kvs vs)(k:κ):(kvs.any λkv=>decide (kv.1=k))=vs.any λkv=>decide (kv.1=k):=by
 unfold KV at r
 induction r with
 | nil=>rfl
 | cons h t ih=>rw [Ef,Ef,ih,h.1]
theorem KV.repl{kvs:List (κ×V)}{vs:List (κ×Io)}(r:KV kvs vs)(k:κ){y:V}{u:Io}(ry:au y u):
 KV (kvs.map λkv=>if kv.1=k then(kv.1,y) else kv) (vs.map λkv=>if kv.1=k then(kv.1,u) else kv):=by
 unfold KV at r⊢
 induction r with
 | nil=>exact .nil
 | @cons p q ps qs h t ih=>
  rw [Dq,Dq];refine .cons ?_ ih;obtain⟨h1,h2⟩:=h;by_cases e:p.1=k
  ·rw [Ij e,Ij (h1.symm.trans e)];exact⟨h1,ry⟩
  ·rw [Ii e,Ii (λz=>e (h1.trans z))];exact⟨h1,h2⟩
theorem KV.put{kvs:List (κ×V)}{vs:List (κ×Io)}(r:KV kvs vs)(k:κ){y:V}{u:Io}(ry:au y u):KV (kn kvs k y) (stored vs k u):=by
 unfold kn stored;rw [r.any k];by_cases e:(vs.any λkv=>decide (kv.1=k))=true
 ·rw [Ij e,Ij e];exact r.repl k ry
 ·rw [Ii e,Ii e];exact Paired.snoc r ⟨rfl,ry⟩
end
theorem Al{P:IE}{w:IF}{k:ao}{u:Io}(r:au (kV k) u):(j8 P w).is k u=true:=by
 cases k with
 | inl i=>obtain⟨t,e⟩:=(show ∃t,u=F9 i t from r);subst e;exact vY P w i t
 | inr x=>obtain⟨t,e⟩:=(show ∃t,u=Ga x t from r);subst e;exact vZ P w x t
section
variable {P:IE} {w:IF} {H:Hp} {h:IC} {a:Ip}
theorem Am{u:HO}(ok:aH P w H h)(e:Rd H a u):aE P w H h a u:=e.ok ok
theorem An{kvs:List (ao×V)}(ok:aH P w H h)(e:Rd H a (.dK kvs)):kvs.length<=Ir/\(a==Jo)=false/\∃vs,KV kvs vs/\h.DictOf (j8 P w) a vs:=
 show aE P w H h a (.dK kvs) from Am ok e
theorem Ao{kvs:List (ao×V)}(ok:aH P w H h)(e:H a=some (.dK kvs)):kvs.length<=Ir/\(a==Jo)=false/\∃vs,KV kvs vs/\h.DictOf (j8 P w) a vs:=An ok (.inl e)
end
section
variable {X:Cx} {JI:List (Ip×Obj)} {σ:St} {H:Hp} {s:Iq} {a:Ip} {y v:V} {u r:Io} {o:Option V} {A:IH} {E:Io->Iq->Prop}
theorem aa.big(I:aa X JI σ H s):Jo < s.heap.objs.size:=by
 have h:IA < s.heap.objs.size:=(I.mod.glob.keeps I.bk).lt;exact Nat.lt_trans Ce h
theorem Ap{h':IC}{t':Nat}{ob:HO}(I:aa X JI σ H s)(mu:l9 (H a))(hs:Gf a s.heap h')(he:∃q,h'.get? a=some q)(new:aE X.prog X.w (ah H a ob) h' a ob):
 aa X JI σ (ah H a ob) {s with heap:=h',toks:=t'}:=
 I.write (x:=a) (e:=a) mu (.inl rfl) (λb q hb z=>(hs.2 b hb).trans z) he new
theorem Aq{P:IE}{w:IF}{H':Hp}{h':IC}{kvs:List (ao×V)}{vs:List (ao×Io)}(z:kvs.length<=Ir)(hd:(a==Jo)=false)(rel:KV kvs vs)(dd:h'.DictOf (j8 P w) a vs):
 aE P w H' h' a (.dK kvs):=⟨z,hd,vs,rel,dd⟩
end
theorem t8{P:IE}{w:IF}{H:Hp}(h:IC)(hb:Jo < h.objs.size):aE P w H (h.push {cls:= .type "dict",data:= .dict #[]}) h.objs.size (.dK []):=
 ⟨Fq _,beq_eq_false_iff_ne.mpr (Ne.symm (Em hb)),[],.nil,Heap.DictOf.new h⟩
def Ar:TE:=λ_ H Q=>∀p,H p=none->Q (.ref p) (ah H p (.dK []))
section
variable {X:Cx} {pos:Pos}
theorem As:PE X (.Dict [] [] pos) Ar:=λJI s σ H Q I h=>
 wpAny_Dict_empty ⟨.ref s.heap.objs.size,_,I.laid (a:=s.heap.objs.size) (o:= .dK []) (t':=s.toks) (λ_ _ q=>Dr _ q) (Dz _) (t8 s.heap I.big),rfl,h _ (I.hok.fresh (Dz _))⟩
end
def oB:List (TE×TE)->St->Hp->(List (V×V)->Hp->Prop)->Prop
 | [],_,H,Q=>Q [] H
 | (tk,tv)::r,σ,H,Q=>tk σ H λx H1=>tv σ H1 λy H2=>oB r σ H2 λps H3=>Q ((x,y)::ps) H3
abbrev VV:List (V×V)->List (Io×Io)->Prop:=Paired λp q=>au p.1 q.1/\au p.2 q.2
def nr(X:Cx)(pos:Pos)(keys:List (Option Iu))(values:List Iu)(trs:List (TE×TE)):Prop:=
 ∀(JI:List (Ip×Obj))(s:Iq)(σ:St)(H:Hp)(Q:List (V×V)->Hp->Prop),aa X JI σ H s->oB trs σ H Q->
  Iz (Iy X.prog X.w) X.A (evalPairs (pairTrees keys values X.env pos)) (λvs s'=>∃ps H',aa X JI σ H' s'/\VV ps vs/\Q ps H') X.xe s
theorem Au{X:Cx}{pos:Pos}:nr X pos [] [] []:=λJI s σ H Q I h=>pairTrees_nil_walk ⟨[],H,I,.nil,h⟩
theorem Av{X:Cx}{pos:Pos}{k v:Iu}{ks:List (Option Iu)}{vs:List Iu}{tk tv:TE}{trs:List (TE×TE)}(hk:PE X k tk)(hv:PE X v tv)(hr:nr X pos ks vs trs):
 nr X pos (some k::ks) (v::vs) ((tk,tv)::trs):=λJI s σ H Q I h=>
 pairTrees_cons_walk (ak (hk JI s σ H _ I h) λu s1 ⟨x,H1,I1,rx,q1⟩=>ak (hv JI s1 σ H1 _ I1 q1) λw2 s2 ⟨y,H2,I2,ry,q2⟩=>
  ak (hr JI s2 σ H2 _ I2 q2) λws s3 uu42=>by obtain⟨ps,H3,I3,rel,q3⟩:=uu42;exact⟨(x,y)::ps,H3,I3,.cons ⟨rx,ry⟩ rel,q3⟩)
def kZ(kvs more:List (ao×V)):List (ao×V):=more.foldl (λacc kv=>kn acc kv.1 kv.2) kvs
theorem KV.merge:∀{more:List (ao×V)}{rs:List (ao×Io)}{kvs:List (ao×V)}{vs:List (ao×Io)},KV more rs->KV kvs vs->KV (kZ kvs more) (merged vs rs):=by
 intro more rs kvs vs r;unfold KV at r
 induction r generalizing kvs vs with
 | nil=>intro q;exact q
 | @cons p q ps qs h t ih=>
  intro r0;have e:KV (kn kvs p.1 p.2) (stored vs q.1 q.2):=by
   have:=r0.put p.1 h.2;rw [<-h.1];exact this
  exact ih e
theorem t9:∀(more kvs:List (ao×V)),(kZ kvs more).length<=kvs.length+more.length
 | [],kvs=>by show kvs.length<=kvs.length+0;omega
 | p::r,kvs=>by
  have h1:=t9 r (kn kvs p.1 p.2);have h2:=Ak kvs p.1 p.2;show(kZ (kn kvs p.1 p.2) r).length<=_;rw [Dp];omega
theorem ua{P:IE}{w:IF}:∀{kvs:List (ao×V)}{ws:List (Io×Io)},VV (kvs.map λkv=>(kV kv.1,kv.2)) ws->∃rs,Carries (j8 P w) ws rs/\KV kvs rs
 | [],_,r=>by rw [DQ] at r;cases r;exact⟨[],EU,.nil⟩
 | p::kvs,_,r=>by
  rw [Dq] at r;cases r with
  | @cons a b as bs h t=>
   obtain⟨rs,c,q⟩:=ua (P:=P) (w:=w) t;obtain⟨b1,b2⟩:=b;exact⟨(p.1,b2)::rs,⟨Al h.1,rfl,c⟩,.cons ⟨rfl,h.2⟩ q⟩
def Aw(trs:List (TE×TE)):TE:=λσ H Q=>∀p,H p=none->oB trs σ (ah H p (.dK [])) λps H2=>H2 p=some (.dK [])/\∃kvs:List (ao×V),ps=kvs.map (λkv=>(kV kv.1,kv.2))/\kvs.length<=15/\Q (.ref p) (ah H2 p (.dK (kZ [] kvs)))
theorem Ax{X:Cx}{pos:Pos}{keys:List (Option Iu)}{values:List Iu}{trs:List (TE×TE)}(h:nr X pos keys values trs)(hall:keys.all (·.isSome)=true)(hl:keys.length=values.length)(h0:keys≠[])
 (h15:keys.length<=15):PE X (.Dict keys values pos) (Aw trs):=by
 intro JI s σ H Q I q;have hn:=I.hok.fresh (Dz s.heap.objs.size);have I1:=I.laid (a:=s.heap.objs.size) (o:= .dK []) (h':=s.heap.push {cls:= .type "dict",data:= .dict #[]}) (t':=s.toks) (λ_ _ q=>Dr _ q) (Dz _) (t8 s.heap I.big);refine wpAny_Dict_walk (knd:=j8 X.prog X.w) hall hl h0 h15 (ak (h JI _ σ _ _ I1 (q _ hn)) λws s2 ⟨ps,H2,I2,rel,e,kvs,ep,lk,q2⟩=>?_);subst ep;obtain⟨rs,c,rk⟩:=ua (P:=X.prog) (w:=X.w) rel;obtain⟨z,hd,vs0,r0,dd⟩:=Ao I2.hok e;cases r0;refine⟨rs,c,dd,λh' dd' hs=>⟨.ref s.heap.objs.size,_,?_,rfl,q2⟩⟩;have hz:(kZ [] kvs).length<=Ir:=by
  have h1:=t9 kvs [];rw [DJ] at h1;rw [IG];omega
 have he:∃q,h'.get? s.heap.objs.size=some q:=let ⟨q,_,_,hq,_⟩:=dd';⟨q,hq⟩
 exact Ap I2 (by rw [e];exact EU) hs he (Aq hz hd (rk.merge .nil) dd')
section
variable {X:Cx} {H0:Hp} {O0:Ex}
def fw(a b c d:Str)(t:DT):DT:=λδ Q=>t δ λy=>(y= .str a/\Q (.str c))\/(y= .str b/\Q (.str d))
def litsOf:List Iu->Option (List Im)
 | []=>some []
 | .Constant (.int i) _ _::r=>(litsOf r).map (.int i::·)
 | .Constant (.str x) _ _::r=>(litsOf r).map (.str x::·)
 | _::_=>none
def cu(ds:List Im):DA:=λ_ Q=>Q ds
theorem oC:∀{es:List Iu}{ds:List Im},litsOf es=some ds->PA X es (j4 X.K H0 O0 (cu ds))
 | [],ds,h=>by cases h;exact ar
 | e::r,ds,h=>by
  cases e with
  | Constant c j p=>
   cases c with
   | int i=>
    have h':(litsOf r).map (.int i::·)=some ds:=h;cases q:litsOf r with
    | none=>rw [q] at h';cases h'
    | some ms=>rw [q] at h';cases h';exact ae ag (oC q)
   | str x=>
    have h':(litsOf r).map (.str x::·)=some ds:=h;cases q:litsOf r with
    | none=>rw [q] at h';cases h'
    | some ms=>rw [q] at h';cases h';exact ae bK (oC q)
   | _=>cases h
  | _=>cases h
def litsE:Iu->Option (List Im)
 | .List es _=>litsOf es
 | _=>none
theorem Ay{e:Iu}{ds:List Im}(h:litsE e=some ds):FE X H0 O0 e (cj (cu ds)):=by
 cases e with
 | List es p=>exact jY (oC h)
 | _=>cases h
end
def qD(z:Str):It:=⟨λi _=>i < z.cps.size,λi H x H'=>H'=H/\∃c,z.cps[i]?=some c/\x= .str ⟨#[c]⟩,λi _=>z.cps.size<=i⟩
theorem Az(z:Str):["enumerate","zip","dict_itemiterator","dict_reverseitemiterator","odict_iterator","itertools.zip_longest","itertools.pairwise"].contains (Jt z)=false:=by
 unfold Jt;split <;> decide
theorem uc{P:IE}{w:IF}{A:IH}(hh:A.handled=none)(I:Ip)(z:Str)(t:Tok):Walks P w A I [I] [I] z.cps.size (SignAt z) (λi h=>h.IsStrIter I (Jt z) z t i):=by
 unfold Jt;split
 ·exact Walks.strAscii hh I z t
 ·exact Walks.strWide hh I z t
theorem AA{P:IE}{w:IF}{K:Dj}{tg:Iu}(it:Ip)(z:Str)(t:Tok):nS P w K tg (qD z) [it] it (λi h=>h.IsStrIter it (Jt z) z t i/\i<=z.cps.size) where
 mem:=Il
 obj:=λi h st b hb=>by
  have e:b=it:=by simpa using hb
  subst e;obtain⟨⟨o,e,c,d⟩,_⟩:=st;exact⟨o,e,λv z=>by rw [d] at z;cases z⟩
 keep:=λi h h' st k=>by
  obtain⟨⟨o,e,c,d⟩,l⟩:=st;exact⟨⟨o,k it Il o e,c,d⟩,l⟩
 item:=by
  intro X hP hw hK hc i JI s σ H E I hf st hg;subst hP hw hK;obtain⟨f0,f1,f2,f3,f4,f5⟩:=hf it Il;have W:=uc (P:=X.prog) (w:=X.w) (I.ok.hd hc) it z t;refine W.item i s _ _ hg st.1 λv h' tk hv st' kk=>?_;obtain⟨c,u,hc',rfl⟩:=hv;have I1:aa X JI σ H {s with heap:=h',toks:=tk}:=I.turned (λb o hb e=>kk b o (by simpa using hb) e) f0 f1 f3 f4 f5;obtain⟨o,e,cc,d⟩:=id st';exact⟨_,rfl,pL (s:={s with heap:=h',toks:=tk}) e cc d (Az z) ⟨.str ⟨#[c]⟩,H,I1,⟨u,rfl⟩,⟨rfl,c,hc',rfl⟩,⟨st',hg⟩,λb hb=>(hf b hb).1⟩⟩
 done:=by
  intro X hP hw hK hc i JI s σ H E I hf st hg;subst hP hw hK;obtain⟨f0,f1,f2,f3,f4,f5⟩:=hf it Il;have W:=uc (P:=X.prog) (w:=X.w) (I.ok.hd hc) it z t;have e:i=z.cps.size:=HH st.2 hg;subst e;exact W.done s _ _ st.1 λh' tk eb=>⟨rfl,I.turned (λb o hb e=>eb b o (by simpa using hb) e) f0 f1 f3 f4 f5⟩
 self:=λA i s Q E st h=>by
  obtain⟨st,_⟩:=st
  revert st
  unfold Jt;split
  ·exact λst=>wpAny_pyIter_striter_ascii st h
  ·exact λst=>wpAny_pyIter_striter_wide st h
def AB(tl:TE):TI:=λσ H R=>tl σ H λx H1=>∃z,x= .str z/\R (qD z) H1
theorem AD{X:Cx}{tg l:Iu}{tl:TE}(hl:PE X l tl):PI X tg l (AB tl):=by
 intro JI s σ H R I h;refine ak (hl JI s σ H _ I h) λv s1 ⟨x,H1,I1,r1,q1⟩=>?_;obtain⟨z,e,q⟩:=q1;subst e;obtain⟨t,rfl⟩:=r1;refine wpAny_pyIter_strU ?_;refine⟨s1.heap.objs.size,[s1.heap.objs.size],_,_,H1,rfl,I1.kept (t':=s1.toks) λb o e=>Dr _ e,AA _ z t,⟨⟨_,EW _ rfl,rfl,rfl⟩,Fq _⟩,λb hb=>?_,q⟩;have e:b=s1.heap.objs.size:=by simpa using hb
 subst e;exact I1.fpOk (Dz _) (I1.hok.fresh (Dz _))
def oE(z:Str):List Im:=z.cps.toList.map λc=>.str ⟨#[c]⟩
theorem ue(z:Str):(oE z).length=z.length:=by unfold oE;rw [E1,ED];rfl
theorem jM.str{z:Str}:jM (qD z) (λ_=>True) (z.cps.toList.map λc=>V.str ⟨#[c]⟩):=by
 refine⟨λi H' s hi=>(by simpa using hi:i < z.cps.size),λi H' x H'' s hi y=>⟨y.1,?_⟩,λi H' s hi=>(by simpa using hi:z.cps.size<=i)⟩;obtain⟨_,c,hc,rfl⟩:=y;simp [hc]
theorem aj.signs{K:Dj}{H:Hp}{O:Ex}:∀(l:List Nat),aj K H O (l.map λc=>V.str ⟨#[c]⟩) (l.map λc=>Dw ⟨#[c]⟩)
 | []=>.nil
 | n::r=>.cons (.str _) (aj.signs r)
section
variable {X:Cx} {H0:Hp} {O0:Ex}
def dM(t:DT)(g:DG)(tc:DB)(te:DT)(k:Nat)(fr:List Nat):DA:=λδ Q=>t δ λd=>∃z,d= .str z/\z.length<=Ir/\kK g tc te (aP k fr δ) (oE z) Q
def dN(ta:DA)(g:DG)(tc:DB)(te:DT)(k:Nat)(fr:List Nat):DA:=λδ Q=>ta δ λds=>∃i j:Int,ds=[.int i,.int j]/\-(2 ^ 62)<=i/\j - i < Ir/\i < 2 ^ 62/\-(2 ^ 62)<=j/\j < 2 ^ 62/\kK g tc te (aP k fr δ) (kl i (j - i).toNat) Q
section
variable {tg iter elt:Iu} {ifs:List Iu} {scope:IU} {N':List Str} {k:Nat} {fr:List Nat} {g:TG} {dg:DG} {t:DT} {ta:DA} {tc:DB} {te:DT} {pos p ps:Pos}
theorem AE(hc:X.calm=true)(S:jv X.env.scope X.N N' k fr scope)(hi:DF X H0 O0 iter t)(gd:GD X.K g dg)(hk:mZ g k)(hfr:fr.Nodup)
 (hg:∀fp C s H,PG (bJ X scope N' fp C s H) tg g)(hf:∀fp C s H,kC (bJ X scope N' fp C s H) ifs (bF X.K H0 O0 tc))(he:∀fp C s H,PE (bJ X scope N' fp C s H) elt (up X.K H0 O0 te))
 (hs:∀x,IZ iter X.env x=pure x:=by intro _;rfl):FE X H0 O0 (.ListComp elt [⟨tg,iter,ifs,0⟩] scope pos) (dM t dg tc te k fr):=
 (mS hc S (AD hi) hg hf he hs).imp λσ H Q uu45=>by obtain⟨O,δ,Qd,w,q,kk⟩:=uu45;exact⟨O,δ,_,w,q,λd v H1 uu46 s1 r1=>by
  obtain⟨z,e,hz,q1⟩:=uu46;subst e;cases r1.str;have hz':(z.cps.toList.map λc=>V.str ⟨#[c]⟩).length<=Ir:=by rw [E1,ED];exact hz
  exact⟨z,rfl,λD hD=>qz (P:=λ_=>True) jM.str gd hfr (λv _ H' R h=>hk fr σ v H' R h) (λ_ _ _ z=>z) (λ_ _ _ z=>z) (λ_ _ _ _=>trivial) (aj.signs _) (w.mono s1) hz' q1 (λds us p H' z s' hp r'=>kk ds us p H' z (s1.trans s') hp r') D hD⟩⟩
theorem AF(hc:X.calm=true){a b:Iu}(S:jv X.env.scope X.N N' k fr scope)(hgl:Gl X "range")(hm:X.mg "range"=none)(ha:PA X [a,b] (kI X.K H0 O0 ta))(gd:GD X.K g dg)(hk:mZ g k)(hfr:fr.Nodup)
 (hg:∀fp C s H,PG (bJ X scope N' fp C s H) tg g)(hf:∀fp C s H,kC (bJ X scope N' fp C s H) ifs (bF X.K H0 O0 tc))(he:∀fp C s H,PE (bJ X scope N' fp C s H) elt (up X.K H0 O0 te))
 (hst:Iw [a,b] X.env=[(false,eval a X.env),(false,eval b X.env)]:=by rfl)(hst2:Iw [b] X.env=[(false,eval b X.env)]:=by rfl)(hs:∀x,IZ (.Call (.Name "range" p) [a,b] [] ps) X.env x=pure x:=by intro _;rfl):
 FE X H0 O0 (.ListComp elt [⟨tg,(.Call (.Name "range" p) [a,b] [] ps),ifs,0⟩] scope pos) (dN ta dg tc te k fr):=
 (mS hc S (sC hgl hm ha hst hst2) hg hf he hs).imp λσ H Q uu47=>by obtain⟨O,δ,Qd,w,q,kk⟩:=uu47;exact⟨O,δ,_,w,q,λds vs H1 uu48 s1 r1=>by
  obtain⟨i,j,e,b1,b2,b3,b4,b5,q1⟩:=uu48;subst e;cases r1 with
  | cons r1 r2=>
   cases r2 with
   | cons r2 r3=>
    cases r3;cases r1.int;cases r2.int;exact⟨i,j,rfl,⟨b1,b3,b4,b5⟩,λD hD=>qz (P:=λ_=>True) jM.rng gd hfr (λv _ H' R h=>hk fr σ v H' R h) (λ_ _ _ z=>z) (λ_ _ _ z=>z) (λ_ _ _ _=>trivial) (aj.rng _) (w.mono s1) (by rw [E1,Ht];omega) q1 (λds us p H' z s' hp r'=>kk ds us p H' z (s1.trans s') hp r') D hD⟩⟩
end
def fx(neg:Bool):Im->Im->(Im->Prop)->Prop:=λx y Q=>∃ds,(y= .list ds\/y= .tuple ds)/\bj x/\F3 ds=true/\Q (.bool (if neg then !(ds.any λd=>DL d x) else ds.any λd=>DL d x))
def dO:List Im->(Im->Prop)->Prop:=λds Q=>∃z:Str,ds=[.str z]/\z.length<=Ir/\Q (.int z.length)
theorem mw{K:Dj}:kj K (λxs H Q=>∃z,xs=[.str z]/\z.length<=Ir/\Q (.int z.length) H) dO:=λH O xs ds Qd R _ hs uu49 k=>by
 obtain⟨z,e,hz,q⟩:=uu49;subst e;cases hs with
 | cons h r=>cases r;cases h.str;exact⟨z,rfl,hz,k _ _ H q (ai.refl _) (.int _)⟩
def fy:Im->Im->(Im->Prop)->Prop:=λx y Q=>∃i j:Str,x= .str i/\y= .str j/\Q (.bool (decide (i.cps.toList < j.cps.toList)))
def dP:Im->Im->(Im->Prop)->Prop:=λx y Q=>∃i j:Str,x= .str i/\y= .str j/\Q (.bool (!(Fb j i 0 j.length 1).isEmpty))
theorem AG{K:Dj}:bw K (λx y H Q=>∃i j,x= .str i/\y= .str j/\Q (.bl (!(Fb j i 0 j.length 1).isEmpty)) H) dP:=λH O x y dx dy Qd R _ hx hy uu50 k=>by
 obtain⟨i,j,e1,e2,q⟩:=uu50;subst e1 e2;cases hx.str;cases hy.str;exact⟨i,j,rfl,rfl,k _ _ H q (ai.refl _) (.bl _)⟩
def fz(t:DT)(tl th:DO):DT:=λδ Q=>t δ λd=>tl δ λl=>th δ λu=>∃xs,d= .tuple xs/\Q (.tuple (da xs l u))
def AH(a b:Str):Bool:=decide (a.cps.toList<=b.cps.toList)
def qE(l:List Str):List Str:=l.mergeSort AH
theorem aj.ofStrs{K:Dj}{H:Hp}{O:Ex}:∀(ss:List Str),aj K H O (ss.map V.str) (ss.map Dw)
 | []=>.nil
 | s::r=>.cons (.str s) (aj.ofStrs r)
def fA(t:DA):DA:=λδ Q=>t δ λds=>∃ss:List Str,ds=[.list (ss.map .str)]/\ss.length < 64/\Q ((qE ss).map .str)
end
end L2
namespace PySem.SeqAt
open AutoSeq1 (wpAny_loadPart')
open MeetsSeq
theorem AI(l:Ip)(es:Array Jx)(n:Nat)(dd:Option Ip)(sl:Array (Option Io))(b:Str)(u:Tok):
 Meets (Builtin.«dict.__eq__» ⟨[.ref l,.str b u],[]⟩) (λ_ R s=>s.heap.get? l=some {cls:= .type "dict",dict:=dd,data:= .dict es n,slots:=sl}/\R (.ok (.ret .notImplemented)) s):=
 .of_wp λprog w A R s h=>by obtain⟨hp,g,d,tk,os⟩:=s;obtain⟨hl,h⟩:=h;have f1:=F.sub_str_dict;wp_walk using IV hl;exact⟨_,rfl,h⟩
theorem AJ(b:Str)(u:Tok)(l:Ip)(c:Io)(es:Array Jx)(n:Nat)(dd:Option Ip)(sl:Array (Option Io)):
 Meets (Builtin.«str.__eq__» ⟨[.str b u,.ref l],[]⟩) (λ_ R s=>s.heap.get? l=some {cls:=c,dict:=dd,data:= .dict es n,slots:=sl}/\R (.ok (.ret .notImplemented)) s):=
 .of_wp λprog w A R s h=>by obtain⟨hp,g,d,tk,os⟩:=s;obtain⟨hl,h⟩:=h;wp_walk using IV hl,wpAny_load hl;exact⟨_,rfl,h⟩
section
variable {A:IH} {s:Iq}
theorem RcAt.dict_str{l:Ip}{es:Array Jx}{n:Nat}{o:Obj}(b:Str)(u:Tok)(ho:s.heap.get? l=some o)(hc:o.cls= .type "dict")(hd:o.data= .dict es n)(hu:A.units < cLine):RcAt A s (.ref l) (.str b u) false:=λprog w E Q h=>by
 obtain⟨cls,dd,data,sl⟩:=o;simp only at hc hd;subst hc hd;exact rc_eq_decline_or (k:=false) ⟨_,ho,rfl⟩ (Jb s b u) Ce F.sub_str_dict F.slot_dict_eq F.slot_str_eq_refl
  (λ_ hq=>Jl F.slot_dict_eq ⟨_,ho,rfl⟩ F.entry_dict_eq (F.args_dict_eq_2 _ _) (AI l es n dd sl b u) ⟨ho,hq⟩)
  (λ_ hq=>Jl F.slot_str_eq_refl (Jb s b u) F.entry_str_eq (F.args_str_eq_2 _ _) (AJ b u l (.type "dict") es n dd sl) ⟨ho,hq⟩)
  (λ_ hq=>wpAny_of_eq (rfl:isSame (.ref l) (.str b u)=pure false) hq) (.inr hu) h
end
end PySem.SeqAt
namespace L2
open PySem PySem.Spec PyProof.Rows PySem.W
section
variable {X:Cx} {JI:List (Ip×Obj)} {σ:St} {H:Hp} {s:Iq}
def cw:Im->Bool
 | .dict [(.none,_)]=>false
 | _=>true
theorem AK(I:aa X JI σ H s){O:Ex}{v:V}{d:Im}{u:Io}(h:Dt X.K H O v d)(ht:cw d=true)(r:au v u)(y:Str)(t:Tok)(hu:X.A.units < cLine):SeqAt.RcAt X.A s u (.str y t) (DL d (.str y)):=by
 cases h with
 | non=>cases (show u=Ge from r);simpa [DL] using SeqAt.RcAt.none_str y t
 | bl b=>cases (show u=Fy b from r);simpa [DL] using SeqAt.RcAt.bool_str b y t
 | int i=>obtain⟨k,e⟩:=(show ∃t,u=F9 i t from r);cases e;simpa [DL] using SeqAt.RcAt.int_str i k y t
 | str x=>obtain⟨k,e⟩:=(show ∃t,u=Ga x t from r);cases e;simpa [DL] using SeqAt.RcAt.str_str x k y t
 | @tup a xs ds h n rr=>
  cases (show u=DC a from r);obtain⟨its,rv,p,_⟩:=I.tuple (.inl h);simpa [DL] using G8 y t (show s.heap.IsTuple a its.toArray from p) hu
 | @tupK a xs ds h rr=>
  cases (show u=DC a from r);obtain⟨its,rv,p,_⟩:=I.tuple h.of0;simpa [DL] using G8 y t (show s.heap.IsTuple a its.toArray from p) hu
 | @lst a xs ds h n rr=>
  cases (show u=DC a from r);obtain⟨its,rv,p,_⟩:=I.list (.inl h);simpa [DL] using SeqAt.RcAt.list_str y t p.isList hu
 | pack h n=>exact absurd ht (by simp [cw])
 | purse h n=>exact absurd ht (by simp [cw])
 | scr h r=>exact absurd ht (by simp [cw])
 | obj h e n r=>exact absurd ht (by simp [cw])
 | @dct0 a h n=>
  cases (show u=DC a from r);obtain⟨_,_,_,_,o,es,ep,e,c,dd,_⟩:=(show aE X.prog X.w H s.heap a (.dK []) from I.hok a _ h);simpa [DL] using SeqAt.RcAt.dict_str y t e c.1 dd hu
 | @dic a ob kv ks kp ds h e1 e2 n rr=>
  cases (show u=DC a from r);obtain⟨_,_,_,_,o,es,ep,e,c,dd,_⟩:=(show aE X.prog X.w H s.heap a (.dK kv) from(I.hok a _ h).2);simpa [DL] using SeqAt.RcAt.dict_str y t e c.1 dd hu
end
section
variable {X:Cx} {H0:Hp} {O0:Ex}
def uf(K:Dj):R2:=λx y H Q=>∃O dx z,Dt K H O x dx/\cw dx=true/\y= .str z/\Q (.bl (DL dx (.str z))) H
theorem ug{k:Nat}(hr:aU k X.A):aI X (IJ .Eq) (uf X.K):=by
 intro JI s σ H x y v u Q I rx ry h;obtain⟨O,dx,z,hx,ht,rfl,q⟩:=h;obtain⟨t,rfl⟩:=ry;have hc:IJ .Eq v (.str z t)=richCompare .Eq v (.str z t):=rfl;rw [hc];exact AK I hx ht rx z t hr.units0 X.prog X.w X.xe _ (aT I q rfl)
def bN:Im->Im->(Im->Prop)->Prop:=λx y Q=>∃z,y= .str z/\cw x=true/\Q (.bool (DL x (.str z)))
theorem uh{K:Dj}:bw K (uf K) bN:=λH O x y dx dy Qd R _ hx hy uu51 k=>by
 obtain⟨z,e,ht,q⟩:=uu51;subst e;cases hy.str;exact⟨_,dx,z,hx.all,ht,rfl,k _ _ H q (ai.refl _) (.bl _)⟩
def fB:Im->Im->(Im->Prop)->Prop:=λx y Q=>∃zs:List Str,y= .tuple (zs.map .str)/\cw x=true/\Q (.bool (zs.any λz=>DL (.str z) x))
end
theorem bt{z:Int}{Q:Im->Prop}:t7 [kF,.int z] Q↔(0 < z/\z<=1000000/\∀i:Int,0<=i->i < z->Q (.int i)):=by
 constructor
 ·rintro⟨z',e,a,b,c⟩;simp only [Dy,Ea,and_true,true_and] at e;subst e;exact⟨a,b,c⟩
 ·rintro⟨a,b,c⟩;exact⟨z,rfl,a,b,c⟩
def ui:Im->Bool | .str _=>true | _=>false
def uj:Im->Bool | .int _=>true | .bool _=>true | _=>false
def uk:Im->Bool | .bool _=>true | _=>false
theorem AL{K:Dj}(d:Im):kitOne K (.type (nk d)) (.type "str")=some (ui d):=by cases d <;> rfl
theorem AM{K:Dj}(d:Im):kitOne K (.type (nk d)) (.type "int")=some (uj d):=by cases d <;> rfl
theorem AN{K:Dj}(d:Im):kitOne K (.type (nk d)) (.type "bool")=some (uk d):=by cases d <;> rfl
mutual
def nu:Im->Bool
 | .dict []=>true
 | .dict (_::_)=>false
 | .str z=>decide (z.length<=1000)
 | .tuple l=>qF l
 | .list l=>qF l
 | .none=>true
 | .bool _=>true
 | .int _=>true
def qF:List Im->Bool
 | []=>true
 | d::r=>nu d && qF r
end
theorem AO{d:Im}(h:nu d=true):∀x,d≠ .dict [(.none,x)]:=by
 rintro x rfl;simp [nu] at h
def oF:Im->Bool | .int _=>true | _=>false
def mx:Im->Bool | .int i=>decide (0<=i) && decide (i<=99999) | _=>false
theorem qG{g:DG}{te:DT}{δ0:Dl}{xs:List Im}{Q:List Im->Prop}(f:Im->Im)
 (h:∀x∈xs,∀R:Im->Prop,R (f x)->g x δ0 λδ2=>te δ2 R)(q:Q (xs.map f)):kK g bR te δ0 xs Q:=by
 refine⟨λi acc=>acc=(xs.take i).map f,rfl,?_,?_⟩
 ·rintro i x acc hx rfl;have:=h x (Gh hx) (λy=>(xs.take i).map f++[y]=(xs.take (i+1)).map f) (by rw [List.take_succ,hx];simp);simpa [bR] using this
 ·rintro acc rfl;rw [F6 (Dz _)];exact q
theorem AQ{g:DG}{te:DT}{δ0:Dl}{xs:List Im}{p:Bool->Prop}{gg:List Bool->Bool}(f:Im->Bool)
 (h:∀x∈xs,∀R:Im->Prop,R (.bool (f x))->g x δ0 λδ2=>te δ2 R)(q:p (gg (xs.map f))):kK g bR te δ0 xs λds=>∃bs:List Bool,ds=bs.map GX/\p (gg bs):=
 qG (λx=>.bool (f x)) h ⟨xs.map f,by rw [Gj];rfl,q⟩
theorem fC{a:Str}{P:List Str->Prop}:(∃zs,[Dw a]=FT Dw zs/\P zs)↔P [a]:=by
 refine⟨λ⟨zs,e,h⟩=>?_,λh=>⟨_,rfl,h⟩⟩
 match zs,e with
 | [x],e=>simp at e;rw [e];exact h
theorem fD{a b:Str}{P:List Str->Prop}:(∃zs,[Dw a,Dw b]=FT Dw zs/\P zs)↔P [a,b]:=by
 refine⟨λ⟨zs,e,h⟩=>?_,λh=>⟨_,rfl,h⟩⟩
 match zs,e with
 | [x,y],e=>simp at e;rw [e.1,e.2];exact h
theorem fE{a b c:Str}{P:List Str->Prop}:(∃zs,[Dw a,Dw b,Dw c]=FT Dw zs/\P zs)↔P [a,b,c]:=by
 refine⟨λ⟨zs,e,h⟩=>?_,λh=>⟨_,rfl,h⟩⟩
 match zs,e with
 | [x,y,z],e=>simp at e;rw [e.1,e.2.1,e.2.2];exact h
theorem fF{x:Str}:cw (.str x)=true:=rfl
theorem fG{x:Int}:cw (.int x)=true:=rfl
theorem fH{x:Bool}:cw (.bool x)=true:=rfl
theorem fJ{x:List Im}:cw (.tuple x)=true:=rfl
theorem fK{x:List Im}:cw (.list x)=true:=rfl
def units:List Str:=["days","months","years"]
theorem fL{a:Im}{l:List Im}:da (a::l) (some 1) none=l:=by
 rw [oA Ce (by simp only [Dp];omega)];rfl
theorem fM{a b:Im}{l:List Im}:da (a::b::l) (some 2) none=l:=by
 rw [oA Ce (by simp only [Dp];omega)];rfl
theorem fN{a b c:Im}{l:List Im}:da (a::b::c::l) (some 3) none=l:=by
 rw [oA Ce (by simp only [Dp];omega)];rfl
theorem fO{a b c d:Im}{l:List Im}:da (a::b::c::d::l) (some 4) none=l:=by
 rw [oA Ce (by simp only [Dp];omega)];rfl
theorem fP{a:Im}{l:List Im}:da (a::l) none (some 1)=[a]:=by
 rw [oz Ce (by simp only [Dp];omega)];rfl
theorem fQ{a b:Im}{l:List Im}:da (a::b::l) none (some 2)=[a,b]:=by
 rw [oz Ce (by simp only [Dp];omega)];rfl
theorem fR{a b c:Im}{l:List Im}:da (a::b::c::l) none (some 3)=[a,b,c]:=by
 rw [oz Ce (by simp only [Dp];omega)];rfl
theorem fS{a b c d:Im}{l:List Im}:da (a::b::c::d::l) none (some 4)=[a,b,c,d]:=by
 rw [oz Ce (by simp only [Dp];omega)];rfl
theorem fT{a b c:Im}{l:List Im}:da (a::b::c::l) (some 1) (some 3)=[b,c]:=by
 unfold da;rw [oy Ce (by simp only [Dp];omega),oy Ce (by simp only [Dp];omega)];rfl
end L2
namespace PySem
open Builtin
open AutoSeq1 (wpAny_loadPart')
end PySem
namespace L2
open PySem PySem.Spec PyProof.Rows PySem.W
section
variable {X:Cx} {H0:Hp} {O0:Ex}
def fU:Im->Im->(Im->Prop)->Prop:=λx y Q=>∃xs,x= .tuple xs/\y= .int 2/\xs≠[]/\xs.length<=1000/\Q (.tuple (xs++xs))
def dQ:DT:=λ_ Q=>Q (.dict [])
theorem AR{pos:Pos}:DE X H0 O0 (.Dict [] [] pos) dQ:=As.imp λσ H Q uu55=>by obtain⟨O,δ,Qd,w,q,k⟩:=uu55;exact λp hp=>k _ _ _ q (ai.new hp) (.dct0 aD (qw w (ai.refl _) hp))
def fV(t:DT):DT:=λδ Q=>t δ λd=>∃i,d= .int i/\Q (.int (-i))
def fW(t:DT):DT:=λδ Q=>t δ λd=>∃z:Str,d= .str z/\z.length<=1000000/\Q (.str (Txt.upper z))
def fX(t:DT):DT:=λδ Q=>t δ λd=>∃xs,d= .tuple xs/\Q (.tuple xs.reverse)
end
theorem fY{xs:List Im}:da xs none (some (-1))=xs.dropLast:=by
 unfold da;rw [n4];have e:HT.sIx xs.length xs.length (some (-1))=xs.length - 1:=by
  simp only [HT.sIx];rw [Ij Ce];omega
 rw [e,List.drop_zero,Nat.sub_zero,List.dropLast_eq_take]
section
variable {x:Option Iu} {n:Nat} {env:Env}
theorem um{a b}:Jd (.List a b) x n env=pure false:=rfl
theorem AS{a b c}:Jd (.Tuple a b c) x n env=pure false:=rfl
theorem qH{a b c d}:Jd (.BinOp a b c d) x n env=pure false:=rfl
theorem my{a b c d}:Jd (.Call a b c d) x n env=pure false:=rfl
theorem oG{a b c}:Jd (.Subscript a b c) x n env=pure false:=rfl
end
section
variable {X:Cx} {H0:Hp} {O0:Ex}
def fZ(F:List Im->(List Im->Prop)->Prop)(t:DA):DA:=λδ Q=>t δ λds=>F ds Q
end
section
variable {X:Cx} {H0:Hp} {O0:Ex}
def gb(t:DA):DA:=λδ Q=>t δ λds=>ds.length<=1000/\Q (ds++ds)
end
theorem gc:(Dk "paper"==Dk "happens")=false:=td
theorem gf:(Dk "paper"==Dk "rule")=false:=td
theorem gh:(Dk "paper"==Dk "end")=false:=td
theorem gi:(Dk "paper"==Dk "hold")=false:=td
theorem gj:(Dk "paper"==Dk "lift")=false:=td
theorem gk:(Dk "paper"==Dk "leave")=false:=td
theorem gm:(Dk "happens"==Dk "paper")=false:=td
theorem gn:(Dk "happens"==Dk "rule")=false:=td
theorem gp:(Dk "happens"==Dk "end")=false:=td
theorem gq:(Dk "happens"==Dk "hold")=false:=td
theorem gr:(Dk "happens"==Dk "lift")=false:=td
theorem gs:(Dk "happens"==Dk "leave")=false:=td
theorem gu:(Dk "rule"==Dk "paper")=false:=td
theorem gw:(Dk "rule"==Dk "happens")=false:=td
theorem gx:(Dk "rule"==Dk "end")=false:=td
theorem gy:(Dk "rule"==Dk "hold")=false:=td
theorem gz:(Dk "rule"==Dk "lift")=false:=td
theorem gA:(Dk "rule"==Dk "leave")=false:=td
theorem gB:(Dk "end"==Dk "paper")=false:=td
theorem gC:(Dk "end"==Dk "happens")=false:=td
theorem gD:(Dk "end"==Dk "rule")=false:=td
theorem gE:(Dk "end"==Dk "hold")=false:=td
theorem gF:(Dk "end"==Dk "lift")=false:=td
theorem gG:(Dk "end"==Dk "leave")=false:=td
theorem gH:(Dk "hold"==Dk "paper")=false:=td
theorem gI:(Dk "hold"==Dk "happens")=false:=td
theorem gJ:(Dk "hold"==Dk "rule")=false:=td
theorem gK:(Dk "hold"==Dk "end")=false:=td
theorem gL:(Dk "hold"==Dk "lift")=false:=td
theorem gM:(Dk "hold"==Dk "leave")=false:=td
theorem gN:(Dk "lift"==Dk "paper")=false:=td
theorem gO:(Dk "lift"==Dk "happens")=false:=td
theorem gP:(Dk "lift"==Dk "rule")=false:=td
theorem gQ:(Dk "lift"==Dk "end")=false:=td
theorem gR:(Dk "lift"==Dk "hold")=false:=td
theorem gS:(Dk "lift"==Dk "leave")=false:=td
theorem gT:(Dk "leave"==Dk "paper")=false:=td
theorem gU:(Dk "leave"==Dk "happens")=false:=td
theorem gW:(Dk "leave"==Dk "rule")=false:=td
theorem gX:(Dk "leave"==Dk "end")=false:=td
theorem gY:(Dk "leave"==Dk "hold")=false:=td
theorem gZ:(Dk "leave"==Dk "lift")=false:=td
section
variable {X:Cx} {H0:Hp} {O0:Ex}
def dR:List Im->(Im->Prop)->Prop:=λds Q=>∃i:Int,ds=[.int i]/\i.natAbs.log2 < 1920/\Q (.str (toString i))
theorem kO{K:Dj}:kj K (λxs H Q=>∃i,xs=[.int i]/\i.natAbs.log2 < 1920/\Q (.str (toString i)) H) dR:=λH O xs ds Qd R _ hs uu56 k=>by
 obtain⟨i,e,hz,q⟩:=uu56;subst e;cases hs with
 | cons h r=>cases r;cases h.int;exact⟨i,rfl,hz,k _ _ H q (ai.refl _) (.str _)⟩
theorem lO:cB X (.type "int") (λxs H Q=>∃(z:Str)(n:Int),xs=[.str z]/\F1 z=some n/\z.length<=640/\Q (.int n) H):=by
 intro JI s σ H xs us Q I r h;obtain⟨z,n,rfl,hn,hl,q⟩:=h;obtain⟨u,rfl,t,rfl⟩:=jK r;exact KIN.call_text hn hl ⟨.int n,H,I.tok _,⟨_,rfl⟩,q⟩
def dS:List Im->(Im->Prop)->Prop:=λds Q=>∃(z:Str)(n:Int),ds=[.str z]/\F1 z=some n/\z.length<=640/\Q (.int n)
theorem lP{K:Dj}:kj K (λxs H Q=>∃(z:Str)(n:Int),xs=[.str z]/\F1 z=some n/\z.length<=640/\Q (.int n) H) dS:=λH O xs ds Qd R _ hs uu57 k=>by
 obtain⟨z,n,e,hn,hl,q⟩:=uu57;subst e;cases hs with
 | cons h r=>cases r;cases h.str;exact⟨z,n,rfl,hn,hl,k _ _ H q (ai.refl _) (.int _)⟩
theorem AU:mR X "str.zfill" (λx xs H Q=>∃(z:Str)(i:Int),x= .str z/\xs=[.int i]/\PadOk i=true/\Q (.str (Txt.zfill z i)) H):=by
 intro JI s σ H x xs v us Q I rx rs h;obtain⟨z,i,rfl,rfl,hp,q⟩:=h;obtain⟨t,rfl⟩:=rx;obtain⟨u,rfl,t',rfl⟩:=jK rs;exact SC.zfill hp λt' k=>⟨.str _,H,I.tok _,⟨_,rfl⟩,q⟩
def dU(to t:DT):DT:=λδ Q=>to δ λx=>∃z:Str,x= .str z/\t δ λy=>∃i:Int,y= .int i/\PadOk i=true/\Q (.str (Txt.zfill z i))
theorem uo{o e:Iu}{to t:DT}{apos cpos:Pos}(ho:DE X H0 O0 o to)(ha:DE X H0 O0 e t)(hbase:Jh o "zfill" X.env (eval o X.env)=eval o X.env:=by rfl)
 (hfew:((IS cpos (Iw [e] X.env)).all (λx=>!x.1) && (backToKw cpos (Js [] X.env)).all (λx=>x.1.isSome) && decide ([e].length+([]:List Jn).length+(if ([]:List Jn).isEmpty then 0 else 1) < 30))=true:=by rfl)
 (hline:(apos.endLine==cpos.line)=true:=by rfl)(hst:Iw [e] X.env=(false,eval e X.env)::Iw [] X.env:=by rfl)(hplain:(IS cpos (Iw [] X.env)).any (·.1)=false:=by rfl):
 DE X H0 O0 (.Call (.Attribute o "zfill" apos) [e] [] cpos) (dU to t):=
 (n6 FH PySem.F.slot_str_zfill PySem.F.type_str_zfill AU ho (aw ha aK hst) hbase hfew hline hst hplain).imp λσ H Q uu58=>by obtain⟨O,δ,Qd,w,q,k⟩:=uu58;exact⟨O,δ,_,w,q,λx v H1 uu59 s1 r1=>by
  obtain⟨z,e,q1⟩:=uu59;subst e;cases r1;exact⟨rfl,O,δ,_,w.mono s1,q1,λy u H2 uu60 s2 r2=>by obtain⟨i,e,hz,q2⟩:=uu60;subst e;cases r2;exact⟨z,i,rfl,rfl,hz,k _ _ H2 q2 (s1.trans s2) (.str _)⟩⟩⟩
theorem uq:∀{l:List (Str×Tok)}{ys:List Str},l.map (·.1)=ys->az (ys.map V.str) (strValues l)
 | [],_,rfl=>.nil
 | (x,t)::r,_,rfl=>.cons ⟨t,rfl⟩ (uq (l:=r) rfl)
theorem AV:mR X "str.split" (λx xs H Q=>∃(z y:Str),x= .str z/\xs=[.str y]/\(y.length==0)=false/\z.length<=1000000/\∀p,H p=none->Q (.ref p) (ah H p (.lst ((Txt.split z y).map V.str)))):=by
 intro JI s σ H x xs v us Q I rx rs h;obtain⟨z,y,rfl,rfl,hy,hz,q⟩:=h;obtain⟨t,rfl⟩:=rx;obtain⟨u,rfl,t',rfl⟩:=jK rs;have hsl:(Ir:Nat)=16777216:=Ce
 have hle:=split_le z y;have hq:∀(l:List (Str×Tok))(k:Nat),l.map (·.1)=Txt.split z y->EP X JI σ Q (.ref s.heap.objs.size) {s with heap:=s.heap.push {cls:= .type "list",data:= .seq (strValues l).toArray},toks:=k}:=λl k e=>
  ⟨.ref _,_,I.laid (t':=k) (o:= .lst ((Txt.split z y).map V.str)) (λb ob q=>Dr _ q) (Dz _) ⟨by rw [E1];omega,_,0,uq e,EW _ rfl⟩,rfl,q _ I.fresh⟩
 cases h1:(decide (z.length < y.length) || decide (Hd z < Hd y))
 ·cases hf:(Fb z y 0 z.length (z.length+1)).isEmpty
  ·have hn:(GO z (Fb z y 0 z.length (z.length+1)) y.length).length<=Ir:=by
    rw [len_partsBetween];have:=StrLaws.occ_length_le z y 0 z.length (z.length+1);omega
   refine Jl F.slot_str_split (Jb _ _ _) F.entry_str_split (F.args_str_split_2 _ _) (meets_str_split_sep z y t t' h1 hy hf Ih hn) ?_;show wants _ _ _ {s with toks:=_,heap:=s.heap.push {cls:= .type "list",data:= .seq (strsFrom s.toks (GO z (Fb z y 0 z.length (z.length+1)) y.length)).toArray}};rw [strsFrom_eq];exact hq (numbered s.toks _) _ ((numbered_texts _ _).trans ((Ii (ne_true_of_eq_false h1)).trans (Ii (ne_true_of_eq_false hf))).symm)
  ·exact Jl F.slot_str_split (Jb _ _ _) F.entry_str_split (F.args_str_split_2 _ _) (meets_str_split_not_found z y t t' h1 hy hf) (hq [(z,t)] s.toks ((Ii (ne_true_of_eq_false h1)).trans (Ij hf)).symm)
 ·exact Jl F.slot_str_split (Jb _ _ _) F.entry_str_split (F.args_str_split_2 _ _) (meets_str_split_cannot_occur z y t t' h1) (hq [(z,t)] s.toks (Ij h1).symm)
def dW(to t:DT):DA:=λδ Q=>to δ λx=>∃z:Str,x= .str z/\t δ λy=>∃y':Str,y= .str y'/\(y'.length==0)=false/\z.length<=1000000/\Q ((Txt.split z y').map .str)
theorem qI{o e:Iu}{to t:DT}{apos cpos:Pos}(ho:DE X H0 O0 o to)(ha:DE X H0 O0 e t)(hbase:Jh o "split" X.env (eval o X.env)=eval o X.env:=by rfl)
 (hfew:((IS cpos (Iw [e] X.env)).all (λx=>!x.1) && (backToKw cpos (Js [] X.env)).all (λx=>x.1.isSome) && decide ([e].length+([]:List Jn).length+(if ([]:List Jn).isEmpty then 0 else 1) < 30))=true:=by rfl)
 (hline:(apos.endLine==cpos.line)=true:=by rfl)(hst:Iw [e] X.env=(false,eval e X.env)::Iw [] X.env:=by rfl)(hplain:(IS cpos (Iw [] X.env)).any (·.1)=false:=by rfl):
 FE X H0 O0 (.Call (.Attribute o "split" apos) [e] [] cpos) (dW to t):=
 (n6 FH PySem.F.slot_str_split PySem.F.type_str_split AV ho (aw ha aK hst) hbase hfew hline hst hplain).imp λσ H Q uu61=>by obtain⟨O,δ,Qd,w,q,k⟩:=uu61;exact⟨O,δ,_,w,q,λx v H1 uu62 s1 r1=>by
  obtain⟨z,e,q1⟩:=uu62;subst e;cases r1;exact⟨rfl,O,δ,_,w.mono s1,q1,λy u H2 uu63 s2 r2=>by obtain⟨y',e,hy,hz,q2⟩:=uu63;subst e;cases r2;exact⟨z,y',rfl,rfl,hy,hz,λp hp=>k _ _ p H2 q2 (s1.trans s2) hp (aj.ofStrs _)⟩⟩⟩
def PF(X:Cx)(H0:Hp)(O0:Ex)(e:Iu)(t:DT):Prop:=∀(JI:List (Ip×Obj))(s:Iq)(σ:St)(H:Hp)(R:Str->Prop)(Q:VK),aa X JI σ H s->(∃O δ,Wd X.K H0 O0 H O σ δ/\t δ (λd=>∃z:Str,d= .str z/\z.length<=Ir/\R z)/\∀z H',R z->ai H H'->Q (.str z) H')->Iz (Iy X.prog X.w) X.A (eval e X.env) (EP X JI σ Q) X.xe s
theorem ur{x j pos}:PF X H0 O0 (.Constant (.str x) j pos) (dC (.str x)):=λJI s σ H R Q I h=>by
 obtain⟨O,δ,w,⟨z,e,hz,q⟩,k⟩:=h;injection e with e;subst e
 exact lh JI s σ H Q I (k _ H q (ai.refl _))
theorem qJ{e:Iu}{t:DT}{pos:Pos}(h:DE X H0 O0 e t):PF X H0 O0 (.FormattedValue e (-1) none pos) t:=λJI s σ H R Q I hh=>by
 obtain⟨O,δ,w,q,k⟩:=hh;refine FormattedValue_plain (ak (h JI s σ H (λv H1=>∃z:Str,v= .str z/\z.length<=Ir/\Q (.str z) H1) I ⟨O,δ,_,w,q,λd v H1 uu64 s1 r1=>by obtain⟨z,e,hz,q1⟩:=uu64;subst e;cases r1;exact⟨z,rfl,hz,k _ H1 q1 s1⟩⟩) λv s1 ⟨x,H1,I1,r1,z,e,hz,q1⟩=>?_);subst e;obtain⟨t,rfl⟩:=r1;exact formatField_str (λt' tk=>⟨.str z,H1,I1.tok _,⟨_,rfl⟩,q1⟩) hz
def bO:List DT->Str->DT
 | [],out=>λ_ Q=>out.length<=Ir/\Q (.str out)
 | t::ts,out=>λδ Q=>t δ λd=>∃z:Str,d= .str z/\z.length<=Ir/\(out++z).length<=Ir/\bO ts (out++z) δ Q
inductive ny (X:Cx) (H0:Hp) (O0:Ex):List Iu->List DT->Prop
 | nil:ny X H0 O0 [] []
 | cons {e:Iu} {es:List Iu} {t:DT} {ts:List DT}:PF X H0 O0 e t->ny X H0 O0 es ts->ny X H0 O0 (e::es) (t::ts)
theorem AW{es:List Iu}{ts:List DT}(h:ny X H0 O0 es ts):∀(out:Str)(JI:List (Ip×Obj))(s:Iq)(σ:St)(H:Hp)(Q:VK),aa X JI σ H s->up X.K H0 O0 (bO ts out) σ H Q->
 Iz (Iy X.prog X.w) X.A (joinParts out (evalEach es X.env)) (EP X JI σ Q) X.xe s:=by
 induction h with
 | nil=>
  intro out JI s σ H Q I ⟨O,δ,Qd,w,⟨hz,q⟩,k⟩;exact joinParts_nil ⟨.str out,H,I.tok _,⟨_,rfl⟩,k _ _ H q (ai.refl _) (.str out)⟩ hz
 | @cons e es t ts hp hs ih=>
  intro out JI s σ H Q I ⟨O,δ,Qd,w,q,k⟩;show Iz (Iy X.prog X.w) X.A (joinParts out (eval e X.env::evalEach es X.env)) (EP X JI σ Q) X.xe s;refine joinParts_cons (ak (hp JI s σ H (λz=>(out++z).length<=Ir/\bO ts (out++z) δ Qd) (λv H1=>∃z:Str,v= .str z/\(out++z).length<=Ir/\up X.K H0 O0 (bO ts (out++z)) σ H1 Q) I ⟨O,δ,w,q,?_⟩) λv s1 ⟨x,H1,I1,r1,z,e,hz,q1⟩=>?_)
  ·rintro z H1 ⟨hz,q1⟩ s1;exact⟨z,rfl,hz,O,δ,Qd,w.mono s1,q1,λd v H2 q2 s2 r2=>k d v H2 q2 (s1.trans s2) r2⟩
  ·subst e;obtain⟨t',rfl⟩:=r1;exact⟨hz,ih _ _ _ _ _ _ I1 q1⟩
theorem AX{e1 e2:Iu}{es:List Iu}{ts:List DT}{pos:Pos}(h:ny X H0 O0 (e1::e2::es) ts):DE X H0 O0 (.JoinedStr (e1::e2::es) pos) (bO ts Gb):=λJI s σ H Q I hh=>
 JoinedStr_many (AW h Gb JI s σ H Q I hh)
def dX:DS:=λ_ _=>False
theorem AY{st:II}:PS X st (bQ X.K H0 O0 dX):=wx.imp λD σ H uu67=>by obtain⟨O,δ,E,w,q,_,_,_,_⟩:=uu67;exact q.elim
def uu(ns:List Int):List Im:=ns.map .int
def g5:Im->Im->(Im->Prop)->Prop:=λx y Q=>(∃i j:Int,x= .int i/\y= .int j/\Q (.bool (decide (i < j))))\/(∃i j:Str,x= .str i/\y= .str j/\Q (.bool (decide (i.cps.toList < j.cps.toList))))\/
 (∃ns ms:List Int,x= .tuple (uu ns)/\y= .tuple (uu ms)/\Q (.bool (HT.lexLt ns ms)))
end
section
variable {α:Type} {P:α->Prop}
theorem dY{a:Im}{r:Dl}{P:Im->Prop}:cf 0 (some (Sl.v a)::r) P=P a:=rfl
theorem g6{x:Option Sl}{r:Dl}{i:Nat}{P:Im->Prop}:cf (i+1) (x::r) P=cf i r P:=rfl
theorem g7{a:List Im}{r:Dl}{P:List Im->Prop}:(∃d,(some (Sl.o a)::r)[0]?=some (some (Sl.o d))/\P d)=P a:=Il
theorem g8{x:Option Sl}{r:Dl}{i:Nat}{P:List Im->Prop}:(∃d,(x::r)[i+1]?=some (some (Sl.o d))/\P d)=(∃d,r[i]?=some (some (Sl.o d))/\P d):=Il
theorem g9{a:List Im}{l:Dl}{i:Nat}{P:List Im->Prop}:(∃d,(l.set i (some (Sl.o a)))[i]?=some (some (Sl.o d))/\P d)=(i < l.length/\P a):=by
 apply propext;rw [GP];constructor
 ·rintro⟨d,e,p⟩;by_cases h:i < l.length
  ·rw [E7 h] at e;cases e;exact⟨h,p⟩
  ·rw [FN Ih] at e;cases e
 ·rintro⟨h,p⟩;exact⟨a,by rw [E7 h];rfl,p⟩
theorem hG{x:Option Sl}{l:Dl}{i j:Nat}{P:List Im->Prop}(h:i≠j):(∃d,(l.set i x)[j]?=some (some (Sl.o d))/\P d)=(∃d,l[j]?=some (some (Sl.o d))/\P d):=by rw [D3 h]
theorem hJ{a:Bool}{P:Bool->Prop}:(∃b,GX a= .bool b/\P b)=P a:=Il
theorem hU{a:Int}{P:Int->Prop}:(∃b,Dn a= .int b/\P b)=P a:=Il
theorem hV{a:Str}{P:Str->Prop}:(∃b,Dw a= .str b/\P b)=P a:=Il
theorem hW{a:List Im}{P:List Im->Prop}:(∃b,EV a= .tuple b/\P b)=P a:=Il
theorem hX{a:List Im}{P:List Im->Prop}:(∃b,Fz a= .list b/\P b)=P a:=Il
theorem hZ{a b:Int}{P:Int->Int->Prop}:(∃i j,Dn a= .int i/\Dn b= .int j/\P i j)=P a b:=Il
theorem h7{a b:Str}{P:Str->Str->Prop}:(∃i j,Dw a= .str i/\Dw b= .str j/\P i j)=P a b:=Il
theorem ia{a b:List Im}{P:List Im->List Im->Prop}:(∃i j,EV a= .tuple i/\EV b= .tuple j/\P i j)=P a b:=Il
theorem ib{a b:List Im}{P:List Im->List Im->Prop}:(∃i j,Fz a= .list i/\Fz b= .list j/\P i j)=P a b:=Il
theorem ic{a:Im}{r:List Im}{P:Im->List Im->Prop}:(∃x y,a::r=x::y/\P x y)=P a r:=propext ⟨λuu68=>by obtain⟨_,_,e,p⟩:=uu68;cases e;exact p,λp=>⟨_,_,rfl,p⟩⟩
theorem ie{a b:Im}{P:Im->Im->Prop}:(∃x y,[a,b]=[x,y]/\P x y)=P a b:=propext ⟨λuu69=>by obtain⟨_,_,e,p⟩:=uu69;cases e;exact p,λp=>⟨_,_,rfl,p⟩⟩
theorem ig{a:Im}{r:List Im}{P:Im->Prop}:(∃ds i d,EV (a::r)= .tuple ds/\Dn 0= .int i/\atI ds i=some d/\P d)=P a:=by simp [bM]
theorem ij{a b:Im}{r:List Im}{P:Im->Prop}:(∃ds i d,EV (a::b::r)= .tuple ds/\Dn 1= .int i/\atI ds i=some d/\P d)=P b:=by simp [bX]
theorem ik{a b c:Im}{r:List Im}{P:Im->Prop}:(∃ds i d,EV (a::b::c::r)= .tuple ds/\Dn 2= .int i/\atI ds i=some d/\P d)=P c:=by simp [cn]
theorem il{a b c e:Im}{r:List Im}{P:Im->Prop}:(∃ds i d,EV (a::b::c::e::r)= .tuple ds/\Dn 3= .int i/\atI ds i=some d/\P d)=P e:=by simp [dJ]
theorem ip{a:Im}{r:List Im}{P:Im->Prop}:(∃ds i d,Fz (a::r)= .list ds/\Dn 0= .int i/\atI ds i=some d/\P d)=P a:=by simp [bM]
theorem iq{a b:Im}{r:List Im}{P:Im->Prop}:(∃ds i d,Fz (a::b::r)= .list ds/\Dn 1= .int i/\atI ds i=some d/\P d)=P b:=by simp [bX]
theorem iu{a b c:Im}{r:List Im}{P:Im->Prop}:(∃ds i d,Fz (a::b::c::r)= .list ds/\Dn 2= .int i/\atI ds i=some d/\P d)=P c:=by simp [cn]
theorem iw{xs:List Im}{k:Int}{P:Im->Prop}:(∃ds i d,EV xs= .tuple ds/\Dn k= .int i/\atI ds i=some d/\P d)=(∃d,atI xs k=some d/\P d):=Il
theorem ix{xs:List Im}{k:Int}{P:Im->Prop}:(∃ds i d,Fz xs= .list ds/\Dn k= .int i/\atI ds i=some d/\P d)=(∃d,atI xs k=some d/\P d):=Il
end
theorem iy{w v:Str}{r:List Im}{l:Dl}{Q:Bool->Prop}:bx (aX bN (aX bL (cf 0) (dC (.int 0))) (dC (.str v))) (some (.v (.tuple (.str w::r)))::l) Q=Q (w==v):=by
 simp [bx,aX,bN,bL,dY,dC,bM,cw,cq]
theorem iz{v:Str}{x:Option Sl}{l:Dl}{k:Nat}{Q:Bool->Prop}:bx (aX bN (aX bL (cf 0) (dC (.int 0))) (dC (.str v))) (l.set (k+1) x) Q=bx (aX bN (aX bL (cf 0) (dC (.int 0))) (dC (.str v))) l Q:=by
 simp only [bx,aX,cf,dC,D3 (show k+1≠0 by omega)]
def ko:ao->Im
 | .inl i=>.int i
 | .inr x=>.str x
def oH(kd:List (ao×Im))(k:ao):Option Im:=(kd.find? λp=>decide (p.1=k)).map (·.2)
def nz(kd:List (ao×Im))(k:ao)(d:Im):List (ao×Im):=if (kd.any λp=>decide (p.1=k))=true then kd.map (λp=>if p.1=k then(p.1,d) else p) else kd++[(k,d)]
section
variable {K:Dj} {H:Hp} {O:Ex}
theorem Dt.key{v:V}{k:ao}(h:Dt K H O v (ko k)):v=kV k:=by
 cases k with
 | inl i=>cases h;rfl
 | inr x=>cases h;rfl
theorem aM.any{kv:List (ao×V)}{kd:List (ao×Im)}(h:aM K H O kv kd)(k:ao):(kv.any λp=>decide (p.1=k))=(kd.any λp=>decide (p.1=k)):=by
 induction h with
 | nil=>rfl
 | cons a _ ih=>simp only [Ef,ih]
theorem aM.length{kv:List (ao×V)}{kd:List (ao×Im)}(h:aM K H O kv kd):kv.length=kd.length:=by
 induction h with
 | nil=>rfl
 | cons a _ ih=>simp only [Dp,ih]
theorem aM.append{kv kv':List (ao×V)}{kd kd':List (ao×Im)}(h:aM K H O kv kd)(h':aM K H O kv' kd'):aM K H O (kv++kv') (kd++kd'):=by
 induction h with
 | nil=>exact h'
 | cons a _ ih=>exact .cons a ih
theorem aM.repl{kv:List (ao×V)}{kd:List (ao×Im)}(h:aM K H O kv kd)(k:ao){v:V}{d:Im}(hv:Dt K H O v d):aM K H O (kv.map λp=>if p.1=k then(p.1,v) else p) (kd.map λp=>if p.1=k then(p.1,d) else p):=by
 induction h with
 | nil=>exact .nil
 | @cons j u e r s a _ ih=>
  simp only [Dq];by_cases z:j=k
  ·rw [Ij z,Ij z];exact .cons hv ih
  ·rw [Ii z,Ii z];exact .cons a ih
theorem aM.put{kv:List (ao×V)}{kd:List (ao×Im)}(h:aM K H O kv kd)(k:ao){v:V}{d:Im}(hv:Dt K H O v d):aM K H O (kn kv k v) (nz kd k d):=by
 unfold kn nz;rw [h.any k];split
 ·exact h.repl k hv
 ·exact h.append (.cons hv .nil)
end
section
variable {X:Cx} {H0:Hp} {O0:Ex}
abbrev lQ:=Dl->(List (ao×Im)->Prop)->Prop
inductive uw (K:Dj) (H0:Hp) (O0:Ex) (t:lQ) (σ:St) (H:Hp) (R:VK):Prop
 | mk (O:Ex) (δ:Dl) (Qd:List (ao×Im)->Prop):Wd K H0 O0 H O σ δ->t δ Qd->(∀kd kv p H',Qd kd->ai H H'->H' p=none->aM K H' O kv kd->R (.ref p) (ah H' p (.dK kv)))->uw K H0 O0 t σ H R
abbrev KE(X:Cx)(H0:Hp)(O0:Ex)(e:Iu)(t:lQ):Prop:=PE X e (uw X.K H0 O0 t)
def iA:lQ:=λ_ Q=>Q []
def iB(i:Nat)(t:lQ):DS:=λE δ=>t δ λkd=>E.nx (δ.set i (some (.k kd)))
def iC(i:Nat)(tk tv:DT):DS:=λE δ=>tv δ λd=>∃kd,δ[i]?=some (some (.k kd))/\tk δ λy=>∃k,y=ko k/\kd.length < Ir/\E.nx (δ.set i (some (.k (nz kd k d))))
def iD(i:Nat)(tk:DT):DT:=λδ Q=>∃kd,δ[i]?=some (some (.k kd))/\tk δ λy=>∃k d,y=ko k/\oH kd k=some d/\Q d
def iE(i:Nat)(tk:DT):DT:=λδ Q=>∃kd,δ[i]?=some (some (.k kd))/\tk δ λy=>∃k,y=ko k/\Q ((oH kd k).getD .none)
def iF(neg:Bool)(i:Nat)(tk:DT):DT:=λδ Q=>tk δ λy=>∃k,y=ko k/\∃kd,δ[i]?=some (some (.k kd))/\Q (.bool (if neg then !(oH kd k).isSome else(oH kd k).isSome))
end
open PySem PySem.Spec PyProof.Rows PySem.W PySem.Calls
theorem aM.keys{K:Dj}{H:Hp}{O:Ex}{kv:List (ao×V)}{kd:List (ao×Im)}(h:aM K H O kv kd):kv.map (·.1)=kd.map (·.1):=by
 induction h with
 | nil=>rfl
 | cons a _ ih=>simp only [Dq,ih]
section
variable {X:Cx} {H0:Hp} {O0:Ex}
def iG(i:Nat):DA:=λδ Q=>∃kd,δ[i]?=some (some (.k kd))/\∃ss:List Str,kd.map (·.1)=ss.map FV/\ss.length < 64/\Q ((qE ss).map .str)
end
section
theorem iH{a:List (ao×Im)}{r:Dl}{P:List (ao×Im)->Prop}:(∃d,(some (Sl.k a)::r)[0]?=some (some (Sl.k d))/\P d)=P a:=Il
theorem iI{x:Option Sl}{r:Dl}{i:Nat}{P:List (ao×Im)->Prop}:(∃d,(x::r)[i+1]?=some (some (Sl.k d))/\P d)=(∃d,r[i]?=some (some (Sl.k d))/\P d):=Il
theorem iJ{a:List (ao×Im)}{l:Dl}{i:Nat}{P:List (ao×Im)->Prop}:(∃d,(l.set i (some (Sl.k a)))[i]?=some (some (Sl.k d))/\P d)=(i < l.length/\P a):=by
 apply propext;rw [GP];constructor
 ·rintro⟨d,e,p⟩;by_cases h:i < l.length
  ·rw [E7 h] at e;cases e;exact⟨h,p⟩
  ·rw [FN Ih] at e;cases e
 ·rintro⟨h,p⟩;exact⟨a,by rw [E7 h];rfl,p⟩
theorem iK{x:Option Sl}{l:Dl}{i j:Nat}{P:List (ao×Im)->Prop}(h:i≠j):(∃d,(l.set i x)[j]?=some (some (Sl.k d))/\P d)=(∃d,l[j]?=some (some (Sl.k d))/\P d):=by rw [D3 h]
theorem iL{x:Str}{P:ao->Prop}:(∃k,Dw x=ko k/\P k)=P (.inr x):=propext ⟨λuu70=>by obtain⟨k,e,p⟩:=uu70;cases k with | inl i=>cases e | inr y=>cases e;exact p,λp=>⟨_,rfl,p⟩⟩
theorem iM{x:Int}{P:ao->Prop}:(∃k,Dn x=ko k/\P k)=P (.inl x):=propext ⟨λuu71=>by obtain⟨k,e,p⟩:=uu71;cases k with | inr i=>cases e | inl y=>cases e;exact p,λp=>⟨_,rfl,p⟩⟩
end
def mz:Im->Bool
 | .none=>true
 | _=>false
def dZ:Im->Im->(Im->Prop)->Prop:=λx y Q=>y= .none/\Q (.bool (mz x))
def iN:Im->Im->(Im->Prop)->Prop:=λx y Q=>y= .none/\Q (.bool (!mz x))
theorem Sh.isN{K:Dj}{H:Hp}{O:Ex}{x:V}{d:Im}(h:Sh K H O x d):decide (x= .non)=mz d:=by
 cases h with
 | dt h=>cases h <;> simp [mz]
 | _=>simp [mz]
theorem AZ{K:Dj}:bw K (λx y H Q=>y= .non/\Q (.bl (decide (x= .non))) H) dZ:=λH O x y dx dy Qd R _ hx hy uu72 k=>by
 obtain⟨e,q⟩:=uu72;subst e;refine⟨hy.non,?_⟩;rw [hx.isN];exact k _ _ H q (ai.refl _) (.bl _)
def iO:List Im->(Im->Prop)->Prop:=λds Q=>∃i:Int,ds=[.int i]/\Q (.int (if i < 0 then -i else i))
def iP:Im->Im->(Im->Prop)->Prop:=λx y Q=>∃ds i d,x=j3 ds/\y= .int i/\atI ds i=some d/\Q d
section
variable {X:Cx} {H0:Hp} {O0:Ex}
def iQ(t:DT)(tl th:DO):DA:=λδ Q=>t δ λd=>tl δ λl=>th δ λu=>∃xs,d=j3 xs/\Q (da xs l u)
end
theorem A0{X:Cx}:aI X (Ja .Mult) (λx y H Q=>∃(z:Str)(n:Int),x= .str z/\y= .int n/\MulOk z n/\Q (.str (Txt.mul z n)) H):=by
 intro JI s σ H x y v u Q I rx ry h;obtain⟨z,n,rfl,rfl,hok,q⟩:=h;obtain⟨t,rfl⟩:=rx;obtain⟨t',rfl⟩:=ry;exact SB.mul hok λt' k=>⟨.str _,H,I.tok _,⟨_,rfl⟩,q⟩
def d3:Im->Im->(Im->Prop)->Prop:=λx y Q=>∃(z:Str)(n:Int),x= .str z/\y= .int n/\MulOk z n/\Q (.str (Txt.mul z n))
theorem A1{K:Dj}:bw K (λx y H Q=>∃(z:Str)(n:Int),x= .str z/\y= .int n/\MulOk z n/\Q (.str (Txt.mul z n)) H) d3:=λH O x y dx dy Qd R _ hx hy uu73 k=>by
 obtain⟨z,n,e1,e2,c,q⟩:=uu73;subst e1 e2;cases hx.str;cases hy.int;exact⟨z,n,rfl,rfl,c,k _ _ H q (ai.refl _) (.str _)⟩
structure Rw where
 w:Str
 n:Int
 nm:Str
 r:List Im
abbrev Ls:=List (Str×Rw)
def A2(ss:List Str)(x:Str):List Str:=if x∈ss then ss else ss++[x]
section
variable {X:Cx} {H0:Hp} {O0:Ex}
def iR(t:DA):DA:=λδ Q=>t δ λds=>∃ss:List Str,ds=[.list (ss.map .str)]/\ss.length < 64/\Q ((qE (ss.foldl A2 [])).map .str)
def iS(i:Nat)(t:DA):DS:=λE δ=>∃ds,δ[i]?=some (some (.o ds))/\t δ λes=>ds.length+es.length<=Ir/\E.nx (δ.set i (some (.o (ds++es))))
end
theorem aj.intsL{K:Dj}{H:Hp}{O:Ex}:∀{ns:List Int}{vs:List V},aj K H O vs (ns.map Dn)->vs=ns.map V.int
 | [],_,r=>by rw [DQ] at r;cases r;rfl
 | b::bs,_,r=>by
  rw [Dq] at r;cases r with
  | cons h r=>cases h;rw [Dq,aj.intsL r]
def iT:List Im->(Im->Prop)->Prop:=λds Q=>∃ns:List Int,ds=[.list (ns.map .int)]/\ns≠[]/\∀M,M∈ns->(∀a∈ns,a<=M)->Q (.int M)
section
variable {X:Cx} {H0:Hp} {O0:Ex}
def iU(i:Nat)(dg:DG)(tb:DS):DS:=λE δ=>∃kd,δ[i]?=some (some (.k kd))/\lK dg tb E (kd.map λp=>ko p.1) (δ.set i none)
end
def bY:List (DT×DT)->Dl->(List (Im×Im)->Prop)->Prop
 | [],_,Q=>Q []
 | (a,b)::r,δ,Q=>a δ λx=>b δ λy=>bY r δ λps=>Q ((x,y)::ps)
inductive k6 (K:Dj) (H:Hp) (O:Ex):List (V×V)->List (Im×Im)->Prop
 | nil:k6 K H O [] []
 | cons {a b:V} {x y:Im} {r s}:Dt K H O a x->Dt K H O b y->k6 K H O r s->k6 K H O ((a,b)::r) ((x,y)::s)
theorem ux{K:Dj}{H0:Hp}{O0 O:Ex}{σ:St}{δ:Dl}:∀(trs:List (DT×DT)){H:Hp}{Qd:List (Im×Im)->Prop}{R:List (V×V)->Hp->Prop},Wd K H0 O0 H O σ δ->bY trs δ Qd->(∀ds vs H',Qd ds->ai H H'->k6 K H' O vs ds->R vs H')->oB (trs.map λp=>(up K H0 O0 p.1,up K H0 O0 p.2)) σ H R
 | [],H,Qd,R,w,q,k=>k [] [] H q (ai.refl _) .nil
 | (a,b)::r,H,Qd,R,w,q,k=>by
  refine⟨O,δ,_,w,q,λx v H1 q1 s1 r1=>⟨O,δ,_,w.mono s1,q1,λy u H2 q2 s2 r2=>?_⟩⟩;exact ux r ((w.mono s1).mono s2) q2 λds vs H3 q3 s3 r3=>k _ _ H3 q3 ((s1.trans s2).trans s3) (.cons (r1.mono (s2.trans s3)) (r2.mono s3) r3)
theorem Dt.free{K:Dj}{H H':Hp}{O O':Ex}{v:V}{d:Im}(h:Dt K H O v d)(s:bE d=true):Dt K H' O' v d:=by
 cases h <;> first | exact .non | exact .bl _ | exact .int _ | exact .str _ | cases s
theorem k6.kd{K:Dj}{H H':Hp}{O:Ex}:∀{kd:List (ao×Im)}{ps:List (V×V)},k6 K H O ps (kd.map λp=>(ko p.1,p.2))->(∀p∈kd,bE p.2=true)->∃kv:List (ao×V),ps=kv.map (λp=>(kV p.1,p.2))/\aM K H' O kv kd
 | [],_,h,_=>by cases h;exact⟨[],rfl,.nil⟩
 | p::kd,_,h,sc=>by
  cases h with
  | cons a b r=>
   obtain⟨kv,e,k⟩:=k6.kd r λq hq=>sc q (EK _ hq);have:=a.key;exact⟨(p.1,_)::kv,by rw [e,this];rfl,.cons (b.free (sc p E4)) k⟩
theorem aM.merge{K:Dj}{H:Hp}{O:Ex}{more:List (ao×V)}{md:List (ao×Im)}(h:aM K H O more md):∀{kv:List (ao×V)}{kd:List (ao×Im)},aM K H O kv kd->aM K H O (kZ kv more) (md.foldl (λa p=>nz a p.1 p.2) kd):=by
 induction h with
 | nil=>intro kv kd r;exact r
 | cons a _ ih=>intro kv kd r;exact ih (r.put _ a)
section
variable {X:Cx} {H0:Hp} {O0:Ex}
def cx(trs:List (DT×DT)):lQ:=λδ Q=>bY trs δ λps=>∃kd:List (ao×Im),ps=kd.map (λp=>(ko p.1,p.2))/\kd.length<=15/\(∀p∈kd,bE p.2=true)/\Q (kd.foldl (λa p=>nz a p.1 p.2) [])
def oI(X:Cx)(H0:Hp)(O0:Ex)(pos:Pos)(keys:List (Option Iu))(values:List Iu)(trs:List (DT×DT)):Prop:=nr X pos keys values (trs.map λp=>(up X.K H0 O0 p.1,up X.K H0 O0 p.2))
theorem A3{pos:Pos}:oI X H0 O0 pos [] [] []:=Au
theorem A4{pos:Pos}{k v:Iu}{ks:List (Option Iu)}{vs:List Iu}{tk tv:DT}{trs:List (DT×DT)}(hk:DE X H0 O0 k tk)(hv:DE X H0 O0 v tv)(hr:oI X H0 O0 pos ks vs trs):oI X H0 O0 pos (some k::ks) (v::vs) ((tk,tv)::trs):=Av hk hv hr
theorem A5{pos:Pos}{keys:List (Option Iu)}{values:List Iu}{trs:List (DT×DT)}(h:oI X H0 O0 pos keys values trs)(hall:keys.all (·.isSome)=true:=by rfl)(hl:keys.length=values.length:=by rfl)(h0:keys≠[]:=by exact List.cons_ne_nil _ _)(h15:keys.length<=15:=by exact Nat.le_of_ble_eq_true rfl):KE X H0 O0 (.Dict keys values pos) (cx trs):=
 (Ax h hall hl h0 h15).imp λσ H Q ⟨O,δ,Qd,w,q,k⟩=>λp hp=>by
  refine ux trs (w.mono (ai.new hp)) q λds vs H2 ⟨kd,e,n,sc,q2⟩ s2 r2=>?_;subst e;have hp2:H2 p=some (.dK []):=s2 _ _ aD;obtain⟨kv,e,r⟩:=k6.kd (H':=λb=>if b=p then none else H2 b) r2 sc;refine⟨hp2,kv,e,by rw [r.length];exact n,?_⟩;have eu:ah H2 p (.dK (kZ [] kv))=ah (λb=>if b=p then none else H2 b) p (.dK (kZ [] kv)):=by
   funext b;unfold ah;split
   ·rfl
   ·rename_i hb;exact(Ii hb).symm
  rw [eu];refine k _ _ p _ q2 (λb o z=>?_) (Ij rfl) (r.merge .nil);have:b≠p:=λy=>by rw [y,hp] at z;cases z
  show(if b=p then none else H2 b)=some o;rw [Ii this];exact s2 _ _ (by rw [aq this];exact z)
def iV(i j k:Nat)(t:DA):DS:=λE δ=>t δ λds=>∃x y z,ds=[x,y,z]/\E.nx (((δ.set i (some (.v x))).set j (some (.v y))).set k (some (.v z)))
end
def qK(p q:Int×Str):Bool:=decide (p.1 < q.1) || (decide (p.1=q.1) && decide (p.2.cps.toList < q.2.cps.toList))
section
variable {X:Cx} {JI:List (Ip×Obj)} {σ:St} {H:Hp} {s:Iq}
def nA(p:Int×Str):Im:= .tuple [.int p.1,.str p.2]
end
section
variable {X:Cx} {H0:Hp} {O0:Ex}
def iW(t:DA):DA:=λδ Q=>t δ λds=>∃ps:List (Int×Str),ds=[.list (ps.map nA)]/\ps.length < 64/\ps.Nodup/\∀ps':List (Int×Str),ps'.Perm ps->ps'.Pairwise (λa b=>qK a b=true)->Q (ps'.map nA)
def iX(F:List Im->(Im->Prop)->Prop)(kf:Im->Int×Str)(t:DA):DA:=λδ Q=>t δ λds0=>∃ds,ds0=[.list ds]/\(∀d∈ds,∀R:Im->Prop,R (nA (kf d))->F [d] R)/\ds.length < 64/\(ds.map kf).Nodup/\∀ds',ds'.Perm ds->ds'.Pairwise (λa b=>qK (kf a) (kf b)=true)->Q ds'
end
section
open PySem.SeqAt
open PySem.AutoSeq1 (wpAny_loadPart')
open PySem.MeetsSeq PySem.MeetsSeq2 PySem.MeetsSeq3
end
def iY:Im->Im->(Im->Prop)->Prop:=λx y Q=>∃p q:Int×Str,x=nA p/\y=nA q/\Q (.bool (qK p q))
section
variable {X:Cx} {H0:Hp} {O0:Ex}
theorem aM.vals{K:Dj}{H:Hp}{O:Ex}{kv:List (ao×V)}{kd:List (ao×Im)}(h:aM K H O kv kd):aj K H O (kv.map (·.2)) (kd.map (·.2)):=by
 induction h with
 | nil=>exact .nil
 | cons a _ ih=>exact .cons a ih
abbrev oJ(ks:List Str)(ds:List Im):Im:=tR (ks.map .str) ds
def iZ(i:Nat)(t:DS):DS:=λE δ=>∃kd,δ[i]?=some (some (.k kd))/\∃ks:List Str,kd.map (·.1)=ks.map FV/\t E (δ.set i (some (.v (oJ ks (kd.map (·.2))))))
theorem aa.fast{X:Cx}{JI:List (Ip×Obj)}{σ:St}{H:Hp}{s:Iq}(I:aa X JI σ H s){a:Ip}{kv:List (ao×V)}(ha:H a=some (.dK kv)):∃o,aa X JI σ (ah H a (.frz o (.dK kv))) s:=by
 obtain⟨z,hd,vs,rel,o,es,ep,g,r1,r2,r3⟩:=I.hok a _ ha;exact⟨o,I.write (x:=a) (e:=a) (o:= .frz o (.dK kv)) (h':=s.heap) (t':=s.toks) (by rw [ha];exact EU) (.inl rfl) (λ_ _ _ q=>q) ⟨o,g⟩ ⟨g,z,hd,vs,rel,o,es,ep,g,r1,r2,r3⟩⟩
def qL:List Str->List Im->Str->Option Im
 | k::ks,d::ds,z=>if k=z then some d else qL ks ds z
 | _,_,_=>none
def i2(to tk:DT):DT:=λδ Q=>to δ λx=>∃ks ds,x=oJ ks ds/\tk δ λy=>∃z,y= .str z/\∃d,qL ks ds z=some d/\Q d
def i3(to t:DT):DT:=λδ Q=>to δ λx=>∃ss:List Str,x= .list (ss.map .str)/\t δ λy=>∃z,y= .str z/\z∈ss/\Q (.int (ss.idxOf z:Nat))
def i4(t:DA):DA:=λδ Q=>t δ λds=>∃n k:Int,ds=[.int 0,.int n,.int k]/\0<=n/\n < 1000/\0 < k/\k < 1000/\∀js:List Int,(∀j∈js,0<=j/\j < n)->js.length<=1000->Q (js.map .int)
def i5(t:DT)(g:DG)(tc:DB)(te:DT)(k:Nat)(fr:List Nat):DA:=λδ Q=>ck t g tc te k fr δ Q\/cX t g tc te k fr δ Q
theorem nB{T:String}{a c:Iu}{t:DT}{np p:Pos}{K':Dj}(hK:X.K=K')(hg:Gl X "isinstance")(hm:X.mg "isinstance"=none)(hv:IK "isinstance"=some (.builtin "isinstance"))(ha:DF X H0 O0 a t)(hc:PE X c (tC (.ty T)))
 (hs:Iw [a,c] X.env=(false,eval a X.env)::Iw [c] X.env:=by rfl)(hs2:Iw [c] X.env=[(false,eval c X.env)]:=by rfl)(hb:(IS p (Iw [c] X.env)).any (·.1)=false:=by rfl):DE X H0 O0 (.Call (.Name "isinstance" np) [a,c] [] p) (cm K' T t):=by
 subst hK;exact Ad hg hm hv ha hc hs hs2 hb
end
def i6:Im->Im->(Im->Prop)->Prop:=λx y Q=>∃xs ys,x= .tuple xs/\y= .tuple ys/\xs.length+ys.length<=Ir/\Q (.tuple (xs++ys))
def uz(f:Str)(d:Im):List (Str×Im)->List (Str×Im)
 | []=>[(f,d)]
 | (g,x)::r=>if g=f then(g,d)::r else(g,x)::uz f d r
section
variable {X:Cx} {H0:Hp} {O0:Ex}
def i7(C:Ip)(i:Nat)(f:Str)(t:DT):DS:=λE δ=>t δ λd=>∃l fd,δ[i]?=some (some (.i l C fd))/\fd.length < 1000/\E.nx (δ.set i (some (.i l C (uz f d fd))))
end
section
variable {X:Cx} {H0:Hp} {O0:Ex}
def i8(C:Ip)(f:Str)(t:DT):DT:=λδ Q=>t δ λx=>∃ks ds d,x=tQ C (ks.map .str) ds/\qL ks ds f=some d/\Q d
end
def A6(ss:List Int)(x:Int):List Int:=if x∈ss then ss else ss++[x]
section
variable {X:Cx} {H0:Hp} {O0:Ex}
def i9(t:DA):DA:=λδ Q=>t δ λds=>∃ss:List Int,ds=[.list (ss.map .int)]/\ss.length < 4000/\(ss.foldl A6 []).length < 64/\∀ns:List Int,(∀z,z∈ns↔z∈ss)->ns.Pairwise (· < ·)->Q (ns.map .int)
end
def uA:Nat->List Im->List Im
 | _,[]=>[]
 | k,x::r=>.tuple [.int (k:Int),x]::uA (k+1) r
section
variable {X:Cx} {H0:Hp} {O0:Ex}
def ja(t:DA)(g:DG)(tb:DS):DS:=λE δ=>t δ λds=>∃xs,ds=[.list xs]/\lK g tb E (uA 0 xs) δ
end
def jb:List Im->(Im->Prop)->Prop:=λds Q=>∃i j:Int,ds=[.int i,.int j]/\bH i j/\Q (.tuple [.int (i / j),.int (i % j)])
def d5:List Im->(Im->Prop)->Prop:=λds Q=>∃ns:List Int,ds=[.list (ns.map .int)]/\Q (.int ns.sum)
theorem A7{K:Dj}:kj K (λxs H Q=>∃(a:Ip)(ns:List Int),xs=[.ref a]/\aG K H a (ns.map V.int)/\Q (.int ns.sum) H) d5:=λH O xs ds Qd R tr hs uu76 k=>by
 obtain⟨ns,e,q⟩:=uu76;subst e;cases hs with
 | cons h r=>
  cases r;obtain⟨a,vs,rfl,h1,d1⟩:=h.lst;cases d1.intsL;exact⟨a,ns,rfl,h1,k _ _ H q (ai.refl _) (.int _)⟩
def jc:List Im->(Im->Prop)->Prop:=λds Q=>∃ns:List Int,ds=[.list (ns.map .int)]/\ns≠[]/\∀M,M∈ns->(∀a∈ns,M<=a)->Q (.int M)
def jd(c:Int->Int->Prop):Im->Im->(Im->Prop)->Prop:=λx y Q=>∃i j:Int,x= .int i/\y= .int j/\c i j/\∀r:Int,Q (.int r)
section
variable {X:Cx} {H0:Hp} {O0:Ex}
def je(n:Nat)(t:DA):DA:=λδ Q=>t δ λds=>ds.length<=1000/\Q (Dx n ds).flatten
def jf(i:Nat)(t:DT):DS:=λE δ=>∃ds,δ[i]?=some (some (.o ds))/\t δ λd=>∃es,d= .list es/\ds.length+es.length<=Ir/\E.nx (δ.set i (some (.o (ds++es))))
end
end L2
namespace Day
def j5(y:Int):Bool:=decide (y % 400=0) || (decide (y % 4=0) && !decide (y % 100=0))
def ld(y:Int):Int:=if j5 y=true then 1 else 0
def qM:List Int:=[31,28,31,30,31,30,31,31,30,31,30,31]
def mlen(y m:Int):Int:=if m=2/\j5 y=true then 29 else qM.getD (m - 1).toNat 0
def lb(y:Int):Int:=(y - 1)/ 4 - (y - 1)/ 100+(y - 1)/ 400
def aQ(y:Int):Int:=365*(y - 2000)+lb y - lb 2000
def av(y m:Int):Int:=((Fp (m - 1).toNat).map λ(i:Nat)=>mlen y (1+(i:Int))).sum
def jt(y m n:Int):Int:=aQ y+av y m+n - 1
structure j6 (d y m n:Int):Prop where
 m1:1<=m
 m12:m<=12
 n1:1<=n
 nl:n<=mlen y m
 eq:jt y m n=d
theorem A8(y:Int):0<=ld y/\ld y<=1:=by unfold ld;split <;> omega
theorem qN(y:Int):j5 y=true↔(y % 400=0\/(y % 4=0/\y % 100≠0)):=by
 unfold j5;simp
theorem qO(y:Int):aQ (y+1)=aQ y+365+ld y:=by
 unfold aQ lb ld;by_cases h:j5 y=true
 ·rw [Ij h];have:=(qN y).mp h;omega
 ·rw [Ii h];have:=mt (qN y).mpr h;omega
theorem nC{a b:Int}(h:a+1<=b):aQ (a+1)<=aQ b:=by
 unfold aQ lb;omega
theorem qP(y:Int):mlen y 2=28+ld y:=by
 unfold mlen ld;by_cases h:j5 y=true
 ·rw [Ij ⟨rfl,h⟩,Ij h];rfl
 ·rw [Ii (λz=>h z.2),Ii h];rfl
theorem uB{y m:Int}(h:m≠2):mlen y m=qM.getD (m - 1).toNat 0:=by
 unfold mlen;rw [Ii (λz=>h z.1)]
theorem oK(y:Int):mlen y 1=31/\mlen y 3=31/\mlen y 4=30/\mlen y 5=31/\mlen y 6=30/\mlen y 7=31/\mlen y 8=31/\mlen y 9=30/\mlen y 10=31/\mlen y 11=30/\mlen y 12=31:=by
 refine⟨?_,?_,?_,?_,?_,?_,?_,?_,?_,?_,?_⟩ <;> (rw [uB Ce];rfl)
theorem qQ{m:Int}(h1:1<=m)(h2:m<=12):m=1\/m=2\/m=3\/m=4\/m=5\/m=6\/m=7\/m=8\/m=9\/m=10\/m=11\/m=12:=by
 obtain⟨k,e⟩:=EN (show 0<=m - 1 by omega);have e:m=(k:Int)+1:=Ih
 have hk:k < 12:=Ih
 have key:∀k:Fin 12,((k.1:Nat):Int)+1=1\/((k.1:Nat):Int)+1=2\/((k.1:Nat):Int)+1=3\/((k.1:Nat):Int)+1=4\/((k.1:Nat):Int)+1=5\/((k.1:Nat):Int)+1=6\/((k.1:Nat):Int)+1=7\/((k.1:Nat):Int)+1=8\/((k.1:Nat):Int)+1=9\/((k.1:Nat):Int)+1=10\/((k.1:Nat):Int)+1=11\/((k.1:Nat):Int)+1=12:=td
 rw [e];exact key ⟨k,hk⟩
theorem mlen_bd{y m:Int}(h1:1<=m)(h2:m<=12):28<=mlen y m/\mlen y m<=31:=by
 obtain⟨m1,m3,m4,m5,m6,m7,m8,m9,m10,m11,m12⟩:=oK y;have m2:28<=mlen y 2/\mlen y 2<=31:=by
  have:=A8 y;rw [qP];clear m1 m3 m4 m5 m6 m7 m8 m9 m10 m11 m12 h1 h2;omega
 have k:∀{z:Int},z=31\/z=30->28<=z/\z<=31:=λh=>by rcases h with h | h <;> rw [h] <;> decide
 rcases qQ h1 h2 with h | h | h | h | h | h | h | h | h | h | h | h <;> subst h
 ·exact k (.inl m1)
 ·exact m2
 ·exact k (.inl m3)
 ·exact k (.inr m4)
 ·exact k (.inl m5)
 ·exact k (.inr m6)
 ·exact k (.inl m7)
 ·exact k (.inl m8)
 ·exact k (.inr m9)
 ·exact k (.inl m10)
 ·exact k (.inr m11)
 ·exact k (.inl m12)
theorem qR(y:Int):av y 1=0:=rfl
theorem jB{y m:Int}(h:1<=m):av y (m+1)=av y m+mlen y m:=by
 unfold av;have e:(m+1 - 1).toNat=(m - 1).toNat+1:=Ih
 rw [e,HF,HG,List.sum_append];have e2:(1:Int)+(((m - 1).toNat:Nat):Int)=m:=Ih
 simp only [Dq,DQ,List.sum_cons,List.sum_nil,e2];omega
theorem A9{a b c:Int}(l:Int)(h:a+b=c):a+(b+l)=c+l:=Ih
theorem kq{a b c:Int}(l:Int)(h:a+b=c):a+l+b=c+l:=Ih
theorem qS(y:Int):av y 1=0/\av y 2=31/\av y 3=59+ld y/\av y 4=90+ld y/\av y 5=120+ld y/\av y 6=151+ld y/\av y 7=181+ld y/\av y 8=212+ld y/\av y 9=243+ld y/\av y 10=273+ld y/\av y 11=304+ld y/\av y 12=334+ld y/\av y 13=365+ld y:=by
 obtain⟨m1,m3,m4,m5,m6,m7,m8,m9,m10,m11,m12⟩:=oK y;have e2:av y 2=31:=by rw [show av y 2=av y 1+mlen y 1 from jB (m:=1) Ce,m1];rfl
 have e3:av y 3=59+ld y:=by rw [show av y 3=av y 2+mlen y 2 from jB (m:=2) Ce,e2,qP];exact A9 _ rfl
 have e4:av y 4=90+ld y:=by rw [show av y 4=av y 3+mlen y 3 from jB (m:=3) Ce,e3,m3];exact kq _ rfl
 have e5:av y 5=120+ld y:=by rw [show av y 5=av y 4+mlen y 4 from jB (m:=4) Ce,e4,m4];exact kq _ rfl
 have e6:av y 6=151+ld y:=by rw [show av y 6=av y 5+mlen y 5 from jB (m:=5) Ce,e5,m5];exact kq _ rfl
 have e7:av y 7=181+ld y:=by rw [show av y 7=av y 6+mlen y 6 from jB (m:=6) Ce,e6,m6];exact kq _ rfl
 have e8:av y 8=212+ld y:=by rw [show av y 8=av y 7+mlen y 7 from jB (m:=7) Ce,e7,m7];exact kq _ rfl
 have e9:av y 9=243+ld y:=by rw [show av y 9=av y 8+mlen y 8 from jB (m:=8) Ce,e8,m8];exact kq _ rfl
 have e10:av y 10=273+ld y:=by rw [show av y 10=av y 9+mlen y 9 from jB (m:=9) Ce,e9,m9];exact kq _ rfl
 have e11:av y 11=304+ld y:=by rw [show av y 11=av y 10+mlen y 10 from jB (m:=10) Ce,e10,m10];exact kq _ rfl
 have e12:av y 12=334+ld y:=by rw [show av y 12=av y 11+mlen y 11 from jB (m:=11) Ce,e11,m11];exact kq _ rfl
 have e13:av y 13=365+ld y:=by rw [show av y 13=av y 12+mlen y 12 from jB (m:=12) Ce,e12,m12];exact kq _ rfl
 exact⟨qR y,e2,e3,e4,e5,e6,e7,e8,e9,e10,e11,e12,e13⟩
theorem uC{y m:Int}(h1:1<=m):∀k:Nat,m+k<=13->av y m<=av y (m+k)
 | 0,_=>by simp
 | k+1,h=>by
  have ih:=uC (y:=y) h1 k Ih;have e:m+((k+1:Nat):Int)=(m+k)+1:=Ih
  rw [e,jB Ih];have:=mlen_bd (y:=y) (m:=m+k) Ih Ih;omega
theorem qT{y m m':Int}(h1:1<=m)(h2:m<=m')(h3:m'<=13):av y m<=av y m':=by
 have:=uC (y:=y) h1 (m' - m).toNat Ih;rw [show m+(((m' - m).toNat:Nat):Int)=m' by omega] at this;exact this
theorem oM{y m:Int}(h1:1<=m)(h2:m<=12):0<=av y m/\av y m+mlen y m<=365+ld y:=by
 have a:=qT (y:=y) (m:=1) (m':=m) Ce h1 Ih;have b:=qT (y:=y) (m:=m+1) (m':=13) Ih Ih Ce;rw [jB h1] at b;have c:=(qS y).1;have e:=(qS y).2.2.2.2.2.2.2.2.2.2.2.2;omega
theorem uD{y m m':Int}(h1:1<=m)(h2:m < m')(h3:m'<=12):av y m+mlen y m<=av y m':=by
 have b:=qT (y:=y) (m:=m+1) (m':=m') Ih Ih Ih;rw [jB h1] at b;exact b
theorem j6.in{d y m n:Int}(h:j6 d y m n):aQ y<=d/\d < aQ (y+1):=by
 have:=oM (y:=y) h.m1 h.m12;have:=h.n1;have:=h.nl;have e:=h.eq;have:=qO y;unfold jt at e;omega
theorem j6.uniq{d y m n y' m' n':Int}(h:j6 d y m n)(h':j6 d y' m' n'):y=y'/\m=m'/\n=n':=by
 have a:=h.in;have b:=h'.in;have ey:y=y':=by
  rcases Hu y y' with z | z | z
  ·have:=nC (a:=y) (b:=y') Ih;omega
  ·exact z
  ·have:=nC (a:=y') (b:=y) Ih;omega
 subst ey;have e:=h.eq;have e':=h'.eq;unfold jt at e e';have em:m=m':=by
  rcases Hu m m' with z | z | z
  ·have:=uD (y:=y) h.m1 z h'.m12;have:=h.nl;have:=h'.n1;omega
  ·exact z
  ·have:=uD (y:=y) h'.m1 z h.m12;have:=h'.nl;have:=h.n1;omega
 subst em;exact⟨rfl,rfl,Ih⟩
def mB(d:Int):Int:=
 if d < aQ (2000+d*400 / 146097) then 2000+d*400 / 146097 - 1
 else if aQ (2000+d*400 / 146097+1)<=d then 2000+d*400 / 146097+1
 else 2000+d*400 / 146097
theorem Ba(d:Int):aQ (mB d)<=d/\d < aQ (mB d+1):=by
 unfold mB;have e:2000+d*400 / 146097 - 1+1=2000+d*400 / 146097:=Ih
 by_cases h:d < aQ (2000+d*400 / 146097)
 ·rw [Ij h,e];refine⟨?_,h⟩;unfold aQ lb at*;omega
 ·rw [Ii h];by_cases h2:aQ (2000+d*400 / 146097+1)<=d
  ·rw [Ij h2];refine⟨h2,?_⟩;unfold aQ lb at*;omega
  ·rw [Ii h2];omega
theorem Bb(y:Int):365*(y - 2000)+(y - 2000+3)/ 4 - (y - 2000+99)/ 100+(y - 2000+399)/ 400=aQ y:=by
 unfold aQ lb;omega
theorem Bc{d y m n:Int}(h:j6 d y m n)(h0:0<=d)(h1:d < aQ 10000):2000<=y/\y<=9999:=by
 have a:=h.in;have e0:aQ 2000=0:=Ce
 constructor
 ·by_cases z:2000<=y
  ·exact z
  ·have:=nC (a:=y) (b:=2000) Ih;omega
 ·by_cases z:y<=9999
  ·exact z
  ·have m1:aQ 10000<=aQ y:=by
    have:=nC (a:=9999) (b:=y) Ih;exact this
   omega
end Day
namespace L2
open PySem PySem.Spec PyProof.Rows PySem.W
def d2(m:Nat):List Nat:=[48+m / 10,48+m % 10]
def d4(y:Nat):List Nat:=[48+y / 1000,48+y / 100 % 10,48+y / 10 % 10,48+y % 10]
theorem qU:∀m:Fin 100,Txt.zfill (Dk (toString (m.val:Int))) 2=⟨(d2 m.val).toArray⟩:=td
theorem qV:∀m:Fin 100,F1 ⟨(d2 m.val).toArray⟩=some (m.val:Int):=td
theorem Bd:∀d:Fin 10,(HQ d.val).toNat=48+d.val:=Ce
theorem oN{d:Nat}(h:d < 10):(HQ d).toNat=48+d:=Bd ⟨d,h⟩
theorem oO{y:Nat}(h1:1000<=y)(h2:y < 10000):Dk (toString (y:Int))=⟨(d4 y).toArray⟩:=by
 have e:=KIN.signs_num y;rw [F2 Ce Ih,F2 Ce Ih,F2 Ce Ih,Nat.toDigits_of_lt_base Ih] at e;simp only [DR,DZ,Dq,DQ] at e;rw [oN Ih,oN Ih,oN Ih,oN Ih] at e;rw [show y / 10 / 10 / 10=y / 1000 by omega,show y / 10 / 10 % 10=y / 100 % 10 by omega] at e;show _=(⟨(d4 y).toArray⟩:Str);cases hs:Dk (toString (y:Int)) with
 | mk c=>
  rw [hs] at e;congr 1;apply Array.ext';rw [e];rfl
theorem uE{y:Nat}(h1:1000<=y)(h2:y < 10000):F1 ⟨(d4 y).toArray⟩=some (y:Int):=by
 rw [<-oO h1 h2];exact KIN.num_reads Ih Ih
def nF(y m n:Nat):List Nat:=d4 y++45::(d2 m++45::d2 n)
def jI(y m n:Int):Str:=⟨(nF y.toNat m.toNat n.toNat).toArray⟩
theorem Str.ext_list{a b:Str}(h:a.cps.toList=b.cps.toList):a=b:=by
 cases a;cases b;congr 1;exact Array.ext' h
theorem qW(a b:Str):(a++b).cps.toList=a.cps.toList++b.cps.toList:=by
 show(a.cps++b.cps).toList=_;exact Array.toList_append
theorem Be{y m n:Int}(hy:1000<=y/\y < 10000)(hm:0<=m/\m < 100)(hn:0<=n/\n < 100):
 Gb++Dk (toString y)++Dk "-"++Txt.zfill (Dk (toString m)) 2++Dk "-"++Txt.zfill (Dk (toString n)) 2=jI y m n:=by
 obtain⟨y,rfl⟩:=EN (show 0<=y by omega);obtain⟨m,rfl⟩:=EN hm.1;obtain⟨n,rfl⟩:=EN hn.1;have e1:=oO (y:=y) Ih Ih;have e2:=qU ⟨m,Ih⟩;have e3:=qU ⟨n,Ih⟩;simp only at e2 e3;rw [e1,e2,e3];apply Str.ext_list;simp only [qW];have h1:(Dk "-").cps.toList=[45]:=td
 have h2:Str.empty.cps.toList=[]:=rfl;rw [h1,h2];simp [jI,nF]
def d6(c:Nat):List Nat->List (List Nat)
 | []=>[[]]
 | x::xs=>if x=c then []::d6 c xs else match d6 c xs with | []=>[[x]] | p::ps=>(x::p)::ps
def lR(c:Nat):List (List Nat)->List Nat
 | []=>[]
 | [p]=>p
 | p::q::r=>p++c::lR c (q::r)
theorem Bf(c:Nat):∀l,d6 c l≠[]
 | []=>by simp [d6]
 | x::xs=>by
  unfold d6;split
  ·simp
  ·split <;> simp
theorem qX(c:Nat):∀p:List Nat,c ∉ p->d6 c p=[p]
 | [],_=>rfl
 | x::xs,h=>by
  have hx:x≠c:=λe=>h (by simp [e]);have hr:c ∉ xs:=λe=>h (by simp [e]);unfold d6;rw [Ii hx,qX c xs hr]
theorem oP(c:Nat)(l:List Nat):∀p:List Nat,c ∉ p->d6 c (p++c::l)=p::d6 c l
 | [],_=>by show d6 c (c::l)=_;rw [d6,Ij rfl]
 | x::xs,h=>by
  have hx:x≠c:=λe=>h (by simp [e]);have hr:c ∉ xs:=λe=>h (by simp [e]);show d6 c (x::(xs++c::l))=_;rw [d6,Ii hx,oP c l xs hr]
theorem uF(c:Nat):∀ps:List (List Nat),ps≠[]->(∀p∈ps,c ∉ p)->d6 c (lR c ps)=ps
 | [],h,_=>absurd rfl h
 | [p],_,h=>qX c p (h p Il)
 | p::q::r,_,h=>by
  show d6 c (p++c::lR c (q::r))=_;rw [oP c _ p (h p Il),uF c (q::r) Il (λx hx=>h x (by simp at hx⊢;exact .inr hx))]
theorem oQ(c:Nat):∀ps:List Str,(HB ⟨#[c]⟩ ps).cps.toList=lR c (ps.map λp=>p.cps.toList)
 | []=>rfl
 | [p]=>rfl
 | p::q::r=>by
  have ih:=oQ c (q::r);show((p++⟨#[c]⟩++HB ⟨#[c]⟩ (q::r)):Str).cps.toList=_;rw [qW,qW,ih];show p.cps.toList++[c]++lR c _=p.cps.toList++c::lR c _;simp
theorem uG(x:Str)(c:Nat):(Txt.split x ⟨#[c]⟩).map (λp=>p.cps.toList)=d6 c x.cps.toList:=by
 have hj:=Hl x ⟨#[c]⟩;have hf:=StrLaws.split_free x c;by_cases hn:Txt.split x ⟨#[c]⟩=[]
 ·exfalso
  revert hn
  unfold Txt.split;split
  ·simp
  ·split
   ·simp
   ·intro h;have:=Hl x ⟨#[c]⟩;have hl:=congrArg Ib h;rw [PyProof.Rows.len_partsBetween] at hl;simp at hl
 ·rw [<-hj,oQ,uF c _ (by simpa using hn) (λp hp=>by
   obtain⟨q,hq,rfl⟩:=FZ.mp hp;exact hf q hq)]
  rw [hj]
theorem Bg{y m n:Int}:Txt.split (jI y m n) (Dk "-")=[⟨(d4 y.toNat).toArray⟩,⟨(d2 m.toNat).toArray⟩,⟨(d2 n.toNat).toArray⟩]:=by
 have e:Dk "-"=⟨#[45]⟩:=td
 rw [e];have h:=uG (jI y m n) 45;have e2:(jI y m n).cps.toList=d4 y.toNat++45::(d2 m.toNat++45::d2 n.toNat):=by simp [jI,nF]
 rw [e2,oP 45 _ _ (by simp [d4];omega),oP 45 _ _ (by simp [d2];omega),qX 45 _ (by simp [d2];omega)] at h;have inj:∀{a b:List Str},a.map (λp=>p.cps.toList)=b.map (λp=>p.cps.toList)->a=b:=λ{a b} h=>by
  induction a generalizing b with
  | nil=>cases b with
   | nil=>rfl
   | cons _ _=>simp at h
  | cons x xs ih=>cases b with
   | nil=>simp at h
   | cons z zs=>
    simp only [Dq,Dy] at h;rw [Str.ext_list h.1,ih h.2]
 exact inj (h.trans Il)
theorem oR(y m n:Int):(jI y m n).length=10:=by simp [jI,nF,d4,d2,Str.length]
section
variable {X:Cx} {H0:Hp} {O0:Ex}
def jg(to:DT)(t:DT):DT:=λδ Q=>to δ λx=>∃z:Str,x= .str z/\t δ λy=>∃(ys:List Str),y= .tuple (ys.map .str)/\(ys.map (·.length)).sum+ys.length*z.length<=16777216/\Q (.str (Txt.join z ys))
def jh(t:DA)(u:DT):DA:=λδ Q=>t δ λds=>ds.length<=1000/\u δ λy=>∃i:Int,y= .int i/\0<=i/\i<=1000/\Q (Dx i.toNat ds).flatten
end
open PySem PySem.Spec PyProof.Rows PySem.W PySem.Calls
def Bh(xs ys:List Im):List Im:=List.zipWith (λx y=>.tuple [x,y]) xs ys
def ji(ta:DA)(g:DG)(tc:DB)(te:DT)(k:Nat)(fr:List Nat):DA:=λδ Q=>ta δ λds=>∃xs ys,ds=[.tuple xs,.tuple ys]/\xs.length=ys.length/\xs.length<=Ir/\kK g tc te (aP k fr δ) (Bh xs ys) Q
theorem Bi(a b:Int):kU (.int a) (.int b)=true:=rfl
theorem Bj(a b:Str):kU (.str a) (.str b)=true:=rfl
theorem Bk(a b:Bool):kU (.bl a) (.bl b)=true:=rfl
theorem Bl(b:Int):kU .non (.int b)=true:=rfl
theorem Bm(b:Int):kU (.int b) .non=true:=rfl
section
variable {x y z w:Option Sl} {l:Dl} {i j k m:Nat} {P:Im->Prop}
theorem jj:cf j ((x::l).set 0 y) P=cf j (y::l) P:=rfl
theorem jk:cf j ((x::l).set (i+1) y) P=cf j (x::l.set i y) P:=rfl
theorem jl:cf j (((x::l).set 0 y).set k z) P=cf j ((y::l).set k z) P:=rfl
theorem jm:cf j (((x::l).set (i+1) y).set k z) P=cf j ((x::l.set i y).set k z) P:=rfl
theorem jn:cf j ((((x::l).set 0 y).set k z).set m w) P=cf j (((y::l).set k z).set m w) P:=rfl
theorem jo:cf j ((((x::l).set (i+1) y).set k z).set m w) P=cf j (((x::l.set i y).set k z).set m w) P:=rfl
end
section
variable {K:Dj} {mg:Str->Option Io} {h:IC} {x q:Str} {st:II} {f C:Ip} {fd:IB} {ps:List Str}
structure Fn (K:Dj) (mg:Str->Option Io) (x:Str) (st:II) (f:Ip) (fd:IB) (ps:List Str):Prop where
 F:ju K x x st f fd
 m:mg x=some (.ref f)
 b:jW K fd ps []
structure Mn (K:Dj) (x q:Str) (st:II) (f:Ip) (fd:IB) (ps:List Str):Prop where
 F:ju K x q st f fd
 b:jW K fd ps []
structure DfT (K:Dj) (x:Str) (st:II) (f:Ip) (fd:IB):Prop where
 a:DD K IA x=some (some (.ref f))
 F:ju K x x st f fd
structure DmT (K:Dj) (C:Ip) (x q:Str) (st:II) (f:Ip) (fd:IB):Prop where
 a:ES K (.ref C) x=some (some (.ref f))
 i:Hm K (.ref f)=true
 F:ju K x q st f fd
theorem DfT.of{oc:Io}{od an:Option Ip}{osl:Array (Option Io)}{kV doc pm cdv ct:Io}(a:DD K IA x=some (some (.ref f)))(l:K.lookup f=some ⟨oc,od,.func (E5 x x (kh st) (jG st) (ax st) .none kV doc pm an cdv ct),osl⟩)
 (c:F0 K cdv x=true)(k:Fm K (.ref f)=true):DfT K x st f (E5 x x (kh st) (jG st) (ax st) .none kV doc pm an cdv ct):=⟨a,tj l c k⟩
theorem DmT.of{oc:Io}{od an:Option Ip}{osl:Array (Option Io)}{kV doc pm cdv ct:Io}(a:ES K (.ref C) x=some (some (.ref f)))(i:Hm K (.ref f)=true)(l:K.lookup f=some ⟨oc,od,.func (E5 x q (kh st) (jG st) (ax st) .none kV doc pm an cdv ct),osl⟩)
 (c:F0 K cdv q=true)(k:Fm K (.ref f)=true):DmT K C x q st f (E5 x q (kh st) (jG st) (ax st) .none kV doc pm an cdv ct):=⟨a,i,tj l c k⟩
theorem DfT.fn(D:DfT K x st f fd)(X:K.In h)(G:h.Ns IA mg)(hb:∀(kV doc pm:Io) (an:Option Ip) (cdv ct:Io) (us:List Io),us.length=ps.length->bindArgs (E5 x x (kh st) (jG st) (ax st) .none kV doc pm an cdv ct) ⟨us,[]⟩=pure (ps.zip us):=by walk_at "b"):Fn K mg x st f fd ps:=⟨D.F,Es X G D.a,D.F.binds hb⟩
theorem DmT.fn(D:DmT K C x q st f fd)(hb:∀(kV doc pm:Io) (an:Option Ip) (cdv ct:Io) (us:List Io),us.length=ps.length->bindArgs (E5 x q (kh st) (jG st) (ax st) .none kV doc pm an cdv ct) ⟨us,[]⟩=pure (ps.zip us):=by walk_at "b"):Mn K x q st f fd ps:=⟨D.F,D.F.binds hb⟩
theorem Fn.kp(N:Fn K mg x st f fd ps):Fm K (.ref f)=true:=N.F.kp
end
section
variable {X:Cx} {k:Nat} {f:Ip} {fd:IB} {ps:List Str} {sp:Sp} {st:II} {x:Str} {p pos:Pos} {e:Iu} {es:List Iu} {t:TA}
theorem jO(F:aA X.prog X.w X.K X.mg X.base CX0 k f fd ps sp)(hr:aU k X.A)(hg:Gl X x)(N:Fn X.K X.mg x st f fd ps)
 (ha:PA X (e::es) t)(hdb:(x==("__debug__":Str))=false:=by decide)(he:Iw (e::es) X.env=(false,eval e X.env)::Iw es X.env:=by rfl)(hpl:(IS pos (Iw es X.env)).any (·.1)=false:=by rfl):
 PE X (.Call (.Name x p) (e::es) [] pos) (mP sp [] E0 t):=wZ F hr hg N.m N.kp N.b .nil tf ha hdb he hpl
end
theorem jv.of{sc:IU}{N N':List Str}{k:Nat}{fr:List Nat}{scope:IU}(a:scope.kind= .function:=by rfl)(b:∀y∈scope.names,y.2= .cell->scope.names.lookup y.1=some .cell:=by decide+kernel)(c:∀y∈scope.names,y.2= .local->scope.names.lookup y.1=some .local:=by decide+kernel)(d:N'.Nodup:=by decide+kernel)(e:fr.map (λj=>N[j]?)=(N'.drop k).map some:=by rfl)(f:∀x∈N'.drop k,scope.names.lookup x=some .free:=by decide+kernel)(g:∀y∈scope.names,y.2= .free->sc.names.lookup y.1=some .cell\/sc.names.lookup y.1=some .free:=by decide+kernel)(h:∀x∈N'.drop k,sc.names.lookup x=some .cell\/sc.names.lookup x=some .free:=by decide+kernel)(i:N'.length=k+fr.length:=by rfl):jv sc N N' k fr scope:=⟨a,b,c,d,e,f,g,h,i⟩
theorem aL.of{N P:List Str}{sc:IU}(a:sc.kind= .function:=by rfl)(b:sc.isCoroutine=false:=by rfl)(c:sc.isGenerator=false:=by rfl)(d:N.Nodup:=by decide+kernel)(e:N.take P.length=P:=by rfl)(f:∀x∈P,sc.names.lookup x=some .local\/sc.names.lookup x=some .cell:=by decide+kernel)(g:∀y∈sc.names,y.2≠ .free:=by decide+kernel):aL N P sc:=⟨a,b,c,d,e,f,g⟩
section
variable {X:Cx} {H0:Hp} {O0:Ex} {pos:Pos} {a b e:Iu} {es:List Iu} {ta tb t:DT} {u:DA} {r:R2} {rd:Im->Im->(Im->Prop)->Prop}
theorem aF{op:Operator}(ho:aI X (Ja op) r)(hd:bw X.K r rd)(ha:DE X H0 O0 a ta)(hb:DE X H0 O0 b tb):DE X H0 O0 (.BinOp a op b pos) (aX rd ta tb):=yQ ho hd (df ha) (df hb)
theorem aW(ho:mi X r)(hd:bw X.K r rd)(ha:DE X H0 O0 a ta)(hb:DE X H0 O0 b tb)(hs:∀v u,subscripted b false v u=operate [v,u] (getItem v u):=by intro _ _;rfl):DE X H0 O0 (.Subscript a b pos) (aX rd ta tb):=jN ho hd (df ha) (df hb) hs
theorem jJ{op:CmpOp}(ho:aI X (IJ op) r)(hd:bw X.K r rd)(ha:DE X H0 O0 a ta)(hb:DE X H0 O0 b tb)(hm:IY op b=false):PT X (.Compare a [op] [b] pos) (bF X.K H0 O0 (bx (aX rd ta tb))):=yR ho hd (df ha) (df hb) hm
theorem aC(h:DE X H0 O0 e t)(hs:PA X es (kI X.K H0 O0 u))(he:Iw (e::es) X.env=(false,eval e X.env)::Iw es X.env:=by rfl):PA X (e::es) (kI X.K H0 O0 (bU t u)):=yT (df h) hs he
theorem ay{k j:Nat}{f:Ip}{fd:IB}{ps:List Str}{F:List Im->(Im->Prop)->Prop}{st:II}{x:Str}{p:Pos}(G:aA X.prog X.w X.K X.mg X.base CX0 k f fd ps (bA X.K F))(hr:aU j X.A)(N:Fn X.K X.mg x st f fd ps)
 (ha:PA X (e::es) (j4 X.K H0 O0 u))(hk:k<=j:=by decide)(hg:Gl X x:=by exact rfl)(hdb:(x==("__debug__":Str))=false:=by decide)(he:Iw (e::es) X.env=(false,eval e X.env)::Iw es X.env:=by rfl)(hpl:(IS pos (Iw es X.env)).any (·.1)=false:=by rfl):
 DE X H0 O0 (.Call (.Name x p) (e::es) [] pos) (bW F u):=PE.imp (jO G (hr.mono hk) hg N ha hdb he hpl) yS
end
def uH(f:Obj->Obj):Prop:=∀o,(f o).dict=o.dict/\(o.isFreed=false->(f o).isFreed=false)
inductive QT {α:Type}:Sem α->Prop
 | pure (a:α):QT (.pure a)
 | raise (e:Io):QT (.raise e)
 | uns (w:String):QT (.unsupported w)
 | rule {t:String} {k:Unit->Sem α}:(∀x,QT (k x))->QT (.rule t k)
 | at {p:Pos} {k:Unit->Sem α}:(∀x,QT (k x))->QT (.at p k)
 | load {a:Ip} {p:Option Io} {k:Obj->Sem α}:(∀x,QT (k x))->QT (.load a p k)
 | update {a:Ip} {p:Option Io} {f:Obj->Obj} {k:Unit->Sem α}:uH f->(∀x,QT (k x))->QT (.update a p f k)
 | alloc {o:Obj} {k:Ip->Sem α}:(∀x,QT (k x))->QT (.alloc o k)
 | alive {a:Ip} {k:Option Obj->Sem α}:(∀x,QT (k x))->QT (.loadIfAlive a k)
 | point {l:List Io} {k:Unit->Sem α}:(∀x,QT (k x))->QT (.point l k)
 | reg {a:Ip} {k:Unit->Sem α}:QT (.register a k)
 | fresh {k:Tok->Sem α}:(∀x,QT (k x))->QT (.fresh k)
 | ask {k:Setting->Sem α}:(∀x,QT (k x))->QT (.ask k)
 | stack {k:List (Code×Pos)->Sem α}:(∀x,QT (k x))->QT (.stack k)
def DK(h h':IC):Prop:=∀b o,h.get? b=some o->∃o',h'.get? b=some o'/\o'.dict=o.dict
theorem DK.refl(h:IC):DK h h:=λb o e=>⟨o,e,rfl⟩
theorem DK.trans{h1 h2 h3:IC}(x:DK h1 h2)(y:DK h2 h3):DK h1 h3:=λb o e=>by
 obtain⟨o',e',d'⟩:=x b o e;obtain⟨o2,e2,d2⟩:=y b o' e';exact⟨o2,e2,d2.trans d'⟩
theorem QT.and{α:Type}{M:Jq}{Γ:PySem.Ctx}{E:Io->Pos->Iq->Prop}{Q:α->Pos->Iq->Prop}{t:Sem α}(h:QT t):∀{p:Pos}{s:Iq},Ft M Γ t Q E p s->Ft M Γ t (λa p' s'=>Q a p' s'/\DK s.heap s'.heap) (λe p' s'=>E e p' s'/\DK s.heap s'.heap) p s:=by
 have lift:∀{t:Sem α}{h0:IC}{p:Pos}{s:Iq},DK h0 s.heap->Ft M Γ t (λa p' s'=>Q a p' s'/\DK s.heap s'.heap) (λe p' s'=>E e p' s'/\DK s.heap s'.heap) p s->Ft M Γ t (λa p' s'=>Q a p' s'/\DK h0 s'.heap) (λe p' s'=>E e p' s'/\DK h0 s'.heap) p s:=λhd hw=>
  Sem.wp_mono _ _ _ (λa p' s' z=>⟨z.1,hd.trans z.2⟩) (λa p' s' z=>⟨z.1,hd.trans z.2⟩) _ _ hw
 induction h with
 | pure a=>intro p s w;rw [Ft] at w⊢;exact⟨w,.refl _⟩
 | raise e=>intro p s w;rw [Ft] at w⊢;exact⟨w,.refl _⟩
 | uns e=>intro p s w;rw [Ft] at w;exact w.elim
 | rule _ ih=>intro p s w;rw [Ft] at w⊢;exact ih _ w
 | «at» _ ih=>intro p s w;rw [Ft] at w⊢;exact ih _ w
 | load _ ih=>
  intro p s w;rw [Ft] at w⊢;obtain⟨o,e,w⟩:=w;exact⟨o,e,ih _ w⟩
 | @update a _ f _ hf _ ih=>
  intro p s w;rw [Ft] at w⊢;refine⟨w.1,lift (λb o e=>?_) (ih _ w.2)⟩;by_cases hb:a=b
  ·subst hb;have fo:o.isFreed=false:=(Heap.get?_some_iff.mp e).2;exact⟨f o,FL f e ((hf o).2 fo),(hf o).1⟩
  ·exact⟨o,(FG _ f hb).trans e,rfl⟩
 | alloc _ ih=>
  intro p s w;rw [Ft] at w⊢;exact lift (λb o e=>⟨o,Dr _ e,rfl⟩) (ih _ w)
 | alive _ ih=>intro p s w;rw [Ft] at w⊢;exact ih _ w
 | point _ ih=>intro p s w;rw [Ft] at w⊢;exact ih _ w
 | reg=>intro p s w;rw [Ft] at w;exact w.elim
 | fresh _ ih=>intro p s w;rw [Ft] at w⊢;exact ih _ w
 | ask _ ih=>intro p s w;rw [Ft] at w⊢;exact ih _ w
 | stack _ ih=>intro p s w;rw [Ft] at w⊢;exact ih _ w
theorem QT.bind{α β:Type}{x:Sem α}{f:α->Sem β}(h:QT x)(hf:∀a,QT (f a)):QT (x >>=f):=by
 show QT (Sem.bind x f)
 induction h with
 | pure a=>exact hf a
 | raise e=>exact .raise e
 | uns w=>exact .uns w
 | rule _ ih=>exact .rule ih
 | «at» _ ih=>exact .at ih
 | load _ ih=>exact .load ih
 | update k _ ih=>exact .update k ih
 | alloc _ ih=>exact .alloc ih
 | alive _ ih=>exact .alive ih
 | point _ ih=>exact .point ih
 | reg=>exact .reg
 | fresh _ ih=>exact .fresh ih
 | ask _ ih=>exact .ask ih
 | stack _ ih=>exact .stack ih
theorem Bn(f:Array Io->Array Io):uH (Obj.mapFields f):=λo=>by
 obtain⟨c,d,dt,sl⟩:=o;cases dt <;> exact⟨rfl,λh=>h⟩
theorem Bo(v:Io):QT (fieldsOf v):=by
 unfold fieldsOf;split
 ·refine .bind (.load λx=>.pure x) λo=>?_;split
  ·exact .pure _
  ·exact .uns _
 ·exact .uns _
theorem oS(v:Io)(i:Nat):QT (Ic v i):=by
 unfold Ic;refine .bind (Bo v) λvs=>?_;split
 ·exact .pure _
 ·exact .uns _
theorem qY(v:Io)(i:Nat)(x:Io):QT (setField v i x):=by
 unfold setField;split
 ·unfold updateField;refine .bind (.load λx=>.pure x) λo=>?_;split
  ·split
   ·exact .update (Bn _) λx=>.pure x
   ·exact .uns _
  ·exact .uns _
 ·exact .uns _
theorem uI:∀l:List Env,QT (readyFrames l)
 | []=>.pure _
 | env::outer=>by
  unfold readyFrames;split
  ·refine .bind (.load λx=>.pure x) λo=>?_;split
   ·exact .pure _
   ·refine .bind ?_ λa=>.bind ?_ λb=>.bind (.update (λo=>⟨rfl,?_⟩) λx=>.pure x) λ_=>uI outer
    ·unfold behindIsImport;split
     ·exact .pure _
     ·split
      ·exact .pure _
      ·exact .bind (oS _ _) λ_=>.pure _
    ·unfold keptBack;split
     ·split
      ·exact .pure _
      ·unfold underTheClaimsCaller;exact .bind (.bind (.stack λx=>.pure x) λ_=>.pure _) λ_=>.pure _
     ·exact .pure _
    ·obtain⟨c,d,dt,sl⟩:=o;cases dt <;> exact λh=>h
  ·exact .uns _
theorem Bp(env:Env):QT (Hb env):=by
 unfold Hb frameEnvs;refine .bind (.bind (.stack λx=>.pure x) λ_=>.pure _) λl=>.bind ?_ λo=>?_
 ·generalize l.dropWhile _=m;cases m with
  | nil=>exact .pure _
  | cons a r=>unfold frameObject;exact .bind (uI _) λ_=>.pure _
 ·split
  ·exact .pure _
  ·exact .uns _
theorem Bq(f:Ip)(b:Bool):QT (entryPlaceOf f b):=by
 unfold entryPlaceOf;refine .bind (.stack λx=>.pure x) λacts=>?_;split <;> exact .pure _
theorem Br(a b c d e:Io)(l:List Io):QT (Gn a b c d e l):=by
 have fin:∀x:Data,QT (newObjAsIs (.type "traceback") x):=λx=>by
  unfold newObjAsIs;exact .bind (.alloc λx=>.pure x) λ_=>.pure _
 have key:∀xs:Array Io,QT (newObj (.type "traceback") (.fields xs)):=λxs=>by
  unfold newObj;dsimp only;split
  ·exact .bind (.uns _) λ_=>fin _
  ·exact fin _
 unfold Gn newFields;exact key _
theorem uJ(e:Io)(env:Env):QT (JC e env):=by
 unfold JC;split
 ·refine .bind (oS _ _) λh=>?_;have tail:∀f:Ip,QT (do setField e 1 (<-Gn h (<-Hb env) .none (rawInt f) .none (<-entryPlaceOf f (h != .none)))):=λf=>.bind (Bp env) λ_=>.bind (Bq _ _) λ_=>.bind (Br ..) λ_=>qY ..;split
  ·refine .bind (oS _ _) λg=>?_;split
   ·exact .pure _
   ·exact .bind (qY ..) λ_=>tail _
  ·exact tail _
 ·exact .uns _
theorem uK(e:Io)(o:Option Ip):QT (setFlight e o):=by
 unfold setFlight;refine .bind (oS _ _) λh=>?_;split
 ·exact qY ..
 ·exact .pure _
theorem Bs(env:Env)(e:Io):QT (leaving env e):=by
 unfold leaving;exact .bind (uJ _ _) λ_=>uK _ _
theorem Bt{M:Jq}{A:IH}{env:Env}{e:Io}{Q:Unit->Iq->Prop}{E:Io->Iq->Prop}{s:Iq}(h:Iz M A (leaving env e) Q E s):Iz M A (leaving env e) (λa s'=>Q a s'/\DK s.heap s'.heap) (λv s'=>E v s'/\DK s.heap s'.heap) s:=
 fun Γ p hΓ=>(Bs env e).and (h Γ p hΓ)
def bP(P:IE)(w:IF):cC:=λouter H s E ev s'=>∃(e:Ip)(cls a0:Io)(B:IC)(H':Hp),ev= .ref e/\s'.os=s.os/\Jp s'.gens/\Gi B outer e cls a0 s'.heap/\aH P w H' B/\
 Un (bb outer) [] H H' s.heap s'.heap/\(∀b o,s.heap.get? b=some o->H b=none->b ∉ bb outer->B.get? b=some o)/\(∀b o,s.heap.get? b=some o->b ∉ bb outer->∃o',B.get? b=some o')/\∃oe,s'.heap.get? e=some oe/\E cls oe.dict H'
def jZ(H:Hp)(e:Ip):Hp:=λb=>if b=e then none else H b
theorem mC{H:Hp}{e b:Ip}(h:b≠e):jZ H e b=H b:=Ii h
theorem aH.out{P:IE}{w:IF}{H:Hp}{h:IC}(x:aH P w H h){e:Ip}{φ:IC->Prop}(he:H e=some (.ext φ)):aH P w (jZ H e) h:=λa o q=>by
 have ne:a≠e:=λz=>by rw [z] at q;unfold jZ at q;rw [Ij rfl] at q;cases q
 rw [mC ne] at q;have k:∀b u,H b=some u->(∀φ,u≠ .ext φ)->jZ H e b=some u:=λb u hb hn=>by
  rw [mC (λz=>by rw [z,he] at hb;cases hb;exact hn φ rfl)];exact hb
 exact(x a o q).stay (λ_ _ _ z=>z) (λb z=>k b _ z λ_ y=>by cases y) (λb xs z=>k b _ z λ_ y=>by cases y) λb z y=>k b _ y λ_ y=>by cases y
section
variable {P:IE} {w:IF} {K:Dj} {mg:Str->Option Io} {base:IC} {N:List Str} {qual:Str} {scope:IU} {f:Ip} {cd:Io} {A:IH} {outer:List Env} {s:Iq} {H:Hp} {E:XK}
theorem Bu{JI:List (Ip×Obj)}{σ:St}{H1:Hp}{s1:Iq}{e:Ip}{oe:Obj}{vs:Array Io}{a0:Io}{φ:IC->Prop}
 (I:aa (bp (bP P w) P w K mg base N qual scope f cd A outer s H E) JI σ H1 s1)(he:s1.heap.get? e=some oe)(hd:oe.data= .fields vs)(h0:vs[0]?=some a0)(h1:vs[1]?=some .none)(ne0:s.heap.get? e=none)(hE:H1 e=some (.ext φ))
 (q:E oe.cls oe.dict (jZ H1 e)):(bp (bP P w) P w K mg base N qual scope f cd A outer s H E).xe (.ref e) s1:=by
 have st:=I.stack;have sf:=I.stkFree;have ub:Un (bb outer) [] H H1 s.heap s1.heap:=I.base;have fo:s1.heap.FunFrames base outer:=I.funs;have hin:∀env∈(bp (bP P w) P w K mg base N qual scope f cd A outer s H E).stack,∀a,env.frame=some a->a∈e::bb (bp (bP P w) P w K mg base N qual scope f cd A outer s H E).stack:=λenv he a hf=>EK _ (Gu.mpr ⟨env,he,hf⟩);have bn:=hideAll_none (e::bb (bp (bP P w) P w K mg base N qual scope f cd A outer s H E).stack) (h:=s1.heap) (b:=e) E4;show Iz (Iy P w) _ (leaving _ (.ref e)) _ _ _;refine IM (Bt (Q:=λ_ s'=>∃h',s'={s1 with heap:=h'}/\Heap.LeftW (hideAll s1.heap (e::bb (bp (bP P w) P w K mg base N qual scope f cd A outer s H E).stack)) (bp (bP P w) P w K mg base N qual scope f cd A outer s H E).stack e oe.cls a0 s1.heap h') (wpAny_leaving_firstW I.ok.frames (funFrames_hide st hin) rfl he (λb o z=>of_hideAll _ z) bn hd h1 h0 λh' hL=>⟨h',rfl,hL⟩)) (λ_ s' hs=>?_) (λ_ _ z=>z.1);obtain⟨⟨h2,rfl,k1,⟨_,_,k2⟩,k3,k4⟩,dk⟩:=hs;have nst:∀b o,s.heap.get? b=some o->b ∉ bb outer->b ∉ e::bb (bp (bP P w) P w K mg base N qual scope f cd A outer s H E).stack:=λb o eb hb hm=>by
  rcases EL.mp hm with z | hm
  ·rw [z,ne0] at eb;cases eb
  rcases EL.mp (I.stkSub b hm) with z | z
  ·have h1:=Ds eb;have h2:=I.ok.above;rw [<-z] at h2;exact absurd (DU h1 h2) (Fw _)
  ·exact hb z
 have up:∀b∈bb outer,∀o,s1.heap.get? b=some o->∃sl,h2.get? b=some {o with slots:=sl}:=λb hb o eo=>by
  obtain⟨_,o',ho',hd⟩:=fo.mem hb;rw [eo] at ho';cases ho';exact k4 b o eo hd
 have out:∀b o,s.heap.get? b=some o->jZ H1 e b=H1 b:=λb o eb=>mC λz=>by rw [z,ne0] at eb;cases eb
 have oux:∀b u,H1 b=some u->(∀φ,u≠ .ext φ)->jZ H1 e b=some u:=λb u hb hn=>by
  rw [mC (λz=>by rw [z,hE] at hb;cases hb;exact hn φ rfl)];exact hb
 obtain⟨oe',he',dd⟩:=dk e oe he;refine⟨e,oe.cls,a0,_,jZ H1 e,rfl,I.os,I.bare,⟨k1,bn,k2,k3⟩,(aH.out I.hok hE).hide (λb hb=>?_),⟨λb o eb n hb hx'=>?_,λb o eb n hb hx'=>?_,λb o eb n hx'=>?_,λb o eb hx'=>?_,λb xs z=>oux b _ (ub.tups b xs z) λ_ y=>(by cases y),λb o u z=>oux b _ (ub.frzs b o u z) λ_ y=>(by cases y),λb ps z=>?_⟩,λb o eb n hb=>?_,λb o eb hb=>?_,oe',he',by rw [dd];exact q⟩
 ·rcases EL.mp hb with z | z
  ·rw [z];exact Ij rfl
  ·unfold jZ;split
   ·rfl
   ·exact sf b z
 ·exact k1 b o (JB _ (ub.keep b o eb n hb hx') (nst b o eb hb))
 ·obtain⟨sl,es⟩:=ub.slot b o eb n hb hx';obtain⟨sl',es'⟩:=up b hb _ es;exact⟨sl',es'⟩
 ·rw [out b o eb];exact ub.free b o eb n hx'
 ·obtain⟨o',eo'⟩:=ub.there b o eb hx';by_cases hb:b∈bb outer
  ·obtain⟨sl',es'⟩:=up b hb _ eo';exact⟨_,es'⟩
  ·exact⟨o',k1 b o' (JB _ eo' (nst b o eb hb))⟩
 ·obtain⟨more,hm⟩:=ub.tbls b ps z;exact⟨more,oux b _ hm λ_ y=>(by cases y)⟩
 ·exact JB _ (ub.keep b o eb n hb Il) (nst b o eb hb)
 ·obtain⟨o',eo'⟩:=ub.there b o eb Il;exact⟨o',JB _ eo' (nst b o eb hb)⟩
end
def jC(e:Ip)(C:Io)(dd:Option Ip)(h:IC):Prop:=∃o,h.get? e=some o/\o.cls=C/\o.dict=dd/\notCls o=true
theorem Bv{M:Jq}{A:IH}{env:Env}{e:Io}{Q:Unit->Iq->Prop}{E:Io->Iq->Prop}{s:Iq}(h:Iz M A (JC e env) Q E s):Iz M A (JC e env) (λa s'=>Q a s'/\DK s.heap s'.heap) (λv s'=>E v s'/\DK s.heap s'.heap) s:=
 fun Γ p hΓ=>(uJ e env).and (h Γ p hΓ)
theorem uL{M:Jq}{A:IH}{e:Io}{o:Option Ip}{Q:Unit->Iq->Prop}{E:Io->Iq->Prop}{s:Iq}(h:Iz M A (setFlight e o) Q E s):Iz M A (setFlight e o) (λa s'=>Q a s'/\DK s.heap s'.heap) (λv s'=>E v s'/\DK s.heap s'.heap) s:=
 fun Γ p hΓ=>(uK e o).and (h Γ p hΓ)
section
variable {X:Cx} {CX:cC} {k:Nat} {f C C':Ip} {fd:IB} {ps:List Str} {sp:Sp} {x c n:Str} {p cp ep np hp tp:Pos} {a:Iu} {as:List Iu} {b₀:II} {suite:List II} {t:TA} {i j:Nat} {ts:TS} {y:Str} {yp:Pos}
def Bw(sp:Sp)(t:TA)(C:Ip)(i j:Nat)(ts:TS):TS:=λD σ H=>t σ H λvs H1=>sp vs H1 (λv H2=>D.nx (σ.set j (some v)) H2) (λcls dd H2=>cls= .ref C/\∀e,H2 e=none->
 ts {nx:=λσ' H'=>D.nx (σ'.set i none) H',rt:=λ_ _=>False} (σ.set i (some (.ref e))) (ah H2 e (.ext (jC e (.ref C) dd))))
end
open PySem PySem.Spec PyProof.Rows PySem.W PySem.Calls PySem.Builtin.ObjectAttr PySem.Builtin
section
variable {prog:IE} {w:IF} {A:IH} {E:Io->Iq->Prop} {s:Iq} {K:Dj} {x C:Ip} {ox:Obj} {od:Obj} {name:Str} {v:Io}
theorem Bx{tk:Tok}{Q:Fin->Iq->Prop}(Z:jF K C)(X:K.In s.heap)(J:FK s.heap x ox C (some od))(hf:findObj K C (some od) name=some (.value v))(hq:Q (.done (.ret v)) s):
 Iz (Iy prog w) A (Builtin.«object.__getattribute__» ⟨[.ref x,.str name tk],[]⟩) Q E s:=by
 obtain⟨hh,gg,dr,tt,os⟩:=s;have p:cb x (.ref C) hh:=⟨ox,J.at_,J.cls⟩;have L0:=cb.type (M:=Iy prog w) p;have LF:=looks_find (M:=Iy prog w) X J hf;unfold Builtin.«object.__getattribute__»
 repeat (first | with_reducible refine ID (L0.at ?_) | with_reducible refine ID (LF.at ?_) | wp_step)
 exact hq
theorem By{tk:Tok}{R:Result->Iq->Prop}(Z:jF K C)(X:K.In s.heap)(J:FK s.heap x ox C (some od))(hf:findObj K C (some od) name=some (.value v))(hq:R (.ok (.ret v)) s):
 Jr (Iy prog w) A (.call (.builtin "BaseException.__getattribute__") ⟨[.ref x,.str name tk],[]⟩) R s:=
 Jc F.excAttr_ValueError.ga.plain F.entry_bexc_ga (tO Z X ⟨ox,J.at_,J.cls⟩ (Bx Z X J hf hq))
theorem Bz{tk:Tok}{fill expr:Bool}{Q:Io->Iq->Prop}(Z:jF K C)(X:K.In s.heap)(J:FK s.heap x ox C (some od))(hf:findObj K C (some od) name=some (.value v))(hv:handedIn v=true)(hq:Q v s):
 Iz (Iy prog w) A (getAttrBy (.ref x) (.str name tk) fill expr) Q E s:=by
 obtain⟨hh,gg,dr,tt,os⟩:=s;have p:cb x (.ref C) hh:=⟨ox,J.at_,J.cls⟩;have L0:=cb.type (M:=Iy prog w) p;have L1:=Je (M:=Iy prog w) X Z.ga;have L2:=Je (M:=Iy prog w) X Z.hk;have f3:=F.excAttr_ValueError.ga.bind (.ref x);have hx0:(expr && onTheHeap (Fe "BaseException.__getattribute__"))=false:=by cases expr <;> rfl
 have hx2:(Fe "BaseException.__getattribute__"==Fe "object.__getattribute__")=false:=td
 have hx1:(onTheHeap (DC C) && Fe "BaseException.__getattribute__"==Fe "object.__getattribute__")=false:=by rw [hx2];rfl
 repeat (any_goals (first | assumption | with_reducible refine ID (L0.at ?_) | with_reducible refine ID (L1.at ?_) | with_reducible refine L2.at ?_ | wp_step))
 refine By (s:=⟨hh,gg,dr,tt,os⟩) Z X J hf ?_
 repeat (any_goals (first | assumption | wp_step))
 show Iz _ _ (handedOut v) _ _ _;rw [handedOut_of hv];exact IL hq
theorem BA{expr:Bool}{Q:Io->Iq->Prop}(Z:jF K C)(X:K.In s.heap)(J:FK s.heap x ox C (some od))(hf:findObj K C (some od) name=some (.value v))(hv:handedIn v=true)(hq:Q v {s with toks:=s.toks+1}):
 Iz (Iy prog w) A (getAttr (.ref x) name expr) Q E s:=by
 obtain⟨hh,gg,dr,tt,os⟩:=s;unfold getAttr
 repeat (any_goals (first | assumption | with_reducible apply Bz (s:=⟨hh,gg,dr,tt+1,os⟩) Z X J hf hv | wp_step))
end
section
variable {X:Cx}
def uM(K:Dj)(ta:TE)(f:Str):TE:=λσ H Q=>ta σ H λx H1=>∃(e C d:Ip)(fs:List (Str×V))(v:V),x= .ref e/\H1 e=some (.ext (jC e (.ref C) (some d)))/\H1 d=some (.xd fs)/\jF K C/\hasDictIn K C=true/\ES K (.ref C) f=some none/\fs.lookup f=some v/\(∀u,au v u->handedIn u=true)/\Q v H1
theorem uN{e:Iu}{f:Str}{pos:Pos}{ta:TE}(he:PE X e ta)(hb:Jh e f X.env (eval e X.env)=eval e X.env):PE X (.Attribute e f pos) (uM X.K ta f):=by
 intro JI s σ H Q I h;refine wR hb (ak (he JI s σ H _ I h) λu s1 ⟨x,H1,I1,rx,a,C,d,fs,v,ex,ea,ed,Z,hh,ha,l,hv,q⟩=>?_);subst ex;obtain rfl:u=DC a:=rx;obtain⟨ob,ho,hc,hd,nc⟩:=(show aE X.prog X.w H1 s1.heap a (.ext (jC a (.ref C) (some d))) from I1.hok a _ ea).1;obtain⟨mA,n,r⟩:=(show aE X.prog X.w H1 s1.heap d (.xd fs) from I1.hok d _ ed);obtain⟨w',hw,rw'⟩:=lZ.some_of (v:=v) (o:=mA f) (by rw [<-l];exact r f);obtain⟨od,hod,hl⟩:=sN n;have J:FK s1.heap a ob C (some od):=⟨ho,hc,nc,by rw [hd];exact hod⟩;exact BA Z I1.kIn J (findObj_own hh ha rfl (by rw [hl,hw])) (hv _ rw') ⟨v,H1,I1.tok _,rw',q⟩
theorem jC.plain{e:Ip}{C:Io}{dd:Option Ip}{h:IC}(x:jC e C dd h):cb e C h:=let ⟨o,a,b,_⟩:=x;⟨o,a,b⟩
theorem BB:cB X (.builtin "isinstance") (λxs H Q=>∃(dd:Option Ip)(e C:Ip)(c:V)(cv:Io)(b:Bool),xs=[.ref e,c]/\H e=some (.ext (jC e (.ref C) dd))/\jF X.K C/\(∀u,au c u->u=cv)/\FA X.K (.ref C) cv=some b/\Q (.bl b) H):=by
 intro JI s σ H xs us Q I r h;obtain⟨dd0,e,C,c,cv,b,rfl,he,Z,hc,hk,q⟩:=h;obtain⟨u,w',rfl,rx,rt⟩:=lB r;cases (show u=DC e from rx);have:=hc _ rt;subst this;have p:cb e (.ref C) s.heap:=(show aE X.prog X.w H s.heap e (.ext (jC e (.ref C) dd0)) from I.hok e _ he).1.plain;exact EZ (tP Z) I.kIn p hk (λz=>nomatch z) λtk=>⟨.bl b,H,I.tok tk,rfl,q⟩
theorem BC:cB X (.builtin "isinstance") (λxs H Q=>∃(dd:Option Ip)(e C q:Ip)(cs:List Ip)(b:Bool),xs=[.ref e,.ref q]/\H e=some (.ext (jC e (.ref C) dd))/\H q=some (.tup (cs.map V.ref))/\jF X.K C/\Gr X.K (.ref C) (cs.map DC)=some b/\Q (.bl b) H):=by
 intro JI s σ H xs us Q I r h;obtain⟨dd0,e,C,q,cs,b,rfl,he,hq,Z,hk,k⟩:=h;obtain⟨u,w',rfl,rx,rt⟩:=lB r;cases (show u=DC e from rx);cases (show w'=DC q from rt);have p:cb e (.ref C) s.heap:=(show aE X.prog X.w H s.heap e (.ext (jC e (.ref C) dd0)) from I.hok e _ he).1.plain;obtain⟨its,rv,⟨⟨oc,od,odt,osl⟩,eo,c,n,dd⟩,_⟩:=I.tuple (bD.of hq);have:=xZ rv;subst this;simp only at c dd;subst c dd;exact PySem.W.kia_tup (tP Z) I.kIn p eo hk (λz=>nomatch z) λtk=>⟨.bl b,H,I.tok tk,rfl,k⟩
end
section
variable {M:Jq} {A:IH} {E:Io->Iq->Prop} {env:Env}
variable {nm q:Str} {C N:Ip} {bs bm:List Io} {hdct:Bool} {sn:List Str} {sub:List Io} {ab:Bool} {col:Option Bool} {dd:Option Ip} {k0 k1 k2 k3 k5:Option Io} {newId:String}
theorem BD{s:Iq}{x:Sem Io}{Q:Flow->Iq->Prop}(hbase:bm.contains (.type "BaseException")=true)(hh:A.handled=none)
 (h:Iz M A x (λv s₁=>∃e oe vs,v= .ref e/\s₁.heap.get? C=some (IX nm q C N bs bm hdct sn sub ab col dd k0 k1 k2 k3 k5 newId)/\
  s₁.heap.get? e=some oe/\oe.cls= .ref C/\oe.data= .fields vs/\vs[1]?=some .none/\E (.ref e) s₁) E s):Iz M A (raiseStmt env (some x) none) Q E s:=by
 have hcB:(DC C::bm).contains (.type "BaseException")=true:=by rw [Gw,hbase,Hk]
 unfold raiseStmt;refine ID (IM h (λv s₁ h₁=>?_) λ_ _ x=>x);obtain⟨e,oe,vs,rfl,hC,he,hc,hd,h1,hE⟩:=h₁;obtain⟨hp,g,d,tk,os⟩:=s₁;obtain⟨oc,odc,odt,osl⟩:=oe;dsimp only at hc hd;subst hc hd
 repeat (first | with_reducible refine IQ he ?_ | with_reducible refine IQ hC ?_ | (with_reducible refine Jg hC ?_;rw [hcB]) | wp_step)
 rw [h1]
 repeat (first | wp_step)
 exact wpAny_raiseNew_none hh hE
end
section
variable {prog:IE} {w:IF} {A:IH} {E:Io->Iq->Prop} {h:IC} {g:Array JF} {d:Drawn} {t:Nat} {os:OsState}
variable {nm q:Str} {C N:Ip} {bs bm bmB:List Io} {hdct:Bool} {sn:List Str} {sub:List Io} {ab:Bool} {col:Option Bool} {dd:Option Ip} {k0 k1 k2 k3 k5:Option Io} {B newId initId:String}
theorem BE(F:Jf B newId initId bmB)(T:OwnTail h bmB bm){K:Dj}{rest:List Io}{fI:Ip}{Q:Fin->Iq->Prop}
 (hC:h.get? C=some (IX nm q C N bs bm hdct sn sub ab col dd k0 k1 k2 k3 k5 newId))(XK:K.In h)(hi:Jy K (.ref C) "__init__"=some (some (.ref fI)))(hf:typeIn K (.ref fI)=some (.type "function"))(hrest:rest.length<=Ir)
 (hq:∀h' e,G2 h h' e (.ref C) rest->Iz (Iy prog w) A (call (.ref fI) (.ref e::rest)) (λr s'=>r= .none/\Q (.done (.ret (.ref e))) s') E ⟨h',g,d,t,os⟩):
 Iz (Iy prog w) A (Builtin.«type.__call__» ⟨.ref C::rest,[]⟩) Q E ⟨h,g,d,t,os⟩:=by
 repeat (first | with_reducible refine IQ hC ?_ | with_reducible refine wpAny_madeBy_exc hC ?_ | wp_step)
 refine codeAny_call_builtin_code (Gx _ F.quiet) (wpAny_check_new_subT F T hC (codeAny_exc_new_subT F T hC ?_ hrest));show Iz _ _ _ _ _ _;have k:∀b o,h.get? b=some o->((h.push {cls:= .type "tuple",data:= .seq rest.toArray}).push {cls:= .ref C,data:= .fields #[.ref h.objs.size,.none,.none,.none,.bool false,.none]}).get? b=some o:=λb o e=>Dr _ (Dr _ e);have hget:((h.push {cls:= .type "tuple",data:= .seq rest.toArray}).push {cls:= .ref C,data:= .fields #[.ref h.objs.size,.none,.none,.none,.bool false,.none]}).get? (h.objs.size+1)=some {cls:= .ref C,data:= .fields #[.ref h.objs.size,.none,.none,.none,.bool false,.none]}:=by heap_get
 have htup:((h.push {cls:= .type "tuple",data:= .seq rest.toArray}).push {cls:= .ref C,data:= .fields #[.ref h.objs.size,.none,.none,.none,.bool false,.none]}).get? h.objs.size=some {cls:= .type "tuple",data:= .seq rest.toArray}:=Dr _ (Hv rfl rfl);have hcC:(DC C::bm).contains (.ref C)=true:=Il
 have made:=λz=>hq ((h.push {cls:= .type "tuple",data:= .seq rest.toArray}).push {cls:= .ref C,data:= .fields #[.ref h.objs.size,.none,.none,.none,.bool false,.none]}) (h.objs.size+1) ⟨k,FP (Nat.le_succ _),h.objs.size,hget,FP (Dz _),z⟩;have made:=made htup;have hC₁:=k _ _ hC;have X₁:K.In _:=λa o e=>k a o (XK a o e);have T₁:=T.keeps k;unfold isInstance
 repeat (first | with_reducible refine IQ hget ?_ | (with_reducible refine Jg hC₁ ?_;rw [hcC]) | wp_step)
 show Iz _ _ (typeLookup (.ref C) _) _ _ _;refine(Je (M:=Iy prog w) X₁ hi).at ?_;refine JD (ID ?_);unfold bindSpecial;refine ID ((looks_typeIn (M:=Iy prog w) X₁ hf).at ?_);rw [Ij Ce];refine IL (ID (IM made (λr s' hr=>?_) λ_ _ x=>x));obtain⟨rfl,hQ⟩:=hr
 wp_walk
 exact hQ
theorem BF(F:Jf B newId initId bmB)(T:OwnTail h bmB bm){K:Dj}{rest:List Io}{fI:Ip}{Q:Io->Iq->Prop}
 (hC:h.get? C=some (IX nm q C N bs bm hdct sn sub ab col dd k0 k1 k2 k3 k5 newId))(XK:K.In h)(hi:Jy K (.ref C) "__init__"=some (some (.ref fI)))(hf:typeIn K (.ref fI)=some (.type "function"))(hrest:rest.length<=Ir)
 (hq:∀h' e,G2 h h' e (.ref C) rest->Iz (Iy prog w) (A.under (.builtin "type.__call__" ⟨.ref C::rest,[]⟩)) (call (.ref fI) (.ref e::rest)) (λr s'=>r= .none/\Q (.ref e) s') E ⟨h',g,d,t,os⟩):
 Iz (Iy prog w) A (call (.ref C) rest) Q E ⟨h,g,d,t,os⟩:=by
 have f1:=tc_lookup;have f2:=tc_bind (.ref C);have hT:(⟨h,g,d,t,os⟩:Iq).TypeIs (.ref C) "type":=⟨_,hC,rfl⟩;refine wpAny_call (codeAny_of_tree ?_);show Iz _ _ (callAny (.ref C) _) _ _ _
 repeat (any_goals (first | assumption | with_reducible refine IQ hC ?_ | wp_step))
 refine⟨rfl,codeAny_call_builtin_at (Gx _ td) entry_typeCall (wpAny_check_type_call_sub hC (BE F T hC XK hi hf hrest λh' e hm=>hq h' e hm))⟩
end
theorem BG{h:IC}{bmB bm:List Io}(T:OwnTail h bmB bm)(self:Io)(what:Str):refuseLoop self what bm=refuseLoop self what bmB:=by
 induction T with
 | base=>rfl
 | own _ _ _ _ ih=>rw [refuseLoop_ref,ih]
section
variable {prog:IE} {w:IF} {A:IH} {E:Io->Iq->Prop} {h:IC} {g:Array JF} {d:Drawn} {t:Nat} {os:OsState} {K:Dj}
variable {nm q:Str} {C N x:Ip} {bs bm bmB:List Io} {sn:List Str} {sub:List Io} {ab:Bool} {col:Option Bool} {dd:Option Ip} {k0 k1 k2 k3 k5:Option Io} {B newId sa owner:String} {name:Str} {v:Io} {o:Obj} {vs:Array Io}
structure qZ (h h':IC) (x:Ip) (o:Obj) (name:Str) (v:Io) (dx:Ip):Prop where
 at_:h'.get? x=some {cls:=o.cls,dict:=some dx,data:=o.data,slots:=o.slots}
 new:h.get? dx=none
 ne:dx≠x
 ns:h'.Ns1 dx λy=>if y=name then some v else none
 keep:∀b ob,b≠x->h.get? b=some ob->h'.get? b=some ob
theorem BH{tk:Tok}{Q:Fin->Iq->Prop}(SF:StoreFacts B bmB sa owner)(X:K.In h)(T:OwnTail h bmB bm)
 (hC:h.get? C=some (IX nm q C N bs bm true sn sub ab col dd k0 k1 k2 k3 k5 newId))(ha:Jy K (.ref C) name=some none)(hx:h.get? x=some o)(hc:o.cls= .ref C)(hd:o.data= .fields vs)(hdn:o.dict=none)
 (hq:∀h' tk' dx,qZ h h' x o name v dx->Q (.done (.ret .none)) ⟨h',g,d,tk',os⟩):
 Iz (Iy prog w) A (Builtin.«object.__setattr__» ⟨[.ref x,.str name tk,v],[]⟩) Q E ⟨h,g,d,t,os⟩:=by
 have hpass:refuseLoop (.ref x) "__setattr__" bm=pure ():=(BG T _ _).trans (SF.passes (.ref x));have L:=Je (M:=Iy prog w) X ha;unfold Builtin.«object.__setattr__»
 repeat (first | rw [refuse_eq] | (rw [refuseLoop_ref,hpass]) | (with_reducible refine IQ hx ?_;rw [hc]) | with_reducible refine wpAny_mroOf_exc hC ?_ | with_reducible refine ID (L.at ?_) | wp_step)
 rw [hdn,hd];dsimp only;rw [Ii (by simp [typeHasDict])];have hx₁:(h.push {cls:= .type "dict",data:= .dict #[]}).get? x=some o:=Dr _ hx;have hxs:x≠h.objs.size:=Em (Ds hx);refine ID (wpAny_alloc' (ID (wpAny_update' hx₁ (IL ?_))));have hgd:((h.push {cls:= .type "dict",data:= .dict #[]}).update x λo=>{cls:=o.cls,dict:=some h.objs.size,data:=o.data,slots:=o.slots}).get? h.objs.size=some {cls:= .type "dict",data:= .dict #[]}:=
  (He _ _ _ _ hxs.symm).trans (Hv rfl rfl)
 have hnd:((h.push {cls:= .type "dict",data:= .dict #[]}).update x λo=>{cls:=o.cls,dict:=some h.objs.size,data:=o.data,slots:=o.slots}).Ns h.objs.size (λ_=>none):=⟨_,#[],_,hgd,rfl,λe he=>absurd he Il,λ_=>rfl⟩;show Iz _ _ (storeInDict h.objs.size (.str name tk) name v) _ _ _;unfold storeInDict newKeyGuard;refine ID (IL (ID (wpAny_nsSet1 (Heap.Ns1.of_empty hnd) λh' hn' hs=>?_)));obtain⟨oD,esD,epD,hoD,hdD,hcD⟩:=hn'.count (Within.cons name v Within.nil);refine ID (wpAny_lookBehind hoD (by rw [hdD];exact pastItsLine_dict (EY hcD (by rw [Dp,DJ,IG];omega))) ?_)
 wp_walk
 refine hq h' _ h.objs.size ⟨?_,FP (Dz _),hxs.symm,hn',λb ob hb e=>?_⟩
 ·refine(hs.2 x hxs).trans (FL _ hx₁ ?_);obtain⟨oc,od,odt,osl⟩:=o;dsimp only at hd;subst hd;rfl
 ·exact(hs.2 b (Em (Ds e))).trans ((He _ _ _ _ hb).trans (Dr _ e))
theorem BI{M:Jq}{nameV:Io}{Q:Unit->Iq->Prop}(SF:StoreFacts B bmB sa owner)(T:OwnTail h bmB bm)
 (hC:h.get? C=some (IX nm q C N bs bm true sn sub ab col dd k0 k1 k2 k3 k5 newId))(hx:h.get? x=some o)(hc:o.cls= .ref C)(hq:Q () ⟨h,g,d,t,os⟩):
 Iz M A (Ju sa ⟨[.ref x,nameV,v],[]⟩) Q E ⟨h,g,d,t,os⟩:=by
 have hcB:(DC C::bm).contains (.type owner)=true:=by rw [Gw,T.hasType SF.hasOwner,Hk]
 have ha:=SF.args (.ref x) nameV v;simp only [Ju,SF.kind,SF.split];refine ID ?_;unfold isInstance
 repeat (first | (with_reducible refine IQ hx ?_;rw [hc]) | (with_reducible refine Jg hC ?_;rw [hcB]) | wp_step)
 cases hsig:Manifest.signature? sa with
 | none=>exact IL hq
 | some sig=>
  simp only [argsOk,hsig] at ha;show Iz M A (HL sa sig ⟨[.ref x,nameV,v],[]⟩) Q E _;rw [show HL sa sig ⟨[.ref x,nameV,v],[]⟩=pure () from ha];exact IL hq
theorem BJ{Q:Unit->Iq->Prop}(SF:StoreFacts B bmB sa owner)(X:K.In h)(T:OwnTail h bmB bm)
 (hC:h.get? C=some (IX nm q C N bs bm true sn sub ab col dd k0 k1 k2 k3 k5 newId))(hs:Jy K (.ref C) "__setattr__"=some (some (.builtin sa)))(ha:Jy K (.ref C) name=some none)(hx:h.get? x=some o)(hc:o.cls= .ref C)(hd:o.data= .fields vs)(hdn:o.dict=none)
 (hq:∀h' tk' dx,qZ h h' x o name v dx->Q () ⟨h',g,d,tk',os⟩):Iz (Iy prog w) A (setAttr (.ref x) name v) Q E ⟨h,g,d,t,os⟩:=by
 have f3:=SF.slot.bind (.ref x);have L:=Je (M:=Iy prog w) X hs;unfold setAttr callSpecial? specialOf
 repeat (any_goals (first | assumption | (with_reducible refine IQ hx ?_;rw [hc]) | with_reducible refine L.at ?_ | with_reducible refine ID (L.at ?_) | wp_step))
 refine Jc SF.slot.plain SF.entry (BI SF T hC hx hc (BH SF X T hC ha hx hc hd hdn λh' tk' dx D=>?_))
 repeat (any_goals (first | assumption | wp_step))
 exact hq h' tk' dx D
end
section
variable {prog:IE} {w:IF} {A:IH} {E:Io->Iq->Prop} {h:IC} {g:Array JF} {d:Drawn} {t:Nat} {os:OsState}
variable {nm q:Str} {C N x:Ip} {bs bm bmB:List Io} {hdct:Bool} {sn:List Str} {sub:List Io} {ab:Bool} {col:Option Bool} {dd:Option Ip} {k0 k1 k2 k3 k5:Option Io} {B newId initId:String} {o:Obj} {ta:Ip}
structure uO (h h':IC) (x:Ip) (o:Obj) (t0:Ip):Prop where
 at_:h'.get? x=some {o with data:= .fields #[.ref t0,.none,.none,.none,.bool false,.none]}
 keep:∀b ob,b≠x->h.get? b=some ob->h'.get? b=some ob
theorem BK{rest:List Io}{Q:Io->Iq->Prop}(F:Jf B newId initId bmB)(T:OwnTail h bmB bm)(hC:h.get? C=some (IX nm q C N bs bm hdct sn sub ab col dd k0 k1 k2 k3 k5 newId))
 (hx:h.get? x=some o)(hc:o.cls= .ref C)(hd:o.data= .fields #[.ref ta,.none,.none,.none,.bool false,.none])(hr:rest.length<=Ir)(hq:∀h' tk t0,uO h h' x o t0->Q .none ⟨h',g,d,tk,os⟩):
 Iz (Iy prog w) A (call (.builtin initId) (.ref x::rest)) Q E ⟨h,g,d,t,os⟩:=by
 refine wpAny_call (Jc F.init.plain F.initEntry (wpAny_check_init_subT F T hC hx hc ?_));obtain⟨oc,od,odt,osl⟩:=o;dsimp only at hc hd;subst hc hd
 wp_walk
 refine hq _ _ h.objs.size ⟨?_,λb ob hb e=>?_⟩
 ·exact FL _ (Dr _ hx) rfl
 ·exact(FG _ _ (Ne.symm hb)).trans (Dr _ e)
theorem BL{K:Dj}{s:Iq}{C':Ip}{pl:Sem Bool}{Q:Io×List Io->Iq->Prop}(X:K.In s.heap)(hs:specialIn K (.ref C') "__getattribute__"=some (some (.builtin "type.__getattribute__")))(hr:readsIn K C' (.type "type")=true)
 (hf:findCls K (.ref C') (.type "type") "__init__"=some (.val (.builtin initId)))(hh:handedIn (.builtin initId)=true)(hq:Q (.builtin initId,[]) {s with toks:=s.toks+1}):Iz (Iy prog w) A (getMethod (.ref C') "__init__" pl) Q E s:=
 method_cls X hs (cls_value X hr hf hh hq)
end
def jT(e:Ip)(C:Io)(h:IC):Prop:=∃ta,h.get? e=some {cls:=C,data:= .fields #[.ref ta,.none,.none,.none,.bool false,.none]}
def kr(e:Ip)(C:Io)(d:Ip)(h:IC):Prop:=∃ta,h.get? e=some {cls:=C,dict:=some d,data:= .fields #[.ref ta,.none,.none,.none,.bool false,.none]}
def mD(K:Dj)(C:Ip)(bmB:List Io)(newId:String):Bool:=match K.lookup C with
 | some ⟨.type "type",_,.cls cd,sl⟩=>(match cd.mro,sl.toList with
  | .ref C'::bm,[_,_,_,_,some (.builtin n),_]=>C'==C && n==newId && !cd.hasDel && cd.hasDict && tailIn K bmB bm && nsOkIn K cd.ns
  | _,_=>false)
 | _=>false
theorem nG{K:Dj}{h:IC}{C:Ip}{bmB:List Io}{newId:String}(X:K.In h)(q:mD K C bmB newId=true):
 ∃(bm:List Io)(nm qn:Str)(N:Ip)(bs:List Io)(sn:List Str)(sub:List Io)(ab:Bool)(col:Option Bool)(dd:Option Ip)(k0 k1 k2 k3 k5:Option Io),
  h.get? C=some (IX nm qn C N bs bm true sn sub ab col dd k0 k1 k2 k3 k5 newId)/\h.Ns N (h.nsMap N)/\OwnTail h bmB bm:=by
 unfold mD at q;split at q
 ·rename_i dd cd sl ho;split at q
  ·rename_i C' bm k0 k1 k2 k3 n k5 hm hs;simp only [E6,beq_iff_eq,DI] at q;obtain⟨⟨⟨⟨⟨rfl,rfl⟩,hdel⟩,hdi⟩,ht⟩,hok⟩:=q;obtain⟨nm,bs,mro,ns,qn,hd,sn,sub,ab,col,del⟩:=cd;dsimp only at hm hdel hdi hok;subst hm hdel hdi;have hsl:sl=#[k0,k1,k2,k3,some (.builtin n),k5]:=by
    obtain⟨l⟩:=sl;simp only at hs;rw [hs]
   subst hsl;exact⟨bm,nm,qn,ns,bs,sn,sub,ab,col,dd,k0,k1,k2,k3,k5,X _ _ ho,.of_isNs (isNs_of_in X hok),tail_of_in X ht⟩
  ·cases q
 ·cases q
section
variable {X:Cx} {JI:List (Ip×Obj)} {σ:St} {H:Hp} {s:Iq} {h':IC} {e C d:Ip} {f:Str} {v:V} {u:Io}
theorem aa.reargs{tk:Tok}{o:Obj}{t0:Ip}(I:aa X JI σ H s)(he:H e=some (.ext (jT e (.ref C))))(ho:∃ta,o={cls:= .ref C,data:= .fields #[.ref ta,.none,.none,.none,.bool false,.none]})(R:uO s.heap h' e o t0):aa X JI σ (ah H e (.ext (jT e (.ref C)))) {s with heap:=h',toks:=tk}:=by
 obtain⟨ta,rfl⟩:=ho;exact I.write (by rw [he];exact EU) (.inl rfl) R.keep ⟨_,R.at_⟩ ⟨⟨t0,R.at_⟩,⟨_,R.at_⟩,λh1 h2 uu78 k=>by obtain⟨x,z⟩:=uu78;exact⟨x,k _ z⟩⟩
theorem aa.dicted{tk:Tok}{o:Obj}(I:aa X JI σ H s)(he:H e=some (.ext (jT e (.ref C))))(ho:∃ta,o={cls:= .ref C,data:= .fields #[.ref ta,.none,.none,.none,.bool false,.none]})(rv:au v u)(D:qZ s.heap h' e o f u d):
 aa X JI σ (ah (ah H d (.xd [(f,v)])) e (.ext (kr e (.ref C) d))) {s with heap:=h',toks:=tk}:=by
 obtain⟨ta,rfl⟩:=ho;have hd0:H d=none:=by
  cases z:H d with
  | none=>rfl
  | some w'=>obtain⟨ob,hb⟩:=(I.hok d w' z).there;rw [D.new] at hb;cases hb
 have ne:∀b w',H b=some w'->(∀φ,w'≠ .ext φ)->b≠e/\b≠d:=λb w' z n=>⟨λy=>by rw [y,he] at z;cases z;exact n _ rfl,λy=>by rw [y,hd0] at z;cases z⟩;have oth:∀b,b≠e->b≠d->ah (ah H d (.xd [(f,v)])) e (.ext (kr e (.ref C) d)) b=H b:=λb h1 h2=>by rw [aq h1,aq h2]
 have keepX:∀b w',H b=some w'->(∀φ,w'≠ .ext φ)->ah (ah H d (.xd [(f,v)])) e (.ext (kr e (.ref C) d)) b=some w':=λb w' z n=>by
  obtain⟨h1,h2⟩:=ne b w' z n;rw [oth b h1 h2];exact z
 have nE:∀b,H b=none->b≠e:=λb n y=>by rw [y,he] at n;cases n
 refine I.un ⟨λb o eb n _ _=>D.keep b o (nE b n) eb,λb o eb n _ _=>⟨o.slots,D.keep b o (nE b n) eb⟩,λb o eb n _=>?_,λb o eb _=>?_,λb xs z=>keepX b _ z λ_ y=>(by cases y),λb o w' z=>keepX b _ z λ_ y=>(by cases y),λb ps z=>⟨#[],by rw [Hn];exact keepX b _ z λ_ y=>(by cases y)⟩⟩ λb w' z=>?_
 ·rw [oth b (nE b n) λy=>by rw [y,D.new] at eb;cases eb];exact n
 ·by_cases hb:b=e
  ·rw [hb];exact⟨_,D.at_⟩
  ·exact⟨o,D.keep b o hb eb⟩
 ·by_cases hb:b=e
  ·subst hb;rw [aD] at z;cases z;exact⟨⟨ta,D.at_⟩,⟨_,D.at_⟩,λh1 h2 uu79 k=>by obtain⟨x,z⟩:=uu79;exact⟨x,k _ z⟩⟩
  ·rw [aq hb] at z;by_cases hb2:b=d
   ·subst hb2;rw [aD] at z;cases z;refine⟨_,D.ns,λy=>?_⟩;by_cases hy:y=f
    ·subst hy;rw [Ij rfl,D5,beq_self_eq_true];exact rv
    ·rw [Ii hy,D5,show(y==f)=false from by simpa using hy];exact EU
   ·rw [aq hb2] at z;refine(I.hok b w' z).stay (λb' u' hb' q=>D.keep b' u' (λy=>?_) q) (λb' z'=>keepX b' _ z' λ_ y=>(by cases y)) (λb' xs z'=>keepX b' _ z' λ_ y=>(by cases y)) λb' xs z'=>keepX b' _ z' λ_ y=>(by cases y);rcases hb' with r | r
    ·exact hb (r.symm.trans y)
    ·rw [y,he] at r;cases r
end
section
variable {X:Cx} {C C':Ip} {c:Str} {np ap cp pos pos':Pos} {a:Iu} {as:List Iu} {ta:TA} {B newId initId:String} {bmB:List Io} {pl:Sem Bool}
def uP(C:Ip)(ta:TA):TS:=λD σ H=>ta σ H λvs H1=>∃e rest,vs= .ref e::rest/\rest.length<=Ir/\H1 e=some (.ext (jT e (.ref C)))/\D.nx σ (ah H1 e (.ext (jT e (.ref C))))
theorem BM(hmc:X.mg c=some (.ref C'))(hgc:Gl X c)(hs:specialIn X.K (.ref C') "__getattribute__"=some (some (.builtin "type.__getattribute__")))(hr:readsIn X.K C' (.type "type")=true)
 (hf:findCls X.K (.ref C') (.type "type") "__init__"=some (.val (.builtin initId)))(hh:handedIn (.builtin initId)=true)(F:Jf B newId initId bmB)(hO:mD X.K C bmB newId=true)(ha:PA X (a::as) ta)
 (ht:eval (.Call (.Attribute (.Name c np) "__init__" ap) (a::as) [] cp) X.env=(do
  let ov<-eval (.Name c np) X.env
  standAt ap.atName
  let (f,first)<-Jw [ov] (getMethod ov "__init__" pl)
  callWith cp f first (IS cp (Iw (a::as) X.env)) (backToKw cp (Js [] X.env))):=by rfl)
 (hdc:(c==("__debug__":Str))=false:=by decide)(he:Iw (a::as) X.env=(false,eval a X.env)::Iw as X.env:=by rfl)(hpl:(IS cp (Iw as X.env)).any (·.1)=false:=by rfl)
 (hsw:Jd (.Call (.Attribute (.Name c np) "__init__" ap) (a::as) [] cp) none pos.line X.env=pure false:=by rfl):
 PS X (.Expr (.Call (.Attribute (.Name c np) "__init__" ap) (a::as) [] cp) pos) (uP C ta):=by
 intro JI s σ H D I h;refine wpAny_Expr_any (PySem.W.methodCall_KW (pl:=pl) (ma I hgc hmc ?_ hdc) ht) I.quiet hsw;refine BL I.kIn hs hr hf hh ?_;have hA:=ha cp JI _ σ H _ (I.tok (s.toks+1)) h;rw [he] at hA⊢;refine GW (by show(false || (IS cp (Iw as X.env)).any (·.1))=false;rw [hpl];rfl) (G7 ?_);refine ak hA λus s1 ⟨vs,H1,I1,r,e,rest,ev,hl,hE,q⟩=>?_;subst ev;cases r with
 | cons r0 r1=>
  cases r0;obtain⟨ta0,hx⟩:=(show aE X.prog X.w H1 s1.heap e (.ext (jT e (.ref C))) from I1.hok e _ hE).1;obtain⟨bm,nm,qn,N,bs,sn,sub,ab,col,dd,k0,k1,k2,k3,k5,hC,_,T⟩:=nG I1.kIn hO;obtain⟨hp,gg,dr,tk,os⟩:=s1;refine BK F T hC hx rfl rfl (by rw [<-r1.length];exact hl) λh2 tk2 t0 R=>?_;exact⟨σ,_,I1.reargs hE ⟨ta0,rfl⟩ R,q⟩
def uQ(C:Ip)(f:Str)(to tv:TE):TS:=λD σ H=>tv σ H λv H1=>to σ H1 λx H2=>∃e,x= .ref e/\H2 e=some (.ext (jT e (.ref C)))/\∀d,H2 d=none->d≠e->D.nx σ (ah (ah H2 d (.xd [(f,v)])) e (.ext (kr e (.ref C) d)))
theorem BN{o value:Iu}{f:Str}{to tv:TE}{sa owner:String}(ho:PE X o to)(hv:PE X value tv)(SF:StoreFacts B bmB sa owner)(hO:mD X.K C bmB newId=true)(hsa:Jy X.K (.ref C) "__setattr__"=some (some (.builtin sa)))(ha:Jy X.K (.ref C) f=some none)
 (hs:Jd value (some (.Attribute o f pos')) pos.line X.env=pure false:=by rfl):PS X (.Assign [.Attribute o f pos'] value pos) (uQ C f to tv):=by
 intro JI s σ H D I h;refine plainObj_wpAny_Assign_Attribute (ak (hv JI s σ H _ I h) λu s1 ⟨y,H1,I1,ry,q⟩=>ak (ho JI s1 σ H1 _ I1 q) λov s2 ⟨x,H2,I2,rx,e,ex,hE,q2⟩=>?_) hs;subst ex;obtain rfl:ov=DC e:=rx;obtain⟨ta0,hx⟩:=(show aE X.prog X.w H2 s2.heap e (.ext (jT e (.ref C))) from I2.hok e _ hE).1;obtain⟨bm,nm,qn,N,bs,sn,sub,ab,col,dd,k0,k1,k2,k3,k5,hC,_,T⟩:=nG I2.kIn hO;obtain⟨hp,gg,dr,tk,os⟩:=s2;refine BJ SF I2.kIn T hC hsa ha hx rfl rfl rfl λh2 tk2 dx D2=>?_;have d0:H2 dx=none:=by
  cases z:H2 dx with
  | none=>rfl
  | some w'=>obtain⟨ob,hb⟩:=(I2.hok dx w' z).there;rw [D2.new] at hb;cases hb
 exact⟨σ,_,I2.dicted hE ⟨ta0,rfl⟩ ry D2,q2 dx d0 D2.ne⟩
end
structure MkX (K:Dj) (C f:Ip) (bmB:List Io) (newId:String):Prop where
 seen:mD K C bmB newId=true
 init:ES K (.ref C) "__init__"=some (some (.ref f))
 fn:Hm K (.ref f)=true
 kp:Fm K (.ref C)=true
section
variable {X:Cx} {CX:cC} {k:Nat} {f C:Ip} {fd:IB} {ps:List Str} {sp:Sp} {x:Str} {np cpos pos:Pos} {e:Iu} {es:List Iu} {t:TA} {B newId initId:String} {bmB:List Io}
theorem aa.raw{JI:List (Ip×Obj)}{σ:St}{H:Hp}{s:Iq}{h':IC}{a:Ip}{args:List Io}{tk:Tok}(I:aa X JI σ H s)(hm:G2 s.heap h' a (.ref C) args):H a=none/\aa X JI σ (ah H a (.ext (jT a (.ref C)))) {s with heap:=h',toks:=tk}:=by
 obtain⟨ta,he,_,_⟩:=hm.there;have h0:H a=none:=by
  cases z:H a with
  | none=>rfl
  | some w'=>obtain⟨ob,hb⟩:=(I.hok a w' z).there;rw [hm.new] at hb;cases hb
 have keepX:∀b w',H b=some w'->ah H a (.ext (jT a (.ref C))) b=some w':=λb w' z=>by
  rw [aq (λy=>by rw [y,h0] at z;cases z)];exact z
 refine⟨h0,I.un ⟨λb o eb n _ _=>hm.keeps b o eb,λb o eb n _ _=>⟨o.slots,hm.keeps b o eb⟩,λb o eb n _=>?_,λb o eb _=>⟨o,hm.keeps b o eb⟩,λb xs z=>keepX b _ z,λb o w' z=>keepX b _ z,λb ps z=>⟨#[],by rw [Hn];exact keepX b _ z⟩⟩ λb w' z=>?_⟩
 ·rw [aq (λy=>by rw [y,hm.new] at eb;cases eb)];exact n
 ·by_cases hb:b=a
  ·subst hb;rw [aD] at z;cases z;exact⟨⟨ta,he⟩,⟨_,he⟩,λh1 h2 uu83 k=>by obtain⟨x,z⟩:=uu83;exact⟨x,k _ z⟩⟩
  ·rw [aq hb] at z;exact(I.hok b w' z).stay (λb' u' _ q=>hm.keeps b' u' q) (λb' z'=>keepX b' _ z') (λb' xs z'=>keepX b' _ z') λb' xs z'=>keepX b' _ z'
theorem BO{JI:List (Ip×Obj)}{σ:St}{H:Hp}{s:Iq}{Q:VK}{us:List Io}{vs:List V}(FB:Jf B newId initId bmB)(M:MkX X.K C f bmB newId)(F:aA X.prog X.w X.K X.mg X.base CX k f fd ps sp)(hr:aU (k+1) X.A)(hb:jW X.K fd ps [])
 (hx:mh CX X E0)(I:aa X JI σ H s)(r:az vs us)(hl:us.length<=Ir)(hex:X.ex=[])
 (h:∀a,H a=none->X.s₀.heap.get? a=none->sp (.ref a::vs) (ah H a (.ext (jT a (.ref C)))) (λv H2=>v= .non/\Q (.ref a) H2) E0):
 Iz (Iy X.prog X.w) X.A (call (.ref C) us) (EP X JI σ Q) X.xe s:=by
 obtain⟨bm,nm,qn,N,bs,sn,sub,ab,col,dd,k0,k1,k2,k3,k5,hC,_,T⟩:=nG I.kIn M.seen;obtain⟨hp,gg,dr,tk,os⟩:=s;refine BF FB T hC I.kIn M.init (beq_iff_eq.mp M.fn) hl λh' a hm=>?_;obtain⟨h0,I2⟩:=I.raw (tk:=tk) hm;have n0:X.s₀.heap.get? a=none:=by
  cases z:X.s₀.heap.get? a with
  | none=>rfl
  | some o=>
   obtain⟨o',z'⟩:=I.base.there a o z (by rw [hex];simp);have:=hm.new;rw [show(⟨hp,gg,dr,tk,os⟩:Iq).heap=hp from rfl] at z';rw [this] at z';cases z'
 have hq:=h a h0 n0;have r2:az (V.ref a::vs) (DC a::us):= .cons rfl r;have hl2:(DC a::us++[]).length=ps.length:=by
  rw [DH,<-r2.length];exact F.len _ _ _ _ hq
 have bd:=hb _ (DC a::us) I2.kIn hl2;rw [DH] at bd;refine wpAny_call (JA (F.run _ X.stack _ _ ⟨DC a::us,[]⟩ (DC a::us) _ _ E0 (hr.make C us []) (I2.env0.make C us []) bd r2 hq) λr s' hq'=>?_);cases r with
 | error e=>exact hx JI σ _ _ e s' I2 hq'
 | ok fl=>
  cases fl with
  | ret u=>
   obtain⟨v,H',I3,rv,ev,q3⟩:=I2.after hq';subst ev;exact⟨rv,⟨V.ref a,H',I3,rfl,q3⟩⟩
  | next=>exact E2 hq'
  | brk=>exact E2 hq'
  | cont=>exact E2 hq'
def uR(X:Cx)(C:Ip)(sp:Sp)(t:TA):TE:=λσ H Q=>t σ H λvs H1=>vs.length<=Ir/\∀a,H1 a=none->X.s₀.heap.get? a=none->sp (.ref a::vs) (ah H1 a (.ext (jT a (.ref C)))) (λv H2=>v= .non/\Q (.ref a) H2) E0
theorem BP(FB:Jf B newId initId bmB)(M:MkX X.K C f bmB newId)(F:aA X.prog X.w X.K X.mg X.base CX k f fd ps sp)(hr:aU (k+1) X.A)(hg:Gl X x)(hm:X.mg x=some (.ref C))(hb:jW X.K fd ps [])(hx:mh CX X E0)(hex:X.ex=[])
 (ha:PA X (e::es) t)(hdb:(x==("__debug__":Str))=false:=by decide)(he:Iw (e::es) X.env=(false,eval e X.env)::Iw es X.env:=by rfl)(hpl:(IS cpos (Iw es X.env)).any (·.1)=false:=by rfl):
 PE X (.Call (.Name x np) (e::es) [] cpos) (uR X C sp t):=by
 intro JI s σ H Q I h;refine Jj (ma I hg hm ?_ hdb);refine Gv (h₀:=X.base) I.ok.mod.kin M.kp (ak (ha cpos JI s σ H _ I h) λus s1 ⟨vs,H1,I1,r,hl,q⟩=>⟨I1.kIn,?_⟩) he hpl;exact BO FB M F hr hb hx I1 r (by show us.length<=Ir;rw [<-r.length];exact hl) hex q
def BQ(X:Cx)(C:Ip)(sp:Sp)(t:TA)(Ex:Ip->Ip->Hp->Prop):TS:=λ_ σ H=>uR X C sp t σ H λv H2=>∃a d,v= .ref a/\X.s₀.heap.get? a=none/\H2 a=some (.ext (kr a (.ref C) d))/\Ex a d H2
theorem BR{Ex:Ip->Ip->Hp->Prop}(hc:X.calm=true)(FB:Jf B newId initId bmB)(M:MkX X.K C f bmB newId)(F:aA X.prog X.w X.K X.mg X.base CX k f fd ps sp)(hr:aU (k+1) X.A)(hg:Gl X x)(hm:X.mg x=some (.ref C))(hb:jW X.K fd ps [])(hx:mh CX X E0)(hex:X.ex=[])
 (ha:PA X (e::es) t)(hxe:∀(JI:List (Ip×Obj)) (σ:St) (H:Hp) (s:Iq) (a d:Ip),aa X JI σ H s->X.s₀.heap.get? a=none->H a=some (.ext (kr a (.ref C) d))->Ex a d H->X.xe (.ref a) s)
 (hdb:(x==("__debug__":Str))=false:=by decide)(he:Iw (e::es) X.env=(false,eval e X.env)::Iw es X.env:=by rfl)(hpl:(IS cpos (Iw es X.env)).any (·.1)=false:=by rfl):
 PS X (.Raise (some (.Call (.Name x np) (e::es) [] cpos)) none pos) (BQ X C sp t Ex):=by
 intro JI s σ H D I h;obtain⟨bm,nm,qn,N,bs,sn,sub,ab,col,dd,k0,k1,k2,k3,k5,hC,_,T⟩:=nG I.ok.mod.kin M.seen;rw [arm_exec_Raise];simp only [evalOpt,Option.map];refine ID (JE (BD (C:=C) (nm:=nm) (q:=qn) (N:=N) (bs:=bs) (bm:=bm) (hdct:=true) (sn:=sn) (sub:=sub) (ab:=ab) (col:=col) (dd:=dd) (k0:=k0) (k1:=k1) (k2:=k2) (k3:=k3) (k5:=k5) (newId:=newId) (T.hasType FB.hasBase) (I.ok.hd hc) ?_));refine ID (ak (BP FB M F hr hg hm hb hx hex ha hdb he hpl JI s σ H _ I h) λv s1 ⟨y,H1,I1,r1,a,d,ey,n0,hE,q⟩=>ID (JE (IL ?_)));subst ey;obtain rfl:v=DC a:=r1;obtain⟨ta,hx1⟩:=(show aE X.prog X.w H1 s1.heap a (.ext (kr a (.ref C) d)) from I1.hok a _ hE).1;exact⟨a,_,_,rfl,I1.bk _ _ hC,hx1,rfl,rfl,rfl,hxe JI σ H1 s1 a d I1 n0 hE q⟩
end
section
variable {P:IE} {w:IF} {K:Dj} {mg:Str->Option Io} {base:IC} {N:List Str} {qual:Str} {scope:IU} {f:Ip} {cd:Io} {A:IH} {outer:List Env} {s:Iq} {H:Hp} {E:XK}
theorem BS{JI:List (Ip×Obj)}{σ:St}{H1:Hp}{s1:Iq}{a C d:Ip}(I:aa (bp (bP P w) P w K mg base N qual scope f cd A outer s H E) JI σ H1 s1)(n0:s.heap.get? a=none)(hE:H1 a=some (.ext (kr a (.ref C) d)))
 (q:E (.ref C) (some d) (jZ H1 a)):(bp (bP P w) P w K mg base N qual scope f cd A outer s H E).xe (.ref a) s1:=by
 obtain⟨ta,hx⟩:=(show aE P w H1 s1.heap a (.ext (kr a (.ref C) d)) from I.hok a _ hE).1;exact Bu I hx rfl (a0:= .ref ta) rfl rfl n0 hE q
end
theorem uS(a b:Str):(a++b).length=a.length+b.length:=by
 obtain⟨x⟩:=a;obtain⟨y⟩:=b;show(x++y).size=x.size+y.size;exact Hw
section
variable {X:Cx}
def uT(i:Nat):TE:=λσ H Q=>∃n:Int,σ[i]?=some (some (.int n))/\n.natAbs.log2 < 1920/\(Dk (toString n)).length<=1000/\∀z:Str,Q (.str z) H
theorem BU{i:Nat}{s0 x:Str}{j:Nat}{p1 p2 p3 pos:Pos}(h0:s0.length<=1000)(hx:PE X (.Name x p3) (kA i)):PE X (.JoinedStr [.Constant (.str s0) j p1,.FormattedValue (.Name x p3) (-1) none p2] pos) (uT i):=by
 intro JI s σ H Q I ⟨n,e,hn,hz,q⟩;have sl:=IG;refine JoinedStr_many (joinParts_cons (ak (lh JI s σ H (λv H1=>v= .str s0/\H1=H) I ⟨rfl,rfl⟩) λv s1 ⟨y,H1,I1,r1,ey,eH⟩=>?_));subst ey eH;obtain⟨t1,rfl⟩:=r1;have l1:(Gb++s0).length<=1000:=by rw [uS];show 0+s0.length<=1000;omega
 refine⟨Ih,joinParts_cons (FormattedValue_plain (ak (hx JI s1 σ H1 (λv H2=>v= .int n/\H2=H1) I1 ⟨_,e,rfl,rfl⟩) λv s2 ⟨y,H2,I2,r2,ey,eH⟩=>?_))⟩;subst ey eH;obtain⟨t2,rfl⟩:=r2;refine formatField_int_small hn ?_;have l2:(Gb++s0++Dk (toString n)).length<=Ir:=by rw [uS];omega
 exact⟨l2,joinParts_nil (hsz:=l2) ⟨.str (Gb++s0++Dk (toString n)),H2,(I2.tok _).tok _,⟨_,rfl⟩,q _⟩⟩
end
theorem BV{H:Hp}{a:Ip}{o:HO}(h:H a=some o):ah H a o=H:=by
 funext b;by_cases e:b=a
 ·rw [e,aD,h]
 ·rw [aq e]
def rf(C:Ip)(f:Str):Sp:=λvs H Q _=>∃(a:Ip)(n:Int),vs=[.ref a,.int n]/\n.natAbs.log2 < 1920/\(Dk (toString n)).length<=1000/\H a=some (.ext (jT a (.ref C)))/\∀d,H d=none->d≠a->Q .non (ah (ah H d (.xd [(f,.int n)])) a (.ext (kr a (.ref C) d)))
section
variable {P:IE} {w:IF} {K:Dj} {mg:Str->Option Io} {base:IC}
theorem ju.okNX{x qual f:Str}{st:II}{fa C:Ip}{fd:IB}{N ps:List Str}{k:Nat}(Fu:ju K x qual st fa fd)(S:aL N ps (ax st))(h2:ps.length=2)(hN:N=ps)
 (hbody:∀(cdv:Io) (A:IH) (outer:List Env) (s:Iq) (H:Hp) (E:XK),aU k (A.deeper (Jm qual (ax st) s.heap.objs.size fa cdv))->aR (bp CX0 P w K mg base N qual (ax st) fa cdv A outer s H E).nox (jG st) (nM (uP C (mO (kA 0) (mO (uT 1) nZ))) (uQ C f (kA 0) (kA 1)))):
 aA P w K mg base CX0 (k+1) fa fd ps (rf C f):=by
 refine Fu.ok S (λvs H Q E uu88=>by obtain⟨a,n,e,_⟩:=uu88;rw [e,h2];rfl) λcdv A outer s H vs Q E hr ⟨a,n,ev,hn,hz,hE,q⟩=>⟨_,hbody cdv A outer s H E hr,?_⟩;subst ev hN;have st:start N [V.ref a,V.int n]=[some (V.ref a),some (V.int n)]:=by
  match N,h2 with
  | [y,z],_=>rfl
 rw [st];refine⟨.ref a,rfl,n,rfl,hn,hz,λz=>⟨a,[.str z],rfl,by rw [IG];show 1<=16777216;decide,hE,?_⟩⟩;rw [BV hE];exact⟨.int n,rfl,.ref a,rfl,a,rfl,hE,λd hd ne=>q d hd ne⟩
end
abbrev rg:=List Im->(Im->Prop)->(Int->Prop)->Prop
inductive rh (K:Dj) (C:Ip) (f:Str) (F:rg) (vs:List V) (H:Hp) (Q:VK) (E:XK):Prop
 | mk (O:Ex) (ds:List Im) (Qd:Im->Prop) (R:Int->Prop):(∀l,O l->H l≠none)->aj K H O vs ds->F ds Qd R->(∀d v H',Qd d->ai H H'->Dt K H' O v d->Q v H')->
  (∀n,R n->∀dd H',ai H H'->H' dd=some (.xd [(f,.int n)])->E (.ref C) (some dd) H')->rh K C f F vs H Q E
section
variable {P:IE} {w:IF} {K:Dj} {mg:Str->Option Io} {base:IC}
theorem ju.okRd{x qual:Str}{st:II}{f:Ip}{fd:IB}{N ps:List Str}{k:Nat}{sp:Sp}(F:ju K x qual st f fd)(S:aL N ps (ax st))(len:∀vs H Q E,sp vs H Q E->vs.length=ps.length)
 (hbody:∀(cdv:Io) (A:IH) (outer:List Env) (s:Iq) (H:Hp) (vs:List V) (Q:VK) (E:XK),aU k (A.deeper (Jm qual (ax st) s.heap.objs.size f cdv))->sp vs H Q E->
  ∃t,aR (bp (bP P w) P w K mg base N qual (ax st) f cdv A outer s H E) (jG st) t/\t {nx:=λ_ H'=>Q .non H',rt:=Q} (start N vs) H):aA P w K mg base (bP P w) (k+1) f fd ps sp:=by
 obtain⟨oc,od,kV,doc,pm,an,cdv,ct,osl,rfl,lk,hcd⟩:=F.ex;exact sT lk hcd S len λA outer s H vs Q E hr hsp=>hbody cdv A outer s H vs Q E hr hsp
theorem ju.okDXn{C:Ip}{af x qual:Str}{st:II}{f:Ip}{fd:IB}{N ps:List Str}{k:Nat}{F:rg}(Fu:ju K x qual st f fd)(S:aL N ps (ax st))(len:∀ds Q R,F ds Q R->ds.length=ps.length)
 (hbody:∀(cdv:Io) (A:IH) (outer:List Env) (s:Iq) (H:Hp) (O:Ex) (ds:List Im) (Q:Im->Prop) (R:Int->Prop) (E:XK),aU k (A.deeper (Jm qual (ax st) s.heap.objs.size f cdv))->F ds Q R->
  (∀n,R n->∀dd H',ai H H'->H' dd=some (.xd [(af,.int n)])->E (.ref C) (some dd) H')->
  ∃t,aR (bp (bP P w) P w K mg base N qual (ax st) f cdv A outer s H E) (jG st) (bQ K H O t)/\t {nx:=λ_=>Q .none,rt:=Q} (bC N ds)):aA P w K mg base (bP P w) (k+1) f fd ps (rh K C af F):=by
 refine Fu.okRd S (λvs H Q E h=>?_) (λcdv A outer s H vs Q E hr h=>?_)
 ·obtain⟨O,ds,Qd,R,_,r,q,_⟩:=h;rw [r.length];exact len _ _ _ q
 ·obtain⟨O,ds,Qd,R,tr,r,q,k,kx⟩:=h;obtain⟨t,ht,q'⟩:=hbody cdv A outer s H O ds Qd R E hr q kx;refine⟨_,ht,O,_,_,t5 tr r,q',λO' δ' σ' H' z w' S'=>?_,λd v H' z s' r'=>k d v H' z s' r',λ_ _ _ _ z=>z.elim,λ_ _ _ _ z=>z.elim⟩;exact k _ _ _ z w'.same .non
def d7(R:Int->Prop)(u:DA):DS:=λ_ δ=>u δ λds=>∃n,ds=[.int n]/\n.natAbs.log2 < 1920/\(Dk (toString n)).length<=1000/\R n
section
variable {N:List Str} {qual:Str} {scope:IU} {f0:Ip} {cd:Io} {A:IH} {outer:List Env} {s:Iq} {H:Hp} {O:Ex} {E:XK} {R:Int->Prop} {C:Ip} {af:Str}
theorem oT{j k:Nat}{fi:Ip}{fdi:IB}{psi:List Str}{x:Str}{bm:List Io}{B newId initId:String}{e:Iu}{np cpos pos:Pos}{u:DA}(hx:∀n,R n->∀dd H',ai H H'->H' dd=some (.xd [(af,.int n)])->E (.ref C) (some dd) H')
 (FB:Jf B newId initId bm)(M:MkX K C fi bm newId)(G:aA P w K mg base CX0 k fi fdi psi (rf C af))(hr:aU j (bp (bP P w) P w K mg base N qual scope f0 cd A outer s H E).A)(hm:mg x=some (.ref C))(hb:jW K fdi psi [])
 (ha:PA (bp (bP P w) P w K mg base N qual scope f0 cd A outer s H E) [e] (j4 K H O u))(hk:k+1<=j:=by decide)(hg:Gl (bp (bP P w) P w K mg base N qual scope f0 cd A outer s H E) x:=by exact rfl)(hd:(x==("__debug__":Str))=false:=by decide)
 (he:Iw [e] (bp (bP P w) P w K mg base N qual scope f0 cd A outer s H E).env=(false,eval e (bp (bP P w) P w K mg base N qual scope f0 cd A outer s H E).env)::Iw [] (bp (bP P w) P w K mg base N qual scope f0 cd A outer s H E).env:=by rfl)
 (hpl:(IS cpos (Iw [] (bp (bP P w) P w K mg base N qual scope f0 cd A outer s H E).env)).any (·.1)=false:=by rfl):
 PS (bp (bP P w) P w K mg base N qual scope f0 cd A outer s H E) (.Raise (some (.Call (.Name x np) [e] [] cpos)) none pos) (bQ K H O (d7 R u)):=
 λJI s1 σ H1 D I ⟨O1,δ,EE,w1,q1,_,_,_,_⟩=>BR (Ex:=λa d H2=>∃n,R n/\ai H (jZ H2 a)/\jZ H2 a d=some (.xd [(af,.int n)])) rfl FB M G (hr.mono hk) hg hm hb tf rfl ha
  (λJI σ H2 s2 a d I2 n0 hE uu91=>by obtain⟨n,r,sm,hd⟩:=uu91;exact BS I2 n0 hE (hx n r d _ sm hd)) hd he hpl JI s1 σ H1 D I
  ⟨O1,δ,_,w1,q1,λds vs H2 uu92 s2 r2=>by
   obtain⟨n,ed,hn,hz,r⟩:=uu92;subst ed;cases r2 with
   | cons r3 r4=>
    cases r4;cases r3;refine⟨by rw [IG];show 1<=16777216;decide,λa ha0 n0=>⟨a,n,rfl,hn,hz,aD,λd hd ne=>⟨rfl,a,d,rfl,n0,aD,n,r,?_,?_⟩⟩⟩
    ·intro b o hb;have hb2:H2 b=some o:=(w1.same.trans s2) b o hb;have na:b≠a:=λy=>by rw [y,ha0] at hb2;cases hb2
     have nd:b≠d:=λy=>by rw [aq ne] at hd;rw [y,hd] at hb2;cases hb2
     rw [mC na,aq na,aq nd,aq na];exact hb2
    ·rw [mC ne,aq ne,aD]⟩
end
end
section
variable {X:Cx} {CX:cC} {k:Nat} {f C C':Ip} {fd:IB} {ps:List Str} {sp:Sp} {x c n:Str} {p cp ep np hp tp:Pos} {a:Iu} {as:List Iu} {b₀:II} {suite:List II} {t:TA} {i j:Nat} {ts:TS} {y:Str} {yp:Pos}
theorem BW{bmB bmB':List Io}{newId newId':String}(F:aA X.prog X.w X.K X.mg X.base (bP X.prog X.w) k f fd ps sp)(hr:aU k X.A)(hg:Gl X x)(hm:X.mg x=some (.ref f))(hk:Fm X.K (.ref f)=true)(hb:jW X.K fd ps [])
 (ha:∀E',PA (X.wish E') (a::as) t)(hst:X.stack=X.env::X.outer)(hfr:X.env.frame=some X.env.locals)
 (hmc:X.mg c=some (.ref C'))(hgc:Gl X c)(q:mD X.K C bmB newId=true)(q':F8 X.K C' bmB' newId'=true)(hB:bmB'.contains (.type "BaseException")=true)
 (hin:Fj X.K C (.ref C')=some true)
 (hN:X.N.Nodup)(hj:X.N[j]?=some y)(hy:k9 X.env.scope y)(hf:X.fn y=true\/X.env.scope.names.lookup y=some .local)(hi:X.N[i]?=some n)(hn:X.env.scope.names.lookup n=some .local)(hs:∀e,aR (X.inEx e) (b₀::suite) ts)
 (hdb:(x==("__debug__":Str))=false:=by decide)(hdc:(c==("__debug__":Str))=false:=by decide)(he:Iw (a::as) X.env=(false,eval a X.env)::Iw as X.env:=by rfl)(hpl:(IS cp (Iw as X.env)).any (·.1)=false:=by rfl)(hsw:Jd (.Call (.Name x p) (a::as) [] cp) (some (.Name y yp)) ep.line X.env=pure false:=by rfl):
 PS X (.Try [.Assign [.Name y yp] (.Call (.Name x p) (a::as) [] cp) ep] [.ExceptHandler (some (.Name c np)) (some n) (b₀::suite) hp] [] [] tp) (Bw sp t C i j ts):=by
 intro JI s σ H D I h;refine wpAny_Try_except ?_;generalize hEh:(λ(e:Io) (s₁:Iq)=>Iz (Iy X.prog X.w) X.A (JC e X.env) (λ_ s₂=>Iz (Iy X.prog X.w) X.A (setFlight e none) (λ_ s₃=>Iz (Iy X.prog X.w) X.A (handleBy e X.env [.ExceptHandler (some (.Name c np)) (some n) (b₀::suite) hp]) (SP X JI D) X.xe s₃) X.xe s₂) X.xe s₁)=Eh;have I':aa (X.wish Eh) JI σ H s:=I.wish Eh;have out:Iz (Iy X.prog X.w) X.A (eval (.Call (.Name x p) (a::as) [] cp) X.env) (λu s₁=>∃v H',aa X JI σ H' s₁/\au v u/\D.nx (σ.set j (some v)) H') Eh s:=by
  refine Jj (ma I hg hm ?_ hdb);refine Gv (h₀:=X.base) I.ok.mod.kin hk (ak (ha Eh cp JI s σ H _ I' h) λus s1 ⟨vs,H1,I1w,r,q1⟩=>⟨I1w.kIn,?_⟩) he hpl;have I1:aa X JI σ H1 s1:=I1w.unwish;have hl:(us++[]).length=ps.length:=by rw [DH,<-r.length];exact F.len _ _ _ _ q1
  have bd:=hb s1 us I1.kIn hl;rw [DH] at bd;refine wpAny_call (JA (F.run X.A X.stack s1 H1 ⟨us,[]⟩ us vs _ _ hr I1.env0 bd r q1) λr2 s2 hq=>?_);cases r2 with
  | ok fl=>
   cases fl with
   | ret u=>
    obtain⟨v,H2,I2,rv,q2⟩:=I1.after hq;exact⟨v,H2,I2,rv,q2⟩
   | next=>exact E2 hq
   | brk=>exact E2 hq
   | cont=>exact E2 hq
  | error ev=>
   obtain⟨e,cls,a0,B,H2,rfl,ho,hgn,fl,hB2,un,kb,th,ox,hox,rfl,hsu⟩:=hq;rw [<-hEh];have fl':Gi B (X.env::X.outer) e (.ref C) a0 s2.heap:=by rw [<-hst];exact fl
   refine IM (Bv (Q:=λ_ s'=>∃h4,s'={s2 with heap:=h4}/\Heap.HeldW B (X.env::X.outer) e (.ref C) a0 X.env.locals h4/\s2.heap.UpToSlots h4) (wpAny_looks_onW (by rw [I.ok.frames,hst]) hfr fl' λh4 a b=>⟨h4,rfl,a,b⟩)) (λ_ s4 hs4=>?_) (λ_ _ z=>z.1);obtain⟨⟨h4,rfl,held4,sm4⟩,dk4⟩:=hs4;refine IM (uL (Q:=λ_ s'=>∃h5,s'={s2 with heap:=h5}/\Gi B (X.env::X.outer) e (.ref C) a0 h5/\h4.UpToSlots h5) (wpAny_landsW held4 λh5 a b=>⟨h5,rfl,a,b⟩)) (λ_ s5 hs5=>?_) (λ_ _ z=>z.1);obtain⟨⟨h5,rfl,fl5,sm5⟩,dk5⟩:=hs5;have sm25:=sm4.trans sm5;have I5:aa X JI σ H2 {s2 with heap:=h5}:=aa.call' (ch:=[]) (s':={s2 with heap:=h5}) I1 ho (tN (X:=X) un fl fl5.1 sm25 kb th) (hB2.kept fl5.1) hgn (λ_ z=>nomatch z);have I5e:=I5.inEx e;obtain⟨ob,hob,hobc⟩:=fl5.there;have O:=(xM (x:=c) (mg:=X.mg) (C:=C') I.ok.mod.kin hmc q').obj;obtain⟨tl',N',nm',qn',bs',hd',sn',sub',ab',col',dd',k0',k1',k2',k3',k5',mN',hC',_,_,T'⟩:=O;obtain⟨tl,nm,qn,N,bs,sn,sub,ab,col,dd,k0,k1,k2,k3,k5,hC,_,T⟩:=nG I.ok.mod.kin q;refine wpAny_handleBy_cons (codeAny_handlers_test (ma I5e hgc hmc ?_ hdc)) (by intro z;cases z);have hbase':tl'.contains (.type "BaseException")=true:=by rw [T'.hasType hB]
   refine xN (I5.bk _ _ hC) (I5.bk _ _ hC') hob hobc hbase' (xP I.ok.mod.kin hin hC) ?_;refine codeAny_handlers_suite_as ?_;refine IM (uL (Q:=λ_ s'=>∃h6,s'={s2 with heap:=h6}/\Gi B (X.env::X.outer) e (.ref C) a0 h6/\h5.UpToSlots h6) (lands_againW fl5 λh6 a b=>⟨h6,rfl,a,b⟩)) (λ_ s6 hs6=>?_) (λ_ _ z=>z.1);obtain⟨⟨h6,rfl,fl6,sm6⟩,dk6⟩:=hs6;have dk26:DK s2.heap h6:=(dk4.trans dk5).trans dk6;have eB:B.get? e=none:=fl.2.1;have nH2:H2 e=none:=by
    cases z:H2 e with
    | none=>rfl
    | some u=>
     obtain⟨ob',z'⟩:=(hB2 e u z).there;rw [eB] at z';cases z'
   have u6:=tN (X:=X) un fl fl6.1 (sm25.trans sm6) kb th;have n1:∀o,s1.heap.get? e=some o->False:=λo z=>by
    by_cases hbf:e∈bb X.stack
    ·obtain⟨_,o',ho',hd'⟩:=fl.2.2.1.mem hbf;obtain⟨oe,ws,hoe,_,hoed,_⟩:=fl.first;rw [hoe] at ho';cases ho';exact hd' _ hoed
    ·obtain⟨o',z'⟩:=th e o z hbf;rw [eB] at z';cases z'
   have ne2:∀b u,H2 b=some u->b≠e:=λb u z w'=>by rw [w',nH2] at z;cases z
   have un6:Un (bb X.stack) [] H1 (ah H2 e (.ext (jC e (.ref C) ox.dict))) s1.heap h6:=
    ⟨u6.keep,u6.slot,λb o z nn hx=>by rw [aq (λw'=>n1 o (by rw [<-w'];exact z))];exact u6.free b o z nn hx,u6.there,
     λb xs z=>by rw [aq (ne2 b _ (u6.tups b xs z))];exact u6.tups b xs z,λb o xs z=>by rw [aq (ne2 b _ (u6.frzs b o xs z))];exact u6.frzs b o xs z,
     λb pss z=>by obtain⟨mo,z'⟩:=u6.tbls b pss z;exact⟨mo,by rw [aq (ne2 b _ z')];exact z'⟩⟩
   have ok6:aH X.prog X.w (ah H2 e (.ext (jC e (.ref C) ox.dict))) h6:=λb u z=>by
    by_cases hbe:b=e
    ·subst hbe;rw [aD] at z;cases z;obtain⟨o6,vs6,ho6,hc6,hf6,_⟩:=fl6.first;obtain⟨o7,ho7,hd7⟩:=dk26 _ ox hox;rw [ho6] at ho7;cases ho7;exact⟨⟨o6,ho6,hc6,hd7,by unfold notCls;rw [hf6]⟩,⟨o6,ho6⟩,λh1 h2 uu94 kk=>by obtain⟨o,z1,z2⟩:=uu94;exact⟨o,kk o z1,z2⟩⟩
    ·rw [aq hbe] at z;exact(hB2 b u z).stay (λcc v _ z'=>fl6.1 cc v z') (λcc z'=>by rw [aq (ne2 cc _ z')];exact z') (λcc xs z'=>by rw [aq (ne2 cc _ z')];exact z') λcc xs z'=>by rw [aq (ne2 cc _ z')];exact z'
   have I6:aa X JI σ (ah H2 e (.ext (jC e (.ref C) ox.dict))) {s2 with heap:=h6}:=aa.call' (ch:=[]) (s':={s2 with heap:=h6}) I1 ho un6 ok6 hgn (λ_ z=>nomatch z);refine mH (X:=X.inEx e) (I6.inEx e) hN hi (.inl hn) (v:= .ref e) rfl (λs7 I7=>?_) (.inr hn);refine IM (hs e JI s7 _ _ _ I7 (hsu e nH2)) (λf s8 q8=>?_) λ_ _ z=>z.elim;cases f with
   | next=>
    obtain⟨σ8,H8,J8,q8⟩:=q8;exact xO (J8.outEx I.ok.hd) hN hi hn λs9 J9=>⟨σ8.set i none,H8,J9,q8⟩
   | ret v=>obtain⟨_,_,_,_,_,z⟩:=q8;exact z.elim
   | brk=>obtain⟨_,_,_,z⟩:=q8;exact z.elim
   | cont=>obtain⟨_,_,_,z⟩:=q8;exact z.elim
 refine JG (wpAny_Assign_Name (ak out λu s1 ⟨v,H',I1,r1,q1⟩=>?_) hsw);exact mH I1 hN hj hy r1 (λs2 I2=>Ji (Ji ⟨_,H',I2,q1⟩)) hf
end
theorem uU{X:Cx}{K':Dj}(h:X.K=K'):cB X (.builtin "isinstance") (λxs H Q=>∃(dd:Option Ip)(e C:Ip)(c:V)(cv:Io)(b:Bool),xs=[.ref e,c]/\H e=some (.ext (jC e (.ref C) dd))/\jF K' C/\(∀u,au c u->u=cv)/\FA K' (.ref C) cv=some b/\Q (.bl b) H):=by
 subst h;exact BB
theorem BX{X:Cx}{K':Dj}(h:X.K=K'):cB X (.builtin "isinstance") (λxs H Q=>∃(dd:Option Ip)(e C q:Ip)(cs:List Ip)(b:Bool),xs=[.ref e,.ref q]/\H e=some (.ext (jC e (.ref C) dd))/\H q=some (.tup (cs.map V.ref))/\jF K' C/\Gr K' (.ref C) (cs.map DC)=some b/\Q (.bl b) H):=by
 subst h;exact BC
section
variable {X:Cx} {H0:Hp} {O0:Ex}
theorem BY:mR X "str.strip" (λx xs H Q=>∃(z y:Str),x= .str z/\xs=[.str y]/\z.length<=Ir/\Q (.str (Txt.stripChars z y)) H):=by
 intro JI s σ H x xs v us Q I rx rs h;obtain⟨z,y,rfl,rfl,hz,q⟩:=h;obtain⟨t,rfl⟩:=rx;obtain⟨u,rfl,t',rfl⟩:=jK rs;exact SC.stripChars (λt' k=>⟨.str _,H,I.tok _,⟨_,rfl⟩,q⟩) hz
def d8(to t:DT):DT:=λδ Q=>to δ λx=>∃z:Str,x= .str z/\t δ λy=>∃c:Str,y= .str c/\z.length<=Ir/\Q (.str (Txt.stripChars z c))
theorem BZ{o e:Iu}{to t:DT}{apos cpos:Pos}(ho:DE X H0 O0 o to)(ha:DE X H0 O0 e t)(hbase:Jh o "strip" X.env (eval o X.env)=eval o X.env:=by rfl)
 (hfew:((IS cpos (Iw [e] X.env)).all (λx=>!x.1) && (backToKw cpos (Js [] X.env)).all (λx=>x.1.isSome) && decide ([e].length+([]:List Jn).length+(if ([]:List Jn).isEmpty then 0 else 1) < 30))=true:=by rfl)
 (hline:(apos.endLine==cpos.line)=true:=by rfl)(hst:Iw [e] X.env=(false,eval e X.env)::Iw [] X.env:=by rfl)(hplain:(IS cpos (Iw [] X.env)).any (·.1)=false:=by rfl):
 DE X H0 O0 (.Call (.Attribute o "strip" apos) [e] [] cpos) (d8 to t):=
 (n6 FH PySem.F.slot_str_strip PySem.F.type_str_strip BY ho (aw ha aK hst) hbase hfew hline hst hplain).imp λσ H Q uu96=>by obtain⟨O,δ,Qd,w,q,k⟩:=uu96;exact⟨O,δ,_,w,q,λx v H1 uu0 s1 r1=>by
  obtain⟨z,e,q1⟩:=uu0;subst e;cases r1;exact⟨rfl,O,δ,_,w.mono s1,q1,λy u H2 uu1 s2 r2=>by obtain⟨c,e,hz,q2⟩:=uu1;subst e;cases r2;exact⟨z,c,rfl,rfl,hz,k _ _ H2 q2 (s1.trans s2) (.str _)⟩⟩⟩
theorem rj{g:Nat->Bool}:∀{L:List Nat},∀c∈L.takeWhile g,g c=true
 | x::xs,c,h=>by
  rw [Hf] at h;split at h
  ·rename_i hx;rcases EL.mp h with e | h
   ·rw [e];exact hx
   ·exact rj c h
  ·cases h
theorem B0{g:Nat->Bool}{L:List Nat}(h:L.length<=(L.takeWhile g).length):∀c∈L,g c=true:=λc hc=>by
 have e:L.takeWhile g=L:=(FI g).eq_of_length (HH (FI g).length_le h);rw [<-e] at hc;exact rj c hc
theorem uV{g:Nat->Bool}:∀{L:List Nat},(∀c∈L,g c=true)->L.takeWhile g=L
 | [],_=>rfl
 | x::xs,h=>by rw [Hf,Ij (h x Il),uV λc hc=>h c (by simp [hc])]
theorem B1(z y:Str):(Txt.stripChars z y==Dk "")=z.cps.toList.all (λc=>y.cps.contains c):=by
 have key:(Txt.stripChars z y).cps.size=0↔∀c∈z.cps.toList,y.cps.contains c=true:=by
  unfold Txt.stripChars;rw [PyProof.Rows.stripBy_eq];show(z.cps.extract (stripLo y.cps.contains true z) (stripHi y.cps.contains true z (stripLo y.cps.contains true z))).size=0↔_;rw [Array.size_extract];unfold stripHi stripLo;rw [Ij rfl,Ij rfl];generalize y.cps.contains=g;have h2:z.length=z.cps.toList.length:=ED.symm;have hz:z.cps.size=z.cps.toList.length:=ED.symm;rw [hz,h2];generalize z.cps.toList=L;constructor
  ·intro h c hc;have hd:(L.drop (L.takeWhile g).length).length<=((L.drop (L.takeWhile g).length).reverse.takeWhile g).length:=by
    have h1:=(FI (l:=(L.drop (L.takeWhile g).length).reverse) g).length_le;have h3:=(FI (l:=L) g).length_le;rw [Hg] at h1;rw [HA] at h1⊢;omega
   have hr:=B0 (g:=g) (L:=(L.drop (L.takeWhile g).length).reverse) (by rw [Hg];exact hd);have e:L=L.takeWhile g++L.dropWhile g:=List.takeWhile_append_dropWhile.symm;have e2:L.drop (L.takeWhile g).length=L.dropWhile g:=by
    have:=List.drop_left (l₁:=L.takeWhile g) (l₂:=L.dropWhile g);rw [<-e] at this;exact this
   rw [e2] at hr;rw [e] at hc;rcases GR.mp hc with h | h
   ·exact rj c h
   ·exact hr c (List.mem_reverse.mpr h)
  ·intro h;rw [uV h];omega
 rw [Fv,beq_iff_eq,FQ];refine Iff.trans ⟨λh=>by rw [h];rfl,λh=>?_⟩ key;generalize Txt.stripChars z y=w at h;obtain⟨a⟩:=w;obtain rfl:=Array.eq_empty_of_size_eq_zero h;rfl
theorem aj.set{K:Dj}{H:Hp}{O:Ex}{v:V}{d:Im}(h:Dt K H O v d):∀{vs:List V}{ds:List Im},aj K H O vs ds->∀j,aj K H O (vs.set j v) (ds.set j d)
 | _,_,.nil,_=>.nil
 | _,_,.cons a r,0=>.cons h r
 | _,_,.cons a r,j+1=>.cons a (aj.set h r j)
def d9(i:Nat)(tk tv:DT):DS:=λE δ=>tv δ λd=>∃ds,δ[i]?=some (some (.o ds))/\tk δ λy=>∃k:Int,y= .int k/\∃j,kg ds.length k=some j/\E.nx (δ.set i (some (.o (ds.set j d))))
theorem B2{i:Nat}{o e v:Iu}{tk tv:DT}{pos pos':Pos}(ho:PE X o (kA i))(he:DE X H0 O0 e tk)(hv:DE X H0 O0 v tv)
 (hs:swapsWithSole [.Subscript o e pos'] v pos.line X.env=pure false:=by rfl)(hw:swappedStores [.Subscript o e pos'] v X.env=pure none:=by rfl)
 (h1:(Jk [.Subscript o e pos'] X.env).map (·.2)=[assign (.Subscript o e pos') X.env]:=by rfl)
 (ha:∀v,assign (.Subscript o e pos') X.env v=(do
  let ov<-Jw [v] (eval o X.env)
  let iv<-Jw [v,ov] (eval e X.env)
  standAt pos'
  Jw [v,ov,iv] (setItem ov iv v)
  release [v,ov,iv] []):=by intro _;rfl):PS X (.Assign [.Subscript o e pos'] v pos) (bQ X.K H0 O0 (d9 i tk tv)):=
 (pK hv (so ho he sX ha) hs hw h1).imp λD σ H ⟨O,δ,E,w,q,k1,k2,k3,k4⟩=>⟨O,δ,_,w,q,λd u H1 uu3 s1 r1=>by
  obtain⟨ds,e,qk⟩:=uu3;have w1:=w.mono s1;obtain⟨l,vs,h,a,b,c,r⟩:=w1.own e;refine⟨.ref l,h,O,δ,_,w1,qk,λy uy H2 ⟨k,ek,j,hj,q2⟩ s2 r2=>?_⟩;subst ek;cases r2;refine⟨l,vs,k,j,rfl,rfl,s2 _ _ c,by rw [r.length];exact hj,k1 _ _ _ _ q2 ((w1.mono s2).putO (vs:=vs) e h (aj.set (r1.mono s2) (r.mono s2) j)) ⟨λb' o' z n=>?_,λ_ _ n=>n⟩⟩;rw [aq (λy=>n (by rw [y];exact a))];exact(s1.trans s2) _ _ z⟩
end
end L2
namespace PySem.SeqAt
open AutoSeq1 (wpAny_loadPart')
open MeetsSeq
end PySem.SeqAt
namespace L2
open PySem PySem.Spec PyProof.Rows PySem.W
section
variable {X:Cx} {H0:Hp} {O0:Ex}
open PySem PySem.Spec PyProof.Rows PySem.W PySem.Calls
end
end L2
namespace PySem.SeqAt
open AutoSeq1 (wpAny_loadPart')
open MeetsSeq
theorem B3(l:Ip)(es:Array Jx)(n:Nat)(dd:Option Ip)(sl:Array (Option Io))(b:Str)(u:Tok):
 Meets (Builtin.«dict.__ne__» ⟨[.ref l,.str b u],[]⟩) (λ_ R s=>s.heap.get? l=some {cls:= .type "dict",dict:=dd,data:= .dict es n,slots:=sl}/\R (.ok (.ret .notImplemented)) s):=
 .of_wp λprog w A R s h=>by obtain⟨hp,g,d,tk,os⟩:=s;obtain⟨hl,h⟩:=h;have f1:=F.sub_str_dict;wp_walk using IV hl;exact⟨_,rfl,h⟩
theorem B4(b:Str)(u:Tok)(l:Ip)(c:Io)(es:Array Jx)(n:Nat)(dd:Option Ip)(sl:Array (Option Io)):
 Meets (Builtin.«str.__ne__» ⟨[.str b u,.ref l],[]⟩) (λ_ R s=>s.heap.get? l=some {cls:=c,dict:=dd,data:= .dict es n,slots:=sl}/\R (.ok (.ret .notImplemented)) s):=
 .of_wp λprog w A R s h=>by obtain⟨hp,g,d,tk,os⟩:=s;obtain⟨hl,h⟩:=h;wp_walk using IV hl,wpAny_load hl;exact⟨_,rfl,h⟩
section
variable {A:IH} {s:Iq}
theorem RcNeAt.dict_str{l:Ip}{es:Array Jx}{n:Nat}{o:Obj}(b:Str)(u:Tok)(ho:s.heap.get? l=some o)(hc:o.cls= .type "dict")(hd:o.data= .dict es n)(hu:A.units < cLine):RcNeAt A s (.ref l) (.str b u) true:=λprog w E Q h=>by
 obtain⟨cls,dd,data,sl⟩:=o;simp only at hc hd;subst hc hd;exact rc_ne_decline_or (k:=false) ⟨_,ho,rfl⟩ (Jb s b u) Ce F.sub_str_dict F.slot_dict_ne F.slot_str_ne_refl
  (λ_ hq=>Jl F.slot_dict_ne ⟨_,ho,rfl⟩ F.entry_dict_ne (F.args_dict_ne_2 _ _) (B3 l es n dd sl b u) ⟨ho,hq⟩)
  (λ_ hq=>Jl F.slot_str_ne_refl (Jb s b u) F.entry_str_ne (F.args_str_ne_2 _ _) (B4 b u l (.type "dict") es n dd sl) ⟨ho,hq⟩)
  (λ_ hq=>wpAny_of_eq (rfl:isSame (.ref l) (.str b u)=pure false) hq) (.inr hu) h
end
end PySem.SeqAt
namespace L2
open PySem PySem.Spec PyProof.Rows PySem.W
section
variable {X:Cx} {JI:List (Ip×Obj)} {σ:St} {H:Hp} {s:Iq}
theorem B5(I:aa X JI σ H s){O:Ex}{v:V}{d:Im}{u:Io}(h:Dt X.K H O v d)(ht:cw d=true)(r:au v u)(y:Str)(t:Tok)(hu:X.A.units < cLine):SeqAt.RcNeAt X.A s u (.str y t) (!DL d (.str y)):=by
 cases h with
 | non=>cases (show u=Ge from r);simpa [DL] using SeqAt.RcNeAt.none_str y t
 | bl b=>cases (show u=Fy b from r);simpa [DL] using SeqAt.RcNeAt.bool_str b y t
 | int i=>obtain⟨k,e⟩:=(show ∃t,u=F9 i t from r);cases e;simpa [DL] using SeqAt.RcNeAt.int_str i k y t
 | str x=>
  obtain⟨k,e⟩:=(show ∃t,u=Ga x t from r);cases e;have:=SeqAt.RcNeAt.str_str (A:=X.A) (s:=s) x k y t;simpa [DL,bne] using this
 | @tup a xs ds h n rr=>
  cases (show u=DC a from r);obtain⟨its,rv,p,_⟩:=I.tuple (.inl h);simpa [DL] using GY y t (show s.heap.IsTuple a its.toArray from p) hu
 | @tupK a xs ds h rr=>
  cases (show u=DC a from r);obtain⟨its,rv,p,_⟩:=I.tuple h.of0;simpa [DL] using GY y t (show s.heap.IsTuple a its.toArray from p) hu
 | @lst a xs ds h n rr=>
  cases (show u=DC a from r);obtain⟨its,rv,p,_⟩:=I.list (.inl h);simpa [DL] using SeqAt.RcNeAt.list_str y t p.isList hu
 | pack h n=>exact absurd ht (by simp [cw])
 | purse h n=>exact absurd ht (by simp [cw])
 | scr h r=>exact absurd ht (by simp [cw])
 | obj h e n r=>exact absurd ht (by simp [cw])
 | @dct0 a h n=>
  cases (show u=DC a from r);obtain⟨_,_,_,_,o,es,ep,e,c,dd,_⟩:=(show aE X.prog X.w H s.heap a (.dK []) from I.hok a _ h);simpa [DL] using SeqAt.RcNeAt.dict_str y t e c.1 dd hu
 | @dic a ob kv ks kp ds h e1 e2 n rr=>
  cases (show u=DC a from r);obtain⟨_,_,_,_,o,es,ep,e,c,dd,_⟩:=(show aE X.prog X.w H s.heap a (.dK kv) from(I.hok a _ h).2);simpa [DL] using SeqAt.RcNeAt.dict_str y t e c.1 dd hu
end
section
variable {X:Cx} {H0:Hp} {O0:Ex}
def uW(K:Dj):R2:=λx y H Q=>∃O dx z,Dt K H O x dx/\cw dx=true/\y= .str z/\Q (.bl (!DL dx (.str z))) H
theorem uX{k:Nat}(hr:aU k X.A):aI X (IJ .NotEq) (uW X.K):=by
 intro JI s σ H x y v u Q I rx ry h;obtain⟨O,dx,z,hx,ht,rfl,q⟩:=h;obtain⟨t,rfl⟩:=ry;have hc:IJ .NotEq v (.str z t)=richCompare .NotEq v (.str z t):=rfl;rw [hc];exact B5 I hx ht rx z t hr.units0 X.prog X.w X.xe _ (aT I q rfl)
def ef:Im->Im->(Im->Prop)->Prop:=λx y Q=>∃z,y= .str z/\cw x=true/\Q (.bool (!DL x (.str z)))
theorem uY{K:Dj}:bw K (uW K) ef:=λH O x y dx dy Qd R _ hx hy uu5 k=>by
 obtain⟨z,e,ht,q⟩:=uu5;subst e;cases hy.str;exact⟨_,dx,z,hx.all,ht,rfl,k _ _ H q (ai.refl _) (.bl _)⟩
end
open PySem PySem.Spec PyProof.Rows PySem.W PySem.Calls
section
variable {X:Cx} {H0:Hp} {O0:Ex}
theorem B6{e:Iu}{t:TE}(h:PE X e t):PE X e (λσ H Q=>t σ H λv H1=>∃p kv H2,v= .ref p/\H1=ah H2 p (.dK kv)/\∀o,Q v (ah H2 p (.frz o (.dK kv)))):=by
 intro JI s σ H Q I q;refine ak (h JI s σ H _ I q) λu s1 ⟨v,H1,I1,r1,p,kv,H2,e1,e2,q1⟩=>?_;subst e1 e2;obtain⟨o,I2⟩:=I1.fast aD;rw [v3] at I2;exact⟨_,_,I2,r1,q1 o⟩
def oU(t:lQ):DT:=λδ Q=>t δ λkd=>∃ks:List Str,kd.map (·.1)=ks.map FV/\Q (oJ ks (kd.map (·.2)))
theorem B7{e:Iu}{t:lQ}(h:KE X H0 O0 e t):DE X H0 O0 e (oU t):=(B6 h).imp λσ H R ⟨O,δ,Qd,w,q,k⟩=>
 ⟨O,δ,_,w,q,λkd kv p H' uu8 s hp r=>by obtain⟨ks,ek,qd⟩:=uu8;exact⟨p,kv,H',rfl,rfl,λo=>k _ _ _ qd (s.trans (ai.new hp)) (.dic aD (by rw [r.keys];exact ek) rfl (λz=>w.trk p z (by
  cases e:H p with
  | none=>rfl
  | some o=>rw [s _ _ e] at hp;cases hp)) (r.vals.mono (ai.new hp)))⟩⟩
end
end L2
namespace K03
open PySem L2
def bu(i:Nat):II:=PySem.Challenge.pw_goneday_k03_days_as_texts.main.body.getD i (.Pass ⟨0,0,0,0⟩)
abbrev rl:II:=L2.inClass (bu 11) 0
abbrev rm:II:=bu 21
abbrev rn:II:=bu 22
abbrev rp:II:=bu 23
abbrev rq:II:=bu 24
abbrev rz:II:=bu 25
abbrev rA:II:=bu 26
abbrev rB:II:=bu 27
abbrev rC:II:=bu 28
abbrev oV:II:=bu 29
abbrev rD:II:=bu 30
abbrev rE:II:=bu 31
abbrev rF:II:=bu 32
abbrev oW:II:=bu 33
abbrev rG:II:=bu 34
abbrev rH:II:=bu 36
abbrev rJ:II:=bu 37
abbrev rK:II:=bu 38
abbrev rL:II:=bu 39
abbrev rM:II:=bu 40
abbrev oX:II:=bu 41
abbrev rN:II:=bu 43
abbrev rO:II:=bu 44
abbrev oY:II:=bu 45
abbrev rP:II:=bu 46
abbrev rQ:II:=bu 47
abbrev rR:II:=bu 48
abbrev rS:II:=bu 49
abbrev oZ:II:=bu 50
set_option genInjectivity false in
set_option genSizeOfSpec false in
structure ku where
 a_A:Ip
 d_A:IB
 a_B:Ip
 d_B:IB
 a_C:Ip
 d_C:IB
 a_D:Ip
 d_D:IB
 a_E:Ip
 d_E:IB
 a_F:Ip
 d_F:IB
 a_G:Ip
 d_G:IB
 a_H:Ip
 d_H:IB
 a_I:Ip
 d_I:IB
 a_J:Ip
 d_J:IB
 a_K:Ip
 d_K:IB
 a_L:Ip
 d_L:IB
 a_M:Ip
 d_M:IB
 a_N:Ip
 d_N:IB
 a_O:Ip
 d_O:IB
 a_P:Ip
 d_P:IB
 a_Q:Ip
 d_Q:IB
 a_R:Ip
 d_R:IB
 a_S:Ip
 d_S:IB
 a_T:Ip
 d_T:IB
 a_U:Ip
 d_U:IB
 a_V:Ip
 d_V:IB
 a_W:Ip
 d_W:IB
 a_X:Ip
 d_X:IB
 a_Y:Ip
 d_Y:IB
 a_Z:Ip
 d_Z:IB
 a_a:Ip
 d_a:IB
 a_b:Ip
 d_b:IB
 a_c:Ip
 d_c:IB
 u_ArchiveError:Ip
 u_LAST_WRITTEN:Io
 u_MONTH_DAYS:Io
 u_FIRST_YEAR:Io
 u_ROUND_DAYS:Io
 u_ROUND_YEARS:Io
 u_LAST_YEAR:Io
 u_NoDay:Ip
 u_FIGURES:Io
 u_NoText:Ip
 u_GoneMaker:Ip
 u_Held:Ip
 u_MustStay:Ip
 u_NoCall:Ip
 u_NoDeed:Ip
 u_NoLeave:Ip
 u_NoNumber:Ip
 u_NoPaper:Ip
 u_Twice:Ip
structure Txt (K:Dj) (mg:Str->Option Io) (t:ku):Prop where
 F_A:Mn K "__init__" "NoText.__init__" rl t.a_A t.d_A ["self","row"]
 F_B:Fn K mg "is_whole" rm t.a_B t.d_B ["thing"]
 F_C:Fn K mg "is_day" rn t.a_C t.d_C ["thing"]
 F_D:Fn K mg "is_leap" rp t.a_D t.d_D ["year"]
 F_E:Fn K mg "month_length" rq t.a_E t.d_E ["year","month"]
 F_F:Fn K mg "leaps_before" rz t.a_F t.d_F ["year"]
 F_G:Fn K mg "year_start" rA t.a_G t.d_G ["year"]
 F_H:Fn K mg "year_of" rB t.a_H t.d_H ["day"]
 F_I:Fn K mg "parts_of" rC t.a_I t.d_I ["day"]
 F_J:Fn K mg "number_of" oV t.a_J t.d_J ["year","month","day"]
 F_K:Fn K mg "is_date" rD t.a_K t.d_K ["year","month","day"]
 F_L:Fn K mg "day_of" rE t.a_L t.d_L ["year","month","day"]
 F_M:Fn K mg "show_day" rF t.a_M t.d_M ["day"]
 F_N:Fn K mg "is_figures" oW t.a_N t.d_N ["text","length"]
 F_O:Fn K mg "read_day" rG t.a_O t.d_O ["text"]
 F_P:Fn K mg "_law_mixed" rH t.a_P t.d_P ["_law_cell"]
 F_Q:Fn K mg "_law_pack" rJ t.a_Q t.d_Q ["_law_script","_law_k"]
 F_R:Fn K mg "_law_take" rK t.a_R t.d_R ["_law_pack_here","_law_size"]
 F_S:Fn K mg "_law_length" rL t.a_S t.d_S ["_law_year","_law_month"]
 F_T:Fn K mg "_law_ahead" rM t.a_T t.d_T ["_law_year"]
 F_U:Fn K mg "_law_day" oX t.a_U t.d_U ["_law_date_here"]
 F_V:Fn K mg "_law_drawn_date" rN t.a_V t.d_V ["_law_pack_here","_law_most"]
 F_W:Fn K mg "_law_shown" rO t.a_W t.d_W ["_law_date_here"]
 F_X:Fn K mg "_law_due" oY t.a_X t.d_X ["_law_text"]
 F_Y:Fn K mg "_law_told" rP t.a_Y t.d_Y ["_law_thing"]
 F_Z:Fn K mg "_law_right" rQ t.a_Z t.d_Z ["_law_text"]
 F_a:Fn K mg "_law_spoilt" rR t.a_a t.d_a ["_law_text","_law_pack_here"]
 F_b:Fn K mg "_law_put" rS t.a_b t.d_b ["_law_date_here","_law_pack_here"]
 F_c:Fn K mg "law" oZ t.a_c t.d_c ["_law_script"]
 bt_c:∀(s:Iq)(u:Io),BindsTo s t.d_c ⟨[u],[]⟩ [("_law_script",u)]
 c_ArchiveError:mg "ArchiveError"=some (.ref t.u_ArchiveError)
 c_LAST_WRITTEN:mg "LAST_WRITTEN"=some t.u_LAST_WRITTEN
 r_LAST_WRITTEN:au (.int 99999) t.u_LAST_WRITTEN
 c_MONTH_DAYS:mg "MONTH_DAYS"=some t.u_MONTH_DAYS
 e_MONTH_DAYS:∃a,t.u_MONTH_DAYS= .ref a/\∀H,bD K H a [V.int 31,V.int 28,V.int 31,V.int 30,V.int 31,V.int 30,V.int 31,V.int 31,V.int 30,V.int 31,V.int 30,V.int 31]
 c_FIRST_YEAR:mg "FIRST_YEAR"=some t.u_FIRST_YEAR
 r_FIRST_YEAR:au (.int 2000) t.u_FIRST_YEAR
 c_ROUND_DAYS:mg "ROUND_DAYS"=some t.u_ROUND_DAYS
 r_ROUND_DAYS:au (.int 146097) t.u_ROUND_DAYS
 c_ROUND_YEARS:mg "ROUND_YEARS"=some t.u_ROUND_YEARS
 r_ROUND_YEARS:au (.int 400) t.u_ROUND_YEARS
 c_LAST_YEAR:mg "LAST_YEAR"=some t.u_LAST_YEAR
 r_LAST_YEAR:au (.int 9999) t.u_LAST_YEAR
 c_NoDay:mg "NoDay"=some (.ref t.u_NoDay)
 c_FIGURES:mg "FIGURES"=some t.u_FIGURES
 r_FIGURES:au (.str "0123456789") t.u_FIGURES
 c_NoText:mg "NoText"=some (.ref t.u_NoText)
 c_GoneMaker:mg "GoneMaker"=some (.ref t.u_GoneMaker)
 c_Held:mg "Held"=some (.ref t.u_Held)
 c_MustStay:mg "MustStay"=some (.ref t.u_MustStay)
 c_NoCall:mg "NoCall"=some (.ref t.u_NoCall)
 c_NoDeed:mg "NoDeed"=some (.ref t.u_NoDeed)
 c_NoLeave:mg "NoLeave"=some (.ref t.u_NoLeave)
 c_NoNumber:mg "NoNumber"=some (.ref t.u_NoNumber)
 c_NoPaper:mg "NoPaper"=some (.ref t.u_NoPaper)
 c_Twice:mg "Twice"=some (.ref t.u_Twice)
 xm_NoText:L2.MkX K t.u_NoText t.a_A [.type "ValueError",.type "Exception",.type "BaseException",.type "object"] "ValueError.__new__"
 xsa:ES K (.ref t.u_NoText) "__setattr__"=some (some (.builtin "object.__setattr__"))
 xrow:ES K (.ref t.u_NoText) "row"=some none
 xsp:FJ K (.ref t.u_ArchiveError) "__getattribute__"=some (some (.builtin "type.__getattribute__"))
 xrd:HI K t.u_ArchiveError (.type "type")=true
 xfc:HJ K (.ref t.u_ArchiveError) (.type "type") "__init__"=some (.val (.builtin "ValueError.__init__"))
 xhd:GC K t.u_NoText=true
 q_ArchiveError:F8 K t.u_ArchiveError [.type "ValueError",.type "Exception",.type "BaseException",.type "object"] "ValueError.__new__"=true
 z1:ES K (.ref t.u_NoText) "__getattribute__"=some (some (.builtin "BaseException.__getattribute__"))
 z2:ES K (.ref t.u_NoText) "__getattr__"=some none
 z3:ES K (.ref t.u_NoText) "__class__"=some (some (.builtin "object.__class__"))
 z4:FJ K (.builtin "object.__class__") "__get__"=some (some (.builtin "getset_descriptor.__get__"))
 z5:GS K (.builtin "object.__class__")=some true
 z6:Fj K t.u_NoText (.type "object")=some true
 z7:Fj K t.u_NoText (.type "BaseException")=some true
 z8:HK K t.u_NoText=true
 i_NoText_ArchiveError:Fj K t.u_NoText (.ref t.u_ArchiveError)=some true
 ka:Gr K (.ref t.u_NoText) [.ref t.u_GoneMaker,.ref t.u_Held,.ref t.u_MustStay,.ref t.u_NoCall,.ref t.u_NoDay,.ref t.u_NoDeed,.ref t.u_NoLeave,.ref t.u_NoNumber,.ref t.u_NoPaper,.ref t.u_Twice]=some false
 kv:FA K (.ref t.u_NoText) (.type "ValueError")=some true
 n_ValueError:mg "ValueError"=none
 n_all:mg "all"=none
 n_bool:mg "bool"=none
 n_divmod:mg "divmod"=none
 n_int:mg "int"=none
 n_isinstance:mg "isinstance"=none
 n_len:mg "len"=none
 n_list:mg "list"=none
 n_max:mg "max"=none
 n_min:mg "min"=none
 n_range:mg "range"=none
 n_str:mg "str"=none
 n_sum:mg "sum"=none
theorem B8:aL ["self","row"] ["self","row"] (ax rl):= .of
theorem B9:aL ["thing"] ["thing"] (ax rm):= .of
theorem Ca:aL ["thing"] ["thing"] (ax rn):= .of
theorem Cb:aL ["year"] ["year"] (ax rp):= .of
theorem Cc:aL ["year","month"] ["year","month"] (ax rq):= .of
theorem uZ:aL ["year","past"] ["year"] (ax rz):= .of
theorem Cd:aL ["year"] ["year"] (ax rA):= .of
theorem u5:aL ["day","year"] ["day"] (ax rB):= .of
theorem mE:aL ["day","year","left","month"] ["day"] (ax rC):= .of
theorem u7:aL ["year","month","day","before"] ["year","month","day"] (ax oV):= .of
theorem Cf:aL ["year","month","day"] ["year","month","day"] (ax rD):= .of
theorem Cg:aL ["year","month","day"] ["year","month","day"] (ax rE):= .of
theorem nH:aL ["day","parts","year","month","number"] ["day"] (ax rF):= .of
theorem Ci:aL ["text","length"] ["text","length"] (ax oW):= .of
theorem nI:aL ["text","words","year","month","number"] ["text"] (ax rG):= .of
theorem Cj:aL ["_law_cell"] ["_law_cell"] (ax rH):= .of
theorem Ck:aL ["_law_script","_law_k"] ["_law_script","_law_k"] (ax rJ):= .of
theorem u9:aL ["_law_pack_here","_law_size","_law_digit"] ["_law_pack_here","_law_size"] (ax rK):= .of
theorem Cm:aL ["_law_year","_law_month"] ["_law_year","_law_month"] (ax rL):= .of
theorem va:aL ["_law_year","_law_gone"] ["_law_year"] (ax rM):= .of
theorem o8:aL ["_law_date_here","_law_year","_law_month","_law_number"] ["_law_date_here"] (ax oX):= .of
theorem lS:aL ["_law_pack_here","_law_most","_law_century","_law_any_year","_law_year","_law_month","_law_last","_law_number"] ["_law_pack_here","_law_most"] (ax rN):= .of
theorem Cn:aL ["_law_date_here"] ["_law_date_here"] (ax rO):= .of
theorem o9:aL ["_law_text","_law_words","_law_date_here","_law_day_here"] ["_law_text"] (ax oY):= .of
theorem nJ:aL ["_law_thing","_law_caught","_law_found","e"] ["_law_thing"] (ax rP):= .of
theorem rT:aL ["_law_text","_law_due_here","_law_told_here"] ["_law_text"] (ax rQ):= .of
theorem lT:aL ["_law_text","_law_pack_here","_law_signs","_law_turn","_law_at","_law_way","_law_sign"] ["_law_text","_law_pack_here"] (ax rR):= .of
theorem nK:aL ["_law_date_here","_law_pack_here","_law_words","_law_at","_law_last","_law_odd"] ["_law_date_here","_law_pack_here"] (ax rS):= .of
theorem lU:aL ["_law_script","_law_k","_law_pack_here","_law_date_here","_law_text","_law_turn","_law_things"] ["_law_script"] (ax oZ):= .of
theorem vb{α:Type}{us:List α}(h:us.length=1):∃a,us=[a]:=List.length_eq_one_iff.mp h
theorem vc{α:Type}{us:List α}(h0:us.length=2):∃a b,us=[a,b]:=by
 cases us with
 | nil=>cases h0
 | cons a us=>
  obtain⟨b,z0⟩:=vb (us:=us) (HW h0);exact⟨a,b,by rw [z0]⟩
theorem Co{α:Type}{us:List α}(h0:us.length=3):∃a b c,us=[a,b,c]:=by
 cases us with
 | nil=>cases h0
 | cons a us=>
  obtain⟨b,c,z0⟩:=vc (us:=us) (HW h0);exact⟨a,b,c,by rw [z0]⟩
local macro_rules | `(tactic| walk_at "b")=>`(tactic| (intro _ _ _ _ _ _ us hl;first | (cases ls0 (us:=us) hl;rfl) | (obtain⟨a,e⟩:=vb (us:=us) hl;subst e;rfl) | (obtain⟨a,b,e⟩:=vc (us:=us) hl;subst e;rfl) | (obtain⟨a,b,c,e⟩:=Co (us:=us) hl;subst e;rfl)))
theorem txt_mk{K:Dj}{h:IC}{mg:Str->Option Io}(X:K.In h)(G:h.Ns IA mg)
 {f0 f1 f2 f3 f4 f5 f6 f7 f8 f9 f10 f11 f12 f13 f14 f15 f16 f17 f18 f19 f20 f21 f22 f23 f24 f25 f26 f27 f28:Ip}{e0 e1 e2 e3 e4 e5 e6 e7 e8 e9 e10 e11 e12 e13 e14 e15 e16 e17 e18 e19 e20 e21 e22 e23 e24 e25 e26 e27 e28:IB}
 {u_ArchiveError u_NoDay u_NoText u_GoneMaker u_Held u_MustStay u_NoCall u_NoDeed u_NoLeave u_NoNumber u_NoPaper u_Twice:Ip}
 {u_LAST_WRITTEN u_FIRST_YEAR u_ROUND_DAYS u_ROUND_YEARS u_LAST_YEAR u_FIGURES:Io}
 {A_MONTH_DAYS:Ip}{dd_MONTH_DAYS:Option Ip}{its_MONTH_DAYS:Array Io}{n_MONTH_DAYS:Nat}{sl_MONTH_DAYS:Array (Option Io)}
 (a0:DmT K u_NoText "__init__" "NoText.__init__" rl f0 e0)
 (a1:DfT K "is_whole" rm f1 e1)
 (a2:DfT K "is_day" rn f2 e2)
 (a3:DfT K "is_leap" rp f3 e3)
 (a4:DfT K "month_length" rq f4 e4)
 (a5:DfT K "leaps_before" rz f5 e5)
 (a6:DfT K "year_start" rA f6 e6)
 (a7:DfT K "year_of" rB f7 e7)
 (a8:DfT K "parts_of" rC f8 e8)
 (a9:DfT K "number_of" oV f9 e9)
 (a10:DfT K "is_date" rD f10 e10)
 (a11:DfT K "day_of" rE f11 e11)
 (a12:DfT K "show_day" rF f12 e12)
 (a13:DfT K "is_figures" oW f13 e13)
 (a14:DfT K "read_day" rG f14 e14)
 (a15:DfT K "_law_mixed" rH f15 e15)
 (a16:DfT K "_law_pack" rJ f16 e16)
 (a17:DfT K "_law_take" rK f17 e17)
 (a18:DfT K "_law_length" rL f18 e18)
 (a19:DfT K "_law_ahead" rM f19 e19)
 (a20:DfT K "_law_day" oX f20 e20)
 (a21:DfT K "_law_drawn_date" rN f21 e21)
 (a22:DfT K "_law_shown" rO f22 e22)
 (a23:DfT K "_law_due" oY f23 e23)
 (a24:DfT K "_law_told" rP f24 e24)
 (a25:DfT K "_law_right" rQ f25 e25)
 (a26:DfT K "_law_spoilt" rR f26 e26)
 (a27:DfT K "_law_put" rS f27 e27)
 (a28:DfT K "law" oZ f28 e28)
 (x_ArchiveError:DD K IA "ArchiveError"=some (some (.ref u_ArchiveError)))
 (x_LAST_WRITTEN:DD K IA "LAST_WRITTEN"=some (some u_LAST_WRITTEN))(r_LAST_WRITTEN:au (.int 99999) u_LAST_WRITTEN)
 (x_MONTH_DAYS:DD K IA "MONTH_DAYS"=some (some (.ref A_MONTH_DAYS)))(y_MONTH_DAYS:K.lookup A_MONTH_DAYS=some ⟨.type "tuple",dd_MONTH_DAYS,.seq its_MONTH_DAYS n_MONTH_DAYS,sl_MONTH_DAYS⟩)(z_MONTH_DAYS:az [V.int 31,V.int 28,V.int 31,V.int 30,V.int 31,V.int 30,V.int 31,V.int 31,V.int 30,V.int 31,V.int 30,V.int 31] its_MONTH_DAYS.toList)(w_MONTH_DAYS:its_MONTH_DAYS.size<=Ir)
 (x_FIRST_YEAR:DD K IA "FIRST_YEAR"=some (some u_FIRST_YEAR))(r_FIRST_YEAR:au (.int 2000) u_FIRST_YEAR)
 (x_ROUND_DAYS:DD K IA "ROUND_DAYS"=some (some u_ROUND_DAYS))(r_ROUND_DAYS:au (.int 146097) u_ROUND_DAYS)
 (x_ROUND_YEARS:DD K IA "ROUND_YEARS"=some (some u_ROUND_YEARS))(r_ROUND_YEARS:au (.int 400) u_ROUND_YEARS)
 (x_LAST_YEAR:DD K IA "LAST_YEAR"=some (some u_LAST_YEAR))(r_LAST_YEAR:au (.int 9999) u_LAST_YEAR)
 (x_NoDay:DD K IA "NoDay"=some (some (.ref u_NoDay)))
 (x_FIGURES:DD K IA "FIGURES"=some (some u_FIGURES))(r_FIGURES:au (.str "0123456789") u_FIGURES)
 (x_NoText:DD K IA "NoText"=some (some (.ref u_NoText)))
 (x_GoneMaker:DD K IA "GoneMaker"=some (some (.ref u_GoneMaker)))
 (x_Held:DD K IA "Held"=some (some (.ref u_Held)))
 (x_MustStay:DD K IA "MustStay"=some (some (.ref u_MustStay)))
 (x_NoCall:DD K IA "NoCall"=some (some (.ref u_NoCall)))
 (x_NoDeed:DD K IA "NoDeed"=some (some (.ref u_NoDeed)))
 (x_NoLeave:DD K IA "NoLeave"=some (some (.ref u_NoLeave)))
 (x_NoNumber:DD K IA "NoNumber"=some (some (.ref u_NoNumber)))
 (x_NoPaper:DD K IA "NoPaper"=some (some (.ref u_NoPaper)))
 (x_Twice:DD K IA "Twice"=some (some (.ref u_Twice)))
 (f_xm_NoText:L2.MkX K u_NoText f0 [.type "ValueError",.type "Exception",.type "BaseException",.type "object"] "ValueError.__new__")
 (f_xsa:ES K (.ref u_NoText) "__setattr__"=some (some (.builtin "object.__setattr__")))
 (f_xrow:ES K (.ref u_NoText) "row"=some none)
 (f_xsp:FJ K (.ref u_ArchiveError) "__getattribute__"=some (some (.builtin "type.__getattribute__")))
 (f_xrd:HI K u_ArchiveError (.type "type")=true)
 (f_xfc:HJ K (.ref u_ArchiveError) (.type "type") "__init__"=some (.val (.builtin "ValueError.__init__")))
 (f_xhd:GC K u_NoText=true)
 (f_q_ArchiveError:F8 K u_ArchiveError [.type "ValueError",.type "Exception",.type "BaseException",.type "object"] "ValueError.__new__"=true)
 (f_z1:ES K (.ref u_NoText) "__getattribute__"=some (some (.builtin "BaseException.__getattribute__")))
 (f_z2:ES K (.ref u_NoText) "__getattr__"=some none)
 (f_z3:ES K (.ref u_NoText) "__class__"=some (some (.builtin "object.__class__")))
 (f_z4:FJ K (.builtin "object.__class__") "__get__"=some (some (.builtin "getset_descriptor.__get__")))
 (f_z5:GS K (.builtin "object.__class__")=some true)
 (f_z6:Fj K u_NoText (.type "object")=some true)
 (f_z7:Fj K u_NoText (.type "BaseException")=some true)
 (f_z8:HK K u_NoText=true)
 (f_i_NoText_ArchiveError:Fj K u_NoText (.ref u_ArchiveError)=some true)
 (f_ka:Gr K (.ref u_NoText) [.ref u_GoneMaker,.ref u_Held,.ref u_MustStay,.ref u_NoCall,.ref u_NoDay,.ref u_NoDeed,.ref u_NoLeave,.ref u_NoNumber,.ref u_NoPaper,.ref u_Twice]=some false)
 (f_kv:FA K (.ref u_NoText) (.type "ValueError")=some true)
 (n_ValueError:DD K IA "ValueError"=some none)
 (n_all:DD K IA "all"=some none)
 (n_bool:DD K IA "bool"=some none)
 (n_divmod:DD K IA "divmod"=some none)
 (n_int:DD K IA "int"=some none)
 (n_isinstance:DD K IA "isinstance"=some none)
 (n_len:DD K IA "len"=some none)
 (n_list:DD K IA "list"=some none)
 (n_max:DD K IA "max"=some none)
 (n_min:DD K IA "min"=some none)
 (n_range:DD K IA "range"=some none)
 (n_str:DD K IA "str"=some none)
 (n_sum:DD K IA "sum"=some none):∃t:ku,Txt K mg t:=by
 refine⟨⟨f0,e0,f1,e1,f2,e2,f3,e3,f4,e4,f5,e5,f6,e6,f7,e7,f8,e8,f9,e9,f10,e10,f11,e11,f12,e12,f13,e13,f14,e14,f15,e15,f16,e16,f17,e17,f18,e18,f19,e19,f20,e20,f21,e21,f22,e22,f23,e23,f24,e24,f25,e25,f26,e26,f27,e27,f28,e28,u_ArchiveError,u_LAST_WRITTEN,.ref A_MONTH_DAYS,u_FIRST_YEAR,u_ROUND_DAYS,u_ROUND_YEARS,u_LAST_YEAR,u_NoDay,u_FIGURES,u_NoText,u_GoneMaker,u_Held,u_MustStay,u_NoCall,u_NoDeed,u_NoLeave,u_NoNumber,u_NoPaper,u_Twice⟩,?_⟩;have bl:∀(s:Iq)(u:Io),BindsTo s e28 ⟨[u],[]⟩ [("_law_script",u)]:=λs v=>by
  obtain⟨oc,od,kV,doc,pm,an,cdv,ct,osl,rfl,_⟩:=a28.F.ex;exact .of_eq rfl
 exact⟨a0.fn,a1.fn X G,a2.fn X G,a3.fn X G,a4.fn X G,a5.fn X G,a6.fn X G,a7.fn X G,a8.fn X G,a9.fn X G,a10.fn X G,a11.fn X G,a12.fn X G,a13.fn X G,a14.fn X G,a15.fn X G,a16.fn X G,a17.fn X G,a18.fn X G,a19.fn X G,a20.fn X G,a21.fn X G,a22.fn X G,a23.fn X G,a24.fn X G,a25.fn X G,a26.fn X G,a27.fn X G,a28.fn X G,bl,Es X G x_ArchiveError,Es X G x_LAST_WRITTEN,r_LAST_WRITTEN,Es X G x_MONTH_DAYS,⟨A_MONTH_DAYS,rfl,λH=>.inr ⟨_,_,_,y_MONTH_DAYS,rfl,rfl,w_MONTH_DAYS,z_MONTH_DAYS⟩⟩,Es X G x_FIRST_YEAR,r_FIRST_YEAR,Es X G x_ROUND_DAYS,r_ROUND_DAYS,Es X G x_ROUND_YEARS,r_ROUND_YEARS,Es X G x_LAST_YEAR,r_LAST_YEAR,Es X G x_NoDay,Es X G x_FIGURES,r_FIGURES,Es X G x_NoText,Es X G x_GoneMaker,Es X G x_Held,Es X G x_MustStay,Es X G x_NoCall,Es X G x_NoDeed,Es X G x_NoLeave,Es X G x_NoNumber,Es X G x_NoPaper,Es X G x_Twice,f_xm_NoText,f_xsa,f_xrow,f_xsp,f_xrd,f_xfc,f_xhd,f_q_ArchiveError,f_z1,f_z2,f_z3,f_z4,f_z5,f_z6,f_z7,f_z8,f_i_NoText_ArchiveError,f_ka,f_kv,EM X G n_ValueError,EM X G n_all,EM X G n_bool,EM X G n_divmod,EM X G n_int,EM X G n_isinstance,EM X G n_len,EM X G n_list,EM X G n_max,EM X G n_min,EM X G n_range,EM X G n_str,EM X G n_sum⟩
local macro_rules | `(tactic| walk_at "o")=>`(tactic| first | exact GL rfl | exact F5 rfl)
theorem Ik{p:Prop}(h:p:=by walk_at "o"):p:=h
local macro_rules | `(tactic| walk_at "a") =>do let a <- rzT "bC Dq DQ Dp DJ Eg Ei Dx DR DZ"; let b <- rzT "↓iy ↓iH ↓iI ↓iJ ↓iK ↓iL ↓iM ↓iz ↓dY ↓g6 ↓jj ↓jk ↓jl ↓jm ↓jn ↓jo ↓g7 ↓g8 ↓g9 ↓hG ↓hJ ↓hU ↓hV ↓hW ↓hX ↓hZ ↓h7 ↓ia ↓ib ↓ic ↓ie ↓ig ↓ij ↓ik ↓il ↓ip ↓iq ↓iu ↓iw ↓ix cK cL cO cN eF eG cM cP eI cU eJ eT cD dC aX dI cY cZ c5 fh c7 bL dD dB eY c9 dL cj cE eh cg bU bx cF cG cH cI ei cJ el bV bW eD fZ gc gf gh gi gj gk gm gn gp gq gr gs gu gw gx gy gz gA gB gC gD gE gF gG gH gI gJ gK gL gM gN gO gP gQ gR gS gT gU gW gX gY gZ gb eZ ff dE cu fw fj dh di dj dn fg dz dA cm dF dG dH bR cW eU eV eL eM eN eO eQ eR cV eS fz dQ fV fW fX fU fY fx dO fy dP bN fB fA dM dN dR dS dU dW bO dX g5 iB iA iC iD iE iF iG dZ iN d3 iP iQ iO iV iS iT iU cx bY iR iZ i2 iW iX iY i3 i4 i5 i6 i7 i8 ja jb d5 jc jd je i9 jf jg jh ji d7 d8 d9 ef bt fL fM fN fO fP fQ fR fS fT ne_eq fF fG fH fJ fK fC fD fE ck cX eX cQ cT cS cR bG bC aP bH bT bI Dq DQ Dp DJ Dx DR DZ DH Eg Ei Ew Ey Ez Du Dv DX DM DN DP exists_eq_left' exists_eq_left exists_and_left exists_and_right D6 D7 Sl.v.injEq Sl.o.injEq Sl.k.injEq Ea D8 Eb D1 D9 Dy and_true true_and EA Ec exists_const decide_eq_true_eq EB EC En Eo DI decide_eq_false_iff_not and_assoc or_true true_or ↓reduceIte if_true if_false DV DW not_true_eq_false not_false_eq_true Et El ite_true ite_false eq_self exists_eq reduceCtorEq false_and and_false or_false false_or exists_false Ej Ek bE EG EO Ef ER EH Er EI EJ bM bX cn dJ fk cq fu fv beq_self_eq_true fm fq ft bj sizeLine_eq"; `(tactic| ((try $a:tactic); $b:tactic))
section
variable {P:IE} {w:IF} {K:Dj} {mg:Str->Option Io} {base:IC} {t:ku}
theorem Cp(T:Txt K mg t):aA P w K mg base CX0 1 t.a_A t.d_A ["self","row"] (rf t.u_NoText "row"):=by
 refine T.F_A.F.okNX B8 rfl rfl (λcdv A outer s H E hr=>?_);refine b7 (BM (C:=t.u_NoText) T.c_ArchiveError rfl T.xsp T.xrd T.xfc rfl Ff T.xm_NoText.seen (aw (lg (i:=0) rfl ?a) (aw (BU ?b (lg (i:=1) rfl ?c)) aK))) (bS (BN (C:=t.u_NoText) (lg (i:=0) rfl ?d) (lg (i:=1) rfl ?e) PySem.F.store_ValueError T.xm_NoText.seen T.xsa T.xrow))
 case b=>decide+kernel
 all_goals (first | exact GL rfl | exact F5 rfl)
end
local macro_rules | `(tactic| walk_at "c") =>rzT "nM pF pH pG nR ll kA tC lq rI jV pR pS Bi Bj Bk Bl Bm nW tB pq pw px pB pC pD mP mO nZ mQ pY pZ nQ nP nO pJ tD tE tF tG tH tI tJ tK bH bT bI L2.start Dq DQ Dp DJ Dx DR DZ DH Eg Ei Ew Ey Ez Du Dv DM DN DP exists_eq_left' exists_eq_left exists_and_left exists_and_right V.int.injEq V.bl.injEq V.str.injEq V.ref.injEq Dy and_true true_and EA exists_const decide_eq_true_eq EB EC En Eo DI decide_eq_false_iff_not and_assoc aY D6 DX D7 L2.cxK L2.cmK or_true true_or"
open Day
theorem vd:jv (ax oV) ["year","month","day","before"] ["other","year"] 1 [0] ⟨Fi,[ (Ee ".0",JH),(Ee "other",JH),(Ee "month_length",Fl),(Ee "year",Hh)],false,false,[]⟩:= .of
section
variable {P:IE} {w:IF} {K:Dj} {mg:Str->Option Io} {base:IC} {t:ku}
def ve:Sp:=λvs H Q _=>∃(y:Int),vs=[.int y]/\Q (.bl (j5 y)) H
theorem Cq(T:Txt K mg t):aA P w K mg base CX0 1 t.a_D t.d_D ["year"] ve:=by
 refine T.F_D.F.ok Cb (λvs H Q E h=>?_) (λcdv A outer s H vs Q E hr h=>?_)
 ·obtain⟨y,rfl,_⟩:=h;rfl
 ·obtain⟨y,rfl,k⟩:=h;refine⟨_,(bS (eg (wo (nV pT (aS lu (pv 0) bg) bg (aZ _)) (pE (sh (nV pT (aS lu (pv 0) bg) bg (aZ _)) (pE (nV wH (aS lu (pv 0) bg) bg (aZ _)))))))),?_⟩;walk_at "c";have e:j5 y=(decide (y % 400=0) || (decide (y % 4=0) && !decide (y % 100=0))):=rfl;rw [e] at k;by_cases h1:y % 400=0
  ·simpa [h1] using k
  ·by_cases h2:y % 4=0
   ·simpa [h1,h2] using k
   ·simpa [h1,h2] using k
def vf:Sp:=λvs H Q _=>∃(y m:Int),vs=[.int y,.int m]/\1<=m/\m<=12/\Q (.int (mlen y m)) H
theorem rU(T:Txt K mg t):aA P w K mg base CX0 2 t.a_E t.d_E ["year","month"] vf:=by
 have G_D:=@Cq P w _ _ base _ T;refine T.F_E.F.ok Cc (λvs H Q E h=>?_) (λcdv A outer s H vs Q E hr h=>?_)
 ·obtain⟨y,m,rfl,_⟩:=h;rfl
 ·obtain⟨y,m,rfl,h1,h2,k⟩:=h;obtain⟨a,ea,hM⟩:=T.e_MONTH_DAYS;have T_r:au (.ref a) t.u_MONTH_DAYS:=ea;refine⟨_,(b7 (kS (PW.pt (sg (lx pT (pv 1) bg (aZ _)) (sd (me (jO G_D (hr.mono Ce) rfl T.F_D (aw (pv 0) aK)))))) (bS (eg bg)) kR)
   (bS (eg (n5 jr (bZ rfl T.c_MONTH_DAYS T_r) (aS jE (pv 1) bg) (λ_ _=>rfl))))),?_⟩
  walk_at "c";simp only [ve];walk_at "c";have fin:∀{v:Int},v=mlen y m->Q (.int v) H:=λe=>by rw [e];exact k
  have tail:mlen y m=qM.getD (m - 1).toNat 0->p9 K (.ref a) (.int (m - 1)) H Q:=λe=>by
   refine⟨a,_,m - 1,.int (mlen y m),rfl,rfl,hM H,?_,k⟩;rw [e];rcases qQ h1 h2 with z | z | z | z | z | z | z | z | z | z | z | z <;> subst z <;> rfl
  by_cases hm:m=2
  ·rw [Ij hm];by_cases hl:j5 y=true
   ·rw [Ij hl];exact fin (by unfold mlen;rw [Ij ⟨hm,hl⟩])
   ·rw [Ii hl];exact tail (by unfold mlen;rw [Ii (λz=>hl z.2)])
  ·rw [Ii hm];exact tail (uB hm)
def vg:Sp:=λvs H Q _=>∃(y:Int),vs=[.int y]/\Q (.int (lb y)) H
theorem Cr(T:Txt K mg t):aA P w K mg base CX0 1 t.a_F t.d_F ["year"] vg:=by
 refine T.F_F.F.ok uZ (λvs H Q E h=>?_) (λcdv A outer s H vs Q E hr h=>?_)
 ·obtain⟨y,rfl,_⟩:=h;rfl
 ·obtain⟨y,rfl,k⟩:=h;refine⟨_,(b7 (jP (i:=1) uZ.nd rfl Ik (aS jE (pv 0) bg))
   (bS (eg (aS bo (aS jE (aS kT (pv 1) bg) (aS kT (pv 1) bg)) (aS kT (pv 1) bg))))),?_⟩
  walk_at "c";exact k
def pb:Sp:=λvs H Q _=>∃(y:Int),vs=[.int y]/\Q (.int (aQ y)) H
theorem rV(T:Txt K mg t):aA P w K mg base CX0 2 t.a_G t.d_G ["year"] pb:=by
 have G_F:=@Cr P w _ _ base _ T;refine T.F_G.F.ok Cd (λvs H Q E h=>?_) (λcdv A outer s H vs Q E hr h=>?_)
 ·obtain⟨y,rfl,_⟩:=h;rfl
 ·obtain⟨y,rfl,k⟩:=h;refine⟨_,(bS (eg (aS jE (aS bo (aS mf bg (aS jE (pv 0) (bZ rfl T.c_FIRST_YEAR T.r_FIRST_YEAR))) (jO G_F (hr.mono Ce) rfl T.F_F (aw (pv 0) aK))) (jO G_F (hr.mono Ce) rfl T.F_F (aw (bZ rfl T.c_FIRST_YEAR T.r_FIRST_YEAR) aK))))),?_⟩;walk_at "c";simp only [vg];walk_at "c";exact k
def vh:Sp:=λvs H Q _=>∃(d:Int),vs=[.int d]/\Q (.int (mB d)) H
theorem Cs(T:Txt K mg t):aA P w K mg base CX0 3 t.a_H t.d_H ["day"] vh:=by
 have G_G:=@rV P w _ _ base _ T;refine T.F_H.F.ok u5 (λvs H Q E h=>?_) (λcdv A outer s H vs Q E hr h=>?_)
 ·obtain⟨d,rfl,_⟩:=h;rfl
 ·obtain⟨d,rfl,k⟩:=h;refine⟨_,(b7 (jP (i:=1) u5.nd rfl Ik (aS bo (bZ rfl T.c_FIRST_YEAR T.r_FIRST_YEAR) (aS kT (aS mf (pv 0) (bZ rfl T.c_ROUND_YEARS T.r_ROUND_YEARS)) (bZ rfl T.c_ROUND_DAYS T.r_ROUND_DAYS))))
   (b7 (kS (lx pU (jO G_G (hr.mono Ce) rfl T.F_G (aw (pv 1) aK)) (pv 0) (aZ _)) (bS (eg (aS jE (pv 1) bg))) kR)
   (b7 (kS (lx jQ (jO G_G (hr.mono Ce) rfl T.F_G (aw (aS bo (pv 1) bg) aK)) (pv 0) (aZ _)) (bS (eg (aS bo (pv 1) bg))) kR)
   (bS (eg (pv 1)))))),?_⟩
  walk_at "c";simp only [pb];walk_at "c";unfold mB at k;split
  ·rename_i h;rw [Ij h] at k;exact k
  ·rename_i h;rw [Ii h] at k;split
   ·rename_i h;rw [Ij h] at k;exact k
   ·rename_i h;rw [Ii h] at k;exact k
def Ct:Sp:=λvs H Q _=>∃(d:Int),vs=[.int d]/\∀(p:Ip)(H':Hp)(y m n:Int),j6 d y m n->ai H H'->H p=none->H' p=some (.tup [.int y,.int m,.int n])->Q (.ref p) H'
theorem Cu(T:Txt K mg t):aA P w K mg base CX0 4 t.a_I t.d_I ["day"] Ct:=by
 have G_H:=@Cs P w _ _ base _ T;have G_G:=@rV P w _ _ base _ T;have G_E:=@rU P w _ _ base _ T;refine T.F_I.F.ok mE (λvs H Q E h=>?_) (λcdv A outer s H vs Q E hr h=>?_)
 ·obtain⟨d,rfl,_⟩:=h;rfl
 ·obtain⟨d,rfl,k⟩:=h;refine⟨_,(b7 (jP (i:=1) mE.nd rfl Ik (jO G_H (hr.mono Ce) rfl T.F_H (aw (pv 0) aK)))
   (b7 (jP (i:=2) mE.nd rfl Ik (aS jE (pv 0) (jO G_G (hr.mono Ce) rfl T.F_G (aw (pv 1) aK))))
   (b7 (jP (i:=3) mE.nd rfl Ik bg)
   (b7 (wz Gk (lx wI (pv 2) (jO G_E (hr.mono Ce) rfl T.F_E (aw (pv 1) (aw (pv 3) aK))) (aZ _)) (b7 (jP (i:=2) mE.nd rfl Ik (aS jE (pv 2) (jO G_E (hr.mono Ce) rfl T.F_E (aw (pv 1) (aw (pv 3) aK)))))
   (bS (jP (i:=3) mE.nd rfl Ik (aS bo (pv 3) bg)))))
   (bS (eg (lC (aw (pv 1) (aw (pv 3) (aw (aS bo (pv 2) bg) aK)))))))))),?_⟩
  walk_at "c";simp only [vh];walk_at "c";simp only [pb];walk_at "c";have yo:=Ba d;generalize mB d=y at*;refine⟨λm σ H'=>H'=H/\∃mo:Int,1<=mo/\mo<=12/\av y mo<=d - aQ y/\m=(12 - mo).toNat/\σ=[some (.int d),some (.int y),some (.int (d - aQ y - av y mo)),some (.int mo)],⟨11,rfl,1,Ce,Ce,?_,rfl,?_⟩,?_⟩
  ·rw [qR];omega
  ·rw [qR];simp
  ·rintro m σ H' ⟨rfl,mo,h1,h2,hb,rfl,rfl⟩;walk_at "c";simp only [vf];walk_at "c";refine⟨h1,h2,?_⟩;have ys:=qO y;have ba:=oM (y:=y) h1 h2;split
   ·rename_i hge;have lt12:mo < 12:=by
     by_cases z:mo < 12
     ·exact z
     ·have e:mo=12:=Ih
      subst e;have:=(qS y);have:=oK y;omega
    refine⟨_,λ_ _ h=>h,h1,h2,(12 - (mo+1)).toNat,Ih,rfl,mo+1,Ih,Ih,?_,rfl,?_⟩
    ·rw [jB h1];omega
    ·rw [jB h1,show d - aQ y - (av y mo+mlen y mo)=d - aQ y - av y mo - mlen y mo by omega]
   ·rename_i hlt;refine⟨by show 3<=Ir;decide,λp hp=>?_⟩;refine k p _ y mo (d - aQ y - av y mo+1) ⟨h1,h2,Ih,Ih,by unfold jt;omega⟩ (ai.new hp) hp aD
def Cv:Sp:=λvs H Q _=>∃(y m n:Int),vs=[.int y,.int m,.int n]/\1<=m/\m<=12/\∀H',ai H H'->Q (.int (jt y m n)) H'
theorem Cw(T:Txt K mg t):aA P w K mg base CX0 3 t.a_J t.d_J ["year","month","day"] Cv:=by
 have G_G:=@rV P w _ _ base _ T;have G_E:=@rU P w _ _ base _ T;refine T.F_J.F.ok u7 (λvs H Q E h=>?_) (λcdv A outer s H vs Q E hr h=>?_)
 ·obtain⟨y,m,n,rfl,_⟩:=h;rfl
 ·obtain⟨y,m,n,rfl,h1,h2,k⟩:=h;refine⟨_,(b7 (jP (i:=3) u7.nd rfl Ik (bz (tw rfl) rfl T.n_sum G3 (aw (mS rfl vd (sC rfl T.n_range (aw bg (aw (pv 1) aK))) (λ_ _ _ _=>(jU (i:=0) vd.nd rfl Ik)) (λ_ _ _ _=>tu) (λ_ _ _ _=>(jO G_E (hr.mono Ce) rfl T.F_E (aw (pv 1) (aw (pv 0) aK))))) aK)))
   (bS (eg (aS jE (aS bo (aS bo (jO G_G (hr.mono Ce) rfl T.F_G (aw (pv 0) aK)) (pv 3)) (pv 2)) bg)))),?_⟩
  walk_at "c";refine⟨Ih,Ih,?_⟩;refine xI (λi=>.int (mlen y (1+(i:Int)))) Ih (λi H' R hi s1 hR=>?_) (λD H' hD s1 e1=>?_)
  ·walk_at "c";exact⟨_,_,rfl,Ih,Ih,hR H' (ai.refl _)⟩
  ·refine⟨D,rfl,(Fp (m - 1).toNat).map λ(i:Nat)=>mlen y (1+(i:Int)),aG.of (by rw [e1,Gj];rfl),?_⟩;simp only [pb];walk_at "c";exact k H' s1
def vi:List Im->(Im->Prop)->Prop:=λds Q=>∃y m:Int,ds=[.int y,.int m]/\1<=m/\m<=12/\Q (.int (mlen y m))
theorem Cy(T:Txt K mg t):aA P w K mg base CX0 2 t.a_E t.d_E ["year","month"] (bA K vi):=
 (rU T).imp λvs H Q E uu9=>by
  obtain⟨O,ds,Qd,tr,hs,⟨y,m,e,h1,h2,q⟩,k⟩:=uu9;subst e;cases hs with
  | cons a r=>cases r with
   | cons b r=>cases r;cases a;cases b;exact⟨y,m,rfl,h1,h2,k _ _ H q (ai.refl _) (.int _)⟩
def vj:List Im->(Im->Prop)->Prop:=λds Q=>∃d:Int,ds=[.int d]/\∀y m n,j6 d y m n->Q (.tuple [.int y,.int m,.int n])
theorem Cz(T:Txt K mg t):aA P w K mg base CX0 4 t.a_I t.d_I ["day"] (bA K vj):=
 (Cu T).imp λvs H Q E uu10=>by
  obtain⟨O,ds,Qd,tr,hs,⟨d,e,q⟩,k⟩:=uu10;subst e;cases hs with
  | cons a r=>cases r;cases a;exact⟨d,rfl,λp H' y m n D s1 hp e1=>k _ _ H' (q y m n D) s1 (.tup (.inl e1) (λz=>tr p z hp) (.cons (.int _) (.cons (.int _) (.cons (.int _) .nil))))⟩
def vk:List Im->(Im->Prop)->Prop:=λds Q=>∃y m n:Int,ds=[.int y,.int m,.int n]/\1<=m/\m<=12/\Q (.int (jt y m n))
theorem vm(T:Txt K mg t):aA P w K mg base CX0 3 t.a_J t.d_J ["year","month","day"] (bA K vk):=
 (Cw T).imp λvs H Q E uu11=>by
  obtain⟨O,ds,Qd,tr,hs,⟨y,m,n,e,h1,h2,q⟩,k⟩:=uu11;subst e;cases hs with
  | cons a r=>cases r with
   | cons b r=>cases r with
    | cons c r=>cases r;cases a;cases b;cases c;exact⟨y,m,n,rfl,h1,h2,λH' s1=>k _ _ H' q s1 (.int _)⟩
end
theorem vn:jv (ax oW) ["text","length"] ["sign"] 1 [] ⟨Fi,[ (Ee ".0",JH),(Ee "sign",JH),(Ee "FIGURES",Fl)],false,false,[]⟩:= .of
section
variable {P:IE} {w:IF} {K:Dj} {mg:Str->Option Io} {base:IC} {t:ku}
theorem CA{y m:Int}{Q:Im->Prop}:vi [.int y,.int m] Q↔1<=m/\m<=12/\Q (.int (mlen y m)):=⟨λuu12=>by obtain⟨_,_,e,h⟩:=uu12;cases e;exact h,λh=>⟨_,_,rfl,h⟩⟩
theorem CB{d:Int}{Q:Im->Prop}:vj [.int d] Q↔∀y m n,j6 d y m n->Q (.tuple [.int y,.int m,.int n]):=⟨λuu13=>by obtain⟨_,e,h⟩:=uu13;cases e;exact h,λh=>⟨_,rfl,h⟩⟩
theorem vo{y m n:Int}{Q:Im->Prop}:vk [.int y,.int m,.int n] Q↔1<=m/\m<=12/\Q (.int (jt y m n)):=⟨λuu14=>by obtain⟨_,_,_,e,h⟩:=uu14;cases e;exact h,λh=>⟨_,_,_,rfl,h⟩⟩
def vp:List Im->(Im->Prop)->Prop:=λds Q=>∃d,ds=[d]/\nu d=true/\Q (.bool (oF d))
theorem vq(T:Txt K mg t):aA P w K mg base CX0 1 t.a_B t.d_B ["thing"] (bA K vp):=by
 refine T.F_B.F.okD B9 (λds Q h=>?_) (λ_ _ _ _ H O ds Q E hr h=>?_)
 ·obtain⟨d,rfl,_⟩:=h;rfl
 ·obtain⟨d,rfl,hd,q⟩:=h;refine⟨_,(aO (bq (mX (nB (K':=K) (T:="int") rfl rfl T.n_isinstance kD (df (dv 0)) (lj (v:= .ty "int") rfl T.n_int jX rfl)) (mW (tT (nB (K':=K) (T:="bool") rfl rfl T.n_isinstance kD (df (dv 0)) (lj (v:= .ty "bool") rfl T.n_bool qr rfl))))))),?_⟩;walk_at "a";simp only [AM,AN];walk_at "a";refine⟨AO hd,?_⟩;cases d <;> simp [uj,uk,oF] at q⊢<;> exact q
theorem CC{i:Int}{Q:Im->Prop}:vp [.int i] Q↔Q (.bool true):=⟨λuu15=>by obtain⟨_,e,_,h⟩:=uu15;cases e;exact h,λh=>⟨_,rfl,rfl,h⟩⟩
def vt:List Im->(Im->Prop)->Prop:=λds Q=>∃d,ds=[d]/\nu d=true/\Q (.bool (mx d))
theorem CD(T:Txt K mg t):aA P w K mg base CX0 2 t.a_C t.d_C ["thing"] (bA K vt):=by
 have G_B:=@vq P w _ _ base _ T;refine T.F_C.F.okD Ca (λds Q h=>?_) (λ_ _ _ _ H O ds Q E hr h=>?_)
 ·obtain⟨d,rfl,_⟩:=h;rfl
 ·obtain⟨d,rfl,hd,q⟩:=h;refine⟨_,(aO (bq (mX (ay G_B hr T.F_B (ae (dv 0) ar)) (mW (tV jQ jQ jH jH (df ag) (df (dv 0)) (df (dc (bZ rfl T.c_LAST_WRITTEN T.r_LAST_WRITTEN) (λ_ _=>.int _)))))))),?_⟩;walk_at "a";refine⟨d,rfl,hd,?_⟩;cases d with
  | int i=>
   walk_at "a";simp only [oF,mx] at q⊢;by_cases h0:0<=i
   ·rw [Ij h0];simpa [h0] using q
   ·rw [Ii h0];simpa [h0] using q
  | _=>exact⟨_,rfl,by simpa [oF,mx] using q⟩
theorem CF{i:Int}{Q:Im->Prop}:vt [.int i] Q↔Q (.bool (mx (.int i))):=⟨λuu16=>by obtain⟨_,e,_,h⟩:=uu16;cases e;exact h,λh=>⟨_,rfl,rfl,h⟩⟩
def cz(y m n:Int):Prop:=2000<=y/\y<=9999/\1<=m/\m<=12/\1<=n/\n<=mlen y m
instance {y m n:Int}:Decidable (cz y m n):=by unfold cz;infer_instance
def vv:List Im->(Im->Prop)->Prop:=λds Q=>∃y m n:Int,ds=[.int y,.int m,.int n]/\Q (.bool (decide (cz y m n)))
theorem vw(T:Txt K mg t):aA P w K mg base CX0 3 t.a_K t.d_K ["year","month","day"] (bA K vv):=by
 have G_B:=@vq P w _ _ base _ T;have G_E:=@Cy P w _ _ base _ T;refine T.F_K.F.okD Cf (λds Q h=>?_) (λ_ _ _ _ H O ds Q E hr h=>?_)
 ·obtain⟨y,m,n,rfl,_⟩:=h;rfl
 ·obtain⟨y,m,n,rfl,q⟩:=h;refine'⟨_,?A,?B⟩
  case A=>
   refine' aB ?C ?D
   case C=>
    refine' jz ?E ?F jy
    case E=>exact(jx (PW.pt (mv (jw (ay G_B hr T.F_B (ae (dv 0) ar))) (mv (jw (ay G_B hr T.F_B (ae (dv 1) ar))) (mV (jw (ay G_B hr T.F_B (ae (dv 2) ar))))))))
    case F=>refine' aO (bq kX)
   case' D=>refine' aB ?G ?H
   case G=>
    refine' jz ?I ?J jy
    case I=>exact(jx (PW.pt (mv (om jQ jQ jH jH (df (dc (bZ rfl T.c_FIRST_YEAR T.r_FIRST_YEAR) (λ_ _=>.int _))) (df (dv 0)) (df (dc (bZ rfl T.c_LAST_YEAR T.r_LAST_YEAR) (λ_ _=>.int _)))) (mV (om jQ jQ jH jH (df ag) (df (dv 1)) (df ag))))))
    case J=>refine' aO (bq kX)
   case' H=>refine' aO ?K
   case' K=>refine' bq ?L
   case L=>exact(tV jQ jQ jH jH (df ag) (df (dv 2)) (df (ay G_E hr T.F_E (ae (dv 0) (ae (dv 1) ar)))))
  case B=>
  walk_at "a";simp only [CC,CA];walk_at "a";have no:¬cz y m n->Q (.bool false):=λz=>by rw [decide_eq_false z] at q;exact q
  split
  ·split
   ·split
    ·split
     ·exact no (by unfold cz;omega)
     ·split
      ·refine⟨Ih,Ih,?_⟩;rw [show decide (n<=mlen y m)=decide (cz y m n) from decide_eq_decide.mpr (by unfold cz;omega)];exact q
      ·exact no (by unfold cz;omega)
    ·exact no (by unfold cz;omega)
   ·exact no (by unfold cz;omega)
  ·exact no (by unfold cz;omega)
theorem vx{y m n:Int}{Q:Im->Prop}:vv [.int y,.int m,.int n] Q↔Q (.bool (decide (cz y m n))):=⟨λuu17=>by obtain⟨_,_,_,e,h⟩:=uu17;cases e;exact h,λh=>⟨_,_,_,rfl,h⟩⟩
theorem kP{i:Int}(h0:0<=i)(h1:i < 10000):i.natAbs.log2 < 1920:=by
 by_cases z:i.natAbs=0
 ·rw [z];decide
 ·rw [Nat.log2_lt z];exact DU (show i.natAbs < 2 ^ 14 by omega) (Nat.pow_le_pow_right Ce Ce)
theorem vy{m:Int}(h0:0<=m)(h1:m < 100):(Txt.zfill (Dk (toString m)) 2).length=2:=by
 obtain⟨m,rfl⟩:=EN h0;have e:=qU ⟨m,Ih⟩;simp only at e;rw [e];rfl
theorem vz{m:Int}(h0:1000<=m)(h1:m < 10000):(Dk (toString m)).length=4:=by
 obtain⟨m,rfl⟩:=EN (show 0<=m by omega);rw [oO Ih Ih];rfl
theorem pd(a b:Str):(a++b).length=a.length+b.length:=by
 show(a.cps++b.cps).size=a.cps.size+b.cps.size;exact Hw
def CG:List Im->(Im->Prop)->Prop:=λds Q=>∃d:Int,ds=[.int d]/\0<=d/\d < aQ 10000/\∀y m n,j6 d y m n->Q (.str (jI y m n))
theorem CH(T:Txt K mg t):aA P w K mg base CX0 5 t.a_M t.d_M ["day"] (bA K CG):=by
 have G_I:=@Cz P w _ _ base _ T;refine T.F_M.F.okD nH (λds Q h=>?_) (λ_ _ _ _ H O ds Q E hr h=>?_)
 ·obtain⟨d,rfl,_⟩:=h;rfl
 ·obtain⟨d,rfl,h0,h1,q⟩:=h;refine'⟨_,?A,?B⟩
  case A=>
   refine' aB ?C ?D
   case C=>exact(bf (i:=1) nH.nd rfl Ik (ay G_I hr T.F_I (ae (dv 0) ar)))
   case' D=>refine' aB ?E ?F
   case E=>exact(bf (i:=2) nH.nd rfl Ik (PE.imp (b8 kB rfl T.n_str j2 (aC (aW jr jA (dv 1) ag) aJ)) (aN kO)))
   case' F=>refine' aB ?G ?H
   case G=>
    refine' bf (i:=3) nH.nd rfl Ik ?I (hs:=my)
    case I=>exact(uo (PE.imp (b8 kB rfl T.n_str j2 (aC (aW jr jA (dv 1) ag) aJ)) (aN kO)) ag)
   case' H=>refine' aB ?J ?K
   case J=>
    refine' bf (i:=4) nH.nd rfl Ik ?L (hs:=my)
    case L=>exact(uo (PE.imp (b8 kB rfl T.n_str j2 (aC (aW jr jA (dv 1) ag) aJ)) (aN kO)) ag)
   case' K=>refine' aO ?M
   case' M=>refine' bq ?N
   case N=>exact(AX (.cons (qJ (dv 2)) (.cons ur (.cons (qJ (dv 3)) (.cons ur (.cons (qJ (dv 4)) .nil))))))
  case B=>
  walk_at "a";simp only [CB];walk_at "a";intro y m n D;have hy:=Bc D h0 h1;have hb:=mlen_bd (y:=y) D.m1 D.m12;have:=D.m1;have:=D.m12;have:=D.n1;have:=D.nl;have ly:=vz (m:=y) Ih Ih;have lm:=vy (m:=m) Ih Ih;have ln:=vy (m:=n) Ih Ih;have le:Gb.length=0:=rfl;have ld:(Dk "-").length=1:=td
  refine⟨kP Ih Ih,kP Ih Ih,Ce,kP Ih Ih,Ce,?_⟩;rw [Be Ih Ih Ih];simp only [pd,ly,lm,ln,le,ld,oR];exact⟨Ce,Ce,Ce,Ce,Ce,Ce,Ce,Ce,Ce,Ce,Ce,q y m n D⟩
def k7:Str:="0123456789"
def jD(z:Str)(k:Int):Bool:=decide ((z.length:Int)=k) && z.cps.toList.all λc=>decide (c∈k7.cps.toList)
def vA:List Im->(Im->Prop)->Prop:=λds Q=>∃(z:Str)(k:Int),ds=[.str z,.int k]/\z.length<=16777216/\Q (.bool (jD z k))
theorem CI(T:Txt K mg t):aA P w K mg base CX0 1 t.a_N t.d_N ["text","length"] (bA K vA):=by
 refine T.F_N.F.okD Ci (λds Q h=>?_) (λ_ _ _ _ H O ds Q E hr h=>?_)
 ·obtain⟨z,k,rfl,_⟩:=h;rfl
 ·obtain⟨z,k,rfl,hz,q⟩:=h;refine'⟨_,?A,?B⟩
  case A=>
   refine' aO ?C
   case' C=>refine' bq ?D
   case D=>exact(mX (ki (lL hr.units) lM (df (PE.imp (bz mj rfl T.n_len E9 (aC (dv 0) aJ)) (aN mw))) (df (dv 1)) (aZ _)) (mW (PE.imp (bz (qt rfl) rfl T.n_all qu (aC (fe (AE rfl vn (df (dv 0)) km oq Ce (λ_ _ _ _=>(jU (i:=0) vn.nd rfl Ik)) (λ_ _ _ _=>ot) (λ_ _ _ _=>(ki wJ AG (df (dv 0)) (df (dc (bZ rfl T.c_FIGURES T.r_FIGURES) (λ_ _=>.str _))) rfl)))) aJ)) (aN qA))))
  case B=>
  walk_at "a";refine⟨hz,?_⟩;unfold jD at q;split
  ·rename_i h1;rw [decide_eq_true (p:=(z.length:Int)=k) (by simpa using h1)] at q;refine⟨Ih,AQ (p:=λb=>Q (.bool b)) (λx=>match x with | .str y=>decide (y.cps.toList.headD 0∈k7.cps.toList) | _=>false) (λx hx R hR=>?_) ?_⟩
   ·obtain⟨c,_,rfl⟩:=FZ.mp hx;walk_at "a";rw [StrLaws.found_one];exact hR
   ·unfold oE;rw [Gj,List.all_map];exact q
  ·rename_i h1;rw [decide_eq_false (p:=(z.length:Int)=k) (by simpa using h1)] at q;exact q
theorem CJ{z:Str}{k:Int}{Q:Im->Prop}:vA [.str z,.int k] Q↔z.length<=16777216/\Q (.bool (jD z k)):=⟨λuu18=>by obtain⟨_,_,e,h⟩:=uu18;cases e;exact h,λh=>⟨_,_,rfl,h⟩⟩
theorem vB{c:Nat}(h:c∈k7.cps.toList):48<=c/\c < 58:=by
 have e:k7.cps.toList=[48,49,50,51,52,53,54,55,56,57]:=td
 rw [e] at h;simp only [EL,Fo,or_false] at h;omega
theorem vC{z:Str}{l:List Nat}(h:z.cps.toList=l):z=⟨l.toArray⟩:=by
 obtain⟨⟨a⟩⟩:=z;exact congrArg (λl:List Nat=>(⟨l.toArray⟩:Str)) h
theorem CK:∀y:Fin 1000,intText? ⟨(d4 y.val).toArray⟩=some (y.val:Int):=td
theorem rW{z:Str}(h:jD z 4=true):∃y:Nat,y < 10000/\z.length=4/\intText? z=some (y:Int)/\(atI z.cps.toList 0=some 48->y < 1000):=by
 unfold jD at h;rw [E6,decide_eq_true_eq,FQ] at h;obtain⟨hl,hm⟩:=h;have hz:z.cps.toList.length=4:=by rw [show z.cps.toList.length=z.length from ED];omega
 match e:z.cps.toList,hz with
 | [a,b,c,d],_=>
  rw [e] at hm;have f:∀x∈[a,b,c,d],48<=x/\x < 58:=λx hx=>vB (by simpa using hm x hx);have ha:=f a Il;have hb:=f b Il;have hc:=f c Il;have hd:=f d Il;have ez:=vC e;have e4:[a,b,c,d]=d4 ((a - 48)*1000+(b - 48)*100+(c - 48)*10+(d - 48)):=by
   unfold d4;rw [Dy,Dy,Dy,Dy];exact⟨Ih,Ih,Ih,Ih,rfl⟩
  refine⟨(a - 48)*1000+(b - 48)*100+(c - 48)*10+(d - 48),Ih,Ih,?_,λh0=>?_⟩
  ·rw [ez,e4];generalize hy:(a - 48)*1000+(b - 48)*100+(c - 48)*10+(d - 48)=y;by_cases h:y < 1000
   ·exact CK ⟨y,h⟩
   ·exact uE Ih Ih
  ·rw [bM,DP] at h0;omega
theorem mF{z:Str}(h:jD z 2=true):∃y:Nat,y < 100/\z.length=2/\intText? z=some (y:Int):=by
 unfold jD at h;rw [E6,decide_eq_true_eq,FQ] at h;obtain⟨hl,hm⟩:=h;have hz:z.cps.toList.length=2:=by rw [show z.cps.toList.length=z.length from ED];omega
 match e:z.cps.toList,hz with
 | [a,b],_=>
  rw [e] at hm;have f:∀x∈[a,b],48<=x/\x < 58:=λx hx=>vB (by simpa using hm x hx);have ha:=f a Il;have hb:=f b Il;have ez:=vC e;have e2:[a,b]=d2 ((a - 48)*10+(b - 48)):=by
   unfold d2;rw [Dy,Dy];exact⟨Ih,Ih,rfl⟩
  refine⟨(a - 48)*10+(b - 48),Ih,Ih,?_⟩;rw [ez,e2];exact qV ⟨_,Ih⟩
theorem pe{c:Nat}:∀{l:List Nat},∀p∈d6 c l,p.length<=l.length
 | [],p,h=>by simp [d6] at h;rw [h];exact Dz _
 | x::xs,p,h=>by
  unfold d6 at h;split at h
  ·rcases EL.mp h with e | h
   ·rw [e];exact Fq _
   ·exact Hx (pe p h)
  ·split at h
   ·rename_i e;exact absurd e (Bf c xs)
   ·rename_i q qs e;rcases EL.mp h with e2 | h
    ·rw [e2];have:=pe q (by rw [e];simp);simp only [Dp];omega
    ·exact Hx (pe p (by rw [e];simp [h]))
theorem vD{z p:Str}(h:p∈Txt.split z (Dk "-")):p.length<=z.length:=by
 rw [show Dk "-"=⟨#[45]⟩ by decide+kernel] at h;have h2:p.cps.toList∈d6 45 z.cps.toList:=by
  rw [<-uG];exact FZ.mpr ⟨p,h,rfl⟩
 have:=pe _ h2;have e1:p.cps.toList.length=p.length:=ED;have e2:z.cps.toList.length=z.length:=ED;omega
def nv(z:Str):Int:=(intText? z).getD 0
def lV(z:Str):Option Int:=match Txt.split z (Dk "-") with
 | [a,b,c]=>if jD a 4=true/\jD b 2=true/\jD c 2=true/\cz (nv a) (nv b) (nv c)/\jt (nv a) (nv b) (nv c)<=99999 then some (jt (nv a) (nv b) (nv c)) else none
 | _=>none
def k8:Im->Option Int
 | .str z=>lV z
 | _=>none
def pf(d:Im):Prop:=(∀x,d≠ .dict [(.none,x)])/\∀z,d= .str z->z.length<=1000
def CL:rg:=λds Q R=>∃d,ds=[d]/\pf d/\(∀k,k8 d=some k->Q (.int k))/\(k8 d=none->R 0)
theorem vE{y m n:Int}(h:cz y m n):0<=jt y m n:=by
 obtain⟨y1,y2,m1,m2,n1,n2⟩:=h;have:365*(y - 2000)<=aQ y:=by unfold aQ lb;omega
 have hb:=oM (y:=y) m1 m2;unfold jt;omega
theorem CM(T:Txt K mg t):aA P w K mg base (bP P w) 4 t.a_O t.d_O ["text"] (rh K t.u_NoText "row" CL):=by
 have G_N:=@CI P w _ _ base _ T;have G_K:=@vw P w _ _ base _ T;have G_C:=@CD P w _ _ base _ T;have G_J:=@vm P w _ _ base _ T;have G_A:=@Cp P w _ _ base _ T;refine T.F_O.F.okDXn nI (λds Q R h=>?_) (λcdv A outer s H O ds Q R E hr h hx=>?_)
 ·obtain⟨d,rfl,_⟩:=h;rfl
 ·obtain⟨d,rfl,hd,q1,q2⟩:=h;refine'⟨_,?A,?B⟩
  case A=>
   refine' aB ?C ?D
   case C=>
    refine' jz ?E ?F jy
    case E=>exact(jx (jw (nB (K':=K) (T:="str") rfl rfl T.n_isinstance kD (df (dv 0)) (lj (v:= .ty "str") rfl T.n_str j2 rfl))))
    case' F=>refine' aO ?G
    case G=>exact(oT hx Ff T.xm_NoText G_A hr T.c_NoText T.F_A.b (ae ag ar))
   case' D=>refine' aB ?H ?I
   case H=>exact(bf (i:=1) nI.nd rfl Ik (fe (qI (dv 0) bK)))
   case' I=>refine' aB ?J ?K
   case J=>
    refine' jz ?L ?M jy
    case L=>exact(PW.pt (jS (jJ (kM hr.units) kN (PE.imp (bz qc rfl T.n_len E9 (aC (dv 1) aJ)) (aN t4)) ag (aZ _)) (kH (jx (jw (ay G_N hr T.F_N (ae (aW bh br (dv 1) ag) (ae ag ar))))))))
    case' M=>refine' aO ?N
    case N=>exact(oT hx Ff T.xm_NoText G_A hr T.c_NoText T.F_A.b (ae ag ar))
   case' K=>refine' aB ?O ?P
   case O=>
    refine' jz ?Q ?R jy
    case Q=>exact(jx (PW.pt (mv (jw (ay G_N hr T.F_N (ae (aW bh br (dv 1) ag) (ae ag ar)))) (mV (jw (ay G_N hr T.F_N (ae (aW bh br (dv 1) ag) (ae ag ar))))))))
    case' R=>refine' aO ?S
    case S=>exact(oT hx Ff T.xm_NoText G_A hr T.c_NoText T.F_A.b (ae ag ar))
   case' P=>refine' aB ?T ?U
   case T=>exact(bf (i:=2) nI.nd rfl Ik (PE.imp (b8 lO rfl T.n_int jX (aC (aW bh br (dv 1) ag) aJ)) (aN lP)))
   case' U=>refine' aB ?V ?W
   case V=>exact(bf (i:=3) nI.nd rfl Ik (PE.imp (b8 lO rfl T.n_int jX (aC (aW bh br (dv 1) ag) aJ)) (aN lP)))
   case' W=>refine' aB ?X ?Y
   case X=>exact(bf (i:=4) nI.nd rfl Ik (PE.imp (b8 lO rfl T.n_int jX (aC (aW bh br (dv 1) ag) aJ)) (aN lP)))
   case' Y=>refine' aB ?Z ?a
   case Z=>
    refine' jz ?b ?c jy
    case b=>exact(PW.pt (jS (jx (jw (ay G_K hr T.F_K (ae (dv 2) (ae (dv 3) (ae (dv 4) ar)))))) (kH (jx (jw (ay G_C hr T.F_C (ae (ay G_J hr T.F_J (ae (dv 2) (ae (dv 3) (ae (dv 4) ar)))) ar)))))))
    case' c=>refine' aO ?d
    case d=>exact(oT hx Ff T.xm_NoText G_A hr T.c_NoText T.F_A.b (ae ag ar))
   case' a=>refine' aO ?e
   case e=>exact(bq (ay G_J hr T.F_J (ae (dv 2) (ae (dv 3) (ae (dv 4) ar)))))
  case B=>
  clear hr T hx G_N G_K G_C G_J G_A;walk_at "a";simp only [AL];refine⟨_,rfl,hd.1,?_⟩;cases d with
  | str z=>
   have hz:=hd.2 z rfl;simp only [ui];walk_at "a";refine⟨td,Ih,?_⟩;have nf:lV z=none->(Int.natAbs 0).log2 < 1920/\(Dk (toString (0:Int))).length<=1000/\R 0:=λe=>⟨Ce,td,q2 e⟩;have wl:=λp=>vD (z:=z) (p:=p);have q1:∀k,lV z=some k->Q (.int k):=q1;clear q2 hd;unfold lV at nf q1;generalize Txt.split z (Dk "-")=ws at*
   match ws with
   | [a,b,c]=>
    have la:=wl a Il;have lb:=wl b Il;have lc:=wl c Il;rw [Ii Il];simp only [] at nf q1;simp only [CJ,vx,CF,vo,↓iy,↓iH,↓iI,↓iJ,↓iK,↓iL,↓iM,↓iz,↓dY,↓g6,↓jj,↓jk,↓jl,↓jm,↓jn,↓jo,↓g7,↓g8,↓g9,↓hG,↓hJ,↓hU,↓hV,↓hW,↓hX,↓hZ,↓h7,↓ia,↓ib,↓ic,↓ie,↓ig,↓ij,↓ik,↓il,↓ip,↓iq,↓iu,↓iw,↓ix,cK,cL,cO,cN,eF,eG,cM,cP,eI,cU,eJ,eT,cD,dC,aX,dI,cY,cZ,c5,fh,c7,bL,dD,dB,eY,c9,dL,cj,cE,eh,cg,bU,bx,cF,cG,cH,cI,ei,cJ,el,bV,bW,eD,fZ,gc,gf,gh,gi,gj,gk,gm,gn,gp,gq,gr,gs,gu,gw,gx,gy,gz,gA,gB,gC,gD,gE,gF,gG,gH,gI,gJ,gK,gL,gM,gN,gO,gP,gQ,gR,gS,gT,gU,gW,gX,gY,gZ,gb,eZ,ff,dE,cu,fw,fj,dh,di,dj,dn,fg,dz,dA,cm,dF,dG,dH,bR,cW,eU,eV,eL,eM,eN,eO,eQ,eR,cV,eS,fz,dQ,fV,fW,fX,fU,fY,fx,dO,fy,dP,bN,fB,fA,dM,dN,dR,dS,dU,dW,bO,dX,g5,iB,iA,iC,iD,iE,iF,iG,dZ,iN,d3,iP,iQ,iO,iV,iS,iT,iU,cx,bY,iR,iZ,i2,iW,iX,iY,i3,i4,i5,i6,i7,i8,ja,jb,d5,jc,jd,je,i9,jf,jg,jh,ji,d7,d8,d9,ef,bt,fL,fM,fN,fO,fP,fQ,fR,fS,fT,ne_eq,fF,fG,fH,fJ,fK,fC,fD,fE,ck,cX,eX,cQ,cT,cS,cR,bG,bC,aP,bH,bT,bI,Dq,DQ,Dp,DJ,Dx,DR,DZ,DH,Eg,Ei,Ew,Ey,Ez,Du,Dv,DX,DM,DN,DP,exists_eq_left',exists_eq_left,exists_and_left,exists_and_right,D6,D7,Sl.v.injEq,Sl.o.injEq,Sl.k.injEq,Ea,D8,Eb,D1,D9,Dy,and_true,true_and,EA,Ec,exists_const,decide_eq_true_eq,EB,EC,En,Eo,DI,decide_eq_false_iff_not,and_assoc,or_true,true_or,↓reduceIte,if_true,if_false,DV,DW,not_true_eq_false,not_false_eq_true,Et,El,ite_true,ite_false,eq_self,exists_eq,reduceCtorEq,false_and,and_false,or_false,false_or,exists_false,Ej,Ek,bE,EG,EO,Ef,ER,EH,Er,EI,EJ,bM,bX,cn,dJ,fk,cq,fu,fv,beq_self_eq_true,fm,fq,ft,bj,IG]
    refine⟨Ih,?_⟩;by_cases fa:jD a 4=true
    ·rw [Ii (by rw [fa];decide)];refine⟨Ih,?_⟩;by_cases fb:jD b 2=true
     ·rw [Ij fb];refine⟨Ih,?_⟩;by_cases fc:jD c 2=true
      ·rw [Ii (by rw [fc];decide)];obtain⟨y,y1,y2,y3,_⟩:=rW fa;obtain⟨m,m1,m2,m3⟩:=mF fb;obtain⟨n,n1,n2,n3⟩:=mF fc;refine⟨y,y3,Ih,m,m3,Ih,n,n3,Ih,?_⟩;have ea:nv a=y:=by unfold nv;rw [y3];rfl
       have eb:nv b=m:=by unfold nv;rw [m3];rfl
       have ec:nv c=n:=by unfold nv;rw [n3];rfl
       rw [ea,eb,ec] at nf q1;by_cases hd:cz y m n
       ·rw [Ii (λz=>z hd)];refine⟨hd.2.2.1,hd.2.2.2.1,?_⟩;have nn:=vE hd;by_cases hy:jt y m n<=99999
        ·rw [Ii (by simp [mx,nn,hy])];exact⟨hd.2.2.1,hd.2.2.2.1,q1 _ (Ij ⟨fa,fb,fc,hd,hy⟩)⟩
        ·rw [Ij (by simp [mx,hy])];exact nf (Ii λz=>hy z.2.2.2.2)
       ·rw [Ij hd];exact nf (Ii λz=>hd z.2.2.2.1)
      ·rw [Ij (by simpa using fc)];exact nf (Ii λz=>fc z.2.2.1)
     ·rw [Ii fb];exact nf (Ii λz=>fb z.2.1)
    ·rw [Ij (by simpa using fa)];exact nf (Ii λz=>fa z.1)
   | []=>rw [Ij Il];exact nf rfl
   | [a]=>rw [Ij Il];exact nf rfl
   | [a,b]=>rw [Ij Il];exact nf rfl
   | a::b::c::d::r=>rw [Ij (by simp;omega)];exact nf rfl
  | _=>exact⟨Ce,td,q2 rfl⟩
def rX:Sp:=λvs H Q _=>∃(c:Int),vs=[.int c]/\EF c<=2000000/\∀n:Int,Q (.int n) H
theorem CN(T:Txt K mg t):aA P w K mg base CX0 1 t.a_P t.d_P ["_law_cell"] rX:=by
 refine T.F_P.F.ok Cj (λvs H Q E h=>?_) (λcdv A outer s H vs Q E hr h=>?_)
 ·obtain⟨c,rfl,_⟩:=h;rfl
 ·obtain⟨c,rfl,hb,k⟩:=h;refine⟨_,(bS (eg (aS lu (aS xE (pv 0) bg) (aS wG bg bg)))),?_⟩;walk_at "c";refine⟨IntMulOk.of_le (m:=2000000) (n:=256) hb (intBits_le_iff.mpr Ce) Ce,?_,?_,k _⟩
  ·decide
  ·decide
theorem vF{x:Int}(h1:0<=x)(h2:x<=1000000):EF x<=20:=intBits_le_iff.mpr (by
 have:(2:Nat)^ 20=1048576:=Ce
 omega)
theorem CO{H:Hp}{O:Ex}{v:V}{ns:List Int}(h:Dt K H O v (j3 (ns.map .int))):∃a,v= .ref a/\aG K H a (ns.map V.int):=by
 obtain⟨a,xs,rfl,hs,r⟩:=(Sh.dt h).scr;refine⟨a,rfl,?_⟩;have:xs=ns.map V.int:=by
  clear hs h
  induction ns generalizing xs with
  | nil=>rw [DQ] at r;cases r;rfl
  | cons n ns ih=>
   rw [Dq] at r;cases r with
   | cons h r=>cases h;rw [Dq,ih _ r]
 rw [<-this];exact hs
theorem CP(T:Txt K mg t):aA P w K mg base CX0 2 t.a_Q t.d_Q ["_law_script","_law_k"] (bA K Aj):=by
 have G_P:=@CN P w _ _ base _ T;refine T.F_Q.F.ok Ck (λvs H Q E h=>?_) (λcdv A outer s H vs Q E hr h=>?_)
 ·obtain⟨O,ds,Qd,_,r,⟨ns,i,rfl,_⟩,_⟩:=h;exact r.length
 ·obtain⟨O,ds,Qd,tr,r,⟨ns,i,rfl,hb,i0,i1,q⟩,k⟩:=h;cases r with
  | cons r1 r2=>
   cases r2 with
   | cons r2 r3=>
    cases r3;cases r2;obtain⟨a,rfl,hS⟩:=CO r1;refine⟨_,aR.newPack (b7 (kS (lx sJ (pv 1) (bz wN rfl T.n_len E9 (aw (pv 0) aK)) (aZ _)) (bS (eg (p4 (aw (jO G_P (hr.mono Ce) rfl T.F_P (aw (aS bo (n5 bh (pv 0) (pv 1) (λ_ _=>rfl)) (aS mf bg (pv 1))) aK)) aK)))) kR)
   (bS (eg (p4 (aw (jO G_P (hr.mono Ce) rfl T.F_P (aw (aS bo (aS mf bg (pv 1)) bg) aK)) aK))))),?_⟩
    have fin:∀(n:Int)(p:Ip),H p=none->∃p' n',V.ref p=V.ref p'/\ah H p (.lst [.int n]) p'=some (.lst [.int n'])/\Q (.ref p) (ah (ah H p (.lst [.int n])) p' (kE p')):=λn p hp=>
     ⟨p,n,rfl,aD,k _ _ _ q (λb o e=>by rw [aq (cA e hp),aq (cA e hp)];exact e) (.pack aD λz=>tr p z hp)⟩
    walk_at "c";refine⟨ns.length,.inl ⟨_,hS,Il⟩,?_⟩;split
    ·rename_i hlt;obtain⟨j,rfl⟩:=EN i0;have hj:j < ns.length:=Ih
     refine tM (v:= .int ns[j]) hS (lE (by simp [hj])) ⟨_,rfl,?_⟩;simp only [rX];walk_at "c";refine⟨?_,λn=>⟨by show 1<=Ir;decide,λp hp=>?_⟩⟩
     ·have e1:=hb ns[j] (GN hj);have e2:EF (31*(j:Int))<=20:=vF Ih Ih;exact EY (intBits_add_le e1 e2) Ce
     ·simpa using fin n p hp
    ·simp only [rX];walk_at "c";refine⟨?_,λn=>⟨by show 1<=Ir;decide,λp hp=>?_⟩⟩
     ·exact EY (vF Ih Ih) Ce
     ·simpa using fin n p hp
theorem ph(T:Txt K mg t):aA P w K mg base CX0 1 t.a_R t.d_R ["_law_pack_here","_law_size"] (bA K t7):=by
 refine T.F_R.F.ok u9 (λvs H Q E h=>?_) (λcdv A outer s H vs Q E hr h=>?_)
 ·obtain⟨O,ds,Qd,_,r,⟨z,rfl,_⟩,_⟩:=h;exact r.length
 ·obtain⟨O,ds,Qd,tr,r,⟨z,rfl,z0,z1,qq⟩,k⟩:=h;cases r with
  | cons r1 r2=>
   cases r2 with
   | cons r2 r3=>
    cases r3;cases r2;cases r1 with
    | @pack p hp hn=>
     refine⟨_,aR.pack (b7 (pK (bz wO rfl T.n_divmod xJ (aw (n5 bh (pv 0) bg (λ_ _=>rfl)) (aw (pv 1) aK))) (sk (n:=2) rfl (mJ (so (pv 0) bg sX) (mJ (jU (i:=2) u9.nd rfl Ik) sj))))
   (bS (eg (pv 2)))),p,hp,λn=>?_⟩
     walk_at "c";refine tM (aG.of aD) rfl ⟨n,rfl,z0,Ih,λq hq=>?_⟩;have hpq:p≠q:=cA aD hq;refine⟨_,bD.of aD,rfl,_,_,rfl,?_⟩;refine⟨p,[.int n],0,0,rfl,rfl,by rw [aq hpq,aD],rfl,?_⟩;refine⟨_,_,rfl,rfl,?_⟩;refine⟨⟨_,aD⟩,k _ _ _ (qq (n % z) (Int.emod_nonneg _ Ih) (Int.emod_lt_of_pos _ z0)) (λb o e=>?_) (.int _)⟩;by_cases hb:b=p
     ·subst hb;rw [aD,<-hp,e]
     ·have hbq:b≠q:=λy=>by
       subst y;rw [aq hb] at hq;rw [hq] at e;cases e
      rw [aq hb,aq hb,aq hbq,aq hb];exact e
end
theorem vG:jv (ax oX) ["_law_date_here","_law_year","_law_month","_law_number"] ["_law_k","_law_year"] 1 [1] ⟨Fi,[ (Ee ".0",JH),(Ee "_law_k",JH),(Ee "_law_length",Fl),(Ee "_law_year",Hh)],false,false,[]⟩:= .of
theorem vH:jv (ax oY) ["_law_text","_law_words","_law_date_here","_law_day_here"] ["_law_word"] 1 [] ⟨Fi,[(Ee ".0",JH),(Ee "_law_word",JH)],false,false,[]⟩:= .of
section
variable {P:IE} {w:IF} {K:Dj} {mg:Str->Option Io} {base:IC} {t:ku}
theorem CQ{y m:Int}(h1:1<=m)(h2:m<=12)(hm:m≠2):atI [Dn 31,Dn 29,Dn 31,Dn 30,Dn 31,Dn 30,Dn 31,Dn 31,Dn 30,Dn 31,Dn 30,Dn 31] (m - 1)=some (.int (mlen y m)):=by
 have a:=oK y;rcases qQ h1 h2 with z | z | z | z | z | z | z | z | z | z | z | z <;> subst z
 ·rw [a.1];rfl
 ·exact absurd rfl hm
 ·rw [a.2.1];rfl
 ·rw [a.2.2.1];rfl
 ·rw [a.2.2.2.1];rfl
 ·rw [a.2.2.2.2.1];rfl
 ·rw [a.2.2.2.2.2.1];rfl
 ·rw [a.2.2.2.2.2.2.1];rfl
 ·rw [a.2.2.2.2.2.2.2.1];rfl
 ·rw [a.2.2.2.2.2.2.2.2.1];rfl
 ·rw [a.2.2.2.2.2.2.2.2.2.1];rfl
 ·rw [a.2.2.2.2.2.2.2.2.2.2];rfl
theorem CS(ss:List Str){i:Int}(h0:0<=i)(h1:i < ss.length):∃nm∈ss,atI (ss.map Dw) i=some (.str nm):=by
 obtain⟨v,e,m⟩:=kW (xs:=ss.map Dw) h0 (by rw [E1];exact h1);obtain⟨nm,hn,rfl⟩:=FZ.mp m;exact⟨nm,hn,e⟩
theorem CT:∀m:Fin 100,Txt.slice (Dk (toString (100+(m.val:Int)))) (some 1) none=⟨(d2 m.val).toArray⟩/\(Dk (toString (100+(m.val:Int)))).length=3:=td
theorem vI{m:Int}(h0:0<=m)(h1:m < 100):Txt.slice (Dk (toString (100+m))) (some 1) none=⟨(d2 m.toNat).toArray⟩/\(Dk (toString (100+m))).length=3:=by
 obtain⟨k,rfl⟩:=EN h0;exact CT ⟨k,Ih⟩
theorem CU{y m n:Int}:Txt.join (Dk "-") [⟨(d4 y.toNat).toArray⟩,⟨(d2 m.toNat).toArray⟩,⟨(d2 n.toNat).toArray⟩]=jI y m n:=by
 have e:Dk "-"=⟨#[45]⟩:=td
 have h:(Txt.join (Dk "-") [⟨(d4 y.toNat).toArray⟩,⟨(d2 m.toNat).toArray⟩,⟨(d2 n.toNat).toArray⟩]).cps.toList=(jI y m n).cps.toList:=by
  rw [e,show Txt.join ⟨#[45]⟩ [⟨(d4 y.toNat).toArray⟩,⟨(d2 m.toNat).toArray⟩,⟨(d2 n.toNat).toArray⟩]=HB ⟨#[45]⟩ _ from G4 _ _,oQ];simp [jI,nF,lR]
 exact Str.ext_list h
def vJ:List Im->(Im->Prop)->Prop:=λds Q=>∃y m:Int,ds=[.int y,.int m]/\1<=m/\m<=12/\Q (.int (mlen y m))
theorem pj(T:Txt K mg t):aA P w K mg base CX0 1 t.a_S t.d_S ["_law_year","_law_month"] (bA K vJ):=by
 refine T.F_S.F.okD Cm (λds Q h=>?_) (λ_ _ _ _ H O ds Q E hr h=>?_)
 ·obtain⟨y,m,rfl,_⟩:=h;rfl
 ·obtain⟨y,m,rfl,h1,h2,q⟩:=h;refine'⟨_,?A,?B⟩
  case A=>
   refine' aB ?C ?D
   case C=>
    refine' jz ?E ?F jy
    case E=>exact(PW.pt (mv (jJ (lL hr.units) lM (dv 1) ag (aZ _)) (mV (PW.pt (jS (jJ (kM hr.units) kN (aF lu kL (dv 0) ag) ag (aZ _)) (kH (PW.pt (mv (jJ (lL hr.units) lM (aF lu kL (dv 0) ag) ag (aZ _)) (mV (jJ (kM hr.units) kN (aF lu kL (dv 0) ag) ag (aZ _)))))))))))
    case F=>refine' aO (bq ag)
   case' D=>refine' aO ?G
   case' G=>generalize hE6_0:HM _ _=ee6_0
   exact(bq (aW bh br (fe (Ay (ds:=[.int 31,.int 29,.int 31,.int 30,.int 31,.int 30,.int 31,.int 31,.int 30,.int 31,.int 30,.int 31]) (by first | (subst hE6_0;rfl)))) (aF jE bB (dv 1) ag)))
  case B=>
  clear hr T;walk_at "a";have tb:=CQ (y:=y) h1 h2;by_cases hm:m=2
  ·subst hm;have l1:=qN y;have e2:=qP y;have t29:j5 y=true->∃d,atI [Dn 31,Dn 29,Dn 31,Dn 30,Dn 31,Dn 30,Dn 31,Dn 31,Dn 30,Dn 31,Dn 30,Dn 31] (2 - 1)=some d/\Q d:=λh=>⟨.int 29,rfl,by rw [e2] at q;unfold ld at q;rw [h] at q;exact q⟩;have t28:¬j5 y=true->Q (.int 28):=λh=>by rw [e2] at q;unfold ld at q;rw [Ii h] at q;exact q
   rw [Ij Ce];split
   ·rename_i h4;exact t28 (by rw [l1];simp at h4;omega)
   ·rename_i h4;simp at h4;split
    ·rename_i h5;simp at h5;split
     ·rename_i h6;exact t28 (by rw [l1];simp at h6;omega)
     ·rename_i h6;exact t29 (l1.mpr (by simp at h6;omega))
    ·rename_i h5;exact t29 (l1.mpr (by simp at h5;omega))
  ·rw [Ii (by simpa using hm)];exact⟨_,tb hm,q⟩
def vK:List Im->(Im->Prop)->Prop:=λds Q=>∃y:Int,ds=[.int y]/\Q (.int (aQ y))
theorem CV(T:Txt K mg t):aA P w K mg base CX0 1 t.a_T t.d_T ["_law_year"] (bA K vK):=by
 refine T.F_T.F.okD va (λds Q h=>?_) (λ_ _ _ _ H O ds Q E hr h=>?_)
 ·obtain⟨y,rfl,_⟩:=h;rfl
 ·obtain⟨y,rfl,q⟩:=h;refine'⟨_,?A,?B⟩
  case A=>
   refine' aB ?C ?D
   case C=>exact(bf (i:=1) va.nd rfl Ik (aF jE bB (dv 0) ag))
   case' D=>refine' aO ?E
   case' E=>generalize hG4:Expr.BinOp _ _ _ _=eg4
   refine' bq ?F
   case' F=>subst hG4
   exact(aF bo bB (aF jE bB (aF bo bB (aF mf kL ag (dv 1)) (aF kT kL (aF bo bB (dv 1) ag) ag)) (aF kT kL (aF bo bB (dv 1) ag) ag)) (aF kT kL (aF bo bB (dv 1) ag) ag))
  case B=>
  clear hr T;walk_at "a";have e:365*(y - 2000)+(y - 2000+3)/ 4 - (y - 2000+99)/ 100+(y - 2000+399)/ 400=aQ y:=by rw [<-Bb y]
  rw [e];exact q
theorem lW{y m:Int}{Q:Im->Prop}:vJ [.int y,.int m] Q↔1<=m/\m<=12/\Q (.int (mlen y m)):=⟨λuu19=>by obtain⟨_,_,e,h⟩:=uu19;cases e;exact h,λh=>⟨_,_,rfl,h⟩⟩
theorem CW{y:Int}{Q:Im->Prop}:vK [.int y] Q↔Q (.int (aQ y)):=⟨λuu20=>by obtain⟨_,e,h⟩:=uu20;cases e;exact h,λh=>⟨_,rfl,h⟩⟩
def CY:List Im->(Im->Prop)->Prop:=λds Q=>∃y m n:Int,ds=[.tuple [.int y,.int m,.int n]]/\1<=m/\m<=12/\Q (.int (jt y m n))
theorem CZ(T:Txt K mg t):aA P w K mg base CX0 2 t.a_U t.d_U ["_law_date_here"] (bA K CY):=by
 have G_T:=@CV P w _ _ base _ T;have G_S:=@pj P w _ _ base _ T;refine T.F_U.F.okD o8 (λds Q h=>?_) (λ_ _ _ _ H O ds Q E hr h=>?_)
 ·obtain⟨y,m,n,rfl,_⟩:=h;rfl
 ·obtain⟨y,m,n,rfl,m1,m2,q⟩:=h;refine'⟨_,?A,?B⟩
  case A=>
   refine' aB ?C ?D
   case C=>exact(yX (dv 0) (sk (n:=3) rfl (mJ (jU (i:=1) o8.nd rfl Ik) (mJ (jU (i:=2) o8.nd rfl Ik) (mJ (jU (i:=3) o8.nd rfl Ik) sj)))) (yW (qx km (qx km (qx km yV)))))
   case' D=>refine' aO ?E
   case' E=>refine' bq ?F
   case F=>exact(aF jE bB (aF bo bB (aF bo bB (ay G_T hr T.F_T (ae (dv 1) ar)) (PE.imp (bz (tw rfl) rfl T.n_sum G3 (aC (fe (AF rfl vG rfl T.n_range (aC ag (aC (dv 2) aJ)) km oq Ce (λ_ _ _ _=>(jU (i:=0) vG.nd rfl Ik)) (λ_ _ _ _=>ot) (λ_ _ _ _=>(ay G_S hr T.F_S (ae (dv 1) (ae (dv 0) ar)))))) aJ)) (aN A7))) (dv 3)) ag)
  case B=>
  clear hr T G_T G_S;simp only [lW,CW,↓iy,↓iH,↓iI,↓iJ,↓iK,↓iL,↓iM,↓iz,↓dY,↓g6,↓jj,↓jk,↓jl,↓jm,↓jn,↓jo,↓g7,↓g8,↓g9,↓hG,↓hJ,↓hU,↓hV,↓hW,↓hX,↓hZ,↓h7,↓ia,↓ib,↓ic,↓ie,↓ig,↓ij,↓ik,↓il,↓ip,↓iq,↓iu,↓iw,↓ix,cK,cL,cO,cN,eF,eG,cM,cP,eI,cU,eJ,eT,cD,dC,aX,dI,cY,cZ,c5,fh,c7,bL,dD,dB,eY,c9,dL,cj,cE,eh,cg,bU,bx,cF,cG,cH,cI,ei,cJ,el,bV,bW,eD,fZ,gc,gf,gh,gi,gj,gk,gm,gn,gp,gq,gr,gs,gu,gw,gx,gy,gz,gA,gB,gC,gD,gE,gF,gG,gH,gI,gJ,gK,gL,gM,gN,gO,gP,gQ,gR,gS,gT,gU,gW,gX,gY,gZ,gb,eZ,ff,dE,cu,fw,fj,dh,di,dj,dn,fg,dz,dA,cm,dF,dG,dH,bR,cW,eU,eV,eL,eM,eN,eO,eQ,eR,cV,eS,fz,dQ,fV,fW,fX,fU,fY,fx,dO,fy,dP,bN,fB,fA,dM,dN,dR,dS,dU,dW,bO,dX,g5,iB,iA,iC,iD,iE,iF,iG,dZ,iN,d3,iP,iQ,iO,iV,iS,iT,iU,cx,bY,iR,iZ,i2,iW,iX,iY,i3,i4,i5,i6,i7,i8,ja,jb,d5,jc,jd,je,i9,jf,jg,jh,ji,d7,d8,d9,ef,bt,fL,fM,fN,fO,fP,fQ,fR,fS,fT,ne_eq,fF,fG,fH,fJ,fK,fC,fD,fE,ck,cX,eX,cQ,cT,cS,cR,bG,bC,aP,bH,bT,bI,Dq,DQ,Dp,DJ,Dx,DR,DZ,DH,Eg,Ei,Ew,Ey,Ez,Du,Dv,DX,DM,DN,DP,exists_eq_left',exists_eq_left,exists_and_left,exists_and_right,D6,D7,Sl.v.injEq,Sl.o.injEq,Sl.k.injEq,Ea,D8,Eb,D1,D9,Dy,and_true,true_and,EA,Ec,exists_const,decide_eq_true_eq,EB,EC,En,Eo,DI,decide_eq_false_iff_not,and_assoc,or_true,true_or,↓reduceIte,if_true,if_false,DV,DW,not_true_eq_false,not_false_eq_true,Et,El,ite_true,ite_false,eq_self,exists_eq,reduceCtorEq,false_and,and_false,or_false,false_or,exists_false,Ej,Ek,bE,EG,EO,Ef,ER,EH,Er,EI,EJ,bM,bX,cn,dJ,fk,cq,fu,fv,beq_self_eq_true,fm,fq,ft,bj,IG];have hm:((m - 1).toNat:Int)=m - 1:=Gp Ih;refine⟨Ih,Ih,Ih,?_⟩
  refine qG (λx=>match x with | .int k=>.int (mlen y k) | _=>.none) (λx hx R hR=>?_) ?_
  ·obtain⟨k,hk,rfl⟩:=FZ.mp hx;have hk:=Gq.mp hk;simp only [lW,true_and,↓iy,↓iH,↓iI,↓iJ,↓iK,↓iL,↓iM,↓iz,↓dY,↓g6,↓jj,↓jk,↓jl,↓jm,↓jn,↓jo,↓g7,↓g8,↓g9,↓hG,↓hJ,↓hU,↓hV,↓hW,↓hX,↓hZ,↓h7,↓ia,↓ib,↓ic,↓ie,↓ig,↓ij,↓ik,↓il,↓ip,↓iq,↓iu,↓iw,↓ix,cK,cL,cO,cN,eF,eG,cM,cP,eI,cU,eJ,eT,cD,dC,aX,dI,cY,cZ,c5,fh,c7,bL,dD,dB,eY,c9,dL,cj,cE,eh,cg,bU,bx,cF,cG,cH,cI,ei,cJ,el,bV,bW,eD,fZ,gc,gf,gh,gi,gj,gk,gm,gn,gp,gq,gr,gs,gu,gw,gx,gy,gz,gA,gB,gC,gD,gE,gF,gG,gH,gI,gJ,gK,gL,gM,gN,gO,gP,gQ,gR,gS,gT,gU,gW,gX,gY,gZ,gb,eZ,ff,dE,cu,fw,fj,dh,di,dj,dn,fg,dz,dA,cm,dF,dG,dH,bR,cW,eU,eV,eL,eM,eN,eO,eQ,eR,cV,eS,fz,dQ,fV,fW,fX,fU,fY,fx,dO,fy,dP,bN,fB,fA,dM,dN,dR,dS,dU,dW,bO,dX,g5,iB,iA,iC,iD,iE,iF,iG,dZ,iN,d3,iP,iQ,iO,iV,iS,iT,iU,cx,bY,iR,iZ,i2,iW,iX,iY,i3,i4,i5,i6,i7,i8,ja,jb,d5,jc,jd,je,i9,jf,jg,jh,ji,d7,d8,d9,ef,bt,fL,fM,fN,fO,fP,fQ,fR,fS,fT,ne_eq,fF,fG,fH,fJ,fK,fC,fD,fE,ck,cX,eX,cQ,cT,cS,cR,bG,bC,aP,bH,bT,bI,Dq,DQ,Dp,DJ,Dx,DR,DZ,DH,Eg,Ei,Ew,Ey,Ez,Du,Dv,DX,DM,DN,DP,exists_eq_left',exists_eq_left,exists_and_left,exists_and_right,D6,D7,Sl.v.injEq,Sl.o.injEq,Sl.k.injEq,Ea,D8,Eb,D1,D9,Dy,and_true,true_and,EA,Ec,exists_const,decide_eq_true_eq,EB,EC,En,Eo,DI,decide_eq_false_iff_not,and_assoc,or_true,true_or,↓reduceIte,if_true,if_false,DV,DW,not_true_eq_false,not_false_eq_true,Et,El,ite_true,ite_false,eq_self,exists_eq,reduceCtorEq,false_and,and_false,or_false,false_or,exists_false,Ej,Ek,bE,EG,EO,Ef,ER,EH,Er,EI,EJ,bM,bX,cn,dJ,fk,cq,fu,fv,beq_self_eq_true,fm,fq,ft,bj,IG];exact⟨Ih,Ih,hR⟩
  ·refine⟨(Fp (m - 1).toNat).map λ(i:Nat)=>mlen y (1+(i:Int)),?_,?_⟩
   ·unfold kl;rw [Gj,Gj];rfl
   ·have e:aQ y+((Fp (m - 1).toNat).map λ(i:Nat)=>mlen y (1+(i:Int))).sum+n - 1=jt y m n:=rfl;rw [e];exact q
def C0:List Im->(Im->Prop)->Prop:=λds Q=>∃mo:Int,ds=[kF,.int mo]/\(mo=2273\/mo=9999)/\∀y m n,cz y m n->Q (.tuple [.int y,.int m,.int n])
theorem C1(T:Txt K mg t):aA P w K mg base CX0 2 t.a_V t.d_V ["_law_pack_here","_law_most"] (bA K C0):=by
 have G_R:=@ph P w _ _ base _ T;have G_S:=@pj P w _ _ base _ T;refine T.F_V.F.okD lS (λds Q h=>?_) (λ_ _ _ _ H O ds Q E hr h=>?_)
 ·obtain⟨mo,rfl,_⟩:=h;rfl
 ·obtain⟨mo,rfl,hm,q⟩:=h;refine'⟨_,?A,?B⟩
  case A=>
   refine' aB ?C ?D
   case C=>
    generalize hG2:Expr.BinOp _ _ _ _=eg2;refine' bf (i:=2) lS.nd rfl Ik ?E (hs:=by subst hG2;exact qH)
    case' E=>subst hG2
    exact(aF jE bB (aF bo bB (aF bo bB ag (aF mf kL ag (ay G_R hr T.F_R (ae (dv 0) (ae (aF bo bB ag (aF kT kL (aF jE bB (dv 1) ag) ag)) ar))))) (ay G_R hr T.F_R (ae (dv 0) (ae ag ar)))) ag)
   case' D=>refine' aB ?F ?G
   case F=>
    refine' bf (i:=3) lS.nd rfl Ik ?H (hs:=qH)
    case H=>exact(aF bo bB ag (ay G_R hr T.F_R (ae (dv 0) (ae (aF jE bB (dv 1) ag) ar))))
   case' G=>refine' aB ?I ?J
   case I=>
    refine' bf (i:=4) lS.nd rfl Ik ?K (hs:=oG)
    case' K=>refine' jN bh br (df ?L) ?M
    case L=>
     refine' fe ?N
     case' N=>refine' jY ?O
     case' O=>refine' ae (dv 3) ?P
     case' P=>refine' ae (dv 3) ?Q
     case' Q=>refine' ae ?R ar
     case R=>exact(PE.imp (bz (pV rfl) rfl T.n_min Gd (aC (dv 1) (aC (PE.imp (bz (sM rfl) rfl T.n_max G5 (aC ag (aC (dv 2) aJ))) (aN nj)) aJ))) (aN nj))
    case M=>exact(df (ay G_R hr T.F_R (ae (dv 0) (ae ag ar))))
   case' J=>refine' aB ?S ?T
   case S=>
    generalize hG20:Expr.Subscript _ _ _=eg20;refine' bf (i:=5) lS.nd rfl Ik ?U (hs:=by subst hG20;exact oG)
    case' U=>subst hG20
    refine' jN bh br (df ?V) ?W
    case V=>
     refine' fe ?X
     case' X=>refine' jY ?Y
     case' Y=>refine' ae ?Z ?a
     case Z=>exact(aF bo bB ag (ay G_R hr T.F_R (ae (dv 0) (ae ag ar))))
     case a=>refine' ae ag ar
    case W=>exact(df (PE.imp (b8 nY rfl T.n_int jX (aC (ki (lL hr.units) lM (df (ay G_R hr T.F_R (ae (dv 0) (ae ag ar)))) (df ag) (aZ _)) aJ)) (aN ow)))
   case' T=>refine' aB ?b ?c
   case b=>exact(bf (i:=6) lS.nd rfl Ik (ay G_S hr T.F_S (ae (dv 4) (ae (dv 5) ar))))
   case' c=>refine' aB ?d ?e
   case d=>
    refine' bf (i:=7) lS.nd rfl Ik ?f (hs:=oG)
    case' f=>refine' jN bh br (df ?g) ?h
    case g=>
     refine' fe ?i
     case' i=>refine' jY ?j
     case' j=>refine' ae ?k ?l
     case k=>exact(aF bo bB ag (ay G_R hr T.F_R (ae (dv 0) (ae (dv 6) ar))))
     case' l=>refine' ae (dv 6) ?m
     case' m=>refine' ae ag ?n
     case' n=>refine' ae ?o ar
     case o=>exact(PE.imp (bz (pV rfl) rfl T.n_min Gd (aC (dv 6) (aC ag aJ))) (aN nj))
    case h=>exact(df (ay G_R hr T.F_R (ae (dv 0) (ae ag ar))))
   case' e=>refine' aO ?p
   case p=>exact(bq (lI (ae (dv 4) (ae (dv 5) (ae (dv 7) ar)))))
  case B=>
  clear hr T G_R G_S;simp only [bt,lW,↓iy,↓iH,↓iI,↓iJ,↓iK,↓iL,↓iM,↓iz,↓dY,↓g6,↓jj,↓jk,↓jl,↓jm,↓jn,↓jo,↓g7,↓g8,↓g9,↓hG,↓hJ,↓hU,↓hV,↓hW,↓hX,↓hZ,↓h7,↓ia,↓ib,↓ic,↓ie,↓ig,↓ij,↓ik,↓il,↓ip,↓iq,↓iu,↓iw,↓ix,cK,cL,cO,cN,eF,eG,cM,cP,eI,cU,eJ,eT,cD,dC,aX,dI,cY,cZ,c5,fh,c7,bL,dD,dB,eY,c9,dL,cj,cE,eh,cg,bU,bx,cF,cG,cH,cI,ei,cJ,el,bV,bW,eD,fZ,gc,gf,gh,gi,gj,gk,gm,gn,gp,gq,gr,gs,gu,gw,gx,gy,gz,gA,gB,gC,gD,gE,gF,gG,gH,gI,gJ,gK,gL,gM,gN,gO,gP,gQ,gR,gS,gT,gU,gW,gX,gY,gZ,gb,eZ,ff,dE,cu,fw,fj,dh,di,dj,dn,fg,dz,dA,cm,dF,dG,dH,bR,cW,eU,eV,eL,eM,eN,eO,eQ,eR,cV,eS,fz,dQ,fV,fW,fX,fU,fY,fx,dO,fy,dP,bN,fB,fA,dM,dN,dR,dS,dU,dW,bO,dX,g5,iB,iA,iC,iD,iE,iF,iG,dZ,iN,d3,iP,iQ,iO,iV,iS,iT,iU,cx,bY,iR,iZ,i2,iW,iX,iY,i3,i4,i5,i6,i7,i8,ja,jb,d5,jc,jd,je,i9,jf,jg,jh,ji,d7,d8,d9,ef,bt,fL,fM,fN,fO,fP,fQ,fR,fS,fT,ne_eq,fF,fG,fH,fJ,fK,fC,fD,fE,ck,cX,eX,cQ,cT,cS,cR,bG,bC,aP,bH,bT,bI,Dq,DQ,Dp,DJ,Dx,DR,DZ,DH,Eg,Ei,Ew,Ey,Ez,Du,Dv,DX,DM,DN,DP,exists_eq_left',exists_eq_left,exists_and_left,exists_and_right,D6,D7,Sl.v.injEq,Sl.o.injEq,Sl.k.injEq,Ea,D8,Eb,D1,D9,Dy,and_true,true_and,EA,Ec,exists_const,decide_eq_true_eq,EB,EC,En,Eo,DI,decide_eq_false_iff_not,and_assoc,or_true,true_or,↓reduceIte,if_true,if_false,DV,DW,not_true_eq_false,not_false_eq_true,Et,El,ite_true,ite_false,eq_self,exists_eq,reduceCtorEq,false_and,and_false,or_false,false_or,exists_false,Ej,Ek,bE,EG,EO,Ef,ER,EH,Er,EI,EJ,bM,bX,cn,dJ,fk,cq,fu,fv,beq_self_eq_true,fm,fq,ft,bj,IG];have hmo:2000<=mo/\mo<=9999:=Ih
  refine⟨Ih,Ih,λc c0 c1 c2 c3 c4=>⟨Ih,Ih,λa a0 a1 w w0 w1=>?_⟩⟩;generalize hC:(if (if 2000+100*c+c2 - 1 > 2000 then 2000+100*c+c2 - 1 else 2000) < mo then if 2000+100*c+c2 - 1 > 2000 then 2000+100*c+c2 - 1 else 2000 else mo)=cy;have hcy:2000<=cy/\cy<=mo:=by
   rw [<-hC]
   repeat' split
   all_goals omega
  clear hC;obtain⟨v,ev,hv⟩:=kW (xs:=[Dn (2000+a),Dn (2000+a),Dn cy]) (i:=w) w0 (by show _ < ((3:Nat):Int);omega);obtain⟨y,rfl,hy⟩:∃y:Int,v= .int y/\2000<=y/\y<=9999:=by
   simp only [EL,Fo,or_false] at hv;rcases hv with rfl | rfl | rfl <;> exact⟨_,rfl,Ih,Ih⟩
  refine⟨_,ev,λb b0 b1 u u0 u1=>?_⟩;obtain⟨m,em,hm⟩:∃m:Int,atI [Dn (1+b),Dn 2] (if (u==0)=true then 1 else 0)=some (.int m)/\1<=m/\m<=12:=by
   split
   ·exact⟨2,rfl,Ih,Ih⟩
   ·exact⟨1+b,rfl,Ih,Ih⟩
  refine⟨_,em,?_⟩;have hb:=mlen_bd (y:=y) hm.1 hm.2;simp only [bt,lW,↓iy,↓iH,↓iI,↓iJ,↓iK,↓iL,↓iM,↓iz,↓dY,↓g6,↓jj,↓jk,↓jl,↓jm,↓jn,↓jo,↓g7,↓g8,↓g9,↓hG,↓hJ,↓hU,↓hV,↓hW,↓hX,↓hZ,↓h7,↓ia,↓ib,↓ic,↓ie,↓ig,↓ij,↓ik,↓il,↓ip,↓iq,↓iu,↓iw,↓ix,cK,cL,cO,cN,eF,eG,cM,cP,eI,cU,eJ,eT,cD,dC,aX,dI,cY,cZ,c5,fh,c7,bL,dD,dB,eY,c9,dL,cj,cE,eh,cg,bU,bx,cF,cG,cH,cI,ei,cJ,el,bV,bW,eD,fZ,gc,gf,gh,gi,gj,gk,gm,gn,gp,gq,gr,gs,gu,gw,gx,gy,gz,gA,gB,gC,gD,gE,gF,gG,gH,gI,gJ,gK,gL,gM,gN,gO,gP,gQ,gR,gS,gT,gU,gW,gX,gY,gZ,gb,eZ,ff,dE,cu,fw,fj,dh,di,dj,dn,fg,dz,dA,cm,dF,dG,dH,bR,cW,eU,eV,eL,eM,eN,eO,eQ,eR,cV,eS,fz,dQ,fV,fW,fX,fU,fY,fx,dO,fy,dP,bN,fB,fA,dM,dN,dR,dS,dU,dW,bO,dX,g5,iB,iA,iC,iD,iE,iF,iG,dZ,iN,d3,iP,iQ,iO,iV,iS,iT,iU,cx,bY,iR,iZ,i2,iW,iX,iY,i3,i4,i5,i6,i7,i8,ja,jb,d5,jc,jd,je,i9,jf,jg,jh,ji,d7,d8,d9,ef,bt,fL,fM,fN,fO,fP,fQ,fR,fS,fT,ne_eq,fF,fG,fH,fJ,fK,fC,fD,fE,ck,cX,eX,cQ,cT,cS,cR,bG,bC,aP,bH,bT,bI,Dq,DQ,Dp,DJ,Dx,DR,DZ,DH,Eg,Ei,Ew,Ey,Ez,Du,Dv,DX,DM,DN,DP,exists_eq_left',exists_eq_left,exists_and_left,exists_and_right,D6,D7,Sl.v.injEq,Sl.o.injEq,Sl.k.injEq,Ea,D8,Eb,D1,D9,Dy,and_true,true_and,EA,Ec,exists_const,decide_eq_true_eq,EB,EC,En,Eo,DI,decide_eq_false_iff_not,and_assoc,or_true,true_or,↓reduceIte,if_true,if_false,DV,DW,not_true_eq_false,not_false_eq_true,Et,El,ite_true,ite_false,eq_self,exists_eq,reduceCtorEq,false_and,and_false,or_false,false_or,exists_false,Ej,Ek,bE,EG,EO,Ef,ER,EH,Er,EI,EJ,bM,bX,cn,dJ,fk,cq,fu,fv,beq_self_eq_true,fm,fq,ft,bj,IG];refine⟨hm.1,hm.2,Ih,Ih,λg g0 g1 x x0 x1=>?_⟩
  obtain⟨v,ev,hv⟩:=kW (xs:=[Dn (1+g),Dn (mlen y m),Dn 1,Dn (if 28 < mlen y m then 28 else mlen y m)]) (i:=x) x0 (by show _ < ((4:Nat):Int);omega);refine⟨v,ev,?_⟩;obtain⟨n,rfl,hn⟩:∃n:Int,v= .int n/\1<=n/\n<=mlen y m:=by
   simp only [EL,Fo,or_false] at hv;rcases hv with rfl | rfl | rfl | rfl
   ·exact⟨_,rfl,Ih,Ih⟩
   ·exact⟨_,rfl,Ih,Ih⟩
   ·exact⟨_,rfl,Ih,Ih⟩
   ·refine⟨_,rfl,?_⟩;split <;> omega
  exact q y m n ⟨hy.1,hy.2,hm.1,hm.2,hn.1,hn.2⟩
def C2:List Im->(Im->Prop)->Prop:=λds Q=>∃y m n:Int,ds=[.tuple [.int y,.int m,.int n]]/\cz y m n/\Q (.str (jI y m n))
theorem vL(T:Txt K mg t):aA P w K mg base CX0 1 t.a_W t.d_W ["_law_date_here"] (bA K C2):=by
 refine T.F_W.F.okD Cn (λds Q h=>?_) (λ_ _ _ _ H O ds Q E hr h=>?_)
 ·obtain⟨y,m,n,rfl,_⟩:=h;rfl
 ·obtain⟨y,m,n,rfl,hd,q⟩:=h;refine'⟨_,?A,?B⟩
  case A=>
   refine' aO ?C
   case' C=>generalize hG2:Expr.Call _ _ _ _=eg2
   refine' bq ?D
   case' D=>subst hG2
   exact(t6 bK (df (fe (jY (ae (PE.imp (b8 kB rfl T.n_str j2 (aC (aW jr jA (dv 0) ag) aJ)) (aN kO)) (ae (nq (df (PE.imp (b8 kB rfl T.n_str j2 (aC (aF bo bB ag (aW jr jA (dv 0) ag)) aJ)) (aN kO))) (ni ag) nh) (ae (nq (df (PE.imp (b8 kB rfl T.n_str j2 (aC (aF bo bB ag (aW jr jA (dv 0) ag)) aJ)) (aN kO))) (ni ag) nh) ar)))))))
  case B=>
  clear hr T;walk_at "a";obtain⟨y1,y2,m1,m2,n1,n2⟩:=hd;have hb:=mlen_bd (y:=y) m1 m2;have e1:=oO (y:=y.toNat) Ih Ih;rw [Gp Ih] at e1;obtain⟨s1,s2⟩:=vI (m:=m) Ih Ih;obtain⟨s3,s4⟩:=vI (m:=n) Ih Ih;have lm:(Dk "-").length=1:=td
  refine⟨kP Ih Ih,kP Ih Ih,by rw [s2];decide,kP Ih Ih,by rw [s4];decide,?_,?_⟩
  ·rw [e1,s1,s3,lm];show 4+(2+(2+0))+3*1<=16777216;decide
  ·rw [e1,s1,s3,CU];exact q
def jq(p:Str):Bool:=!(p==Dk "") && p.cps.toList.all λc=>k7.cps.contains c
theorem vM(c:Nat):k7.cps.contains c=decide (c∈k7.cps.toList):=by
 rw [Fv];simp
theorem rY{p:Str}{k:Int}(h:jD p k=true)(hk:k≠0):jq p=true:=by
 unfold jD at h;rw [E6,decide_eq_true_eq] at h;have e:(p==Dk "")=false:=by
  cases z:p==Dk ""
  ·rfl
  ·have z:=eq_of_beq z;rw [z] at h;exact absurd h.1.symm hk
 unfold jq;rw [e];simp only [vM];rw [h.2];rfl
theorem rZ{p:Str}{k:Int}(h:jq p=true)(hk:(p.length:Int)=k):jD p k=true:=by
 unfold jq at h;rw [E6] at h;simp only [vM] at h;unfold jD;rw [h.2,decide_eq_true hk];rfl
def C3:List Im->(Im->Prop)->Prop:=λds Q=>∃z:Str,ds=[.str z]/\z.length<=1000/\(∀k,lV z=some k->Q (.int k))/\(lV z=none->Q .none)
theorem C4(T:Txt K mg t):aA P w K mg base CX0 3 t.a_X t.d_X ["_law_text"] (bA K C3):=by
 have G_S:=@pj P w _ _ base _ T;have G_U:=@CZ P w _ _ base _ T;refine T.F_X.F.okD o9 (λds Q h=>?_) (λ_ _ _ _ H O ds Q E hr h=>?_)
 ·obtain⟨z,rfl,_⟩:=h;rfl
 ·obtain⟨z,rfl,hz,q1,q2⟩:=h;refine'⟨_,?A,?B⟩
  case A=>
   refine' aB ?C ?D
   case C=>exact(bf (i:=1) o9.nd rfl Ik (fe (qI (dv 0) bK)))
   case' D=>refine' aB ?E ?F
   case E=>
    refine' jz ?G ?H jy
    case G=>exact(PW.pt (jS (jJ (kM hr.units) kN (PE.imp (bz qc rfl T.n_len E9 (aC (dv 1) aJ)) (aN t4)) ag (aZ _)) (kH (jx (jw (PE.imp (bz (qt rfl) rfl T.n_all qu (aC (fe (y8 rfl vH (df (dv 1)) km oq Ce (λ_ _ _ _=>(jU (i:=0) vH.nd rfl Ik)) (λ_ _ _ _=>ot) (λ_ _ _ _=>(mX (ki (uX hr) uY (df (dv 0)) (df bK) (aZ _)) (mW (ki (ug hr) uh (df (BZ (dv 0) bK)) (df bK) (aZ _))))))) aJ)) (aN qA)))))))
    case H=>refine' aO (bq mr)
   case' F=>refine' aB ?I ?J
   case I=>
    refine' jz ?K ?L jy
    case K=>exact(PW.pt (jS (jJ (kM hr.units) kN (PE.imp (bz mj rfl T.n_len E9 (aC (aW bh br (dv 1) ag) aJ)) (aN mw)) ag (aZ _)) (jS (jJ (ug hr) uh (aW qa qB (aW bh br (dv 1) ag) ag) bK (aZ _)) (jS (jJ (kM hr.units) kN (PE.imp (bz mj rfl T.n_len E9 (aC (aW bh br (dv 1) ag) aJ)) (aN mw)) ag (aZ _)) (kH (jJ (kM hr.units) kN (PE.imp (bz mj rfl T.n_len E9 (aC (aW bh br (dv 1) ag) aJ)) (aN mw)) ag (aZ _)))))))
    case L=>refine' aO (bq mr)
   case' J=>refine' aB ?M ?N
   case M=>
    refine' bf (i:=2) o9.nd rfl Ik ?O (hs:=AS)
    case' O=>refine' lI ?P
    case' P=>refine' ae ?Q ?R
    case Q=>exact(PE.imp (b8 lO rfl T.n_int jX (aC (aW bh br (dv 1) ag) aJ)) (aN lP))
    case' R=>refine' ae ?S ?T
    case S=>exact(PE.imp (b8 lO rfl T.n_int jX (aC (aW bh br (dv 1) ag) aJ)) (aN lP))
    case' T=>refine' ae ?U ar
    case U=>exact(PE.imp (b8 lO rfl T.n_int jX (aC (aW bh br (dv 1) ag) aJ)) (aN lP))
   case' N=>refine' aB ?V ?W
   case V=>
    refine' jz ?X ?Y jy
    case X=>exact(PW.pt (jS (jJ sJ jH (aW jr jA (dv 2) ag) ag (aZ _)) (jS (jx (om jQ jQ jH jH (df ag) (df (aW jr jA (dv 2) ag)) (df ag))) (kH (jx (om jQ jQ jH jH (df ag) (df (aW jr jA (dv 2) ag)) (df (ay G_S hr T.F_S (ae (aW jr jA (dv 2) ag) (ae (aW jr jA (dv 2) ag) ar))))))))))
    case Y=>refine' aO (bq mr)
   case' W=>refine' aB ?Z ?a
   case Z=>exact(bf (i:=3) o9.nd rfl Ik (ay G_U hr T.F_U (ae (dv 2) ar)))
   case' a=>refine' aB ?b ?c
   case b=>
    refine' jz ?d ?e jy
    case d=>exact(jJ pU jH (dv 3) ag (aZ _))
    case e=>refine' aO (bq mr)
   case' c=>refine' aO ?f
   case f=>exact(bq (dv 3))
  case B=>
  clear hr T G_S G_U;simp only [lW,true_and,↓iy,↓iH,↓iI,↓iJ,↓iK,↓iL,↓iM,↓iz,↓dY,↓g6,↓jj,↓jk,↓jl,↓jm,↓jn,↓jo,↓g7,↓g8,↓g9,↓hG,↓hJ,↓hU,↓hV,↓hW,↓hX,↓hZ,↓h7,↓ia,↓ib,↓ic,↓ie,↓ig,↓ij,↓ik,↓il,↓ip,↓iq,↓iu,↓iw,↓ix,cK,cL,cO,cN,eF,eG,cM,cP,eI,cU,eJ,eT,cD,dC,aX,dI,cY,cZ,c5,fh,c7,bL,dD,dB,eY,c9,dL,cj,cE,eh,cg,bU,bx,cF,cG,cH,cI,ei,cJ,el,bV,bW,eD,fZ,gc,gf,gh,gi,gj,gk,gm,gn,gp,gq,gr,gs,gu,gw,gx,gy,gz,gA,gB,gC,gD,gE,gF,gG,gH,gI,gJ,gK,gL,gM,gN,gO,gP,gQ,gR,gS,gT,gU,gW,gX,gY,gZ,gb,eZ,ff,dE,cu,fw,fj,dh,di,dj,dn,fg,dz,dA,cm,dF,dG,dH,bR,cW,eU,eV,eL,eM,eN,eO,eQ,eR,cV,eS,fz,dQ,fV,fW,fX,fU,fY,fx,dO,fy,dP,bN,fB,fA,dM,dN,dR,dS,dU,dW,bO,dX,g5,iB,iA,iC,iD,iE,iF,iG,dZ,iN,d3,iP,iQ,iO,iV,iS,iT,iU,cx,bY,iR,iZ,i2,iW,iX,iY,i3,i4,i5,i6,i7,i8,ja,jb,d5,jc,jd,je,i9,jf,jg,jh,ji,d7,d8,d9,ef,bt,fL,fM,fN,fO,fP,fQ,fR,fS,fT,ne_eq,fF,fG,fH,fJ,fK,fC,fD,fE,ck,cX,eX,cQ,cT,cS,cR,bG,bC,aP,bH,bT,bI,Dq,DQ,Dp,DJ,Dx,DR,DZ,DH,Eg,Ei,Ew,Ey,Ez,Du,Dv,DX,DM,DN,DP,exists_eq_left',exists_eq_left,exists_and_left,exists_and_right,D6,D7,Sl.v.injEq,Sl.o.injEq,Sl.k.injEq,Ea,D8,Eb,D1,D9,Dy,and_true,true_and,EA,Ec,exists_const,decide_eq_true_eq,EB,EC,En,Eo,DI,decide_eq_false_iff_not,and_assoc,or_true,true_or,↓reduceIte,if_true,if_false,DV,DW,not_true_eq_false,not_false_eq_true,Et,El,ite_true,ite_false,eq_self,exists_eq,reduceCtorEq,false_and,and_false,or_false,false_or,exists_false,Ej,Ek,bE,EG,EO,Ef,ER,EH,Er,EI,EJ,bM,bX,cn,dJ,fk,cq,fu,fv,beq_self_eq_true,fm,fq,ft,bj,IG];refine⟨td,Ih,?_⟩;have wl:=λp=>vD (z:=z) (p:=p)
  unfold lV at q1 q2;generalize Txt.split z (Dk "-")=ws at*
  match ws with
  | [a,b,c]=>
   have la:=wl a Il;have lb:=wl b Il;have lc:=wl c Il;rw [Ii Il];simp only [] at q1 q2;refine⟨by show 3<=_;decide,?_⟩;refine qG (λx=>match x with | .str y=>.bool (jq y) | _=>.none) (λx hx R hR=>?_) ⟨[jq a,jq b,jq c],rfl,?_⟩
   ·obtain⟨p,hp,rfl⟩:=FZ.mp hx;have hp:=wl p hp;walk_at "a";have hR:R (.bool (jq p)):=hR;rw [B1,show Dk "0123456789"=k7 from rfl];unfold jq at hR;generalize p.cps.toList.all _=B at hR⊢;cases h:p==Dk ""
    ·rw [Ij rfl];rw [h] at hR;exact⟨Ih,hR⟩
    ·rw [Ii Ce];rw [h] at hR;exact hR
   ·have e:[jq a,jq b,jq c].all id=(jq a && (jq b && (jq c && true))):=rfl;rw [e];by_cases hw:(jq a && (jq b && (jq c && true)))=true
    ·rw [Ii (by rw [hw];decide)];simp only [E6,and_true] at hw;simp only [lW,true_and,↓iy,↓iH,↓iI,↓iJ,↓iK,↓iL,↓iM,↓iz,↓dY,↓g6,↓jj,↓jk,↓jl,↓jm,↓jn,↓jo,↓g7,↓g8,↓g9,↓hG,↓hJ,↓hU,↓hV,↓hW,↓hX,↓hZ,↓h7,↓ia,↓ib,↓ic,↓ie,↓ig,↓ij,↓ik,↓il,↓ip,↓iq,↓iu,↓iw,↓ix,cK,cL,cO,cN,eF,eG,cM,cP,eI,cU,eJ,eT,cD,dC,aX,dI,cY,cZ,c5,fh,c7,bL,dD,dB,eY,c9,dL,cj,cE,eh,cg,bU,bx,cF,cG,cH,cI,ei,cJ,el,bV,bW,eD,fZ,gc,gf,gh,gi,gj,gk,gm,gn,gp,gq,gr,gs,gu,gw,gx,gy,gz,gA,gB,gC,gD,gE,gF,gG,gH,gI,gJ,gK,gL,gM,gN,gO,gP,gQ,gR,gS,gT,gU,gW,gX,gY,gZ,gb,eZ,ff,dE,cu,fw,fj,dh,di,dj,dn,fg,dz,dA,cm,dF,dG,dH,bR,cW,eU,eV,eL,eM,eN,eO,eQ,eR,cV,eS,fz,dQ,fV,fW,fX,fU,fY,fx,dO,fy,dP,bN,fB,fA,dM,dN,dR,dS,dU,dW,bO,dX,g5,iB,iA,iC,iD,iE,iF,iG,dZ,iN,d3,iP,iQ,iO,iV,iS,iT,iU,cx,bY,iR,iZ,i2,iW,iX,iY,i3,i4,i5,i6,i7,i8,ja,jb,d5,jc,jd,je,i9,jf,jg,jh,ji,d7,d8,d9,ef,bt,fL,fM,fN,fO,fP,fQ,fR,fS,fT,ne_eq,fF,fG,fH,fJ,fK,fC,fD,fE,ck,cX,eX,cQ,cT,cS,cR,bG,bC,aP,bH,bT,bI,Dq,DQ,Dp,DJ,Dx,DR,DZ,DH,Eg,Ei,Ew,Ey,Ez,Du,Dv,DX,DM,DN,DP,exists_eq_left',exists_eq_left,exists_and_left,exists_and_right,D6,D7,Sl.v.injEq,Sl.o.injEq,Sl.k.injEq,Ea,D8,Eb,D1,D9,Dy,and_true,true_and,EA,Ec,exists_const,decide_eq_true_eq,EB,EC,En,Eo,DI,decide_eq_false_iff_not,and_assoc,or_true,true_or,↓reduceIte,if_true,if_false,DV,DW,not_true_eq_false,not_false_eq_true,Et,El,ite_true,ite_false,eq_self,exists_eq,reduceCtorEq,false_and,and_false,or_false,false_or,exists_false,Ej,Ek,bE,EG,EO,Ef,ER,EH,Er,EI,EJ,bM,bX,cn,dJ,fk,cq,fu,fv,beq_self_eq_true,fm,fq,ft,bj,IG];obtain⟨wa,wb,wc⟩:=hw;refine⟨Ih,?_⟩
     by_cases la4:(a.length:Int)=4
     ·rw [Ii (by rw [la4];decide)];have fa:=rZ wa la4;obtain⟨y,y1,y2,y3,y4⟩:=rW fa;have hd:∃x,atI a.cps.toList 0=some x:=by
       have:a.cps.toList.length=4:=by rw [show a.cps.toList.length=a.length from ED];omega
       match a.cps.toList,this with
       | x::r,_=>exact⟨x,bM⟩
      obtain⟨x,ex⟩:=hd;have ea:nv a=y:=by unfold nv;rw [y3];rfl
      rw [ea] at q1 q2;refine⟨Ih,x,ex,?_⟩;by_cases h0:x=48
      ·rw [Ij (by rw [h0];decide+kernel)];exact q2 (Ii λz=>by
        have:=y4 (by rw [ex,h0]);have:=z.2.2.2.1.1;omega)
      ·rw [Ii (λz=>h0 (by
        have z:=eq_of_beq z;rw [show Dk "0"=⟨#[48]⟩ by decide+kernel] at z;simpa using z))]
       refine⟨Ih,?_⟩;by_cases lb2:(b.length:Int)=2
       ·rw [Ii (by rw [lb2];decide)];refine⟨Ih,?_⟩;have fb:=rZ wb lb2;by_cases lc2:(c.length:Int)=2
        ·rw [Ii (by rw [lc2];decide)];have fc:=rZ wc lc2;obtain⟨m,m1,m2,m3⟩:=mF fb;obtain⟨n,n1,n2,n3⟩:=mF fc;have eb:nv b=m:=by unfold nv;rw [m3];rfl
         have ec:nv c=n:=by unfold nv;rw [n3];rfl
         rw [eb,ec] at q1 q2;refine⟨y,y3,Ih,m,m3,Ih,n,n3,Ih,?_⟩;have no:¬cz y m n->Q .none:=λz=>q2 (Ii λw=>z w.2.2.2.1);split
         ·exact no λz=>by have:=z.1;omega
         ·split
          ·split
           ·exact no λz=>by have:=z.2.2.2.1;omega
           ·split
            ·refine⟨Ih,Ih,?_⟩;split
             ·exact no λz=>by have:=z.2.2.2.2.2;omega
             ·have hd:cz y m n:=⟨Ih,Ih,Ih,Ih,Ih,Ih⟩;refine⟨y,m,n,rfl,Ih,Ih,_,rfl,?_⟩;split
              ·exact q2 (Ii λw=>by have:=w.2.2.2.2;omega)
              ·exact q1 _ (Ij ⟨fa,fb,fc,hd,Ih⟩)
            ·exact no λz=>by have:=z.2.2.2.2.1;omega
          ·exact no λz=>by have:=z.2.2.1;omega
        ·rw [Ij (by simpa using lc2)];exact q2 (Ii λz=>lc2 (by have:=(mF z.2.2.1);obtain⟨_,_,h,_⟩:=this;omega))
       ·rw [Ij (by simpa using lb2)];exact q2 (Ii λz=>lb2 (by have:=(mF z.2.1);obtain⟨_,_,h,_⟩:=this;omega))
     ·rw [Ij (by simpa using la4)];exact q2 (Ii λz=>la4 (by have:=(rW z.1);obtain⟨_,_,h,_⟩:=this;omega))
    ·rw [Ij (by simpa using hw)];refine q2 (Ii λz=>hw ?_);rw [rY z.1 Ce,rY z.2.1 Ce,rY z.2.2.1 Ce];rfl
  | []=>rw [Ij Il];exact q2 rfl
  | [a]=>rw [Ij Il];exact q2 rfl
  | [a,b]=>rw [Ij Il];exact q2 rfl
  | a::b::c::d::r=>rw [Ij (by simp;omega)];exact q2 rfl
local macro_rules | `(tactic| walk_at "d") =>rzT "nM pF pH pG nR ll kA tC lq rI jV pR pS kU nW tB pq pw px pB pC pD mP mO nZ mQ pY pZ nQ nP nO pJ tD tE tF tG tH tI tJ tK bH bT bI L2.start Dq DQ Dp DJ Dx DR DZ DH Eg Ei Ew Ey Ez Du Dv DM DN DP exists_eq_left' exists_eq_left exists_and_left exists_and_right V.int.injEq V.bl.injEq V.str.injEq V.ref.injEq Dy and_true true_and EA exists_const decide_eq_true_eq EB EC En Eo DI decide_eq_false_iff_not and_assoc aY D6 DX D7 L2.cxK L2.cmK or_true true_or nX if_true if_false DV DW not_true_eq_false not_false_eq_true Et El ite_true ite_false eq_self L2.E0 exists_eq forall_eq'"
theorem vN{H H2:Hp}{O:Ex}{p:Ip}(tr:∀l,O l->H l≠none)(s2:ai H H2)(hp:H2 p=none):¬O p:=λz=>by
 cases h:H p with
 | none=>exact tr p z h
 | some o=>have:=s2 p o h;rw [hp] at this;cases this
def j7(d:Im):Im:=match k8 d with
 | some k=>.tuple [.str "told",.int k]
 | none=>.tuple [.str "refused",.int 0]
def C5:List Im->(Im->Prop)->Prop:=λds Q=>∃d,ds=[d]/\pf d/\Q (j7 d)
theorem vO(T:Txt K mg t):aA P w K mg base CX0 5 t.a_Y t.d_Y ["_law_thing"] (bA K C5):=by
 have G_O:=@CM P w _ _ base _ T;refine T.F_Y.F.ok nJ (λvs H Q E h=>?_) (λcdv A outer s H vs Q E hr h=>?_)
 ·obtain⟨O,ds,Qd,_,r,⟨d,rfl,_⟩,_⟩:=h;exact r.length
 ·obtain⟨O,ds,Qd,tr,r,⟨d,rfl,ha,q⟩,k⟩:=h;obtain⟨v,rfl,r1⟩:∃v,vs=[v]/\Dt K H O v d:=by
   cases r with
   | cons r1 r2=>cases r2;exact⟨_,rfl,r1⟩
  refine'⟨_,?A,?B⟩
  case A=>
   refine' b7 ?C ?D
   case C=>refine' jP (i:=1) nJ.nd rfl Ik nL
   case' D=>refine' b7 ?E ?F
   case E=>refine' jP (i:=2) nJ.nd rfl Ik nL
   case' F=>refine' b7 ?G ?H
   case G=>exact(BW (C:=t.u_NoText) (i:=3) (j:=2) G_O (hr.mono Ce) rfl T.F_O.m T.F_O.kp T.F_O.b (λE'=>(aw (pv 0) aK)) rfl rfl T.c_ArchiveError rfl T.xm_NoText.seen T.q_ArchiveError Ce T.i_NoText_ArchiveError nJ.nd rfl Ik Ik rfl rfl (λe=>(bS (jP (i:=1) nJ.nd rfl Ik (pv 3)))))
   case' H=>refine' b7 ?I ?J
   case I=>
    refine' kS ?K ?L kR
    case K=>exact(lx sL (pv 1) nL (aZ _))
    case' L=>refine' bS ?M
    case' M=>refine' eg ?N
    case N=>exact(lC (aw lh (aw (pv 2) aK)))
   case' J=>refine' b7 ?O ?P
   case O=>
    refine' kS ?Q ?R kR
    case Q=>exact(me (bz (BX (K':=K) rfl) rfl T.n_isinstance kD (aw (pv 1) (aw (lC (aw (bZ (v:= .ref t.u_GoneMaker) rfl T.c_GoneMaker rfl) (aw (bZ (v:= .ref t.u_Held) rfl T.c_Held rfl) (aw (bZ (v:= .ref t.u_MustStay) rfl T.c_MustStay rfl) (aw (bZ (v:= .ref t.u_NoCall) rfl T.c_NoCall rfl) (aw (bZ (v:= .ref t.u_NoDay) rfl T.c_NoDay rfl) (aw (bZ (v:= .ref t.u_NoDeed) rfl T.c_NoDeed rfl) (aw (bZ (v:= .ref t.u_NoLeave) rfl T.c_NoLeave rfl) (aw (bZ (v:= .ref t.u_NoNumber) rfl T.c_NoNumber rfl) (aw (bZ (v:= .ref t.u_NoPaper) rfl T.c_NoPaper rfl) (aw (bZ (v:= .ref t.u_Twice) rfl T.c_Twice rfl) aK))))))))))) aK))))
    case' R=>refine' bS ?S
    case' S=>refine' eg ?T
    case T=>exact(lC (aw lh aK))
   case' P=>refine' b7 ?U ?V
   case U=>
    refine' kS ?W ?X kR
    case W=>exact(PW.pt (pz (pA (me (bz (uU (K':=K) rfl) rfl T.n_isinstance kD (aw (pv 1) (aw (bZ (v:= .ref t.u_NoText) rfl T.c_NoText rfl) aK))))) (pz (pA (me (bz (uU (K':=K) rfl) rfl T.n_isinstance kD (aw (pv 1) (aw (lj (v:= .ty "ValueError") rfl T.n_ValueError x4 rfl) aK))))) (se (me (bz xF rfl T.n_isinstance kD (aw (uN (pv 1) rfl) (aw (lj (v:= .ty "bool") rfl T.n_bool qr rfl) aK))))))))
    case' X=>refine' bS ?Y
    case' Y=>refine' eg ?Z
    case Z=>exact(lC (aw lh aK))
   case' V=>refine' bS ?a
   case' a=>refine' eg ?b
   case b=>exact(lC (aw lh (aw (uN (pv 1) rfl) aK)))
  case B=>
  walk_at "d";have Z:jF K t.u_NoText:=⟨T.z1,T.z2,T.z3,T.z4,T.z5,T.z6,T.z7,T.z8⟩;refine⟨_,rfl,O,[d],λx=>∃k,k8 d=some k/\x= .int k,λn=>n=0/\k8 d=none,tr,.cons r1 .nil,⟨d,rfl,ha,λk hk=>⟨k,hk,rfl⟩,λh=>⟨rfl,h⟩⟩,?_,?_⟩
  ·rintro x v2 H2 ⟨n,hn,rfl⟩ s2 r2;cases r2;walk_at "d";have e:j7 d= .tuple [.str "told",.int n]:=by unfold j7;rw [hn]
   rw [e] at q;exact⟨by rw [IG];decide,λp hp=>k _ _ _ q (s2.trans (ai.new hp)) (.tup (.inl aD) (vN tr s2 hp) (.cons (.str _) (.cons (.int _) .nil)))⟩
  ·rintro n ⟨rfl,hn⟩ dd H2 s2 hdd;refine⟨rfl,λe he=>?_⟩;have e0:j7 d= .tuple [.str "refused",.int 0]:=by unfold j7;rw [hn]
   rw [e0] at q;walk_at "d";rw [Ii (λz=>by cases z)];refine⟨by rw [IG];decide,λp hp=>?_⟩;have ne:e≠p:=cA aD hp;have nd:dd≠e:=λz=>by rw [z,he] at hdd;cases hdd
   have np:dd≠p:=λz=>by rw [<-z,aq nd,hdd] at hp;cases hp
   have ee:=(aq (o:=HO.tup [V.ref t.u_GoneMaker,V.ref t.u_Held,V.ref t.u_MustStay,V.ref t.u_NoCall,V.ref t.u_NoDay,V.ref t.u_NoDeed,V.ref t.u_NoLeave,V.ref t.u_NoNumber,V.ref t.u_NoPaper,V.ref t.u_Twice]) ne).trans (aD (H:=H2) (a:=e) (o:=HO.ext (jC e (.ref t.u_NoText) (some dd))));have ed:=((aq (o:=HO.tup [V.ref t.u_GoneMaker,V.ref t.u_Held,V.ref t.u_MustStay,V.ref t.u_NoCall,V.ref t.u_NoDay,V.ref t.u_NoDeed,V.ref t.u_NoLeave,V.ref t.u_NoNumber,V.ref t.u_NoPaper,V.ref t.u_Twice]) np).trans (aq (H:=H2) (o:=HO.ext (jC e (.ref t.u_NoText) (some dd))) nd)).trans hdd;have ep:=aD (H:=ah H2 e (HO.ext (jC e (.ref t.u_NoText) (some dd)))) (a:=p) (o:=HO.tup [V.ref t.u_GoneMaker,V.ref t.u_Held,V.ref t.u_MustStay,V.ref t.u_NoCall,V.ref t.u_NoDay,V.ref t.u_NoDeed,V.ref t.u_NoLeave,V.ref t.u_NoNumber,V.ref t.u_NoPaper,V.ref t.u_Twice]);have s3:=s2.trans ((ai.new he).trans (ai.new (o:=HO.tup [V.ref t.u_GoneMaker,V.ref t.u_Held,V.ref t.u_MustStay,V.ref t.u_NoCall,V.ref t.u_NoDay,V.ref t.u_NoDeed,V.ref t.u_NoLeave,V.ref t.u_NoNumber,V.ref t.u_NoPaper,V.ref t.u_Twice]) hp));generalize ah (ah H2 e _) p _=H3 at*;refine⟨_,_,ee,[t.u_GoneMaker,t.u_Held,t.u_MustStay,t.u_NoCall,t.u_NoDay,t.u_NoDeed,t.u_NoLeave,t.u_NoNumber,t.u_NoPaper,t.u_Twice],ep,Z,false,T.ka,?_⟩;rw [Ii Ce];refine⟨_,_,ee,Z,.ref t.u_NoText,λu h=>h,true,by unfold FA;rw [Ij Il],?_⟩;rw [Ii Ce];refine⟨_,_,ee,Z,.type "ValueError",λu h=>h,true,T.kv,?_⟩;rw [Ii Ce];unfold uM;walk_at "d"
   have hi:∀u:Io,au (.int 0) u->PySem.W.handedIn u=true:=λu uu21=>by obtain⟨_,h⟩:=uu21;rw [h];rfl
   refine⟨_,_,ee,_,ed,Z,T.xhd,T.xrow,.int 0,rfl,hi,"bool",rfl,_,.int 0,false,rfl,?_⟩;rw [Ii Ce];exact⟨_,_,ee,_,ed,Z,T.xhd,T.xrow,.int 0,rfl,hi,by rw [IG];decide,λq' hq=>k _ _ _ q (s3.trans (ai.new hq)) (.tup (.inl aD) (vN tr s3 hq) (.cons (.str _) (.cons (.int _) .nil)))⟩
def vP:List Im->(Im->Prop)->Prop:=λds Q=>∃z:Str,ds=[.str z]/\z.length<=1000/\Q (.bool true)
theorem C6(T:Txt K mg t):aA P w K mg base CX0 6 t.a_Z t.d_Z ["_law_text"] (bA K vP):=by
 have G_X:=@C4 P w _ _ base _ T;have G_Y:=@vO P w _ _ base _ T;refine T.F_Z.F.okD rT (λds Q h=>?_) (λ_ _ _ _ H O ds Q E hr h=>?_)
 ·obtain⟨z,rfl,_⟩:=h;rfl
 ·obtain⟨z,rfl,hz,q⟩:=h;refine'⟨_,?A,?B⟩
  case A=>
   refine' aB ?C ?D
   case C=>exact(bf (i:=1) rT.nd rfl Ik (ay G_X hr T.F_X (ae (dv 0) ar)))
   case' D=>refine' aB ?E ?F
   case E=>exact(bf (i:=2) rT.nd rfl Ik (ay G_Y hr T.F_Y (ae (dv 0) ar)))
   case' F=>refine' aB ?G ?H
   case G=>
    refine' jz ?I ?J jy
    case I=>exact(jJ sL AZ (dv 1) mr (aZ _))
    case' J=>refine' aO ?K
    case K=>exact(bq (ki (lL hr.units) lM (df (dv 2)) (df (lI (ae bK (ae ag ar)))) (aZ _)))
   case' H=>refine' aO ?L
   case' L=>refine' bq ?M
   case M=>exact(mX (ki (lL hr.units) lM (df (dv 2)) (df (lI (ae bK (ae (dv 1) ar)))) (aZ _)) (mW (tT (nB (K':=K) (T:="bool") rfl rfl T.n_isinstance kD (df (aW jr jA (dv 2) ag)) (lj (v:= .ty "bool") rfl T.n_bool qr rfl)))))
  case B=>
  clear hr T G_X G_Y;walk_at "a";have ha:pf (.str z):=And.intro (λx h=>by cases h) (λy h=>by cases h;exact hz);have sr:FY (EV [Dw (Dk "refused"),Dn 0])=true:=td
  have st:∀k:Int,FY (EV [Dw (Dk "told"),Dn k])=true:=λk=>by
   unfold FY;simp [E8,PyData.depth,F3,PyData.depthAll];decide+kernel
  have eq:∀d:Im,FY d=true->d.eqv d=true:=λd h=>G9 d (Fd h);refine⟨z,rfl,hz,λk hk=>⟨_,rfl,ha,?_⟩,λhk=>⟨_,rfl,ha,?_⟩⟩
  ·dsimp only;rw [Ii (by simp [mz]),show j7 (.str z)= .tuple [.str "told",.int k] by unfold j7;rw [show k8 (.str z)=some k from hk]];refine⟨st k,st k,?_⟩;rw [eq _ (st k),Ij rfl];exact⟨_,rfl,_,bX,false,rfl,(λx h=>by cases h),q⟩
  ·dsimp only;rw [Ij Ce,show j7 (.str z)= .tuple [.str "refused",.int 0] by unfold j7;rw [show k8 (.str z)=none from hk]];refine⟨sr,sr,?_⟩;rw [eq _ sr];exact q
def signs:Str:=" !\"#$&'()*+,-./0123456789:;<=>?@ABCDEFGHIJKLMNOPQRSTUVWXYZ[\\]^_`abcdefghijklmnopqrstuvwxyz{|}~\n"
theorem ue:signs.length=95:=td
def C7:List Im->(Im->Prop)->Prop:=λds Q=>∃z:Str,ds=[.str z,kF]/\z.length<=10/\∀z':Str,z'.length<=1000->Q (.str z')
theorem C8(T:Txt K mg t):aA P w K mg base CX0 2 t.a_a t.d_a ["_law_text","_law_pack_here"] (bA K C7):=by
 have G_R:=@ph P w _ _ base _ T;refine T.F_a.F.okD lT (λds Q h=>?_) (λ_ _ _ _ H O ds Q E hr h=>?_)
 ·obtain⟨z,rfl,_⟩:=h;rfl
 ·obtain⟨z,rfl,hz,q⟩:=h;refine'⟨_,?A,?B⟩
  case A=>
   refine' aB ?C ?D
   case C=>exact(bf (i:=2) lT.nd rfl Ik bK)
   case' D=>refine' aB ?E ?F
   case E=>
    refine' qy Gk rfl rfl T.n_range (ae (aF bo bB ag (ay G_R hr T.F_R (ae (dv 1) (ae ag ar)))) ar) ?G km ?H
    case G=>exact(jU (i:=3) lT.nd rfl Ik)
    case' H=>refine' aB ?I ?J
    case I=>
     refine' bf (i:=4) lT.nd rfl Ik ?K (hs:=my)
     case K=>exact(ay G_R hr T.F_R (ae (dv 1) (ae (aF bo bB (PE.imp (bz mj rfl T.n_len E9 (aC (dv 0) aJ)) (aN mw)) ag) ar)))
    case' J=>refine' aB ?L ?M
    case L=>exact(bf (i:=5) lT.nd rfl Ik (ay G_R hr T.F_R (ae (dv 1) (ae ag ar))))
    case' M=>refine' aB ?N ?O
    case N=>
     refine' bf (i:=6) lT.nd rfl Ik ?P (hs:=oG)
     case' P=>refine' jN bh br (df ?Q) ?R
     case Q=>
      refine' fe ?S
      case' S=>refine' jY ?T
      case' T=>refine' ae ?U ?V
      case U=>exact(aW qa qB (dv 2) (ay G_R hr T.F_R (ae (dv 1) (ae (PE.imp (bz mj rfl T.n_len E9 (aC (dv 2) aJ)) (aN mw)) ar))))
      case' V=>refine' ae ?W ar
      case W=>exact(aW qa qB bK (ay G_R hr T.F_R (ae (dv 1) (ae ag ar))))
     case R=>exact(df (ay G_R hr T.F_R (ae (dv 1) (ae ag ar))))
    case' O=>refine' aO ?X
    case' X=>refine' bf (i:=0) lT.nd rfl Ik ?Y (hs:=qH)
    case Y=>exact(aF lA lN (aF lA lN (nq (df (dv 0)) nh (ni (dv 4))) (aF A0 A1 (dv 6) (PE.imp (b8 nY rfl T.n_int jX (aC (ki pU jH (df (dv 5)) (df ag) (aZ _)) aJ)) (aN ow)))) (nq (df (dv 0)) (ni (aF bo bB (dv 4) (PE.imp (b8 nY rfl T.n_int jX (aC (ki (kM hr.units) kN (df (dv 5)) (df ag) (aZ _)) aJ)) (aN ow)))) nh))
   case' F=>refine' aO ?Z
   case Z=>exact(bq (dv 0))
  case B=>
  clear hr T G_R;simp only [bt,true_and,↓iy,↓iH,↓iI,↓iJ,↓iK,↓iL,↓iM,↓iz,↓dY,↓g6,↓jj,↓jk,↓jl,↓jm,↓jn,↓jo,↓g7,↓g8,↓g9,↓hG,↓hJ,↓hU,↓hV,↓hW,↓hX,↓hZ,↓h7,↓ia,↓ib,↓ic,↓ie,↓ig,↓ij,↓ik,↓il,↓ip,↓iq,↓iu,↓iw,↓ix,cK,cL,cO,cN,eF,eG,cM,cP,eI,cU,eJ,eT,cD,dC,aX,dI,cY,cZ,c5,fh,c7,bL,dD,dB,eY,c9,dL,cj,cE,eh,cg,bU,bx,cF,cG,cH,cI,ei,cJ,el,bV,bW,eD,fZ,gc,gf,gh,gi,gj,gk,gm,gn,gp,gq,gr,gs,gu,gw,gx,gy,gz,gA,gB,gC,gD,gE,gF,gG,gH,gI,gJ,gK,gL,gM,gN,gO,gP,gQ,gR,gS,gT,gU,gW,gX,gY,gZ,gb,eZ,ff,dE,cu,fw,fj,dh,di,dj,dn,fg,dz,dA,cm,dF,dG,dH,bR,cW,eU,eV,eL,eM,eN,eO,eQ,eR,cV,eS,fz,dQ,fV,fW,fX,fU,fY,fx,dO,fy,dP,bN,fB,fA,dM,dN,dR,dS,dU,dW,bO,dX,g5,iB,iA,iC,iD,iE,iF,iG,dZ,iN,d3,iP,iQ,iO,iV,iS,iT,iU,cx,bY,iR,iZ,i2,iW,iX,iY,i3,i4,i5,i6,i7,i8,ja,jb,d5,jc,jd,je,i9,jf,jg,jh,ji,d7,d8,d9,ef,bt,fL,fM,fN,fO,fP,fQ,fR,fS,fT,ne_eq,fF,fG,fH,fJ,fK,fC,fD,fE,ck,cX,eX,cQ,cT,cS,cR,bG,bC,aP,bH,bT,bI,Dq,DQ,Dp,DJ,Dx,DR,DZ,DH,Eg,Ei,Ew,Ey,Ez,Du,Dv,DX,DM,DN,DP,exists_eq_left',exists_eq_left,exists_and_left,exists_and_right,D6,D7,Sl.v.injEq,Sl.o.injEq,Sl.k.injEq,Ea,D8,Eb,D1,D9,Dy,and_true,true_and,EA,Ec,exists_const,decide_eq_true_eq,EB,EC,En,Eo,DI,decide_eq_false_iff_not,and_assoc,or_true,true_or,↓reduceIte,if_true,if_false,DV,DW,not_true_eq_false,not_false_eq_true,Et,El,ite_true,ite_false,eq_self,exists_eq,reduceCtorEq,false_and,and_false,or_false,false_or,exists_false,Ej,Ek,bE,EG,EO,Ef,ER,EH,Er,EI,EJ,bM,bX,cn,dJ,fk,cq,fu,fv,beq_self_eq_true,fm,fq,ft,bj,IG];intro i i0 i1;refine⟨Ih,Ih,?_⟩;refine⟨λj δ=>∃(z':Str)(o3 o4 o5 o6:Option Sl),((j=0/\z'.length<=10)\/(j=1/\z'.length<=21)\/(2<=j/\z'.length<=43))/\δ=[some (Sl.v (Dw z')),some (Sl.v kF),some (Sl.v (Dw signs)),o3,o4,o5,o6],⟨z,_,_,_,_,.inl ⟨rfl,hz⟩,rfl⟩,?_,?_⟩
  ·rintro j x δ hx ⟨z',o3,o4,o5,o6,hl,rfl⟩;obtain⟨hj,rfl⟩:=qC hx;simp only [bt,true_and,↓iy,↓iH,↓iI,↓iJ,↓iK,↓iL,↓iM,↓iz,↓dY,↓g6,↓jj,↓jk,↓jl,↓jm,↓jn,↓jo,↓g7,↓g8,↓g9,↓hG,↓hJ,↓hU,↓hV,↓hW,↓hX,↓hZ,↓h7,↓ia,↓ib,↓ic,↓ie,↓ig,↓ij,↓ik,↓il,↓ip,↓iq,↓iu,↓iw,↓ix,cK,cL,cO,cN,eF,eG,cM,cP,eI,cU,eJ,eT,cD,dC,aX,dI,cY,cZ,c5,fh,c7,bL,dD,dB,eY,c9,dL,cj,cE,eh,cg,bU,bx,cF,cG,cH,cI,ei,cJ,el,bV,bW,eD,fZ,gc,gf,gh,gi,gj,gk,gm,gn,gp,gq,gr,gs,gu,gw,gx,gy,gz,gA,gB,gC,gD,gE,gF,gG,gH,gI,gJ,gK,gL,gM,gN,gO,gP,gQ,gR,gS,gT,gU,gW,gX,gY,gZ,gb,eZ,ff,dE,cu,fw,fj,dh,di,dj,dn,fg,dz,dA,cm,dF,dG,dH,bR,cW,eU,eV,eL,eM,eN,eO,eQ,eR,cV,eS,fz,dQ,fV,fW,fX,fU,fY,fx,dO,fy,dP,bN,fB,fA,dM,dN,dR,dS,dU,dW,bO,dX,g5,iB,iA,iC,iD,iE,iF,iG,dZ,iN,d3,iP,iQ,iO,iV,iS,iT,iU,cx,bY,iR,iZ,i2,iW,iX,iY,i3,i4,i5,i6,i7,i8,ja,jb,d5,jc,jd,je,i9,jf,jg,jh,ji,d7,d8,d9,ef,bt,fL,fM,fN,fO,fP,fQ,fR,fS,fT,ne_eq,fF,fG,fH,fJ,fK,fC,fD,fE,ck,cX,eX,cQ,cT,cS,cR,bG,bC,aP,bH,bT,bI,Dq,DQ,Dp,DJ,Dx,DR,DZ,DH,Eg,Ei,Ew,Ey,Ez,Du,Dv,DX,DM,DN,DP,exists_eq_left',exists_eq_left,exists_and_left,exists_and_right,D6,D7,Sl.v.injEq,Sl.o.injEq,Sl.k.injEq,Ea,D8,Eb,D1,D9,Dy,and_true,true_and,EA,Ec,exists_const,decide_eq_true_eq,EB,EC,En,Eo,DI,decide_eq_false_iff_not,and_assoc,or_true,true_or,↓reduceIte,if_true,if_false,DV,DW,not_true_eq_false,not_false_eq_true,Et,El,ite_true,ite_false,eq_self,exists_eq,reduceCtorEq,false_and,and_false,or_false,false_or,exists_false,Ej,Ek,bE,EG,EO,Ef,ER,EH,Er,EI,EJ,bM,bX,cn,dJ,fk,cq,fu,fv,beq_self_eq_true,fm,fq,ft,bj,IG];have sl:=ue;have one:∀(c:Nat)(n:Int),n=0\/n=1->MulOk ⟨#[c]⟩ n/\(Txt.mul ⟨#[c]⟩ n).length<=1:=λc n h=>by
    have e:(⟨#[c]⟩:Str).length=1:=rfl;rcases h with rfl | rfl
    ·exact⟨⟨rfl,λh=>absurd Ce h,λh=>absurd Ce h⟩,by show(0:Nat)<=1;decide⟩
    ·exact⟨⟨rfl,λ_ h=>by simp at h,λ_ h=>by simp at h⟩,by show(⟨#[c]⟩:Str).length<=1;rw [e];exact Dz _⟩
   refine⟨Ih,Ih,Ih,λa a0 a1 w w0 w1=>⟨Ih,Ih,Ih,λg g0 g1=>⟨Ih,?_⟩⟩⟩;obtain⟨c,ec,_⟩:=kW (xs:=signs.cps.toList) g0 (by rw [ED];exact g1);refine⟨c,ec,λh h0 h1=>⟨td,?_⟩⟩;obtain⟨c',ec',_⟩:=kW (xs:=(Dk "0123456789-").cps.toList) h0 (by rw [show(Dk "0123456789-").cps.toList.length=11 by decide+kernel];exact h1);refine⟨c',ec',λu u0 u1=>?_⟩;obtain⟨v,ev,hv⟩:=kW (xs:=[Dw ⟨#[c]⟩,Dw ⟨#[c']⟩]) u0 (by show _ < ((2:Nat):Int);omega);obtain⟨d,rfl⟩:∃d:Nat,v= .str ⟨#[d]⟩:=by
    simp only [EL,Fo,or_false] at hv;rcases hv with rfl | rfl <;> exact⟨_,rfl⟩
   have l1:=Txt.slice_le z' none (some a);refine⟨_,ev,Ih,_,rfl,?_⟩;generalize Txt.slice z' none (some a)=A at l1⊢;have fin:∀(n:Int)(B:Str),n=0\/n=1->B.length<=z'.length->MulOk ⟨#[d]⟩ n/\A.length+(Txt.mul ⟨#[d]⟩ n).length<=16777216/\z'.length<=16777216/\(A++Txt.mul ⟨#[d]⟩ n).length+B.length<=16777216/\∃u:Str,(j+1=1/\u.length<=21\/1<=j/\u.length<=43)/\A++Txt.mul ⟨#[d]⟩ n++B=u/\∃x,some (Sl.v (Dw ⟨#[d]⟩))=x:=λn B hn hB=>by
    obtain⟨mo,ml⟩:=one d n hn;have e1:(A++Txt.mul ⟨#[d]⟩ n).length=A.length+(Txt.mul ⟨#[d]⟩ n).length:=pd _ _;have e2:(A++Txt.mul ⟨#[d]⟩ n++B).length=A.length+(Txt.mul ⟨#[d]⟩ n).length+B.length:=by rw [pd,e1]
    exact⟨mo,Ih,Ih,Ih,_,Ih,rfl,_,rfl⟩
   exact fin _ _ (by split <;> simp) (Txt.slice_le z' _ _)
  ·rintro δ ⟨z',o3,o4,o5,o6,hl,rfl⟩;walk_at "a";exact q z' Ih
theorem C9:∀k:Fin 1000,(Dk (toString (k.val:Int))).length<=4:=td
theorem r6{k:Nat}(h:k < 10000):(Dk (toString (k:Int))).length<=4:=by
 by_cases z:k < 1000
 ·exact C9 ⟨k,z⟩
 ·exact HU (vz Ih Ih)
theorem Dc(a b c:Str):(Txt.join (Dk "-") [a,b,c]).length<=a.length+b.length+c.length+2:=by
 have h:(Txt.join (Dk "-") [a,b,c]).cps.toList.length=a.cps.toList.length+(b.cps.toList.length+(c.cps.toList.length+1)+1):=by
  rw [show Dk "-"=⟨#[45]⟩ by decide+kernel,show Txt.join ⟨#[45]⟩ [a,b,c]=HB ⟨#[45]⟩ _ from G4 _ _,oQ];show(a.cps.toList++45::(b.cps.toList++45::c.cps.toList)).length=_;simp only [Fs,Dp]
 have e:∀z:Str,z.cps.toList.length=z.length:=λz=>ED;rw [e,e,e,e] at h;omega
def Dd:List Im->(Im->Prop)->Prop:=λds Q=>∃y m n:Int,ds=[.tuple [.int y,.int m,.int n],kF]/\cz y m n/\∀z':Str,z'.length<=1000->Q (.str z')
theorem De(T:Txt K mg t):aA P w K mg base CX0 2 t.a_b t.d_b ["_law_date_here","_law_pack_here"] (bA K Dd):=by
 have G_R:=@ph P w _ _ base _ T;have G_S:=@pj P w _ _ base _ T;have G_W:=@vL P w _ _ base _ T;refine T.F_b.F.okD nK (λds Q h=>?_) (λ_ _ _ _ H O ds Q E hr h=>?_)
 ·obtain⟨y,m,n,rfl,_⟩:=h;rfl
 ·obtain⟨y,m,n,rfl,hd,q⟩:=h;refine'⟨_,?A,?B⟩
  case A=>
   refine' aB ?C ?D
   case C=>exact(yU (i:=2) nK.nd rfl Ik (qI (ay G_W hr T.F_W (ae (dv 0) ar)) bK))
   case' D=>refine' aB ?E ?F
   case E=>exact(bf (i:=3) nK.nd rfl Ik (ay G_R hr T.F_R (ae (dv 1) (ae ag ar))))
   case' F=>refine' aB ?G ?H
   case G=>
    refine' bf (i:=4) nK.nd rfl Ik ?I (hs:=my)
    case I=>exact(ay G_S hr T.F_S (ae (aW jr jA (dv 0) ag) (ae (aW jr jA (dv 0) ag) ar)))
   case' H=>refine' aB ?J ?K
   case J=>
    generalize hG9:HM _ _=eg9;refine' bf (i:=5) nK.nd rfl Ik ?L (hs:=by subst hG9;exact um)
    case' L=>subst hG9
    refine' fe ?M
    case' M=>refine' jY ?N
    case' N=>refine' ae ?O ?P
    case O=>exact(nq (df (jN bh br (dw 2) (df (dv 3)))) (ni ag) nh)
    case' P=>refine' ae ?Q ?R
    case Q=>exact(aF lA lN (jN bh br (dw 2) (df (dv 3))) bK)
    case' R=>refine' ae ?S ?T
    case S=>exact(aF lA lN bK (jN bh br (dw 2) (df (dv 3))))
    case' T=>refine' ae bK ?U
    case' U=>refine' ae bK ?V
    case' V=>refine' ae bK ?W
    case' W=>refine' ae ?X ?Y
    case X=>exact(PE.imp (b8 kB rfl T.n_str j2 (aC (dv 4) aJ)) (aN kO))
    case' Y=>refine' ae ?Z ?a
    case Z=>exact(PE.imp (b8 kB rfl T.n_str j2 (aC (aF bo bB (dv 4) ag) aJ)) (aN kO))
    case' a=>refine' ae ?b ar
    case b=>exact(aF lA lN bK (jN bh br (dw 2) (df (dv 3))))
   case' K=>refine' aB ?c ?d
   case c=>
    refine' B2 (i:=2) (pv 2) (dv 3) ?e
    case' e=>refine' jN bh br (df ?f) ?g
    case f=>
     refine' fe ?h
     case' h=>refine' Aa (df (dv 5)) (df ?i)
     case' i=>refine' fe ?j
     case' j=>refine' jY ?k
     case' k=>refine' ae ?l ?m
     case l=>exact(aF lA lN bK (jN bh br (dw 2) (df (dv 3))))
     case' m=>refine' ae ?n ?o
     case n=>exact(jN bh br (dw 2) (df (ay G_R hr T.F_R (ae (dv 1) (ae ag ar)))))
     case' o=>refine' ae bK ?p
     case' p=>refine' ae ?q ?r
     case q=>exact(aF lA lN bK (jN bh br (dw 2) (df (dv 3))))
     case' r=>refine' ae ?s ar
     case s=>exact(PE.imp (b8 kB rfl T.n_str j2 (aC (PE.imp (b8 lO rfl T.n_int jX (aC (jN bh br (dw 2) (df (dv 3))) aJ)) (aN lP)) aJ)) (aN kO))
    case g=>exact(df (ay G_R hr T.F_R (ae (dv 1) (ae ag ar))))
   case' d=>refine' aO ?t
   case t=>exact(bq (t6 bK (dw 2)))
  case B=>
  clear hr T G_R G_S G_W;simp only [bt,lW,↓iy,↓iH,↓iI,↓iJ,↓iK,↓iL,↓iM,↓iz,↓dY,↓g6,↓jj,↓jk,↓jl,↓jm,↓jn,↓jo,↓g7,↓g8,↓g9,↓hG,↓hJ,↓hU,↓hV,↓hW,↓hX,↓hZ,↓h7,↓ia,↓ib,↓ic,↓ie,↓ig,↓ij,↓ik,↓il,↓ip,↓iq,↓iu,↓iw,↓ix,cK,cL,cO,cN,eF,eG,cM,cP,eI,cU,eJ,eT,cD,dC,aX,dI,cY,cZ,c5,fh,c7,bL,dD,dB,eY,c9,dL,cj,cE,eh,cg,bU,bx,cF,cG,cH,cI,ei,cJ,el,bV,bW,eD,fZ,gc,gf,gh,gi,gj,gk,gm,gn,gp,gq,gr,gs,gu,gw,gx,gy,gz,gA,gB,gC,gD,gE,gF,gG,gH,gI,gJ,gK,gL,gM,gN,gO,gP,gQ,gR,gS,gT,gU,gW,gX,gY,gZ,gb,eZ,ff,dE,cu,fw,fj,dh,di,dj,dn,fg,dz,dA,cm,dF,dG,dH,bR,cW,eU,eV,eL,eM,eN,eO,eQ,eR,cV,eS,fz,dQ,fV,fW,fX,fU,fY,fx,dO,fy,dP,bN,fB,fA,dM,dN,dR,dS,dU,dW,bO,dX,g5,iB,iA,iC,iD,iE,iF,iG,dZ,iN,d3,iP,iQ,iO,iV,iS,iT,iU,cx,bY,iR,iZ,i2,iW,iX,iY,i3,i4,i5,i6,i7,i8,ja,jb,d5,jc,jd,je,i9,jf,jg,jh,ji,d7,d8,d9,ef,bt,fL,fM,fN,fO,fP,fQ,fR,fS,fT,ne_eq,fF,fG,fH,fJ,fK,fC,fD,fE,ck,cX,eX,cQ,cT,cS,cR,bG,bC,aP,bH,bT,bI,Dq,DQ,Dp,DJ,Dx,DR,DZ,DH,Eg,Ei,Ew,Ey,Ez,Du,Dv,DX,DM,DN,DP,exists_eq_left',exists_eq_left,exists_and_left,exists_and_right,D6,D7,Sl.v.injEq,Sl.o.injEq,Sl.k.injEq,Ea,D8,Eb,D1,D9,Dy,and_true,true_and,EA,Ec,exists_const,decide_eq_true_eq,EB,EC,En,Eo,DI,decide_eq_false_iff_not,and_assoc,or_true,true_or,↓reduceIte,if_true,if_false,DV,DW,not_true_eq_false,not_false_eq_true,Et,El,ite_true,ite_false,eq_self,exists_eq,reduceCtorEq,false_and,and_false,or_false,false_or,exists_false,Ej,Ek,bE,EG,EO,Ef,ER,EH,Er,EI,EJ,bM,bX,cn,dJ,fk,cq,fu,fv,beq_self_eq_true,fm,fq,ft,bj,IG];refine⟨y,m,n,rfl,hd,?_⟩;have lm:(Dk "-").length=1:=td
  refine⟨_,rfl,by rw [lm];rfl,by rw [oR];decide,λi i0 i1=>?_⟩;rw [Bg];have hb:=Day.mlen_bd (y:=y) hd.2.2.1 hd.2.2.2.1;obtain⟨y1,y2,m1,m2,n1,n2⟩:=hd;have W:∀i:Int,0<=i->i < 3->∃z:Str,atI (FT Dw [⟨(d4 y.toNat).toArray⟩,⟨(d2 m.toNat).toArray⟩,⟨(d2 n.toNat).toArray⟩]) i=some (.str z)/\z.length<=4/\∃k:Nat,k < 10000/\intText? z=some (k:Int):=λi i0 i1=>by
   obtain⟨nm,hn,en⟩:=CS [⟨(d4 y.toNat).toArray⟩,⟨(d2 m.toNat).toArray⟩,⟨(d2 n.toNat).toArray⟩] i0 (show i < ((3:Nat):Int) by omega);refine⟨nm,en,?_⟩;simp only [EL,Fo,or_false] at hn;rcases hn with rfl | rfl | rfl
   ·exact⟨by show 4<=_;decide,y.toNat,Ih,uE Ih Ih⟩
   ·exact⟨by show 2<=_;decide,m.toNat,Ih,qV ⟨m.toNat,Ih⟩⟩
   ·exact⟨by show 2<=_;decide,n.toNat,Ih,qV ⟨n.toNat,Ih⟩⟩
  obtain⟨p,ep,lp,kv,k1,k2⟩:=W i i0 i1;have l1:(Dk "0").length=1:=td
  have l2:(Dk " ").length=1:=td
  have l3:(Dk "+").length=1:=td
  have g0:=kP (i:=Day.mlen y m) Ih Ih;have g1:=kP (i:=Day.mlen y m+1) Ih Ih;refine⟨m1,m2,_,ep,p,rfl,Ih,_,ep,p,rfl,Ih,_,ep,p,rfl,Ih,g0,g1,_,ep,p,rfl,Ih,_,ep,p,rfl,Ih,λj j0 j1=>?_⟩;obtain⟨r,er,lr,_⟩:=W j j0 j1;refine⟨_,er,_,ep,p,rfl,Ih,_,ep,p,rfl,_,k2,Ih,kP Ih Ih,λg g0 g1=>?_⟩;have l4:=Txt.slice_le p (some 1) none;have dm:=r6 (k:=(Day.mlen y m).toNat) Ih;have dm1:=r6 (k:=(Day.mlen y m+1).toNat) Ih;have dk:=r6 (k:=kv) k1;rw [Gp Ih] at dm dm1;obtain⟨v,ev,hv⟩:=kW (xs:=[Dw (Txt.slice p (some 1) none),Dw (p++Dk "0"),Dw (Dk "0"++p),Dw (Dk "00"),Dw (Dk "13"),Dw (Dk "32"),Dw (Dk (toString (Day.mlen y m))),Dw (Dk (toString (Day.mlen y m+1))),Dw (Dk "-"++p),Dw (Dk " "++p),Dw r,Dw (Dk ""),Dw (Dk "+"++p),Dw (Dk (toString (kv:Int)))]) g0 (by show _ < ((14:Nat):Int);omega);obtain⟨u,rfl,hu⟩:∃u:Str,v= .str u/\u.length<=10:=by
   clear ev;have l5:(Dk "00").length=2:=td
   have l6:(Dk "13").length=2:=td
   have l7:(Dk "32").length=2:=td
   have l8:(Dk "").length=0:=td
   simp only [EL,Fo,or_false] at hv;rcases hv with rfl | rfl | rfl | rfl | rfl | rfl | rfl | rfl | rfl | rfl | rfl | rfl | rfl | rfl <;> exact⟨_,rfl,by(try simp only [pd]);omega⟩
  refine⟨_,ev,?_⟩;obtain⟨j,ej,a,b,c,es,ha,hb,hc⟩:∃j,kg 3 i=some j/\∃a b c:Str,([⟨(d4 y.toNat).toArray⟩,⟨(d2 m.toNat).toArray⟩,⟨(d2 n.toNat).toArray⟩]:List Str).set j u=[a,b,c]/\a.length<=10/\b.length<=10/\c.length<=10:=by
   have a4:(⟨(d4 y.toNat).toArray⟩:Str).length=4:=rfl;have a2:∀k,(⟨(d2 k).toArray⟩:Str).length=2:=λ_=>rfl;rcases(show i=0\/i=1\/i=2 by omega) with rfl | rfl | rfl
   ·exact⟨0,rfl,_,_,_,rfl,hu,by rw [a2];decide,by rw [a2];decide⟩
   ·exact⟨1,rfl,_,_,_,rfl,by rw [a4];decide,hu,by rw [a2];decide⟩
   ·exact⟨2,rfl,_,_,_,rfl,by rw [a4];decide,by rw [a2];decide,hu⟩
  refine⟨j,ej,[a,b,c],by rw [<-es,List.map_set],?_,q _ ?_⟩
  ·rw [lm];show a.length+(b.length+(c.length+0))+3*1<=16777216;omega
  ·exact EY (Dc a b c) Ih
end
theorem vQ:jv (ax oZ) ["_law_script","_law_k","_law_pack_here","_law_date_here","_law_text","_law_turn","_law_things"] ["_law_text"] 1 [] ⟨Fi,[ (Ee ".0",JH),(Ee "_law_text",JH),(Ee "_law_right",Fl)],false,false,[]⟩:= .of
section
variable {P:IE} {w:IF} {K:Dj} {mg:Str->Option Io} {base:IC} {t:ku}
def Df:List Im->(Im->Prop)->Prop:=λds Q=>∃y m n:Int,ds=[.int y,.int m,.int n]/\cz y m n/\Q (.int (jt y m n))
theorem Dg(T:Txt K mg t):aA P w K mg base CX0 4 t.a_L t.d_L ["year","month","day"] (bA K Df):=by
 have G_K:=@vw P w _ _ base _ T;have G_J:=@vm P w _ _ base _ T;refine T.F_L.F.okD Cg (λds Q h=>?_) (λ_ _ _ _ H O ds Q E hr h=>?_)
 ·obtain⟨y,m,n,rfl,_⟩:=h;rfl
 ·obtain⟨y,m,n,rfl,hd,q⟩:=h;refine'⟨_,?A,?B⟩
  case A=>
   refine' aB ?C ?D
   case C=>
    refine' jz ?E ?F jy
    case E=>exact(jx (jw (ay G_K hr T.F_K (ae (dv 0) (ae (dv 1) (ae (dv 2) ar))))))
    case F=>refine' aO AY
   case' D=>refine' aO ?G
   case G=>exact(bq (ay G_J hr T.F_J (ae (dv 0) (ae (dv 1) (ae (dv 2) ar)))))
  case B=>
  clear hr T G_K G_J;simp only [vx,vo,↓iy,↓iH,↓iI,↓iJ,↓iK,↓iL,↓iM,↓iz,↓dY,↓g6,↓jj,↓jk,↓jl,↓jm,↓jn,↓jo,↓g7,↓g8,↓g9,↓hG,↓hJ,↓hU,↓hV,↓hW,↓hX,↓hZ,↓h7,↓ia,↓ib,↓ic,↓ie,↓ig,↓ij,↓ik,↓il,↓ip,↓iq,↓iu,↓iw,↓ix,cK,cL,cO,cN,eF,eG,cM,cP,eI,cU,eJ,eT,cD,dC,aX,dI,cY,cZ,c5,fh,c7,bL,dD,dB,eY,c9,dL,cj,cE,eh,cg,bU,bx,cF,cG,cH,cI,ei,cJ,el,bV,bW,eD,fZ,gc,gf,gh,gi,gj,gk,gm,gn,gp,gq,gr,gs,gu,gw,gx,gy,gz,gA,gB,gC,gD,gE,gF,gG,gH,gI,gJ,gK,gL,gM,gN,gO,gP,gQ,gR,gS,gT,gU,gW,gX,gY,gZ,gb,eZ,ff,dE,cu,fw,fj,dh,di,dj,dn,fg,dz,dA,cm,dF,dG,dH,bR,cW,eU,eV,eL,eM,eN,eO,eQ,eR,cV,eS,fz,dQ,fV,fW,fX,fU,fY,fx,dO,fy,dP,bN,fB,fA,dM,dN,dR,dS,dU,dW,bO,dX,g5,iB,iA,iC,iD,iE,iF,iG,dZ,iN,d3,iP,iQ,iO,iV,iS,iT,iU,cx,bY,iR,iZ,i2,iW,iX,iY,i3,i4,i5,i6,i7,i8,ja,jb,d5,jc,jd,je,i9,jf,jg,jh,ji,d7,d8,d9,ef,bt,fL,fM,fN,fO,fP,fQ,fR,fS,fT,ne_eq,fF,fG,fH,fJ,fK,fC,fD,fE,ck,cX,eX,cQ,cT,cS,cR,bG,bC,aP,bH,bT,bI,Dq,DQ,Dp,DJ,Dx,DR,DZ,DH,Eg,Ei,Ew,Ey,Ez,Du,Dv,DX,DM,DN,DP,exists_eq_left',exists_eq_left,exists_and_left,exists_and_right,D6,D7,Sl.v.injEq,Sl.o.injEq,Sl.k.injEq,Ea,D8,Eb,D1,D9,Dy,and_true,true_and,EA,Ec,exists_const,decide_eq_true_eq,EB,EC,En,Eo,DI,decide_eq_false_iff_not,and_assoc,or_true,true_or,↓reduceIte,if_true,if_false,DV,DW,not_true_eq_false,not_false_eq_true,Et,El,ite_true,ite_false,eq_self,exists_eq,reduceCtorEq,false_and,and_false,or_false,false_or,exists_false,Ej,Ek,bE,EG,EO,Ef,ER,EH,Er,EI,EJ,bM,bX,cn,dJ,fk,cq,fu,fv,beq_self_eq_true,fm,fq,ft,bj,IG];rw [Ii (λz=>z hd)];exact⟨hd.2.2.1,hd.2.2.2.1,q⟩
theorem lX{z:Str}{Q:Im->Prop}:vP [.str z] Q↔z.length<=1000/\Q (.bool true):=⟨λuu22=>by obtain⟨_,e,h⟩:=uu22;cases e;exact h,λh=>⟨_,rfl,h⟩⟩
def F_c:List Im->(Im->Prop)->Prop:=λds Q=>∃ns:List Int,ds=[j3 (ns.map .int)]/\ns.length<=63/\(∀z∈ns,EF z<=1048576)/\Q (.bool true)
def sp_law(K:Dj):Sp:=bA K F_c
theorem start_law{K:Dj}{H:Hp}{a:Ip}{ns:List Int}(hl:ns.length<=63)(hb:∀z∈ns,EF z<=1048576)(hS:aG K H a (ns.map V.int)):sp_law K [.ref a] H (λv _=>v= .bl true) λ_ _ _=>False:=
 ⟨λ_=>False,[j3 (ns.map .int)],λd=>d= .bool true,λ_ z=>z.elim,.cons (.scr (by
  rcases hS with h | h
  ·exact .inl ⟨h,λz=>z⟩
  ·exact .inr (.inr h)) (aj.ints ns)) .nil,⟨ns,rfl,hl,hb,rfl⟩,λd v H' e _ r=>by subst e;cases r;rfl⟩
theorem ok_law(T:Txt K mg t):aA P w K mg base CX0 7 t.a_c t.d_c ["_law_script"] (sp_law K):=by
 have G_Q:=@CP P w _ _ base _ T;have G_R:=@ph P w _ _ base _ T;have G_Z:=@C6 P w _ _ base _ T;have G_V:=@C1 P w _ _ base _ T;have G_W:=@vL P w _ _ base _ T;have G_a:=@C8 P w _ _ base _ T;have G_b:=@De P w _ _ base _ T;have G_Y:=@vO P w _ _ base _ T;have G_M:=@CH P w _ _ base _ T;have G_L:=@Dg P w _ _ base _ T;refine T.F_c.F.okD lU (λds Q h=>?_) (λ_ _ _ _ H O ds Q E hr h=>?_)
 ·obtain⟨ns,rfl,_⟩:=h;rfl
 ·obtain⟨ns,rfl,hl,hb,q⟩:=h;refine'⟨_,?A,?B⟩
  case A=>
   refine' aB ?C ?D
   case C=>
    refine' jz ?E ?F jy
    case E=>exact(jx (jw (PE.imp (bz (qt rfl) rfl T.n_all qu (aC (fe (y6 rfl vQ (df (fe (jY (oC (ds:=[.str "2000-01-01",.str "1999-12-31",.str "2273-10-15",.str "2273-10-16",.str "2273-09-31"]) (by rfl))))) km oq Ce (λ_ _ _ _=>(jU (i:=0) vQ.nd rfl Ik)) (λ_ _ _ _=>ot) (λ_ _ _ _=>(ay G_Z hr T.F_Z (ae (dv 0) ar))))) aJ)) (aN qA))))
    case F=>refine' aO (bq kX)
   case' D=>refine' aB ?G ?H
   case G=>
    refine' qy Gk rfl rfl T.n_range (ae (PE.imp (bz (sM rfl) rfl T.n_max G5 (aC ag (aC (PE.imp (bz (pV rfl) rfl T.n_min Gd (aC (PE.imp (bz qc rfl T.n_len E9 (aC (dv 0) aJ)) (aN Ab)) (aC ag aJ))) (aN nj)) aJ))) (aN nj)) ar) ?I km ?J
    case I=>exact(jU (i:=1) lU.nd rfl Ik)
    case' J=>refine' aB ?K ?L
    case K=>exact(bf (i:=2) lU.nd rfl Ik (ay G_Q hr T.F_Q (ae (dv 0) (ae (dv 1) ar))))
    case' L=>refine' aB ?M ?N
    case M=>
     refine' bf (i:=3) lU.nd rfl Ik ?O (hs:=my)
     case O=>exact(ay G_V hr T.F_V (ae (dv 2) (ae (aW bh br (fe (jY (ae ag (ae ag ar)))) (PE.imp (b8 nY rfl T.n_int jX (aC (ki (lL hr.units) lM (df (ay G_R hr T.F_R (ae (dv 2) (ae ag ar)))) (df ag) (aZ _)) aJ)) (aN ow))) ar)))
    case' N=>refine' aB ?P ?Q
    case P=>
     refine' bf (i:=4) lU.nd rfl Ik ?R (hs:=my)
     case R=>exact(ay G_M hr T.F_M (ae (ay G_L hr T.F_L (ae (aW jr jA (dv 3) ag) (ae (aW jr jA (dv 3) ag) (ae (aW jr jA (dv 3) ag) ar)))) ar))
    case' Q=>refine' aB ?S ?T
    case S=>
     refine' jz ?U ?V jy
     case U=>exact(PW.pt (jS (jx (jw (nB (K':=K) (T:="str") rfl rfl T.n_isinstance kD (df (dv 4)) (lj (v:= .ty "str") rfl T.n_str j2 rfl)))) (jS (jJ (uX hr) uY (dv 4) (ay G_W hr T.F_W (ae (dv 3) ar)) (aZ _)) (kH (jx (jw (ay G_Z hr T.F_Z (ae (dv 4) ar))))))))
     case V=>refine' aO (bq kX)
    case' T=>refine' aB ?W ?X
    case W=>
     refine' qy Gk rfl rfl T.n_range (ae ag ar) ?Y km ?Z
     case Y=>exact(jU (i:=5) lU.nd rfl Ik)
     case' Z=>refine' aO ?a
     case' a=>refine' jz ?b ?c jy
     case b=>exact(PW.pt (jS (jx (jw (ay G_Z hr T.F_Z (ae (ay G_a hr T.F_a (ae (dv 4) (ae (dv 2) ar))) ar)))) (kH (jx (jw (ay G_Z hr T.F_Z (ae (ay G_b hr T.F_b (ae (dv 3) (ae (dv 2) ar))) ar)))))))
     case c=>refine' aO (bq kX)
    case' X=>refine' aB ?d ?e
    case d=>
     generalize hG26:HM _ _=eg26;refine' bf (i:=6) lU.nd rfl Ik ?f (hs:=by subst hG26;exact um)
     case' f=>subst hG26
     refine' fe ?g
     case' g=>refine' jY ?h
     case' h=>refine' ae ?i ?j
     case i=>exact((mr))
     case' j=>refine' ae ?k ?l
     case k=>exact((ag))
     case' l=>refine' ae ?m ?n
     case m=>exact((kX))
     case' n=>refine' ae ?o ?p
     case o=>exact(((dv 3)))
     case' p=>refine' ae ?q ?r
     case q=>exact(((fe (Ai rfl T.n_list xK (aC (dv 3) aJ)))))
     case' r=>refine' ae ?s ?t
     case s=>exact(((lI (ae (dv 4) ar))))
     case' t=>refine' ae ?u ?v
     case u=>exact(((fe (jY (ae (dv 4) ar)))))
     case' v=>refine' ae ?w ?x
     case w=>exact((AR))
     case' x=>refine' ae ?y ?z
     case y=>exact(((B7 (A5 (A4 (dv 4) ag A3)))))
     case' z=>refine' ae ?A0 ?A1
     case A0=>exact((ag))
     case' A1=>refine' ae ?A2 ar
     case A2=>exact(((lI ar)))
    case' e=>refine' aO ?A3
    case' A3=>refine' jz ?A4 ?A5 jy
    case A4=>exact(PW.pt (jS (jJ (kM hr.units) kN (ay G_Y hr T.F_Y (ae (aW bh br (dv 6) (ay G_R hr T.F_R (ae (dv 2) (ae ag ar)))) ar)) (lI (ae bK (ae ag ar))) (aZ _)) (kH (jx (jw (ay G_Z hr T.F_Z (ae (dv 4) ar)))))))
    case A5=>refine' aO (bq kX)
   case H=>refine' aO (bq kX)
  case B=>
  clear hr T G_Q G_R G_Z G_V G_W G_a G_b G_Y G_M G_L;simp only [lX,oU,↓iy,↓iH,↓iI,↓iJ,↓iK,↓iL,↓iM,↓iz,↓dY,↓g6,↓jj,↓jk,↓jl,↓jm,↓jn,↓jo,↓g7,↓g8,↓g9,↓hG,↓hJ,↓hU,↓hV,↓hW,↓hX,↓hZ,↓h7,↓ia,↓ib,↓ic,↓ie,↓ig,↓ij,↓ik,↓il,↓ip,↓iq,↓iu,↓iw,↓ix,cK,cL,cO,cN,eF,eG,cM,cP,eI,cU,eJ,eT,cD,dC,aX,dI,cY,cZ,c5,fh,c7,bL,dD,dB,eY,c9,dL,cj,cE,eh,cg,bU,bx,cF,cG,cH,cI,ei,cJ,el,bV,bW,eD,fZ,gc,gf,gh,gi,gj,gk,gm,gn,gp,gq,gr,gs,gu,gw,gx,gy,gz,gA,gB,gC,gD,gE,gF,gG,gH,gI,gJ,gK,gL,gM,gN,gO,gP,gQ,gR,gS,gT,gU,gW,gX,gY,gZ,gb,eZ,ff,dE,cu,fw,fj,dh,di,dj,dn,fg,dz,dA,cm,dF,dG,dH,bR,cW,eU,eV,eL,eM,eN,eO,eQ,eR,cV,eS,fz,dQ,fV,fW,fX,fU,fY,fx,dO,fy,dP,bN,fB,fA,dM,dN,dR,dS,dU,dW,bO,dX,g5,iB,iA,iC,iD,iE,iF,iG,dZ,iN,d3,iP,iQ,iO,iV,iS,iT,iU,cx,bY,iR,iZ,i2,iW,iX,iY,i3,i4,i5,i6,i7,i8,ja,jb,d5,jc,jd,je,i9,jf,jg,jh,ji,d7,d8,d9,ef,bt,fL,fM,fN,fO,fP,fQ,fR,fS,fT,ne_eq,fF,fG,fH,fJ,fK,fC,fD,fE,ck,cX,eX,cQ,cT,cS,cR,bG,bC,aP,bH,bT,bI,Dq,DQ,Dp,DJ,Dx,DR,DZ,DH,Eg,Ei,Ew,Ey,Ez,Du,Dv,DX,DM,DN,DP,exists_eq_left',exists_eq_left,exists_and_left,exists_and_right,D6,D7,Sl.v.injEq,Sl.o.injEq,Sl.k.injEq,Ea,D8,Eb,D1,D9,Dy,and_true,true_and,EA,Ec,exists_const,decide_eq_true_eq,EB,EC,En,Eo,DI,decide_eq_false_iff_not,and_assoc,or_true,true_or,↓reduceIte,if_true,if_false,DV,DW,not_true_eq_false,not_false_eq_true,Et,El,ite_true,ite_false,eq_self,exists_eq,reduceCtorEq,false_and,and_false,or_false,false_or,exists_false,Ej,Ek,bE,EG,EO,Ef,ER,EH,Er,EI,EJ,bM,bX,cn,dJ,fk,cq,fu,fv,beq_self_eq_true,fm,fq,ft,bj,IG];simp only [kY];simp only [lX,oU,↓iy,↓iH,↓iI,↓iJ,↓iK,↓iL,↓iM,↓iz,↓dY,↓g6,↓jj,↓jk,↓jl,↓jm,↓jn,↓jo,↓g7,↓g8,↓g9,↓hG,↓hJ,↓hU,↓hV,↓hW,↓hX,↓hZ,↓h7,↓ia,↓ib,↓ic,↓ie,↓ig,↓ij,↓ik,↓il,↓ip,↓iq,↓iu,↓iw,↓ix,cK,cL,cO,cN,eF,eG,cM,cP,eI,cU,eJ,eT,cD,dC,aX,dI,cY,cZ,c5,fh,c7,bL,dD,dB,eY,c9,dL,cj,cE,eh,cg,bU,bx,cF,cG,cH,cI,ei,cJ,el,bV,bW,eD,fZ,gc,gf,gh,gi,gj,gk,gm,gn,gp,gq,gr,gs,gu,gw,gx,gy,gz,gA,gB,gC,gD,gE,gF,gG,gH,gI,gJ,gK,gL,gM,gN,gO,gP,gQ,gR,gS,gT,gU,gW,gX,gY,gZ,gb,eZ,ff,dE,cu,fw,fj,dh,di,dj,dn,fg,dz,dA,cm,dF,dG,dH,bR,cW,eU,eV,eL,eM,eN,eO,eQ,eR,cV,eS,fz,dQ,fV,fW,fX,fU,fY,fx,dO,fy,dP,bN,fB,fA,dM,dN,dR,dS,dU,dW,bO,dX,g5,iB,iA,iC,iD,iE,iF,iG,dZ,iN,d3,iP,iQ,iO,iV,iS,iT,iU,cx,bY,iR,iZ,i2,iW,iX,iY,i3,i4,i5,i6,i7,i8,ja,jb,d5,jc,jd,je,i9,jf,jg,jh,ji,d7,d8,d9,ef,bt,fL,fM,fN,fO,fP,fQ,fR,fS,fT,ne_eq,fF,fG,fH,fJ,fK,fC,fD,fE,ck,cX,eX,cQ,cT,cS,cR,bG,bC,aP,bH,bT,bI,Dq,DQ,Dp,DJ,Dx,DR,DZ,DH,Eg,Ei,Ew,Ey,Ez,Du,Dv,DX,DM,DN,DP,exists_eq_left',exists_eq_left,exists_and_left,exists_and_right,D6,D7,Sl.v.injEq,Sl.o.injEq,Sl.k.injEq,Ea,D8,Eb,D1,D9,Dy,and_true,true_and,EA,Ec,exists_const,decide_eq_true_eq,EB,EC,En,Eo,DI,decide_eq_false_iff_not,and_assoc,or_true,true_or,↓reduceIte,if_true,if_false,DV,DW,not_true_eq_false,not_false_eq_true,Et,El,ite_true,ite_false,eq_self,exists_eq,reduceCtorEq,false_and,and_false,or_false,false_or,exists_false,Ej,Ek,bE,EG,EO,Ef,ER,EH,Er,EI,EJ,bM,bX,cn,dJ,fk,cq,fu,fv,beq_self_eq_true,fm,fq,ft,bj,IG]
  refine⟨td,td,td,td,td,[true,true,true,true,true],rfl,?_⟩;rw [Ii Ce];refine⟨_,rfl,?_⟩;generalize hm:(if (if (16:Int) < ((FT Dn ns).length:Int) then 16 else((FT Dn ns).length:Int)) > 1 then if (16:Int) < ((FT Dn ns).length:Int) then 16 else((FT Dn ns).length:Int) else 1)=m;have m16:m<=16:=by
   rw [<-hm]
   repeat' split
   all_goals omega
  have m1:1<=m:=by
   rw [<-hm]
   repeat' split
   all_goals omega
  clear hm;refine⟨Ih,Ih,?_⟩;refine⟨λi δ=>∃(o1 o2 o3 o4 o5 o6:Option Sl),δ=[some (Sl.v (j3 (ns.map .int))),o1,o2,o3,o4,o5,o6],⟨_,_,_,_,_,_,rfl⟩,?_,?_⟩
  ·rintro i z δ hz ⟨o1,o2,o3,o4,o5,o6,rfl⟩;obtain⟨hi,rfl⟩:=qC hz;clear hz;simp only [lX,bt,↓iy,↓iH,↓iI,↓iJ,↓iK,↓iL,↓iM,↓iz,↓dY,↓g6,↓jj,↓jk,↓jl,↓jm,↓jn,↓jo,↓g7,↓g8,↓g9,↓hG,↓hJ,↓hU,↓hV,↓hW,↓hX,↓hZ,↓h7,↓ia,↓ib,↓ic,↓ie,↓ig,↓ij,↓ik,↓il,↓ip,↓iq,↓iu,↓iw,↓ix,cK,cL,cO,cN,eF,eG,cM,cP,eI,cU,eJ,eT,cD,dC,aX,dI,cY,cZ,c5,fh,c7,bL,dD,dB,eY,c9,dL,cj,cE,eh,cg,bU,bx,cF,cG,cH,cI,ei,cJ,el,bV,bW,eD,fZ,gc,gf,gh,gi,gj,gk,gm,gn,gp,gq,gr,gs,gu,gw,gx,gy,gz,gA,gB,gC,gD,gE,gF,gG,gH,gI,gJ,gK,gL,gM,gN,gO,gP,gQ,gR,gS,gT,gU,gW,gX,gY,gZ,gb,eZ,ff,dE,cu,fw,fj,dh,di,dj,dn,fg,dz,dA,cm,dF,dG,dH,bR,cW,eU,eV,eL,eM,eN,eO,eQ,eR,cV,eS,fz,dQ,fV,fW,fX,fU,fY,fx,dO,fy,dP,bN,fB,fA,dM,dN,dR,dS,dU,dW,bO,dX,g5,iB,iA,iC,iD,iE,iF,iG,dZ,iN,d3,iP,iQ,iO,iV,iS,iT,iU,cx,bY,iR,iZ,i2,iW,iX,iY,i3,i4,i5,i6,i7,i8,ja,jb,d5,jc,jd,je,i9,jf,jg,jh,ji,d7,d8,d9,ef,bt,fL,fM,fN,fO,fP,fQ,fR,fS,fT,ne_eq,fF,fG,fH,fJ,fK,fC,fD,fE,ck,cX,eX,cQ,cT,cS,cR,bG,bC,aP,bH,bT,bI,Dq,DQ,Dp,DJ,Dx,DR,DZ,DH,Eg,Ei,Ew,Ey,Ez,Du,Dv,DX,DM,DN,DP,exists_eq_left',exists_eq_left,exists_and_left,exists_and_right,D6,D7,Sl.v.injEq,Sl.o.injEq,Sl.k.injEq,Ea,D8,Eb,D1,D9,Dy,and_true,true_and,EA,Ec,exists_const,decide_eq_true_eq,EB,EC,En,Eo,DI,decide_eq_false_iff_not,and_assoc,or_true,true_or,↓reduceIte,if_true,if_false,DV,DW,not_true_eq_false,not_false_eq_true,Et,El,ite_true,ite_false,eq_self,exists_eq,reduceCtorEq,false_and,and_false,or_false,false_or,exists_false,Ej,Ek,bE,EG,EO,Ef,ER,EH,Er,EI,EJ,bM,bX,cn,dJ,fk,cq,fu,fv,beq_self_eq_true,fm,fq,ft,bj,IG];refine⟨ns,_,rfl,hb,Ih,Ih,?_⟩
   simp only [lX,bt,↓iy,↓iH,↓iI,↓iJ,↓iK,↓iL,↓iM,↓iz,↓dY,↓g6,↓jj,↓jk,↓jl,↓jm,↓jn,↓jo,↓g7,↓g8,↓g9,↓hG,↓hJ,↓hU,↓hV,↓hW,↓hX,↓hZ,↓h7,↓ia,↓ib,↓ic,↓ie,↓ig,↓ij,↓ik,↓il,↓ip,↓iq,↓iu,↓iw,↓ix,cK,cL,cO,cN,eF,eG,cM,cP,eI,cU,eJ,eT,cD,dC,aX,dI,cY,cZ,c5,fh,c7,bL,dD,dB,eY,c9,dL,cj,cE,eh,cg,bU,bx,cF,cG,cH,cI,ei,cJ,el,bV,bW,eD,fZ,gc,gf,gh,gi,gj,gk,gm,gn,gp,gq,gr,gs,gu,gw,gx,gy,gz,gA,gB,gC,gD,gE,gF,gG,gH,gI,gJ,gK,gL,gM,gN,gO,gP,gQ,gR,gS,gT,gU,gW,gX,gY,gZ,gb,eZ,ff,dE,cu,fw,fj,dh,di,dj,dn,fg,dz,dA,cm,dF,dG,dH,bR,cW,eU,eV,eL,eM,eN,eO,eQ,eR,cV,eS,fz,dQ,fV,fW,fX,fU,fY,fx,dO,fy,dP,bN,fB,fA,dM,dN,dR,dS,dU,dW,bO,dX,g5,iB,iA,iC,iD,iE,iF,iG,dZ,iN,d3,iP,iQ,iO,iV,iS,iT,iU,cx,bY,iR,iZ,i2,iW,iX,iY,i3,i4,i5,i6,i7,i8,ja,jb,d5,jc,jd,je,i9,jf,jg,jh,ji,d7,d8,d9,ef,bt,fL,fM,fN,fO,fP,fQ,fR,fS,fT,ne_eq,fF,fG,fH,fJ,fK,fC,fD,fE,ck,cX,eX,cQ,cT,cS,cR,bG,bC,aP,bH,bT,bI,Dq,DQ,Dp,DJ,Dx,DR,DZ,DH,Eg,Ei,Ew,Ey,Ez,Du,Dv,DX,DM,DN,DP,exists_eq_left',exists_eq_left,exists_and_left,exists_and_right,D6,D7,Sl.v.injEq,Sl.o.injEq,Sl.k.injEq,Ea,D8,Eb,D1,D9,Dy,and_true,true_and,EA,Ec,exists_const,decide_eq_true_eq,EB,EC,En,Eo,DI,decide_eq_false_iff_not,and_assoc,or_true,true_or,↓reduceIte,if_true,if_false,DV,DW,not_true_eq_false,not_false_eq_true,Et,El,ite_true,ite_false,eq_self,exists_eq,reduceCtorEq,false_and,and_false,or_false,false_or,exists_false,Ej,Ek,bE,EG,EO,Ef,ER,EH,Er,EI,EJ,bM,bX,cn,dJ,fk,cq,fu,fv,beq_self_eq_true,fm,fq,ft,bj,IG];intro a a0 a1;obtain⟨mo,em,hmo⟩:∃mo:Int,atI [Dn 2273,Dn 9999] (if (a==0)=true then 1 else 0)=some (.int mo)/\(mo=2273\/mo=9999):=by
    split
    ·exact⟨9999,rfl,.inr rfl⟩
    ·exact⟨2273,rfl,.inl rfl⟩
   refine⟨_,em,mo,rfl,hmo,λy m n hd=>?_⟩;simp only [lX,bt,↓iy,↓iH,↓iI,↓iJ,↓iK,↓iL,↓iM,↓iz,↓dY,↓g6,↓jj,↓jk,↓jl,↓jm,↓jn,↓jo,↓g7,↓g8,↓g9,↓hG,↓hJ,↓hU,↓hV,↓hW,↓hX,↓hZ,↓h7,↓ia,↓ib,↓ic,↓ie,↓ig,↓ij,↓ik,↓il,↓ip,↓iq,↓iu,↓iw,↓ix,cK,cL,cO,cN,eF,eG,cM,cP,eI,cU,eJ,eT,cD,dC,aX,dI,cY,cZ,c5,fh,c7,bL,dD,dB,eY,c9,dL,cj,cE,eh,cg,bU,bx,cF,cG,cH,cI,ei,cJ,el,bV,bW,eD,fZ,gc,gf,gh,gi,gj,gk,gm,gn,gp,gq,gr,gs,gu,gw,gx,gy,gz,gA,gB,gC,gD,gE,gF,gG,gH,gI,gJ,gK,gL,gM,gN,gO,gP,gQ,gR,gS,gT,gU,gW,gX,gY,gZ,gb,eZ,ff,dE,cu,fw,fj,dh,di,dj,dn,fg,dz,dA,cm,dF,dG,dH,bR,cW,eU,eV,eL,eM,eN,eO,eQ,eR,cV,eS,fz,dQ,fV,fW,fX,fU,fY,fx,dO,fy,dP,bN,fB,fA,dM,dN,dR,dS,dU,dW,bO,dX,g5,iB,iA,iC,iD,iE,iF,iG,dZ,iN,d3,iP,iQ,iO,iV,iS,iT,iU,cx,bY,iR,iZ,i2,iW,iX,iY,i3,i4,i5,i6,i7,i8,ja,jb,d5,jc,jd,je,i9,jf,jg,jh,ji,d7,d8,d9,ef,bt,fL,fM,fN,fO,fP,fQ,fR,fS,fT,ne_eq,fF,fG,fH,fJ,fK,fC,fD,fE,ck,cX,eX,cQ,cT,cS,cR,bG,bC,aP,bH,bT,bI,Dq,DQ,Dp,DJ,Dx,DR,DZ,DH,Eg,Ei,Ew,Ey,Ez,Du,Dv,DX,DM,DN,DP,exists_eq_left',exists_eq_left,exists_and_left,exists_and_right,D6,D7,Sl.v.injEq,Sl.o.injEq,Sl.k.injEq,Ea,D8,Eb,D1,D9,Dy,and_true,true_and,EA,Ec,exists_const,decide_eq_true_eq,EB,EC,En,Eo,DI,decide_eq_false_iff_not,and_assoc,or_true,true_or,↓reduceIte,if_true,if_false,DV,DW,not_true_eq_false,not_false_eq_true,Et,El,ite_true,ite_false,eq_self,exists_eq,reduceCtorEq,false_and,and_false,or_false,false_or,exists_false,Ej,Ek,bE,EG,EO,Ef,ER,EH,Er,EI,EJ,bM,bX,cn,dJ,fk,cq,fu,fv,beq_self_eq_true,fm,fq,ft,bj,IG];have nn:=vE hd;have lt:jt y m n < aQ 10000:=by
    have h1:=nC (a:=y) (b:=10000) (by have:=hd.2.1;omega);have h2:=qO y;have h3:=oM (y:=y) hd.2.2.1 hd.2.2.2.1;have h4:=hd.2.2.2.2.2;unfold jt;omega
   have D:j6 (jt y m n) y m n:=⟨hd.2.2.1,hd.2.2.2.1,hd.2.2.2.2.1,hd.2.2.2.2.2,rfl⟩;refine⟨y,m,n,rfl,hd,_,rfl,nn,lt,λy' m' n' D'=>?_⟩;obtain⟨rfl,rfl,rfl⟩:=D.uniq D';refine⟨true,rfl,(λx h=>by cases h),?_⟩;rw [Ii Ce];refine⟨y,m,n,rfl,hd,_,rfl,rfl,?_⟩;rw [cq,Ii Il];have hz:(jI y m n).length<=1000:=by rw [oR];decide
   generalize hT:jI y m n=tx at*;simp only [lX,bt,↓iy,↓iH,↓iI,↓iJ,↓iK,↓iL,↓iM,↓iz,↓dY,↓g6,↓jj,↓jk,↓jl,↓jm,↓jn,↓jo,↓g7,↓g8,↓g9,↓hG,↓hJ,↓hU,↓hV,↓hW,↓hX,↓hZ,↓h7,↓ia,↓ib,↓ic,↓ie,↓ig,↓ij,↓ik,↓il,↓ip,↓iq,↓iu,↓iw,↓ix,cK,cL,cO,cN,eF,eG,cM,cP,eI,cU,eJ,eT,cD,dC,aX,dI,cY,cZ,c5,fh,c7,bL,dD,dB,eY,c9,dL,cj,cE,eh,cg,bU,bx,cF,cG,cH,cI,ei,cJ,el,bV,bW,eD,fZ,gc,gf,gh,gi,gj,gk,gm,gn,gp,gq,gr,gs,gu,gw,gx,gy,gz,gA,gB,gC,gD,gE,gF,gG,gH,gI,gJ,gK,gL,gM,gN,gO,gP,gQ,gR,gS,gT,gU,gW,gX,gY,gZ,gb,eZ,ff,dE,cu,fw,fj,dh,di,dj,dn,fg,dz,dA,cm,dF,dG,dH,bR,cW,eU,eV,eL,eM,eN,eO,eQ,eR,cV,eS,fz,dQ,fV,fW,fX,fU,fY,fx,dO,fy,dP,bN,fB,fA,dM,dN,dR,dS,dU,dW,bO,dX,g5,iB,iA,iC,iD,iE,iF,iG,dZ,iN,d3,iP,iQ,iO,iV,iS,iT,iU,cx,bY,iR,iZ,i2,iW,iX,iY,i3,i4,i5,i6,i7,i8,ja,jb,d5,jc,jd,je,i9,jf,jg,jh,ji,d7,d8,d9,ef,bt,fL,fM,fN,fO,fP,fQ,fR,fS,fT,ne_eq,fF,fG,fH,fJ,fK,fC,fD,fE,ck,cX,eX,cQ,cT,cS,cR,bG,bC,aP,bH,bT,bI,Dq,DQ,Dp,DJ,Dx,DR,DZ,DH,Eg,Ei,Ew,Ey,Ez,Du,Dv,DX,DM,DN,DP,exists_eq_left',exists_eq_left,exists_and_left,exists_and_right,D6,D7,Sl.v.injEq,Sl.o.injEq,Sl.k.injEq,Ea,D8,Eb,D1,D9,Dy,and_true,true_and,EA,Ec,exists_const,decide_eq_true_eq,EB,EC,En,Eo,DI,decide_eq_false_iff_not,and_assoc,or_true,true_or,↓reduceIte,if_true,if_false,DV,DW,not_true_eq_false,not_false_eq_true,Et,El,ite_true,ite_false,eq_self,exists_eq,reduceCtorEq,false_and,and_false,or_false,false_or,exists_false,Ej,Ek,bE,EG,EO,Ef,ER,EH,Er,EI,EJ,bM,bX,cn,dJ,fk,cq,fu,fv,beq_self_eq_true,fm,fq,ft,bj,IG];refine⟨hz,λj δ=>∃(p5 p6:Option Sl),δ=[some (Sl.v (j3 (FT Dn ns))),some (Sl.v (Dn (0+(i:Int)))),some (Sl.v kF),some (Sl.v (EV [Dn y,Dn m,Dn n])),some (Sl.v (Dw tx)),p5,p6],⟨_,_,rfl⟩,?_,?_⟩
   ·rintro j z δ hj ⟨p5,p6,rfl⟩;obtain⟨hj,rfl⟩:=qC hj;walk_at "a";refine⟨tx,rfl,by rw [<-hT,oR];decide,λz1 h1=>⟨z1,rfl,h1,?_⟩⟩;refine⟨_,rfl,?_⟩;rw [Ii Ce];refine⟨y,m,n,rfl,hd,λz2 h2=>⟨z2,rfl,h2,?_⟩⟩;refine⟨_,rfl,?_⟩;rw [Ii Ce];exact⟨_,rfl⟩
   ·rintro δ ⟨p5,p6,rfl⟩;simp only [lX,bt,oU,cx,↓iy,↓iH,↓iI,↓iJ,↓iK,↓iL,↓iM,↓iz,↓dY,↓g6,↓jj,↓jk,↓jl,↓jm,↓jn,↓jo,↓g7,↓g8,↓g9,↓hG,↓hJ,↓hU,↓hV,↓hW,↓hX,↓hZ,↓h7,↓ia,↓ib,↓ic,↓ie,↓ig,↓ij,↓ik,↓il,↓ip,↓iq,↓iu,↓iw,↓ix,cK,cL,cO,cN,eF,eG,cM,cP,eI,cU,eJ,eT,cD,dC,aX,dI,cY,cZ,c5,fh,c7,bL,dD,dB,eY,c9,dL,cj,cE,eh,cg,bU,bx,cF,cG,cH,cI,ei,cJ,el,bV,bW,eD,fZ,gc,gf,gh,gi,gj,gk,gm,gn,gp,gq,gr,gs,gu,gw,gx,gy,gz,gA,gB,gC,gD,gE,gF,gG,gH,gI,gJ,gK,gL,gM,gN,gO,gP,gQ,gR,gS,gT,gU,gW,gX,gY,gZ,gb,eZ,ff,dE,cu,fw,fj,dh,di,dj,dn,fg,dz,dA,cm,dF,dG,dH,bR,cW,eU,eV,eL,eM,eN,eO,eQ,eR,cV,eS,fz,dQ,fV,fW,fX,fU,fY,fx,dO,fy,dP,bN,fB,fA,dM,dN,dR,dS,dU,dW,bO,dX,g5,iB,iA,iC,iD,iE,iF,iG,dZ,iN,d3,iP,iQ,iO,iV,iS,iT,iU,cx,bY,iR,iZ,i2,iW,iX,iY,i3,i4,i5,i6,i7,i8,ja,jb,d5,jc,jd,je,i9,jf,jg,jh,ji,d7,d8,d9,ef,bt,fL,fM,fN,fO,fP,fQ,fR,fS,fT,ne_eq,fF,fG,fH,fJ,fK,fC,fD,fE,ck,cX,eX,cQ,cT,cS,cR,bG,bC,aP,bH,bT,bI,Dq,DQ,Dp,DJ,Dx,DR,DZ,DH,Eg,Ei,Ew,Ey,Ez,Du,Dv,DX,DM,DN,DP,exists_eq_left',exists_eq_left,exists_and_left,exists_and_right,D6,D7,Sl.v.injEq,Sl.o.injEq,Sl.k.injEq,Ea,D8,Eb,D1,D9,Dy,and_true,true_and,EA,Ec,exists_const,decide_eq_true_eq,EB,EC,En,Eo,DI,decide_eq_false_iff_not,and_assoc,or_true,true_or,↓reduceIte,if_true,if_false,DV,DW,not_true_eq_false,not_false_eq_true,Et,El,ite_true,ite_false,eq_self,exists_eq,reduceCtorEq,false_and,and_false,or_false,false_or,exists_false,Ej,Ek,bE,EG,EO,Ef,ER,EH,Er,EI,EJ,bM,bX,cn,dJ,fk,cq,fu,fv,beq_self_eq_true,fm,fq,ft,bj,IG];refine⟨[(.inr tx,.int 1)],rfl,by show 1<=15;decide,λp hp=>by rw [List.mem_singleton.mp hp],[tx],rfl,λg g0 g1=>?_⟩
    obtain⟨v,ev,hv⟩:=kW (xs:=[PyData.none,Dn 7,GX true,EV [Dn y,Dn m,Dn n],Fz [Dn y,Dn m,Dn n],EV [Dw tx],Fz [Dw tx],PyData.dict [],oJ [tx] [.int 1],Dn 0,EV []]) g0 (by show _ < ((11:Nat):Int);omega);have ha:pf v/\k8 v=none:=by
     clear ev;simp only [EL,Fo,or_false] at hv;rcases hv with rfl | rfl | rfl | rfl | rfl | rfl | rfl | rfl | rfl | rfl | rfl <;> exact⟨And.intro (λx h=>by cases h) (λx h=>by cases h),rfl⟩
    have sr:FY (EV [Dw (Dk "refused"),Dn 0])=true:=td
    refine⟨v,ev,v,rfl,ha.1,?_⟩;have e:j7 v=EV [Dw (Dk "refused"),Dn 0]:=by unfold j7;rw [ha.2]
    dsimp only;rw [e,G9 _ (Fd sr),Ii Ce];exact⟨sr,sr,hz,_,rfl⟩
  ·rintro δ ⟨o1,o2,o3,o4,o5,o6,rfl⟩;walk_at "a";exact q
end
end K03
namespace PySem.W.Fast
def tw8343297659434655092:=0
def tw9507292924534984432:=0
def tw5404734266622581366:=0
def tw2074017835634300842:=0
def tw3848825395944290709:=0
def tw12970131543009659476:=0
def tw15502554141396253391:=0
def tw4949247224740114531:=0
def tw10333157167257996129:=0
def tw3807820265899395985:=0
def tw5462474562564688023:=0
def tw1187397322128003591:=0
def tw11073600207512817518:=0
def tw6218332371285800363:=0
def tw2170820010428339158:=0
def tw5162123264080741666:=0
def tw7867159519293908194:=0
def tw5961396659839552714:=0
def tw4243414159161537805:=0
def tw15598755485080485792:=0
def tw961838665259927919:=0
def tw10834279077340518352:=0
def tw4041000960126609239:=0
def tw12614018386594765072:=0
def tw1556047781476047649:=0
def tw3944172940028889073:=0
def tw2720761719439107875:=0
def tw9541277757491602611:=0
def tw1247778486212164341:=0
def tw11144353290192598506:=0
def tw17986705006485248770:=0
def tw1995130692136408309:=0
def tw12126130360605129296:=0
def tw6727131347428382349:=0
def tw10051584315854202342:=0
def tw5796719455104168334:=0
def tw17325382770808058117:=0
def tw14256715556599417123:=0
def tw7606108229142881427:=0
def tw12913383155377085215:=0
def tw160459131481755461:=0
def tw5830001925571145905:=0
def tw4382957099017831343:=0
def tw7632972013749924974:=0
def tw868153331620076944:=0
def tw9521651711247565637:=0
def tw11434728664030836273:=0
def tw15437984133296319319:=0
def tw10235053493089409987:=0
def tw8017368941686847981:=0
def tw2801950258988283949:=0
def tw90200619212333820:=0
def tw6108021045113989341:=0
def tw2877045855649572434:=0
def tw13079720160049527110:=0
def tw2922411671942206015:=0
def tw8824954682279631348:=0
def tw2672067240305357095:=0
def tw15170836045819856240:=0
def tw4439592740599602713:=0
def tw1878583359917357300:=0
def tw14230636602340850642:=0
def tw15994710070584987309:=0
def tw2327297137152773107:=0
def tw1147171915358634567:=0
def tw8912619971773398003:=0
def tw13998206214231583333:=0
def tw10716650387337808755:=0
def tw8181833947778171480:=0
def tw2074014262473660964:=0
def tw4210195432632415540:=0
def tw15572017008151931504:=0
def tw936604040353672564:=0
def tw9053291296835139507:=0
def tw13565981452358290140:=0
def tw14614315847463251415:=0
def tw7475184277210140320:=0
def tw9161051251651630937:=0
def tw3946660806833033686:=0
def tw3254802052407252083:=0
def tw3878326877102135551:=0
def tw7677263893921741573:=0
def tw13814842111056626927:=0
def tw9451813039959633649:=0
def tw16717454972105142:=0
def tw13395749246127842747:=0
def tw12784160348750517328:=0
def tw3084133881238014878:=0
def tw13766501065790260837:=0
def tw15322035016140319141:=0
def tw14021520519745472636:=0
def tw876265052353969330:=0
def tw2785367420533114461:=0
def tw2044552469937572175:=0
def tw18051912814016276600:=0
def tw830139961800576921:=0
def tw6075407274098856023:=0
def tw7251239139405940273:=0
def tw1744287046835735802:=0
def tw6601715773868812756:=0
def tw17003315615708460291:=0
def tw16849575690769600851:=0
def tw5287594359288937327:=0
def tw6615334183211704823:=0
def tw18009787009790927725:=0
def tw3922924167662931419:=0
def tw6243258087267294181:=0
def tw3177512524999260507:=0
def tw15838960093014372212:=0
def tw9954937670142643960:=0
def tw1588843817429636389:=0
def tw12082177062172252992:=0
def tw18038289608463921868:=0
def tw13837392768001398946:=0
def tw2019492435026285887:=0
def tw7500245740169816499:=0
def tw5105086053230339268:=0
def tw3809789607391160813:=0
def tw6701427371893312683:=0
def tw6479272233058024094:=0
def tw7297123696802839755:=0
def tw635365380734570919:=0
def tw5842041516452375213:=0
def tw4950993256241084267:=0
def tw3031501843178904794:=0
def tw17325710894610982620:=0
def tw9167915114655006296:=0
def tw362011960281053055:=0
def tw14478328796186593286:=0
def tw18189804299124538308:=0
def tw4514482040312168766:=0
def tw5818975155601966204:=0
def tw13096194288555318472:=0
def tw14559074916987217120:=0
def tw15093348773939140259:=0
def tw10383940219145409070:=0
def tw5430856126014713042:=0
def tw6856182876664278636:=0
def tw4481194739507862218:=0
def tw10021373426228397299:=0
def tw5623689707838743873:=0
def tw10619899791693204744:=0
def tw937515558795245038:=0
def tw11005121365769568333:=0
def tw7525278856483901912:=0
def tw468816120121290267:=0
def tw15318522345924471297:=0
def tw4446576078508079217:=0
def tw217380563247664949:=0
def tw4506591129803800064:=0
def tw17300351826379555907:=0
def tw16620563536919407897:=0
def tw10733005661035805989:=0
def tw5530522320069570602:=0
def tw3926992155802443876:=0
def tw15577109383491153420:=0
def tw6835582671031447468:=0
def tw5344219243093223754:=0
def tw4025129937424867140:=0
def tw12854754674023694985:=0
def tw7873743189193026676:=0
def tw5840985990606159835:=0
def tw5343063247676579289:=0
def tw6890124803407823863:=0
def tw17129794590992244068:=0
def tw9012754282881714887:=0
def tw5941360885272747241:=0
def tw16965871528398039667:=0
def tw16660573938473504778:=0
def tw13077796099127512071:=0
def tw12632426982840809486:=0
def tw11728272772160130495:=0
def tw3508564934992823676:=0
def tw2282191682634107357:=0
def tw15725747291343557057:=0
def tw15078916476682342012:=0
def tw224848998650502378:=0
def tw4899362504792418187:=0
def tw9451269564104891287:=0
def tw8362194553932689125:=0
def tw7498943402131004514:=0
def tw492831077616332903:=0
def tw18122748693136357069:=0
def tw8047546444599811865:=0
def tw15391147914304714583:=0
def tw14139834026314541349:=0
def tw11355283771587029821:=0
def tw1910461025690392516:=0
def tw14802298354708928871:=0
def tw13017943012408209915:=0
def tw10398416148588147182:=0
def tw741257614186762758:=0
def tw7007233357214201499:=0
def tw16808793257156988419:=0
def tw11807588150228000612:=0
def tw14965377404191050732:=0
def tw9180216118422190478:=0
def tw11851568986465319989:=0
def tw6593912052048310324:=0
def tw801381569432575897:=0
def tw18320001970045966055:=0
def tw17771602599989463554:=0
def tw7770055389668237085:=0
def tw7602815259201958109:=0
def tw3132579709638799:=0
def tw5520657214507494119:=0
def tw4965746100525063416:=0
def tw1401122460075391815:=0
def tw5572313875332632748:=0
def tw9734051380054757503:=0
def tw6946523705378458813:=0
def tw1713417809834974889:=0
def tw18181985874750429984:=0
def tw6086654315219383241:=0
def tw4628224467960413497:=0
def tw7849533593277323724:=0
def tw9089535898724141403:=0
def tw10496882581142251383:=0
def tw3856372953294996914:=0
def tw18198351233300740753:=0
def tw13167520917324901299:=0
def tw4610328085512128379:=0
def tw6883495577012298876:=0
def tw1826057520861486230:=0
def tw16832879189848530539:=0
def tw1874774717685207488:=0
def tw16777860953831248264:=0
def tw17910198586722573802:=0
def tw14790762725482591516:=0
def tw2384415805299980848:=0
def tw4381649321778165536:=0
def tw14975832511277445266:=0
def tw580579830975758376:=0
def tw493044900538369320:=0
def tw4254991590282785693:=0
def tw17657305785501394542:=0
def tw17303859603415941944:=0
def tw17259335417316469595:=0
def tw16649353927601671594:=0
def tw15846383145206830179:=0
def tw14511438977112148864:=0
def tw14310824242856445698:=0
def tw13017415200975599237:=0
def tw11865417408405966533:=0
def tw2065342244594128994:=0
def tw4555878083800679856:=0
def tw6234868025526116598:=0
def tw15145181472652668409:=0
def tw6887391815861904165:=0
def tw18198064725960349797:=0
def tw18116216394947374226:=0
def tw16830923655633249998:=0
def tw10792449840512461928:=0
def tw7666764750913435366:=0
def tw17693692245115541744:=0
def tw18104996527133580090:=0
def tw11983547386473066192:=0
def tw9767036604531534139:=0
def tw7370689644921531982:=0
def tw9376009415905037344:=0
def tw12161323476711969735:=0
def tw12584690095481477654:=0
def tw9132651746038076412:=0
def tw7821664710148283551:=0
def tw10634608571704920910:=0
def tw10326358426431208446:=0
def tw16954105250384401700:=0
def tw10232273413796253014:=0
def tw8739916351958719640:=0
def tw4502147482317530006:=0
def tw4430153338771375630:=0
def tw3062451485841474788:=0
def tw1906880609278934444:=0
def tw16292192805890620378:=0
def tw15022693447855327669:=0
def tw14161221233230154286:=0
def tw12983810051382767233:=0
def tw12171808178044028240:=0
def tw1189492367525032982:=0
def tw10711980543347006782:=0
def tw1305460156211856246:=0
def tw930416352617613189:=0
def tw8005286721095247332:=0
def tw6738922758402472217:=0
def tw6135396424448381358:=0
def tw2995638797306211811:=0
def tw16737480422252060424:=0
def tw16128694407850224266:=0
def tw15829478697851431716:=0
def tw15037391621489730795:=0
def tw1365999449928038480:=0
def tw12869360730762402176:=0
def tw11449767003252219760:=0
def tw5458824214192434936:=0
def tw6898163531935453023:=0
def tw5904724380399727558:=0
def tw5888618264911050851:=0
def tw3751424864862451485:=0
def tw3700606222767829389:=0
def tw1897116822837954027:=0
def tw17246385405615751485:=0
def tw16952025077058195587:=0
def tw15611952966430289252:=0
def tw15459990158202537344:=0
def tw10244151815156238578:=0
def tw9899944132674421596:=0
def tw8989651911688504357:=0
def tw7426638187905774142:=0
def tw7321593376625388493:=0
def tw495198422427297422:=0
def tw4132875886309906764:=0
def tw16623714819552289122:=0
def tw1540866018304708090:=0
def tw14667056202631615573:=0
def tw13969516099435756949:=0
def tw11913616864446481236:=0
def tw11827690528046115474:=0
def tw9955942606669709656:=0
def tw9481322360388259915:=0
def tw9404598976774155093:=0
def tw8951001317408022216:=0
def tw877541750835433130:=0
def tw8721553884411187524:=0
def tw8654486475813989711:=0
def tw8650623821182721521:=0
def tw8616125035615483901:=0
def tw8557356008926854951:=0
def tw8188635609127894777:=0
def tw8178346702215483547:=0
def tw8047635228795961139:=0
def tw7831016825542857511:=0
def tw7593583042381263714:=0
def tw7329378196341218747:=0
def tw7187520267404103726:=0
def tw7086974196976413274:=0
def tw681888347877669113:=0
def tw6583287855049615222:=0
def tw6079748183916732327:=0
def tw5962713802571446720:=0
def tw5921218596611890480:=0
def tw5917674415674735377:=0
def tw5752618299353890134:=0
def tw5221531779283401349:=0
def tw5218643347596670323:=0
def tw5201426230436021884:=0
def tw4422922114596333024:=0
def tw4318240516730477461:=0
def tw4163361718809757662:=0
def tw4071031059507770377:=0
def tw3708018652223158269:=0
def tw3603989535694503705:=0
def tw3429614062884844390:=0
def tw3174766176518407244:=0
def tw2585209839345917596:=0
def tw256875875175116789:=0
def tw2224527534848134932:=0
def tw2123939161668281473:=0
def tw18287686213809247014:=0
def tw1823703753553118164:=0
def tw18028528469738549860:=0
def tw17835797825539951349:=0
def tw17625149370808705311:=0
def tw17541707138230918390:=0
def tw17451362210027584261:=0
def tw17431362918945169994:=0
def tw17318468533183059849:=0
def tw16768609395899045137:=0
def tw16598018045285977384:=0
def tw16262533603423937788:=0
def tw15894737881009123806:=0
def tw15866944068359626428:=0
def tw15843521577519251955:=0
def tw15774571436449816072:=0
def tw15765690611046294917:=0
def tw15525908958277249976:=0
def tw15154279056691215900:=0
def tw15115725878766407967:=0
def tw15097768853594547097:=0
def tw15038891977561002365:=0
def tw14846240934255865737:=0
def tw14432353885969614651:=0
def tw14329229211113537882:=0
def tw13873994536553743181:=0
def tw13684046189088499267:=0
def tw13641654657693464931:=0
def tw13629248081062975720:=0
def tw12948418691176747212:=0
def tw1294161060850956430:=0
def tw12199094567337984948:=0
def tw12198345992057786322:=0
def tw11945059643794997360:=0
def tw11925784224575071698:=0
def tw11861355201281593181:=0
def tw1162926913777957861:=0
def tw11235816363386196884:=0
def tw11065728709593965381:=0
def tw10915357507609645794:=0
def tw10671989033794140463:=0
def tw10621149127194157139:=0
def tw10542861546956514028:=0
def tw10010857909838794802:=0
end PySem.W.Fast
open PySem PySem.W PyProof.Rows
local macro_rules | `(tactic| walk_at "f")=>`(tactic| (refine' L2.DfT.of ?a ?l ?c ?k;(case a=>k_is);(case l=>k_is);(case c=>k_is);(case k=>k_is)))
local macro_rules | `(tactic| walk_at "m")=>`(tactic| (refine' L2.DmT.of ?a ?i ?l ?c ?k;(case a=>k_is);(case i=>k_is);(case l=>k_is);(case c=>k_is);(case k=>k_is)))
set_option maxRecDepth 100000 in
theorem PySem.Challenge.cw_goneday_k03_days_as_texts_holds : PySem.Challenge.rw_goneday_k03_days_as_texts.Holds := by
 w_on;o_law;k_head;(case hw=>w_witness2)
 k_fill
 refine L2.walk_ofBK (l:=PySem.Challenge.rw_goneday_k03_days_as_texts) (n:=63) (k:=7) (x:="_law_script") (CX:=L2.CX0) (sp:=K03.sp_law) rfl Ce rfl ⟨rfl,Ce,Ce⟩ (λw h Y=>PySem.W.kIn_of Y) ?F ?S ?C
 case F=>
  intro w mg fa h KX G hmg;have T:∃t,K03.Txt (L2.KOf KX) mg t:=by
   dsimp only [L2.KOf];refine' K03.txt_mk KX G ?za ?zb ?zc ?zd ?ze ?zf ?zg ?zh ?zi ?zj ?zk ?zl ?zm ?zn ?zo ?zp ?zq ?zr ?zs ?zt ?zu ?zv ?zw ?zx ?zy ?zz ?zA ?zB ?zC ?zD ?zE ?zF ?zG ?zH ?zI ?zJ ?zK ?zL ?zM ?zN ?zO ?zP ?zQ ?zR ?zS ?zT ?zU ?zV ?zW ?zX ?zY ?zZ ?ya ?yb ?yc ?yd ?ye ?yf ?yg ?yh ?yi ?yj ?yk ?yl ?ym ?yn ?yo ?yp ?yq ?yr ?ys ?yt ?yu ?yv ?yw ?yx ?yy ?yz ?yA ?yB ?yC ?yD ?yE ?yF ?yG ?yH ?yI ?yJ ?yK
   (case zb | zc | zd | ze | zf | zg | zh | zi | zj | zk | zl | zm | zn | zo | zp | zq | zr | zs | zt | zu | zv | zw | zx | zy | zz | zA | zB | zC=>walk_at "f")
   (case zD | zE=>k_is)
   (case zF=>exact⟨_,rfl⟩)
   (case zG | zH=>k_is)
   (case zI=>first | (repeat (first | exact .nil | refine .cons ⟨_,rfl⟩ ?_)))
   (case zJ=>decide)
   (case zK=>k_is)
   (case zL=>exact⟨_,rfl⟩)
   (case zM=>k_is)
   (case zN=>exact⟨_,rfl⟩)
   (case zO=>k_is)
   (case zP=>exact⟨_,rfl⟩)
   (case zQ=>k_is)
   (case zR=>exact⟨_,rfl⟩)
   (case zS | zT=>k_is)
   (case zU=>exact⟨_,rfl⟩)
   (case zV | zW | zX | zY | zZ | ya | yb | yc | yd | ye=>k_is)
   (case yg | yh | yi | yj | yk | yl | ym | yn | yo | yp | yq | yr | ys | yt | yu | yv | yw | yx=>first | k_is | k_exc | kit_is)
   (case yy | yz | yA | yB | yC | yD | yE | yF | yG | yH | yI | yJ | yK=>k_is)
   (case za=>walk_at "m")
   (case yf=>refine'⟨?a,?b,?c,?d⟩;(case a=>kernel_rfl);(case b=>k_is);(case c=>k_is);(case d=>k_is))
  obtain⟨t,T⟩:=T;have e0:=hmg.symm.trans T.F_c.m;cases e0;exact⟨t.d_c,T.bt_c,λbase kb nb=>K03.ok_law T⟩
 case S=>exact λK H a ns hl hb hO hS=>K03.start_law hl hb hS
 case C=>exact λ_ _ _ _ z=>z
