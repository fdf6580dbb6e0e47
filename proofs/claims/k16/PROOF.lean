import PyProof.Rows.All
import Wide.All
import OpenK.AllK
import Wide.FinOn
import Lean
import PyProof.EqAt
import PyProof.EqKinds
import PyProof.TupleCall
import KE.KUnpack
import PyProof.StrWalks
import PyProof.Rows.SortStr
import PyProof.FactsAll.dict_1
import PyProof.FactsAll.subtypes_3
import PyProof.FactsAll.subtypes_4
import PyProof.StrLawsIn
import PyProof.ListMulRoad
import PyProof.FactsAll.tuple
import PyProof.FactsAll.str
import KE.KIntText
import PyProof.StrBlockH
import PyProof.Rows.FStr
import PyProof.StrLawsTight
import KE.KDictSum
import PyProof.StrBlock2
import PyProof.Rows.SetFrom
import KE.KSortTup
import KE.KSortKey
import PyProof.Rows.CallKwBuiltin
import PyProof.Rows.Range3
import PyProof.ListRange
import PyProof.EnumFor
import PyProof.Rows.EnumRows
import PyProof.ZipIter
import PyProof.AutoSeq1
import PyProof.AttrMissHeap
import KE.KDictOf
import KE.KEqDict
import PySem.Challenge.RW_goneday_k16_by_makers
open PySem.Str renaming ofString→Jc,ofString→Je
open PySem.W renaming Frag→Jd,fnOf→Ji,nsIn→Jo,keepIn→Jq,codeIn→Js,mg_of→Jv,mg_none_of→JZ,findIn→Kr,emptyDict→KJ,instObj→K6,hasDictIn→Me,plainGet→Mn,methodObj→MV,plainOver→MW,takerIn→Nm,makesIn→Nn,cellsFrom_some→Nv,lookIn→NB,callWith_K→N2,handedIn→Oi,OpenLaw→OB,WalkO→OM,isFn→OV
open List renaming length_map→Jf,map_cons→Jj,getElem?_eq_some_iff→Jr,mem_map→Jw,replicate→Jx,mem_cons→Jy,size_toArray→JA,getElem?_map→JB,length_cons→JC,getElem?_eq_getElem→JE,map→JF,map_map→JH,getElem?_set_ne→JI,mem_filter→JK,mem_append→JM,mem_of_getElem?→JO,take_of_length_le→JQ,mem_cons_of_mem→JS,getElem?_set_self→JT,mem_singleton→JV,append_nil→JX,mem_cons_self→JY,length_filter_le→J4,map_append→J6,length_take→J8,mem_append_right→J9,pairwise_cons→Kb,map_nil→Kc,pairwise_map→Kf,filter_cons→Ki,take_succ→Kk,lookup_cons→Km,range→Kn,length_append→Kq,not_mem_nil→Ks,length_nil→Kw,nil_append→Kx,nodup_cons→KA,getElem_mem→KH,any_cons→KI,filter_sublist→KN,find?_cons→KO,getElem?_cons_succ→KS,filterMap_cons→KW,replicate_succ→KY,getElem?_append_right→KZ,getD_eq_getElem?_getD→K0,cons_append→K1,length_replicate→K2,getElem?_append_left→K3,pairwise_iff_getElem→K4,getElem?_cons_zero→K9,all_eq_true→Lc,foldl_cons→Lg,getElem?_eq_none→Lh,flatten_cons→Lo,mem_of_find?_eq_some→Lr,getElem?_of_mem→Lu,mem_of_mem_take→Lv,getElem?_replicate→Lz,mem_filterMap→LB,set_cons_zero→LH,set_cons_succ→LI,take_sublist→LL,getElem?_nil→LN,foldl→LS,any_eq_true→LU,ext_getElem→LV,Nodup→LY,lookup→L1,flatMap_append→L3,mem_range→Mb,getElem?_set_self'→Md,length_range→Mf,map_take→Mh,getElem_inj→Mm,length_drop→Mo,length_singleton→Mq,range_succ→Mt,getElem_of_mem→MA,map_congr_left→MB,take_zero→ME,length→MH,find?_eq_none→MI,all_cons→MS,perm_ext_iff_of_nodup→MU,append_assoc→MY,drop_eq_getElem_cons→M4,all_nil→Nf,any_nil→Ng,pairwise_singleton→Nl,of_mem_zip→Np,find?_some→Nq,drop_of_length_le→Ny,filterMap_append→NF,eq_nil_or_concat→NG,concat_eq_append→NH,contains_iff_mem→NJ,mem_of_mem_head?→NK,mem_append_left→NL,getLast?_concat→NR,mem_of_mem_drop→NS,length_pos_iff→NW,filterMap_map→N3,toArray→N5,filter_filter→N7,getElem_range→Oa,mem_replicate→Ob,getElem?_inj→Od,nodup_append→Oe,not_lt→Og,filter→Oh,le_antisymm→Oo,map_snd_zip→Ou,getElem_zip→Ov,mem_flatMap→Ow,forIn_cons→Oz,length_zip→OE,lt_trans→ON,sum_cons→OP,map_drop→OQ,Pairwise→OS
open PySem.PyData renaming int→Jg,str→Jh,strOk→Jp,eqv→JD,tuple→JG,canLay0→JN,list→J0,canLayAll0→Ku,depth→K7,bool→Lf,eqvAll→Ln,none→LK,depthAll→L6
open Bool renaming false_ne_true→Jk,and_eq_true→Kh,false_eq_true→KC,true_and→K8,not_eq_true'→Lp,eq_iff_iff→LC,or_eq_true→LG,true_eq_false→LJ,or_false→LZ,false_or→L0,false_and→MD,not_false→MF,not_true→MR,and_true→MT,and_comm→OR
open PySem.Heap renaming get?_push_of_some→Jl,lt_size→Jz,get?_push_size→JR,SameBut→L9,get?_update_other→Nw,get?_update_ne→NV,size_push→OG
open Nat renaming le_refl→Jm,ne_of_lt→JJ,le_trans→JL,lt_of_lt_of_le→J5,zero_le→Kp,lt_irrefl→Lj,reduceAdd→Ll,reduceSub→Lm,le_of_lt→LO,lt_or_ge→LP,reduceLeDiff→Mp,add_zero→Mu,zero_add→Mv,sub_self→Mw,reduceLT→Mx,le_succ→MG,ne_of_gt→M7,le_of_not_lt→M9,lt_trans→Na,eq_zero_or_pos→N4,lt_succ_self→Oj,min_le_right→Ol,le_of_eq→OU
open PySem renaming Spec→Jn,Scope→JU,boot_len→Kv,mem_of_lookup→La,Within→NY,Fin→N6,call→OA
open PySem.ScopeKind renaming function→Jt
open PySem.NameKind renaming free→Ju,globalImplicit→J7,free→Kl,cell→MP
open PySem.Value renaming ref→JP,bool→Le,int→Lw,str→Lx,none→LA,type→Ox,isStrOf→OL,isInt→OZ,bytes→O3,float→O4
open Option.some renaming inj→JW,injEq→KL
open Array renaming length_toList→J1,getD_eq_getD_getElem?→Kt,getD→Mc,perm_iff_toList_perm→MQ,toList_inj→Nb,size_eq_zero_iff→NA,mem_toList_iff→NM,toList_append→NU,toList_map→Oq,toList_zip→Ot,toList→OT
open List.cons renaming injEq→J3,inj→Ml
open PySem.SeqAt renaming shaped→Ka,canLay_of_shaped→Kj,EqAt→Oy
open PySem.PassesOwn renaming never→Kd
open Sum renaming inr→Ke,inl→M6
open PySem.Obj renaming mapSeq→Kg
open True renaming intro→Ko
open PySem.Builtin.Int renaming intBits→Ky
open PyProof.Rows renaming boot_sorted→Kz,slot_tuple_getitem→K5,boot_max→Li,boot_min→LQ,callWith_type1→LR,bubble→MC,boot_sum→ND
open False renaming elim→KD
open PySem.PyData.str renaming injEq→KP
open PySem.PyData.tuple renaming injEq→KQ
open Int renaming eq_ofNat_of_zero_le→KR,reduceNeg→Mi,reducePow→Mj,reduceLT→My,reduceLE→Mz,fdiv_eq_ediv_of_nonneg→ML,fmod_eq_emod_of_nonneg→MM,toNat_natCast→MX,le_antisymm→Nr,emod_lt_of_pos→N9,lt_trichotomy→Of,emod_nonneg→OF,zero_add→OY,mul_one→O6,le_refl→O9
open Option renaming map_some→KU,join_some→LW,join_none→LX,map_none→L8,isSome_map→MZ,getD_none→M8
open PySem.Heap.SameBut renaming update→Lb
open PySem.PyData.int renaming injEq→Ld
open PySem.Builtin.List renaming listFitsIndex→Lk,listTooLong→Ma,listUpdate→Nj
open PySem.Builtin.Slice renaming slicePlaces→Lq,sliceAdjust→L4,sliceApplied→MN
open PySem.Builtin.Tuple renaming tupleExact→Ly,tupleItemsOf→MO
open PySem.W.WData renaming int→LD,weightAll→L5,list→M3,layableAll→Om,weight→OW
open ForInStep renaming yield→LF
open PySem.PyData.list renaming injEq→LM
open PySem.W.KasT renaming kasWp_bind→L7
open PySem.PyData.bool renaming injEq→Mg
open PySem.F renaming slot_dict_get→Mr,slot_list_insert→Nc,plainAttrs_list→Nh,args_dict_get_2→Ni,entry_dict_get→Nz
open Or renaming inr→Ms,inl→NC
open PySem.Paired renaming length→MJ,snoc→O8
open PySem.Calls renaming Name_function_global→MK,call_function_entry→M5,callWith_builtin→Nx,evalArgs_plain→NN,spliced_cons→N1,spliced_nil→Oc
open Nat.succ renaming inj→Nd
open PySem.Builtin.Dict renaming updateFrom→Nk
open Sum.inr renaming inj→Nt
open PyProof renaming noPylong_small→Nu
open List.Pairwise renaming sublist→NI
open PySem.SeqAt.RcAt renaming tuple_str→NO
open PySem.SeqAt.EqAt renaming str_tuple→NP,str_int→NX
open PySem.Around renaming under_plainId→NQ,under→NZ
open Function renaming comp→NT
open PySem.Code renaming isFrame→N0,frames→O7
open PySem.Expr renaming Call→N8,Subscript→OH,List→OJ
open PySem.Walks renaming list→OC
open PySem.Heap.DictOf renaming new→OD
open PyProof.Rows.IsTup renaming new→OI
open Prod.mk renaming injEq→OO
open Prod renaming snd→OX
open PySem.CmpOp renaming NotIn→O5
open PySem.Flow renaming next→Pa
def rzT (n : String) : Lean.MacroM (Lean.TSyntax `tactic) := do
  let ts : Array (Lean.TSyntax `Lean.Parser.Tactic.simpLemma) ← ((n.splitOn " ").toArray).mapM fun s => do
    if s.startsWith "↓" then
      let i := Lean.mkIdent (s.drop 1).toString.toName
      `(Lean.Parser.Tactic.simpLemma| ↓ $i:ident)
    else
      let i := Lean.mkIdent s.toName
      `(Lean.Parser.Tactic.simpLemma| $i:ident)
  `(tactic| simp only [$ts,*])
set_option Elab.async false
set_option linter.all false
set_option maxRecDepth 100000
namespace L2
open PySem PySem.Spec PyProof.Rows
abbrev ai:=Sum Int Str
def j3:ai→Value→Bool
  | .inl k,v=> OZ k v
  | .inr x,v=> OL x v
def BW(w:World):ai→Int
  | .inl k=> hashInt k
  | .inr x=> hashStr w x
theorem fD:∀{k:ai}{v:Value},j3 k v=true→(∃i t,k=M6 i∧v=Lw i t)∨(∃x t,k=Ke x∧v=Lx x t)
  | .inl i,v,h=> by
    obtain⟨t,e⟩:=Value.isInt_shape (k:=i) (v:=v) h
    exact .inl ⟨i,t,rfl,e⟩
  | .inr x,v,h=> by
    obtain⟨t,e⟩:=Value.isStrOf_shape (x:=x) (v:=v) h
    exact .inr ⟨x,t,rfl,e⟩
theorem BX(i:Int)(t:Tok):j3 (.inl i) (.int i t)=true:=by simp [j3,OZ]
theorem BY(x:Str)(t:Tok):j3 (.inr x) (.str x t)=true:=by simp [j3,OL]
theorem BZ(a b:Int):decide ((M6 a:ai)=M6 b)=(a==b):=by
  by_cases e:a=b
  · subst e;simp
  · have h:¬(M6 a:ai)=M6 b:=fun q=> e (M6.inj q)
    rw [decide_eq_false h]
    exact(beq_eq_false_iff_ne.mpr e).symm
theorem B0(a b:Str):decide ((Ke a:ai)=Ke b)=decide (a=b):=by
  by_cases e:a=b
  · subst e;simp
  · have h:¬(Ke a:ai)=Ke b:=fun q=> e (Nt q)
    rw [decide_eq_false h,decide_eq_false e]
theorem B1(a:Int)(b:Str):decide ((M6 a:ai)=Ke b)=false:=decide_eq_false (fun q=> nomatch q)
theorem B2(a:Str)(b:Int):decide ((Ke a:ai)=M6 b)=false:=decide_eq_false (fun q=> nomatch q)
def cm(prog:Program)(w:World):PySem.KeyKind prog w ai where
  is:=j3
  hash:=BW w
  inj:=fun v a b ha hb=> by
    rcases fD ha with⟨i,t,rfl,rfl⟩ | ⟨x,t,rfl,rfl⟩
    · rcases fD hb with⟨j,u,rfl,e⟩ | ⟨y,u,rfl,e⟩
      · injection e with e1 _;rw [e1]
      · exact nomatch e
    · rcases fD hb with⟨j,u,rfl,e⟩ | ⟨y,u,rfl,e⟩
      · exact nomatch e
      · injection e with e1 _;rw [e1]
  byValue:=fun k v h=> by
    rcases fD h with⟨i,t,rfl,rfl⟩ | ⟨x,t,rfl,rfl⟩ <;> rfl
  pyHash:=fun hv h=> by
    rcases fD hv with⟨i,t,rfl,rfl⟩ | ⟨x,t,rfl,rfl⟩
    · exact wpAny_pyHash_int h
    · exact wpAny_pyHash_str h
  eqBool:=fun hu hv h=> by
    rcases fD hu with⟨i,t,rfl,rfl⟩ | ⟨x,t,rfl,rfl⟩
    · rcases fD hv with⟨j,u,rfl,rfl⟩ | ⟨y,u,rfl,rfl⟩
      · rw [BZ] at h;exact wpAny_eqBool_int h
      · rw [B1] at h;exact Oy.int_str i t y u _ _ _ _ h
    · rcases fD hv with⟨j,u,rfl,rfl⟩ | ⟨y,u,rfl,rfl⟩
      · rw [B2] at h;exact NX x t j u _ _ _ _ h
      · rw [B0] at h;exact wpAny_eqBool_str h
  «strs»:=fun k x t v h=> by
    rcases fD h with⟨i,u,rfl,e⟩ | ⟨y,u,rfl,e⟩
    · exact nomatch e
    · injection e with e1 _
      subst e1
      cases v <;> rfl
theorem B3(prog:Program)(w:World)(i:Int)(t:Tok):(cm prog w).is (.inl i) (.int i t)=true:=BX i t
theorem B4(prog:Program)(w:World)(x:Str)(t:Tok):(cm prog w).is (.inr x) (.str x t)=true:=BY x t
end L2
namespace L2
open PySem PySem.Spec PyProof.Rows
inductive V where
  | non | bl (b:Bool) | int (i:Int) | str (x:Str) | byt (b:Array UInt8) | flt (b:UInt64) | ref (a:Addr) | ty (n:String)
  deriving DecidableEq
def aG:V→Value→Prop
  | .non,u=> u=LA
  | .bl b,u=> u=Le b
  | .int i,u=> ∃t,u=Lw i t
  | .str x,u=> ∃t,u=Lx x t
  | .byt b,u=> ∃t,u=O3 b t
  | .flt b,u=> ∃t,u=O4 b t
  | .ref a,u=> u=JP a
  | .ty n,u=> u=Ox n
abbrev aH:List V→List Value→Prop:=Paired aG
theorem aH.length{xs:List V}{us:List Value}(r:aH xs us):xs.length=us.length:=MJ r
theorem aH.get:∀{xs:List V}{us:List Value}{i:Nat}{x:V},aH xs us→xs[i]?=some x→∃u,us[i]?=some u∧aG x u
  | _,_,_,_,.nil,e=> by simp at e
  | _,_,0,_,.cons r _,e=> by simp at e;subst e;exact⟨_,rfl,r⟩
  | _,_,i+1,x,.cons _ t,e=> by
    obtain⟨u,h1,h2⟩:=aH.get (i:=i) (x:=x) t (by simpa using e)
    exact⟨u,by simpa using h1,h2⟩
theorem aH.set{x:V}{u:Value}(r:aG x u):∀{xs:List V}{us:List Value}(i:Nat),aH xs us→aH (xs.set i x) (us.set i u)
  | _,_,_,.nil=> .nil
  | _,_,0,.cons _ t=> .cons r t
  | _,_,i+1,.cons q t=> .cons q (aH.set r i t)
theorem aH.append:∀{xs ys:List V}{us ws:List Value},aH xs us→aH ys ws→aH (xs++ys) (us++ws)
  | _,_,_,_,.nil,s=> s
  | _,_,_,_,.cons r t,s=> .cons r (aH.append t s)
theorem aH.take:∀{xs:List V}{us:List Value}(n:Nat),aH xs us→aH (xs.take n) (us.take n)
  | _,_,0,_=> .nil
  | _,_,_+1,.nil=> .nil
  | _,_,n+1,.cons r t=> .cons r (aH.take n t)
theorem aH.drop:∀{xs:List V}{us:List Value}(n:Nat),aH xs us→aH (xs.drop n) (us.drop n)
  | _,_,0,r=> r
  | _,_,_+1,.nil=> .nil
  | _,_,n+1,.cons _ t=> aH.drop n t
def d9:Option V→Option Value→Prop
  | some v,some u=> aG v u
  | none,none=> True
  | _,_=> False
def KV{κ:Type}:List (κ×V)→List (κ×Value)→Prop:=Paired fun(p:κ×V) (q:κ×Value)=> p.1=q.1∧aG p.2 q.2
def kV:ai→V
  | .inl i=> .int i
  | .inr x=> .str x
inductive HO where
  | lst (xs:List V)
  | tup (xs:List V)
  | dK (kvs:List (ai×V)) | dT (kvs:List (List ai×V))
  | set (S:Int→Bool) (n:Nat)
  | ins (C dx:Addr) (fs:List (Str×V))
  | own (x:Addr)
  | xd (fs:List (Str×V))
  | met (f x:Addr)
  | rng (lo hi:Int)
  | frz (o:Obj) (u:HO)
  | tbl (ps:Array Value)
  | ext (φ:Heap→Prop)
abbrev Hp:=Addr→Option HO
def ao(H:Hp)(a:Addr)(o:HO):Hp:=fun b=> if b=a then some o else H b
theorem bj{H:Hp}{a:Addr}{o:HO}:ao H a o a=some o:=by unfold ao;rw [if_pos rfl]
theorem aJ{H:Hp}{a b:Addr}{o:HO}(h:b≠a):ao H a o b=H b:=by unfold ao;rw [if_neg h]
theorem B5{H:Hp}{a:Addr}{o u:HO}:ao (ao H a o) a u=ao H a u:=by
  funext b;unfold ao;split <;> rfl
theorem B6{H:Hp}{a b:Addr}{o u:HO}(h:H a=some o)(h':H b=some u)(d:o≠u):a≠b:=by
  intro e;subst e;rw [h] at h';exact d (JW h')
theorem cT{H:Hp}{a b:Addr}{o:HO}(h:H a=some o)(h':H b=none):a≠b:=by
  intro e;subst e;rw [h] at h';cases h'
section
variable (P:Program) (w:World)
def cf(H:Hp)(h:Heap)(a:Addr):HO→Prop
  | .lst xs=> xs.length≤sizeLine∧∃(its:List Value)(n:Nat),aH xs its∧h.get? a=some {cls:= .type "list",data:= .seq its.toArray n}
  | .tup xs=> xs.length≤sizeLine∧∃its:List Value,aH xs its∧IsTup h a its.toArray
  | .dK kvs=> kvs.length≤sizeLine∧(a==sysModules)=false∧∃vs,KV kvs vs∧h.DictOf (cm P w) a vs
  | .dT kvs=> kvs.length≤sizeLine∧(a==sysModules)=false∧∃xs:List (List ai×Addr×Value),
      Paired (fun(p:List ai×V) (q:List ai×Addr×Value)=> p.1=q.1∧H q.2.1=some (.tup (p.1.map kV))∧aG p.2 q.2.2) kvs xs∧
      ∃o es ep,h.get? a=some o∧o.ExactDict∧o.data= .dict es ep∧es.toList=xs.map (entryOfKey (tupleKind (cm P w)))∧(xs.map (·.1)).Nodup
  | .set S n=> h.SetOf (intKind P w) a S n
  | .ins C dx fs=> H dx=some (.own a)∧fs.length≤1000∧dx≠a∧h.get? a=some (K6 C dx)∧
      ∃mA,h.Ns1 dx mA∧(∀f,d9 (fs.lookup f) (mA f))∧NY mA (fs.map (·.1))
  | .own _=> ∃o,h.get? a=some o
  | .xd fs=> ∃mA,h.Ns1 a mA∧∀f,d9 (fs.lookup f) (mA f)
  | .rng lo hi=> ∃t u v,h.get? a=some {cls:= .type "range",data:= .fields #[.int lo t,.int hi u,.int 1 v]}
  | .frz o u=> h.get? a=some o∧cf H h a u
  | .tbl ps=> h.get? a=some {cls:= .none,data:= .fields ps}
  | .met f x=> h.get? a=some (MV (.ref f) (.ref x))
  | .ext φ=> φ h∧(∃o,h.get? a=some o)∧∀h1 h2:Heap,φ h1→(∀o,h1.get? a=some o→h2.get? a=some o)→φ h2
def bV(H:Hp)(h:Heap):Prop:=∀a o,H a=some o→cf P w H h a o
end
section
variable {P:Program} {w:World} {H H':Hp} {h h':Heap} {a:Addr} {o:HO}
theorem cf.lt(x:cf P w H h a o):a < h.objs.size:=by
  cases o with
  | lst xs=> obtain⟨_,_,_,_,e⟩:=x;exact Jz e
  | tup xs=> obtain⟨_,_,_,p⟩:=x;exact p.lt
  | dK kvs=> obtain⟨_,_,_,_,o,_,_,e,_⟩:=x;exact Jz e
  | dT kvs=> obtain⟨_,_,_,_,o,_,_,e,_⟩:=x;exact Jz e
  | set S n=> obtain⟨o,_,_,_,e,_⟩:=x;exact Jz e
  | ins C dx fs=> obtain⟨_,_,_,e,_⟩:=x;exact Jz e
  | own y=> obtain⟨_,e⟩:=x;exact Jz e
  | xd fs=> obtain⟨_,⟨_,_,_,e,_⟩,_⟩:=x;exact Jz e
  | rng lo hi=> obtain⟨_,_,_,e⟩:=x;exact Jz e
  | frz ob u=> obtain⟨e,_⟩:=x;exact Jz e
  | tbl ps=> exact Jz (show h.get? a=some _ from x)
  | met f y=> exact Jz (show h.get? a=some _ from x)
  | ext φ=> obtain⟨_,⟨_,e⟩,_⟩:=x;exact Jz e
theorem Paired.mapP{α β:Type}{F G:α→β→Prop}:∀{l₁:List α}{l₂:List β},Paired F l₁ l₂→(∀a b,F a b→G a b)→Paired G l₁ l₂
  | _,_,.nil,_=> .nil
  | _,_,.cons r t,f=> .cons (f _ _ r) (Paired.mapP t f)
theorem cf.stay(x:cf P w H h a o)(k:∀b u,(b=a∨H b=some (.own a))→h.get? b=some u→h'.get? b=some u)
    (ho:∀b,H b=some (.own a)→H' b=some (.own a))(ht:∀b xs,H b=some (.tup xs)→H' b=some (.tup xs)):cf P w H' h' a o:=by
  induction o with
  | lst xs=> obtain⟨z,its,n,r,e⟩:=x;exact⟨z,its,n,r,k _ _ (.inl rfl) e⟩
  | tup xs=> obtain⟨z,its,r,ob,e,c⟩:=x;exact⟨z,its,r,ob,k _ _ (.inl rfl) e,c⟩
  | dK kvs=> obtain⟨z,y,vs,r,ob,es,ep,e,c⟩:=x;exact⟨z,y,vs,r,ob,es,ep,k _ _ (.inl rfl) e,c⟩
  | dT kvs=>
    obtain⟨z,y,xs,r,ob,es,ep,e,c⟩:=x
    exact⟨z,y,xs,Paired.mapP r fun p q z=> ⟨z.1,ht _ _ z.2.1,z.2.2⟩,ob,es,ep,k _ _ (.inl rfl) e,c⟩
  | set S n=> obtain⟨ob,es,ep,t,e,c⟩:=x;exact⟨ob,es,ep,t,k _ _ (.inl rfl) e,c⟩
  | ins C dx fs=>
    obtain⟨d,z,ne,e,mA,⟨od,es,ep,e2,c⟩,r⟩:=x
    exact⟨ho _ d,z,ne,k _ _ (.inl rfl) e,mA,⟨od,es,ep,k _ _ (.inr d) e2,c⟩,r⟩
  | own y=> obtain⟨ob,e⟩:=x;exact⟨ob,k _ _ (.inl rfl) e⟩
  | xd fs=> obtain⟨mA,⟨od,es,ep,e,c⟩,r⟩:=x;exact⟨mA,⟨od,es,ep,k _ _ (.inl rfl) e,c⟩,r⟩
  | rng lo hi=> obtain⟨t,u,v,e⟩:=x;exact⟨t,u,v,k _ _ (.inl rfl) e⟩
  | frz ob u ih=> obtain⟨e,q⟩:=x;exact⟨k _ _ (.inl rfl) e,ih q⟩
  | tbl ps=>
    have e:h.get? a=some {cls:= .none,data:= .fields ps}:=x
    show h'.get? a=some {cls:= .none,data:= .fields ps}
    exact k a _ (.inl rfl) e
  | met f y=>
    have e:h.get? a=some (MV (.ref f) (.ref y)):=x
    show h'.get? a=some (MV (.ref f) (.ref y))
    exact k a _ (.inl rfl) e
  | ext φ=> obtain⟨p,⟨o,e⟩,st⟩:=x;exact⟨st _ _ p fun o q=> k _ _ (.inl rfl) q,⟨o,k _ _ (.inl rfl) e⟩,st⟩
theorem bV.lt(x:bV P w H h)(e:H a=some o):a < h.objs.size:=(x a o e).lt
theorem bV.fresh(x:bV P w H h)(e:h.objs.size≤a):H a=none:=by
  cases q:H a with
  | none=> rfl
  | some u=> exact absurd (J5 (x.lt q) e) (Lj _)
theorem bV.kept(x:bV P w H h)(k:∀b u,h.get? b=some u→h'.get? b=some u):bV P w H h':=fun a o e=>
  (x a o e).stay (fun b u _ q=> k b u q) (fun _ q=> q) fun _ _ q=> q
theorem bV.laid(x:bV P w H h)(k:∀b u,h.get? b=some u→h'.get? b=some u)(hp:h.objs.size≤a)(new:cf P w (ao H a o) h' a o):bV P w (ao H a o) h':=fun b u e=> by
  have hn:=x.fresh hp
  by_cases hb:b=a
  · subst hb;rw [bj] at e;cases e;exact new
  · rw [aJ hb] at e
    exact(x b u e).stay (fun c v _ q=> k c v q) (fun c q=> by rw [aJ (cT q hn)];exact q) fun c xs q=> by rw [aJ (cT q hn)];exact q
end
def Rd(H:Hp)(a:Addr)(u:HO):Prop:=H a=some u∨∃o,H a=some (.frz o u)
theorem Rd.ok{P:Program}{w:World}{H:Hp}{h:Heap}{a:Addr}{u:HO}(r:Rd H a u)(x:bV P w H h):cf P w H h a u:=by
  rcases r with r | ⟨o,r⟩
  · exact x a u r
  · obtain⟨_,q⟩:=x a _ r
    exact q
def j4:Option HO→Prop
  | some (.lst _)=> True
  | some (.dK _)=> True
  | some (.dT _)=> True
  | some (.set _ _)=> True
  | some (.ins _ _ _)=> True
  | some (.ext _)=> True
  | _=> False
section
variable {P:Program} {w:World} {H:Hp} {h h':Heap} {x e:Addr} {o':HO}
theorem bV.write(ok:bV P w H h)(mu:j4 (H x))(he:e=x∨H e=some (.own x))(k:∀b u,b≠e→h.get? b=some u→h'.get? b=some u)(heo:∃u,h'.get? e=some u)
    (new:cf P w (ao H x o') h' x o'):bV P w (ao H x o') h':=fun b u q=> by
  have nown:∀c y,H c=some (.own y)→c≠x:=fun c y r z=> by subst z;rw [r] at mu;exact mu
  have ntup:∀c xs,H c=some (.tup xs)→c≠x:=fun c xs r z=> by subst z;rw [r] at mu;exact mu
  by_cases hb:b=x
  · subst hb;rw [bj] at q;cases q;exact new
  · rw [aJ hb] at q
    by_cases hbe:b=e
    · have q':H b=some (.own x):=by
        rcases he with z | z
        · exact absurd (hbe.trans z) hb
        · rw [hbe];exact z
      rw [q] at q';cases q'
      obtain⟨v,hv⟩:=heo
      exact⟨v,by rw [hbe];exact hv⟩
    · refine(ok b u q).stay (fun c v hc r=> k c v ?_ r) (fun c r=> by rw [aJ (nown c b r)];exact r) fun c xs r=> by rw [aJ (ntup c xs r)];exact r
      rcases hc with rfl | hc
      · exact hbe
      · rintro rfl
        rcases he with z | z
        · exact nown c b hc z
        · rw [hc] at z;cases z;exact hb rfl
end
structure Un (fs ex:List Addr) (H H':Hp) (h h':Heap):Prop where
  keep:∀b o,h.get? b=some o→H b=none→b ∉ fs→b ∉ ex→h'.get? b=some o
  slot:∀b o,h.get? b=some o→H b=none→b∈fs→b ∉ ex→∃sl,h'.get? b=some {o with slots:=sl}
  free:∀b o,h.get? b=some o→H b=none→b ∉ ex→H' b=none
  there:∀b o,h.get? b=some o→b ∉ ex→∃o',h'.get? b=some o'
  tups:∀b xs,H b=some (.tup xs)→H' b=some (.tup xs)
  frzs:∀b o u,H b=some (.frz o u)→H' b=some (.frz o u)
  tbls:∀b ps,H b=some (.tbl ps)→∃more,H' b=some (.tbl (ps++more))
section
variable {fs fs' ex ex':List Addr} {H H1 H2:Hp} {h h1 h2 h':Heap} {a x e:Addr} {o:HO}
theorem Un.any(u:Un fs ex H H1 h h1){b:Addr}{ob:Obj}(q:h.get? b=some ob)(n:H b=none)(hx:b ∉ ex):∃sl,h1.get? b=some {ob with slots:=sl}:=by
  by_cases hb:b∈fs
  · exact u.slot b ob q n hb hx
  · exact⟨ob.slots,u.keep b ob q n hb hx⟩
theorem Un.kept(k:∀b u,h.get? b=some u→h'.get? b=some u):Un fs ex H H h h':=
  ⟨fun b ob q _ _ _=> k b ob q,fun b ob q _ _ _=> ⟨ob.slots,k b ob q⟩,fun _ _ _ n _=> n,fun b ob q _=> ⟨ob,k b ob q⟩,fun _ _ q=> q,fun _ _ _ q=> q,fun _ ps q=> ⟨#[],by rw [q];simp⟩⟩
theorem Un.refl:Un fs ex H H h h:=Un.kept fun _ _ q=> q
theorem Un.laid(k:∀b u,h.get? b=some u→h'.get? b=some u)(hp:h.objs.size≤a)(hn:H a=none):Un fs ex H (ao H a o) h h' where
  keep:=fun b u q _ _ _=> k b u q
  slot:=fun b u q _ _ _=> ⟨u.slots,k b u q⟩
  free:=fun b u q n _=> by rw [aJ (JJ (J5 (Jz q) hp))];exact n
  there:=fun b u q _=> ⟨u,k b u q⟩
  tups:=fun b xs q=> by rw [aJ (cT q hn)];exact q
  frzs:=fun b u xs q=> by rw [aJ (cT q hn)];exact q
  tbls:=fun b ps q=> ⟨#[],by rw [aJ (cT q hn),q];simp⟩
theorem Un.write(mu:j4 (H x))(he:e=x∨H e=some (.own x))(k:∀b u,b≠e→h.get? b=some u→h'.get? b=some u)(heo:∃u,h'.get? e=some u):Un fs ex H (ao H x o) h h':=by
  have hx:∀b,H b=none→b≠x:=fun b n z=> by subst z;rw [n] at mu;exact mu
  have hb:∀b,H b=none→b≠e:=fun b n z=> by
    subst z
    rcases he with r | r
    · exact hx b n r
    · rw [n] at r;cases r
  have hm:∀b u,H b=some u→¬j4 (some u)→b≠x:=fun b u q nm z=> by subst z;rw [q] at mu;exact nm mu
  refine⟨fun b u q n _ _=> k b u (hb b n) q,fun b u q n _ _=> ⟨u.slots,k b u (hb b n) q⟩,fun b u q n _=> by rw [aJ (hx b n)];exact n,fun b u q _=> ?_,
    fun b xs q=> by rw [aJ (hm b _ q fun z=> z)];exact q,fun b u xs q=> by rw [aJ (hm b _ q fun z=> z)];exact q,fun b ps q=> ⟨#[],by rw [aJ (hm b _ q fun z=> z),q];simp⟩⟩
  by_cases hbe:b=e
  · subst hbe;exact heo
  · exact⟨u,k b u hbe q⟩
end
def trk(h:Heap)(H:Hp):List Addr:=(Kn h.objs.size).filter fun a=> (H a).isSome
def hG(h:Heap)(H:Hp):Heap:=PySem.W.hideAll h (trk h H)
theorem B7(h:Heap)(H:Hp):(hG h H).objs.size=h.objs.size:=PySem.W.hideAll_size _ _
theorem B8{h:Heap}{H:Hp}{b:Addr}{o:Obj}(e:h.get? b=some o)(n:H b=none):(hG h H).get? b=some o:=
  PySem.W.hideAll_get _ e fun hm=> by
    have q:(H b).isSome=true:=(JK.mp hm).2
    rw [n] at q;simp at q
theorem B9{h:Heap}{H:Hp}{b:Addr}{o:Obj}(e:(hG h H).get? b=some o):h.get? b=some o∧H b=none:=by
  have e':h.get? b=some o:=PySem.W.of_hideAll (trk h H) e
  refine⟨e',?_⟩
  cases q:H b with
  | none=> rfl
  | some x=>
    have hm:b∈trk h H:=JK.mpr ⟨Mb.mpr (Jz e'),by simp [q]⟩
    have z:(hG h H).get? b=none:=PySem.W.hideAll_none (trk h H) hm
    rw [z] at e;cases e
def Ca(g h:Heap)(L:Addr):List (Addr×Obj):=(Kn h.objs.size).filterMap fun a=> if a=L∨(g.get? a).isSome=true then none else(h.get? a).map fun o=> (a,o)
def rest(g h:Heap)(L d:Addr):List (Addr×Obj):=(Ca g h L).filter fun p=> decide (p.1≠d)
end L2
namespace L2
open PySem PySem.Spec PyProof.Rows
structure Mod (K:Jd) (mg:Str→Option Value) (base:Heap):Prop where
  kin:K.In base
  glob:base.Ns mainGlobals mg
  blt:∃mb,base.Ns builtinsNs mb∧∀x:Str,x≠"__name__"→mb x=bootBuiltins x
  nolimit:base.NoLimit
structure Cx where
  prog:Program
  w:World
  K:Jd
  mg:Str→Option Value
  base:Heap
  A:Around
  N:List Str
  s₀:Shared
  H₀:Hp
  env:Env
  outer:List Env
  stack:List Env
  ex:List Addr
  fn:Str→Bool
  calm:Bool
  pn:List (Addr×Obj)
  xe:Value→Shared→Prop
def eV(l:List Env):List Addr:=l.filterMap (·.frame)
abbrev Cx.fs(X:Cx):List Addr:=eV X.outer
def lS(sc:Scope)(x:Str):Prop:=sc.names.lookup x=some .local∨sc.names.lookup x=some .cell∨sc.names.lookup x=some .free
def gh(sc:Scope)(x:Str):Prop:=sc.names.lookup x=some .local∨sc.names.lookup x=some .cell
def Cb(env:Env)(h:Heap)(m:Str→Option Value)(x:Str)(u:Value):Prop:=
  (env.kindOf x=some .local∧m x=some u)∨((env.kindOf x=some .cell∨env.kindOf x=some .free)∧∃c,env.cells.lookup x=some c∧h.IsCell c (some u))
structure Cx.Ok (X:Cx):Prop where
  mod:Mod X.K X.mg X.base
  kind:X.env.scope.kind= .function
  glob:X.env.globals=mainGlobals
  blt:X.env.builtins=builtinsNs
  above:X.s₀.heap.objs.size≤X.env.locals
  inj:∀x y c,X.env.cells.lookup x=some c→X.env.cells.lookup y=some c→x=y
  has:∀x,(X.env.kindOf x=some .cell∨X.env.kindOf x=some .free)→∃c,X.env.cells.lookup x=some c
  cab:∀x c,X.fn x=true→X.env.cells.lookup x=some c→X.s₀.heap.objs.size≤c
  hd:X.calm=true→X.A.handled=none
  frames:X.A.frames=some X.stack
  stk:X.stack=X.outer∨(X.stack=X.env::X.outer∧X.env.frame=some X.env.locals)
  exf:∀b∈X.ex,b≠X.env.locals∧∀x c,X.env.cells.lookup x=some c→c≠b
  bs:∀b o,X.base.get? b=some o→X.s₀.heap.get? b=some o∧X.H₀ b=none
  bsz:X.base.objs.size≤X.s₀.heap.objs.size
  noex:∀b o,X.base.get? b=some o→b ∉ X.ex
  exfs:∀b∈X.ex,b ∉ X.fs
  funs:X.s₀.heap.FunFrames X.base X.outer
  frf:∀b∈X.fs,X.H₀ b=none
structure af (X:Cx) (pins:List (Addr×Obj)) (σ:List (Option V)) (H:Hp) (s:Shared):Prop where
  ok:X.Ok
  os:s.os=X.s₀.os
  bare:AllBare s.gens
  base:Un X.fs X.ex X.H₀ H X.s₀.heap s.heap
  loc:∃m,s.heap.Ns X.env.locals m∧∀(i:Nat)(x:Str)(v:V),X.N[i]?=some x→σ[i]?=some (some v)→lS X.env.scope x→∃u,aG v u∧Cb X.env s.heap m x u
  cell:∀x c,X.env.cells.lookup x=some c→∃v,s.heap.IsCell c v
  free:H X.env.locals=none
  freeC:∀x c,X.env.cells.lookup x=some c→H c=none
  pin:∀p∈X.pn++pins,s.heap.get? p.1=some p.2∧H p.1=none∧p.1≠X.env.locals∧p.1 ∉ X.fs∧∀v,p.2.data≠ .cell v
  hok:bV X.prog X.w H s.heap
  len:σ.length=X.N.length
section
variable {X:Cx} {pins:List (Addr×Obj)} {σ:List (Option V)} {H H':Hp} {s:Shared} {h':Heap}
theorem Cx.Ok.nofr(ok:X.Ok){b:Addr}{o:Obj}(e:X.base.get? b=some o):b ∉ X.fs:=fun hb=> by
  have:=(ok.funs.mem hb).1
  rw [e] at this;cases this
theorem af.bs(I:af X pins σ H s):∀b o,X.base.get? b=some o→s.heap.get? b=some o∧H b=none:=fun b o e=>
  ⟨I.base.keep b o (I.ok.bs b o e).1 (I.ok.bs b o e).2 (I.ok.nofr e) (I.ok.noex b o e),I.base.free b o (I.ok.bs b o e).1 (I.ok.bs b o e).2 (I.ok.noex b o e)⟩
theorem af.bk(I:af X pins σ H s):∀b o,X.base.get? b=some o→s.heap.get? b=some o:=fun b o e=> (I.bs b o e).1
theorem af.mod(I:af X pins σ H s):Mod X.K X.mg X.base:=I.ok.mod
theorem af.kIn(I:af X pins σ H s):X.K.In s.heap:=I.ok.mod.kin.keeps I.bk
theorem af.fr(I:af X pins σ H s):∃m,Fr X.base X.env.locals s.heap m:=
  let ⟨m,hn,_⟩:=I.loc
  ⟨m,hn,I.bk,JL I.ok.bsz I.ok.above⟩
theorem af.lt(I:af X pins σ H s):X.env.locals < s.heap.objs.size:=let ⟨_,hn,_⟩:=I.loc;hn.lt
theorem af.sz(I:af X pins σ H s):X.s₀.heap.objs.size≤s.heap.objs.size:=JL I.ok.above (LO I.lt)
theorem af.nofs(I:af X pins σ H s){a:Addr}(h:s.heap.objs.size≤a):a ∉ X.fs:=fun hb=> by
  obtain⟨_,o,ho,_⟩:=I.ok.funs.mem hb
  exact absurd (J5 (Jz ho) (JL I.sz h)) (Lj _)
theorem af.cne(I:af X pins σ H s):∀x c,X.env.cells.lookup x=some c→c≠X.env.locals:=fun x c e z=> by
  obtain⟨v,o,ho,hd⟩:=I.cell x c e
  obtain⟨m,⟨o',es,ep,ho',hd',_⟩,_⟩:=I.loc
  rw [z,ho'] at ho;cases ho;rw [hd'] at hd;cases hd
theorem af.funs(I:af X pins σ H s):s.heap.FunFrames X.base X.outer:=by
  have all:∀(l:List Env),(∀b∈eV l,b∈X.fs)→X.s₀.heap.FunFrames X.base l→s.heap.FunFrames X.base l:=by
    intro l
    induction l with
    | nil=> intro _ _;trivial
    | cons env r ih=>
      intro hs hl
      obtain⟨hk,⟨L,o,hf,hn,ho,hd⟩,hr⟩:=hl
      have hL:L∈X.fs:=hs L (by unfold eV;rw [KW,hf];exact JY)
      obtain⟨sl,e⟩:=I.base.slot L o ho (I.ok.frf L hL) hL fun z=> I.ok.exfs L z hL
      exact⟨hk,⟨L,_,hf,hn,e,hd⟩,ih (fun b hb=> hs b (by unfold eV;rw [KW,hf];exact JS _ hb)) hr⟩
  exact all X.outer (fun _ hb=> hb) I.ok.funs
theorem af.stack(I:af X pins σ H s):s.heap.FunFrames X.base X.stack:=by
  rcases I.ok.stk with e | ⟨e,hf⟩
  · rw [e];exact I.funs
  · rw [e]
    obtain⟨m,hn,_⟩:=I.loc
    refine .cons (by rw [I.ok.kind];decide) hf hn ?_ I.funs
    exact Heap.get?_none_of_le (JL I.ok.bsz I.ok.above)
theorem af.stkSub(I:af X pins σ H s):∀b∈eV X.stack,b∈X.env.locals::X.fs:=fun b hb=> by
  rcases I.ok.stk with e | ⟨e,hf⟩
  · rw [e] at hb;exact JS _ hb
  · rw [e] at hb
    unfold eV at hb
    rw [KW,hf] at hb
    exact hb
theorem af.stkFree(I:af X pins σ H s):∀b∈eV X.stack,H b=none:=fun b hb=> by
  rcases Jy.mp (I.stkSub b hb) with e | hb
  · rw [e];exact I.free
  · obtain⟨_,o,ho,_⟩:=I.ok.funs.mem hb
    exact I.base.free b o ho (I.ok.frf b hb) fun z=> I.ok.exfs b z hb
theorem af.step{g':Array GenState}{t':Nat}{d':Drawn}{ch:List Addr}(I:af X pins σ H s)
    (hch:∀b∈ch,(b∈X.ex∨X.s₀.heap.objs.size≤b)∧b≠X.env.locals∧(∀x c,X.env.cells.lookup x=some c→c≠b)∧∀p∈X.pn++pins,p.1≠b)
    (keep:∀b o,b≠X.env.locals→b ∉ X.fs→b ∉ ch→s.heap.get? b=some o→H b=none→h'.get? b=some o)
    (slot:∀b o,b≠X.env.locals→b∈X.fs→b ∉ ch→s.heap.get? b=some o→H b=none→∃sl,h'.get? b=some {o with slots:=sl})(free:∀b o,b ∉ ch→s.heap.get? b=some o→H b=none→H' b=none)
    (there:∀b o,b ∉ ch→s.heap.get? b=some o→∃o',h'.get? b=some o')
    (tups:∀b xs,H b=some (.tup xs)→H' b=some (.tup xs))(frzs:∀b o u,H b=some (.frz o u)→H' b=some (.frz o u))(tbls:∀b ps,H b=some (.tbl ps)→∃more,H' b=some (.tbl (ps++more)))
    (ns:∀m,s.heap.Ns X.env.locals m→h'.Ns X.env.locals m)(hok:bV X.prog X.w H' h')(hg:AllBare g'):
    af X pins σ H' {s with heap:=h',gens:=g',drawn:=d',toks:=t'}:=by
  have neL:∀b o,X.s₀.heap.get? b=some o→b≠X.env.locals:=fun b o e=> JJ (J5 (Jz e) I.ok.above)
  have neC:∀b o,X.s₀.heap.get? b=some o→b ∉ X.ex→b ∉ ch:=fun b o e hx hb=> by
    rcases(hch b hb).1 with z | z
    · exact hx z
    · exact absurd (J5 (Jz e) z) (Lj _)
  have cellK:∀x c,X.env.cells.lookup x=some c→∀v,s.heap.IsCell c v→h'.IsCell c v:=fun x c e v uu1=> by
    obtain⟨o,ho,hd⟩:=uu1
    have nch:c ∉ ch:=fun z=> (hch c z).2.2.1 x c e rfl
    by_cases hc:c∈X.fs
    · obtain⟨sl,q⟩:=slot c o (I.cne x c e) hc nch ho (I.freeC x c e)
      exact⟨_,q,hd⟩
    · exact⟨o,keep c o (I.cne x c e) hc nch ho (I.freeC x c e),hd⟩
  refine⟨I.ok,I.os,hg,⟨fun b o e n hb hx=> ?_,fun b o e n hb hx=> ?_,fun b o e n hx=> ?_,fun b o e hx=> ?_,fun b xs e=> tups b xs (I.base.tups b xs e),fun b o xs e=> frzs b o xs (I.base.frzs b o xs e),fun b ps e=> ?_⟩,?_,fun x c e=> ?_,?_,fun x c e=> ?_,fun p hp=> ?_,hok,I.len⟩
  · exact keep b o (neL b o e) hb (neC b o e hx) (I.base.keep b o e n hb hx) (I.base.free b o e n hx)
  · obtain⟨sl,e1⟩:=I.base.slot b o e n hb hx
    obtain⟨sl',e2⟩:=slot b _ (neL b o e) hb (neC b o e hx) e1 (I.base.free b o e n hx)
    exact⟨sl',e2⟩
  · obtain⟨o',e1⟩:=I.base.there b o e hx
    exact free b o' (neC b o e hx) e1 (I.base.free b o e n hx)
  · obtain⟨o',e1⟩:=I.base.there b o e hx
    exact there b o' (neC b o e hx) e1
  · obtain⟨m1,e1⟩:=I.base.tbls b ps e
    obtain⟨m2,e2⟩:=tbls b _ e1
    exact⟨m1++m2,by rw [e2,Array.append_assoc]⟩
  · obtain⟨m,hn,hl⟩:=I.loc
    refine⟨m,ns m hn,fun i x v e1 e2 e3=> ?_⟩
    obtain⟨u,r,l⟩:=hl i x v e1 e2 e3
    refine⟨u,r,?_⟩
    rcases l with l | ⟨k,c,e,z⟩
    · exact .inl l
    · exact .inr ⟨k,c,e,cellK x c e _ z⟩
  · obtain⟨v,z⟩:=I.cell x c e
    exact⟨v,cellK x c e v z⟩
  · obtain⟨m,⟨o,_,_,ho,_⟩,_⟩:=I.loc
    exact free _ o (fun z=> (hch _ z).2.1 rfl) ho I.free
  · obtain⟨v,o,ho,hd⟩:=I.cell x c e
    exact free c o (fun z=> (hch c z).2.2.1 x c e rfl) ho (I.freeC x c e)
  · obtain⟨e,n,ne,nf,d⟩:=I.pin p hp
    have nch:p.1 ∉ ch:=fun z=> (hch p.1 z).2.2.2 p hp rfl
    exact⟨keep p.1 p.2 ne nf nch e n,free p.1 p.2 nch e n,ne,nf,d⟩
theorem af.un{t':Nat}(I:af X pins σ H s)(u:Un X.fs [] H H' s.heap h')(hok:bV X.prog X.w H' h'):af X pins σ H' {s with heap:=h',toks:=t'}:=by
  obtain⟨m,⟨o,es,ep,ho,r⟩,_⟩:=id I.loc
  obtain⟨sl,hL⟩:=u.any ho I.free (by simp)
  exact I.step (g':=s.gens) (d':=s.drawn) (ch:=[]) (fun _ z=> nomatch z) (fun b o _ hb _ e n=> u.keep b o e n hb (by simp)) (fun b o _ hb _ e n=> u.slot b o e n hb (by simp)) (fun b o _ e n=> u.free b o e n (by simp)) (fun b o _ e=> u.there b o e (by simp)) u.tups u.frzs u.tbls (fun m' hm=> by
    obtain⟨o',es',ep',ho',r'⟩:=hm
    rw [ho] at ho';cases ho'
    exact⟨_,es',ep',hL,r'⟩) hok I.bare
theorem af.call{g':Array GenState}{t':Nat}{d':Drawn}{ch:List Addr}(I:af X pins σ H s)(u:Un (eV X.stack) ch H H' s.heap h')(hok:bV X.prog X.w H' h')(hg:AllBare g')
    (hch:∀b∈ch,(b∈X.ex∨X.s₀.heap.objs.size≤b)∧b≠X.env.locals∧(∀x c,X.env.cells.lookup x=some c→c≠b)∧∀p∈X.pn++pins,p.1≠b):
    af X pins σ H' {s with heap:=h',gens:=g',drawn:=d',toks:=t'}:=by
  obtain⟨m,⟨o,es,ep,ho,r⟩,_⟩:=id I.loc
  obtain⟨sl,hL⟩:=u.any ho I.free fun z=> (hch _ z).2.1 rfl
  exact I.step (ch:=ch) hch (fun b o hL hb hc e n=> u.keep b o e n (fun z=> (Jy.mp (I.stkSub b z)).elim hL hb) hc) (fun b o _ _ hc e n=> u.any e n hc) (fun b o hc e n=> u.free b o e n hc) (fun b o hc e=> u.there b o e hc) u.tups u.frzs u.tbls (fun m' hm=> by
    obtain⟨o',es',ep',ho',r'⟩:=hm
    rw [ho] at ho';cases ho'
    exact⟨_,es',ep',hL,r'⟩) hok hg
theorem af.turned{t':Nat}{it:Addr}(I:af X pins σ H s)(k:∀b o,b≠it→s.heap.get? b=some o→h'.get? b=some o)(hn:H it=none)(hL:it≠X.env.locals)
    (h1:it∈X.ex∨X.s₀.heap.objs.size≤it)(h2:∀x c,X.env.cells.lookup x=some c→c≠it)(h3:∀p∈X.pn++pins,p.1≠it):af X pins σ H {s with heap:=h',toks:=t'}:=by
  have nit:∀b u,H b=some u→b≠it:=fun b u e z=> by rw [z,hn] at e;cases e
  refine I.step (g':=s.gens) (d':=s.drawn) (ch:=[it]) (fun b hb=> ?_) (fun b o _ _ hc e _=> k b o (fun z=> hc (by simp [z])) e) (fun b o _ _ hc e _=> ⟨o.slots,k b o (fun z=> hc (by simp [z])) e⟩) (fun _ _ _ _ n=> n)
    (fun b o hc e=> ⟨o,k b o (fun z=> hc (by simp [z])) e⟩) (fun _ _ e=> e) (fun _ _ _ e=> e) (fun b ps e=> ⟨#[],by rw [e];simp⟩) (fun m hm=> ?_) (fun b u e=> ?_) I.bare
  · have e:b=it:=by simpa using hb
    subst e
    exact⟨h1,hL,h2,h3⟩
  · obtain⟨o,es,ep,ho,r⟩:=hm
    exact⟨o,es,ep,k _ o (Ne.symm hL) ho,r⟩
  · refine(I.hok b u e).stay (fun c v hc q=> k c v ?_ q) (fun _ q=> q) fun _ _ q=> q
    rcases hc with z | z
    · rw [z];exact nit b u e
    · exact nit c _ z
theorem af.tok(I:af X pins σ H s)(t:Nat):af X pins σ H {s with toks:=t}:=I.un (h':=s.heap) (t':=t) Un.refl I.hok
theorem af.kept{t':Nat}(I:af X pins σ H s)(k:∀b u,s.heap.get? b=some u→h'.get? b=some u):af X pins σ H {s with heap:=h',toks:=t'}:=I.un (Un.kept k) (I.hok.kept k)
theorem af.laid{a:Addr}{o:HO}{t':Nat}(I:af X pins σ H s)(k:∀b u,s.heap.get? b=some u→h'.get? b=some u)(hp:s.heap.objs.size≤a)(new:cf X.prog X.w (ao H a o) h' a o):
    af X pins σ (ao H a o) {s with heap:=h',toks:=t'}:=I.un (Un.laid k hp (I.hok.fresh hp)) (I.hok.laid k hp new)
theorem af.write{x e:Addr}{o:HO}{t':Nat}(I:af X pins σ H s)(mu:j4 (H x))(he:e=x∨H e=some (.own x))(k:∀b u,b≠e→s.heap.get? b=some u→h'.get? b=some u)(heo:∃u,h'.get? e=some u)
    (new:cf X.prog X.w (ao H x o) h' x o):af X pins σ (ao H x o) {s with heap:=h',toks:=t'}:=I.un (Un.write mu he k heo) (I.hok.write mu he k heo new)
theorem af.weak{σ':List (Option V)}(I:af X pins σ H s)(hl:σ'.length=σ.length)(w:∀(i:Nat) v,σ'[i]?=some (some v)→σ[i]?=some (some v)):af X pins σ' H s:=
  ⟨I.ok,I.os,I.bare,I.base,let ⟨m,hn,hl'⟩:=I.loc;⟨m,hn,fun i x v e1 e2 e3=> hl' i x v e1 (w i v e2) e3⟩,I.cell,I.free,I.freeC,I.pin,I.hok,hl.trans I.len⟩
theorem af.pins_of{pins':List (Addr×Obj)}(I:af X pins σ H s)(h:∀p∈pins',s.heap.get? p.1=some p.2∧H p.1=none∧p.1≠X.env.locals∧p.1 ∉ X.fs∧∀v,p.2.data≠ .cell v):af X pins' σ H s:=
  ⟨I.ok,I.os,I.bare,I.base,I.loc,I.cell,I.free,I.freeC,fun p hp=> (JM.mp hp).elim (fun z=> I.pin p (NL _ z)) (h p),I.hok,I.len⟩
theorem wk{N:List Str}(hN:N.Nodup){i j:Nat}{x:Str}(a:N[i]?=some x)(b:N[j]?=some x):i=j:=by
  obtain⟨h1,e1⟩:=Jr.mp a
  obtain⟨h2,e2⟩:=Jr.mp b
  exact(Mm hN).mp (e1.trans e2.symm)
theorem wq{M:Model}{A:Around}{E:Value→Shared→Prop}{i:Nat}{x:Str}{v:V}{u:Value}{Q:Unit→Shared→Prop}(I:af X pins σ H s)(hN:X.N.Nodup)(hi:X.N[i]?=some x)(hx:gh X.env.scope x)(r:aG v u)
    (h:∀s',af X pins (σ.set i (some v)) H s'→(∃a,L9 a s.heap s'.heap∧(a=X.env.locals∨X.env.cells.lookup x=some a))→Q () s')(hf:X.fn x=true∨X.env.scope.names.lookup x=some .local:=by first | exact .inl rfl | exact .inr rfl | assumption):wpAny M A (storeName X.env x u) Q E s:=by
  obtain⟨m,hn,hl⟩:=id I.loc
  have hcls:(X.env.scope.kind== .class || (X.env.scope.kind== .module && X.env.locals !=X.env.globals))=false:=by rw [I.ok.kind];rfl
  have hiσ:i < σ.length:=by rw [I.len];exact(Jr.mp hi).1
  have cne:=I.cne
  have tracked:∀{a:Addr}{h':Heap},(∃o,s.heap.get? a=some o∧H a=none)→L9 a s.heap h'→bV X.prog X.w H h':=fun{a h'} ha hs b ob e=> by
    obtain⟨_,_,hfree⟩:=ha
    refine(I.hok b ob e).stay (fun c w' hc q=> (hs.2 c ?_).trans q) (fun _ q=> q) fun _ _ q=> q
    rintro rfl
    rcases hc with rfl | hc
    · rw [hfree] at e;cases e
    · rw [hfree] at hc;cases hc
  rcases hx with hk | hk
  · refine wpAny_storeName_local hk hn (fun h' hn' hs=> ?_) hcls
    obtain⟨oL,_,_,hoL,_⟩:=id hn
    refine h _ ⟨I.ok,I.os,I.bare,⟨fun b o e n hb hx=> ?_,fun b o e n hb hx=> ?_,I.base.free,fun b o e hx=> ?_,I.base.tups,I.base.frzs,I.base.tbls⟩,⟨_,hn',fun j y v' e1 e2 e3=> ?_⟩,fun y c e=> ?_,I.free,I.freeC,fun p hp=> ?_,tracked ⟨oL,hoL,I.free⟩ hs,by simpa using I.len⟩ ⟨_,hs,.inl rfl⟩
    · exact(hs.2 b (JJ (J5 (Jz e) I.ok.above))).trans (I.base.keep b o e n hb hx)
    · obtain⟨sl,e1⟩:=I.base.slot b o e n hb hx
      exact⟨sl,(hs.2 b (JJ (J5 (Jz e) I.ok.above))).trans e1⟩
    · obtain⟨o',e1⟩:=I.base.there b o e hx
      exact⟨o',(hs.2 b (JJ (J5 (Jz e) I.ok.above))).trans e1⟩
    · by_cases hj:j=i
      · subst hj
        rw [hi] at e1;cases e1
        rw [JT hiσ] at e2
        cases e2
        exact⟨u,r,.inl ⟨hk,by simp⟩⟩
      · rw [JI (Ne.symm hj)] at e2
        obtain⟨u',r',q⟩:=hl j y v' e1 e2 e3
        refine⟨u',r',?_⟩
        rcases q with⟨k,e⟩ | ⟨k,c,e,z⟩
        · refine .inl ⟨k,?_⟩
          have:y≠x:=fun e=> hj (wk hN e1 (e▸hi))
          simp [this,e]
        · exact .inr ⟨k,c,e,z.sameBut hs (cne y c e)⟩
    · obtain⟨w',z⟩:=I.cell y c e
      exact⟨w',z.sameBut hs (cne y c e)⟩
    · obtain⟨e,n,ne,nf,d⟩:=I.pin p hp
      exact⟨(hs.2 p.1 ne).trans e,n,ne,nf,d⟩
  · have hfn:X.fn x=true:=by
      rcases hf with z | z
      · exact z
      · rw [z] at hk;cases hk
    obtain⟨c,hc⟩:=I.ok.has x (.inl hk)
    obtain⟨w',z⟩:=I.cell x c hc
    refine wpAny_storeName_cell I.ok.kind hk hc z (fun h' hc' hs=> ?_)
    obtain⟨oc,hoc,hocd⟩:=id z
    refine h {s with heap:=h'} ⟨I.ok,I.os,I.bare,⟨fun b o e n hb hx=> ?_,fun b o e n hb hx=> ?_,I.base.free,fun b o e hx=> ?_,I.base.tups,I.base.frzs,I.base.tbls⟩,⟨m,hn.sameBut hs (Ne.symm (cne x c hc)),fun j y v' e1 e2 e3=> ?_⟩,fun y c' e=> ?_,I.free,I.freeC,fun p hp=> ?_,tracked ⟨oc,hoc,I.freeC x c hc⟩ hs,by simpa using I.len⟩ ⟨c,hs,.inr hc⟩
    · exact(hs.2 b (JJ (J5 (Jz e) (I.ok.cab x c hfn hc)))).trans (I.base.keep b o e n hb hx)
    · obtain⟨sl,e1⟩:=I.base.slot b o e n hb hx
      exact⟨sl,(hs.2 b (JJ (J5 (Jz e) (I.ok.cab x c hfn hc)))).trans e1⟩
    · obtain⟨o',e1⟩:=I.base.there b o e hx
      exact⟨o',(hs.2 b (JJ (J5 (Jz e) (I.ok.cab x c hfn hc)))).trans e1⟩
    · by_cases hj:j=i
      · subst hj
        rw [hi] at e1;cases e1
        rw [JT hiσ] at e2
        cases e2
        exact⟨u,r,.inr ⟨.inl hk,c,hc,hc'⟩⟩
      · rw [JI (Ne.symm hj)] at e2
        obtain⟨u',r',q⟩:=hl j y v' e1 e2 e3
        refine⟨u',r',?_⟩
        rcases q with q | ⟨k,c',e,z'⟩
        · exact .inl q
        · refine .inr ⟨k,c',e,z'.sameBut hs ?_⟩
          rintro rfl
          exact hj (wk hN e1 (I.ok.inj _ _ _ e hc▸hi))
    · by_cases hcc:c'=c
      · subst hcc;exact⟨_,hc'⟩
      · obtain⟨w2,z2⟩:=I.cell y c' e
        exact⟨w2,z2.sameBut hs hcc⟩
    · obtain⟨e,n,ne,nf,d⟩:=I.pin p hp
      refine⟨(hs.2 p.1 ?_).trans e,n,ne,nf,d⟩
      intro q
      rw [q,hoc] at e
      have q':oc=p.2:=JW e
      exact d w' (by rw [←q'];exact hocd)
theorem oX{M:Model}{A:Around}{E:Value→Shared→Prop}{i:Nat}{x:Str}{v:V}{u:Value}{Q:Unit→Shared→Prop}(I:af X pins σ H s)(hN:X.N.Nodup)(hi:X.N[i]?=some x)(hx:gh X.env.scope x)(r:aG v u)
    (h:∀s',af X pins (σ.set i (some v)) H s'→Q () s')(hf:X.fn x=true∨X.env.scope.names.lookup x=some .local:=by first | exact .inl rfl | exact .inr rfl | assumption):wpAny M A (storeName X.env x u) Q E s:=
  wq I hN hi hx r (fun s' I' _=> h s' I') hf
theorem af.call'{s':Shared}{ch:List Addr}(I:af X pins σ H s)(ho:s'.os=s.os)(u:Un (eV X.stack) ch H H' s.heap s'.heap)(hok:bV X.prog X.w H' s'.heap)(hg:AllBare s'.gens)
    (hch:∀b∈ch,(b∈X.ex∨X.s₀.heap.objs.size≤b)∧b≠X.env.locals∧(∀x c,X.env.cells.lookup x=some c→c≠b)∧∀p∈X.pn++pins,p.1≠b):af X pins σ H' s':=by
  obtain⟨h',g',d',t',o'⟩:=s'
  have e:o'=s.os:=ho
  subst e
  exact I.call (g':=g') (t':=t') (d':=d') u hok hg hch
end
abbrev XK:=Value→Option Addr→Hp→Prop
abbrev St:=List (Option V)
abbrev VK:=V→Hp→Prop
abbrev TE:=St→Hp→VK→Prop
abbrev TT:=St→Hp→(Bool→Hp→Prop)→Prop
abbrev TA:=St→Hp→(List V→Hp→Prop)→Prop
structure i3 where
  nx:St→Hp→Prop
  rt:VK
  bk:St→Hp→Prop:=fun _ _=> False
  ct:St→Hp→Prop:=fun _ _=> False
abbrev TS:=i3→St→Hp→Prop
def EP(X:Cx)(pins:List (Addr×Obj))(σ:St)(Q:VK)(u:Value)(s':Shared):Prop:=∃v H',af X pins σ H' s'∧aG v u∧Q v H'
def TP(X:Cx)(pins:List (Addr×Obj))(σ:St)(Q:Bool→Hp→Prop)(b:Bool)(s':Shared):Prop:=∃H',af X pins σ H' s'∧Q b H'
def AP(X:Cx)(pins:List (Addr×Obj))(σ:St)(Q:List V→Hp→Prop)(us:List Value)(s':Shared):Prop:=∃vs H',af X pins σ H' s'∧aH vs us∧Q vs H'
def SP(X:Cx)(pins:List (Addr×Obj))(D:i3)(f:Flow)(s':Shared):Prop:=
  match f with
  | .next=> ∃σ' H',af X pins σ' H' s'∧D.nx σ' H'
  | .brk=> ∃σ' H',af X pins σ' H' s'∧D.bk σ' H'
  | .cont=> ∃σ' H',af X pins σ' H' s'∧D.ct σ' H'
  | .ret u=> ∃v σ' H',af X pins σ' H' s'∧aG v u∧D.rt v H'
def PE(X:Cx)(e:Expr)(t:TE):Prop:=
  ∀(pins:List (Addr×Obj))(s:Shared)(σ:St)(H:Hp)(Q:VK),af X pins σ H s→t σ H Q→wpAny (model X.prog X.w) X.A (eval e X.env) (EP X pins σ Q) X.xe s
def PT(X:Cx)(e:Expr)(t:TT):Prop:=
  ∀(pins:List (Addr×Obj))(s:Shared)(σ:St)(H:Hp)(Q:Bool→Hp→Prop),af X pins σ H s→t σ H Q→wpAny (model X.prog X.w) X.A (isTrue e X.env (eval e X.env)) (TP X pins σ Q) X.xe s
def PW(X:Cx)(e:Expr)(t:TT):Prop:=
  ∀(whole:Sem Value)(pins:List (Addr×Obj))(s:Shared)(σ:St)(H:Hp)(Q:Bool→Hp→Prop),af X pins σ H s→t σ H Q→wpAny (model X.prog X.w) X.A (isTrue e X.env whole) (TP X pins σ Q) X.xe s
theorem PW.pt{X:Cx}{e:Expr}{t:TT}(h:PW X e t):PT X e t:=h _
def PA(X:Cx)(es:List Expr)(t:TA):Prop:=
  ∀(pos:Pos)(pins:List (Addr×Obj))(s:Shared)(σ:St)(H:Hp)(Q:List V→Hp→Prop),af X pins σ H s→t σ H Q→wpAny (model X.prog X.w) X.A (spliced (backTo pos (starEach es X.env))) (AP X pins σ Q) X.xe s
def PS(X:Cx)(st:Stmt)(t:TS):Prop:=
  ∀(pins:List (Addr×Obj))(s:Shared)(σ:St)(H:Hp)(D:i3),af X pins σ H s→t D σ H→wpAny (model X.prog X.w) X.A (exec st X.env) (SP X pins D) X.xe s
def bM(X:Cx)(st:List Stmt)(t:TS):Prop:=
  ∀(pins:List (Addr×Obj))(s:Shared)(σ:St)(H:Hp)(D:i3),af X pins σ H s→t D σ H→wpAny (model X.prog X.w) X.A (execs st X.env) (SP X pins D) X.xe s
theorem aD{α:Type}{t:Sem α}{Q Q':α→Shared→Prop}{M:Model}{A:Around}{E:Value→Shared→Prop}{s:Shared}(h:wpAny M A t Q E s)(hQ:∀a s,Q a s→Q' a s):wpAny M A t Q' E s:=wpAny_mono h hQ fun _ _ x=> x
end L2
namespace L2
open PySem PySem.Spec PyProof.Rows
section
variable {X:Cx}
theorem IZ{a b:Expr}{ta tb:TE}(ha:PE X a ta)(hb:PE X b tb){pins:List (Addr×Obj)}{s:Shared}{σ:St}{H:Hp}{R:V→V→Hp→Prop}(I:af X pins σ H s)(h:ta σ H fun x H1=> tb σ H1 fun y H2=> R x y H2)
    {α:Type}{Q:α→Shared→Prop}{f:Value→Value→Sem α}
    (hf:∀v u s2 x y H2,af X pins σ H2 s2→aG x v→aG y u→R x y H2→wpAny (model X.prog X.w) X.A (f v u) Q X.xe s2):
    wpAny (model X.prog X.w) X.A (eval a X.env) (fun v s₁=> wpAny (model X.prog X.w) X.A (eval b X.env) (fun u s₂=> wpAny (model X.prog X.w) X.A (f v u) Q X.xe s₂) X.xe s₁) X.xe s:=by
  refine aD (ha pins s σ H _ I h) fun v s1 ⟨x,H1,I1,r1,q1⟩=> ?_
  refine aD (hb pins s1 σ H1 _ I1 q1) fun u s2 ⟨y,H2,I2,r2,q2⟩=> ?_
  exact hf v u s2 x y H2 I2 r1 r2 q2
def eO(i:Nat):TE:=fun σ H Q=> ∃v,σ[i]?=some (some v)∧Q v H
def tC(v:V):TE:=fun _ H Q=> Q v H
theorem t6{i:Nat}{x:Str}{pos:Pos}(hN:X.N[i]?=some x)(hv:lS X.env.scope x)(hd:(x==("__debug__":Str))=false:=by decide)(hcd:(x==("__classdict__":Str))=false:=by decide):PE X (.Name x pos) (eO i):=by
  intro pins s σ H Q I h
  obtain⟨v,e,h⟩:=h
  obtain⟨m,hn,hl⟩:=I.loc
  obtain⟨u,r,l⟩:=hl i x v hN e hv
  have fin:EP X pins σ Q u s:=⟨v,H,I,r,h⟩
  rcases l with⟨hk,hm⟩ | ⟨hk,c,hc,hcell⟩
  · exact wpAny_Name (wpAny_loadName_local I.ok.kind hk hn hm fin) hd
  · rcases hk with hk | hk
    · exact wpAny_Name (wpAny_loadName_cell I.ok.kind hk hc hcell fin) hd
    · exact wpAny_Name (wpAny_loadName_free I.ok.kind hk hc hcell fin hcd) hd
theorem aT{i j pos}:PE X (.Constant (.int i) j pos) (tC (.int i)):=fun _ _ _ H _ I h=> wpAny_Constant_int ⟨.int i,H,I.tok _,⟨_,rfl⟩,h⟩
theorem Cc{b j pos}:PE X (.Constant (.bool b) j pos) (tC (.bl b)):=fun _ _ _ H _ I h=> Constant_bool ⟨.bl b,H,I,rfl,h⟩
theorem Cd{j pos}:PE X (.Constant .none j pos) (tC .non):=fun _ _ _ H _ I h=> Constant_none ⟨.non,H,I,rfl,h⟩
theorem t7{x j pos}:PE X (.Constant (.str x) j pos) (tC (.str x)):=fun _ _ _ H _ I h=> Calls.Constant_str ⟨.str x,H,I.tok _,⟨_,rfl⟩,h⟩
def Gl(X:Cx)(x:Str):Prop:=X.env.kindOf x=some .globalImplicit
theorem oY{E:Value→Shared→Prop}{pins:List (Addr×Obj)}{s:Shared}{σ:St}{H:Hp}{x:Str}{u:Value}{pos:Pos}{Q:Value→Shared→Prop}(I:af X pins σ H s)(hg:Gl X x)(hm:X.mg x=some u)(h:Q u s)
    (hd:(x==("__debug__":Str))=false:=by decide):wpAny (model X.prog X.w) X.A (eval (.Name x pos) X.env) Q E s:=
  MK I.ok.kind hg (Calls.loadGlobal_global (by rw [I.ok.glob];exact I.mod.glob.keeps I.bk) hm h) hd
theorem j5{E:Value→Shared→Prop}{pins:List (Addr×Obj)}{s:Shared}{σ:St}{H:Hp}{x:Str}{u:Value}{pos:Pos}{Q:Value→Shared→Prop}(I:af X pins σ H s)(hg:Gl X x)(hm:X.mg x=none)(hv:bootBuiltins x=some u)(h:Q u s)
    (hn:x≠"__name__":=by decide)(hd:(x==("__debug__":Str))=false:=by decide):wpAny (model X.prog X.w) X.A (eval (.Name x pos) X.env) Q E s:=by
  obtain⟨mb,h1,h2⟩:=I.mod.blt
  exact MK I.ok.kind hg (Calls.loadGlobal_builtin (by rw [I.ok.glob];exact I.mod.glob.keeps I.bk) hm (by rw [I.ok.blt];exact h1.keeps I.bk) ((h2 x hn).trans hv) h) hd
theorem j6{x:Str}{v:V}{u:Value}{pos:Pos}(hg:Gl X x)(hm:X.mg x=some u)(r:aG v u)(hd:(x==("__debug__":Str))=false:=by decide):PE X (.Name x pos) (tC v):=
  fun _ _ _ H _ I h=> oY I hg hm ⟨v,H,I,r,h⟩ hd
theorem i4{x:Str}{v:V}{u:Value}{pos:Pos}(hg:Gl X x)(hm:X.mg x=none)(hv:bootBuiltins x=some u)(r:aG v u)(hn:x≠"__name__":=by decide)(hd:(x==("__debug__":Str))=false:=by decide):PE X (.Name x pos) (tC v):=
  fun _ _ _ H _ I h=> j5 I hg hm hv ⟨v,H,I,r,h⟩ hn hd
variable {a b:Expr} {ta tb:TE} {pos:Pos}
def PC(X:Cx)(op:CmpOp)(a b:Expr)(t:TE):Prop:=
  ∀(pins:List (Addr×Obj))(s:Shared)(σ:St)(H:Hp)(Q:VK),af X pins σ H s→t σ H Q→
    wpAny (model X.prog X.w) X.A (eval a X.env) (fun v s₁=> wpAny (model X.prog X.w) X.A (eval b X.env) (fun u s₂=> wpAny (model X.prog X.w) X.A (compareOp op v u) (EP X pins σ Q) X.xe s₂) X.xe s₁) X.xe s
theorem Ce(b:Expr){op:CmpOp}(h:op≠ .In)(h2:op≠ .NotIn):behindInMarks op b=false:=by
  have e1:(op==CmpOp.In)=false:=by cases op <;> first | rfl | exact absurd rfl h
  have e2:(op==O5)=false:=by cases op <;> first | rfl | exact absurd rfl h2
  cases b <;> simp [behindInMarks,e1,e2]
def tB(t:TE):TT:=fun σ H Q=> t σ H fun x H1=> ∃c,x= .bl c∧Q c H1
theorem t8{op:CmpOp}{t:TE}(h:PC X op a b t)(h1:behindInMarks op b=false:=by first | exact Ce _ (by decide) (by decide) | rfl):PT X (.Compare a [op] [b] pos) (tB t):=by
  intro pins s σ H Q I hw
  refine wpAny_isTrue_Compare1 (aD (h pins s σ H _ I hw) fun v s1 h1=> aD h1 fun u s2 h2=> aD h2 fun c s3 ⟨x,H1,I1,r1,q1⟩=> ?_) h1
  obtain⟨d,rfl,q⟩:=q1
  cases r1
  exact wpAny_truthy_bool ⟨H1,I1,q⟩
theorem wt{e:Expr}{t:TE}(h:PE X e t)(he:∀whole,isTrue e X.env whole=(do let v←whole;standAt e.pos;holding [v] (truthy v)):=by intro _;rfl):PT X e (tB t):=by
  intro pins s σ H Q I hw
  refine isTrue_plain (aD (h pins s σ H _ I hw) fun v s1 ⟨x,H1,I1,r1,q1⟩=> ?_) (he _)
  obtain⟨d,rfl,q⟩:=q1
  cases r1
  exact wpAny_truthy_bool ⟨H1,I1,q⟩
variable {tA tB':TT} {rest:List Expr}
def wu(t u:TT):TT:=fun σ H Q=> t σ H fun c H1=> if c=true then u σ H1 Q else Q false H1
def wx(t u:TT):TT:=fun σ H Q=> t σ H fun c H1=> if c=true then Q true H1 else u σ H1 Q
def wy(t:TT):TT:=fun σ H Q=> t σ H fun c H1=> Q (!c) H1
theorem wz(ha:PT X a tA):PW X (.BoolOp .And [a] pos) tA:=by
  intro wh pins s σ H Q I h
  refine isTrue_and (aD (ha pins s σ H Q I h) fun c s1 e=> ?_)
  cases c with
  | true=> exact isTrue_and_nil e
  | false=> exact e
theorem wA(ha:PT X a tA):PW X (.BoolOp .Or [a] pos) tA:=by
  intro wh pins s σ H Q I h
  refine isTrue_or (aD (ha pins s σ H Q I h) fun c s1 e=> ?_)
  cases c with
  | false=> exact isTrue_or_nil e
  | true=> exact e
theorem wB(ha:PT X a tA)(hb:PW X (.BoolOp .And (b::rest) pos) tB'):PW X (.BoolOp .And (a::b::rest) pos) (wu tA tB'):=by
  intro wh pins s σ H Q I h
  refine isTrue_and (aD (ha pins s σ H _ I h) fun c s1 ⟨H1,I1,q1⟩=> ?_)
  cases c with
  | true=> exact hb wh pins s1 σ H1 Q I1 q1
  | false=> exact⟨H1,I1,q1⟩
theorem wC(ha:PT X a tA)(hb:PW X (.BoolOp .Or (b::rest) pos) tB'):PW X (.BoolOp .Or (a::b::rest) pos) (wx tA tB'):=by
  intro wh pins s σ H Q I h
  refine isTrue_or (aD (ha pins s σ H _ I h) fun c s1 ⟨H1,I1,q1⟩=> ?_)
  cases c with
  | true=> exact⟨H1,I1,q1⟩
  | false=> exact hb wh pins s1 σ H1 Q I1 q1
theorem Cf(ha:PT X a tA):PT X (.UnaryOp .Not a pos) (wy tA):=by
  intro pins s σ H Q I h
  exact isTrue_not (ha pins s σ H (fun c H1=> Q (!c) H1) I h)
def wD(ta tb:TE):TE:=fun σ H Q=> ta σ H fun x H1=> ∃c,x= .bl c∧if c=true then tb σ H1 Q else Q (.bl false) H1
def wF(ta tb:TE):TE:=fun σ H Q=> ta σ H fun x H1=> ∃c,x= .bl c∧if c=true then Q (.bl true) H1 else tb σ H1 Q
def wG(ta:TE):TE:=fun σ H Q=> ta σ H fun x H1=> ∃c,x= .bl c∧Q (.bl (!c)) H1
theorem ua{op}{t:TE}(h:PE X a t):PE X (.BoolOp op [a] pos) t:=fun pins s σ H Q I hw=> BoolOp_one (h pins s σ H Q I hw)
theorem wH(ha:PE X a ta)(hb:PE X (.BoolOp .And (b::rest) pos) tb):PE X (.BoolOp .And (a::b::rest) pos) (wD ta tb):=by
  intro pins s σ H Q I h
  refine BoolOp_and (aD (ha pins s σ H _ I h) fun v s1 ⟨x,H1,I1,r1,q1⟩=> ?_)
  obtain⟨c,rfl,q1⟩:=q1
  cases r1
  refine wpAny_truthy_bool ?_
  cases c with
  | true=> exact hb pins s1 σ H1 Q I1 q1
  | false=> exact⟨.bl false,H1,I1,rfl,q1⟩
theorem wI(ha:PE X a ta)(hb:PE X (.BoolOp .Or (b::rest) pos) tb):PE X (.BoolOp .Or (a::b::rest) pos) (wF ta tb):=by
  intro pins s σ H Q I h
  refine BoolOp_or (aD (ha pins s σ H _ I h) fun v s1 ⟨x,H1,I1,r1,q1⟩=> ?_)
  obtain⟨c,rfl,q1⟩:=q1
  cases r1
  refine wpAny_truthy_bool ?_
  cases c with
  | false=> exact hb pins s1 σ H1 Q I1 q1
  | true=> exact⟨.bl true,H1,I1,rfl,q1⟩
theorem Cg(ha:PE X a ta):PE X (.UnaryOp .Not a pos) (wG ta):=by
  intro pins s σ H Q I h
  refine UnaryOp_ (aD (ha pins s σ H _ I h) fun v s1 ⟨x,H1,I1,r1,q1⟩=> ?_)
  obtain⟨c,rfl,q1⟩:=q1
  cases r1
  exact not_of (wpAny_truthy_bool ⟨.bl (!c),H1,I1,rfl,q1⟩)
def wJ(t:TT)(ta tb:TE):TE:=fun σ H Q=> t σ H fun c H1=> if c=true then ta σ H1 Q else tb σ H1 Q
theorem wK{c:Expr}(hc:PT X c tA)(ha:PE X a ta)(hb:PE X b tb):PE X (.IfExp c a b pos) (wJ tA ta tb):=by
  intro pins s σ H Q I h
  refine wpAny_IfExp (aD (hc pins s σ H _ I h) fun d s1 ⟨H1,I1,q1⟩=> ?_)
  cases d with
  | true=> exact ha pins s1 σ H1 Q I1 q1
  | false=> exact hb pins s1 σ H1 Q I1 q1
end
end L2
namespace L2
open PySem PySem.Spec PyProof.Rows
def aP(K:Jd)(H:Hp)(a:Addr)(xs:List V):Prop:=
  Rd H a (.lst xs)∨
    ∃(o:Obj)(its:Array Value)(n:Nat),K.lookup a=some o∧o.cls= .type "list"∧o.dict=none∧o.data= .seq its n∧its.size≤sizeLine∧aH xs its.toList
def bB(K:Jd)(H:Hp)(a:Addr)(xs:List V):Prop:=
  Rd H a (.tup xs)∨
    ∃(o:Obj)(its:Array Value)(n:Nat),K.lookup a=some o∧o.cls= .type "tuple"∧o.data= .seq its n∧its.size≤sizeLine∧aH xs its.toList
def Ci:Value→Option V
  | .none=> some .non
  | .bool b=> some (.bl b)
  | .int i _=> some (.int i)
  | .str x _=> some (.str x)
  | .bytes b _=> some (.byt b)
  | .float b _=> some (.flt b)
  | .ref a=> some (.ref a)
  | .type n=> some (.ty n)
  | _=> none
theorem aG.abs{x:V}{u:Value}(r:aG x u):Ci u=some x:=by
  cases x with
  | non=> cases r;rfl
  | bl _=> cases r;rfl
  | int _=> obtain⟨t,rfl⟩:=r;rfl
  | str _=> obtain⟨t,rfl⟩:=r;rfl
  | byt _=> obtain⟨t,rfl⟩:=r;rfl
  | flt _=> obtain⟨t,rfl⟩:=r;rfl
  | ref _=> cases r;rfl
  | ty _=> cases r;rfl
theorem aG.inj{x y:V}{u:Value}(r:aG x u)(q:aG y u):x=y:=JW (r.abs.symm.trans q.abs)
theorem aH.inj:∀{xs ys:List V}{us:List Value},aH xs us→aH ys us→xs=ys
  | _,_,_,.nil,.nil=> rfl
  | _,_,_,.cons r t,.cons r' t'=> by rw [r.inj r',aH.inj t t']
section
variable {X:Cx} {pins:List (Addr×Obj)} {σ:St} {H:Hp} {s:Shared} {a:Addr} {xs ys:List V}
theorem aP.of{K:Jd}(h:H a=some (.lst xs)):aP K H a xs:= .inl (.inl h)
theorem bB.of{K:Jd}(h:H a=some (.tup xs)):bB K H a xs:= .inl (.inl h)
theorem af.list(I:af X pins σ H s)(h:aP X.K H a xs):∃its:List Value,aH xs its∧PlainL s.heap a its.toArray∧xs.length≤sizeLine:=by
  rcases h with h | ⟨o,its,n,hk,hc,hd,hs,hz,r⟩
  · obtain⟨z,its,n,r,e⟩:=h.ok I.hok
    exact⟨its,r,⟨_,n,e,rfl,rfl,rfl⟩,z⟩
  · refine⟨its.toList,r,⟨o,n,I.kIn a o hk,hc,hd,by simpa using hs⟩,?_⟩
    have e:=r.length
    simp only [J1] at e
    omega
theorem af.tuple(I:af X pins σ H s)(h:bB X.K H a xs):∃its:List Value,aH xs its∧IsTup s.heap a its.toArray∧xs.length≤sizeLine:=by
  rcases h with h | ⟨o,its,n,hk,hc,hs,hz,r⟩
  · obtain⟨z,its,r,p⟩:=h.ok I.hok
    exact⟨its,r,p,z⟩
  · refine⟨its.toList,r,⟨o,I.kIn a o hk,hc,n,by simpa using hs⟩,?_⟩
    have e:=r.length
    simp only [J1] at e
    omega
theorem af.list_inj(I:af X pins σ H s)(h:aP X.K H a xs)(h':aP X.K H a ys):xs=ys:=by
  obtain⟨its,r,⟨o,n,e,_,_,d⟩,_⟩:=I.list h
  obtain⟨its',r',⟨o',n',e',_,_,d'⟩,_⟩:=I.list h'
  rw [e] at e';cases e'
  rw [d] at d'
  injection d' with d1 _
  have:its=its':=by simpa using congrArg OT d1
  subst this
  exact r.inj r'
theorem af.tuple_inj(I:af X pins σ H s)(h:bB X.K H a xs)(h':bB X.K H a ys):xs=ys:=by
  obtain⟨its,r,⟨o,e,_,n,d⟩,_⟩:=I.tuple h
  obtain⟨its',r',⟨o',e',_,n',d'⟩,_⟩:=I.tuple h'
  rw [e] at e';cases e'
  rw [d] at d'
  injection d' with d1 _
  have:its=its':=by simpa using congrArg OT d1
  subst this
  exact r.inj r'
end
abbrev Cx.wish(X:Cx)(E:Value→Shared→Prop):Cx:={X with xe:=E}
abbrev Cx.nox(X:Cx):Cx:=X.wish fun _ _=> False
theorem Cx.Ok.wish{X:Cx}(ok:X.Ok)(E:Value→Shared→Prop):(X.wish E).Ok:=
  ⟨ok.mod,ok.kind,ok.glob,ok.blt,ok.above,ok.inj,ok.has,ok.cab,ok.hd,ok.frames,ok.stk,ok.exf,ok.bs,ok.bsz,ok.noex,ok.exfs,ok.funs,ok.frf⟩
theorem Cx.Ok.unwish{X:Cx}{E:Value→Shared→Prop}(ok:(X.wish E).Ok):X.Ok:=
  ⟨ok.mod,ok.kind,ok.glob,ok.blt,ok.above,ok.inj,ok.has,ok.cab,ok.hd,ok.frames,ok.stk,ok.exf,ok.bs,ok.bsz,ok.noex,ok.exfs,ok.funs,ok.frf⟩
section
variable {X:Cx} {pins:List (Addr×Obj)} {σ:St} {H:Hp} {s:Shared} {E:Value→Shared→Prop}
theorem af.wish(I:af X pins σ H s)(E:Value→Shared→Prop):af (X.wish E) pins σ H s:=⟨I.ok.wish E,I.os,I.bare,I.base,I.loc,I.cell,I.free,I.freeC,I.pin,I.hok,I.len⟩
theorem af.unwish(I:af (X.wish E) pins σ H s):af X pins σ H s:=⟨I.ok.unwish,I.os,I.bare,I.base,I.loc,I.cell,I.free,I.freeC,I.pin,I.hok,I.len⟩
theorem SP.unwish{D:i3}{f:Flow}{s':Shared}(h:SP (X.wish E) pins D f s'):SP X pins D f s':=by
  cases f with
  | next=> obtain⟨σ',H',I,q⟩:=h;exact⟨σ',H',I.unwish,q⟩
  | brk=> obtain⟨σ',H',I,q⟩:=h;exact⟨σ',H',I.unwish,q⟩
  | cont=> obtain⟨σ',H',I,q⟩:=h;exact⟨σ',H',I.unwish,q⟩
  | ret u=> obtain⟨v,σ',H',I,r,q⟩:=h;exact⟨v,σ',H',I.unwish,r,q⟩
theorem bM.nox{st:List Stmt}{t:TS}(h:bM X.nox st t):bM X st t:=fun pins s σ H D I hw=>
  wpAny_mono (h pins s σ H D (I.wish _) hw) (fun _ _ q=> q.unwish) fun _ _ z=> KD z
end
section
variable {X:Cx} {st:Stmt} {rest:List Stmt} {t u:TS} {e:Expr} {te:TE} {pos:Pos}
def wL:TS:=fun D σ H=> D.nx σ H
def wM(t u:TS):TS:=fun D σ H=> t {D with nx:=u D} σ H
theorem jx:bM X [] wL:=fun _ _ σ H _ I h=> wpAny_execs_nil ⟨σ,H,I,h⟩
theorem cx(h1:PS X st t)(h2:bM X rest u):bM X (st::rest) (wM t u):=by
  intro pins s σ H D I h
  refine wpAny_execs_cons (aD (h1 pins s σ H {D with nx:=u D} I h) fun f s1 q=> ?_)
  cases f with
  | next=>
    obtain⟨σ',H',I',q⟩:=q
    exact h2 pins s1 σ' H' D I' q
  | ret v=> exact q
  | brk=> exact q
  | cont=> exact q
theorem dE(h1:PS X st t):bM X [st] t:=by
  intro pins s σ H D I h
  refine wpAny_execs_cons (aD (h1 pins s σ H D I h) fun f s1 q=> ?_)
  cases f with
  | next=> exact wpAny_execs_nil q
  | ret v=> exact q
  | brk=> exact q
  | cont=> exact q
theorem af.quiet{pins:List (Addr×Obj)}{σ:St}{H:Hp}{s:Shared}(I:af X pins σ H s):interactive X.env=false:=by simp [interactive,I.ok.kind]
def wN(te:TE):TS:=fun D σ H=> te σ H fun _ H1=> D.nx σ H1
theorem wO(he:PE X e te)(hs:swapsWith e none pos.line X.env=pure false:=by rfl):PS X (.Expr e pos) (wN te):=by
  intro pins s σ H D I h
  exact wpAny_Expr_any (aD (he pins s σ H _ I h) fun v s1 uu12=> by obtain⟨x,H1,I1,r1,q1⟩:=uu12;exact⟨σ,H1,I1,q1⟩) I.quiet hs
def wQ(te:TE):TS:=fun D σ H=> te σ H D.rt
theorem dY(he:PE X e te):PS X (.Return (some e) pos) (wQ te):=by
  intro pins s σ H D I h
  exact wpAny_Return_some (aD (he pins s σ H _ I h) fun v s1 uu13=> by obtain⟨x,H1,I1,r1,q1⟩:=uu13;exact⟨x,σ,H1,I1,r1,q1⟩)
def wR(c:TT)(t u:TS):TS:=fun D σ H=> c σ H fun b H1=> if b=true then t D σ H1 else u D σ H1
theorem jy{c:Expr}{a b:List Stmt}{tc:TT}(hc:PT X c tc)(ha:bM X a t)(hb:bM X b u):PS X (.If c a b pos) (wR tc t u):=by
  intro pins s σ H D I h
  refine wpAny_If (aD (hc pins s σ H _ I h) fun d s1 ⟨H1,I1,q1⟩=> ?_)
  cases d with
  | true=> exact ha pins s1 σ H1 D I1 q1
  | false=> exact hb pins s1 σ H1 D I1 q1
def Cj:TS:=fun _ _ _=> False
theorem Ck:PS X st Cj:=fun _ _ _ _ _ _ h=> h.elim
end
abbrev TG:=V→St→Hp→(St→Hp→Prop)→Prop
abbrev gi:=List V→St→Hp→(St→Hp→Prop)→Prop
def PG(X:Cx)(target:Expr)(t:TG):Prop:=
  ∀(pins:List (Addr×Obj))(s:Shared)(σ:St)(H:Hp)(v:V)(u:Value)(Q:St→Hp→Prop),af X pins σ H s→aG v u→t v σ H Q→
    wpAny (model X.prog X.w) X.A (assign target X.env u) (fun _ s'=> ∃σ' H',af X pins σ' H' s'∧Q σ' H') X.xe s
def oZ(X:Cx)(ts:List Expr)(t:gi):Prop:=
  ∀(pins:List (Addr×Obj))(s:Shared)(σ:St)(H:Hp)(vs:List V)(us:List Value)(Q:St→Hp→Prop),af X pins σ H s→aH vs us→t vs σ H Q→
    wpAny (model X.prog X.w) X.A (assignInOrder ((assignEach ts X.env).map (·.2)) us) (fun _ s'=> ∃σ' H',af X pins σ' H' s'∧Q σ' H') X.xe s
abbrev uc:=V→V→V→Hp→(Hp→Prop)→Prop
def wU(X:Cx)(t:uc):Prop:=
  ∀(pins:List (Addr×Obj))(s:Shared)(σ:St)(H:Hp)(o i v:V)(ov iv u:Value)(Q:Hp→Prop),af X pins σ H s→aG o ov→aG i iv→aG v u→t o i v H Q→
    wpAny (model X.prog X.w) X.A (setItem ov iv u) (fun _ s'=> ∃H',af X pins σ H' s'∧Q H') X.xe s
section
variable {X:Cx} {pos:Pos}
def gn(i:Nat):TG:=fun v σ H Q=> Q (σ.set i (some v)) H
theorem aU{i:Nat}{x:Str}(hN:X.N.Nodup)(hi:X.N[i]?=some x)(hx:gh X.env.scope x)(hf:X.fn x=true∨X.env.scope.names.lookup x=some .local:=by first | exact .inl rfl | exact .inr rfl | assumption):PG X (.Name x pos) (gn i):=by
  intro pins s σ H v u Q I r h
  exact wpAny_assign_Name (oX I hN hi hx r (fun s' I'=> ⟨_,H,I',h⟩) hf)
def pb:gi:=fun vs σ H Q=> vs=[]∧Q σ H
def lT(t:TG)(u:gi):gi:=fun vs σ H Q=> ∃v r,vs=v::r∧t v σ H fun σ' H'=> u r σ' H' Q
theorem i6:oZ X [] pb:=by
  intro pins s σ H vs us Q I r h
  obtain⟨e,h⟩:=h
  subst e
  cases r
  exact assignInOrder_nil ⟨σ,H,I,h⟩
theorem dF{e:Expr}{es:List Expr}{t:TG}{u:gi}(h1:PG X e t)(h2:oZ X es u)
    (hs:(assignEach (e::es) X.env).map (·.2)=assign e X.env::(assignEach es X.env).map (·.2):=by rfl):oZ X (e::es) (lT t u):=by
  intro pins s σ H vs us Q I r h
  obtain⟨v,vr,e1,h⟩:=h
  subst e1
  cases r with
  | cons r rr=>
    rw [hs]
    refine assignInOrder_cons (aD (h1 pins s σ H _ _ _ I r h) fun _ s1 ⟨σ1,H1,I1,q1⟩=> ?_)
    exact h2 pins s1 σ1 H1 _ _ Q I1 rr q1
def pd(K:Jd)(n:Nat)(t:gi):TG:=fun v σ H Q=> ∃a xs,v= .ref a∧bB K H a xs∧xs.length=n∧t xs σ H Q
theorem i7{es:List Expr}{k:Nat}{t:gi}{n:Nat}(hc:X.calm=true)(h:oZ X es t)
    (hn:(assignEach es X.env).length=n:=by rfl)(hst:(assignEach es X.env).findIdx? (·.1)=none:=by rfl):PG X (.Tuple es k pos) (pd X.K n t):=by
  intro pins s σ H v u Q I r hw
  obtain⟨a,xs,e1,hq,hl,hw⟩:=hw
  subst e1
  cases r
  obtain⟨its,rv,ht,hz⟩:=I.tuple hq
  refine assign_Tuple_tuple (I.ok.hd hc) ht (by simp [hn,←hl,rv.length]) hst fun h' hx=> ?_
  have I1:af X pins σ H {s with heap:=h'}:=I.kept (t':=s.toks) fun b o e=> hx b o (JJ (Jz e)) e
  exact h pins _ σ H xs _ Q I1 (by simpa using rv) hw
def wV(to ti:TE)(t:uc):TG:=fun v σ H Q=> to σ H fun o H1=> ti σ H1 fun i H2=> t o i v H2 fun H3=> Q σ H3
theorem ud{o i:Expr}{to ti:TE}{t:uc}(ho:PE X o to)(hi:PE X i ti)(hs:wU X t)
    (ha:∀v,assign (.Subscript o i pos) X.env v=(do
      let ov←holding [v] (eval o X.env)
      let iv←holding [v,ov] (eval i X.env)
      standAt pos
      holding [v,ov,iv] (setItem ov iv v)
      release [v,ov,iv] []):=by intro _;rfl):PG X (.Subscript o i pos) (wV to ti t):=by
  intro pins s σ H v u Q I r h
  rw [ha]
  refine wpAny_bind (wpAny_holding (aD (ho pins s σ H _ I h) fun ov s1 ⟨x,H1,I1,r1,q1⟩=> ?_))
  refine wpAny_bind (wpAny_holding (aD (hi pins s1 σ H1 _ I1 q1) fun iv s2 ⟨y,H2,I2,r2,q2⟩=> ?_))
  refine wpAny_bind (wpAny_standAt (wpAny_bind (wpAny_holding (aD (hs pins s2 σ H2 x y v ov iv u _ I2 r1 r2 r q2) fun _ s3 ⟨H3,I3,q3⟩=> ?_))))
  exact wpAny_release ⟨σ,H3,I3,q3⟩
def lU(te:TE)(g:TG):TS:=fun D σ H=> te σ H fun x H1=> g x σ H1 D.nx
theorem pe{tg e:Expr}{te:TE}{g:TG}(he:PE X e te)(hg:PG X tg g)(hs:swapsWithSole [tg] e pos.line X.env=pure false:=by rfl)(hw:swappedStores [tg] e X.env=pure none:=by rfl)
    (h1:(assignEach [tg] X.env).map (·.2)=[assign tg X.env]:=by rfl):PS X (.Assign [tg] e pos) (lU te g):=by
  intro pins s σ H D I h
  refine wpAny_Assign_stores (aD (he pins s σ H _ I h) fun v s1 ⟨x,H1,I1,r1,q1⟩=> ?_) hs hw
  rw [h1]
  exact aD (hg pins s1 σ H1 x v _ I1 r1 q1) fun _ s2 q=> q
theorem di{i:Nat}{x:Str}{e:Expr}{te:TE}{pos':Pos}(hN:X.N.Nodup)(hi:X.N[i]?=some x)(hx:gh X.env.scope x)(he:PE X e te)(hs:swapsWith e (some (.Name x pos')) pos.line X.env=pure false:=by rfl)(hf:X.fn x=true∨X.env.scope.names.lookup x=some .local:=by first | exact .inl rfl | exact .inr rfl | assumption):
    PS X (.Assign [.Name x pos'] e pos) (lU te (gn i)):=by
  intro pins s σ H D I h
  refine wpAny_Assign_Name (aD (he pins s σ H _ I h) fun v s1 ⟨y,H1,I1,r1,q1⟩=> ?_) hs
  exact oX I1 hN hi hx r1 (fun s2 I2=> ⟨_,H1,I2,q1⟩) hf
def wX(i j:Nat)(ta:TA):TS:=fun D σ H=> ta σ H fun vs H1=> ∃v w,vs=[v,w]∧D.nx ((σ.set i (some v)).set j (some w)) H1
theorem wY{i j:Nat}{x y:Str}{a b:Expr}{ta:TA}{px py pt:Pos}{kt k2 pt2}(hc:X.calm=true)(hN:X.N.Nodup)(hi:X.N[i]?=some x)(hj:X.N[j]?=some y)(hij:i≠j)
    (hx:X.env.scope.names.lookup x=some .local)(hy:X.env.scope.names.lookup y=some .local)(ha:PA X [a,b] ta)
    (hw:swappedStores [.Tuple [.Name x px,.Name y py] kt pt] (.Tuple [a,b] k2 pt2) X.env=pure (some [x,y]))
    (hs:swapsWithSole [.Tuple [.Name x px,.Name y py] kt pt] (.Tuple [a,b] k2 pt2) pos.line X.env=pure false:=by rfl):
    PS X (.Assign [.Tuple [.Name x px,.Name y py] kt pt] (.Tuple [a,b] k2 pt2) pos) (wX i j ta):=by
  intro pins s σ H D I h
  rw [exec_Assign_arm]
  refine wpAny_bind (wpAny_standAt ?_)
  rw [hs]
  refine wpAny_bind (wpAny_pure ?_)
  rw [if_neg (by decide)]
  refine wpAny_bind (Tuple_ (aD (ha _ pins s σ H _ I h) fun us s1 ⟨vs,H1,I1,r1,q1⟩=> ?_))
  obtain⟨v,w,e1,q1⟩:=q1
  subst e1
  obtain⟨u1,u2,rfl,rv,rw'⟩:∃u1 u2,us=[u1,u2]∧aG v u1∧aG w u2:=by
    cases r1 with
    | cons p q=>
      cases q with
      | cons p' q'=>
        cases q'
        exact⟨_,_,rfl,p,p'⟩
  refine wpAny_newObj_type ?_ (by show 2≤sizeLine;decide)
  have I2:af X pins σ H1 {s1 with heap:=s1.heap.push {cls:= .type "tuple",data:= .seq [u1,u2].toArray}}:=I1.kept (t':=s1.toks) fun b o e=> Jl _ e
  rw [hw]
  refine wpAny_bind (wpAny_pure ?_)
  show wpAny (model X.prog X.w) X.A (do rule "assign.swapped-stores";let items←unpackItems (.ref s1.heap.objs.size) 2 none;assignInOrder [fun v=> bindName X.env y v,fun v=> bindName X.env x v] items.reverse;pure Pa) _ _ _
  refine wpAny_bind (wpAny_rule (wpAny_bind (unpackItems_tuple (items:=#[u1,u2]) (I.ok.hd hc) (OI s1.heap _) fun h' hx'=> ?_)))
  have I3:=I2.kept (h':=h') (t':=s1.toks) fun b o e=> hx' b o (JJ (Jz e)) e
  show wpAny _ _ (assignInOrder [fun v=> bindName X.env y v,fun v=> bindName X.env x v] [u2,u1] >>=fun _=> pure Pa) _ _ _
  refine wpAny_bind (assignInOrder_cons (wpAny_bindName (oX I3 hN hj (.inl hy) rw' (fun s2 I4=> ?_) (.inr hy))))
  refine assignInOrder_cons (wpAny_bindName (oX I4 hN hi (.inl hx) rv (fun s3 I5=> assignInOrder_nil (wpAny_pure ?_)) (.inr hx)))
  rw [List.set_comm _ _ (Ne.symm hij)] at I5
  exact⟨_,H1,I5,q1⟩
end
section
variable {X:Cx} {pos:Pos}
def Cm(c:TT)(tb:TS):TS:=fun D σ H=> ∃W:Nat→St→Hp→Prop,(∃m,W m σ H)∧∀m σ H,W m σ H→
  c σ H fun b H1=> if b=true then ∃N:St→Hp→Prop,(∀σ' H',N σ' H'→∃m',m' < m∧W m' σ' H')∧tb {D with nx:=N,ct:=N,bk:=D.nx} σ H1 else D.nx σ H1
theorem wZ{c:Expr}{body:List Stmt}{tc:TT}{tb:TS}(hp:PassesOwn (model X.prog X.w) X.A X.env X.xe)(hc:PT X c tc)(hb:bM X body tb):PS X (.While c body [] pos) (Cm tc tb):=by
  intro pins s σ H D I h
  obtain⟨W,⟨m0,w0⟩,turn⟩:=h
  refine wpAny_While (codeAny_whileLoop (fun n s'=> ∃σ' H',af X pins σ' H' s'∧W n σ' H') ?_ m0 ⟨σ,H,I,w0⟩)
  rintro n s1 ⟨σ1,H1,I1,w1⟩
  refine wpAny_passesOwn hp (aD (hc pins s1 σ1 H1 _ I1 (turn n σ1 H1 w1)) fun b s2 ⟨H2,I2,q2⟩=> ?_)
  cases b with
  | true=>
    obtain⟨N,hN,q2⟩:=q2
    rw [if_pos rfl]
    refine wpAny_passesOwn hp (aD (hb pins s2 σ1 H2 _ I2 q2) fun f s3 q3=> ?_)
    cases f with
    | next=>
      obtain⟨σ3,H3,I3,n3⟩:=q3
      obtain⟨m',hm,w3⟩:=hN σ3 H3 n3
      exact⟨m',hm,σ3,H3,I3,w3⟩
    | cont=>
      obtain⟨σ3,H3,I3,n3⟩:=q3
      obtain⟨m',hm,w3⟩:=hN σ3 H3 n3
      exact⟨m',hm,σ3,H3,I3,w3⟩
    | brk=> exact q3
    | ret v=> exact q3
  | false=>
    rw [if_neg Jk]
    exact wpAny_execs_nil ⟨σ1,H2,I2,q2⟩
end
structure It where
  go:Nat→Hp→Prop
  yld:Nat→Hp→V→Hp→Prop
  stop:Nat→Hp→Prop
def fE(X:Cx)(pins:List (Addr×Obj))(H:Hp)(b:Addr):Prop:=
  H b=none∧b≠X.env.locals∧b ∉ X.fs∧(b∈X.ex∨X.s₀.heap.objs.size≤b)∧(∀x c,X.env.cells.lookup x=some c→c≠b)∧∀p∈X.pn++pins,p.1≠b
theorem af.fpOk{X:Cx}{pins:List (Addr×Obj)}{σ:St}{H H':Hp}{s:Shared}{b:Addr}(I:af X pins σ H s)(hb:s.heap.objs.size≤b)(hn:H' b=none):fE X pins H' b:=by
  refine⟨hn,M7 (J5 I.lt hb),I.nofs hb,.inr (JL I.sz hb),fun x c e z=> ?_,fun p hp z=> ?_⟩
  · obtain⟨v,q⟩:=I.cell x c e
    exact absurd (J5 q.lt (by rw [z];exact hb)) (Lj _)
  · exact absurd (J5 (Jz (I.pin p hp).1) (by rw [z];exact hb)) (Lj _)
structure lV (P:Program) (w:World) (K:Jd) (tg:Expr) (J:It) (fp:List Addr) (it:Addr) (tn:Nat→Heap→Prop):Prop where
  mem:it∈fp
  obj:∀i h,tn i h→∀b∈fp,∃o,h.get? b=some o∧∀v,o.data≠ .cell v
  keep:∀i h h',tn i h→(∀b∈fp,∀o,h.get? b=some o→h'.get? b=some o)→tn i h'
  item:∀(X:Cx),X.prog=P→X.w=w→X.K=K→X.calm=true→∀(i:Nat)(pins:List (Addr×Obj))(s:Shared)(σ:St)(H:Hp)(E:Value→Shared→Prop),af X pins σ H s→(∀b∈fp,fE X pins H b)→tn i s.heap→J.go i H→
    wpAny (model P w) X.A (pyNext (.ref it)) (fun r s1=> ∃u,r=some u∧
      wpAny (model P w) X.A (letOwnedTupleGo tg (.ref it) u) (fun _ s2=> ∃x H',af X pins σ H' s2∧aG x u∧J.yld i H x H'∧tn (i+1) s2.heap∧∀b∈fp,H' b=none) E s1) E s
  done:∀(X:Cx),X.prog=P→X.w=w→X.K=K→X.calm=true→∀(i:Nat)(pins:List (Addr×Obj))(s:Shared)(σ:St)(H:Hp)(E:Value→Shared→Prop),af X pins σ H s→(∀b∈fp,fE X pins H b)→tn i s.heap→J.stop i H→
    wpAny (model P w) X.A (pyNext (.ref it)) (fun r s1=> r=none∧af X pins σ H s1) E s
  self:∀(A:Around)(i:Nat)(s:Shared)(Q:Value→Shared→Prop)(E:Value→Shared→Prop),tn i s.heap→Q (.ref it) s→wpAny (model P w) A (pyIter (.ref it)) Q E s
abbrev TI:=St→Hp→(It→Hp→Prop)→Prop
def w6(X:Cx)(pins:List (Addr×Obj))(σ:St)(tg:Expr)(R:It→Hp→Prop)(itv:Value)(s2:Shared):Prop:=
  ∃(it:Addr)(fp:List Addr)(tn:Nat→Heap→Prop)(J:It)(H':Hp),itv= .ref it∧af X pins σ H' s2∧lV X.prog X.w X.K tg J fp it tn∧tn 0 s2.heap∧(∀b∈fp,fE X pins H' b)∧R J H'
def PI(X:Cx)(tg iter:Expr)(wi:TI):Prop:=
  ∀(pins:List (Addr×Obj))(s:Shared)(σ:St)(H:Hp)(R:It→Hp→Prop),af X pins σ H s→wi σ H R→
    wpAny (model X.prog X.w) X.A (eval iter X.env) (fun v s1=> wpAny (model X.prog X.w) X.A (pyIter v) (w6 X pins σ tg R) X.xe s1) X.xe s
theorem pf{M:Model}{A:Around}{E:Value→Shared→Prop}{s:Shared}{tg:Expr}{it:Addr}{u:Value}{o:Obj}{n:String}{vs:Array Value}{Q:Unit→Shared→Prop}(ho:s.heap.get? it=some o)(hc:o.cls= .type n)(hd:o.data= .fields vs)
    (hn:["enumerate","zip","dict_itemiterator","dict_reverseitemiterator","odict_iterator","itertools.zip_longest","itertools.pairwise"].contains n=false)(hQ:Q () s):wpAny M A (letOwnedTupleGo tg (.ref it) u) Q E s:=by
  unfold letOwnedTupleGo
  cases tg <;> first
    | exact wpAny_pure hQ
    | (cases u <;> first
        | exact wpAny_pure hQ
        | (refine wpAny_bind (wpAny_load ho ?_)
           rw [hc,hd]
           show wpAny M A (if (["enumerate","zip","dict_itemiterator","dict_reverseitemiterator","odict_iterator","itertools.zip_longest","itertools.pairwise"].contains n && vs[0]?==some (rawInt _))=true then _ else _) Q E s
           rw [if_neg (by intro h;rw [hn,MD] at h;cases h)]
           exact wpAny_pure hQ))
def lW(K:Jd)(a:Addr):It:=
  ⟨fun i H=> ∃xs x,aP K H a xs∧xs[i]?=some x,fun i H x H'=> H'=H∧∀xs,aP K H a xs→xs[i]?=some x,fun i H=> ∃xs,aP K H a xs∧xs.length≤i⟩
def lX(K:Jd)(a:Addr):It:=
  ⟨fun i H=> ∃xs x,bB K H a xs∧xs[i]?=some x,fun i H x H'=> H'=H∧∀xs,bB K H a xs→xs[i]?=some x,fun i H=> ∃xs,bB K H a xs∧xs.length≤i⟩
def gq(lo:Int)(n:Nat):It:=⟨fun i _=> i < n,fun i H x H'=> H'=H∧x= .int (lo+i),fun i _=> n≤i⟩
theorem Cn{P:Program}{w:World}{K:Jd}{tg:Expr}(a it:Addr):lV P w K tg (lW K a) [it] it (fun i h=> h.IsListIter it a i) where
  mem:=by simp
  obj:=fun i h st b hb=> by
    have e:b=it:=by simpa using hb
    subst e
    obtain⟨o,e,c,d⟩:=st
    exact⟨o,e,fun v z=> by rw [d] at z;cases z⟩
  keep:=fun i h h' st k=> st.at fun o e=> k it (by simp) o e
  item:=by
    intro X hP hw hK hc i pins s σ H E I hf st hg
    subst hP hw hK
    obtain⟨xs,x,hq,hx⟩:=hg
    obtain⟨its,rv,p,hz⟩:=I.list hq
    obtain⟨u,hu,ru⟩:=rv.get hx
    obtain⟨f0,f1,f2,f3,f4,f5⟩:=hf it (by simp)
    refine wpAny_pyNext_list_item st p.isList (x:=u) (by simpa using hu) fun h' st' sb=> ?_
    have I1:af X pins σ H {s with heap:=h'}:=I.turned (t':=s.toks) (fun b o hb e=> (sb.2 b hb).trans e) f0 f1 f3 f4 f5
    obtain⟨o,e,c,d⟩:=id st'
    exact⟨u,rfl,pf (s:={s with heap:=h'}) e c d (by decide) ⟨x,H,I1,ru,⟨rfl,fun ys hy=> by rw [I.list_inj hy hq];exact hx⟩,st',fun b hb=> (hf b hb).1⟩⟩
  done:=by
    intro X hP hw hK hc i pins s σ H E I hf st hg
    subst hP hw hK
    obtain⟨xs,hq,hx⟩:=hg
    obtain⟨its,rv,p,hz⟩:=I.list hq
    obtain⟨f0,f1,f2,f3,f4,f5⟩:=hf it (by simp)
    have hl:=rv.length
    exact wpAny_pyNext_list_end (I.ok.hd hc) st p.isList (by simp;omega) fun h' eb=> ⟨rfl,I.turned (t':=s.toks) (fun b o hb e=> eb b o hb e) f0 f1 f3 f4 f5⟩
  self:=fun _ _ _ _ _ st h=> wpAny_pyIter_listiter st h
theorem Co{P:Program}{w:World}{K:Jd}{tg:Expr}(a it:Addr):lV P w K tg (lX K a) [it] it (fun i h=> h.IsTupleIter it a i) where
  mem:=by simp
  obj:=fun i h st b hb=> by
    have e:b=it:=by simpa using hb
    subst e
    obtain⟨o,e,c,d⟩:=st
    exact⟨o,e,fun v z=> by rw [d] at z;cases z⟩
  keep:=fun i h h' st k=> st.at fun o e=> k it (by simp) o e
  item:=by
    intro X hP hw hK hc i pins s σ H E I hf st hg
    subst hP hw hK
    obtain⟨xs,x,hq,hx⟩:=hg
    obtain⟨its,rv,p,hz⟩:=I.tuple hq
    obtain⟨u,hu,ru⟩:=rv.get hx
    obtain⟨f0,f1,f2,f3,f4,f5⟩:=hf it (by simp)
    refine wpAny_pyNext_tuple_item st (show s.heap.IsTuple a its.toArray from p) (x:=u) (by simpa using hu) fun h' st' sb=> ?_
    have I1:af X pins σ H {s with heap:=h'}:=I.turned (t':=s.toks) (fun b o hb e=> (sb.2 b hb).trans e) f0 f1 f3 f4 f5
    obtain⟨o,e,c,d⟩:=id st'
    exact⟨u,rfl,pf (s:={s with heap:=h'}) e c d (by decide) ⟨x,H,I1,ru,⟨rfl,fun ys hy=> by rw [I.tuple_inj hy hq];exact hx⟩,st',fun b hb=> (hf b hb).1⟩⟩
  done:=by
    intro X hP hw hK hc i pins s σ H E I hf st hg
    subst hP hw hK
    obtain⟨xs,hq,hx⟩:=hg
    obtain⟨its,rv,p,hz⟩:=I.tuple hq
    obtain⟨f0,f1,f2,f3,f4,f5⟩:=hf it (by simp)
    have hl:=rv.length
    exact wpAny_pyNext_tuple_end (I.ok.hd hc) st (show s.heap.IsTuple a its.toArray from p) (by simp;omega) fun h' eb=> ⟨rfl,I.turned (t':=s.toks) (fun b o hb e=> eb b o hb e) f0 f1 f3 f4 f5⟩
  self:=fun _ _ _ _ _ st h=> wpAny_pyIter_tupleiter st h
theorem Cp{P:Program}{w:World}{K:Jd}{tg:Expr}(it:Addr)(lo:Int)(n:Nat):lV P w K tg (gq lo n) [it] it (fun i h=> IsRangeIter h it (lo+(i:Nat)*1) ((n:Int) - (i:Nat)) 1) where
  mem:=by simp
  obj:=fun i h st b hb=> by
    have e:b=it:=by simpa using hb
    subst e
    exact⟨_,st,fun v z=> by
      have z':Data.fields _=Data.cell v:=z
      cases z'⟩
  keep:=fun i h h' st k=> k it (by simp) _ st
  item:=by
    intro X hP hw hK hc i pins s σ H E I hf st hg
    subst hP hw hK
    obtain⟨f0,f1,f2,f3,f4,f5⟩:=hf it (by simp)
    have W:=Walks.range (prog:=X.prog) (w:=X.w) (I.ok.hd hc) it lo 1 n
    refine W.item i s _ _ hg st fun v h' tk hv st' kk=> ?_
    obtain⟨t,rfl⟩:=hv
    have I1:af X pins σ H {s with heap:=h',toks:=tk}:=I.turned (fun b o hb e=> kk b o (by simpa using hb) e) f0 f1 f3 f4 f5
    refine⟨_,rfl,pf (s:={s with heap:=h',toks:=tk}) (n:="range_iterator") st' rfl rfl (by decide) ⟨.int (lo+i),H,I1,⟨t,?_⟩,⟨rfl,rfl⟩,st',fun b hb=> (hf b hb).1⟩⟩
    rw [O6]
  done:=by
    intro X hP hw hK hc i pins s σ H E I hf st hg
    subst hP hw hK
    obtain⟨f0,f1,f2,f3,f4,f5⟩:=hf it (by simp)
    exact wpAny_pyNext_range_end (I.ok.hd hc) st (by have:n≤i:=hg;omega) fun h' eb=> ⟨rfl,I.turned (t':=s.toks) (fun b o hb e=> eb b o hb e) f0 f1 f3 f4 f5⟩
  self:=fun _ _ _ _ _ st h=> wpAny_pyIter_rangeiter st h
end L2
namespace L2
open PySem PySem.Spec PyProof.Rows
section
variable {X:Cx} {tg:Expr}
def ue(K:Jd)(tl:TE):TI:=fun σ H R=> tl σ H fun x H1=> ∃a,x= .ref a∧(∃xs,aP K H1 a xs)∧R (lW K a) H1
def uf(K:Jd)(tl:TE):TI:=fun σ H R=> tl σ H fun x H1=> ∃a,x= .ref a∧(∃xs,bB K H1 a xs)∧R (lX K a) H1
theorem ug{l:Expr}{tl:TE}(hl:PE X l tl):PI X tg l (ue X.K tl):=by
  intro pins s σ H R I h
  refine aD (hl pins s σ H _ I h) fun v s1 ⟨x,H1,I1,r1,q1⟩=> ?_
  obtain⟨a,e,⟨xs,hq⟩,q⟩:=q1
  subst e
  cases r1
  obtain⟨its,rv,p,hz⟩:=I1.list hq
  refine wpAny_pyIter_list p.isList ?_
  refine⟨s1.heap.objs.size,[s1.heap.objs.size],_,_,H1,rfl,I1.kept (t':=s1.toks) fun b o e=> Jl _ e,Cn a _,⟨_,JR _ rfl,rfl,rfl⟩,fun b hb=> ?_,q⟩
  have e:b=s1.heap.objs.size:=by simpa using hb
  subst e
  exact I1.fpOk (Jm _) (I1.hok.fresh (Jm _))
theorem uh{l:Expr}{tl:TE}(hl:PE X l tl):PI X tg l (uf X.K tl):=by
  intro pins s σ H R I h
  refine aD (hl pins s σ H _ I h) fun v s1 ⟨x,H1,I1,r1,q1⟩=> ?_
  obtain⟨a,e,⟨xs,hq⟩,q⟩:=q1
  subst e
  cases r1
  obtain⟨its,rv,p,hz⟩:=I1.tuple hq
  refine wpAny_pyIter_tuple (show s1.heap.IsTuple a its.toArray from p) ?_
  refine⟨s1.heap.objs.size,[s1.heap.objs.size],_,_,H1,rfl,I1.kept (t':=s1.toks) fun b o e=> Jl _ e,Co a _,⟨_,JR _ rfl,rfl,rfl⟩,fun b hb=> ?_,q⟩
  have e:b=s1.heap.objs.size:=by simpa using hb
  subst e
  exact I1.fpOk (Jm _) (I1.hok.fresh (Jm _))
theorem w8{pins:List (Addr×Obj)}{σ:St}{H:Hp}{s:Shared}{R:It→Hp→Prop}{E:Value→Shared→Prop}{lo hi:Int}{t u v:Tok}{tk:Nat}(I:af X pins σ H s)(h1:-(2 ^ 62)≤lo)(h2:lo < 2 ^ 62)(h3:-(2 ^ 62)≤hi)(h4:hi < 2 ^ 62)
    (q:R (gq lo (hi - lo).toNat) H):wpAny (model X.prog X.w) X.A (pyIter (.ref s.heap.objs.size)) (w6 X pins σ tg R) E {s with heap:=s.heap.push {cls:= .type "range",data:= .fields #[.int lo t,.int hi u,.int 1 v]},toks:=tk}:=by
  refine wpAny_pyIter_range (IsRange.new ..) (small_one h1 h2 h3 h4) ?_
  have I1:af X pins σ H {s with heap:=s.heap.push {cls:= .type "range",data:= .fields #[.int lo t,.int hi u,.int 1 v]},toks:=tk}:=I.kept fun b o e=> Jl _ e
  refine⟨(s.heap.push {cls:= .type "range",data:= .fields #[.int lo t,.int hi u,.int 1 v]}).objs.size,[(s.heap.push {cls:= .type "range",data:= .fields #[.int lo t,.int hi u,.int 1 v]}).objs.size],_,_,H,rfl,
    I1.kept (t':=tk) fun b o e=> Jl _ e,Cp _ lo (hi - lo).toNat,?_,fun b hb=> ?_,q⟩
  · have e1:lo+((0:Nat):Int)*1=lo:=by simp
    have e2:(((hi - lo).toNat:Nat):Int) - ((0:Nat):Int)=Builtin.Range.rangeSize lo hi 1:=by rw [rangeSize_one];split <;> omega
    show IsRangeIter _ _ (lo+((0:Nat):Int)*1) ((((hi - lo).toNat:Nat):Int) - ((0:Nat):Int)) 1
    rw [e1,e2]
    exact JR _ rfl
  · have e:b=(s.heap.push {cls:= .type "range",data:= .fields #[.int lo t,.int hi u,.int 1 v]}).objs.size:=by simpa using hb
    subst e
    exact I1.fpOk (Jm _) (I1.hok.fresh (Jm _))
def ui(ta:TA):TI:=fun σ H R=> ta σ H fun vs H1=> ∃j:Int,vs=[.int j]∧-(2 ^ 62)≤j∧j < 2 ^ 62∧R (gq 0 j.toNat) H1
def uj(ta:TA):TI:=fun σ H R=> ta σ H fun vs H1=> ∃i j:Int,vs=[.int i,.int j]∧(-(2 ^ 62)≤i∧i < 2 ^ 62∧-(2 ^ 62)≤j∧j < 2 ^ 62)∧R (gq i (j - i).toNat) H1
theorem xa{a:Expr}{ta:TA}{p pos:Pos}(hg:Gl X "range")(hm:X.mg "range"=none)(ha:PA X [a] ta)(hs:starEach [a] X.env=[(false,eval a X.env)]:=by rfl):PI X tg (.Call (.Name "range" p) [a] [] pos) (ui ta):=by
  intro pins s σ H R I h
  refine Call_ (j5 I hg hm boot_range (LR (aD (ha pos pins s σ H _ I h) fun us s1 ⟨vs,H1,I1,r1,q1⟩=> ?_) hs rfl))
  obtain⟨j,e,q1,q2,q⟩:=q1
  subst e
  cases r1 with
  | cons r rr=>
    cases rr
    obtain⟨t,rfl⟩:=r
    exact call_range_1 (w8 I1 (by omega) (by omega) q1 q2 (by simpa using q))
theorem uk{a b:Expr}{ta:TA}{p pos:Pos}(hg:Gl X "range")(hm:X.mg "range"=none)(ha:PA X [a,b] ta)(hs:starEach [a,b] X.env=[(false,eval a X.env),(false,eval b X.env)]:=by rfl)(hs2:starEach [b] X.env=[(false,eval b X.env)]:=by rfl):
    PI X tg (.Call (.Name "range" p) [a,b] [] pos) (uj ta):=by
  intro pins s σ H R I h
  refine Call_ (j5 I hg hm boot_range (LR (aD (ha pos pins s σ H _ I h) fun us s1 ⟨vs,H1,I1,r1,q1⟩=> ?_) (by rw [hs,hs2]) (by rw [hs2];rfl)))
  obtain⟨i,j,e,⟨q1,q2,q3,q4⟩,q⟩:=q1
  subst e
  cases r1 with
  | cons r rr=>
    cases rr with
    | cons r' rr=>
      cases rr
      obtain⟨t,rfl⟩:=r
      obtain⟨t',rfl⟩:=r'
      exact call_range_2 (w8 I1 q1 q2 q3 q4 q)
def lY(wi:TI)(g:TG)(tb:TS):TS:=fun D σ H=> wi σ H fun J H1=> ∃W:Nat→Nat→St→Hp→Prop,(∃m,W 0 m σ H1)∧∀i m σ H,W i m σ H→
  (J.stop i H∧D.nx σ H)∨(J.go i H∧∃N:St→Hp→Prop,(∀σ' H',N σ' H'→∃m',m' < m∧W (i+1) m' σ' H')∧∀x H',J.yld i H x H'→g x σ H' fun σ2 H2=> tb {D with nx:=N,ct:=N,bk:=D.nx} σ2 H2)
def lZ(fp:List Addr)(h:Heap):List (Addr×Obj):=fp.filterMap fun b=> (h.get? b).map fun o=> (b,o)
theorem ph{fp:List Addr}{h:Heap}{b:Addr}{o:Obj}(hb:b∈fp)(e:h.get? b=some o):(b,o)∈lZ fp h:=LB.mpr ⟨b,hb,by rw [e];rfl⟩
theorem Cq{fp:List Addr}{h:Heap}{p:Addr×Obj}(hp:p∈lZ fp h):p.1∈fp∧h.get? p.1=some p.2:=by
  obtain⟨b,hb,e⟩:=LB.mp hp
  cases q:h.get? b with
  | none=> rw [q] at e;cases e
  | some o=>
    rw [q] at e
    have e':(b,o)=p:=JW e
    subst e'
    exact⟨hb,q⟩
theorem af.pinned{pins:List (Addr×Obj)}{σ:St}{H:Hp}{s:Shared}{fp:List Addr}(I:af X pins σ H s)(hf:∀b∈fp,fE X pins H b)(ho:∀b∈fp,∃o,s.heap.get? b=some o∧∀v,o.data≠ .cell v):af X (pins++lZ fp s.heap) σ H s:=
  I.pins_of fun p hp=> (JM.mp hp).elim (fun z=> I.pin p (J9 _ z)) fun z=> by
    obtain⟨hb,e⟩:=Cq z
    obtain⟨f0,f1,f2,_⟩:=hf p.1 hb
    obtain⟨o,e',d⟩:=ho p.1 hb
    rw [e] at e';cases e'
    exact⟨e,f0,f1,f2,d⟩
theorem af.unpinned{pins pl:List (Addr×Obj)}{σ:St}{H:Hp}{s:Shared}(I:af X (pins++pl) σ H s):af X pins σ H s:=I.pins_of fun p hp=> I.pin p (J9 _ (NL _ hp))
theorem mf{iter:Expr}{body:List Stmt}{wi:TI}{g:TG}{tb:TS}{pos:Pos}(hp:PassesOwn (model X.prog X.w) X.A X.env X.xe)(hc:X.calm=true)(hi:PI X tg iter wi)(hg:PG X tg g)(hb:bM X body tb)
    (hs:∀x,foldedSetIterable iter X.env x=pure x:=by intro _;rfl):PS X (.For tg iter body [] pos) (lY wi g tb):=by
  intro pins s σ H D I h
  refine wpAny_For (aD (hi pins s σ H _ I h) fun v s1 h1=> aD h1 fun itv s2 h2=> ?_) hs
  obtain⟨it,fp,tn,J,H2,e,I2,T,st2,f2,W,⟨m0,w0⟩,turn⟩:=h2
  subst e
  have stat:∀{H':Hp},(∀b∈fp,H' b=none)→∀b∈fp,fE X pins H' b:=fun hn b hb=> ⟨hn b hb,(f2 b hb).2⟩
  refine codeAny_forLoop_any (fun n s'=> ∃i σ' H',af X pins σ' H' s'∧tn i s'.heap∧(∀b∈fp,H' b=none)∧W i n σ' H') ?_ m0 ⟨0,σ,H2,I2,st2,fun b hb=> (f2 b hb).1,w0⟩
  rintro n s3 ⟨i,σ3,H3,I3,st3,fr3,w3⟩
  rcases turn i n σ3 H3 w3 with⟨stop,qn⟩ | ⟨go,N,hN,step⟩
  · refine wpAny_passesOwn hp (aD (T.done X rfl rfl rfl hc i pins s3 σ3 H3 X.xe I3 (stat fr3) st3 stop) fun r s4 ⟨hr,I4⟩=> ?_)
    subst hr
    exact wpAny_execs_nil ⟨σ3,H3,I4,qn⟩
  · refine wpAny_passesOwn hp (aD (T.item X rfl rfl rfl hc i pins s3 σ3 H3 X.xe I3 (stat fr3) st3 go) fun r s4 ⟨u,hr,h4⟩=> ?_)
    subst hr
    refine wpAny_passesOwn hp (aD h4 fun _ s5 ⟨x,H5,I5,r5,y5,st5,fr5⟩=> ?_)
    have I5':=I5.pinned (stat fr5) (T.obj _ _ st5)
    refine wpAny_passesOwn hp (aD (hg _ s5 σ3 H5 x u _ I5' r5 (step x H5 y5)) fun _ s6 ⟨σ6,H6,I6,q6⟩=> ?_)
    refine wpAny_passesOwn hp (aD (hb _ s6 σ6 H6 _ I6 q6) fun f s7 q7=> ?_)
    have again:∀{σ7:St}{H7:Hp},af X (pins++lZ fp s5.heap) σ7 H7 s7→N σ7 H7→∃m,m < n∧∃i σ' H',af X pins σ' H' s7∧tn i s7.heap∧(∀b∈fp,H' b=none)∧W i m σ' H':=fun{σ7 H7} I7 n7=> by
      obtain⟨m',hm,w7⟩:=hN σ7 H7 n7
      refine⟨m',hm,i+1,σ7,H7,I7.unpinned,T.keep _ _ _ st5 fun b hb o e=> (I7.pin (b,o) (J9 _ (J9 _ (ph hb e)))).1,fun b hb=> ?_,w7⟩
      obtain⟨o,e,d⟩:=T.obj _ _ st5 b hb
      exact(I7.pin (b,o) (J9 _ (J9 _ (ph hb e)))).2.1
    cases f with
    | next=> obtain⟨σ7,H7,I7,n7⟩:=q7;exact again I7 n7
    | cont=> obtain⟨σ7,H7,I7,n7⟩:=q7;exact again I7 n7
    | brk=> obtain⟨σ7,H7,I7,q7⟩:=q7;exact⟨σ7,H7,I7.unpinned,q7⟩
    | ret v=> obtain⟨x7,σ7,H7,I7,r7,q7⟩:=q7;exact⟨x7,σ7,H7,I7.unpinned,r7,q7⟩
end
end L2
namespace L2
open PySem PySem.Spec PyProof.Rows
abbrev R2:=V→V→Hp→VK→Prop
def bW(X:Cx)(f:Value→Value→Sem Value)(r:R2):Prop:=
  ∀(pins:List (Addr×Obj))(s:Shared)(σ:St)(H:Hp)(x y:V)(v u:Value)(Q:VK),af X pins σ H s→aG x v→aG y u→r x y H Q→
    wpAny (model X.prog X.w) X.A (f v u) (EP X pins σ Q) X.xe s
def um(X:Cx)(f:Value→Sem Value)(r:V→Hp→VK→Prop):Prop:=
  ∀(pins:List (Addr×Obj))(s:Shared)(σ:St)(H:Hp)(x:V)(v:Value)(Q:VK),af X pins σ H s→aG x v→r x H Q→
    wpAny (model X.prog X.w) X.A (f v) (EP X pins σ Q) X.xe s
def cP(X:Cx)(f:Value)(r:List V→Hp→VK→Prop):Prop:=
  ∀(pins:List (Addr×Obj))(s:Shared)(σ:St)(H:Hp)(xs:List V)(us:List Value)(Q:VK),af X pins σ H s→aH xs us→r xs H Q→
    wpAny (model X.prog X.w) X.A (call f us) (EP X pins σ Q) X.xe s
def Cr(X:Cx)(r:V→Hp→(Bool→Hp→Prop)→Prop):Prop:=
  ∀(pins:List (Addr×Obj))(s:Shared)(σ:St)(H:Hp)(x:V)(v:Value)(Q:Bool→Hp→Prop),af X pins σ H s→aG x v→r x H Q→
    wpAny (model X.prog X.w) X.A (truthy v) (TP X pins σ Q) X.xe s
def j7(r:R2)(ta tb:TE):TE:=fun σ H Q=> ta σ H fun x H1=> tb σ H1 fun y H2=> r x y H2 Q
def xb(r:V→Hp→VK→Prop)(ta:TE):TE:=fun σ H Q=> ta σ H fun x H1=> r x H1 Q
def rI(C:Int→Int→Prop)(g:Int→Int→V):R2:=fun x y H Q=> ∃i j,x= .int i∧y= .int j∧C i j∧Q (g i j) H
def fF(g:Int→Int→V):R2:=fun x y H Q=> ∃i j,x= .int i∧y= .int j∧Q (g i j) H
def rU(g:Int→V):V→Hp→VK→Prop:=fun x H Q=> ∃i,x= .int i∧Q (g i) H
section
variable {X:Cx} {a b c:Expr} {ta tb tc:TE} {pos:Pos}
theorem uo(ha:PE X a ta)(hb:PE X b tb){pins:List (Addr×Obj)}{s:Shared}{σ:St}{H:Hp}{R:V→V→Hp→Prop}(I:af X pins σ H s)
    (h:ta σ H fun x H1=> tb σ H1 fun y H2=> R x y H2){Q:Value→Shared→Prop}{f:Value→Value→Sem Value}
    (hf:∀v u s2 x y H2,af X pins σ H2 s2→aG x v→aG y u→R x y H2→wpAny (model X.prog X.w) X.A (f v u) Q X.xe s2):
    wpAny (model X.prog X.w) X.A (eval a X.env) (fun v s₁=> wpAny (model X.prog X.w) X.A (eval b X.env) (fun u s₂=> wpAny (model X.prog X.w) X.A (f v u) Q X.xe s₂) X.xe s₁) X.xe s:=by
  refine aD (ha pins s σ H _ I h) fun v s1 ⟨x,H1,I1,r1,q1⟩=> ?_
  refine aD (hb pins s1 σ H1 _ I1 q1) fun u s2 ⟨y,H2,I2,r2,q2⟩=> ?_
  exact hf v u s2 x y H2 I2 r1 r2 q2
theorem bh{op:Operator}{r:R2}(ho:bW X (binaryOp op) r)(ha:PE X a ta)(hb:PE X b tb):PE X (.BinOp a op b pos) (j7 r ta tb):=by
  intro pins s σ H Q I h
  exact wpAny_BinOp (uo ha hb I h fun v u s2 x y H2 I2 rx ry q=> ho pins s2 σ H2 x y v u Q I2 rx ry q)
theorem Cs{op:UnaryOp}{r:V→Hp→VK→Prop}(ho:um X (unaryOp op) r)(ha:PE X a ta):PE X (.UnaryOp op a pos) (xb r ta):=by
  intro pins s σ H Q I h
  exact UnaryOp_ (aD (ha pins s σ H _ I h) fun v s1 uu33=> by obtain⟨x,H1,I1,r1,q1⟩:=uu33;exact ho pins s1 σ H1 x v Q I1 r1 q1)
theorem pj{f:Value→Value→Sem Value}{C:Int→Int→Prop}{g:Int→Int→Int}
    (rule:∀(i j:Int) (t u:Tok) (s:Shared) (Q:Value→Shared→Prop) (E:Value→Shared→Prop),C i j→Q (.int (g i j) s.toks) {s with toks:=s.toks+1}→wpAny (model X.prog X.w) X.A (f (.int i t) (.int j u)) Q E s):
    bW X f (rI C fun i j=> .int (g i j)):=by
  intro pins s σ H x y v u Q I rx ry h
  obtain⟨i,j,rfl,rfl,hc,q⟩:=h
  obtain⟨t,rfl⟩:=rx
  obtain⟨t',rfl⟩:=ry
  exact rule i j t t' s _ _ hc ⟨.int (g i j),H,I.tok _,⟨_,rfl⟩,q⟩
theorem xc{f:Value→Value→Sem Value}{g:Int→Int→Int}
    (rule:∀(i j:Int) (t u:Tok) (s:Shared) (Q:Value→Shared→Prop) (E:Value→Shared→Prop),Q (.int (g i j) s.toks) {s with toks:=s.toks+1}→wpAny (model X.prog X.w) X.A (f (.int i t) (.int j u)) Q E s):
    bW X f (fF fun i j=> .int (g i j)):=by
  intro pins s σ H x y v u Q I rx ry h
  obtain⟨i,j,rfl,rfl,q⟩:=h
  obtain⟨t,rfl⟩:=rx
  obtain⟨t',rfl⟩:=ry
  exact rule i j t t' s _ _ ⟨.int (g i j),H,I.tok _,⟨_,rfl⟩,q⟩
theorem pq{f:Value→Value→Sem Value}{g:Int→Int→Bool}
    (rule:∀(i j:Int) (t u:Tok) (s:Shared) (Q:Value→Shared→Prop) (E:Value→Shared→Prop),Q (.bool (g i j)) s→wpAny (model X.prog X.w) X.A (f (.int i t) (.int j u)) Q E s):
    bW X f (fF fun i j=> .bl (g i j)):=by
  intro pins s σ H x y v u Q I rx ry h
  obtain⟨i,j,rfl,rfl,q⟩:=h
  obtain⟨t,rfl⟩:=rx
  obtain⟨t',rfl⟩:=ry
  exact rule i j t t' s _ _ ⟨.bl (g i j),H,I,rfl,q⟩
def jz(i j:Int):Prop:=0 < j∧j < 1073741824
def j9(i j:Int):Prop:=0≤j∧j≤1000000∧i.natAbs < 2 ^ 64
def i9(i j:Int):Prop:=(-(2 ^ 64) < i∧i < 2 ^ 64)∨(-(2 ^ 64) < j∧j < 2 ^ 64)
theorem i9.ok{i j:Int}(h:i9 i j):IntMulOk i j:=by
  rcases h with⟨h1,h2⟩ | ⟨h1,h2⟩
  · exact .of_left (intBits_le_64 h1 h2)
  · exact .of_right (intBits_le_64 h1 h2)
theorem bw:bW X (binaryOp .Add) (fF fun i j=> .int (i+j)):=xc fun _ _ _ _ _ _ _ q=> add_int q
theorem cK:bW X (binaryOp .Sub) (fF fun i j=> .int (i - j)):=xc fun _ _ _ _ _ _ _ q=> sub_int q
theorem eo:bW X (binaryOp .Mult) (rI i9 fun i j=> .int (i*j)):=pj fun _ _ _ _ _ _ _ hc q=> mul_int q hc.ok
theorem fG:bW X (binaryOp .FloorDiv) (rI jz fun i j=> .int (i / j)):=pj fun i j _ _ _ _ _ hc q=> by
  have h1:(0:Int) < j:=hc.1
  have h2:j < 1073741824:=hc.2
  exact floordiv_int (by omega) (by rw [ML i (by omega)];exact q) (.inl (Nu (by omega)))
theorem dZ:bW X (binaryOp .Mod) (rI (fun _ j=> 0 < j) fun i j=> .int (i % j)):=pj fun i j _ _ _ _ _ hc q=> by
  have h1:(0:Int) < j:=hc
  exact mod_int' (by omega) (by rw [MM i (by omega)];exact q)
theorem Ct:bW X (binaryOp .Pow) (rI j9 fun i j=> .int (i ^ j.toNat)):=pj fun _ _ _ _ _ _ _ hc q=> pow_int_small hc.1 hc.2.1 hc.2.2 q
theorem Cu{f:Value→Sem Value}{g:Int→Int}
    (rule:∀(i:Int) (t:Tok) (s:Shared) (Q:Value→Shared→Prop) (E:Value→Shared→Prop),Q (.int (g i) s.toks) {s with toks:=s.toks+1}→wpAny (model X.prog X.w) X.A (f (.int i t)) Q E s):
    um X f (rU fun i=> .int (g i)):=by
  intro pins s σ H x v Q I rx h
  obtain⟨i,rfl,q⟩:=h
  obtain⟨t,rfl⟩:=rx
  exact rule i t s _ _ ⟨.int (g i),H,I.tok _,⟨_,rfl⟩,q⟩
theorem Cv:um X (unaryOp .USub) (rU fun i=> .int (-i)):=Cu fun _ _ _ _ _ q=> neg_int q
end
def ur:V→V→Bool
  | .non,.non=> true | .non,.int _=> true | .int _,.non=> true | .non,.bl _=> true | .bl _,.non=> true | .non,.str _=> true | .str _,.non=> true
  | .int _,.int _=> true | .bl _,.bl _=> true | .str _,.str _=> true | .byt _,.byt _=> true
  | .int _,.str _=> true | .str _,.int _=> true | .bl _,.str _=> true | .str _,.bl _=> true
  | _,_=> false
def xf:R2:=fun x y H Q=> ur x y=true∧Q (.bl (decide (x=y))) H
def xh:R2:=fun x y H Q=> ur x y=true∧Q (.bl (!decide (x=y))) H
theorem xi{i j:Int}:decide (V.int i=V.int j)=(i==j):=by
  rw [LC]
  simp
theorem xj{i j:Bool}:decide (V.bl i=V.bl j)=(i==j):=by
  rw [LC]
  simp
theorem xk{i j:Str}:decide (V.str i=V.str j)=(i==j):=by
  rw [LC]
  simp
theorem xm{i j:Array UInt8}:decide (V.byt i=V.byt j)=(i.toList==j.toList):=by
  rw [LC]
  cases i
  cases j
  simp
section
variable {X:Cx} {a b c:Expr} {ta tb tc:TE} {pos:Pos}
theorem bG{pins:List (Addr×Obj)}{σ:St}{H:Hp}{s:Shared}{Q:VK}{k k':Bool}(I:af X pins σ H s)(q:Q (.bl k) H)(e:k=k'):EP X pins σ Q (.bool k') s:=by
  subst e
  exact⟨.bl k,H,I,rfl,q⟩
theorem mh:bW X (compareOp .Eq) xf:=by
  intro pins s σ H x y v u Q I rx ry h
  obtain⟨hs,q⟩:=h
  cases x with
  | non=>
    cases rx
    cases y with
    | non=> cases ry;exact PySem.EqNone.eq_none_none (bG I q (by simp))
    | bl j=> cases ry;exact PySem.EqNone.eq_none_bool (bG I q (by simp))
    | int j=> obtain⟨t',rfl⟩:=ry;exact PySem.EqNone.eq_none_int (bG I q (by simp))
    | str j=> obtain⟨t',rfl⟩:=ry;exact PySem.EqNone.eq_none_str (bG I q (by simp))
    | _=> exact absurd (show false=true from hs) Jk
  | bl i=>
    cases rx
    cases y with
    | non=> cases ry;exact PySem.EqNone.eq_bool_none (bG I q (by simp))
    | bl j=> cases ry;exact eq_bool (bG I q xj)
    | str j=> obtain⟨t',rfl⟩:=ry;exact PySem.EqMixed.eq_bool_str (bG I q (by simp))
    | _=> exact absurd (show false=true from hs) Jk
  | int i=>
    obtain⟨t,rfl⟩:=rx
    cases y with
    | non=> cases ry;exact PySem.EqNone.eq_int_none (bG I q (by simp))
    | int j=> obtain⟨t',rfl⟩:=ry;exact eq_int (bG I q xi)
    | str j=> obtain⟨t',rfl⟩:=ry;exact PySem.EqMixed.eq_int_str (bG I q (by simp))
    | _=> exact absurd (show false=true from hs) Jk
  | str i=>
    obtain⟨t,rfl⟩:=rx
    cases y with
    | non=> cases ry;exact PySem.EqNone.eq_str_none (bG I q (by simp))
    | bl j=> cases ry;exact PySem.EqMixed.eq_str_bool (bG I q (by simp))
    | int j=> obtain⟨t',rfl⟩:=ry;exact PySem.EqMixed.eq_str_int (bG I q (by simp))
    | str j=> obtain⟨t',rfl⟩:=ry;exact eq_str (bG I q xk)
    | _=> exact absurd (show false=true from hs) Jk
  | byt i=>
    obtain⟨t,rfl⟩:=rx
    cases y with
    | byt j=> obtain⟨t',rfl⟩:=ry;exact PySem.W.eq_bytes (bG I q xm)
    | _=> exact absurd (show false=true from hs) Jk
  | _=> cases y <;> exact absurd (show false=true from hs) Jk
theorem Cw:bW X (compareOp .NotEq) xh:=by
  intro pins s σ H x y v u Q I rx ry h
  obtain⟨hs,q⟩:=h
  cases x with
  | non=>
    cases rx
    cases y with
    | non=> cases ry;exact PySem.EqNone.ne_none_none (bG I q (by simp))
    | bl j=> cases ry;exact PySem.EqNone.ne_none_bool (bG I q (by simp))
    | int j=> obtain⟨t',rfl⟩:=ry;exact PySem.EqNone.ne_none_int (bG I q (by simp))
    | str j=> obtain⟨t',rfl⟩:=ry;exact PySem.EqNone.ne_none_str (bG I q (by simp))
    | _=> exact absurd (show false=true from hs) Jk
  | bl i=>
    cases rx
    cases y with
    | non=> cases ry;exact PySem.EqNone.ne_bool_none (bG I q (by simp))
    | bl j=> cases ry;exact ne_bool (bG I q (congrArg not xj))
    | str j=> obtain⟨t',rfl⟩:=ry;exact PySem.EqMixed.ne_bool_str (bG I q (by simp))
    | _=> exact absurd (show false=true from hs) Jk
  | int i=>
    obtain⟨t,rfl⟩:=rx
    cases y with
    | non=> cases ry;exact PySem.EqNone.ne_int_none (bG I q (by simp))
    | int j=> obtain⟨t',rfl⟩:=ry;exact ne_int (bG I q (congrArg not xi))
    | str j=> obtain⟨t',rfl⟩:=ry;exact PySem.EqMixed.ne_int_str (bG I q (by simp))
    | _=> exact absurd (show false=true from hs) Jk
  | str i=>
    obtain⟨t,rfl⟩:=rx
    cases y with
    | non=> cases ry;exact PySem.EqNone.ne_str_none (bG I q (by simp))
    | bl j=> cases ry;exact PySem.EqMixed.ne_str_bool (bG I q (by simp))
    | int j=> obtain⟨t',rfl⟩:=ry;exact PySem.EqMixed.ne_str_int (bG I q (by simp))
    | str j=> obtain⟨t',rfl⟩:=ry;exact ne_str (bG I q (congrArg not xk))
    | _=> exact absurd (show false=true from hs) Jk
  | byt i=>
    obtain⟨t,rfl⟩:=rx
    cases y with
    | byt j=> obtain⟨t',rfl⟩:=ry;exact PySem.W.ne_bytes (bG I q (congrArg not xm))
    | _=> exact absurd (show false=true from hs) Jk
  | _=> cases y <;> exact absurd (show false=true from hs) Jk
theorem pz:bW X (compareOp .Lt) (fF fun i j=> .bl (decide (i < j))):=pq fun _ _ _ _ _ _ _ q=> lt_int q
theorem fH:bW X (compareOp .LtE) (fF fun i j=> .bl (decide (i≤j))):=pq fun _ _ _ _ _ _ _ q=> le_int q
theorem kc:bW X (compareOp .Gt) (fF fun i j=> .bl (decide (j < i))):=pq fun _ _ _ _ _ _ _ q=> gt_int q
theorem uu:bW X (compareOp .GtE) (fF fun i j=> .bl (decide (j≤i))):=pq fun _ _ _ _ _ _ _ q=> ge_int q
theorem ke:bW X (compareOp .Is) (fun x y H Q=> y= .non∧Q (.bl (decide (x= .non))) H):=by
  intro pins s σ H x y v u Q I rx ry h
  obtain⟨rfl,q⟩:=h
  cases ry
  refine is_none_gen (bG I q ?_)
  cases x <;> first
    | (cases rx;rfl)
    | (obtain⟨t,rfl⟩:=rx;rfl)
theorem uv:bW X (compareOp .IsNot) (fun x y H Q=> y= .non∧Q (.bl (!decide (x= .non))) H):=by
  intro pins s σ H x y v u Q I rx ry h
  obtain⟨rfl,q⟩:=h
  cases ry
  refine isnot_none_gen (bG I q ?_)
  cases x <;> first
    | (cases rx;rfl)
    | (obtain⟨t,rfl⟩:=rx;rfl)
theorem ay(b:Expr){op:CmpOp}(h:op≠ .In:=by decide)(h2:op≠ .NotIn:=by decide):behindInMarks op b=false:=by
  have e1:(op==CmpOp.In)=false:=by cases op <;> first | rfl | exact absurd rfl h
  have e2:(op==O5)=false:=by cases op <;> first | rfl | exact absurd rfl h2
  cases b <;> simp [behindInMarks,e1,e2]
theorem pA{op:CmpOp}{r:R2}(ho:bW X (compareOp op) r)(ha:PE X a ta)(hb:PE X b tb)(hm:behindInMarks op b=false):PE X (.Compare a [op] [b] pos) (j7 r ta tb):=by
  intro pins s σ H Q I h
  exact wpAny_Compare1 (uo ha hb I h fun v u s2 x y H2 I2 rx ry q=> ho pins s2 σ H2 x y v u Q I2 rx ry q) hm
def xp(t:TE):TT:=fun σ H Q=> t σ H fun x H'=> ∃k,x= .bl k∧Q k H'
theorem gr{op:CmpOp}{r:R2}(ho:bW X (compareOp op) r)(ha:PE X a ta)(hb:PE X b tb)(hm:behindInMarks op b=false):PT X (.Compare a [op] [b] pos) (xp (j7 r ta tb)):=by
  intro pins s σ H Q I h
  refine wpAny_isTrue_Compare1 (aD (ha pins s σ H _ I h) fun v s1 ⟨x,H1,I1,r1,q1⟩=> aD (hb pins s1 σ H1 _ I1 q1) fun u s2 ⟨y,H2,I2,r2,q2⟩=>
    aD (ho pins s2 σ H2 x y v u _ I2 r1 r2 q2) fun c s3 ⟨z,H3,I3,r3,k,e,q3⟩=> ?_) hm
  subst e
  cases r3
  exact wpAny_truthy_bool ⟨H3,I3,q3⟩
def xt(K:Jd)(x:V)(H:Hp)(k:Bool):Prop:=
  match x with
  | .non=> k=false
  | .bl b=> k=b
  | .int i=> k=(i !=0)
  | .str y=> y.length≤sizeLine∧k=((y.length:Int) !=0)
  | .byt y=> y.size≤sizeLine∧k=((y.size:Int) !=0)
  | .ref p=> (∃xs,aP K H p xs∧k=!xs.isEmpty)∨(∃xs,bB K H p xs∧k=!xs.isEmpty)∨∃kvs,H p=some (.dK kvs)∧k=!kvs.isEmpty
  | _=> False
theorem Cy{κ:Type}{kvs:List (κ×V)}{vs:List (κ×Value)}(r:KV kvs vs):(!vs.isEmpty)=!kvs.isEmpty:=by
  cases r <;> rfl
theorem xu{xs:List V}{its:List Value}(r:aH xs its):(!its.toArray.isEmpty)=!xs.isEmpty:=by
  cases r <;> simp
theorem jA:(sizeLine:Nat) < 2 ^ 63:=by rw [sizeLine_eq];decide
theorem Cz:Cr X (fun x H Q=> ∃k,xt X.K x H k∧Q k H):=by
  intro pins s σ H x v Q I rx h
  obtain⟨k,e,q⟩:=h
  have hl:=jA
  have hs:sizeLine=16777216:=sizeLine_eq
  cases x with
  | non=>
    cases rx
    have e':k=false:=e
    subst e'
    exact truthy_none ⟨H,I,q⟩
  | bl b=>
    cases rx
    have e':k=b:=e
    subst e'
    exact wpAny_truthy_bool ⟨H,I,q⟩
  | int i=>
    obtain⟨t,rfl⟩:=rx
    have e':k=(i !=0):=e
    subst e'
    exact PySem.P.truthy_int ⟨H,I,q⟩
  | str y=>
    obtain⟨t,rfl⟩:=rx
    obtain⟨hy,e'⟩:y.length≤sizeLine∧k=((y.length:Int) !=0):=e
    subst e'
    exact PySem.P.truthy_str (by omega) ⟨H,I.tok _,q⟩
  | byt y=>
    obtain⟨t,rfl⟩:=rx
    obtain⟨hy,e'⟩:y.size≤sizeLine∧k=((y.size:Int) !=0):=e
    subst e'
    exact PySem.W.truthy_bytes (by omega) ⟨H,I.tok _,q⟩
  | ref p=>
    cases rx
    have e':(∃xs,aP X.K H p xs∧k=!xs.isEmpty)∨(∃xs,bB X.K H p xs∧k=!xs.isEmpty)∨∃kvs,H p=some (.dK kvs)∧k=!kvs.isEmpty:=e
    rcases e' with⟨xs,hx,e'⟩ | ⟨xs,hx,e'⟩ | ⟨kvs,hx,e'⟩
    · subst e'
      obtain⟨its,r,pl,hz⟩:=I.list hx
      have hlen:=r.length
      exact wpAny_truthy_list pl.isList (by simp only [JA];omega) ⟨H,I.tok _,by rw [xu r];exact q⟩
    · subst e'
      obtain⟨its,r,pl,hz⟩:=I.tuple hx
      have hlen:=r.length
      exact truthy_tuple pl (by simp only [JA];omega) ⟨H,I.tok _,by rw [xu r];exact q⟩
    · subst e'
      obtain⟨hz,hS,vs,r,m⟩:kvs.length≤sizeLine∧(p==sysModules)=false∧∃vs,KV kvs vs∧s.heap.DictOf (cm X.prog X.w) p vs:=I.hok p _ hx
      have hlen:kvs.length=vs.length:=MJ r
      exact wpAny_truthy_dict hS m (by omega) ⟨H,I.tok _,by rw [Cy r];exact q⟩
  | _=> exact(show False from e).elim
theorem CA(ha:PE X a ta)(he:∀whole,isTrue a X.env whole=(do let v←whole;standAt a.pos;holding [v] (truthy v))):
    PT X a (fun σ H Q=> ta σ H fun x H'=> ∃k,xt X.K x H' k∧Q k H'):=by
  intro pins s σ H Q I h
  exact isTrue_plain (aD (ha pins s σ H _ I h) fun v s1 uu37=> by obtain⟨x,H1,I1,r1,q1⟩:=uu37;exact Cz pins s1 σ H1 x v Q I1 r1 q1) (he _)
theorem xv:bW X (binaryOp .Add) (fun x y H Q=> ∃i j,x= .str i∧y= .str j∧i.length+j.length≤sizeLine∧Q (.str (i++j)) H):=by
  intro pins s σ H x y v u Q I rx ry h
  obtain⟨i,j,rfl,rfl,hz,q⟩:=h
  obtain⟨t,rfl⟩:=rx
  obtain⟨t',rfl⟩:=ry
  exact add_str (fun t' tk=> ⟨.str (i++j),H,I.tok _,⟨_,rfl⟩,q⟩) hz
theorem cU{x:V}{us:List Value}(r:aH [x] us):∃u,us=[u]∧aG x u:=by
  cases r with
  | cons r1 r2=> cases r2;exact⟨_,rfl,r1⟩
theorem pB{x y:V}{us:List Value}(r:aH [x,y] us):∃u w',us=[u,w']∧aG x u∧aG y w':=by
  cases r with
  | cons r1 r2=>
    cases r2 with
    | cons r3 r4=> cases r4;exact⟨_,_,rfl,r1,r3⟩
theorem CB:cP X (.builtin "abs") (fun xs H Q=> ∃i,xs=[.int i]∧Q (.int (if i < 0 then -i else i)) H):=by
  intro pins s σ H xs us Q I r h
  obtain⟨i,rfl,q⟩:=h
  obtain⟨u,rfl,t,rfl⟩:=cU r
  exact call_abs_int fun u tk=> ⟨.int (if i < 0 then -i else i),H,I.tok _,⟨_,rfl⟩,q⟩
theorem pC(hc:X.calm=true):cP X (.builtin "max") (fun xs H Q=> ∃i j,xs=[.int i,.int j]∧Q (.int (if j > i then j else i)) H):=by
  intro pins s σ H xs us Q I r h
  obtain⟨i,j,rfl,q⟩:=h
  obtain⟨u,w',rfl,⟨t,rfl⟩,⟨t',rfl⟩⟩:=pB r
  refine max_two_ints (I.ok.hd hc) fun h' tk k=> ⟨_,H,I.kept k,?_,q⟩
  by_cases hj:j > i
  · rw [if_pos hj,if_pos hj];exact⟨_,rfl⟩
  · rw [if_neg hj,if_neg hj];exact⟨_,rfl⟩
theorem uw(hc:X.calm=true):cP X (.builtin "min") (fun xs H Q=> ∃i j,xs=[.int i,.int j]∧Q (.int (if j < i then j else i)) H):=by
  intro pins s σ H xs us Q I r h
  obtain⟨i,j,rfl,q⟩:=h
  obtain⟨u,w',rfl,⟨t,rfl⟩,⟨t',rfl⟩⟩:=pB r
  refine min_two_ints (I.ok.hd hc) fun h' tk k=> ⟨_,H,I.kept k,?_,q⟩
  by_cases hj:j < i
  · rw [if_pos hj,if_pos hj];exact⟨_,rfl⟩
  · rw [if_neg hj,if_neg hj];exact⟨_,rfl⟩
theorem pE:cP X (.type "int") (fun xs H Q=> (∃i,xs=[.int i]∧Q (.int i) H)∨∃k,xs=[.bl k]∧Q (.int (if k then 1 else 0)) H):=by
  intro pins s σ H xs us Q I r h
  rcases h with⟨i,rfl,q⟩ | ⟨k,rfl,q⟩
  · obtain⟨u,rfl,t,rfl⟩:=cU r
    exact call_int_int ⟨.int i,H,I,⟨_,rfl⟩,q⟩
  · obtain⟨u,rfl,r1⟩:=cU r
    cases r1
    exact call_int_bool ⟨.int (if k then 1 else 0),H,I.tok _,⟨_,rfl⟩,q⟩
theorem CC:cP X (.builtin "divmod") (fun xs H Q=> ∃i j,xs=[.int i,.int j]∧jz i j∧∀p,H p=none→Q (.ref p) (ao H p (.tup [.int (i / j),.int (i % j)]))):=by
  intro pins s σ H xs us Q I r h
  obtain⟨i,j,rfl,⟨h1,h2⟩,q⟩:=h
  obtain⟨u,w',rfl,⟨t,rfl⟩,⟨t',rfl⟩⟩:=pB r
  refine divmod_int (by omega) ?_ (.inl (Nu (by omega)))
  rw [ML i (by omega),MM i (by omega)]
  have hn:H s.heap.objs.size=none:=I.hok.fresh (Jm _)
  refine⟨.ref s.heap.objs.size,_,?_,rfl,q _ hn⟩
  refine I.laid (fun b o e=> Jl _ e) (Jm _) ⟨by simp only [JC,Kw];rw [sizeLine_eq];decide,[.int (i / j) s.toks,.int (i % j) (s.toks+1)],.cons ⟨_,rfl⟩ (.cons ⟨_,rfl⟩ .nil),?_⟩
  exact⟨_,JR s.heap rfl,rfl,0,rfl⟩
end
end L2
namespace L2
open PySem PySem.Spec PyProof.Rows
structure kg (h:Heap) (x dx C:Addr) (mA:Str→Option Value):Prop where
  obj:h.get? x=some (K6 C dx)
  ns:h.Ns1 dx mA
  ne:dx≠x
theorem CD{h:Heap}{dx:Addr}{mA:Str→Option Value}(n:h.Ns1 dx mA):∃od,h.get? dx=some od∧∀name,NB name od=some (mA name):=by
  obtain⟨o,es,ep,ho,hd,hk,_,hm⟩:=n
  refine⟨o,ho,fun name=> ?_⟩
  have e:=hm name
  unfold nsFind findBy at e
  rw [←Array.find?_toList] at e
  unfold NB
  rw [hd]
  dsimp only
  split
  · rename_i y q
    rw [q] at e
    exact congrArg some e
  · rename_i q
    rw [q] at e
    have a:es.toList.any (·.refKey)=false:=by
      rw [List.any_eq_false]
      intro y hy
      obtain⟨z,t,hkey⟩:=hk y (NM.mp hy)
      simp [DictEntry.refKey,hkey]
    have a':¬es.toList.any (·.refKey)=true:=by rw [a];exact Jk
    rw [if_neg a']
    exact congrArg some e
theorem kg.look{h:Heap}{x dx C:Addr}{mA:Str→Option Value}(I:kg h x dx C mA):∃od,PySem.W.InstAt h x (K6 C dx) C (some od)∧∀name,NB name od=some (mA name):=
  let ⟨od,ho,hl⟩:=CD I.ns
  ⟨od,⟨I.obj,rfl,rfl,ho⟩,hl⟩
section
variable {prog:Program} {w:World} {A:Around} {E:Value→Shared→Prop} {s:Shared} {K:Jd} {x dx C f:Addr} {mA:Str→Option Value} {name:Str} {v:Value}
theorem CF{expr:Bool}{Q:Value→Shared→Prop}(X:K.In s.heap)(I:kg s.heap x dx C mA)(hg:Mn K C name=true)(hh:Me K C=true)
    (ha:Kr K (.ref C) name=some none)(hv:mA name=some v)(hv':Oi v=true)(h:Q v {s with toks:=s.toks+1}):
    wpAny (model prog w) A (getAttr (.ref x) name expr) Q E s:=by
  obtain⟨od,J,hl⟩:=I.look
  exact PySem.W.get_value X J (PySem.W.plainGet_of hg).1 (PySem.W.findObj_own hh ha rfl (by rw [hl,hv])) hv' h
theorem CG{ns:List Str}{Q:Unit→Shared→Prop}(X:K.In s.heap)(I:kg s.heap x dx C mA)
    (hs:Kr K (.ref C) "__setattr__"=some (some (.builtin "object.__setattr__")))(hp:MW K C=true)(ht:Nm K C name=some none)(hh:Me K C=true)
    (hw:NY mA ns)(hsz:ns.length≤sizeLine)
    (h:∀h',kg h' x dx C (fun y=> if y=name then some v else mA y)→L9 dx s.heap h'→Q () {s with heap:=h',toks:=s.toks+2}):
    wpAny (model prog w) A (setAttr (.ref x) name v) Q E s:=by
  obtain⟨od,J,hl⟩:=I.look
  refine PySem.W.set_plain X J hs (PySem.W.osa_open (s:={s with toks:=s.toks+1}) (r:=none) X J hp ht fun b=> ?_)
  obtain⟨cd,hc,hd'⟩:=PySem.W.any_some hh
  have hx:s.heap.get? x=some ⟨.ref C,some dx,.plain,#[]⟩:=I.obj
  refine wpAny_bind (wpAny_pure (wpAny_bind (wpAny_bind (wpAny_loadPart hx (wpAny_bind (PySem.W.Looks.here (s:={s with toks:=s.toks+1}) (PySem.W.looks_clsIn X hc) ?_))))))
  rw [hd']
  refine wpAny_pure (a:=some dx) (wpAny_bind (wpAny_pure (wpAny_bind ?_)))
  refine wpAny_nsSet1 (s:={s with toks:=s.toks+1}) I.ns fun h' hn2 hs2=> ?_
  obtain⟨oD,esD,epD,hoD,hdD,hcD⟩:=hn2.count (NY.cons name v hw)
  refine wpAny_bind (wpAny_lookBehind hoD (by rw [hdD];exact pastItsLine_dict (JL hcD (by rw [JC];omega))) ?_)
  exact wpAny_pure (h _ ⟨(hs2.2 _ (Ne.symm I.ne)).trans I.obj,hn2,I.ne⟩ hs2)
theorem CH{R:Result→Shared→Prop}{vs:List Value}{kw:List (Str×Value)}(X:K.In s.heap)(hm:Nn K C=true)
    (hi:Kr K (.ref C) "__init__"=some (some (.ref f)))(hf:PySem.W.typeIn K (.ref f)=some (.type "function"))
    (h:codeAny (model prog w) (A.under (.builtin "type.__call__" ⟨.ref C::vs,kw⟩)) (.call (.ref f) ⟨.ref (s.heap.objs.size+1)::vs,kw⟩) (PySem.W.InitBack (s.heap.objs.size+1) R)
      {s with heap:=(s.heap.push KJ).push (K6 C s.heap.objs.size)}):
    codeAny (model prog w) A (.call (.ref C) ⟨vs,kw⟩) R s:=by
  obtain⟨hh,g,d,t,os⟩:=s
  exact PySem.W.make_core (PySem.W.makes_of X hm) (PySem.W.looks_findIn X hi) (fun self=> PySem.W.bind_fn X self hf) (.inl rfl) h
end
def dG(f:Str)(v:V):List (Str×V)→List (Str×V)
  | []=> [(f,v)]
  | (g,x)::r=> if g=f then(g,v)::r else(g,x)::dG f v r
theorem xw(f g:Str)(v:V):∀fs:List (Str×V),(dG f v fs).lookup g=if g=f then some v else fs.lookup g
  | []=> by
    show L1 g [(f,v)]=_
    by_cases h:g=f
    · have hb:(g==f)=true:=beq_iff_eq.mpr h
      simp only [L1,hb,if_pos h]
    · have hb:(g==f)=false:=beq_eq_false_iff_ne.mpr h
      simp only [L1,hb,if_neg h]
  | (k,x)::r=> by
    have ih:=xw f g v r
    rw [show dG f v ((k,x)::r)=(if k=f then(k,v)::r else(k,x)::dG f v r) from rfl]
    by_cases hk:k=f
    · rw [if_pos hk]
      by_cases h:g=k
      · have hb:(g==k)=true:=beq_iff_eq.mpr h
        simp only [L1,hb,if_pos (h.trans hk)]
      · have hb:(g==k)=false:=beq_eq_false_iff_ne.mpr h
        simp only [L1,hb,if_neg (fun e:g=f=> h (e.trans hk.symm))]
    · rw [if_neg hk]
      by_cases h:g=k
      · have hb:(g==k)=true:=beq_iff_eq.mpr h
        simp only [L1,hb,if_neg (fun e:g=f=> hk (h.symm.trans e))]
      · have hb:(g==k)=false:=beq_eq_false_iff_ne.mpr h
        simp only [L1,hb]
        exact ih
theorem uz(f:Str)(v:V):∀fs:List (Str×V),f∈(dG f v fs).map (·.1)∧∀g,g∈fs.map (·.1)→g∈(dG f v fs).map (·.1)
  | []=> ⟨by simp [dG],fun g h=> by simp at h⟩
  | (k,x)::r=> by
    obtain⟨i1,i2⟩:=uz f v r
    rw [show dG f v ((k,x)::r)=(if k=f then(k,v)::r else(k,x)::dG f v r) from rfl]
    by_cases hk:k=f
    · rw [if_pos hk]
      subst hk
      exact⟨by simp,fun g h=> by simpa using h⟩
    · rw [if_neg hk]
      refine⟨?_,fun g h=> ?_⟩
      · rw [Jj]
        exact JS _ i1
      · rw [Jj] at h⊢
        rcases Jy.mp h with e | e
        · exact Jy.mpr (.inl e)
        · exact JS _ (i2 g e)
theorem xx(f:Str)(v:V):∀fs:List (Str×V),(dG f v fs).length≤fs.length+1
  | []=> by simp [dG]
  | (k,x)::r=> by
    have ih:=xx f v r
    rw [show dG f v ((k,x)::r)=(if k=f then(k,v)::r else(k,x)::dG f v r) from rfl]
    by_cases hk:k=f
    · rw [if_pos hk,JC,JC];omega
    · rw [if_neg hk,JC,JC];omega
theorem d9.some_of{v:V}{o:Option Value}(r:d9 (some v) o):∃u,o=some u∧aG v u:=by
  cases o with
  | none=> exact(show False from r).elim
  | some u=> exact⟨u,rfl,r⟩
theorem CI{v:V}{u:Value}(r:aG v u):Oi u=true:=by
  cases v with
  | non=> cases (show u=LA from r);rfl
  | bl b=> cases (show u=Le b from r);rfl
  | int i=> obtain⟨t,e⟩:=(show ∃t,u=Lw i t from r);cases e;rfl
  | str x=> obtain⟨t,e⟩:=(show ∃t,u=Lx x t from r);cases e;rfl
  | byt b=> obtain⟨t,e⟩:=(show ∃t,u=O3 b t from r);cases e;rfl
  | flt b=> obtain⟨t,e⟩:=(show ∃t,u=O4 b t from r);cases e;rfl
  | ref a=> cases (show u=JP a from r);rfl
  | ty n=> cases (show u=Ox n from r);rfl
section
variable {P:Program} {w:World} {H H':Hp} {h h':Heap} {a C dx:Addr} {fs fs':List (Str×V)}
theorem xy(hok:bV P w H h)(e:H a=some (.ins C dx fs)):∃mA,kg h a dx C mA∧(∀f,d9 (fs.lookup f) (mA f))∧NY mA (fs.map (·.1))∧fs.length≤1000∧H dx=some (.own a):=by
  obtain⟨d,z,ne,ob,mA,n,r,q⟩:=(show cf P w H h a (.ins C dx fs) from hok a _ e)
  exact⟨mA,⟨ob,n,ne⟩,r,q,z,d⟩
end
structure hJ (K:Jd) (C:Addr):Prop where
  pg:Mn K C Str.empty=true
  hd:Me K C=true
  po:MW K C=true
  sa:Kr K (.ref C) "__setattr__"=some (some (.builtin "object.__setattr__"))
theorem hJ.get{K:Jd}{C:Addr}(c:hJ K C)(f:Str):Mn K C f=true:=c.pg
def eX(K:Jd)(C:Addr)(f:Str):Prop:=Kr K (.ref C) f=some none
theorem eX.taker{K:Jd}{C:Addr}{f:Str}(n:eX K C f):Nm K C f=some none:=by
  unfold Nm
  rw [show Kr K (.ref C) f=some none from n]
  rfl
section
variable {X:Cx} {pins:List (Addr×Obj)} {σ:St} {H:Hp} {s:Shared} {a C dx:Addr} {fs:List (Str×V)} {f:Str} {v:V} {A:Around} {E:Value→Shared→Prop}
theorem CJ{b:Bool}{Q:Value→Shared→Prop}(I:af X pins σ H s)(e:H a=some (.ins C dx fs))(c:hJ X.K C)(n:eX X.K C f)(l:fs.lookup f=some v)
    (h:∀u s',af X pins σ H s'→aG v u→Q u s'):wpAny (model X.prog X.w) A (getAttr (.ref a) f b) Q E s:=by
  obtain⟨mA,O,r,_,_,_⟩:=xy I.hok e
  obtain⟨u,hu,ru⟩:=d9.some_of (v:=v) (o:=mA f) (by rw [←l];exact r f)
  exact CF I.kIn O (c.get f) c.hd n hu (CI ru) (h u _ (I.tok _) ru)
theorem CK{y:V}{u:Value}{Q:Unit→Shared→Prop}(I:af X pins σ H s)(e:H a=some (.ins C dx fs))(c:hJ X.K C)(n:eX X.K C f)(hl:fs.length < 1000)(ry:aG y u)
    (h:∀s',af X pins σ (ao H a (.ins C dx (dG f y fs))) s'→Q () s'):wpAny (model X.prog X.w) A (setAttr (.ref a) f u) Q E s:=by
  obtain⟨mA,O,r,wi,_,ho⟩:=xy I.hok e
  have hz:(fs.map (·.1)).length≤sizeLine:=by rw [Jf,sizeLine_eq];omega
  refine CG I.kIn O c.sa c.po n.taker c.hd wi hz fun h' O' sb=> h _ ?_
  have hd:∃o,h'.get? dx=some o:=let ⟨o,_,_,e',_⟩:=O'.ns;⟨o,e'⟩
  refine I.write (x:=a) (e:=dx) (by rw [e];exact Ko) (.inr ho) (fun b q hb z=> (sb.2 b hb).trans z) hd ?_
  refine⟨by rw [aJ O.ne];exact ho,?_,O.ne,O'.obj,_,O'.ns,fun g=> ?_,fun g hg=> ?_⟩
  · have:=xx f y fs;omega
  · show d9 ((dG f y fs).lookup g) (if g=f then some u else mA g)
    rw [xw]
    by_cases q:g=f
    · rw [if_pos q,if_pos q];exact ry
    · rw [if_neg q,if_neg q];exact r g
  · by_cases q:g=f
    · rw [q];exact(uz f y fs).1
    · refine(uz f y fs).2 g (wi g fun z=> hg ?_)
      show(if g=f then some u else mA g)=none
      rw [if_neg q];exact z
theorem af.made(I:af X pins σ H s):af X pins σ (ao (ao H s.heap.objs.size (.own (s.heap.objs.size+1))) (s.heap.objs.size+1) (.ins C s.heap.objs.size []))
    {s with heap:=(s.heap.push KJ).push (K6 C s.heap.objs.size)}:=by
  have e1:(s.heap.push KJ).get? s.heap.objs.size=some KJ:=JR s.heap rfl
  have e2:((s.heap.push KJ).push (K6 C s.heap.objs.size)).get? (s.heap.objs.size+1)=some (K6 C s.heap.objs.size):=by
    have:=JR (s.heap.push KJ) (o:=K6 C s.heap.objs.size) rfl
    rwa [OG] at this
  have e3:(s.heap.push KJ).Ns s.heap.objs.size (fun _=> none):=⟨KJ,#[],_,e1,rfl,(fun e he=> absurd he (by simp)),fun _=> rfl⟩
  have I1:=I.laid (a:=s.heap.objs.size) (o:= .own (s.heap.objs.size+1)) (h':=s.heap.push KJ) (t':=s.toks) (fun b u q=> Jl _ q) (Jm _) ⟨_,e1⟩
  refine I1.laid (a:=s.heap.objs.size+1) (o:= .ins C s.heap.objs.size []) (t':=s.toks) (fun b u q=> Jl _ q) (OU (OG _ _)) ?_
  have ne:s.heap.objs.size≠s.heap.objs.size+1:=JJ (Oj _)
  refine⟨by rw [aJ ne,bj],Kp _,ne,e2,fun _=> none,(Heap.Ns1.of_empty e3).at fun o q=> Jl _ q,fun _=> Ko,fun y hy=> absurd rfl hy⟩
theorem CL{prog:Program}{w:World}{env:Env}{e:Expr}{f:Str}{pos:Pos}{s:Shared}{Q:Value→Shared→Prop}(hb:attributeBase e f env (eval e env)=eval e env)
    (h:wpAny (model prog w) A (eval e env) (fun o s₁=> wpAny (model prog w) A (getAttr o f true) Q E s₁) E s):wpAny (model prog w) A (eval (.Attribute e f pos) env) Q E s:=
  Attribute_any_ h (by rw [arm_eval_Attribute,hb])
end
def CM(K:Jd)(ta:TE)(f:Str):TE:=fun σ H Q=> ta σ H fun x H1=> ∃a C dx fs v,x= .ref a∧H1 a=some (.ins C dx fs)∧hJ K C∧eX K C f∧fs.lookup f=some v∧Q v H1
def CN(K:Jd)(ta tv:TE)(f:Str):TS:=fun D σ H=> tv σ H fun y H1=> ta σ H1 fun x H2=> ∃a C dx fs,x= .ref a∧H2 a=some (.ins C dx fs)∧hJ K C∧eX K C f∧fs.length < 1000∧
  D.nx σ (ao H2 a (.ins C dx (dG f y fs)))
section
variable {X:Cx} {o e value:Expr} {f:Str} {pos pos' tpos:Pos} {ta tv:TE}
theorem CO(he:PE X e ta)(hb:attributeBase e f X.env (eval e X.env)=eval e X.env):PE X (.Attribute e f pos) (CM X.K ta f):=by
  intro pins s σ H Q I h
  refine CL hb (aD (he pins s σ H _ I h) fun u s1 ⟨x,H1,I1,rx,a,C,dx,fs,v,ex,ea,c,n,l,q⟩=> ?_)
  subst ex
  obtain rfl:u=JP a:=rx
  exact CJ I1 ea c n l fun u' s2 I2 ru=> ⟨v,H1,I2,ru,q⟩
theorem CP(ha:PE X o ta)(hv:PE X value tv)(hs:swapsWith value (some (.Attribute o f pos')) pos.line X.env=pure false):PS X (.Assign [.Attribute o f pos'] value pos) (CN X.K ta tv f):=by
  intro pins s σ H D I h
  refine plainObj_wpAny_Assign_Attribute (aD (hv pins s σ H _ I h) fun u s1 ⟨y,H1,I1,ry,q⟩=> aD (ha pins s1 σ H1 _ I1 q) fun ov s2 ⟨x,H2,I2,rx,a,C,dx,fs,ex,ea,c,n,l,q2⟩=> ?_) hs
  subst ex
  obtain rfl:ov=JP a:=rx
  exact CK I2 ea c n l ry fun s3 I3=> ⟨σ,_,I3,q2⟩
end
section
variable {X:Cx} {pins:List (Addr×Obj)} {σ:St} {H:Hp} {s:Shared} {A:Around} {E:Value→Shared→Prop} {Q:Value→Shared→Prop} {c:Value} {b:Bool}
end
end L2
namespace L2
open PySem PySem.Spec PyProof.Rows
structure bE (k:Nat) (A:Around):Prop where
  hd:A.handled=none
  dp:A.depth+3*k+5 < recursionLimit
  un:A.units+16*k+200 < cLine
theorem bE.mono{j k:Nat}{A:Around}(r:bE k A)(h:j≤k):bE j A:=⟨r.hd,by have:=r.dp;omega,by have:=r.un;omega⟩
theorem bE.deeper{k:Nat}{A:Around}(r:bE (k+1) A)(env:Env):bE k (A.deeper env):=
  ⟨r.hd,by have:=r.dp;show A.depth+1+3*k+5 < _;omega,by have:=r.un;show A.units+3+16*k+200 < _;omega⟩
theorem bE.in1{k:Nat}{A:Around}(r:bE (k+1) A):bE k A.in1:=
  ⟨r.hd,by have:=r.dp;show A.depth+3*k+5 < _;omega,by have:=r.un;show A.units+1+16*k+200 < _;omega⟩
theorem CQ{A:Around}{C:Addr}{us:List Value}{kw:List (Str×Value)}:(A.under (.builtin "type.__call__" ⟨.ref C::us,kw⟩)).depth=A.depth+1:=by
  first | rfl | simp [NZ,Code.weight,Code.isCreation,Code.isGuard,Code.isCaller,O7,N0,guardIds]
theorem CS{A:Around}{C:Addr}{us:List Value}{kw:List (Str×Value)}:(A.under (.builtin "type.__call__" ⟨.ref C::us,kw⟩)).units=A.units+1:=by
  first | rfl | simp [NZ,Code.cUnits,O7,N0]
theorem bE.make{k:Nat}{A:Around}(r:bE (k+1) A)(C:Addr)(us:List Value)(kw:List (Str×Value)):bE k (A.under (.builtin "type.__call__" ⟨.ref C::us,kw⟩)):=
  ⟨r.hd,by have:=r.dp;rw [CQ];omega,by have:=r.un;rw [CS];omega⟩
theorem bE.depth{k:Nat}{A:Around}(r:bE k A):A.depth < recursionLimit:=by have:=r.dp;omega
theorem bE.units{k:Nat}{A:Around}(r:bE k A):A.units+64 < cLine:=by have:=r.un;omega
theorem bE.units0{k:Nat}{A:Around}(r:bE k A):A.units < cLine:=by have:=r.un;omega
def xA:TA:=fun _ H Q=> Q [] H
def xB(ta:TE)(tr:TA):TA:=fun σ H Q=> ta σ H fun x H1=> tr σ H1 fun xs H2=> Q (x::xs) H2
section
variable {X:Cx} {e:Expr} {es:List Expr} {te:TE} {t:TA} {pos:Pos}
theorem bZ:PA X [] xA:=fun _ _ _ _ H Q I h=> Oc ⟨[],H,I,.nil,h⟩
theorem bx(ha:PE X e te)(hr:PA X es t)(hs:starEach (e::es) X.env=(false,eval e X.env)::starEach es X.env:=by rfl):PA X (e::es) (xB te t):=by
  intro pos pins s σ H Q I h
  rw [hs]
  show wpAny _ _ (spliced ((false,eval e X.env)::backTo pos (starEach es X.env))) _ _ s
  refine N1 (aD (ha pins s σ H _ I h) fun u s1 ⟨x,H1,I1,r1,q1⟩=> ?_)
  exact aD (hr pos pins s1 σ H1 _ I1 q1) fun us s2 uu42=> by obtain⟨xs,H2,I2,r2,q2⟩:=uu42;exact⟨x::xs,H2,I2,.cons r1 r2,q2⟩
def xC(t:TA):TE:=fun σ H Q=> t σ H fun xs H1=> xs.length≤sizeLine∧∀p,H1 p=none→Q (.ref p) (ao H1 p (.tup xs))
def xD(t:TA):TE:=fun σ H Q=> t σ H fun xs H1=> xs.length≤sizeLine∧∀p,H1 p=none→Q (.ref p) (ao H1 p (.lst xs))
theorem xE{x1}(h:PA X es t):PE X (.Tuple es x1 pos) (xC t):=by
  intro pins s σ H Q I hq
  refine wpAny_Tuple_spliced (aD (h pos pins s σ H _ I hq) fun us s1 ⟨xs,H1,I1,r,z,q⟩=> ⟨by rw [←r.length];exact z,?_⟩)
  have hf:H1 s1.heap.objs.size=none:=I1.hok.fresh (Jm _)
  refine⟨.ref s1.heap.objs.size,ao H1 s1.heap.objs.size (.tup xs),I1.laid (t':=s1.toks) (fun b u e=> Jl _ e) (Jm _) ?_,rfl,q _ hf⟩
  exact⟨z,us,r,⟨_,JR _ rfl,rfl,_,rfl⟩⟩
theorem pF(h:PA X es t):PE X (.List es pos) (xD t):=by
  intro pins s σ H Q I hq
  refine wpAny_List_spliced (aD (h pos pins s σ H _ I hq) fun us s1 ⟨xs,H1,I1,r,z,q⟩=> ⟨by rw [←r.length];exact z,?_⟩)
  have hf:H1 s1.heap.objs.size=none:=I1.hok.fresh (Jm _)
  refine⟨.ref s1.heap.objs.size,ao H1 s1.heap.objs.size (.lst xs),I1.laid (t':=s1.toks) (fun b u e=> Jl _ e) (Jm _) ?_,rfl,q _ hf⟩
  exact⟨z,us,0,r,JR _ rfl⟩
end
abbrev Sp:=List V→Hp→VK→XK→Prop
abbrev eB:=List Env→Hp→Shared→XK→Value→Shared→Prop
structure gu (P:Program) (w:World) (K:Jd) (mg:Str→Option Value) (base:Heap) (A:Around) (outer:List Env) (s:Shared) (H:Hp):Prop where
  frames:A.frames=some outer
  mod:Mod K mg base
  bs:∀b o,base.get? b=some o→s.heap.get? b=some o∧H b=none
  bsz:base.objs.size≤s.heap.objs.size
  funs:s.heap.FunFrames base outer
  frf:∀b∈eV outer,H b=none
  hok:bV P w H s.heap
  bare:AllBare s.gens
def CE(outer:List Env)(P:Program)(w:World)(H:Hp)(s:Shared)(Q:VK)(u:Value)(s':Shared):Prop:=
  ∃v H',s'.os=s.os∧AllBare s'.gens∧Un (eV outer) [] H H' s.heap s'.heap∧bV P w H' s'.heap∧aG v u∧Q v H'
def CR(CX:eB)(outer:List Env)(P:Program)(w:World)(H:Hp)(s:Shared)(Q:VK)(E:XK)(r:Result)(s':Shared):Prop:=
  match r with
  | .ok (.ret u)=> CE outer P w H s Q u s'
  | .ok _=> False
  | .error e=> CX outer H s E e s'
structure aK (P:Program) (w:World) (K:Jd) (mg:Str→Option Value) (base:Heap) (CX:eB) (k:Nat) (f:Addr) (fd:FuncData) (ps:List Str) (sp:Sp):Prop where
  len:∀vs H Q E,sp vs H Q E→vs.length=ps.length
  run:∀(A:Around)(outer:List Env)(s:Shared)(H:Hp)(args:Args)(us:List Value)(vs:List V)(Q:VK)(E:XK),bE k A→gu P w K mg base A outer s H→BindsTo s fd args (ps.zip us)→aH vs us→sp vs H Q E→
    codeAny (model P w) A (.call (.ref f) args) (CR CX outer P w H s Q E) s
theorem aK.imp{P:Program}{w:World}{K:Jd}{mg:Str→Option Value}{base:Heap}{CX:eB}{k:Nat}{f:Addr}{fd:FuncData}{ps:List Str}{sp sp':Sp}(F:aK P w K mg base CX k f fd ps sp)
    (h:∀vs H Q E,sp' vs H Q E→sp vs H Q E):aK P w K mg base CX k f fd ps sp':=
  ⟨fun vs H Q E q=> F.len vs H Q E (h _ _ _ _ q),fun A outer s H args us vs Q E hr he hb hv hs=> F.run A outer s H args us vs Q E hr he hb hv (h _ _ _ _ hs)⟩
theorem gu.make{P:Program}{w:World}{K:Jd}{mg:Str→Option Value}{base:Heap}{A:Around}{outer:List Env}{s:Shared}{H:Hp}(e:gu P w K mg base A outer s H)(C:Addr)(us:List Value)(kw:List (Str×Value)):
    gu P w K mg base (A.under (.builtin "type.__call__" ⟨.ref C::us,kw⟩)) outer s H:=⟨by first | exact e.frames | (simpa [NZ,Code.envs,N0,pushEnvs] using e.frames),e.mod,e.bs,e.bsz,e.funs,e.frf,e.hok,e.bare⟩
theorem gu.in1{P:Program}{w:World}{K:Jd}{mg:Str→Option Value}{base:Heap}{A:Around}{outer:List Env}{s:Shared}{H:Hp}(e:gu P w K mg base A outer s H):
    gu P w K mg base A.in1 outer s H:=⟨e.frames,e.mod,e.bs,e.bsz,e.funs,e.frf,e.hok,e.bare⟩
section
variable {X:Cx} {pins:List (Addr×Obj)} {σ:St} {H:Hp} {s s':Shared}
theorem af.env0(I:af X pins σ H s):gu X.prog X.w X.K X.mg X.base X.A X.stack s H:=
  ⟨I.ok.frames,I.ok.mod,I.bs,JL I.ok.bsz I.sz,I.stack,I.stkFree,I.hok,I.bare⟩
theorem af.after{Q:VK}{u:Value}(I:af X pins σ H s)(h:CE X.stack X.prog X.w H s Q u s'):EP X pins σ Q u s':=by
  obtain⟨v,H',os,bare,un,hok,r,q⟩:=h
  obtain⟨hh,g,d,t,os'⟩:=s'
  obtain rfl:os'=s.os:=os
  exact⟨v,H',I.call (h':=hh) (g':=g) (d':=d) (t':=t) (ch:=[]) un hok bare (fun b z=> absurd z (by simp)),r,q⟩
end
def uA(sp:Sp)(dvs:List V)(E:XK)(t:TA):TE:=fun σ H Q=> t σ H fun vs H1=> sp (vs++dvs) H1 Q E
def xF(C:Addr)(sp:Sp)(dvs:List V)(E:XK)(t:TA):TE:=fun σ H Q=> t σ H fun vs H1=> ∀x dx,H1 x=none→H1 dx=none→dx≠x→
  sp (.ref x::(vs++dvs)) (ao (ao H1 dx (.own x)) x (.ins C dx [])) (fun v H2=> v= .non∧Q (.ref x) H2) E
def aQ(K:Jd)(fd:FuncData)(ps:List Str)(ds:List Value):Prop:=
  ∀(s:Shared)(us:List Value),K.In s.heap→(us++ds).length=ps.length→BindsTo s fd ⟨us,[]⟩ (ps.zip (us++ds))
theorem aQ.all{K:Jd}{fd:FuncData}{ps:List Str}(h:∀us:List Value,us.length=ps.length→bindArgs fd ⟨us,[]⟩=pure (ps.zip us)):aQ K fd ps []:=fun s us _ hl=> by
  rw [JX] at hl⊢
  exact .of_eq (h us hl)
def mi(CX:eB)(X:Cx)(E:XK):Prop:=∀(pins:List (Addr×Obj))(σ:St)(H:Hp)(s:Shared)(e:Value)(s':Shared),af X pins σ H s→CX X.stack H s E e s'→X.xe e s'
section
variable {X:Cx} {CX:eB} {k:Nat} {f C:Addr} {fd:FuncData} {ps:List Str} {sp:Sp} {dvs:List V} {ds:List Value} {E:XK} {x m:Str} {p pos apos:Pos} {e o:Expr} {es:List Expr} {ta:TE} {t:TA}
theorem CT{pins:List (Addr×Obj)}{σ:St}{H:Hp}{s:Shared}{Q:VK}{us:List Value}{vs:List V}(F:aK X.prog X.w X.K X.mg X.base CX k f fd ps sp)(hr:bE k X.A)(hb:aQ X.K fd ps ds)(hd:aH dvs ds)(hx:mi CX X E)
    (I:af X pins σ H s)(r:aH vs us)(h:sp (vs++dvs) H Q E):wpAny (model X.prog X.w) X.A (call (.ref f) us) (EP X pins σ Q) X.xe s:=by
  have r2:aH (vs++dvs) (us++ds):=r.append hd
  have hl:(us++ds).length=ps.length:=by rw [←r2.length];exact F.len _ _ _ _ h
  refine wpAny_call (codeAny_mono (F.run X.A X.stack s H ⟨us,[]⟩ (us++ds) (vs++dvs) Q E hr I.env0 (hb s us I.kIn hl) r2 h) fun r s' hq=> ?_)
  cases r with
  | error e=> exact hx pins σ H s e s' I hq
  | ok fl=>
    cases fl with
    | ret u=> exact I.after hq
    | next=> exact KD hq
    | brk=> exact KD hq
    | cont=> exact KD hq
theorem ax(F:aK X.prog X.w X.K X.mg X.base CX k f fd ps sp)(hr:bE k X.A)(hg:Gl X x)(hm:X.mg x=some (.ref f))(hk:Jq X.K (.ref f)=true)(hb:aQ X.K fd ps ds)(hd:aH dvs ds)(hx:mi CX X E)
    (ha:PA X (e::es) t)(hdb:(x==("__debug__":Str))=false:=by decide)(he:starEach (e::es) X.env=(false,eval e X.env)::starEach es X.env:=by rfl)(hpl:(backTo pos (starEach es X.env)).any (·.1)=false:=by rfl):
    PE X (.Call (.Name x p) (e::es) [] pos) (uA sp dvs E t):=by
  intro pins s σ H Q I h
  refine wpAny_Call_Name_kw (oY I hg hm ?_ hdb)
  refine N2 (h₀:=X.base) I.ok.mod.kin hk (aD (ha pos pins s σ H _ I h) fun us s1 ⟨vs,H1,I1,r,q⟩=> ⟨I1.kIn,?_⟩) he hpl
  exact CT F hr hb hd hx I1 r q
structure Mk (K:Jd) (C f:Addr):Prop where
  makes:Nn K C=true
  init:Kr K (.ref C) "__init__"=some (some (.ref f))
  fn:OV K (.ref f)=true
  kp:Jq K (.ref C)=true
theorem CU{pins:List (Addr×Obj)}{σ:St}{H:Hp}{s:Shared}{Q:VK}{us:List Value}{vs:List V}(M:Mk X.K C f)(F:aK X.prog X.w X.K X.mg X.base CX k f fd ps sp)(hr:bE (k+1) X.A)(hb:aQ X.K fd ps ds)(hd:aH dvs ds)
    (hx:mi CX X E)(I:af X pins σ H s)(r:aH vs us)
    (h:∀x dx,H x=none→H dx=none→dx≠x→sp (.ref x::(vs++dvs)) (ao (ao H dx (.own x)) x (.ins C dx [])) (fun v H2=> v= .non∧Q (.ref x) H2) E):
    wpAny (model X.prog X.w) X.A (call (.ref C) us) (EP X pins σ Q) X.xe s:=by
  have hq:=h (s.heap.objs.size+1) s.heap.objs.size (I.hok.fresh (MG _)) (I.hok.fresh (Jm _)) (JJ (Oj _))
  have I2:=af.made (C:=C) I
  have r2:aH (V.ref (s.heap.objs.size+1)::(vs++dvs)) (JP (s.heap.objs.size+1)::(us++ds)):= .cons rfl (r.append hd)
  have hl:(JP (s.heap.objs.size+1)::us++ds).length=ps.length:=by
    have e:=r2.length
    rw [F.len _ _ _ _ hq] at e
    exact e.symm
  refine wpAny_call (CH (f:=f) I.kIn M.makes M.init (beq_iff_eq.mp M.fn) (codeAny_mono (F.run _ X.stack _ _ ⟨JP (s.heap.objs.size+1)::us,[]⟩ (JP (s.heap.objs.size+1)::(us++ds)) _ _ E (hr.make C us [])
    (I2.env0.make C us []) (hb _ (JP (s.heap.objs.size+1)::us) I2.kIn hl) r2 hq) fun r s' hq'=> ?_))
  cases r with
  | error e=> exact hx pins σ _ _ e s' I2 hq'
  | ok fl=>
    cases fl with
    | ret u=>
      obtain⟨v,H',I3,rv,ev,q3⟩:=I2.after hq'
      subst ev
      exact⟨rv,⟨V.ref (s.heap.objs.size+1),H',I3,rfl,q3⟩⟩
    | next=> exact KD hq'
    | brk=> exact KD hq'
    | cont=> exact KD hq'
theorem xG(M:Mk X.K C f)(F:aK X.prog X.w X.K X.mg X.base CX k f fd ps sp)(hr:bE (k+1) X.A)(hg:Gl X x)(hm:X.mg x=some (.ref C))(hb:aQ X.K fd ps ds)(hd:aH dvs ds)(hx:mi CX X E)
    (ha:PA X (e::es) t)(hdb:(x==("__debug__":Str))=false:=by decide)(he:starEach (e::es) X.env=(false,eval e X.env)::starEach es X.env:=by rfl)(hpl:(backTo pos (starEach es X.env)).any (·.1)=false:=by rfl):
    PE X (.Call (.Name x p) (e::es) [] pos) (xF C sp dvs E t):=by
  intro pins s σ H Q I h
  refine wpAny_Call_Name_kw (oY I hg hm ?_ hdb)
  refine N2 (h₀:=X.base) I.ok.mod.kin M.kp (aD (ha pos pins s σ H _ I h) fun us s1 ⟨vs,H1,I1,r,q⟩=> ⟨I1.kIn,?_⟩) he hpl
  exact CU M F hr hb hd hx I1 r q
end
section
variable {X:Cx} {CX:eB} {k:Nat} {f C:Addr} {fd:FuncData} {ps ks:List Str} {sp:Sp} {E:XK} {x m:Str} {p pos apos kpos:Pos} {e o:Expr} {es:List Expr} {kws:List Keyword} {te ta:TE} {t tk:TA} {nm:Option Str}
variable {g:List Value→List Value→List Value} {gV:List V→List V→List V}
end
structure bg (N P:List Str) (sc:Scope):Prop where
  kind:sc.kind= .function
  co:sc.isCoroutine=false
  gen:sc.isGenerator=false
  nd:N.Nodup
  pre:N.take P.length=P
  par:∀x∈P,sc.names.lookup x=some .local∨sc.names.lookup x=some .cell
  nofree:∀y∈sc.names,y.2≠ .free
theorem xH{kindOf:Str→Option NameKind}{x:Str}:∀{binds:List (Str×Value)}{m:Str→Option Value},(∀v,(x,v)∉ binds)→bindL kindOf binds m x=m x
  | [],_,_=> rfl
  | (n,v)::r,m,h=> by
    unfold bindL
    rw [xH fun w hw=> h w (JS _ hw)]
    split
    · have:x≠n:=by rintro rfl;exact h v JY
      simp [this]
    · rfl
theorem xI{kindOf:Str→Option NameKind}{x:Str}:∀{binds:List (Str×Value)}{m:Str→Option Value},(∀v,(x,v)∉ binds)→bindC kindOf binds m x=m x
  | [],_,_=> rfl
  | (n,v)::r,m,h=> by
    unfold bindC
    rw [xI fun w hw=> h w (JS _ hw)]
    split
    · rfl
    · have:x≠n:=by rintro rfl;exact h v JY
      simp [this]
theorem xJ{kindOf:Str→Option NameKind}{x:Str}{v:Value}:∀{P:List Str}{vs:List Value}{i:Nat}{m:Str→Option Value},P.Nodup→P[i]?=some x→vs[i]?=some v→kindOf x=some .local→
    bindL kindOf (P.zip vs) m x=some v
  | [],_,_,_,_,h,_,_=> by simp at h
  | _::_,[],_,_,_,_,h,_=> by simp at h
  | p::P,w::vs,0,m,nd,h1,h2,hk=> by
    simp at h1 h2;subst h1;subst h2
    show bindL kindOf ((p,w)::P.zip vs) m p=_
    unfold bindL
    rw [xH fun v hv=> (KA.mp nd).1 (Np hv).1,if_pos hk]
    simp
  | p::P,w::vs,i+1,m,nd,h1,h2,hk=> by
    show bindL kindOf ((p,w)::P.zip vs) m x=_
    unfold bindL
    exact xJ (i:=i) (KA.mp nd).2 (by simpa using h1) (by simpa using h2) hk
theorem xK{kindOf:Str→Option NameKind}{x:Str}{v:Value}:∀{P:List Str}{vs:List Value}{i:Nat}{m:Str→Option Value},P.Nodup→P[i]?=some x→vs[i]?=some v→kindOf x≠some .local→
    bindC kindOf (P.zip vs) m x=some v
  | [],_,_,_,_,h,_,_=> by simp at h
  | _::_,[],_,_,_,_,h,_=> by simp at h
  | p::P,w::vs,0,m,nd,h1,h2,hk=> by
    simp at h1 h2;subst h1;subst h2
    show bindC kindOf ((p,w)::P.zip vs) m p=_
    unfold bindC
    rw [xI fun v hv=> (KA.mp nd).1 (Np hv).1,if_neg hk]
    simp
  | p::P,w::vs,i+1,m,nd,h1,h2,hk=> by
    show bindC kindOf ((p,w)::P.zip vs) m x=_
    unfold bindC
    exact xK (i:=i) (KA.mp nd).2 (by simpa using h1) (by simpa using h2) hk
def start(N:List Str)(vs:List V):St:=vs.map some++Jx (N.length - vs.length) none
def hU(CX:eB)(P:Program)(w:World)(K:Jd)(mg:Str→Option Value)(base:Heap)(N:List Str)(qual:Str)(scope:Scope)(f:Addr)(cd:Value)(A:Around)(outer:List Env)(s:Shared)(H:Hp)(E:XK):Cx where
  prog:=P
  w:=w
  K:=K
  mg:=mg
  base:=base
  A:=A.deeper (envOfC qual scope s.heap.objs.size f cd)
  N:=N
  s₀:=s
  H₀:=H
  env:=envOfC qual scope s.heap.objs.size f cd
  outer:=outer
  stack:=envOfC qual scope s.heap.objs.size f cd::outer
  ex:=[]
  calm:=true
  fn:=fun _=> true
  pn:=[]
  xe:=fun e s'=> wpAny (model P w) (A.deeper (envOfC qual scope s.heap.objs.size f cd)) (leaving (envOfC qual scope s.heap.objs.size f cd) e) (fun _ s''=> CX outer H s E e s'') (fun e' s''=> CX outer H s E e' s'') s'
theorem xM{sc:Scope}{n:Nat}{x:Str}(h:sc.names.lookup x=some .cell):∃c,(cellsFrom n sc.names []).lookup x=some c:=by
  have q:=Nv sc.names n [] (.inl h)
  exact Option.isSome_iff_exists.mp q
theorem CV{CX:eB}{P:Program}{w:World}{K:Jd}{mg:Str→Option Value}{base:Heap}{N ps:List Str}{qual:Str}{scope:Scope}{f:Addr}{cd:Value}{A:Around}{outer:List Env}{s s1:Shared}{H:Hp}{E:XK}{us:List Value}{vs:List V}
    (S:bg N ps scope)(hd:A.handled=none)(e0:gu P w K mg base A outer s H)(hl:vs.length=ps.length)(r:aH vs us)
    (x:InCallC s s.heap.objs.size (bindL (envOfC qual scope s.heap.objs.size f cd).kindOf (ps.zip us) fun _=> none) (cellsFrom (s.heap.objs.size+1) scope.names []) (bindC (envOfC qual scope s.heap.objs.size f cd).kindOf (ps.zip us) fun _=> none) s1):
    af (hU CX P w K mg base N qual scope f cd A outer s H E) [] (start N vs) H s1:=by
  have hpl:ps.length≤N.length:=by have:=congrArg MH S.pre;rw [J8] at this;omega
  obtain⟨h1,tk,rfl,hk⟩:=x.done
  have noA:∀b:Addr,b ∉ (hU CX P w K mg base N qual scope f cd A outer s H E).ex:=fun b z=> absurd (show b∈([]:List Addr) from z) (by simp)
  refine⟨⟨e0.mod,S.kind,rfl,rfl,Jm _,fun y z c h1 h2=> ?_,fun y hy=> ?_,fun y c _ h=> ?_,fun _=> hd,Around.frames_deeper e0.frames,.inr ⟨rfl,rfl⟩,fun b z=> absurd z (noA b),e0.bs,e0.bsz,fun b _ _=> noA b,fun b z=> absurd z (noA b),e0.funs,e0.frf⟩,
    rfl,e0.bare,Un.kept hk,⟨_,x.toInCall.ns,fun i y v h1 h2 h3=> ?_⟩,fun y c h=> ⟨_,x.cell y c h⟩,e0.hok.fresh (Jm _),fun y c h=> ?_,fun p hp=> absurd (show p∈([]:List (Addr×Obj)) from hp) (by simp),e0.hok.kept hk,?_⟩
  · exact name_of_addr x.apart (La h1) (La h2)
  · have hy:scope.names.lookup y=some .cell∨scope.names.lookup y=some .free:=hy
    rcases hy with hy | hy
    · exact xM hy
    · exact absurd rfl (S.nofree _ (La hy))
  · exact LO (x.above y c (La h))
  · have hi:i < vs.length:=by
      unfold start at h2
      by_cases hi:i < vs.length
      · exact hi
      · rw [KZ (by simpa using hi)] at h2
        rw [Lz] at h2
        split at h2 <;> cases h2
    have ha:vs[i]?=some v:=by
      unfold start at h2
      rw [K3 (by simpa using hi),JB] at h2
      cases e:vs[i]? with
      | none=> rw [e] at h2;cases h2
      | some a=> rw [e] at h2;cases h2;rfl
    obtain⟨u,hu,rv⟩:=r.get ha
    have hp:ps[i]?=some y:=by
      rw [←S.pre,List.getElem?_take_of_lt (by omega)];exact h1
    have ndP:ps.Nodup:=by rw [←S.pre];exact S.nd.sublist (LL _ _)
    refine⟨u,rv,?_⟩
    rcases S.par y (JO hp) with k | k
    · exact .inl ⟨k,xJ ndP hp hu k⟩
    · obtain⟨c,e⟩:=xM (n:=s.heap.objs.size+1) k
      refine .inr ⟨.inl k,c,e,?_⟩
      have q:=x.cell y c e
      rw [xK ndP hp hu (by show scope.names.lookup y≠_;rw [k];decide)] at q
      exact q
  · exact e0.hok.fresh (LO (x.above y c (La h)))
  · unfold start
    show _=N.length
    rw [Kq,Jf,K2]
    omega
theorem CW{CX:eB}{P:Program}{w:World}{K:Jd}{mg:Str→Option Value}{base:Heap}{k:Nat}{f:Addr}{name qual:Str}{params:Arguments}{body:List Stmt}{scope:Scope}{dV kV doc pm cdv ct oc:Value}{an od:Option Addr}
    {osl:Array (Option Value)}{N ps:List Str}{sp:Sp}(lk:K.lookup f=some ⟨oc,od,.func (Ji name qual params body scope dV kV doc pm an cdv ct),osl⟩)(hcd:Js K cdv qual=true)(S:bg N ps scope)
    (len:∀vs H Q E,sp vs H Q E→vs.length=ps.length)
    (hbody:∀(A:Around) (outer:List Env) (s:Shared) (H:Hp) (vs:List V) (Q:VK) (E:XK),bE k (A.deeper (envOfC qual scope s.heap.objs.size f cdv))→sp vs H Q E→
      ∃t,bM (hU CX P w K mg base N qual scope f cdv A outer s H E) body t∧t {nx:=fun _ H'=> Q .non H',rt:=Q} (start N vs) H):
    aK P w K mg base CX (k+1) f (Ji name qual params body scope dV kV doc pm an cdv ct) ps sp:=by
  refine⟨len,fun A outer s H args us vs Q E hr e0 hb r hsp=> ?_⟩
  have hl:=len _ _ _ _ hsp
  have KX:K.In s.heap:=e0.mod.kin.keeps fun b o e=> (e0.bs b o e).1
  have lim:s.heap.NoLimit:=e0.mod.nolimit.keeps fun b o e=> (e0.bs b o e).1
  have hkind:∀y∈ps.zip us,scope.names.lookup y.1=some .local∨(scope.names.lookup y.1=some .cell∧((cellsFrom (s.heap.objs.size+1) scope.names []).lookup y.1).isSome=true):=fun uu47 hy=> by
    obtain⟨n,v⟩:=uu47
    rcases S.par n (Np hy).1 with q | q
    · exact .inl q
    · exact .inr ⟨q,Nv _ _ _ (.inl q)⟩
  refine codeAny_call_function hr.depth (KX _ _ lk) rfl S.co S.gen rfl (PySem.W.codeRec_of KX hcd) (hb _ _ _ _ ?_)
  refine wpAny_newFunctionEnv_cells S.kind hkind fun env he s1 x=> ?_
  subst he
  refine⟨lim.keeps x.toInCall.keep,codeAny_func ?_⟩
  obtain⟨t,ht,hq⟩:=hbody A outer s H vs Q E (hr.deeper _) hsp
  have I:af (hU CX P w K mg base N qual scope f cdv A outer s H E) [] (start N vs) H s1:=CV S hr.hd e0 hl r x
  refine wpAny_mono (ht [] s1 (start N vs) H _ I hq) (fun fl s' hs=> ?_) fun e s' hs=> hs
  have fin:∀{σ':St}{H':Hp}{v:V}{u:Value},af (hU CX P w K mg base N qual scope f cdv A outer s H E) [] σ' H' s'→aG v u→Q v H'→CE outer P w H s Q u s':=
    fun{σ' H' v u} J rv q=> ⟨v,H',J.os,J.bare,J.base,J.hok,rv,q⟩
  cases fl with
  | ret u=>
    obtain⟨v,σ',H',J,rv,q⟩:=hs
    exact fin J rv q
  | next=>
    obtain⟨σ',H',J,q⟩:=hs
    exact fin (v:=V.non) (u:=LA) J rfl q
  | brk=>
    obtain⟨_,_,_,q⟩:=hs
    exact KD q
  | cont=>
    obtain⟨_,_,_,q⟩:=hs
    exact KD q
end L2
namespace L2
open PySem PySem.Spec PyProof.Rows
section
variable {X:Cx} {x:Str} {p pos:Pos} {e:Expr} {es:List Expr} {t:TA} {id T:String} {r:List V→Hp→VK→Prop}
def pG(r:List V→Hp→VK→Prop)(t:TA):TE:=fun σ H Q=> t σ H fun vs H1=> r vs H1 Q
theorem bX(hc:cP X (.builtin id) r)(hg:Gl X x)(hm:X.mg x=none)(hv:bootBuiltins x=some (.builtin id))(ha:PA X (e::es) t)(hn:x≠"__name__":=by decide)(hdb:(x==("__debug__":Str))=false:=by decide)
    (he:starEach (e::es) X.env=(false,eval e X.env)::starEach es X.env:=by rfl)(hpl:(backTo pos (starEach es X.env)).any (·.1)=false:=by rfl):PE X (.Call (.Name x p) (e::es) [] pos) (pG r t):=by
  intro pins s σ H Q I h
  refine wpAny_Call_Name_kw (j5 I hg hm hv ?_ hn hdb)
  exact PyProof.Rows.callWith_builtin1 (aD (ha pos pins s σ H _ I h) fun us s1 uu48=> by obtain⟨vs,H1,I1,r1,q1⟩:=uu48;exact hc pins s1 σ H1 vs us Q I1 r1 q1) he hpl
theorem eD(hc:cP X (.type T) r)(hg:Gl X x)(hm:X.mg x=none)(hv:bootBuiltins x=some (.type T))(ha:PA X (e::es) t)(hn:x≠"__name__":=by decide)(hdb:(x==("__debug__":Str))=false:=by decide)
    (he:starEach (e::es) X.env=(false,eval e X.env)::starEach es X.env:=by rfl)(hpl:(backTo pos (starEach es X.env)).any (·.1)=false:=by rfl):PE X (.Call (.Name x p) (e::es) [] pos) (pG r t):=by
  intro pins s σ H Q I h
  refine wpAny_Call_Name_kw (j5 I hg hm hv ?_ hn hdb)
  exact LR (aD (ha pos pins s σ H _ I h) fun us s1 uu49=> by obtain⟨vs,H1,I1,r1,q1⟩:=uu49;exact hc pins s1 σ H1 vs us Q I1 r1 q1) he hpl
end
end L2
namespace HT
open PySem PyProof.Rows
theorem eqAt_int(A:Around)(s:Shared)(a:Int)(t:Tok)(c:Int)(u:Tok):∃e,Oy A s (.int a t) (.int c u) e∧(e=true↔a=c):=
  ⟨(a==c),Oy.int_int a t c u,by simp⟩
theorem rcLt_int(A:Around)(s:Shared)(a:Int)(t:Tok)(c:Int)(u:Tok)(prog:Program)(w:World)(E:Value→Shared→Prop)(Q:Value→Shared→Prop)(h:Q (.bool (decide (a < c))) s):
    wpAny (model prog w) A (richCompare .Lt (.int a t) (.int c u)) Q E s:=
  (PyProof.Rows.lt_int h:wpAny (model prog w) A (compareOp .Lt (.int a t) (.int c u)) Q E s)
section
open PySem.SeqAt
open PySem.AutoSeq1 (wpAny_loadPart')
open PySem.MeetsSeq PySem.MeetsSeq2 PySem.MeetsSeq3
end
section
variable {prog:Program} {w:World} {A:Around} {E:Value→Shared→Prop} {s:Shared}
def sIx(n d:Nat):Option Int→Nat
  | none=> d
  | some v=> if v < 0 then(v+(n:Int)).toNat else min v.toNat n
theorem pH(n d:Nat):sIx n d none=d:=rfl
theorem sIx_nat(n d k:Nat):sIx n d (some (k:Int))=min k n:=by
  show(if (k:Int) < 0 then((k:Int)+(n:Int)).toNat else min (k:Int).toNat n)=min k n
  rw [if_neg (by omega),MX]
theorem CY(n d:Nat)(hd:d≤n)(o:Option Int):sIx n d o≤n:=by
  cases o with
  | none=> exact hd
  | some v=>
    show(if v < 0 then(v+(n:Int)).toNat else min v.toNat n)≤n
    by_cases hv:v < 0
    · rw [if_pos hv];omega
    · rw [if_neg hv];exact Ol _ _
theorem xN(v:Int)(n d:Nat):(if v < 0 then max (v+(n:Int)) 0 else min v (n:Int))=((sIx n d (some v):Nat):Int):=by
  show(if v < 0 then max (v+(n:Int)) 0 else min v (n:Int))=(((if v < 0 then(v+(n:Int)).toNat else min v.toNat n):Nat):Int)
  by_cases hv:v < 0
  · simp only [if_pos hv];omega
  · simp only [if_neg hv];omega
theorem CZ(lo hi:Option Int)(n:Nat):L4 lo hi 1 (n:Int)=(((sIx n 0 lo:Nat):Int),((sIx n n hi:Nat):Int)):=by
  have h1:¬((1:Int) < 0):=by omega
  unfold L4
  simp only [h1,if_false]
  refine Prod.ext ?_ ?_
  · cases lo with
    | none=> rfl
    | some v=> exact xN v n 0
  · cases hi with
    | none=> rfl
    | some v=> exact xN v n n
theorem C0(i j:Nat):Lq (i:Int) (j:Int) 1=j - i:=by
  unfold Lq
  have h1:(1:Int) > 0:=by omega
  simp only [h1,if_true,Int.ediv_one]
  split <;> omega
theorem xO{v:Value}{o:Option Int}{Q:Option Int→Shared→Prop}(p:IsPart v o)(h:Q o s):wpAny (model prog w) A (Builtin.Slice.slicePartIndex v) Q E s:=by
  cases p with
  | none=> exact slicePart_none h
  | int i t=> exact slicePart_int h
theorem sliceApplied_gen{sl:Addr}{vl vu:Value}{lo hi:Option Int}{n:Nat}{Q:Int×Int×Nat→Shared→Prop}(hs:s.heap.IsSliceOf sl vl vu .none)(pl:IsPart vl lo)(pu:IsPart vu hi)
    (h:Q (((sIx n 0 lo:Nat):Int),1,sIx n n hi - sIx n 0 lo) s):wpAny (model prog w) A (MN (.ref sl) (pure (n:Int))) Q E s:=by
  obtain⟨os,hos,hcs,hds⟩:=id hs
  unfold MN Builtin.Slice.sliceFields
  refine wpAny_bind (wpAny_bind (wpAny_field hos hds (x:=vl) rfl (wpAny_bind (wpAny_field hos hds (x:=vu) rfl (wpAny_bind (wpAny_field hos hds (x:= .none) rfl (wpAny_pure ?_)))))))
  refine wpAny_bind (slicePart_none ?_)
  show wpAny _ _ (if ((1:Int)==0)=true then _ else _) _ _ s
  rw [if_neg (by decide)]
  refine wpAny_bind (xO pl (wpAny_bind (xO pu (wpAny_bind (wpAny_pure ?_)))))
  show wpAny _ _ (match L4 lo hi 1 (n:Int) with | (lo,hi)=> pure (lo,(1:Int),Lq lo hi 1)) _ _ s
  rw [CZ lo hi n]
  show wpAny _ _ (pure (((sIx n 0 lo:Nat):Int),(1:Int),Lq ((sIx n 0 lo:Nat):Int) ((sIx n n hi:Nat):Int) 1)) _ _ s
  rw [C0]
  exact wpAny_pure h
theorem C1(xs:Array Value)(i k:Nat):((Kn k).filterMap fun(m:Nat)=> xs[((i:Int)+(m:Int)*1).toNat]?).toArray=((xs.toList.drop i).take k).toArray:=by
  have e:(fun(m:Nat)=> xs[((i:Int)+(m:Int)*1).toNat]?)=fun m=> xs[i+m]?:=by
    funext m
    have:((i:Int)+(m:Int)*1).toNat=i+m:=by omega
    rw [this]
  rw [e]
  have:=pick_run xs i k
  rw [N3] at this
  have e2:((fun x=> xs[x]?)∘ fun x=> i+x)=fun m=> xs[i+m]?:=rfl
  rw [e2] at this
  rw [this]
theorem getItem_tuple_cut{t sl:Addr}{items:Array Value}{vl vu:Value}{lo hi:Option Int}{Q:Value→Shared→Prop}(ht:IsTup s.heap t items)(hs:s.heap.IsSliceOf sl vl vu .none)(pl:IsPart vl lo)(pu:IsPart vu hi)
    (hw:¬(sIx items.size 0 lo=0∧sIx items.size items.size hi=items.size))
    (h:Q (.ref s.heap.objs.size) {s with heap:=s.heap.push {cls:= .type "tuple",data:= .seq ((items.toList.drop (sIx items.size 0 lo)).take (sIx items.size items.size hi - sIx items.size 0 lo)).toArray}})
    (hsz:items.size≤sizeLine):wpAny (model prog w) A (getItem (.ref t) (.ref sl)) Q E s:=by
  have htake:sizeOk (.seq ((items.toList.drop (sIx items.size 0 lo)).take (sIx items.size items.size hi - sIx items.size 0 lo)).toArray):=by
    show((items.toList.drop (sIx items.size 0 lo)).take (sIx items.size items.size hi - sIx items.size 0 lo)).toArray.size≤sizeLine
    rw [JA,J8,Mo,J1]
    omega
  have hj:sIx items.size items.size hi≤items.size:=CY _ _ (Jm _) hi
  obtain⟨os,hos,hcs,hds⟩:=id hs
  have hTs:s.TypeIs (.ref sl) "slice":=⟨os,hos,hcs⟩
  unfold getItem
  try with_reducible refine wpAny_holding ?_
  first | refine wpAny_bind (wpAny_pure ?_) | skip
  refine wpAny_bind (wpAny_sequenceKey ht.typeIs (by decide) ?_)
  refine wpAny_bind (wpAny_callSpecial?_slot (name:=Jc "__getitem__") ht.typeIs K5
    (wpAny_call_entry K5 ht.typeIs entry_tuple_getitem ?_ (args_tuple_getitem _ _)))
  show wpAny _ _ (MO (.ref t) >>=_) _ _ s
  refine wpAny_bind (tupleItemsOf_ ht ?_)
  refine wpAny_bind (wpAny_typeOf hTs ?_)
  rw [if_pos (by decide)]
  refine wpAny_bind (sliceApplied_gen hs pl pu ?_)
  have hno:¬((((sIx items.size 0 lo:Nat):Int)==0 && (1:Int)==1 && (sIx items.size items.size hi - sIx items.size 0 lo)==items.size)=true):=by
    intro q
    rw [Kh,Kh] at q
    have q1:((sIx items.size 0 lo:Nat):Int)=0:=eq_of_beq q.1.1
    have q2:sIx items.size items.size hi - sIx items.size 0 lo=items.size:=eq_of_beq q.2
    exact hw ⟨by omega,by omega⟩
  show wpAny _ _ (if (((sIx items.size 0 lo:Nat):Int)==0 && (1:Int)==1 && (sIx items.size items.size hi - sIx items.size 0 lo)==items.size)=true then _ else _) _ _ s
  rw [if_neg hno,C1]
  first
    | exact wpAny_bind (m:=Ly _) (wpAny_newObj_type (wpAny_pure ⟨_,rfl,wpAny_pure h⟩) htake)
    | exact wpAny_bind (m:=Ly _) (wpAny_newObj_type (wpAny_bind (wpAny_pure (wpAny_pure ⟨_,rfl,wpAny_pure h⟩))) htake)
    | exact wpAny_bind (wpAny_bind (m:=Ly _) (wpAny_newObj_type (wpAny_pure (wpAny_pure ⟨_,rfl,wpAny_pure h⟩)) htake))
    | exact wpAny_bind (wpAny_bind (m:=Ly _) (wpAny_newObj_type (wpAny_pure ⟨_,rfl,wpAny_pure h⟩) htake))
end
end HT
namespace L2
open PySem PySem.Spec PyProof.Rows
abbrev TO:=St→Hp→(Option Int→Hp→Prop)→Prop
def PO(X:Cx)(e:Option Expr)(t:TO):Prop:=
  ∀(pins:List (Addr×Obj))(s:Shared)(σ:St)(H:Hp)(Q:Option Int→Hp→Prop),af X pins σ H s→t σ H Q→
    wpAny (model X.prog X.w) X.A (evalPart e X.env) (fun u s'=> ∃o H',af X pins σ H' s'∧IsPart u o∧Q o H') X.xe s
def C2:TO:=fun _ H Q=> Q none H
def C3(t:TE):TO:=fun σ H Q=> t σ H fun x H1=> ∃i,x= .int i∧Q (some i) H1
theorem C4{ns:List Int}:∀{us:List Value},aH (ns.map V.int) us→IntsAre us ns:=by
  induction ns with
  | nil=> intro us r;rw [Kc] at r;cases r;exact .nil
  | cons n ns ih=>
    intro us r
    rw [Jj] at r
    cases r with
    | cons r1 r2=>
      obtain⟨t,e⟩:=r1
      subst e
      exact .cons n t (ih r2)
section
variable {X:Cx} {e:Expr} {te:TE} {lo hi:Option Expr} {tl th:TO} {pos p2:Pos}
theorem C5:PO X none C2:=by
  intro pins s σ H Q I h
  rw [evalPart_none]
  exact wpAny_pure ⟨none,H,I,.none,h⟩
theorem C6(h:PE X e te):PO X (some e) (C3 te):=by
  intro pins s σ H Q I hw
  rw [evalPart_some]
  refine aD (h pins s σ H _ I hw) fun u s1 ⟨x,H1,I1,r1,q1⟩=> ?_
  obtain⟨i,rfl,q⟩:=q1
  obtain⟨t,rfl⟩:=r1
  exact⟨some i,H1,I1,.int i t,q⟩
def mj(X:Cx)(r:V→Option Int→Option Int→Hp→VK→Prop):Prop:=
  ∀(pins:List (Addr×Obj))(s:Shared)(σ:St)(H:Hp)(x:V)(v vl vu:Value)(lo hi:Option Int)(sl:Addr)(Q:VK),af X pins σ H s→aG x v→s.heap.IsSliceOf sl vl vu .none→IsPart vl lo→IsPart vu hi→r x lo hi H Q→
    ∃T id,typeLookup (.type T) "__getitem__"=pure (some (.builtin id))∧s.TypeIs v T∧wpAny (model X.prog X.w) X.A (getItem v (.ref sl)) (EP X pins σ Q) X.xe s
def C7(r:V→Option Int→Option Int→Hp→VK→Prop)(te:TE)(tl th:TO):TE:=fun σ H Q=> te σ H fun x H1=> tl σ H1 fun l H2=> th σ H2 fun u H3=> r x l u H3 Q
theorem pI{r:V→Option Int→Option Int→Hp→VK→Prop}(hr:mj X r)(he:PE X e te)(hl:PO X lo tl)(hu:PO X hi th):PE X (.Subscript e (.Slice lo hi none p2) pos) (C7 r te tl th):=by
  intro pins s σ H Q I h
  refine Subscript_ (aD (he pins s σ H _ I h) fun v s1 ⟨x,H1,I1,r1,q1⟩=> ?_)
  refine wpAny_Slice (aD (hl pins s1 σ H1 _ I1 q1) fun vl s2 ⟨l,H2,I2,pl,q2⟩=> aD (hu pins s2 σ H2 _ I2 q2) fun vu s3 ⟨u,H3,I3,pu,q3⟩=> ?_)
  rw [evalPart_none]
  refine wpAny_pure ?_
  have I4:af X pins σ H3 {s3 with heap:=s3.heap.push {cls:= .type "slice",data:= .fields #[vl,vu,.none]}}:=I3.kept (t':=s3.toks) fun b ob q=> Jl _ q
  obtain⟨T,id,hT,ht,hg⟩:=hr pins {s3 with heap:=s3.heap.push {cls:= .type "slice",data:= .fields #[vl,vu,.none]}} σ H3 x v vl vu l u s3.heap.objs.size Q I4 r1 (Heap.IsSliceOf.new ..) pl pu q3
  show wpAny (model X.prog X.w) X.A (subscriptTail e (.Slice lo hi none p2) v (.ref s3.heap.objs.size)) (EP X pins σ Q) X.xe {s3 with heap:=s3.heap.push {cls:= .type "slice",data:= .fields #[vl,vu,.none]}}
  exact tail_any (ops:=[.ref s3.heap.objs.size,v]) ht hT hg (by with_unfolding_all rfl)
def hV(xs:List V)(lo hi:Option Int):List V:=(xs.drop (HT.sIx xs.length 0 lo)).take (HT.sIx xs.length xs.length hi - HT.sIx xs.length 0 lo)
theorem xP(xs:List V)(lo hi:Option Int):(hV xs lo hi).length≤xs.length:=by
  unfold hV
  rw [J8,Mo]
  omega
def C8(K:Jd):V→Option Int→Option Int→Hp→VK→Prop:=fun x lo hi H Q=> ∃a xs,x= .ref a∧bB K H a xs∧
  ¬(HT.sIx xs.length 0 lo=0∧HT.sIx xs.length xs.length hi=xs.length)∧∀p,H p=none→Q (.ref p) (ao H p (.tup (hV xs lo hi)))
theorem C9:mj X (C8 X.K):=by
  intro pins s σ H x v vl vu lo hi sl Q I rx hs pl pu h
  obtain⟨a,xs,rfl,hx,hw,q⟩:=h
  cases rx
  obtain⟨its,r,ht,hz⟩:=I.tuple hx
  have hlen:its.toArray.size=xs.length:=by rw [JA];exact r.length.symm
  refine⟨"tuple",_,K5.lookup,ht.typeIs,?_⟩
  refine HT.getItem_tuple_cut ht hs pl pu (by rw [hlen];exact hw) ?_ (by rw [hlen];exact hz)
  rw [hlen]
  refine⟨.ref s.heap.objs.size,_,I.laid (t':=s.toks) (o:= .tup (hV xs lo hi)) (fun b ob q=> Jl _ q) (Jm _) ?_,rfl,q _ (I.hok.fresh (Jm _))⟩
  exact⟨JL (xP xs lo hi) hz,_,(r.drop (HT.sIx xs.length 0 lo)).take (HT.sIx xs.length xs.length hi - HT.sIx xs.length 0 lo),OI _ _⟩
end
end L2
namespace L2
open PySem PySem.Spec PyProof.Rows
def fI(n:Nat)(i:Int):Option Nat:=if 0≤i then(if i < n then some i.toNat else none) else if -(n:Int)≤i then some (i+n).toNat else none
def atI{α:Type}(xs:List α)(i:Int):Option α:=(fI xs.length i).bind fun j=> xs[j]?
theorem xQ{n:Nat}{i:Int}{j:Nat}(h:fI n i=some j):seqIndex? i n=some j∧j < n∧-(n:Int)≤i∧i < n:=by
  unfold fI at h
  by_cases h0:0≤i
  · rw [if_pos h0] at h
    by_cases h1:i < n
    · rw [if_pos h1] at h
      have e:i.toNat=j:=JW h
      exact⟨by rw [seqIndex_of h0 h1,e],by omega,by omega,h1⟩
    · rw [if_neg h1] at h;cases h
  · rw [if_neg h0] at h
    by_cases h1:-(n:Int)≤i
    · rw [if_pos h1] at h
      have e:(i+n).toNat=j:=JW h
      exact⟨by rw [seqIndex_neg (by omega) h1,e],by omega,h1,by omega⟩
    · rw [if_neg h1] at h;cases h
theorem uB{α:Type}{xs:List α}{i:Int}{v:α}(h:atI xs i=some v):∃j,seqIndex? i xs.length=some j∧xs[j]?=some v∧j < xs.length∧-(xs.length:Int)≤i∧i < xs.length:=by
  unfold atI at h
  cases e:fI xs.length i with
  | none=> rw [e] at h;cases h
  | some j=>
    rw [e] at h
    obtain⟨h1,h2,h3,h4⟩:=xQ e
    exact⟨j,h1,h,h2,h3,h4⟩
theorem fJ{α:Type}{xs:List α}{j:Nat}{v:α}(h:xs[j]?=some v):atI xs (j:Int)=some v:=by
  have hj:j < xs.length:=(Jr.mp h).1
  have e:fI xs.length (j:Int)=some j:=by
    unfold fI
    rw [if_pos (by omega),if_pos (by omega)];simp
  unfold atI;rw [e];exact h
theorem xR{α:Type}(xs:List α)(v:α):atI (xs++[v]) (-1)=some v:=by
  have hl:(xs++[v]).length=xs.length+1:=by simp
  have e:fI (xs++[v]).length (-1)=some xs.length:=by
    unfold fI
    rw [hl,if_neg (by decide),if_pos (by omega)]
    congr 1
    omega
  unfold atI
  rw [e]
  show(xs++[v])[xs.length]?=some v
  simp
def Dc(b:Expr):Prop:=∀o i,subscripted b false o i=operate [o,i] (getItem o i)
def mm(X:Cx)(r:R2):Prop:=
  ∀(value slice:Expr)(pins:List (Addr×Obj))(s:Shared)(σ:St)(H:Hp)(x y:V)(v u:Value)(Q:VK),af X pins σ H s→aG x v→aG y u→r x y H Q→
    subscripted slice false v u=operate [v,u] (getItem v u)→wpAny (model X.prog X.w) X.A (subscriptTail value slice v u) (EP X pins σ Q) X.xe s
def xS(X:Cx)(id:String)(r:V→List V→Hp→VK→Prop):Prop:=
  ∀(pins:List (Addr×Obj))(s:Shared)(σ:St)(H:Hp)(x:V)(xs:List V)(v:Value)(us:List Value)(Q:VK),af X pins σ H s→aG x v→aH xs us→r x xs H Q→
    wpAny (model X.prog X.w) X.A (call (.builtin id) (v::us)) (EP X pins σ Q) X.xe s
section
variable {X:Cx} {a b:Expr} {ta tb:TE} {pos:Pos}
theorem fK{r:R2}(hr:mm X r)(ha:PE X a ta)(hb:PE X b tb)(hs:Dc b):PE X (.Subscript a b pos) (j7 r ta tb):=by
  intro pins s σ H Q I h
  exact Subscript_ (uo ha hb I h fun v u s2 x y H2 I2 rx ry q=> hr a b pins s2 σ H2 x y v u Q I2 rx ry q (hs _ _))
def pJ(K:Jd):R2:=fun x y H Q=> ∃p xs i v,x= .ref p∧y= .int i∧aP K H p xs∧atI xs i=some v∧Q v H
def pK(K:Jd):R2:=fun x y H Q=> ∃p xs i v,x= .ref p∧y= .int i∧bB K H p xs∧atI xs i=some v∧Q v H
def xT:R2:=fun x y H Q=> ∃z i c,x= .str z∧y= .int i∧z.length≤sizeLine∧atI z.cps.toList i=some c∧Q (.str ⟨#[c]⟩) H
theorem bN:mm X (pJ X.K):=by
  intro value slice pins s σ H x y v u Q I rx ry h hs
  obtain⟨p,xs,i,z,rfl,rfl,hq,he,q⟩:=h
  cases rx
  obtain⟨t,rfl⟩:=ry
  obtain⟨its,r,pl,hz⟩:=I.list hq
  obtain⟨j,h1,h2,h3,h4,h5⟩:=uB he
  obtain⟨w,ew,rw'⟩:=r.get h2
  have hl:=r.length
  have hn:=jA
  have fin:EP X pins σ Q w s:=⟨z,H,I,rw',q⟩
  by_cases h0:0≤i
  · have hj:i.toNat=j:=by
      rw [seqIndex_of h0 h5] at h1
      exact JW h1
    exact item_listR pl.isList h0 (by omega) (by rw [hj];simpa using ew) fin hs
  · have hj:(i+(its.toArray.size:Int)).toNat=j:=by
      rw [seqIndex_neg (by omega) h4] at h1
      rw [JA,←hl]
      exact JW h1
    exact subscriptTail_builtinR (x:=w) pl.isList.typeIs slot_list_getitem.lookup
      (wpAny_getItem_list_neg (Q:=fun r s'=> r=w∧EP X pins σ Q r s') pl.isList (by omega) (by rw [JA] <;> omega) (by omega) (by rw [hj];simpa using ew) ⟨rfl,fin⟩) hs
theorem aE:mm X (pK X.K):=by
  intro value slice pins s σ H x y v u Q I rx ry h hs
  obtain⟨p,xs,i,z,rfl,rfl,hq,he,q⟩:=h
  cases rx
  obtain⟨t,rfl⟩:=ry
  obtain⟨its,r,pl,hz⟩:=I.tuple hq
  obtain⟨j,h1,h2,h3,h4,h5⟩:=uB he
  obtain⟨w,ew,rw'⟩:=r.get h2
  have hl:=r.length
  have hn:=jA
  have fin:EP X pins σ Q w s:=⟨z,H,I,rw',q⟩
  exact subscriptTail_builtinR (x:=w) pl.typeIs slot_tuple_getitem.lookup
    (getItem_tuple (j:=j) (Q:=fun r s'=> r=w∧EP X pins σ Q r s') pl (by omega) (by omega) (by rw [JA,←hl];exact h1) (by simpa using ew) ⟨rfl,fin⟩) hs
theorem xU:mm X xT:=by
  intro value slice pins s σ H x y v u Q I rx ry h hs
  obtain⟨z,i,c,rfl,rfl,hz,he,q⟩:=h
  obtain⟨t,rfl⟩:=rx
  obtain⟨t',rfl⟩:=ry
  obtain⟨j,h1,h2,h3,h4,h5⟩:=uB he
  have hl:z.cps.toList.length=z.length:=by simp [Str.length]
  rw [hl] at h1 h4 h5
  have hn:=jA
  exact tail_any (typeIs_str s z t) slot_str_getitem.lookup (getItem_str (c:=c) (by
    have e1:decide (i < -(2 ^ 63:Int))=false:=decide_eq_false (by omega)
    have e2:decide (i ≥ 2 ^ 63)=false:=decide_eq_false (by omega)
    rw [e1,e2,LZ]) (by rw [h1];simpa using h2) ⟨.str ⟨#[c]⟩,H,I.tok _,⟨_,rfl⟩,q⟩) hs
theorem Dd(its:List Value)(n j:Nat)(u:Value):Kg (·.setIfInBounds j u) {cls:= .type "list",data:= .seq its.toArray n}={cls:= .type "list",data:= .seq (its.set j u).toArray n}:=by
  simp [Kg]
theorem af.lst{pins:List (Addr×Obj)}{σ:St}{H:Hp}{s:Shared}{p:Addr}{xs:List V}(I:af X pins σ H s)(h:H p=some (.lst xs)):
    ∃(its:List Value)(n:Nat),aH xs its∧s.heap.get? p=some {cls:= .type "list",data:= .seq its.toArray n}∧xs.length≤sizeLine:=by
  obtain⟨z,its,n,r,e⟩:=I.hok p _ h
  exact⟨its,n,r,e,z⟩
theorem af.lstUpd{pins:List (Addr×Obj)}{σ:St}{H:Hp}{s:Shared}{p:Addr}{xs ys:List V}{its its':List Value}{n n':Nat}{f:Obj→Obj}(I:af X pins σ H s)(h:H p=some (.lst xs))
    (ho:s.heap.get? p=some {cls:= .type "list",data:= .seq its.toArray n})(hf:f {cls:= .type "list",data:= .seq its.toArray n}={cls:= .type "list",data:= .seq its'.toArray n'})(r:aH ys its')(hz:ys.length≤sizeLine)(t:Nat):
    af X pins σ (ao H p (.lst ys)) {s with heap:=s.heap.update p f,toks:=t}:=by
  have e:(s.heap.update p f).get? p=some {cls:= .type "list",data:= .seq its'.toArray n'}:=by
    rw [Heap.get?_update_self f ho (by rw [hf] <;> rfl),hf]
  refine I.write (x:=p) (e:=p) (by rw [h];trivial) (.inl rfl) (fun b u hb q=> (Nw _ _ (Ne.symm hb)).trans q) ⟨_,e⟩ ?_
  exact⟨hz,its',n',r,e⟩
def Df:V→V→V→Hp→(Hp→Prop)→Prop:=fun o i v H Q=> ∃p xs k j,o= .ref p∧i= .int k∧H p=some (.lst xs)∧fI xs.length k=some j∧Q (ao H p (.lst (xs.set j v)))
theorem uC:wU X Df:=by
  intro pins s σ H o i v ov iv u Q I ro ri rv h
  obtain⟨p,xs,k,j,rfl,rfl,hp,hj,q⟩:=h
  cases ro
  obtain⟨t,rfl⟩:=ri
  obtain⟨its,n,r,ho,hz⟩:=I.lst hp
  obtain⟨h1,h2,h3,h4⟩:=xQ hj
  have hl:=r.length
  have hn:=jA
  have I':af X pins σ (ao H p (.lst (xs.set j v))) {s with heap:=s.heap.update p (Kg (·.setIfInBounds j u))}:=
    I.lstUpd hp ho (Dd its n j u) (r.set rv j) (by rw [List.length_set];exact hz) s.toks
  by_cases h0:0≤k
  · have hk:k.toNat=j:=by
      rw [seqIndex_of h0 h4] at h1
      exact JW h1
    exact PySem.W.ki_setAt ho h0 (by omega) (by rw [JA,←hl];exact h4) (by rw [hk];exact⟨_,I',q⟩)
  · have hk:(k+(its.toArray.size:Int)).toNat=j:=by
      rw [seqIndex_neg (by omega) h3] at h1
      rw [JA,←hl]
      exact JW h1
    exact PySem.W.ki_setBack ho (by omega) (by rw [JA,←hl];exact h3) (by omega) (by rw [hk];exact⟨_,I',q⟩)
theorem Dg(lo hi:Option Int)(n:Nat):(sliceBounds lo hi none n).1=((HT.sIx n 0 lo:Nat):Int)∧(sliceBounds lo hi none n).2.1=((HT.sIx n n hi:Nat):Int)∧(sliceBounds lo hi none n).2.2=1:=by
  refine⟨?_,?_,rfl⟩
  · cases lo with
    | none=> simp [sliceBounds,HT.sIx]
    | some i=>
      simp only [sliceBounds,HT.sIx,M8,show(1:Int) > 0 by decide,if_true]
      by_cases h:i < 0
      · simp only [h,if_true] <;> omega
      · simp only [h,if_false] <;> omega
  · cases hi with
    | none=> simp [sliceBounds,HT.sIx]
    | some i=>
      simp only [sliceBounds,HT.sIx,M8,show(1:Int) > 0 by decide,if_true]
      by_cases h:i < 0
      · simp only [h,if_true] <;> omega
      · simp only [h,if_false] <;> omega
theorem Dh(its:List Value)(lo hi:Option Int):slicePick its.toArray lo hi none=((its.drop (HT.sIx its.length 0 lo)).take (HT.sIx its.length its.length hi - HT.sIx its.length 0 lo)).toArray:=by
  obtain⟨h1,h2,h3⟩:=Dg lo hi its.toArray.size
  unfold slicePick
  rw [h1,h2,h3]
  simp only [sliceRange_one,pick_run,JA] <;> rfl
def Di(K:Jd):V→Option Int→Option Int→Hp→VK→Prop:=fun x lo hi H Q=> ∃a xs,x= .ref a∧aP K H a xs∧∀p,H p=none→Q (.ref p) (ao H p (.lst (hV xs lo hi)))
theorem xV:mj X (Di X.K):=by
  intro pins s σ H x v vl vu lo hi sl Q I rx hs pl pu h
  obtain⟨a,xs,rfl,hx,q⟩:=h
  cases rx
  obtain⟨its,r,ht,hz⟩:=I.list hx
  have hlen:=r.length
  refine⟨"list",_,slot_list_getitem.lookup,ht.isList.typeIs,?_⟩
  refine wpAny_getItem_list_slice ht.isList hs pl pu .none (by simp) ?_ (by rw [JA] <;> omega)
  rw [Dh,←hlen]
  refine⟨.ref s.heap.objs.size,_,I.laid (t':=s.toks) (o:= .lst (hV xs lo hi)) (fun b ob q=> Jl _ q) (Jm _) ?_,rfl,q _ (I.hok.fresh (Jm _))⟩
  exact⟨JL (xP xs lo hi) hz,_,0,(r.drop (HT.sIx xs.length 0 lo)).take (HT.sIx xs.length xs.length hi - HT.sIx xs.length 0 lo),JR _ rfl⟩
theorem fk:cP X (.builtin "len") (fun xs H Q=> ∃p ys,xs=[.ref p]∧(aP X.K H p ys∨bB X.K H p ys)∧Q (.int ys.length) H):=by
  intro pins s σ H xs us Q I r h
  obtain⟨p,ys,rfl,hq,q⟩:=h
  obtain⟨u,rfl,rx⟩:=cU r
  cases rx
  have hn:=jA
  rcases hq with hq | hq
  · obtain⟨its,r',pl,hz⟩:=I.list hq
    have hlen:=r'.length
    exact Calls.call_len_list pl.isList (by simp only [JA] <;> omega) ⟨.int ys.length,H,I.tok _,⟨s.toks+1,by rw [JA,hlen]⟩,q⟩
  · obtain⟨its,r',pl,hz⟩:=I.tuple hq
    have hlen:=r'.length
    exact len_tuple pl (by simp only [JA] <;> omega) ⟨.int ys.length,H,I.tok _,⟨s.toks+1,by rw [JA,hlen]⟩,q⟩
theorem Dj:cP X (.builtin "len") (fun xs H Q=> ∃z,xs=[.str z]∧z.length≤sizeLine∧Q (.int z.length) H):=by
  intro pins s σ H xs us Q I r h
  obtain⟨z,rfl,hz,q⟩:=h
  obtain⟨u,rfl,t,rfl⟩:=cU r
  have hn:=jA
  exact len_str (by omega) ⟨.int z.length,H,I.tok _,⟨_,rfl⟩,q⟩
theorem hW:cP X (.type "tuple") (fun xs H Q=> ∃p ys,xs=[.ref p]∧((aP X.K H p ys∧∀l,H l=none→Q (.ref l) (ao H l (.tup ys)))∨(bB X.K H p ys∧Q (.ref p) H))):=by
  intro pins s σ H xs us Q I r h
  obtain⟨p,ys,rfl,h⟩:=h
  obtain⟨u,rfl,rx⟩:=cU r
  cases rx
  rcases h with⟨hq,q⟩ | ⟨hq,q⟩
  · obtain⟨its,r',pl,hz⟩:=I.list hq
    have hlen:=r'.length
    refine call_tuple_list pl.isList (fun h' kp=> ?_) (by simp only [JA] <;> omega)
    have I1:af X pins σ H {s with heap:=h'}:=I.kept (t':=s.toks) kp
    have I2:af X pins σ (ao H h'.objs.size (.tup ys)) {s with heap:=h'.push {cls:= .type "tuple",data:= .seq its.toArray}}:=
      I1.laid (t':=s.toks) (fun b o e=> Jl _ e) (Jm _) (show cf X.prog X.w _ _ _ (.tup ys) from⟨hz,its,r',OI _ _⟩)
    exact⟨.ref h'.objs.size,_,I2,rfl,q _ (I1.hok.fresh (Jm _))⟩
  · obtain⟨its,r',pl,hz⟩:=I.tuple hq
    exact call_tuple_same pl ⟨.ref p,H,I,rfl,q⟩
def xW(K:Jd)(T:String)(x:V)(H:Hp):Prop:=match x with
  | .str _=> T="str"
  | .int _=> T="int"
  | .ref p=> (T="list"∧∃xs,aP K H p xs)∨(T="tuple"∧∃o,K.lookup p=some o∧o.cls= .type "tuple"∧o.dict=none)∨
      (T="dict"∧((∃kvs,H p=some (.dK kvs))∨∃kvs,H p=some (.dT kvs)))∨(T="set"∧∃S n,H p=some (.set S n))
  | _=> False
theorem Dk{pins:List (Addr×Obj)}{σ:St}{H:Hp}{s:Shared}{T:String}{x:V}{v:Value}(I:af X pins σ H s)(r:aG x v)(ty:xW X.K T x H):
    s.TypeIs v T∧∀a,v= .ref a→∃ob,s.heap.get? a=some ob∧ob.dict=none:=by
  cases x with
  | str z=>
    obtain⟨t,rfl⟩:=r
    cases (show T="str" from ty)
    exact⟨typeIs_str s z t,fun _ e=> nomatch e⟩
  | int i=>
    obtain⟨t,rfl⟩:=r
    cases (show T="int" from ty)
    exact⟨typeIs_int s i t,fun _ e=> nomatch e⟩
  | ref p=>
    cases r
    rcases ty with⟨rfl,xs,hq⟩ | ⟨rfl,o,hk,hc,hd⟩ | ⟨rfl,hk⟩ | ⟨rfl,S,n,hk⟩
    · obtain⟨its,_,pl,_⟩:=I.list hq
      refine⟨pl.isList.typeIs,fun a e=> ?_⟩
      cases e
      obtain⟨o,n,e,c,hd,_⟩:=pl
      exact⟨o,e,hd⟩
    · refine⟨⟨o,I.kIn p o hk,hc⟩,fun a e=> ?_⟩
      cases e
      exact⟨o,I.kIn _ o hk,hd⟩
    · have z:∃o,s.heap.get? p=some o∧o.ExactDict:=by
        rcases hk with⟨kvs,hk⟩ | ⟨kvs,hk⟩
        · obtain⟨_,_,_,_,o,_,_,e,ex,_⟩:=I.hok p _ hk
          exact⟨o,e,ex⟩
        · obtain⟨_,_,_,_,o,_,_,e,ex,_⟩:=I.hok p _ hk
          exact⟨o,e,ex⟩
      obtain⟨o,e,ex⟩:=z
      refine⟨⟨o,e,ex.1⟩,fun a e2=> ?_⟩
      cases e2
      exact⟨o,e,ex.2.1⟩
    · obtain⟨o,_,_,_,e,ex,_⟩:=I.hok p _ hk
      refine⟨⟨o,e,ex.1⟩,fun a e2=> ?_⟩
      cases e2
      exact⟨o,e,ex.2.1⟩
  | _=> exact KD ty
def Dm(K:Jd)(T:String)(r:V→List V→Hp→VK→Prop)(to:TE)(t:TA):TE:=fun σ H Q=> to σ H fun x H1=> xW K T x H1∧t σ H1 fun xs H2=> r x xs H2 Q
variable {o e:Expr} {es:List Expr} {to:TE} {t:TA} {name:Str} {apos cpos:Pos} {T id:String} {r:V→List V→Hp→VK→Prop}
theorem uD(pa:PlainAttrs T)(slot:Slot T name id)(hty:typeOf (.builtin id)=pure (.type "method_descriptor"))(hm:xS X id r)(ho:PE X o to)(ha:PA X (e::es) t)
    (hbase:attributeBase o name X.env (eval o X.env)=eval o X.env:=by rfl)
    (hfew:((backTo cpos (starEach (e::es) X.env)).all (fun x=> !x.1) && (backToKw cpos (keywordEach [] X.env)).all (fun x=> x.1.isSome)
      && decide ((e::es).length+([]:List Keyword).length+(if ([]:List Keyword).isEmpty then 0 else 1) < 30))=true:=by rfl)
    (hline:(apos.endLine==cpos.line)=true:=by rfl)(hs:starEach (e::es) X.env=(false,eval e X.env)::starEach es X.env:=by rfl)(hplain:(backTo cpos (starEach es X.env)).any (·.1)=false:=by rfl):
    PE X (.Call (.Attribute o name apos) (e::es) [] cpos) (Dm X.K T r to t):=by
  intro pins s σ H Q I h
  refine wpAny_Call_method_late hbase hfew hline rfl (aD (ho pins s σ H _ I h) fun v s1 ⟨x,H1,I1,r1,ty,q1⟩=> ?_)
  obtain⟨h1,h2⟩:=Dk I1 r1 ty
  refine⟨T,id,pa,slot,hty,h1,h2,?_⟩
  have hA:=ha cpos pins s1 σ H1 _ I1 q1
  rw [hs] at hA⊢
  refine Nx (by show(false || (backTo cpos (starEach es X.env)).any (·.1))=false;rw [hplain] <;> rfl) (NN ?_)
  exact aD hA fun us s2 uu55=> by obtain⟨vs,H2,I2,r2,q2⟩:=uu55;exact hm pins s2 σ H2 x vs v us Q I2 r1 r2 q2
end
end L2
namespace L2
open PySem PySem.Spec PyProof.Rows
def xX(X:Cx)(id:String)(r:V→List V→Hp→VK→Prop):Prop:=
  ∀(pins:List (Addr×Obj))(s:Shared)(σ:St)(H:Hp)(x:V)(xs:List V)(v:Value)(us:List Value)(Q:VK),af X pins σ H s→aG x v→aH xs us→r x xs H Q→
    wpAny (model X.prog X.w) X.A (call (.builtin id) (v::us)) (EP X pins σ Q) X.xe s
theorem aH.one:∀{x:V}{us:List Value},aH [x] us→∃u,us=[u]∧aG x u
  | _,_,.cons r .nil=> ⟨_,rfl,r⟩
theorem aH.rep{xs:List V}{us:List Value}(h:aH xs us):∀k:Nat,aH (Jx k xs).flatten (Jx k us).flatten
  | 0=> .nil
  | k+1=> by
    rw [KY,KY,Lo,Lo]
    exact aH.append h (aH.rep h k)
theorem xY(its:List Value):∀(k:Nat)(acc:List Value),
    LS (fun x1 x2=> x1++x2) acc.toArray (Jx k its.toArray)=(acc++(Jx k its).flatten).toArray
  | 0,acc=> by simp
  | k+1,acc=> by
    have e:acc.toArray++its.toArray=(acc++its).toArray:=by simp
    have e2:(acc++its)++(Jx k its).flatten=acc++(Jx (k+1) its).flatten:=by
      rw [KY,Lo,MY]
    rw [←e2,←xY its k (acc++its),←e,KY,Lg]
section
variable {X:Cx} {pins:List (Addr×Obj)} {σ:St} {H:Hp} {s:Shared} {l b:Addr} {xs ys zs:List V}
theorem af.lset{its its':List Value}{n:Nat}{f:Array Value→Array Value}{t':Nat}(I:af X pins σ H s)(hH:H l=some (.lst xs))
    (e:s.heap.get? l=some {cls:= .type "list",data:= .seq its.toArray n})(hf:f its.toArray=its'.toArray)(hv:aH ys its')(hz:ys.length≤sizeLine):
    af X pins σ (ao H l (.lst ys)) {s with heap:=s.heap.update l (Kg f),toks:=t'}:=by
  have q:=PySem.IsL.update e f
  rw [hf] at q
  refine I.write (x:=l) (e:=l) (by rw [hH];exact trivial) (.inl rfl) (fun b' u hb hu=> (Nw s.heap (Kg f) (Ne.symm hb)).trans hu) ⟨_,q⟩ ?_
  exact⟨hz,its',_,hv,q⟩
theorem af.lnew{its:List Value}{t':Nat}(I:af X pins σ H s)(hv:aH ys its)(hz:ys.length≤sizeLine):
    af X pins σ (ao H s.heap.objs.size (.lst ys)) {s with heap:=s.heap.push {cls:= .type "list",data:= .seq its.toArray},toks:=t'}:=
  I.laid (fun _ _ q=> Jl _ q) (Jm _) ⟨hz,its,0,hv,JR _ rfl⟩
theorem af.fresh(I:af X pins σ H s):H s.heap.objs.size=none:=I.hok.fresh (Jm _)
theorem af.lstM(I:af X pins σ H s)(hH:H l=some (.lst xs)):xs.length≤sizeLine∧∃(its:List Value)(n:Nat),aH xs its∧xs.length=its.length∧s.heap.get? l=some {cls:= .type "list",data:= .seq its.toArray n}:=by
  obtain⟨z,its,n,r,e⟩:=I.hok l _ hH
  exact⟨z,its,n,r,r.length,e⟩
theorem Dp{n:Nat}(h:n≤sizeLine):Ma n=false:=by
  unfold Ma
  exact decide_eq_false (by omega)
end
section
variable {X:Cx}
def Dq:V→List V→Hp→VK→Prop:=fun x vs H Q=> ∃l xs y,x= .ref l∧vs=[y]∧H l=some (.lst xs)∧xs.length < sizeLine∧Q .non (ao H l (.lst (xs++[y])))
theorem xZ:xX X "list.append" Dq:=by
  intro pins s σ H x vs v us Q I rx rv h
  obtain⟨l,xs,y,rfl,rfl,hH,hz,q⟩:=h
  cases rx
  obtain⟨u,rfl,ru⟩:=rv.one
  obtain⟨z,its,n,r,hl,e⟩:=I.lstM hH
  refine call_meets F.slot_list_append ⟨_,e,rfl⟩ F.entry_list_append (F.args_list_append_2 _ _) (PySem.list_append l its.toArray n u (by rw [JA];omega)) ⟨e,?_⟩
  refine⟨.non,_,I.lset (its':=its++[u]) hH e (by simp) (r.append (.cons ru .nil)) ?_,rfl,q⟩
  rw [Kq,Mq]
  omega
def Dr:R2:=fun x y H Q=> ∃l k xs,x= .ref l∧y= .int k∧H l=some (.lst xs)∧-(2 ^ 63)≤k∧k < 2 ^ 63∧xs.length*k.toNat≤sizeLine∧
  ∀p,H p=none→Q (.ref p) (ao H p (.lst (Jx k.toNat xs).flatten))
theorem Ds{α:Type}(xs:List α)(k:Nat):(Jx k xs).flatten.length=k*xs.length:=by
  induction k with
  | zero=> simp
  | succ k ih=> rw [KY,Lo,Kq,ih,Nat.succ_mul,Nat.add_comm]
theorem Du:bW X (binaryOp .Mult) Dr:=by
  intro pins s σ H x y v u Q I rx ry h
  obtain⟨l,k,xs,rfl,rfl,hH,h1,h2,hz,q⟩:=h
  cases rx
  obtain⟨t,rfl⟩:=ry
  obtain⟨z,its,n,r,hl,e⟩:=I.lstM hH
  have hlen:its.toArray.size*k.toNat≤sizeLine:=by rw [JA,←hl];exact hz
  have hcap:¬its.toArray.size*k.toNat > (2 ^ 63 - 1)/ 8:=by
    have:(sizeLine:Nat)≤(2 ^ 63 - 1)/ 8:=by decide
    omega
  have hfit:¬(!Lk k)=true:=by
    rw [fitsIndex_both h1 h2]
    exact Jk
  have hlong:¬Ma (its.toArray.size*k.toNat)=true:=by
    rw [Dp hlen]
    exact Jk
  have hnew:LS (fun x1 x2=> x1++x2) #[] (Jx (if its.toArray.isEmpty=true then 0 else k.toNat) its.toArray)=(Jx k.toNat its).flatten.toArray:=by
    have f0:∀m:Nat,LS (fun x1 x2=> x1++x2) #[] (Jx m its.toArray)=(Jx m its).flatten.toArray:=fun m=> by
      have:=xY its m []
      rw [Kx] at this
      exact this
    rw [f0]
    cases its with
    | nil=> simp
    | cons a r'=> rw [if_neg (by simp)]
  refine wpAny_binaryOp_repeat_ref (T:="list") (U:="int") (by decide) ⟨_,e,rfl⟩ (fun s'=> typeIs_int s' k t) noFill_list_mul F.fills_int_mul F.slot_int_rmul repeat_list F.slot_int_index.lookup
    (call_meets F.slot_int_rmul (typeIs_int s k t) F.entry_int_rmul (F.args_int_rmul_2 _ _) (int___rmul___int_list k t l its.toArray n)
      ⟨e,rfl,⟨_,e,rfl⟩,call_meets F.slot_list_mul ⟨_,e,rfl⟩ F.entry_list_mul (F.args_list_mul_2 _ _) (AutoListH.list___mul___list_int_3 l its.toArray n k t hfit hcap hlong) ⟨e,?_⟩⟩)
  rw [hnew]
  exact⟨.ref _,_,I.lnew (t':=s.toks) (r.rep k.toNat) (by rw [Ds,Nat.mul_comm];exact hz),rfl,q _ I.fresh⟩
end
section
variable {prog:Program} {w:World} {A:Around} {E:Value→Shared→Prop} {s:Shared}
end
section
variable {X:Cx}
end
end L2
namespace Att
open PySem PySem.W PySem.Calls PyProof.Rows
theorem Dv{P:Params}{h:Heap}:∀(ns:List Int)(vs:List Value),WellAll P h vs (ns.map LD)→IntsAre vs ns:=by
  intro ns
  induction ns with
  | nil=>
    intro vs w
    rw [Kc] at w
    cases w
    exact .nil
  | cons n ns ih=>
    intro vs w
    rw [Jj] at w
    cases w with
    | cons a b=>
      cases a
      exact .cons _ _ (ih _ b)
theorem Dw{l:OpenLaw}{n:Nat}(hn:l.most=some n){P:Params}{h:Heap}{args:List WData}{vals:List Value}
    (hpre:l.row.toRowW.claim.pre args=true)(hwl:WellAll P h vals args):
    ∃a vs ns,vals=[JP a]∧args=[M3 (ns.map LD)]∧h.get? a=some {cls:= .type "list",data:= .seq vs.toArray}∧IntsAre vs ns∧ns.length≤n:=by
  have hsh:WShape.hasAll [] args [.list .int]=true:=(pre_splitW hpre).1
  have hc:l.pre.holds [] {args:=args}=true:=(pre_splitW hpre).2
  obtain⟨d,r,rfl,h1,h2⟩:=hasAllW_cons hsh
  obtain rfl:=hasAllW_nil h2
  obtain⟨xs,rfl,h3⟩:=hasW_list h1
  obtain⟨ns,rfl⟩:=items_int h3
  have hlen:ns.length≤n:=by
    unfold OpenLaw.pre at hc
    have h4:(WTm.not (.lt (.lit (.int (n:Int))) (.len (.arg 0)))).holds [] {args:=[.list (ns.map .int)]}=true:=by
      have h4:=(holds_andW hc).1
      rw [hn] at h4
      exact h4
    have h5:=condW_of h4 (w_not (w_lt w_lit (w_len_list (w_arg rfl))))
    rw [Jf] at h5
    refine M9 fun q=> ?_
    have q':(n:Int) < ((ns.length:Nat):Int):=by omega
    first
      | (rw [decide_eq_true q'] at h5;exact absurd h5 (by decide))
      | (simp at h5;omega)
  cases hwl with
  | cons w1 w2=>
    cases w2
    cases w1 with
    | list ho hall=> exact⟨_,_,ns,rfl,rfl,ho,Dv ns _ hall,hlen⟩
theorem Dx(l:OpenLaw)(args:List WData):l.row.toRowW.claim.post args (.bool true) args=true:=
  postW_of (r:=l.row.toRowW) (X:=(true==true))
    (show WShape.has [] (.bool true) .bool=true by first | rfl | decide | simp [WShape.has,WShape.arms,WShape.armsAll])
    (show(WTm.eq .res (.lit (.bool true))).value [] {args:=args,res:=some (.bool true),after:=args}=some (.bool (true==true)) from w_eq_bool (w_res rfl) w_lit) rfl
section
variable {prog:Program} {w:World} {A:Around} {E:Value→Shared→Prop} {s:Shared} {K:Frag}
end
end Att
namespace L2
open PySem PySem.Spec PyProof.Rows
theorem x4:∀{vs:List Value}{ns:List Int},IntsAre vs ns→aH (ns.map V.int) vs
  | _,_,.nil=> .nil
  | _,_,.cons n t h=> .cons ⟨t,rfl⟩ (x4 h)
def pL(H:Hp):Prop:=∀b,H b=none∨∃o xs,H b=some (.frz o (.lst xs))
theorem Dy{P:Program}{w:World}{K:Jd}{mg mb:Str→Option Value}{CX:eB}{k:Nat}{fa a:Addr}{fd:FuncData}{x:Str}{sp:Sp}{s₁:Shared}{vs:List Value}{ns:List Int}
    (KX:K.In s₁.heap)(hns:s₁.heap.Ns mainGlobals mg)(hb:s₁.heap.Ns builtinsNs mb)(hbb:∀x:Str,x≠"__name__"→mb x=bootBuiltins x)(hlim:s₁.heap.NoLimit)(hg:s₁.gens=#[])
    (ha:s₁.heap.get? a=some {cls:= .type "list",data:= .seq vs.toArray})(hi:IntsAre vs ns)(hl:ns.length≤sizeLine)(hr:bE k callerA)
    (F:∀base:Heap,K.In base→base.Ns mainGlobals mg→aK P w K mg base CX k fa fd [x] sp)(hbind:∀(s:Shared) (u:Value),BindsTo s fd ⟨[u],[]⟩ [(x,u)])
    (hsp:∀H:Hp,pL H→aP K H a (ns.map V.int)→sp [.ref a] H (fun v _=> v= .bl true) fun _ _ _=> False)
    (hCX:∀H e s',CX [] H s₁ (fun _ _ _=> False) e s'→False):
    codeAny (model P w) callerA (.call (.ref fa) ⟨[.ref a],[]⟩) (fun r s'=> r= .ok (.ret (.bool true))∧OldK s₁.heap s'.heap∧s'.os=s₁.os∧AllBare s'.gens) s₁:=by
  have rv:=x4 hi
  have lenV:=hi.length
  have core:∀H:Hp,pL H→aP K H a (ns.map V.int)→bV P w H s₁.heap→(∀b,H b≠none→b=a)→(H a≠none→K.lookup a=none)→
      codeAny (model P w) callerA (.call (.ref fa) ⟨[.ref a],[]⟩) (fun r s'=> r= .ok (.ret (.bool true))∧OldK s₁.heap s'.heap∧s'.os=s₁.os∧AllBare s'.gens) s₁:=by
    intro H hO hS hok hA hK
    have base_of:∀{b:Addr}{o:Obj},s₁.heap.get? b=some o→H b=none→(hG s₁.heap H).get? b=some o:=fun e n=> B8 e n
    have noA:∀{b:Addr}{o:Obj}{es:Array DictEntry}{ep:Nat},s₁.heap.get? b=some o→o.data= .dict es ep→H b=none:=fun{b o es ep} e d=> by
      cases q:H b with
      | none=> rfl
      | some u=>
        have e':b=a:=hA b (by rw [q];simp)
        subst e'
        rw [ha] at e;cases e
        have d':Data.seq vs.toArray _=Data.dict es ep:=d
        cases d'
    have nsK:∀{b:Addr}{m:Str→Option Value},s₁.heap.Ns b m→(hG s₁.heap H).Ns b m:=fun{b m} ⟨o,es,ep,e,d,r⟩=> ⟨o,es,ep,base_of e (noA e d),d,r⟩
    have hKb:K.In (hG s₁.heap H):=fun b o e=> base_of (KX b o e) (by
      cases q:H b with
      | none=> rfl
      | some u=>
        have e':b=a:=hA b (by rw [q];simp)
        subst e'
        rw [hK (by rw [q];simp)] at e;cases e)
    have hM:Mod K mg (hG s₁.heap H):=⟨hKb,nsK hns,⟨mb,nsK hb,hbb⟩,let ⟨mc,h1,h2⟩:=hlim;⟨mc,nsK h1,h2⟩⟩
    have e0:gu P w K mg (hG s₁.heap H) callerA [] s₁ H:=⟨rfl,hM,fun b o e=> B9 e,OU (B7 _ _),trivial,fun b hb=> absurd (show b∈([]:List Addr) from hb) (by simp),hok,.of_eq hg⟩
    refine codeAny_mono ((F _ hKb (nsK hns)).run callerA [] s₁ H ⟨[.ref a],[]⟩ [.ref a] [.ref a] _ _ hr e0 (hbind s₁ (.ref a)) (.cons rfl .nil) (hsp H hO hS)) fun r s' h=> ?_
    cases r with
    | error e=> exact(hCX H e s' h).elim
    | ok fl=>
      cases fl with
      | next=> exact KD h
      | brk=> exact KD h
      | cont=> exact KD h
      | ret u=>
        obtain⟨v,H',os,bare,un,hok',r',q⟩:=h
        have q':v= .bl true:=q
        subst q'
        obtain rfl:u=Le true:=r'
        refine⟨rfl,OldK.of_keep fun b o e=> ?_,os,bare⟩
        cases q:H b with
        | none=> exact un.keep b o e q (by intro z;exact absurd (show b∈([]:List Addr) from z) (by simp)) (by simp)
        | some u=>
          rcases hO b with z | ⟨ob,xs,z⟩
          · rw [q] at z;cases z
          · have z2:=un.frzs b ob _ z
            obtain⟨e1,_⟩:=hok b _ z
            obtain⟨e2,_⟩:=hok' b _ z2
            rw [e] at e1;cases e1
            exact e2
  cases hk:K.lookup a with
  | some o=>
    have e:=KX a o hk
    rw [ha] at e
    cases e
    refine core (fun _=> none) (fun _=> .inl rfl) (.inr ⟨_,vs.toArray,_,hk,rfl,rfl,rfl,by rw [JA,lenV];exact hl,by simpa using rv⟩) (fun b u z=> by have z':(none:Option HO)=some u:=z;cases z') (fun b z=> absurd rfl z) fun z=> absurd rfl z
  | none=>
    refine core (fun b=> if b=a then some (.frz {cls:= .type "list",data:= .seq vs.toArray} (.lst (ns.map V.int))) else none) (fun b=> ?_) (.inl (.inr ⟨{cls:= .type "list",data:= .seq vs.toArray},if_pos rfl⟩)) (fun b u z=> ?_) (fun b z=> ?_) fun _=> hk
    · by_cases hb:b=a
      · exact .inr ⟨_,_,if_pos hb⟩
      · exact .inl (if_neg hb)
    · by_cases hb:b=a
      · have z':=(if_pos hb).symm.trans z
        cases z'
        subst hb
        exact⟨ha,by rw [Jf];exact hl,vs,_,rv,ha⟩
      · have z':=(if_neg hb).symm.trans z
        cases z'
    · by_cases hb:b=a
      · exact hb
      · exact absurd (if_neg hb) z
end L2
namespace L2
open PySem PySem.Spec PyProof.Rows
abbrev KOf{K:Jd}{h:Heap}(_:K.In h):Jd:=K
end L2
namespace L2
open PySem PySem.Spec PyProof.Rows
def inClass(s:Stmt)(j:Nat):Stmt:=match s with
  | .ClassDef _ _ _ body _ _ _ _ _ _ _=> body.getD j (.Pass ⟨0,0,0,0⟩)
  | _=> .Pass ⟨0,0,0,0⟩
def aB(s:Stmt):Arguments:=match s with
  | .FunctionDef _ a _ _ _ _ _ _ _ _=> a
  | _=> {posonlyargs:=[],args:=[],vararg:=none,kwonlyargs:=[],kw_defaults:=[],kwarg:=none,defaults:=[]}
def az(s:Stmt):List Stmt:=match s with
  | .FunctionDef _ _ b _ _ _ _ _ _ _=> b
  | _=> []
def ah(s:Stmt):Scope:=match s with
  | .FunctionDef _ _ _ _ _ _ sc _ _ _=> sc
  | _=> {kind:= .function,names:=[],isGenerator:=false,isCoroutine:=false}
abbrev CX0:eB:=fun _ _ _ _ _ _=> False
abbrev E0:XK:=fun _ _ _=> False
theorem av{X:Cx}:mi CX0 X E0:=fun _ _ _ _ _ _ _ h=> h.elim
structure aV (K:Jd) (x qual:Str) (st:Stmt) (f:Addr) (fd:FuncData):Prop where
  ex:∃(oc:Value)(od:Option Addr)(kV doc pm:Value)(an:Option Addr)(cdv ct:Value)(osl:Array (Option Value)),
    fd=Ji x qual (aB st) (az st) (ah st) .none kV doc pm an cdv ct∧K.lookup f=some ⟨oc,od,.func fd,osl⟩∧Js K cdv qual=true
  kp:Jq K (.ref f)=true
section
variable {P:Program} {w:World} {K:Jd} {mg:Str→Option Value} {base:Heap}
theorem aV.ok{x qual:Str}{st:Stmt}{f:Addr}{fd:FuncData}{N ps:List Str}{k:Nat}{sp:Sp}(F:aV K x qual st f fd)(S:bg N ps (ah st))(len:∀vs H Q E,sp vs H Q E→vs.length=ps.length)
    (hbody:∀(cdv:Value) (A:Around) (outer:List Env) (s:Shared) (H:Hp) (vs:List V) (Q:VK) (E:XK),bE k (A.deeper (envOfC qual (ah st) s.heap.objs.size f cdv))→sp vs H Q E→
      ∃t,bM (hU CX0 P w K mg base N qual (ah st) f cdv A outer s H E).nox (az st) t∧t {nx:=fun _ H'=> Q .non H',rt:=Q} (start N vs) H):aK P w K mg base CX0 (k+1) f fd ps sp:=by
  obtain⟨oc,od,kV,doc,pm,an,cdv,ct,osl,rfl,lk,hcd⟩:=F.ex
  refine CW lk hcd S len fun A outer s H vs Q E hr hsp=> ?_
  obtain⟨t,h,q⟩:=hbody cdv A outer s H vs Q E hr hsp
  exact⟨t,h.nox,q⟩
theorem aV.binds{x qual:Str}{st:Stmt}{f:Addr}{fd:FuncData}{ps:List Str}(F:aV K x qual st f fd)
    (h:∀(kV doc pm:Value) (an:Option Addr) (cdv ct:Value) (us:List Value),us.length=ps.length→bindArgs (Ji x qual (aB st) (az st) (ah st) .none kV doc pm an cdv ct) ⟨us,[]⟩=pure (ps.zip us)):aQ K fd ps []:=by
  obtain⟨oc,od,kV,doc,pm,an,cdv,ct,osl,rfl,lk,hcd⟩:=F.ex
  exact .all (h kV doc pm an cdv ct)
theorem bz{x qual:Str}{st:Stmt}{f:Addr}{oc:Value}{od an:Option Addr}{osl:Array (Option Value)}{kV doc pm cdv ct:Value}(l:K.lookup f=some ⟨oc,od,.func (Ji x qual (aB st) (az st) (ah st) .none kV doc pm an cdv ct),osl⟩)
    (c:Js K cdv qual=true)(k:Jq K (.ref f)=true):aV K x qual st f (Ji x qual (aB st) (az st) (ah st) .none kV doc pm an cdv ct):=⟨⟨oc,od,kV,doc,pm,an,cdv,ct,osl,rfl,l,c⟩,k⟩
end
section
variable {X:Cx}
theorem pv(i:Nat){x:Str}{pos:Pos}(hN:X.N[i]?=some x:=by rfl)(hv:lS X.env.scope x:=by first | exact NC rfl | exact Ms (NC rfl) | exact Ms (Ms rfl))(hd:(x==("__debug__":Str))=false:=by decide)
    (hcd:(x==("__classdict__":Str))=false:=by decide):PE X (.Name x pos) (eO i):=t6 hN hv hd hcd
end
def ar(H H':Hp):Prop:=∀b o,H b=some o→H' b=some o
theorem ar.refl(H:Hp):ar H H:=fun _ _ h=> h
theorem ar.trans{H H1 H2:Hp}(a:ar H H1)(b:ar H1 H2):ar H H2:=fun c o h=> b c o (a c o h)
end L2
namespace L2
open PySem PySem.Spec PyProof.Rows
def d3(env:Env)(names:List (Str×NameKind))(cs:List (Str×Addr)):List (Str×Addr):=
 names.foldl (fun cs p=> if (p.2==Kl)=true then(p.1,(env.cells.lookup p.1).getD 0)::cs else cs) cs
theorem x5{scope:Scope}{env:Env}(h:∀y∈scope.names,y.2= .free→∃c,env.cells.lookup y.1=some c):closureFor scope env=pure (d3 env scope.names []):=by
 unfold closureFor
 have key:∀(l:List (Str×NameKind))(cs:List (Str×Addr)),(∀y∈l,y.2= .free→∃c,env.cells.lookup y.1=some c)→
   (forIn l cs fun(x:Str×NameKind) (r:List (Str×Addr))=> (if (x.2==Kl)=true then do let a←cellOf env x.1;pure (LF ((x.1,a)::r)) else pure (LF r):Sem (ForInStep (List (Str×Addr)))))=pure (d3 env l cs):=by
  intro l
  induction l with
  | nil=> intro cs _;rfl
  | cons p r ih=>
   intro cs hl
   rw [Oz]
   by_cases hk:(p.2==Kl)=true
   ·obtain⟨c,hc⟩:=hl p JY (by simpa using hk)
    rw [if_pos hk]
    have e:cellOf env p.1=pure c:=by unfold cellOf;rw [hc]
    rw [e]
    simp only [pure_bind]
    rw [ih _ fun y hy=> hl y (JS _ hy)]
    unfold d3
    rw [Lg,if_pos hk,hc]
    rfl
   ·rw [if_neg hk]
    simp only [pure_bind]
    rw [ih _ fun y hy=> hl y (JS _ hy)]
    unfold d3
    rw [Lg,if_neg hk]
 have:=key scope.names [] h
 simp only [bind_pure]
 exact this
theorem pM{env:Env}:∀(l:List (Str×NameKind))(cs:List (Str×Addr)){x:Str}{c:Addr},(∀y∈l,y.2= .free→∃c,env.cells.lookup y.1=some c)→(∀y d,cs.lookup y=some d→env.cells.lookup y=some d)→
  (d3 env l cs).lookup x=some c→env.cells.lookup x=some c
 | [],cs,x,c,_,hc,h=> hc x c h
 | p::r,cs,x,c,hl,hc,h=> by
  unfold d3 at h
  rw [Lg] at h
  by_cases hk:(p.2==Kl)=true
  ·rw [if_pos hk] at h
   refine pM r _ (fun y hy=> hl y (JS _ hy)) (fun y d e=> ?_) h
   obtain⟨a,ha⟩:=hl p JY (by simpa using hk)
   rw [Km] at e
   cases hx:y==p.1 with
   | true=>
    rw [hx] at e
    have hy:y=p.1:=by simpa using hx
    rw [ha] at e
    cases e
    rw [hy];exact ha
   | false=> rw [hx] at e;exact hc y d e
  ·rw [if_neg hk] at h
   exact pM r cs (fun y hy=> hl y (JS _ hy)) hc h
theorem uE{env:Env}:∀(l:List (Str×NameKind))(cs:List (Str×Addr)){x:Str},(∃c,cs.lookup x=some c)→∃c,(d3 env l cs).lookup x=some c
 | [],cs,x,h=> h
 | p::r,cs,x,⟨c,h⟩=> by
  unfold d3
  rw [Lg]
  by_cases hk:(p.2==Kl)=true
  ·rw [if_pos hk]
   refine uE r _ ?_
   rw [Km]
   cases hx:x==p.1 with
   | true=> exact⟨_,rfl⟩
   | false=> exact⟨c,h⟩
  ·rw [if_neg hk];exact uE r cs ⟨c,h⟩
theorem uF{env:Env}:∀(l:List (Str×NameKind))(cs:List (Str×Addr)){x:Str},(x,Kl)∈l→∃c,(d3 env l cs).lookup x=some c
 | [],_,_,h=> by simp at h
 | p::r,cs,x,h=> by
  unfold d3
  rw [Lg]
  rcases Jy.mp h with e | e
  ·subst e
   rw [if_pos (by rfl)]
   exact uE r _ ⟨(env.cells.lookup x).getD 0,by rw [Km];simp⟩
  ·exact uF r _ e
theorem Dz{env:Env}{scope:Scope}{x:Str}(h:(relabel scope env).names.lookup x=some .cell∨(relabel scope env).names.lookup x=some .free)(hc:∀y∈scope.names,y.2≠ .cell):(x,Kl)∈scope.names:=by
 have key:∀(l:List (Str×NameKind)),(∀y∈l,y.2≠ .cell)→
   ((l.map fun(n,k)=> if (k==Kl && env.scope.kind== .function && env.kindOf n==some .cell) then(n,MP) else(n,k)).lookup x=some .cell∨
   (l.map fun(n,k)=> if (k==Kl && env.scope.kind== .function && env.kindOf n==some .cell) then(n,MP) else(n,k)).lookup x=some .free)→(x,Kl)∈l:=by
  intro l
  induction l with
  | nil=> intro _ h;simp at h
  | cons p r ih=>
   obtain⟨n,k⟩:=p
   intro hl h
   rw [Jj] at h
   have hk:k≠ .cell:=hl (n,k) JY
   by_cases hx:x=n
   ·subst hx
    by_cases hq:(k==Kl && env.scope.kind== .function && env.kindOf x==some .cell)=true
    ·have:k= .free:=by simp only [Kh,beq_iff_eq] at hq;exact hq.1.1
     subst this;exact JY
    ·simp only [if_neg hq,Km,beq_self_eq_true] at h
     rcases h with h | h
     ·exact absurd (JW h) hk
     ·have e:=JW h;subst e;exact JY
   ·have hb:(x==n)=false:=by simpa using hx
    refine JS _ (ih (fun y hy=> hl y (JS _ hy)) ?_)
    by_cases hq:(k==Kl && env.scope.kind== .function && env.kindOf n==some .cell)=true
    ·simpa only [if_pos hq,Km,hb] using h
    ·simpa only [if_neg hq,Km,hb] using h
 exact key scope.names hc h
theorem DC{env:Env}{scope:Scope}{x:Str}(h:scope.names.lookup x=some .free):(relabel scope env).names.lookup x=some .cell∨(relabel scope env).names.lookup x=some .free:=by
 have key:∀(l:List (Str×NameKind)),l.lookup x=some .free→
   ((l.map fun(n,k)=> if (k==Kl && env.scope.kind== .function && env.kindOf n==some .cell) then(n,MP) else(n,k)).lookup x=some .cell∨
   (l.map fun(n,k)=> if (k==Kl && env.scope.kind== .function && env.kindOf n==some .cell) then(n,MP) else(n,k)).lookup x=some .free):=by
  intro l
  induction l with
  | nil=> intro h;simp at h
  | cons p r ih=>
   obtain⟨n,k⟩:=p
   intro h
   rw [Jj]
   by_cases hx:x=n
   ·subst hx
    rw [Km,beq_self_eq_true] at h
    have e:k= .free:=JW h
    by_cases hq:(k==Kl && env.scope.kind== .function && env.kindOf x==some .cell)=true
    ·left;simp only [if_pos hq,Km,beq_self_eq_true]
    ·right;simp only [if_neg hq,Km,beq_self_eq_true];rw [e]
   ·have hb:(x==n)=false:=by simpa using hx
    rw [Km,hb] at h
    by_cases hq:(k==Kl && env.scope.kind== .function && env.kindOf n==some .cell)=true
    ·simpa only [if_pos hq,Km,hb] using ih h
    ·simpa only [if_neg hq,Km,hb] using ih h
 exact key scope.names h
structure bH (sc:Scope) (N N':List Str) (k:Nat) (fr:List Nat) (scope:Scope):Prop where
 kind:scope.kind= .function
 cell:∀y∈scope.names,y.2≠ .cell
 names:∀y∈scope.names,y.2= .local→scope.names.lookup y.1=some .local
 nd:N'.Nodup
 slot:fr.map (fun j=> N[j]?)=(N'.drop k).map some
 frees:∀x∈N'.drop k,scope.names.lookup x=some .free
 outer:∀y∈scope.names,y.2= .free→sc.names.lookup y.1=some .cell∨sc.names.lookup y.1=some .free
 outer':∀x∈N'.drop k,sc.names.lookup x=some .cell∨sc.names.lookup x=some .free
 len:N'.length=k+fr.length
def bK(X:Cx)(scope:Scope)(N':List Str)(fp:List Addr)(C:Addr)(s:Shared)(H:Hp):Cx where
 prog:=X.prog
 w:=X.w
 K:=X.K
 mg:=X.mg
 base:=X.base
 A:=X.A
 N:=N'
 s₀:=s
 H₀:=H
 env:=compEnvC scope (d3 X.env scope.names []) C X.env
 outer:=X.stack
 stack:=X.stack
 ex:=fp
 fn:=fun _=> false
 calm:=X.calm
 pn:=[]
 xe:=fun _ _=> False
def bO(k:Nat)(fr:List Nat)(σ:St):St:=Jx k none++fr.map fun j=> (σ[j]?).join
def jB(σ σ':St):Prop:=σ.length=σ'.length∧∀(i:Nat) v,σ[i]?=some (some v)→σ'[i]?=some (some v)
section
variable {X:Cx} {pins:List (Addr×Obj)} {σ:St} {H:Hp} {s:Shared} {scope:Scope} {N':List Str} {k:Nat} {fr:List Nat} {fp:List Addr}
theorem DD(S:bH X.env.scope X.N N' k fr scope)(I:af X pins σ H s)(hf:∀b∈fp,fE X pins H b)(hlt:∀b∈fp,b < s.heap.objs.size):
  (bK X scope N' fp s.heap.objs.size s H).Ok:=by
 have hcell:∀y∈scope.names,y.2= .free→∃c,X.env.cells.lookup y.1=some c:=fun y hy e=> I.ok.has y.1 (S.outer y hy e)
 have hcl:∀x c,(d3 X.env scope.names []).lookup x=some c→X.env.cells.lookup x=some c:=fun x c e=> pM scope.names [] hcell (fun _ _ z=> by simp at z) e
 refine⟨I.ok.mod,S.kind,I.ok.glob,I.ok.blt,Jm _,fun x y c h1 h2=> I.ok.inj x y c (hcl x c h1) (hcl y c h2),fun x hx=> uF _ _ (Dz hx S.cell),fun x c h=> absurd h (by simp [bK]),I.ok.hd,I.ok.frames,.inl rfl,fun b hb=> ⟨JJ (hlt b hb),fun x c e=> (hf b hb).2.2.2.2.1 x c (hcl x c e)⟩,
  I.bs,JL I.ok.bsz I.sz,fun b o e hb=> ?_,fun b hb hb'=> ?_,I.stack,I.stkFree⟩
 ·rcases(hf b hb).2.2.2.1 with z | z
  ·exact I.ok.noex b o e z
  ·exact absurd (J5 (Jz e) (JL I.ok.bsz z)) (Lj _)
 ·rcases Jy.mp (I.stkSub b hb') with z | z
  ·exact(hf b hb).2.1 z
  ·exact(hf b hb).2.2.1 z
theorem DH(S:bH X.env.scope X.N N' k fr scope)(I:af X pins σ H s)(hf:∀b∈fp,fE X pins H b)(hlt:∀b∈fp,b < s.heap.objs.size){h':Heap}{t':Nat}
  (hn:h'.Ns s.heap.objs.size (fun _=> none))(hk:∀b o,s.heap.get? b=some o→h'.get? b=some o):
  af (bK X scope N' fp s.heap.objs.size s H) [] (bO k fr σ) H {s with heap:=h',toks:=t'}:=by
 have hcell:∀y∈scope.names,y.2= .free→∃c,X.env.cells.lookup y.1=some c:=fun y hy e=> I.ok.has y.1 (S.outer y hy e)
 have hcl:∀x c,(d3 X.env scope.names []).lookup x=some c→X.env.cells.lookup x=some c:=fun x c e=> pM scope.names [] hcell (fun _ _ z=> by simp at z) e
 refine⟨DD S I hf hlt,rfl,I.bare,Un.kept hk,⟨_,hn,fun i x v h1 h2 h3=> ?_⟩,fun x c e=> ?_,I.hok.fresh (Jm _),fun x c e=> I.freeC x c (hcl x c e),fun p hp=> absurd hp (by simp [bK]),I.hok.kept hk,?_⟩
 ·have hi:k≤i:=by
   rcases LP i k with z | z
   ·exfalso
    unfold bO at h2
    rw [K3 (by simpa using z),Lz,if_pos z] at h2
    cases h2
   ·exact z
  have h2':(fr.map fun j=> (σ[j]?).join)[i - k]?=some (some v):=by
   unfold bO at h2
   rw [KZ (by simpa using hi)] at h2
   simpa using h2
  have h1':(N'.drop k)[i - k]?=some x:=by
   rw [List.getElem?_drop,Nat.add_sub_cancel' hi];exact h1
  have hmem:x∈N'.drop k:=JO h1'
  have e2:(fr.map fun j=> X.N[j]?)[i - k]?=some (some x):=by
   rw [S.slot,JB,h1'];rfl
  obtain⟨j,hj,ej⟩:∃j,fr[i - k]?=some j∧X.N[j]?=some x:=by
   rw [JB] at e2
   cases e:fr[i - k]? with
   | none=> rw [e] at e2;cases e2
   | some j=> rw [e] at e2;exact⟨j,rfl,JW e2⟩
  have hv:σ[j]?=some (some v):=by
   rw [JB,hj] at h2'
   have h3':(σ[j]?).join=some v:=JW h2'
   cases e:σ[j]? with
   | none=> rw [e] at h3';cases h3'
   | some o=> rw [e] at h3';rw [show o=some v from h3']
  obtain⟨m,hn0,hl⟩:=I.loc
  have ho:=S.outer' x hmem
  obtain⟨u,ru,lk⟩:=hl j x v ej hv (.inr ho)
  refine⟨u,ru,.inr ⟨DC (S.frees x hmem),?_⟩⟩
  rcases lk with⟨z,_⟩ | ⟨_,c,hc,hx⟩
  ·exfalso
   rcases ho with ho | ho
   ·exact absurd (z.symm.trans ho) (by simp)
   ·exact absurd (z.symm.trans ho) (by simp)
  ·obtain⟨c',hc'⟩:=uF (env:=X.env) scope.names [] (La (S.frees x hmem))
   have:=hcl x c' hc'
   rw [hc] at this;cases this
   obtain⟨o,ho,hd⟩:=hx
   exact⟨c,hc',o,hk c o ho,hd⟩
 ·obtain⟨v,o,ho,hd⟩:=I.cell x c (hcl x c e)
  exact⟨v,o,hk c o ho,hd⟩
 ·unfold bO
  show _=N'.length
  rw [Kq,K2,Jf,S.len]
end
end L2
namespace L2
open PySem PySem.Spec PyProof.Rows
section
variable {prog:Program} {w:World} {A:Around} {E:Value→Shared→Prop} {R:Result→Shared→Prop} {s:Shared}
theorem DI{elt target iter:Expr}{ifs:List Expr}{scope:Scope}{pos:Pos}{it acc:Value}{env:Env}(I:Nat→Shared→Prop)
  (turn:∀n s,I n s→wpAny (model prog w) A (pyNext it) (fun r s₁=> match r with
   | none=> R (.ok .next) s₁
   | some v=> wpAny (model prog w) A (letOwnedTupleGo target it v) (fun _ s₁'=> wpAny (model prog w) A (assign target env v) (fun _ s₂=>
     wpAny (model prog w) A (forIn ifs true fun c r=> if r=true then do let ok←isTrue c env (eval c env);pure (LF ok) else pure (LF r)) (fun ok s₃=>
      if ok=true then wpAny (model prog w) A (eval elt env) (fun x s₄=>
       wpAny (model prog w) A (call (.builtin "list.append") [acc,x]) (fun _ s₅=> ∃m,m < n∧I m s₅) (fun _ _=> False) s₄) (fun _ _=> False) s₃
      else ∃m,m < n∧I m s₃) (fun _ _=> False) s₂) (fun _ _=> False) s₁') (fun _ _=> False) s₁) (fun _ _=> False) s)
  (n:Nat)(h:I n s):
  codeAny (model prog w) A (.compLoop (.ListComp elt [⟨target,iter,ifs,0⟩] scope pos) 0 it acc env) R s:=by
 refine codeAny_loop rfl I (fun n s hI=> ?_) n h
 show wpAny _ A ((compTurn (.ListComp elt [⟨target,iter,ifs,0⟩] scope pos) 0 it acc env).onRaise (fun x=> do noteFrame x env;theTreesLotGoes x)) _ _ s
 refine wpAny_noted ?_
 rw [compTurn_list]
 refine wpAny_bind (wpAny_standAt (wpAny_bind (wpAny_mono (turn n s hI) (fun r s₁ h₁=> ?_) fun _ _ h'=> h'.elim)))
 cases r with
 | none=> exact wpAny_pure h₁
 | some v=>
  refine wpAny_bind (wpAny_mono h₁ (fun _ s₁' h₁'=> ?_) fun _ _ h'=> h'.elim)
  refine wpAny_bind (wpAny_mono h₁' (fun _ s₂ h₂=> wpAny_bind (wpAny_mono h₂ (fun ok s₃ h₃=> ?_) fun _ _ h'=> h'.elim)) fun _ _ h'=> h'.elim)
  cases ok with
  | false=> exact wpAny_pure ⟨rfl,h₃⟩
  | true=>
   exact wpAny_bind (wpAny_bind (wpAny_mono h₃ (fun x s₄ h₄=> wpAny_bind (wpAny_mono h₄ (fun _ s₅ h₅=> wpAny_pure (wpAny_pure ⟨rfl,h₅⟩)) fun _ _ h'=> h'.elim)) fun _ _ h'=> h'.elim))
end
def eF(X:Cx)(ifs:List Expr)(t:TT):Prop:=
 ∀(pins:List (Addr×Obj))(s:Shared)(σ:St)(H:Hp)(Q:Bool→Hp→Prop),af X pins σ H s→t σ H Q→
  wpAny (model X.prog X.w) X.A (forIn ifs true fun c r=> if r=true then do let ok←isTrue c X.env (eval c X.env);pure (LF ok) else pure (LF r)) (TP X pins σ Q) X.xe s
def x6:TT:=fun _ H Q=> Q true H
theorem x8{X:Cx}:eF X [] x6:=fun pins s σ H Q I h=> wpAny_tests_nil ⟨H,I,h⟩
theorem dj{X:Cx}{c:Expr}{t:TT}(h:PT X c t):eF X [c] t:=fun pins s σ H Q I hq=> wpAny_tests_one (h pins s σ H Q I hq)
theorem bV.but{P:Program}{w:World}{H:Hp}{h h':Heap}{C:Addr}(x:bV P w H h)(hC:H C=none)(k:∀b o,b≠C→h.get? b=some o→h'.get? b=some o):bV P w H h':=fun a o e=> by
 refine(x a o e).stay (fun b u hb q=> k b u ?_ q) (fun _ q=> q) fun _ _ q=> q
 intro z
 subst z
 rcases hb with z | z
 ·rw [←z,hC] at e;cases e
 ·rw [hC] at z;cases z
def ja(wi:TI)(g:TG)(tc:TT)(te:TE)(k:Nat)(fr:List Nat):TE:=fun σ H Q=> wi σ H fun J H1=> ∀D,H1 D=none→∃W:Nat→Nat→Hp→Prop,(∃m,W 0 m (ao H1 D (.lst [])))∧∀i m H,W i m H→
 (J.stop i H∧Q (.ref D) H)∨(J.go i H∧∀x H',J.yld i H x H'→g x (bO k fr σ) H' fun σ2 H2=> jB (bO k fr σ) σ2∧tc σ2 H2 fun ok H3=>
  if ok=true then te σ2 H3 fun y H4=> ∃ys,H4 D=some (.lst ys)∧ys.length < sizeLine∧∃m',m' < m∧W (i+1) m' (ao H4 D (.lst (ys++[y])))
  else ∃m',m' < m∧W (i+1) m' H3)
section
variable {X:Cx} {tg iter elt:Expr} {ifs:List Expr} {scope:Scope} {N':List Str} {k:Nat} {fr:List Nat} {wi:TI} {g:TG} {tc:TT} {te:TE} {pos:Pos}
theorem x9{use:Option (Value→Sem Unit)}{Q':Value→Shared→Prop}{pins:List (Addr×Obj)}{s:Shared}{σ:St}{H:Hp}{Q:VK}(hc:X.calm=true)(S:bH X.env.scope X.N N' k fr scope)(hi:PI X tg iter wi)
  (hg:∀fp C s H,PG (bK X scope N' fp C s H) tg g)(hf:∀fp C s H,eF (bK X scope N' fp C s H) ifs tc)(he:∀fp C s H,PE (bK X scope N' fp C s H) elt te)
  (I:af X pins σ H s)(h:ja wi g tc te k fr σ H Q)
  (hQ:∀D C s' H',C≠X.env.locals→af X pins σ H' s'→(∀h',L9 C s'.heap h'→af X pins σ H' {s' with heap:=h'})→Q (.ref D) H'→(∃m,s'.heap.Ns C m)→X.env.locals < C→H' C=none∧(∀x c,X.env.cells.lookup x=some c→c≠C)∧(∀p∈X.pn++pins,p.1≠C)→compPost (model X.prog X.w) X.A X.xe use Q' (.ref D) C (.ok .next) s'):
  wpAny (model X.prog X.w) X.A (eval iter X.env) (fun x s₁=> wpAny (model X.prog X.w) X.A (pyIter x) (fun it s₂=> wpAny (model X.prog X.w) X.A (newList []) (fun acc s₃=>
   wpAny (model X.prog X.w) X.A (newFunctionEnv scope X.env.globals (d3 X.env scope.names []) [] X.env.qual none .none (some X.env)) (fun cenv s₄=>
    codeAny (model X.prog X.w) X.A (.compStart (.ListComp elt [⟨tg,iter,ifs,0⟩] scope pos) 0 it acc {cenv with scope:=relabel scope X.env}) (compPost (model X.prog X.w) X.A X.xe use Q' acc cenv.locals) s₄) X.xe s₃) X.xe s₂) X.xe s₁) X.xe s:=by
 refine aD (hi pins s σ H _ I h) fun v s1 h1=> aD h1 fun itv s2 h2=> ?_
 obtain⟨it,fp,tn,J,H2,e,I2,T,st2,f2,wW⟩:=h2
 subst e
 refine wpAny_newObj_type ?_
 have hD0:H2 s2.heap.objs.size=none:=I2.hok.fresh (Jm _)
 obtain⟨W,⟨m0,w0⟩,turn⟩:=wW _ hD0
 generalize hD:s2.heap.objs.size=D at*
 have I3:af X pins σ (ao H2 D (.lst [])) {s2 with heap:=s2.heap.push {cls:= .type "list",dict:=none,data:= .seq ([]:List Value).toArray}}:=by
  have:=I2.lnew (ys:=[]) (its:=[]) (t':=s2.toks) .nil (Kp _)
  rw [hD] at this
  exact this
 generalize hs3:({s2 with heap:=s2.heap.push {cls:= .type "list",dict:=none,data:= .seq ([]:List Value).toArray}}:Shared)=s3 at*
 have up23:∀b o,s2.heap.get? b=some o→s3.heap.get? b=some o:=fun b o e=> by rw [←hs3];exact Jl _ e
 have fpD:∀b∈fp,b≠D:=fun b hb z=> by
  obtain⟨o,ho,_⟩:=T.obj _ _ st2 b hb
  have:=Jz ho
  rw [hD,z] at this
  exact Lj _ this
 have f3:∀b∈fp,fE X pins (ao H2 D (.lst [])) b:=fun b hb=> ⟨by rw [aJ (fpD b hb)];exact(f2 b hb).1,(f2 b hb).2⟩
 have st3:tn 0 s3.heap:=T.keep _ _ _ st2 fun b hb o e=> up23 b o e
 have lt3:∀b∈fp,b < s3.heap.objs.size:=fun b hb=> by obtain⟨o,ho,_⟩:=T.obj _ _ st3 b hb;exact Jz ho
 refine wpAny_newFunctionEnv S.cell (by intro y hy;simp at hy) (fun h₁ hns₁ hsb₁=> ?_) S.kind
 have up34:∀b o,s3.heap.get? b=some o→h₁.get? b=some o:=fun b o e=> hsb₁.extBut b o (JJ (Jz e)) (Jl _ e)
 have I4:=DH (t':=s3.toks+([]:List (Str×Value)).length) S I3 f3 lt3 hns₁ up34
 have st4:tn 0 h₁:=T.keep _ _ _ st3 fun b hb o e=> up34 b o e
 generalize hX':bK X scope N' fp s3.heap.objs.size s3 (ao H2 D (.lst []))=X' at*
 have hg':PG X' tg g:=by rw [←hX'];exact hg _ _ _ _
 have hf':eF X' ifs tc:=by rw [←hX'];exact hf _ _ _ _
 have he':PE X' elt te:=by rw [←hX'];exact he _ _ _ _
 have eP:X'.prog=X.prog:=by rw [←hX'];rfl
 have eW:X'.w=X.w:=by rw [←hX'];rfl
 have eK:X'.K=X.K:=by rw [←hX'];rfl
 have eA:X'.A=X.A:=by rw [←hX'];rfl
 have eC:X'.calm=true:=by rw [←hX'];exact hc
 have eE:X'.xe=fun _ _=> False:=by rw [←hX'];rfl
 have eEnv:X'.env=compEnvC scope (d3 X.env scope.names []) s3.heap.objs.size X.env:=by rw [←hX'];rfl
 have fpx:∀{H':Hp},(∀b∈fp,H' b=none)→∀b∈fp,fE X' [] H' b:=fun{H'} hn b hb=> by
  refine⟨hn b hb,?_,?_,.inl ?_,?_,?_⟩
  ·rw [eEnv];exact JJ (lt3 b hb)
  ·have:=I4.ok.exfs b (by rw [←hX'];exact hb);exact this
  ·rw [←hX'];exact hb
  ·have:=I4.ok.exf b (by rw [←hX'];exact hb);exact this.2
  ·intro p hp;rw [←hX'] at hp;simp [bK] at hp
 have fin:∀(s':Shared)(H':Hp)(σ':St),af X' [] σ' H' s'→Q (.ref D) H'→compPost (model X.prog X.w) X.A X.xe use Q' (.ref D) s3.heap.objs.size (.ok .next) s':=fun s' H' σ' J q=> by
  have un:Un (eV X.stack) fp (ao H2 D (.lst [])) H' s3.heap s'.heap:=by have:=J.base;rw [←hX'] at this;exact this
  have jos:s'.os=s3.os:=by have:=J.os;rw [←hX'] at this;exact this
  have hC:H' s3.heap.objs.size=none:=by have:=J.free;rw [eEnv] at this;exact this
  have hok':bV X.prog X.w H' s'.heap:=by have:=J.hok;rw [eP,eW] at this;exact this
  have gA:∀h',L9 s3.heap.objs.size s'.heap h'→af X pins σ H' {s' with heap:=h'}:=fun h' hs'=> by
   have un':Un (eV X.stack) fp (ao H2 D (.lst [])) H' s3.heap h':=
    ⟨fun b o e n h1 h2=> hs'.extBut b o (JJ (Jz e)) (un.keep b o e n h1 h2),fun b o e n h1 h2=> by
     obtain⟨sl,z⟩:=un.slot b o e n h1 h2
     exact⟨sl,hs'.extBut b _ (JJ (Jz e)) z⟩,un.free,fun b o e h2=> by
     obtain⟨o',z⟩:=un.there b o e h2
     exact⟨o',hs'.extBut b o' (JJ (Jz e)) z⟩,un.tups,un.frzs,un.tbls⟩
   exact af.call' (s':={s' with heap:=h'}) I3 jos un' (hok'.but hC hs'.extBut) J.bare fun b hb=> ⟨(f3 b hb).2.2.2.1,(f3 b hb).2.1,(f3 b hb).2.2.2.2.1,(f3 b hb).2.2.2.2.2⟩
  have nsC:∃m,s'.heap.Ns s3.heap.objs.size m:=by
   obtain⟨m,hn,_⟩:=J.loc
   rw [eEnv] at hn
   exact⟨m,hn⟩
  exact hQ D s3.heap.objs.size s' H' (M7 I3.lt) (gA s'.heap (.refl ..)) gA q nsC I3.lt
   ⟨hC,fun x c e=> by obtain⟨v,o,ho,_⟩:=I3.cell x c e;exact JJ (Jz ho),fun p hp=> JJ (Jz (I3.pin p hp).1)⟩
 have loop:∀s4:Shared,s4=({s3 with heap:=h₁,toks:=s3.toks+([]:List (Str×Value)).length}:Shared)→
   codeAny (model X.prog X.w) X.A (.compLoop (.ListComp elt [⟨tg,iter,ifs,0⟩] scope pos) 0 (.ref it) (.ref D) X'.env) (compPost (model X.prog X.w) X.A X.xe use Q' (.ref D) s3.heap.objs.size) s4:=by
  rintro s4 rfl
  refine DI (fun n s'=> ∃i H',af X' [] (bO k fr σ) H' s'∧tn i s'.heap∧(∀b∈fp,H' b=none)∧W i n H') ?_ m0 ⟨0,_,I4,st4,fun b hb=> (f3 b hb).1,w0⟩
  rintro n s5 ⟨i,H5,I5,st5,fr5,w5⟩
  rcases turn i n H5 w5 with⟨stop,qn⟩ | ⟨go,step⟩
  ·have:=T.done X' eP eW eK eC i [] s5 _ H5 (fun _ _=> False) I5 (fpx fr5) st5 stop
   rw [eA] at this
   refine aD this fun r s6 ⟨hr,I6⟩=> ?_
   subst hr
   exact fin s6 H5 _ I6 qn
  ·have:=T.item X' eP eW eK eC i [] s5 _ H5 (fun _ _=> False) I5 (fpx fr5) st5 go
   rw [eA] at this
   refine aD this fun r s6 ⟨u,hr,h6⟩=> ?_
   subst hr
   refine aD h6 fun _ s7 ⟨x,H7,I7,r7,y7,st7,fr7⟩=> ?_
   have I7':=I7.pinned (fpx fr7) (T.obj _ _ st7)
   have h8:=hg' _ s7 _ H7 x u _ I7' r7 (step x H7 y7)
   rw [eP,eW,eA,eE] at h8
   refine aD h8 fun _ s8 ⟨σ8,H8,I8,kp,q8⟩=> ?_
   have h9:=hf' _ s8 σ8 H8 _ I8 q8
   rw [eP,eW,eA,eE] at h9
   have again:∀{s9:Shared}{H9:Hp}{n':Nat},af X' ([]++lZ fp s7.heap) σ8 H9 s9→n' < n→W (i+1) n' H9→∃m,m < n∧∃i H',af X' [] (bO k fr σ) H' s9∧tn i s9.heap∧(∀b∈fp,H' b=none)∧W i m H':=fun{s9 H9 n'} I9 hn' w9=> by
    refine⟨n',hn',i+1,H9,I9.unpinned.weak kp.1 kp.2,T.keep _ _ _ st7 fun b hb o e=> (I9.pin (b,o) (J9 _ (J9 _ (ph hb e)))).1,fun b hb=> ?_,w9⟩
    obtain⟨o,e,d⟩:=T.obj _ _ st7 b hb
    exact(I9.pin (b,o) (J9 _ (J9 _ (ph hb e)))).2.1
   refine aD h9 fun ok s9 ⟨H9,I9,q9⟩=> ?_
   cases ok with
   | false=>
    rw [if_neg Jk] at q9
    obtain⟨m',hm',w9⟩:=q9
    rw [if_neg Jk]
    exact again I9 hm' w9
   | true=>
    rw [if_pos rfl] at q9
    rw [if_pos rfl]
    have h10:=he' _ s9 σ8 H9 _ I9 q9
    rw [eP,eW,eA,eE] at h10
    refine aD h10 fun y s10 ⟨yv,H10,I10,r10,ys,hys,hz,m',hm',w10⟩=> ?_
    have h11:=xZ (X:=X') _ s10 σ8 H10 (.ref D) [yv] (.ref D) [y] (fun _ H'=> W (i+1) m' H') I10 rfl (.cons r10 .nil) ⟨D,ys,yv,rfl,rfl,hys,hz,w10⟩
    rw [eP,eW,eA,eE] at h11
    exact aD h11 fun _ s11 uu62=> by obtain⟨_,H11,I11,_,q11⟩:=uu62;exact again I11 hm' q11
 have hE:({newEnv scope s3.heap.objs.size X.env.globals (d3 X.env scope.names []) X.env.qual none .none (some X.env) builtinsNs with scope:=relabel scope X.env}:Env)=X'.env:=by
  rw [eEnv];rfl
 have goal:=codeAny_compStart_list (elt:=elt) (target:=tg) (iter:=iter) (ifs:=ifs) (rest:=[]) (scope:=scope) (pos:=pos) (loop _ rfl) (T.self X.A 0 _ _ _ st4 (loop _ rfl))
 rw [←hE] at goal
 exact goal
theorem mn(hc:X.calm=true)(S:bH X.env.scope X.N N' k fr scope)(hi:PI X tg iter wi)
  (hg:∀fp C s H,PG (bK X scope N' fp C s H) tg g)(hf:∀fp C s H,eF (bK X scope N' fp C s H) ifs tc)(he:∀fp C s H,PE (bK X scope N' fp C s H) elt te)
  (hs:∀x,foldedSetIterable iter X.env x=pure x:=by intro _;rfl):PE X (.ListComp elt [⟨tg,iter,ifs,0⟩] scope pos) (ja wi g tc te k fr):=by
 intro pins s σ H Q I h
 have hcell:∀y∈scope.names,y.2= .free→∃c,X.env.cells.lookup y.1=some c:=fun y hy e=> I.ok.has y.1 (S.outer y hy e)
 rw [eval_ListComp]
 refine wpAny_comprehension_free (use:=none) rfl hs (x5 hcell) S.kind S.names (x9 hc S hi hg hf he I h ?_)
 intro D C s' H' hC J gA q ns hlt _
 obtain⟨m,hn⟩:=ns
 exact⟨m,hn,fun h' hs'=> ⟨.ref D,H',gA h' hs',rfl,q⟩⟩
theorem DJ{i:Nat}{x:Str}{pos' spos:Pos}(hN:X.N.Nodup)(hxi:X.N[i]?=some x)(hx:gh X.env.scope x)(hc:X.calm=true)(S:bH X.env.scope X.N N' k fr scope)(hi:PI X tg iter wi)
  (hg:∀fp C s H,PG (bK X scope N' fp C s H) tg g)(hf:∀fp C s H,eF (bK X scope N' fp C s H) ifs tc)(he:∀fp C s H,PE (bK X scope N' fp C s H) elt te)
  (hsw:swapsWith (.ListComp elt [⟨tg,iter,ifs,0⟩] scope pos) (some (.Name x pos')) spos.line X.env=pure true)
  (hs:∀x,foldedSetIterable iter X.env x=pure x:=by intro _;rfl)(hfn:X.fn x=true∨X.env.scope.names.lookup x=some .local:=by first | exact .inl rfl | exact .inr rfl | assumption):
  PS X (.Assign [.Name x pos'] (.ListComp elt [⟨tg,iter,ifs,0⟩] scope pos) spos) (lU (ja wi g tc te k fr) (gn i)):=by
 intro pins s σ H D I h
 have hcell:∀y∈scope.names,y.2= .free→∃c,X.env.cells.lookup y.1=some c:=fun y hy e=> I.ok.has y.1 (S.outer y hy e)
 rw [exec_Assign_Name_used _ _ _ _ hsw]
 refine wpAny_bind (wpAny_standAt (wpAny_bind ?_))
 show wpAny _ X.A (do let _←comprehension (.ListComp elt [⟨tg,iter,ifs,0⟩] scope pos) scope X.env _ (newList []) false (eval iter X.env) (some (assign (.Name x pos') X.env))) _ _ s
 refine wpAny_bind (wpAny_mono (wpAny_comprehension_free (use:=some (assign (.Name x pos') X.env)) (Q:=fun _ s'=> ∃σ' H',af X pins σ' H' s'∧D.nx σ' H') rfl hs (x5 hcell) S.kind S.names (x9 hc S hi hg hf he I h ?_)) (fun _ s' hq=> wpAny_pure (wpAny_pure hq)) fun _ _ e=> e)
 intro D' C s' H' hC J gA q ns hlt ⟨c1,c2,c3⟩
 obtain⟨m,hn⟩:=ns
 show wpAny _ X.A (assign (.Name x pos') X.env (.ref D')) _ _ _
 refine wpAny_assign_Name (wq J hN hxi hx (v:= .ref D') rfl (fun s2 J2 sb=> ?_) hfn)
 obtain⟨a,sb,ha⟩:=sb
 have hCa:C≠a:=by
  rcases ha with z | z
  ·rw [z];exact hC
  ·exact Ne.symm (c2 _ _ z)
 refine⟨m,hn.sameBut sb hCa,fun h3 hs3=> ⟨_,H',?_,q⟩⟩
 exact J2.turned (t':=s2.toks) hs3.extBut c1 hC (.inr (JL J.ok.above (LO hlt))) c2 c3
end
end L2
namespace L2
open PySem PySem.Spec PyProof.Rows
section
variable {X:Cx}
theorem ya(hc:X.calm=true):cP X (.builtin "sum") (fun xs H Q=> ∃(a:Addr)(ns:List Int),xs=[.ref a]∧aP X.K H a (ns.map V.int)∧Q (.int ns.sum) H):=by
 intro pins s σ H xs us Q I r h
 obtain⟨a,ns,rfl,hl,q⟩:=h
 obtain⟨u,rfl,rx⟩:=cU r
 cases rx
 obtain⟨its,rv,p,hz⟩:=I.list hl
 have hi:IntsAre its ns:=C4 rv
 have hall:AllInts its.toArray:=hi.allInts
 obtain⟨ys,hys⟩:=hall.items
 have hn:numsOf its.toArray.toList=ns:=by rw [show its.toArray.toList=its from rfl,hi.numsOf]
 rw [hys,nums_intItems] at hn
 have hl':=p.isList
 rw [hys] at hl'
 refine sum_intListG (I.ok.hd hc) hl' fun h' tk t' hk=> ?_
 refine⟨.int ns.sum,H,I.kept hk,⟨t',?_⟩,q⟩
 rw [preSum_eq,JQ (by simp),hn]
end
end L2
namespace Att
open PySem PySem.W PySem.Calls PyProof.Rows
theorem DK{ns:List Int}(h:Om [M3 (ns.map LD)]=true):∀n∈ns,Ky n≤1048576:=by
 have h1:(M3 (ns.map LD)).layable=true:=by simpa [Om] using h
 have h2:(M3 (ns.map LD)).weight≤1048576:=(PySem.W.layableW_iff.mp h1).2.2
 have key:∀l:List Int,∀n∈l,Ky n≤L5 (l.map LD):=by
  intro l
  induction l with
  | nil=> intro n hn;simp at hn
  | cons x r ih=>
   intro n hn
   have e:L5 ((x::r).map LD)=Ky x+1+L5 (r.map LD):=by
    rw [Jj,L5,OW];rfl
   rw [e]
   rcases Jy.mp hn with z | z
   ·subst z;omega
   ·have:=ih n z;omega
 intro n hn
 have e:(M3 (ns.map LD)).weight=L5 (ns.map LD):=by rw [OW]
 rw [e] at h2
 exact JL (key ns n hn) h2
theorem attach_callB{l:OpenLaw}{n:Nat}{q:Program}{loose:List Str}{XP:(Str→Option Value)→Heap→Prop}{YP:World→Heap→Prop}{d:DefRec}
  (hn:l.most=some n)(hdf:d.params.defaults=[])
  (call:∀(w:World) (s₀ s₁:Shared) (mg mb:Str→Option Value) (fa:Addr) (o:Obj) (pm cd doc:Value) (a:Addr) (vs:List Value) (ns:List Int),
   Ground q loose [] XP w s₀ mg mb s₁.heap→YP w s₁.heap→
   s₁.heap.get? fa=some o→o.data= .func (docDef d.name d.params d.body d.scope pm cd doc)→s₁.heap.CodeRec cd d.name→mg d.name=some (.ref fa)→
   s₁.heap.get? a=some {cls:= .type "list",data:= .seq vs.toArray}→IntsAre vs ns→ns.length≤n→(∀z∈ns,Ky z≤1048576)→s₁.gens=#[]→
   codeAny (model l.prog w) callerA (.call (.ref fa) ⟨[.ref a],[]⟩) (fun r s'=> r= .ok (.ret (.bool true))∧OldK s₁.heap s'.heap∧s'.os=s₁.os∧AllBare s'.gens) s₁):
  WalkO q loose XP YP l.row.toRowW d [] (fun f vs=> OA f vs):=by
 intro w s₀ s₁ mg mb G Y fa o pm cd doc dV kV ho hd hcd hD hmg hg args vals as hpre hlay hrd hwl hlo
 obtain rfl:dV= .none:=Dflts.none hD hdf
 obtain rfl:kV= .none:=Dflts.noKw hD
 obtain⟨a,vs,ns,rfl,rfl,hobj,hints,hlen⟩:=Dw hn hpre hwl
 have hb:∀z∈ns,Ky z≤1048576:=DK hlay
 refine enter_call (codeAny_mono (call w s₀ s₁ mg mb fa o pm cd doc a vs ns G Y ho (fd_plain hd) hcd hmg hobj hints hlen hb hg) fun r s' hq=> ?_)
 obtain⟨rfl,h2,h3,h4⟩:=hq
 exact⟨.inl ⟨.bool true,.bool true,[],rfl,fun _=> rfl,.bool true,Dx l _,fun _=> ⟨OS.nil,fun _ hm=> (nomatch hm)⟩⟩,h2,h3,h4⟩
end Att
namespace L2
open PySem PySem.Spec PyProof.Rows
theorem DL{l:OB}{n k:Nat}{q:Program}{loose:List Str}{XP:(Str→Option Value)→Heap→Prop}{YP:World→Heap→Prop}{d:DefRec}{K:Params→Jd}{CX:World→eB}{sp:World→Sp}{x:Str}
  (hn:l.most=some n)(hn2:n≤sizeLine)(hdf:d.params.defaults=[])(hr:bE k callerA)
  (hY:∀(w:World) (h:Heap),YP w h→(K w.params).In h)
  (F:∀(w:World) (mg:Str→Option Value) (fa:Addr) (h:Heap),(K w.params).In h→h.Ns mainGlobals mg→mg d.name=some (.ref fa)→
   ∃fd:FuncData,(∀(s:Shared) (u:Value),BindsTo s fd ⟨[u],[]⟩ [(x,u)])∧
    ∀base:Heap,(K w.params).In base→base.Ns mainGlobals mg→aK l.prog w (K w.params) mg base (CX w) k fa fd [x] (sp w))
  (hsp:∀(w:World) (H:Hp) (a:Addr) (ns:List Int),ns.length≤n→(∀z∈ns,Ky z≤1048576)→pL H→aP (K w.params) H a (ns.map V.int)→sp w [.ref a] H (fun v _=> v= .bl true) fun _ _ _=> False)
  (hCX:∀(w:World) (H:Hp) (s:Shared) (e:Value) (s':Shared),CX w [] H s (fun _ _ _=> False) e s'→False):
  OM q loose XP YP l.row.toRowW d [] (fun f vs=> OA f vs):=by
 refine Att.attach_callB hn hdf fun w s₀ s₁ mg mb fa o pm cd doc a vs ns G Y ho hd hcd hmg hobj hints hlen hb hg=> ?_
 have KX:=hY w _ Y
 obtain⟨fd,hbi,hF⟩:=F w mg fa _ KX G.T.g hmg
 exact Dy KX G.T.g G.T.b G.T.builtins G.T.nolimit hg hobj hints (JL hlen hn2) hr hF hbi (fun H hO hS=> hsp w H a ns hlen hb hO hS) fun H e s'=> hCX w H s₁ e s'
theorem walk_ofBK{l:OB}{n k:Nat}{q:Program}{loose:List Str}{XP:(Str→Option Value)→Heap→Prop}{YP:World→Heap→Prop}{d:DefRec}{K:Params→Jd}{CX:eB}{sp:Jd→Sp}{x:Str}
  (hn:l.most=some n)(hn2:n≤sizeLine)(hdf:d.params.defaults=[])(hr:bE k callerA)
  (hY:∀(w:World) (h:Heap),YP w h→(K w.params).In h)
  (F:∀(w:World) (mg:Str→Option Value) (fa:Addr) (h:Heap),(K w.params).In h→h.Ns mainGlobals mg→mg d.name=some (.ref fa)→
   ∃fd:FuncData,(∀(s:Shared) (u:Value),BindsTo s fd ⟨[u],[]⟩ [(x,u)])∧
    ∀base:Heap,(K w.params).In base→base.Ns mainGlobals mg→aK l.prog w (K w.params) mg base CX k fa fd [x] (sp (K w.params)))
  (hsp:∀(K:Jd) (H:Hp) (a:Addr) (ns:List Int),ns.length≤n→(∀z∈ns,Ky z≤1048576)→pL H→aP K H a (ns.map V.int)→sp K [.ref a] H (fun v _=> v= .bl true) fun _ _ _=> False)
  (hCX:∀(H:Hp) (s:Shared) (e:Value) (s':Shared),CX [] H s (fun _ _ _=> False) e s'→False):
  OM q loose XP YP l.row.toRowW d [] (fun f vs=> OA f vs):=
 DL (K:=K) (CX:=fun _=> CX) (sp:=fun w=> sp (K w.params)) hn hn2 hdf hr hY F (fun w H a ns h1 hb h2 h3=> hsp (K w.params) H a ns h1 hb h2 h3) fun _ H s e s'=> hCX H s e s'
def kh(p:Addr)(H H':Hp):Prop:=∀b o,H b=some o→b≠p→H' b=some o
theorem ar.new{H:Hp}{p:Addr}{o:HO}(h:H p=none):ar H (ao H p o):=fun b u e=> by rw [aJ (cT e h)];exact e
end L2
namespace L2
open PySem PySem.Spec PyProof.Rows
def FR(J:It)(g:TG)(tb:TS)(D:i3)(σ:St)(H1:Hp):Prop:=∃W:Nat→Nat→St→Hp→Prop,(∃m,W 0 m σ H1)∧∀i m σ H,W i m σ H→
 (J.stop i H∧D.nx σ H)∨(J.go i H∧∃N:St→Hp→Prop,(∀σ' H',N σ' H'→∃m',m' < m∧W (i+1) m' σ' H')∧∀x H',J.yld i H x H'→g x σ H' fun σ2 H2=> tb {D with nx:=N,ct:=N,bk:=D.nx} σ2 H2)
theorem DM{ta:TA}{g:TG}{tb:TS}:lY (ui ta) g tb=fun D σ H=> ta σ H fun vs H1=> ∃j:Int,vs=[.int j]∧-(2 ^ 62)≤j∧j < 2 ^ 62∧FR (gq 0 j.toNat) g tb D σ H1:=rfl
theorem DN{ta:TA}{g:TG}{tb:TS}:lY (uj ta) g tb=fun D σ H=> ta σ H fun vs H1=> ∃i j:Int,vs=[.int i,.int j]∧(-(2 ^ 62)≤i∧i < 2 ^ 62∧-(2 ^ 62)≤j∧j < 2 ^ 62)∧FR (gq i (j - i).toNat) g tb D σ H1:=rfl
theorem DP{K:Jd}{tl:TE}{g:TG}{tb:TS}:lY (ue K tl) g tb=fun D σ H=> tl σ H fun x H1=> ∃a,x= .ref a∧(∃xs,aP K H1 a xs)∧FR (lW K a) g tb D σ H1:=rfl
theorem DQ{K:Jd}{tl:TE}{g:TG}{tb:TS}:lY (uf K tl) g tb=fun D σ H=> tl σ H fun x H1=> ∃a,x= .ref a∧(∃xs,bB K H1 a xs)∧FR (lX K a) g tb D σ H1:=rfl
def jC(J:It)(g:TG)(tc:TT)(te:TE)(k:Nat)(fr:List Nat)(σ:St)(H1:Hp)(Q:VK):Prop:=∀D,H1 D=none→∃W:Nat→Nat→Hp→Prop,(∃m,W 0 m (ao H1 D (.lst [])))∧∀i m H,W i m H→
 (J.stop i H∧Q (.ref D) H)∨(J.go i H∧∀x H',J.yld i H x H'→g x (bO k fr σ) H' fun σ2 H2=> jB (bO k fr σ) σ2∧tc σ2 H2 fun ok H3=>
  if ok=true then te σ2 H3 fun y H4=> ∃ys,H4 D=some (.lst ys)∧ys.length < sizeLine∧∃m',m' < m∧W (i+1) m' (ao H4 D (.lst (ys++[y])))
  else ∃m',m' < m∧W (i+1) m' H3)
theorem DR{ta:TA}{g:TG}{tc:TT}{te:TE}{k:Nat}{fr:List Nat}:ja (ui ta) g tc te k fr=fun σ H Q=> ta σ H fun vs H1=> ∃j:Int,vs=[.int j]∧-(2 ^ 62)≤j∧j < 2 ^ 62∧jC (gq 0 j.toNat) g tc te k fr σ H1 Q:=rfl
theorem DU{ta:TA}{g:TG}{tc:TT}{te:TE}{k:Nat}{fr:List Nat}:ja (uj ta) g tc te k fr=fun σ H Q=> ta σ H fun vs H1=> ∃i j:Int,vs=[.int i,.int j]∧(-(2 ^ 62)≤i∧i < 2 ^ 62∧-(2 ^ 62)≤j∧j < 2 ^ 62)∧jC (gq i (j - i).toNat) g tc te k fr σ H1 Q:=rfl
theorem DV{K:Jd}{tl:TE}{g:TG}{tc:TT}{te:TE}{k:Nat}{fr:List Nat}:ja (ue K tl) g tc te k fr=fun σ H Q=> tl σ H fun x H1=> ∃a,x= .ref a∧(∃xs,aP K H1 a xs)∧jC (lW K a) g tc te k fr σ H1 Q:=rfl
theorem DW{K:Jd}{tl:TE}{g:TG}{tc:TT}{te:TE}{k:Nat}{fr:List Nat}:ja (uf K tl) g tc te k fr=fun σ H Q=> tl σ H fun x H1=> ∃a,x= .ref a∧(∃xs,bB K H1 a xs)∧jC (lX K a) g tc te k fr σ H1 Q:=rfl
theorem yf{fr:List Nat}{σ:St}{v:Option V}:jB (bO 1 fr σ) ((bO 1 fr σ).set 0 v):=by
 refine⟨by simp,fun i w h=> ?_⟩
 cases i with
 | zero=> simp [bO,Jx] at h
 | succ i=> simpa [bO,Jx] using h
theorem DX{lo:Int}{n:Nat}{te:TE}{fr:List Nat}{σ:St}{H:Hp}{Q:VK}(f:Nat→V)(hn:n≤1000000)
  (ht:∀(i:Nat) (H':Hp) (R:VK),i < n→ar H H'→(∀H'',ar H' H''→R (f i) H'')→te ((bO 1 fr σ).set 0 (some (.int (lo+i)))) H' R)
  (hq:∀D H',H D=none→ar H H'→H' D=some (.lst ((Kn n).map f))→Q (.ref D) H'):jC (gq lo n) (gn 0) x6 te 1 fr σ H Q:=by
 intro D hD
 refine⟨fun i m H'=> m=n - i∧i≤n∧ar H H'∧H' D=some (.lst ((Kn i).map f)),⟨n,by simp,Kp _,ar.new hD,by rw [bj];rfl⟩,?_⟩
 rintro i m H1 ⟨rfl,hi,s1,e1⟩
 by_cases hlt:i < n
 ·refine .inr ⟨hlt,fun x H' y=> ?_⟩
  obtain⟨e,y⟩:=y
  subst e y
  refine⟨yf,?_⟩
  show te _ _ _
  refine ht i H' _ hlt s1 fun H2 s2=> ?_
  refine⟨_,s2 D _ e1,?_,n - (i+1),by omega,rfl,hlt,?_,?_⟩
  ·rw [Jf,Mf,sizeLine_eq];omega
  ·exact fun b o h=> by rw [aJ (cT h hD)];exact s2 b o (s1 b o h)
  ·rw [bj,Mt,J6];rfl
 ·have e:i=n:=by omega
  subst e
  exact .inl ⟨Jm _,hq D H1 hD s1 e1⟩
theorem cxK{CX:eB}{P:Program}{w:World}{K:Jd}{mg:Str→Option Value}{base:Heap}{N:List Str}{qual:Str}{scope:Scope}{f:Addr}{cd:Value}{A:Around}{outer:List Env}{s:Shared}{H:Hp}{E:XK}:(hU CX P w K mg base N qual scope f cd A outer s H E).K=K:=rfl
theorem cmK{X:Cx}{scope:Scope}{N':List Str}{fp:List Addr}{C:Addr}{s:Shared}{H:Hp}:(bK X scope N' fp C s H).K=X.K:=rfl
theorem ki{K:Jd}{p:Addr}{xs:List V}{i:Int}{v:V}{H:Hp}{Q:VK}(h:aP K H p xs)(hv:atI xs i=some v)(q:Q v H):pJ K (.ref p) (.int i) H Q:=⟨p,xs,i,v,rfl,rfl,h,hv,q⟩
theorem kj{K:Jd}{p:Addr}{xs:List V}{i:Int}{v:V}{H:Hp}{Q:VK}(h:bB K H p xs)(hv:atI xs i=some v)(q:Q v H):pK K (.ref p) (.int i) H Q:=⟨p,xs,i,v,rfl,rfl,h,hv,q⟩
theorem uG{a b:Int}:(if b < a then b else a)=min a b:=by
 by_cases h:b < a
 ·rw [if_pos h];omega
 ·rw [if_neg h];omega
theorem DY:bootBuiltins "divmod"=some (.builtin "divmod"):=by decide+kernel
theorem jb:bootBuiltins "isinstance"=some (.builtin "isinstance"):=by decide+kernel
theorem mq:bootBuiltins "int"=some (.type "int"):=by decide+kernel
theorem uH:bootBuiltins "bool"=some (.type "bool"):=by decide+kernel
theorem yg:bootBuiltins "str"=some (.type "str"):=by decide+kernel
theorem fL:bootBuiltins "tuple"=some (.type "tuple"):=by decide+kernel
theorem yh:bootBuiltins "dict"=some (.type "dict"):=by decide+kernel
end L2
namespace L2
open PySem PySem.Spec PyProof.Rows PySem.W
section
variable {P:Program} {w:World} {K:Jd} {mg:Str→Option Value} {base:Heap} {N:List Str} {qual:Str} {scope:Scope} {f:Addr} {cd:Value} {A:Around} {outer:List Env} {s:Shared} {H:Hp} {E:XK}
end
section
variable {X:Cx}
end
section
variable {P:Program} {w:World} {K:Jd} {mg:Str→Option Value} {base:Heap}
end
end L2
namespace L2
open PySem PySem.Spec PyProof.Rows PySem.W
section
variable {M:Model} {A:Around} {E:Value→Shared→Prop}
variable {nm q:Str} {C N:Addr} {bs bm:List Value} {hdct:Bool} {sn:List Str} {sub:List Value} {ab:Bool} {col:Option Bool} {dd:Option Addr} {k0 k1 k2 k3 k5:Option Value} {newId:String}
variable {nm' q':Str} {C' N':Addr} {bs' bm':List Value} {hdct':Bool} {sn':List Str} {sub':List Value} {ab':Bool} {col':Option Bool} {dd':Option Addr} {k0' k1' k2' k3' k5':Option Value} {newId':String}
end
section
variable {X:Cx} {pins:List (Addr×Obj)} {σ:St} {H:Hp} {s:Shared}
end
end L2
namespace L2
open PySem PySem.Spec PyProof.Rows PySem.W
section
variable {X:Cx} {pins:List (Addr×Obj)} {σ:St} {H:Hp} {s:Shared}
end
section
variable {X:Cx} {CX:eB} {k:Nat} {f C C':Addr} {fd:FuncData} {ps:List Str} {sp:Sp} {x c n:Str} {p cp ep np hp tp:Pos} {a:Expr} {as:List Expr} {b₀:Stmt} {suite:List Stmt} {t:TA} {i:Nat} {ts:TS}
end
end L2
namespace L2
open PySem PySem.Spec PyProof.Rows
section
variable {X:Cx}
theorem yi{bs:List Bool}{its:List Value}(r:aH (bs.map V.bl) its):its=bs.map Le:=by
 induction bs generalizing its with
 | nil=> cases r;rfl
 | cons b bs ih=>
  rw [Jj] at r
  cases r with
  | cons r1 r2=>
   rw [Jj,←ih r2]
   exact congrArg (·::_) r1
theorem DZ(bs:List Bool)(f:Nat→Bool)(h:∀i,i < bs.length→f i=bs.getD i true):(Kn bs.length).all f=bs.all id:=by
 rw [LC,Lc,Lc]
 constructor
 ·intro z b hb
  obtain⟨i,hi,e⟩:=MA hb
  have:=z i (Mb.mpr hi)
  rw [h i hi,K0,JE hi] at this
  rw [←e];exact this
 ·intro z i hi
  have hi:=Mb.mp hi
  rw [h i hi,K0,JE hi]
  exact z _ (KH hi)
theorem D1(bs:List Bool)(f:Nat→Bool)(h:∀i,i < bs.length→f i=bs.getD i true):(Kn bs.length).any f=bs.any id:=by
 rw [LC,LU,LU]
 constructor
 ·rintro⟨i,hi,z⟩
  have hi:=Mb.mp hi
  rw [h i hi,K0,JE hi] at z
  exact⟨_,KH hi,z⟩
 ·rintro⟨b,hb,z⟩
  obtain⟨i,hi,e⟩:=MA hb
  refine⟨i,Mb.mpr hi,?_⟩
  rw [h i hi,K0,JE hi]
  show bs[i]=true
  rw [e];exact z
theorem yj{bs:List Bool}{i:Nat}{v:Value}(h:(bs.map Le).toArray[i]?=some v):v= .bool (bs.getD i true):=by
 have h':(bs.map Le)[i]?=some v:=by simpa using h
 rw [JB] at h'
 cases e:bs[i]? with
 | none=> rw [e] at h';cases h'
 | some b=>
  rw [e] at h'
  rw [K0,e]
  exact(JW h').symm
theorem yk{prog:Program}{w:World}{A:Around}{E:Value→Shared→Prop}{s:Shared}{l:Addr}{items:Array Value}{Q:Value→Shared→Prop}(hl:s.heap.IsList l items)
  (h:∀s₂:Shared,s₂={s with heap:=s.heap.push {cls:= .type "list_iterator",data:= .fields #[.ref l,.int 0 0]}}→
   (s₂.heap.IsListIter s.heap.objs.size l 0∧s₂.heap.IsList l items)→l≠s.heap.objs.size→Q (.ref s.heap.objs.size) s₂):wpAny (model prog w) A (pyIter (.ref l)) Q E s:=by
 have hlt:l < s.heap.objs.size:=by obtain⟨_,e,_⟩:=hl;exact Jz e
 exact wpAny_pyIter_list hl (h _ rfl ⟨⟨_,JR _ rfl,rfl,rfl⟩,hl.push _⟩ (JJ hlt))
theorem D2(hc:X.calm=true):cP X (.builtin "all") (fun xs H Q=> ∃(a:Addr)(bs:List Bool),xs=[.ref a]∧aP X.K H a (bs.map V.bl)∧Q (.bl (bs.all id)) H):=by
 intro pins s σ H xs us Q I r h
 obtain⟨a,bs,rfl,hl,q⟩:=h
 obtain⟨u,rfl,rx⟩:=cU r
 cases rx
 obtain⟨its,rv,p,hz⟩:=I.list hl
 have hi:=yi rv
 subst hi
 refine call_all_walk (yk p.isList fun s₂ e st hlI=> ?_)
 subst e
 refine⟨_,_,_,_,_,_,fun i=> bs.getD i true,rfl,OC (A:=X.A.in1) (I.ok.hd hc) _ a hlI _,st,fun i v s' Q' E' hP hq=> by rw [yj hP];exact wpAny_truthy_bool hq,fun h' tk hk=> ?_⟩
 have e:=DZ bs (fun i=> bs.getD i true) fun _ _=> rfl
 have e2:(JF Le bs).toArray.size=bs.length:=by simp
 rw [e2,e]
 exact⟨.bl (bs.all id),H,I.kept (old_kept hk),rfl,q⟩
theorem D3(hc:X.calm=true):cP X (.builtin "any") (fun xs H Q=> ∃(a:Addr)(bs:List Bool),xs=[.ref a]∧aP X.K H a (bs.map V.bl)∧Q (.bl (bs.any id)) H):=by
 intro pins s σ H xs us Q I r h
 obtain⟨a,bs,rfl,hl,q⟩:=h
 obtain⟨u,rfl,rx⟩:=cU r
 cases rx
 obtain⟨its,rv,p,hz⟩:=I.list hl
 have hi:=yi rv
 subst hi
 refine call_any_walk (yk p.isList fun s₂ e st hlI=> ?_)
 subst e
 refine⟨_,_,_,_,_,_,fun i=> bs.getD i true,rfl,OC (A:=X.A.in1) (I.ok.hd hc) _ a hlI _,st,fun i v s' Q' E' hP hq=> by rw [yj hP];exact wpAny_truthy_bool hq,fun h' tk hk=> ?_⟩
 have e:=D1 bs (fun i=> bs.getD i true) fun _ _=> rfl
 have e2:(JF Le bs).toArray.size=bs.length:=by simp
 rw [e2,e]
 exact⟨.bl (bs.any id),H,I.kept (old_kept hk),rfl,q⟩
end
end L2
namespace L2
open PySem PySem.Spec PyProof.Rows PySem.W PySem.Calls PySem.Builtin.ObjectAttr PySem.Builtin PySem.Builtin.Getset_descriptor
section
variable {prog:Program} {w:World} {A:Around} {E:Value→Shared→Prop} {s:Shared} {K:Jd} {x C:Addr}
end
section
variable {X:Cx}
end
end L2
namespace L2
open PySem PySem.Spec PyProof.Rows PySem.W
section
variable {X:Cx} {pins:List (Addr×Obj)} {σ:St} {H:Hp} {s:Shared}
end
section
variable {X:Cx}
abbrev cV(d:PyData):Prop:=Ka d=true
end
theorem D4:bootBuiltins "all"=some (.builtin "all"):=by decide+kernel
theorem D5:bootBuiltins "any"=some (.builtin "any"):=by decide+kernel
end L2
namespace L2
open PySem PySem.Spec PyProof.Rows PySem.W
def D6(p:Addr)(h:Heap):Prop:=∃(n:Int)(t:Tok)(k:Nat),h.get? p=some {cls:= .type "list",data:= .seq #[.int n t] k}
abbrev D7(p:Addr):HO:= .ext (D6 p)
abbrev uI:PyData:= .dict [(.none,.none)]
def D8(p:Addr)(h:Heap):Prop:=∃(a b c:Int)(t u v:Tok)(k:Nat),h.get? p=some {cls:= .type "list",data:= .seq #[.int a t,.int b u,.int c v] k}
abbrev fM(p:Addr):HO:= .ext (D8 p)
abbrev fm:PyData:= .dict [(.none,.bool true)]
abbrev eQ(ds:List PyData):PyData:= .dict [(.none,.list ds)]
abbrev jD(C:Addr)(kp ds:List PyData):PyData:= .dict [(.none,.tuple [.int (C:Int),.list kp,.list ds])]
abbrev ym(kp ds:List PyData):PyData:= .dict [(.bool true,.tuple [.list kp,.list ds])]
abbrev Ex:=Addr→Prop
abbrev pN:Hp:=fun _=> none
mutual
inductive Dt (K:Jd) (H:Hp) (O:Ex):V→PyData→Prop
 | non:Dt K H O .non .none
 | bl (b:Bool):Dt K H O (.bl b) (.bool b)
 | int (i:Int):Dt K H O (.int i) (.int i)
 | str (x:Str):Dt K H O (.str x) (.str x)
 | tup {a:Addr} {xs:List V} {ds:List PyData}:Rd H a (.tup xs)→¬O a→ak K H O xs ds→Dt K H O (.ref a) (.tuple ds)
 | tupK {a:Addr} {xs:List V} {ds:List PyData}:bB K pN a xs→ak K H O xs ds→Dt K H O (.ref a) (.tuple ds)
 | lst {a:Addr} {xs:List V} {ds:List PyData}:Rd H a (.lst xs)→¬O a→ak K H O xs ds→Dt K H O (.ref a) (.list ds)
 | pack {p:Addr}:H p=some (D7 p)→¬O p→Dt K H O (.ref p) uI
 | purse {p:Addr}:H p=some (fM p)→¬O p→Dt K H O (.ref p) fm
 | dct0 {a:Addr}:H a=some (.dK [])→¬O a→Dt K H O (.ref a) (.dict [])
 | obj {a C dx:Addr} {fs:List (Str×V)} {kp ds:List PyData}:H a=some (.ins C dx fs)→kp=fs.map (fun p=> Jh p.1)→¬O a→ak K H O (fs.map (·.2)) ds→Dt K H O (.ref a) (jD C kp ds)
 | dic {a:Addr} {ob:Obj} {kv:List (ai×V)} {ks:List Str} {kp ds:List PyData}:H a=some (.frz ob (.dK kv))→kv.map (·.1)=ks.map Ke→kp=ks.map Jh→¬O a→ak K H O (kv.map (·.2)) ds→Dt K H O (.ref a) (ym kp ds)
 | scr {a:Addr} {xs:List V} {ds:List PyData}:(Rd H a (.lst xs)∧¬O a)∨aP K pN a xs→ak K H O xs ds→Dt K H O (.ref a) (eQ ds)
inductive ak (K:Jd) (H:Hp) (O:Ex):List V→List PyData→Prop
 | nil:ak K H O [] []
 | cons {v:V} {d:PyData} {vs:List V} {ds:List PyData}:Dt K H O v d→ak K H O vs ds→ak K H O (v::vs) (d::ds)
end
theorem Rd.same{H H':Hp}{a:Addr}{u:HO}(s:∀o,H a=some o→H' a=some o)(h:Rd H a u):Rd H' a u:=by
 rcases h with h | ⟨o,h⟩
 ·exact .inl (s _ h)
 ·exact .inr ⟨o,s _ h⟩
theorem Rd.trk{H:Hp}{a:Addr}{u:HO}(h:Rd H a u):H a≠none:=by
 rcases h with h | ⟨o,h⟩ <;> rw [h] <;> exact fun z=> nomatch z
section
variable {K:Jd}
structure aR (H H':Hp) (O O':Ex):Prop where
 keep:∀b o,H b=some o→¬O b→H' b=some o
 out:∀b,H b≠none→¬O b→¬O' b
mutual
theorem Dt.step{H H':Hp}{O O':Ex}(S:aR H H' O O'):∀{v:V}{d:PyData},Dt K H O v d→Dt K H' O' v d
 | _,_,.non=> .non
 | _,_,.bl b=> .bl b
 | _,_,.int i=> .int i
 | _,_,.str x=> .str x
 | _,_,.tup h n r=> .tup (h.same fun o e=> S.keep _ o e n) (S.out _ h.trk n) (ak.step S r)
 | _,_,.tupK h r=> .tupK h (ak.step S r)
 | _,_,.lst h n r=> .lst (h.same fun o e=> S.keep _ o e n) (S.out _ h.trk n) (ak.step S r)
 | _,_,.pack h n=> .pack (S.keep _ _ h n) (S.out _ (by rw [h];exact fun z=> nomatch z) n)
 | _,_,.purse h n=> .purse (S.keep _ _ h n) (S.out _ (by rw [h];exact fun z=> nomatch z) n)
 | _,_,.dct0 h n=> .dct0 (S.keep _ _ h n) (S.out _ (by rw [h];exact fun z=> nomatch z) n)
 | _,_,.obj h e n r=> .obj (S.keep _ _ h n) e (S.out _ (by rw [h];exact fun z=> nomatch z) n) (ak.step S r)
 | _,_,.dic h e1 e2 n r=> .dic (S.keep _ _ h n) e1 e2 (S.out _ (by rw [h];exact fun z=> nomatch z) n) (ak.step S r)
 | _,_,.scr h r=> .scr (h.imp (fun h=> ⟨h.1.same fun o e=> S.keep _ o e h.2,S.out _ h.1.trk h.2⟩) id) (ak.step S r)
theorem ak.step{H H':Hp}{O O':Ex}(S:aR H H' O O'):∀{vs:List V}{ds:List PyData},ak K H O vs ds→ak K H' O' vs ds
 | _,_,.nil=> .nil
 | _,_,.cons h r=> .cons (Dt.step S h) (ak.step S r)
end
theorem aR.same{H H':Hp}{O:Ex}(s:ar H H'):aR H H' O O:=⟨fun b o e _=> s b o e,fun _ _ n=> n⟩
theorem Dt.mono{H H':Hp}{O:Ex}{v:V}{d:PyData}(s:ar H H')(h:Dt K H O v d):Dt K H' O v d:=h.step (.same s)
theorem ak.mono{H H':Hp}{O:Ex}{v:List V}{d:List PyData}(s:ar H H')(h:ak K H O v d):ak K H' O v d:=h.step (.same s)
theorem ak.length{H:Hp}{O:Ex}:∀{vs:List V}{ds:List PyData},ak K H O vs ds→vs.length=ds.length
 | _,_,.nil=> rfl
 | _,_,.cons _ r=> by rw [JC,JC,ak.length r]
theorem ak.get{H:Hp}{O:Ex}:∀{vs:List V}{ds:List PyData}{i:Nat}{v:V},ak K H O vs ds→vs[i]?=some v→∃d,ds[i]?=some d∧Dt K H O v d
 | _,_,_,_,.nil,e=> by simp at e
 | _,_,0,_,.cons h _,e=> by simp at e;subst e;exact⟨_,rfl,h⟩
 | _,_,i+1,_,.cons _ r,e=> by simpa using ak.get (i:=i) r (by simpa using e)
theorem ak.getD{H:Hp}{O:Ex}:∀{vs:List V}{ds:List PyData}{i:Nat}{d:PyData},ak K H O vs ds→ds[i]?=some d→∃v,vs[i]?=some v∧Dt K H O v d
 | _,_,_,_,.nil,e=> by simp at e
 | _,_,0,_,.cons h _,e=> by simp at e;subst e;exact⟨_,rfl,h⟩
 | _,_,i+1,_,.cons _ r,e=> by simpa using ak.getD (i:=i) r (by simpa using e)
theorem ak.append{H:Hp}{O:Ex}:∀{vs ws:List V}{ds es:List PyData},ak K H O vs ds→ak K H O ws es→ak K H O (vs++ws) (ds++es)
 | _,_,_,_,.nil,s=> s
 | _,_,_,_,.cons h r,s=> .cons h (ak.append r s)
theorem ak.take{H:Hp}{O:Ex}:∀{vs:List V}{ds:List PyData}(n:Nat),ak K H O vs ds→ak K H O (vs.take n) (ds.take n)
 | _,_,0,_=> .nil
 | _,_,_+1,.nil=> .nil
 | _,_,n+1,.cons h r=> .cons h (ak.take n r)
theorem ak.drop{H:Hp}{O:Ex}:∀{vs:List V}{ds:List PyData}(n:Nat),ak K H O vs ds→ak K H O (vs.drop n) (ds.drop n)
 | _,_,0,r=> r
 | _,_,_+1,.nil=> .nil
 | _,_,n+1,.cons _ r=> ak.drop n r
theorem ak.ints{H:Hp}{O:Ex}:∀(ns:List Int),ak K H O (ns.map V.int) (ns.map Jg)
 | []=> .nil
 | n::r=> .cons (.int n) (ak.ints r)
inductive Sh (K:Jd) (H:Hp) (O:Ex):V→PyData→Prop
 | dt {v:V} {d:PyData}:Dt K H O v d→Sh K H O v d
 | own {l:Addr} {vs:List V} {ds:List PyData}:H l=some (.lst vs)→ak K H O vs ds→Sh K H O (.ref l) (.list ds)
theorem Sh.mono{H H':Hp}{O:Ex}{v:V}{d:PyData}(s:ar H H'):Sh K H O v d→Sh K H' O v d
 | .dt h=> .dt (h.mono s)
 | .own h r=> .own (s _ _ h) (r.mono s)
theorem Dt.all{H:Hp}{O:Ex}{v:V}{d:PyData}(h:Dt K H O v d):Dt K H (fun _=> False) v d:=h.step ⟨fun _ _ e _=> e,fun _ _ _ z=> z⟩
theorem ak.all{H:Hp}{O:Ex}{v:List V}{d:List PyData}(h:ak K H O v d):ak K H (fun _=> False) v d:=h.step ⟨fun _ _ e _=> e,fun _ _ _ z=> z⟩
theorem Sh.all{H:Hp}{O:Ex}{v:V}{d:PyData}:Sh K H O v d→Dt K H (fun _=> False) v d
 | .dt h=> h.all
 | .own h r=> .lst (.inl h) (fun z=> z) r.all
theorem bB.of0{H:Hp}{a:Addr}{xs:List V}(h:bB K pN a xs):bB K H a xs:=by
 rcases h with(h | ⟨o,h⟩) | h
 ·cases h
 ·cases h
 ·exact .inr h
theorem aP.of0{H:Hp}{a:Addr}{xs:List V}(h:aP K pN a xs):aP K H a xs:=by
 rcases h with(h | ⟨o,h⟩) | h
 ·cases h
 ·cases h
 ·exact .inr h
theorem Sh.tup{H:Hp}{O:Ex}{v:V}{ds:List PyData}(h:Sh K H O v (.tuple ds)):∃a xs,v= .ref a∧bB K H a xs∧ak K H O xs ds:=by
 cases h with
 | dt h=>
  cases h with
  | tup h _ r=> exact⟨_,_,rfl,.inl h,r⟩
  | tupK h r=> exact⟨_,_,rfl,h.of0,r⟩
theorem Sh.lstR{H:Hp}{O:Ex}{v:V}{ds:List PyData}(h:Sh K H O v (.list ds)):∃a xs,v= .ref a∧Rd H a (.lst xs)∧ak K H O xs ds:=by
 cases h with
 | dt h=>
  cases h with
  | lst h _ r=> exact⟨_,_,rfl,h,r⟩
 | own h r=> exact⟨_,_,rfl,.inl h,r⟩
theorem Sh.lst{H:Hp}{O:Ex}{v:V}{ds:List PyData}(h:Sh K H O v (.list ds)):∃a xs,v= .ref a∧aP K H a xs∧ak K H O xs ds:=by
 obtain⟨a,xs,e,h,r⟩:=h.lstR
 exact⟨a,xs,e,.inl h,r⟩
theorem Sh.scr{H:Hp}{O:Ex}{v:V}{ds:List PyData}(h:Sh K H O v (eQ ds)):∃a xs,v= .ref a∧aP K H a xs∧ak K H O xs ds:=by
 cases h with
 | dt h=>
  cases h with
  | scr h r=>
   rcases h with h | h
   ·exact⟨_,_,rfl,.inl h.1,r⟩
   ·exact⟨_,_,rfl,h.of0,r⟩
theorem Sh.int{H:Hp}{O:Ex}{v:V}{i:Int}(h:Sh K H O v (.int i)):v= .int i:=by cases h with | dt h=> cases h;rfl
theorem Sh.bl{H:Hp}{O:Ex}{v:V}{i:Bool}(h:Sh K H O v (.bool i)):v= .bl i:=by cases h with | dt h=> cases h;rfl
theorem Sh.str{H:Hp}{O:Ex}{v:V}{i:Str}(h:Sh K H O v (.str i)):v= .str i:=by cases h with | dt h=> cases h;rfl
theorem Sh.non{H:Hp}{O:Ex}{v:V}(h:Sh K H O v .none):v= .non:=by cases h with | dt h=> cases h;rfl
def jE:PyData→Bool
 | .none | .bool _ | .int _ | .str _=> true
 | _=> false
end
section
variable {X:Cx} {pins:List (Addr×Obj)} {σ:St} {H:Hp} {s:Shared}
mutual
theorem fN(I:af X pins σ H s){O:Ex}:∀{v:V}{d:PyData}{u:Value},Dt X.K H O v d→d.canLay0=true→aG v u→∃as,Reads s.heap u d as
 | _,_,_,.non,_,r=> by cases r;exact⟨_,Reads.none⟩
 | _,_,_,.bl b,_,r=> by cases r;exact⟨_,Reads.bool b⟩
 | _,_,_,.int i,_,r=> by obtain⟨t,rfl⟩:=r;exact⟨_,Reads.int i t⟩
 | _,_,_,.str x,_,r=> by obtain⟨t,rfl⟩:=r;exact⟨_,Reads.str x t⟩
 | _,_,_,.tup h _ hs,c,r=> by
  cases r
  obtain⟨its,rv,⟨o,e,c',n,dd⟩,_⟩:=I.tuple (.inl h)
  obtain⟨as,q⟩:=pO I hs (by simpa [JN] using c) rv
  exact⟨as,reads_tuple_at e c' dd (by simpa using q)⟩
 | _,_,_,.tupK h hs,c,r=> by
  cases r
  obtain⟨its,rv,⟨o,e,c',n,dd⟩,_⟩:=I.tuple h.of0
  obtain⟨as,q⟩:=pO I hs (by simpa [JN] using c) rv
  exact⟨as,reads_tuple_at e c' dd (by simpa using q)⟩
 | _,_,_,.lst h _ hs,c,r=> by
  cases r
  obtain⟨its,rv,⟨o,n,e,c',_,dd⟩,_⟩:=I.list (.inl h)
  obtain⟨as,q⟩:=pO I hs (by simpa [JN] using c) rv
  exact⟨_,reads_list_at e c' dd (by simpa using q)⟩
 | _,_,_,.pack _ _,c,_=> by simp [JN] at c
 | _,_,_,.purse _ _,c,_=> by simp [JN] at c
 | _,_,_,.dct0 _ _,c,_=> by simp [JN] at c
 | _,_,_,.obj _ _ _ _,c,_=> by simp [JN] at c
 | _,_,_,.dic _ _ _ _ _,c,_=> by simp [JN] at c
 | _,_,_,.scr _ _,c,_=> by simp [JN] at c
theorem pO(I:af X pins σ H s){O:Ex}:∀{vs:List V}{ds:List PyData}{us:List Value},ak X.K H O vs ds→Ku ds=true→aH vs us→∃as,ReadsAll s.heap us ds as
 | _,_,_,.nil,_,r=> by cases r;exact⟨_,ReadsAll.nil⟩
 | _,_,_,.cons h hs,c,r=> by
  rw [Ku,Kh] at c
  cases r with
  | cons r1 r2=>
   obtain⟨as,q⟩:=fN I h c.1 r1
   obtain⟨bs,p⟩:=pO I hs c.2 r2
   exact⟨_,ReadsAll.cons q p⟩
end
end
end L2
namespace L2
open PySem PySem.Spec PyProof.Rows PySem.W
inductive Sl where
 | v (d:PyData)
 | o (ds:List PyData)
 | k (kd:List (ai×PyData))
 | i (l C:Addr) (fd:List (Str×PyData))
abbrev Dl:=List (Option Sl)
inductive bC (K:Jd) (H:Hp) (O:Ex):List (ai×V)→List (ai×PyData)→Prop
 | nil:bC K H O [] []
 | cons {k:ai} {v:V} {d:PyData} {r:List (ai×V)} {s:List (ai×PyData)}:Dt K H O v d→bC K H O r s→bC K H O ((k,v)::r) ((k,d)::s)
theorem bC.step{K:Jd}{H H':Hp}{O O':Ex}(S:aR H H' O O'){r:List (ai×V)}{s:List (ai×PyData)}(h:bC K H O r s):bC K H' O' r s:=by
 induction h with
 | nil=> exact .nil
 | cons a _ ih=> exact .cons (a.step S) ih
theorem bC.mono{K:Jd}{H H':Hp}{O:Ex}(S:ar H H'){r:List (ai×V)}{s:List (ai×PyData)}(h:bC K H O r s):bC K H' O r s:=h.step (.same S)
def kl(K:Jd)(H:Hp)(O:Ex)(fs:List (Str×V))(fd:List (Str×PyData)):Prop:=fs.map (·.1)=fd.map (·.1)∧ak K H O (fs.map (·.2)) (fd.map (·.2))
def Sl.own:Sl→Prop
 | .v _=> False
 | _=> True
def hX(K:Jd)(H:Hp)(O0 O:Ex)(x:Option V):Option Sl→Prop
 | none=> True
 | some (.v d)=> ∃v,x=some v∧Dt K H O v d
 | some (.o ds)=> ∃l vs,x=some (.ref l)∧O l∧¬O0 l∧H l=some (.lst vs)∧ak K H O vs ds
 | some (.k kd)=> ∃l kv,x=some (.ref l)∧O l∧¬O0 l∧H l=some (.dK kv)∧bC K H O kv kd
 | some (.i l C fd)=> ∃dx fs,x=some (.ref l)∧O l∧¬O0 l∧H l=some (.ins C dx fs)∧kl K H O fs fd
structure Wd (K:Jd) (H0:Hp) (O0:Ex) (H:Hp) (O:Ex) (σ:St) (δ:Dl):Prop where
 same:ar H0 H
 sub:∀l,O0 l→O l
 new:∀l,O l→O0 l∨H0 l=none
 trk:∀l,O l→H l≠none
 len:σ.length=δ.length
 sl:∀(i:Nat) y,δ[i]?=some y→hX K H O0 O ((σ[i]?).join) y
 dis:∀(i j:Nat) y z l,δ[i]?=some (some y)→y.own→δ[j]?=some (some z)→z.own→σ[i]?=some (some (.ref l))→σ[j]?=some (some (.ref l))→i=j
section
variable {K:Jd} {H0 H H':Hp} {O0 O:Ex} {σ:St} {δ:Dl}
theorem hX.mono{x:Option V}{y:Option Sl}(s:ar H H')(h:hX K H O0 O x y):hX K H' O0 O x y:=by
 match y,h with
 | none,_=> exact Ko
 | some (.v d),⟨v,e,r⟩=> exact⟨v,e,r.mono s⟩
 | some (.o ds),⟨l,vs,e,a,b,c,r⟩=> exact⟨l,vs,e,a,b,s _ _ c,r.mono s⟩
 | some (.k ds),⟨l,vs,e,a,b,c,r⟩=> exact⟨l,vs,e,a,b,s _ _ c,r.mono s⟩
 | some (.i l C ds),⟨dx,vs,e,a,b,c,r1,r2⟩=> exact⟨dx,vs,e,a,b,s _ _ c,r1,r2.mono s⟩
theorem hX.go{O':Ex}{x:Option V}{y:Option Sl}(h:hX K H O0 O x y)(S:aR H H' O O')(kp:∀l o,y.any (fun z=> match z with | .v _=> false | _=> true)=true→x=some (.ref l)→O l→¬O0 l→H l=some o→O' l∧H' l=some o):hX K H' O0 O' x y:=by
 match y,h with
 | none,_=> exact Ko
 | some (.v d),⟨v,e,r⟩=> exact⟨v,e,r.step S⟩
 | some (.o ds),⟨l,vs,e,a,b,c,r⟩=> exact⟨l,vs,e,(kp l _ rfl e a b c).1,b,(kp l _ rfl e a b c).2,r.step S⟩
 | some (.k ds),⟨l,vs,e,a,b,c,r⟩=> exact⟨l,vs,e,(kp l _ rfl e a b c).1,b,(kp l _ rfl e a b c).2,r.step S⟩
 | some (.i l C ds),⟨dx,vs,e,a,b,c,r1,r2⟩=> exact⟨dx,vs,e,(kp l _ rfl e a b c).1,b,(kp l _ rfl e a b c).2,r1,r2.step S⟩
theorem Wd.mono(s:ar H H')(w:Wd K H0 O0 H O σ δ):Wd K H0 O0 H' O σ δ:=
 ⟨w.same.trans s,w.sub,w.new,fun l h z=> (by
  cases e:H l with
  | none=> exact w.trk l h e
  | some o=> rw [s _ _ e] at z;cases z),w.len,fun i y e=> (w.sl i y e).mono s,w.dis⟩
theorem km{i:Nat}{v:V}(h:(σ[i]?).join=some v):σ[i]?=some (some v):=by
 cases q:σ[i]? with
 | none=> rw [q] at h;cases h
 | some o=> rw [q] at h;rw [show o=some v from h]
theorem Wd.val(w:Wd K H0 O0 H O σ δ){i:Nat}{d:PyData}(e:δ[i]?=some (some (.v d))):∃v,σ[i]?=some (some v)∧Dt K H O v d:=by
 obtain⟨v,h,r⟩:=w.sl i _ e
 exact⟨v,km h,r⟩
theorem Wd.own(w:Wd K H0 O0 H O σ δ){i:Nat}{ds:List PyData}(e:δ[i]?=some (some (.o ds))):∃l vs,σ[i]?=some (some (.ref l))∧O l∧¬O0 l∧H l=some (.lst vs)∧ak K H O vs ds:=by
 obtain⟨l,vs,h,r⟩:=w.sl i _ e
 exact⟨l,vs,km h,r⟩
theorem Wd.ownK(w:Wd K H0 O0 H O σ δ){i:Nat}{kd:List (ai×PyData)}(e:δ[i]?=some (some (.k kd))):∃l kv,σ[i]?=some (some (.ref l))∧O l∧¬O0 l∧H l=some (.dK kv)∧bC K H O kv kd:=by
 obtain⟨l,vs,h,r⟩:=w.sl i _ e
 exact⟨l,vs,km h,r⟩
theorem Wd.ownI(w:Wd K H0 O0 H O σ δ){i:Nat}{l C:Addr}{fd:List (Str×PyData)}(e:δ[i]?=some (some (.i l C fd))):∃dx fs,σ[i]?=some (some (.ref l))∧O l∧¬O0 l∧H l=some (.ins C dx fs)∧kl K H O fs fd:=by
 obtain⟨dx,vs,h,r⟩:=w.sl i _ e
 exact⟨dx,vs,km h,r⟩
theorem Wd.adr(w:Wd K H0 O0 H O σ δ){i:Nat}{y:Sl}(e:δ[i]?=some (some y))(h:y.own):∃l,σ[i]?=some (some (.ref l))∧O l∧¬O0 l:=by
 match y,h,e with
 | .o ds,_,e=> obtain⟨l,vs,a,b,c,_⟩:=w.own e;exact⟨l,a,b,c⟩
 | .k ds,_,e=> obtain⟨l,vs,a,b,c,_⟩:=w.ownK e;exact⟨l,a,b,c⟩
 | .i l C ds,_,e=> obtain⟨dx,vs,a,b,c,_⟩:=w.ownI e;exact⟨l,a,b,c⟩
theorem Wd.set(w:Wd K H0 O0 H O σ δ){i:Nat}{v:V}{d:PyData}(h:Dt K H O v d):Wd K H0 O0 H O (σ.set i (some v)) (δ.set i (some (.v d))):=by
 refine⟨w.same,w.sub,w.new,w.trk,by simp [w.len],fun j y e=> ?_,fun j k y z l e1 y1 e2 z2 e3 e4=> ?_⟩
 ·by_cases hj:j=i
  ·subst hj
   have hl:j < δ.length:=by
    have:=(Jr.mp e).1;simpa using this
   rw [JT hl] at e
   cases e
   rw [JT (by rw [w.len];exact hl)]
   exact⟨v,rfl,h⟩
  ·rw [JI (Ne.symm hj)] at e⊢
   exact w.sl j y e
 ·have ne:∀{j:Nat}{y:Sl},(δ.set i (some (.v d)))[j]?=some (some y)→y.own→j≠i:=fun{j y} e ho z=> by
   subst z
   by_cases hl:j < δ.length
   ·rw [JT hl] at e;cases e;exact ho
   ·rw [Lh (by simpa using hl)] at e;cases e
  have n1:=ne e1 y1;have n2:=ne e2 z2
  rw [JI (Ne.symm n1)] at e1 e3
  rw [JI (Ne.symm n2)] at e2 e4
  exact w.dis j k y z l e1 y1 e2 z2 e3 e4
theorem Wd.setY(w:Wd K H0 O0 H O σ δ){i:Nat}{p:Addr}{ho:HO}{y0:Sl}(hy:y0.own)(hp:H p=none)(h:∀O',aR H (ao H p ho) O O'→O' p→¬O0 p→hX K (ao H p ho) O0 O' (some (.ref p)) (some y0)):
  Wd K H0 O0 (ao H p ho) (fun l=> O l∨l=p) (σ.set i (some (.ref p))) (δ.set i (some y0)):=by
 have sm:ar H (ao H p ho):=ar.new hp
 have np:∀l,O l→l≠p:=fun l hl z=> w.trk l hl (by rw [z];exact hp)
 have p0:H0 p=none:=by
  cases e:H0 p with
  | none=> rfl
  | some o=> rw [w.same _ _ e] at hp;cases hp
 have S:aR H (ao H p ho) O (fun l=> O l∨l=p):=⟨fun b o e _=> sm b o e,fun b hb hn z=> z.elim hn fun q=> hb (by rw [q];exact hp)⟩
 have n0:¬O0 p:=fun z=> np p (w.sub p z) rfl
 refine⟨w.same.trans sm,fun l z=> .inl (w.sub l z),fun l z=> z.elim (w.new l) fun q=> .inr (by rw [q];exact p0),fun l z=> ?_,by simp [w.len],fun j y e=> ?_,fun j k y z l e1 y1 e2 z2 e3 e4=> ?_⟩
 ·by_cases q:l=p
  ·rw [q,bj];exact fun z=> nomatch z
  ·rw [aJ q];exact w.trk l (z.resolve_right q)
 ·by_cases hj:j=i
  ·subst hj
   have hl:j < δ.length:=by
    have:=(Jr.mp e).1;simpa using this
   rw [JT hl] at e
   cases e
   rw [JT (by rw [w.len];exact hl)]
   exact h _ S (.inr rfl) n0
  ·rw [JI (Ne.symm hj)] at e⊢
   exact(w.sl j y e).go S fun l o _ _ a _ c=> ⟨.inl a,sm _ _ c⟩
 ·by_cases hj:j=i
  ·by_cases hk:k=i
   ·rw [hj,hk]
   ·exfalso
    rw [hj] at e1 e3
    have hl:i < σ.length:=by
     have:=(Jr.mp e3).1;simpa using this
    rw [JT hl] at e3
    cases e3
    rw [JI (Ne.symm hk)] at e2 e4
    obtain⟨l',x1,x2,_⟩:=w.adr e2 z2
    rw [e4] at x1;cases x1
    exact np _ x2 rfl
  ·by_cases hk:k=i
   ·exfalso
    rw [hk] at e2 e4
    have hl:i < σ.length:=by
     have:=(Jr.mp e4).1;simpa using this
    rw [JT hl] at e4
    cases e4
    rw [JI (Ne.symm hj)] at e1 e3
    obtain⟨l',x1,x2,_⟩:=w.adr e1 y1
    rw [e3] at x1;cases x1
    exact np _ x2 rfl
   ·rw [JI (Ne.symm hj)] at e1 e3
    rw [JI (Ne.symm hk)] at e2 e4
    exact w.dis j k _ _ l e1 y1 e2 z2 e3 e4
theorem Wd.setO(w:Wd K H0 O0 H O σ δ){i:Nat}{p:Addr}{vs:List V}{ds:List PyData}(hp:H p=none)(h:ak K H O vs ds):
  Wd K H0 O0 (ao H p (.lst vs)) (fun l=> O l∨l=p) (σ.set i (some (.ref p))) (δ.set i (some (.o ds))):=
 w.setY trivial hp fun O' S a b=> ⟨p,vs,rfl,a,b,bj,h.step S⟩
theorem Wd.setK(w:Wd K H0 O0 H O σ δ){i:Nat}{p:Addr}{kv:List (ai×V)}{kd:List (ai×PyData)}(hp:H p=none)(h:bC K H O kv kd):
  Wd K H0 O0 (ao H p (.dK kv)) (fun l=> O l∨l=p) (σ.set i (some (.ref p))) (δ.set i (some (.k kd))):=
 w.setY trivial hp fun O' S a b=> ⟨p,kv,rfl,a,b,bj,h.step S⟩
theorem Wd.putY(w:Wd K H0 O0 H O σ δ){i:Nat}{l:Addr}{ho:HO}{y0 y1:Sl}(h0:y0.own)(h1:y1.own)(e:δ[i]?=some (some y0))(hl:σ[i]?=some (some (.ref l)))(h:aR H (ao H l ho) O O→O l→¬O0 l→hX K (ao H l ho) O0 O (some (.ref l)) (some y1)):
  Wd K H0 O0 (ao H l ho) O σ (δ.set i (some y1)):=by
 obtain⟨l',x1,x2,x3⟩:=w.adr e h0
 rw [hl] at x1;cases x1
 have l0:H0 l=none:=(w.new l x2).resolve_left x3
 have S:aR H (ao H l ho) O O:=⟨fun b o q n=> by rw [aJ (fun z=> n (by rw [z];exact x2))];exact q,fun _ _ n=> n⟩
 have li:i < δ.length:=(Jr.mp e).1
 refine⟨fun b o q=> by rw [aJ (fun z=> by rw [z,l0] at q;cases q)];exact w.same b o q,w.sub,w.new,fun b z=> ?_,by simp [w.len],fun j y q=> ?_,fun j k y z b e1 y1' e2 z2 e3 e4=> ?_⟩
 ·by_cases q:b=l
  ·rw [q,bj];exact fun z=> nomatch z
  ·rw [aJ q];exact w.trk b z
 ·by_cases hj:j=i
  ·subst hj
   rw [JT li] at q
   cases q
   rw [hl]
   exact h S x2 x3
  ·rw [JI (Ne.symm hj)] at q
   refine(w.sl j y q).go S fun b o ho' e' a1 a2 a3=> ⟨a1,?_⟩
   have nb:b≠l:=fun z=> by
    subst z
    match y,ho',q with
    | some z,ho',q=> exact hj (w.dis j i z y0 b q (by cases z <;> first | trivial | cases ho') e h0 (km e') hl)
   rw [aJ nb];exact a3
 ·have gA:∀{j:Nat}{y:Sl},(δ.set i (some y1))[j]?=some (some y)→y.own→∃y',δ[j]?=some (some y')∧y'.own:=fun{j y} q hq=> by
   by_cases hj:j=i
   ·subst hj;exact⟨_,e,h0⟩
   ·rw [JI (Ne.symm hj)] at q;exact⟨_,q,hq⟩
  obtain⟨_,q1,r1⟩:=gA e1 y1'
  obtain⟨_,q2,r2⟩:=gA e2 z2
  exact w.dis j k _ _ b q1 r1 q2 r2 e3 e4
theorem Wd.putO(w:Wd K H0 O0 H O σ δ){i:Nat}{l:Addr}{vs us:List V}{ds es:List PyData}(e:δ[i]?=some (some (.o ds)))(hl:σ[i]?=some (some (.ref l)))(h:ak K H O us es):
  Wd K H0 O0 (ao H l (.lst us)) O σ (δ.set i (some (.o es))):=
 w.putY (y0:= .o ds) (y1:= .o es) trivial trivial e hl fun S a b=> ⟨l,us,rfl,a,b,bj,h.step S⟩
theorem Wd.putK(w:Wd K H0 O0 H O σ δ){i:Nat}{l:Addr}{kv:List (ai×V)}{kd kd':List (ai×PyData)}(e:δ[i]?=some (some (.k kd)))(hl:σ[i]?=some (some (.ref l)))(h:bC K H O kv kd'):
  Wd K H0 O0 (ao H l (.dK kv)) O σ (δ.set i (some (.k kd'))):=
 w.putY (y0:= .k kd) (y1:= .k kd') trivial trivial e hl fun S a b=> ⟨l,kv,rfl,a,b,bj,h.step S⟩
end
abbrev DT:=Dl→(PyData→Prop)→Prop
abbrev DA:=Dl→(List PyData→Prop)→Prop
abbrev DB:=Dl→(Bool→Prop)→Prop
structure jc where
 nx:Dl→Prop
 rt:PyData→Prop
 bk:Dl→Prop:=fun _=> False
 ct:Dl→Prop:=fun _=> False
abbrev DS:=jc→Dl→Prop
section
variable (K:Jd) (H0:Hp) (O0:Ex)
def up(t:DT):TE:=fun σ H R=> ∃O δ Qd,Wd K H0 O0 H O σ δ∧t δ Qd∧∀d v H',Qd d→ar H H'→Dt K H' O v d→R v H'
def uJ(t:DT):TE:=fun σ H R=> ∃O δ Qd,Wd K H0 O0 H O σ δ∧t δ Qd∧∀d v H',Qd d→ar H H'→Sh K H' O v d→R v H'
def fO(t:DA):TA:=fun σ H R=> ∃O δ Qd,Wd K H0 O0 H O σ δ∧t δ Qd∧∀ds vs H',Qd ds→ar H H'→ak K H' O vs ds→R vs H'
def cg(t:DB):TT:=fun σ H R=> ∃O δ Qd,Wd K H0 O0 H O σ δ∧t δ Qd∧∀b H',Qd b→ar H H'→R b H'
def bI(t:DS):TS:=fun D σ H=> ∃O δ E,Wd K H0 O0 H O σ δ∧t E δ∧(∀O' δ' σ' H',E.nx δ'→Wd K H0 O0 H' O' σ' δ'→aR H H' O O'→D.nx σ' H')∧(∀d v H',E.rt d→ar H0 H'→Dt K H' O0 v d→D.rt v H')∧
 (∀O' δ' σ' H',E.bk δ'→Wd K H0 O0 H' O' σ' δ'→aR H H' O O'→D.bk σ' H')∧(∀O' δ' σ' H',E.ct δ'→Wd K H0 O0 H' O' σ' δ'→aR H H' O O'→D.ct σ' H')
end
theorem PE.imp{X:Cx}{e:Expr}{t u:TE}(h:PE X e t)(i:∀σ H Q,u σ H Q→t σ H Q):PE X e u:=fun pins s σ H Q I z=> h pins s σ H Q I (i σ H Q z)
theorem PT.imp{X:Cx}{e:Expr}{t u:TT}(h:PT X e t)(i:∀σ H Q,u σ H Q→t σ H Q):PT X e u:=fun pins s σ H Q I z=> h pins s σ H Q I (i σ H Q z)
theorem PW.imp{X:Cx}{e:Expr}{t u:TT}(h:PW X e t)(i:∀σ H Q,u σ H Q→t σ H Q):PW X e u:=fun wh pins s σ H Q I z=> h wh pins s σ H Q I (i σ H Q z)
theorem PA.imp{X:Cx}{e:List Expr}{t u:TA}(h:PA X e t)(i:∀σ H Q,u σ H Q→t σ H Q):PA X e u:=fun pos pins s σ H Q I z=> h pos pins s σ H Q I (i σ H Q z)
theorem PS.imp{X:Cx}{e:Stmt}{t u:TS}(h:PS X e t)(i:∀D σ H,u D σ H→t D σ H):PS X e u:=fun pins s σ H D I z=> h pins s σ H D I (i D σ H z)
theorem bM.imp{X:Cx}{e:List Stmt}{t u:TS}(h:bM X e t)(i:∀D σ H,u D σ H→t D σ H):bM X e u:=fun pins s σ H D I z=> h pins s σ H D I (i D σ H z)
section
variable {X:Cx} {H0:Hp} {O0:Ex}
abbrev DE(X:Cx)(H0:Hp)(O0:Ex)(e:Expr)(t:DT):Prop:=PE X e (up X.K H0 O0 t)
abbrev DF(X:Cx)(H0:Hp)(O0:Ex)(e:Expr)(t:DT):Prop:=PE X e (uJ X.K H0 O0 t)
theorem df{e:Expr}{t:DT}(h:DE X H0 O0 e t):DF X H0 O0 e t:=h.imp fun σ H Q uu63=> by obtain⟨O,δ,Qd,w,q,k⟩:=uu63;exact⟨O,δ,Qd,w,q,fun d v H' a b c=> k d v H' a b (.dt c)⟩
def dH(i:Nat):DT:=fun δ Q=> ∃d,δ[i]?=some (some (.v d))∧Q d
def mr(i:Nat):DT:=fun δ Q=> ∃ds,δ[i]?=some (some (.o ds))∧Q (.list ds)
def dC(d:PyData):DT:=fun _ Q=> Q d
theorem dv(i:Nat){x:Str}{pos:Pos}(hN:X.N[i]?=some x:=by rfl)(hv:lS X.env.scope x:=by first | exact NC rfl | exact Ms (NC rfl) | exact Ms (Ms rfl))
  (hd:(x==("__debug__":Str))=false:=by decide)(hcd:(x==("__classdict__":Str))=false:=by decide):DE X H0 O0 (.Name x pos) (dH i):=
 (t6 hN hv hd hcd).imp fun σ H Q uu64=> by
  obtain⟨O,δ,Qd,w,⟨d,e,q⟩,k⟩:=uu64
  obtain⟨v,h,r⟩:=w.val e
  exact⟨v,h,k d v H q (ar.refl _) r⟩
theorem dw(i:Nat){x:Str}{pos:Pos}(hN:X.N[i]?=some x:=by rfl)(hv:lS X.env.scope x:=by first | exact NC rfl | exact Ms (NC rfl) | exact Ms (Ms rfl))
  (hd:(x==("__debug__":Str))=false:=by decide)(hcd:(x==("__classdict__":Str))=false:=by decide):DF X H0 O0 (.Name x pos) (mr i):=
 (t6 hN hv hd hcd).imp fun σ H Q uu65=> by
  obtain⟨O,δ,Qd,w,⟨ds,e,q⟩,k⟩:=uu65
  obtain⟨l,vs,h,_,_,r,rs⟩:=w.own e
  exact⟨_,h,k _ _ H q (ar.refl _) (.own r rs)⟩
theorem dc{e:Expr}{v:V}{d:PyData}(h:PE X e (tC v))(r:∀H O,Dt X.K H O v d):DE X H0 O0 e (dC d):=h.imp fun σ H Q uu66=> by obtain⟨O,δ,Qd,w,q,k⟩:=uu66;exact k d v H q (ar.refl _) (r H O)
theorem ag{i j pos}:DE X H0 O0 (.Constant (.int i) j pos) (dC (.int i)):=dc aT fun _ _=> .int i
theorem jF{b j pos}:DE X H0 O0 (.Constant (.bool b) j pos) (dC (.bool b)):=dc Cc fun _ _=> .bl b
theorem eY{j pos}:DE X H0 O0 (.Constant .none j pos) (dC .none):=dc Cd fun _ _=> .non
theorem aS{x j pos}:DE X H0 O0 (.Constant (.str x) j pos) (dC (.str x)):=dc t7 fun _ _=> .str x
def jd:DA:=fun _ Q=> Q []
def gv(t:DT)(u:DA):DA:=fun δ Q=> t δ fun d=> u δ fun ds=> Q (d::ds)
theorem aj:PA X [] (fO X.K H0 O0 jd):=bZ.imp fun σ H Q uu67=> by obtain⟨O,δ,Qd,w,q,k⟩:=uu67;exact k [] [] H q (ar.refl _) .nil
theorem aa{e:Expr}{es:List Expr}{t:DT}{u:DA}(h:DE X H0 O0 e t)(hs:PA X es (fO X.K H0 O0 u))(he:starEach (e::es) X.env=(false,eval e X.env)::starEach es X.env:=by rfl):PA X (e::es) (fO X.K H0 O0 (gv t u)):=
 (bx h hs he).imp fun σ H Q uu68=> by obtain⟨O,δ,Qd,w,q,k⟩:=uu68;exact⟨O,δ,_,w,q,fun d v H1 q1 s1 r1=> ⟨O,δ,_,w.mono s1,q1,fun ds vs H2 q2 s2 r2=> k (d::ds) (v::vs) H2 q2 (s1.trans s2) (.cons (r1.mono s2) r2)⟩⟩
def kq(t:DA):DT:=fun δ Q=> t δ fun ds=> ds.length≤sizeLine∧Q (.tuple ds)
theorem pP{H:Hp}{O:Ex}{σ:St}{δ:Dl}{H1:Hp}{p:Addr}{K:Jd}(w:Wd K H0 O0 H O σ δ)(s:ar H H1)(hp:H1 p=none):¬O p:=fun z=> (w.mono s).trk p z hp
theorem bJ{es:List Expr}{t:DA}{x1}{pos:Pos}(h:PA X es (fO X.K H0 O0 t)):DE X H0 O0 (.Tuple es x1 pos) (kq t):=
 (xE h).imp fun σ H Q uu69=> by obtain⟨O,δ,Qd,w,q,k⟩:=uu69;exact⟨O,δ,_,w,q,fun ds vs H1 q1 s1 r1=> ⟨by rw [r1.length];exact q1.1,fun p hp=> k _ _ _ q1.2 (s1.trans (ar.new hp)) (.tup (.inl bj) (pP w s1 hp) (r1.mono (ar.new hp)))⟩⟩
end
end L2
namespace L2
open PySem PySem.Spec PyProof.Rows PySem.W
theorem aR.refl(H:Hp)(O:Ex):aR H H O O:=⟨fun _ _ e _=> e,fun _ _ n=> n⟩
theorem aR.trans{H H1 H2:Hp}{O O1 O2:Ex}(a:aR H H1 O O1)(b:aR H1 H2 O1 O2):aR H H2 O O2:=by
 refine⟨fun c o e n=> ?_,fun c e n=> ?_⟩
 ·have h1:=a.keep c o e n
  exact b.keep c o h1 (a.out c (by rw [e];exact fun z=> nomatch z) n)
 ·cases q:H c with
  | none=> exact absurd q e
  | some o=> exact b.out c (by rw [a.keep c o q n];exact fun z=> nomatch z) (a.out c e n)
section
variable {X:Cx} {H0:Hp} {O0:Ex}
def cL(K:Jd)(r:R2)(rd:PyData→PyData→(PyData→Prop)→Prop):Prop:=
 ∀(H:Hp)(O:Ex)(x y:V)(dx dy:PyData)(Qd:PyData→Prop)(R:VK),(∀l,O l→H l≠none)→Sh K H O x dx→Sh K H O y dy→rd dx dy Qd→(∀d v H',Qd d→ar H H'→Dt K H' O v d→R v H')→r x y H R
def cQ(rd:PyData→PyData→(PyData→Prop)→Prop)(ta tb:DT):DT:=fun δ Q=> ta δ fun x=> tb δ fun y=> rd x y Q
theorem pQ{K:Jd}{r:R2}{rd:PyData→PyData→(PyData→Prop)→Prop}{ta tb:DT}(hd:cL K r rd):∀σ H Q,up K H0 O0 (cQ rd ta tb) σ H Q→j7 r (uJ K H0 O0 ta) (uJ K H0 O0 tb) σ H Q:=
 fun σ H Q uu70=> by obtain⟨O,δ,Qd,w,q,k⟩:=uu70;exact⟨O,δ,_,w,q,fun x v H1 q1 s1 r1=> ⟨O,δ,_,w.mono s1,q1,fun y u H2 q2 s2 r2=> hd H2 O v u x y Qd _ (w.mono (s1.trans s2)).trk (r1.mono s2) r2 q2 fun d z H3 qd s3 r3=> k d z H3 qd (s1.trans (s2.trans s3)) r3⟩⟩
theorem aM{a b:Expr}{ta tb:DT}{op:Operator}{r:R2}{rd:PyData→PyData→(PyData→Prop)→Prop}{pos:Pos}(ho:bW X (binaryOp op) r)(hd:cL X.K r rd)(ha:DF X H0 O0 a ta)(hb:DF X H0 O0 b tb):DE X H0 O0 (.BinOp a op b pos) (cQ rd ta tb):=(bh ho ha hb).imp (pQ hd)
theorem eI{a b:Expr}{ta tb:DT}{op:CmpOp}{r:R2}{rd:PyData→PyData→(PyData→Prop)→Prop}{pos:Pos}(ho:bW X (compareOp op) r)(hd:cL X.K r rd)(ha:DF X H0 O0 a ta)(hb:DF X H0 O0 b tb)(hm:behindInMarks op b=false):DE X H0 O0 (.Compare a [op] [b] pos) (cQ rd ta tb):=(pA ho ha hb hm).imp (pQ hd)
def eJ(t:DT):DB:=fun δ Q=> t δ fun d=> ∃b,d= .bool b∧Q b
theorem aI{a b:Expr}{ta tb:DT}{op:CmpOp}{r:R2}{rd:PyData→PyData→(PyData→Prop)→Prop}{pos:Pos}(ho:bW X (compareOp op) r)(hd:cL X.K r rd)(ha:DF X H0 O0 a ta)(hb:DF X H0 O0 b tb)(hm:behindInMarks op b=false):PT X (.Compare a [op] [b] pos) (cg X.K H0 O0 (eJ (cQ rd ta tb))):=
 (gr ho ha hb hm).imp fun σ H Q uu71=> by obtain⟨O,δ,Qd,w,q,k⟩:=uu71;exact pQ hd σ H _ ⟨O,δ,_,w,q,fun d v H' uu72 s r=> by obtain⟨b,e,qb⟩:=uu72;subst e;cases r;exact⟨b,rfl,k b H' qb s⟩⟩
theorem gw{e:Expr}{t:DT}(h:DE X H0 O0 e t)(he:∀whole,isTrue e X.env whole=(do let v←whole;standAt e.pos;holding [v] (truthy v)):=by intro _;rfl):PT X e (cg X.K H0 O0 (eJ t)):=
 (wt h he).imp fun σ H Q uu73=> by obtain⟨O,δ,Qd,w,q,k⟩:=uu73;exact⟨O,δ,_,w,q,fun d v H' uu74 s r=> by obtain⟨b,e,qb⟩:=uu74;subst e;cases r;exact⟨b,rfl,k b H' qb s⟩⟩
def kr(t u:DB):DB:=fun δ Q=> t δ fun c=> if c=true then u δ Q else Q false
def mv(t u:DB):DB:=fun δ Q=> t δ fun c=> if c=true then Q true else u δ Q
def mw(t:DB):DB:=fun δ Q=> t δ fun c=> Q (!c)
theorem dR{a:Expr}{t:DB}{pos:Pos}(h:PT X a (cg X.K H0 O0 t)):PW X (.BoolOp .And [a] pos) (cg X.K H0 O0 t):=wz h
theorem je{a:Expr}{t:DB}{pos:Pos}(h:PT X a (cg X.K H0 O0 t)):PW X (.BoolOp .Or [a] pos) (cg X.K H0 O0 t):=wA h
theorem dn{a b:Expr}{rest:List Expr}{t u:DB}{pos:Pos}(h:PT X a (cg X.K H0 O0 t))(hb:PW X (.BoolOp .And (b::rest) pos) (cg X.K H0 O0 u)):PW X (.BoolOp .And (a::b::rest) pos) (cg X.K H0 O0 (kr t u)):=
 (wB h hb).imp fun σ H Q uu75=> by obtain⟨O,δ,Qd,w,q,k⟩:=uu75;exact⟨O,δ,_,w,q,fun c H1 q1 s1=> by
  cases c with
  | true=> exact⟨O,δ,_,w.mono s1,q1,fun b H2 q2 s2=> k b H2 q2 (s1.trans s2)⟩
  | false=> exact k false H1 q1 s1⟩
theorem jf{a b:Expr}{rest:List Expr}{t u:DB}{pos:Pos}(h:PT X a (cg X.K H0 O0 t))(hb:PW X (.BoolOp .Or (b::rest) pos) (cg X.K H0 O0 u)):PW X (.BoolOp .Or (a::b::rest) pos) (cg X.K H0 O0 (mv t u)):=
 (wC h hb).imp fun σ H Q uu76=> by obtain⟨O,δ,Qd,w,q,k⟩:=uu76;exact⟨O,δ,_,w,q,fun c H1 q1 s1=> by
  cases c with
  | false=> exact⟨O,δ,_,w.mono s1,q1,fun b H2 q2 s2=> k b H2 q2 (s1.trans s2)⟩
  | true=> exact k true H1 q1 s1⟩
theorem ku{a:Expr}{t:DB}{pos:Pos}(h:PT X a (cg X.K H0 O0 t)):PT X (.UnaryOp .Not a pos) (cg X.K H0 O0 (mw t)):=
 (Cf h).imp fun σ H Q uu77=> by obtain⟨O,δ,Qd,w,q,k⟩:=uu77;exact⟨O,δ,_,w,q,fun c H1 q1 s1=> k (!c) H1 q1 s1⟩
def my(t u:DT):DT:=fun δ Q=> t δ fun d=> ∃c,d= .bool c∧if c=true then u δ Q else Q (.bool false)
def mz(t u:DT):DT:=fun δ Q=> t δ fun d=> ∃c,d= .bool c∧if c=true then Q (.bool true) else u δ Q
def mB(t:DT):DT:=fun δ Q=> t δ fun d=> ∃c,d= .bool c∧Q (.bool (!c))
theorem kz{op}{a:Expr}{t:DT}{pos:Pos}(h:DE X H0 O0 a t):DE X H0 O0 (.BoolOp op [a] pos) t:=ua h
theorem kA{a b:Expr}{rest:List Expr}{t u:DT}{pos:Pos}(h:DE X H0 O0 a t)(hb:DE X H0 O0 (.BoolOp .And (b::rest) pos) u):DE X H0 O0 (.BoolOp .And (a::b::rest) pos) (my t u):=
 (wH h hb).imp fun σ H Q ⟨O,δ,Qd,w,q,k⟩=> ⟨O,δ,_,w,q,fun d v H1 uu79 s1 r=> by
  obtain⟨c,e,q1⟩:=uu79
  subst e;cases r
  refine⟨c,rfl,?_⟩
  cases c with
  | true=> exact⟨O,δ,_,w.mono s1,q1,fun d v H2 q2 s2 r2=> k d v H2 q2 (s1.trans s2) r2⟩
  | false=> exact k _ _ H1 q1 s1 (.bl false)⟩
theorem D9{a b:Expr}{rest:List Expr}{t u:DT}{pos:Pos}(h:DE X H0 O0 a t)(hb:DE X H0 O0 (.BoolOp .Or (b::rest) pos) u):DE X H0 O0 (.BoolOp .Or (a::b::rest) pos) (mz t u):=
 (wI h hb).imp fun σ H Q ⟨O,δ,Qd,w,q,k⟩=> ⟨O,δ,_,w,q,fun d v H1 uu81 s1 r=> by
  obtain⟨c,e,q1⟩:=uu81
  subst e;cases r
  refine⟨c,rfl,?_⟩
  cases c with
  | false=> exact⟨O,δ,_,w.mono s1,q1,fun d v H2 q2 s2 r2=> k d v H2 q2 (s1.trans s2) r2⟩
  | true=> exact k _ _ H1 q1 s1 (.bl true)⟩
theorem Ea{a:Expr}{t:DT}{pos:Pos}(h:DE X H0 O0 a t):DE X H0 O0 (.UnaryOp .Not a pos) (mB t):=
 (Cg h).imp fun σ H Q uu82=> by obtain⟨O,δ,Qd,w,q,k⟩:=uu82;exact⟨O,δ,_,w,q,fun d v H1 uu83 s1 r=> by
  obtain⟨c,e,q1⟩:=uu83
  subst e;cases r
  exact⟨c,rfl,k _ _ H1 q1 s1 (.bl _)⟩⟩
def mC(c:DB)(t u:DT):DT:=fun δ Q=> c δ fun b=> if b=true then t δ Q else u δ Q
theorem Eb{c a b:Expr}{tc:DB}{t u:DT}{pos:Pos}(hc:PT X c (cg X.K H0 O0 tc))(ha:DE X H0 O0 a t)(hb:DE X H0 O0 b u):DE X H0 O0 (.IfExp c a b pos) (mC tc t u):=
 (wK hc ha hb).imp fun σ H Q uu84=> by obtain⟨O,δ,Qd,w,q,k⟩:=uu84;exact⟨O,δ,_,w,q,fun c H1 q1 s1=> by
  cases c with
  | true=> exact⟨O,δ,_,w.mono s1,q1,fun d v H2 q2 s2 r2=> k d v H2 q2 (s1.trans s2) r2⟩
  | false=> exact⟨O,δ,_,w.mono s1,q1,fun d v H2 q2 s2 r2=> k d v H2 q2 (s1.trans s2) r2⟩⟩
def bo(K:Jd)(F:List PyData→(PyData→Prop)→Prop):Sp:=fun vs H Q _=> ∃O ds Qd,(∀l,O l→H l≠none)∧ak K H O vs ds∧F ds Qd∧∀d v H',Qd d→ar H H'→Dt K H' O v d→Q v H'
def jg(F:List PyData→(PyData→Prop)→Prop)(t:DA):DT:=fun δ Q=> t δ fun ds=> F ds Q
theorem aC{K:Jd}{F:List PyData→(PyData→Prop)→Prop}{t:DA}{E:XK}:∀σ H Q,up K H0 O0 (jg F t) σ H Q→uA (bo K F) [] E (fO K H0 O0 t) σ H Q:=
 fun σ H Q uu85=> by obtain⟨O,δ,Qd,w,q,k⟩:=uu85;exact⟨O,δ,_,w,q,fun ds vs H1 q1 s1 r1=> ⟨O,ds,Qd,(w.mono s1).trk,by rw [JX];exact r1,q1,fun d v H2 q2 s2 r2=> k d v H2 q2 (s1.trans s2) r2⟩⟩
inductive kB (K:Jd) (H:Hp) (O:Ex):List V→List PyData→Prop
 | nil:kB K H O [] []
 | cons {v:V} {d:PyData} {vs:List V} {ds:List PyData}:Sh K H O v d→kB K H O vs ds→kB K H O (v::vs) (d::ds)
def gz(K:Jd)(H0:Hp)(O0:Ex)(t:DA):TA:=fun σ H R=> ∃O δ Qd,Wd K H0 O0 H O σ δ∧t δ Qd∧∀ds vs H',Qd ds→ar H H'→kB K H' O vs ds→R vs H'
theorem bp:PA X [] (gz X.K H0 O0 jd):=bZ.imp fun σ H Q uu86=> by obtain⟨O,δ,Qd,w,q,k⟩:=uu86;exact k [] [] H q (ar.refl _) .nil
theorem aW{e:Expr}{es:List Expr}{t:DT}{u:DA}(h:DF X H0 O0 e t)(hs:PA X es (gz X.K H0 O0 u))(he:starEach (e::es) X.env=(false,eval e X.env)::starEach es X.env:=by rfl):PA X (e::es) (gz X.K H0 O0 (gv t u)):=
 (bx h hs he).imp fun σ H Q uu87=> by obtain⟨O,δ,Qd,w,q,k⟩:=uu87;exact⟨O,δ,_,w,q,fun d v H1 q1 s1 r1=> ⟨O,δ,_,w.mono s1,q1,fun ds vs H2 q2 s2 r2=> k (d::ds) (v::vs) H2 q2 (s1.trans s2) (.cons (r1.mono s2) r2)⟩⟩
def fo(K:Jd)(r:List V→Hp→VK→Prop)(rd:List PyData→(PyData→Prop)→Prop):Prop:=
 ∀(H:Hp)(O:Ex)(xs:List V)(ds:List PyData)(Qd:PyData→Prop)(R:VK),(∀l,O l→H l≠none)→kB K H O xs ds→rd ds Qd→(∀d v H',Qd d→ar H H'→Dt K H' O v d→R v H')→r xs H R
theorem bP{K:Jd}{r:List V→Hp→VK→Prop}{rd:List PyData→(PyData→Prop)→Prop}{t:DA}(hd:fo K r rd):∀σ H Q,up K H0 O0 (jg rd t) σ H Q→pG r (gz K H0 O0 t) σ H Q:=
 fun σ H Q uu88=> by obtain⟨O,δ,Qd,w,q,k⟩:=uu88;exact⟨O,δ,_,w,q,fun ds vs H1 q1 s1 r1=> hd H1 O vs ds Qd _ (w.mono s1).trk r1 q1 fun d v H2 q2 s2 r2=> k d v H2 q2 (s1.trans s2) r2⟩
def fP(t u:DS):DS:=fun E δ=> t {E with nx:=u E} δ
theorem au{st:Stmt}{rest:List Stmt}{t u:DS}(h:PS X st (bI X.K H0 O0 t))(h2:bM X rest (bI X.K H0 O0 u)):bM X (st::rest) (bI X.K H0 O0 (fP t u)):=
 (cx h h2).imp fun D σ H uu89=> by obtain⟨O,δ,E,w,q,k1,k2,k3,k4⟩:=uu89;exact⟨O,δ,_,w,q,fun O' δ' σ' H' z w' S=> ⟨O',δ',E,w',z,fun O2 δ2 σ2 H2 z2 w2 S2=> k1 O2 δ2 σ2 H2 z2 w2 (S.trans S2),k2,fun O2 δ2 σ2 H2 z2 w2 S2=> k3 O2 δ2 σ2 H2 z2 w2 (S.trans S2),fun O2 δ2 σ2 H2 z2 w2 S2=> k4 O2 δ2 σ2 H2 z2 w2 (S.trans S2)⟩,k2,k3,k4⟩
def mD:DS:=fun E δ=> E.nx δ
theorem br:bM X [] (bI X.K H0 O0 mD):=jx.imp fun D σ H uu90=> by obtain⟨O,δ,E,w,q,k1,k2,k3,k4⟩:=uu90;exact k1 O δ σ H q w (aR.refl _ _)
theorem aA{st:Stmt}{t:DS}(h:PS X st (bI X.K H0 O0 t)):bM X [st] (bI X.K H0 O0 t):=dE h
def kC(i:Nat)(t:DT):DS:=fun E δ=> t δ fun d=> E.nx (δ.set i (some (.v d)))
theorem bL{i:Nat}{x:Str}{e:Expr}{t:DT}{pos pos':Pos}(hN:X.N.Nodup)(hi:X.N[i]?=some x)(hx:gh X.env.scope x)(he:DE X H0 O0 e t)(hs:swapsWith e (some (.Name x pos')) pos.line X.env=pure false:=by rfl)(hf:X.fn x=true∨X.env.scope.names.lookup x=some .local:=by first | exact .inl rfl | exact .inr rfl | assumption):
  PS X (.Assign [.Name x pos'] e pos) (bI X.K H0 O0 (kC i t)):=
 (di hN hi hx he hs hf).imp fun D σ H uu91=> by obtain⟨O,δ,E,w,q,k1,k2,k3,k4⟩:=uu91;exact⟨O,δ,_,w,q,fun d v H1 q1 s1 r1=> k1 O _ _ H1 q1 ((w.mono s1).set r1) (.same s1)⟩
def mE(t:DT):DS:=fun E δ=> t δ E.rt
theorem gA{K:Jd}{H:Hp}{O:Ex}{σ:St}{δ:Dl}(w:Wd K H0 O0 H O σ δ):aR H H O O0:=⟨fun _ _ e _=> e,fun b _ n z=> n (w.sub b z)⟩
theorem aO{e:Expr}{t:DT}{pos:Pos}(he:DE X H0 O0 e t):PS X (.Return (some e) pos) (bI X.K H0 O0 (mE t)):=
 (dY he).imp fun D σ H uu92=> by obtain⟨O,δ,E,w,q,k1,k2,k3,k4⟩:=uu92;exact⟨O,δ,_,w,q,fun d v H1 q1 s1 r1=> k2 d v H1 q1 (w.same.trans s1) (r1.step (gA (w.mono s1)))⟩
def mF(c:DB)(t u:DS):DS:=fun E δ=> c δ fun b=> if b=true then t E δ else u E δ
theorem bt{c:Expr}{a b:List Stmt}{tc:DB}{t u:DS}{pos:Pos}(hc:PT X c (cg X.K H0 O0 tc))(ha:bM X a (bI X.K H0 O0 t))(hb:bM X b (bI X.K H0 O0 u)):PS X (.If c a b pos) (bI X.K H0 O0 (mF tc t u)):=
 (jy hc ha hb).imp fun D σ H uu93=> by obtain⟨O,δ,E,w,q,k1,k2,k3,k4⟩:=uu93;exact⟨O,δ,_,w,q,fun c H1 q1 s1=> by
  have g:∀{t':DS},t' E δ→bI X.K H0 O0 t' D σ H1:=fun z=> ⟨O,δ,E,w.mono s1,z,fun O2 δ2 σ2 H2 z2 w2 S2=> k1 O2 δ2 σ2 H2 z2 w2 (aR.trans (.same s1) S2),k2,fun O2 δ2 σ2 H2 z2 w2 S2=> k3 O2 δ2 σ2 H2 z2 w2 (aR.trans (.same s1) S2),fun O2 δ2 σ2 H2 z2 w2 S2=> k4 O2 δ2 σ2 H2 z2 w2 (aR.trans (.same s1) S2)⟩
  cases c with
  | true=> exact g q1
  | false=> exact g q1⟩
def pR(K:Jd)(H0:Hp)(O0:Ex)(t:DA):TE:=fun σ H R=> ∃O δ Qd,Wd K H0 O0 H O σ δ∧t δ Qd∧∀ds vs p H',Qd ds→ar H H'→H' p=none→ak K H' O vs ds→R (.ref p) (ao H' p (.lst vs))
abbrev FE(X:Cx)(H0:Hp)(O0:Ex)(e:Expr)(t:DA):Prop:=PE X e (pR X.K H0 O0 t)
def dL(t:DA):DT:=fun δ Q=> t δ fun ds=> Q (.list ds)
theorem fe{e:Expr}{t:DA}(h:FE X H0 O0 e t):DE X H0 O0 e (dL t):=
 h.imp fun σ H Q uu94=> by obtain⟨O,δ,Qd,w,q,k⟩:=uu94;exact⟨O,δ,_,w,q,fun ds vs p H1 q1 s1 hp r1=> k _ _ _ q1 (s1.trans (ar.new hp)) (.lst (.inl bj) (pP w s1 hp) (r1.mono (ar.new hp)))⟩
def kD(t:DA):DA:=fun δ Q=> t δ fun ds=> ds.length≤sizeLine∧Q ds
theorem cM{es:List Expr}{t:DA}{pos:Pos}(h:PA X es (fO X.K H0 O0 t)):FE X H0 O0 (.List es pos) (kD t):=
 (pF h).imp fun σ H Q uu95=> by obtain⟨O,δ,Qd,w,q,k⟩:=uu95;exact⟨O,δ,_,w,q,fun ds vs H1 q1 s1 r1=> ⟨by rw [r1.length];exact q1.1,fun p hp=> k _ _ _ _ q1.2 s1 hp r1⟩⟩
def mG(i:Nat)(t:DA):DS:=fun E δ=> t δ fun ds=> E.nx (δ.set i (some (.o ds)))
theorem pT{i:Nat}{x:Str}{e:Expr}{t:DA}{pos pos':Pos}(hN:X.N.Nodup)(hi:X.N[i]?=some x)(hx:gh X.env.scope x)(he:FE X H0 O0 e t)(hs:swapsWith e (some (.Name x pos')) pos.line X.env=pure false:=by rfl)(hf:X.fn x=true∨X.env.scope.names.lookup x=some .local:=by first | exact .inl rfl | exact .inr rfl | assumption):
  PS X (.Assign [.Name x pos'] e pos) (bI X.K H0 O0 (mG i t)):=
 (di hN hi hx he hs hf).imp fun D σ H ⟨O,δ,E,w,q,k1,k2,k3,k4⟩=> ⟨O,δ,_,w,q,fun ds vs p H1 q1 s1 hp r1=> k1 _ _ _ _ q1 ((w.mono s1).setO hp r1)
  ⟨fun b o e _=> (s1.trans (ar.new hp)) b o e,fun b e n z=> z.elim n fun y=> by
   cases q:H b with
   | none=> exact e q
   | some o=> have:=s1 _ _ q;rw [y,hp] at this;cases this⟩⟩
def mH(i:Nat)(t:DT):DS:=fun E δ=> ∃ds,δ[i]?=some (some (.o ds))∧t δ fun d=> ds.length < sizeLine∧E.nx (δ.set i (some (.o (ds++[d]))))
theorem hZ{i:Nat}{o e:Expr}{t:DT}{apos cpos pos:Pos}(ho:PE X o (eO i))(he:DE X H0 O0 e t)(hbase:attributeBase o "append" X.env (eval o X.env)=eval o X.env:=by rfl)
  (hfew:((backTo cpos (starEach [e] X.env)).all (fun x=> !x.1) && (backToKw cpos (keywordEach [] X.env)).all (fun x=> x.1.isSome) && decide ([e].length+([]:List Keyword).length+(if ([]:List Keyword).isEmpty then 0 else 1) < 30))=true:=by rfl)
  (hline:(apos.endLine==cpos.line)=true:=by rfl)(hst:starEach [e] X.env=(false,eval e X.env)::starEach [] X.env:=by rfl)(hplain:(backTo cpos (starEach [] X.env)).any (·.1)=false:=by rfl)
  (hs:swapsWith (.Call (.Attribute o "append" apos) [e] [] cpos) none pos.line X.env=pure false:=by rfl):PS X (.Expr (.Call (.Attribute o "append" apos) [e] [] cpos) pos) (bI X.K H0 O0 (mH i t)):=
 (wO (uD Nh PySem.F.slot_list_append PySem.F.type_list_append xZ ho (bx he bZ hst) hbase hfew hline hst hplain) hs).imp fun D σ H uu0=> by
  obtain⟨O,δ,E,w,⟨ds,e,q⟩,k1,k2,k3,k4⟩:=uu0
  obtain⟨l,vs,h,a,b,c,r⟩:=w.own e
  refine⟨_,h,.inl ⟨rfl,_,aP.of c⟩,O,δ,_,w,q,fun d v H1 q1 s1 r1=> ?_⟩
  refine⟨l,vs,v,rfl,rfl,s1 _ _ c,by rw [r.length];exact q1.1,?_⟩
  exact k1 _ _ _ _ q1.2 ((w.mono s1).putO (vs:=vs) e h ((r.mono s1).append (.cons r1 .nil))) ⟨fun b' o' z n=> by rw [aJ (fun y=> n (by rw [y];exact a))];exact s1 _ _ z,fun _ _ n=> n⟩
end
end L2
namespace L2
open PySem PySem.Spec PyProof.Rows PySem.W
structure cF (J:It) (P:Hp→Prop) (vs:List V):Prop where
 go:∀i H',P H'→i < vs.length→J.go i H'
 yl:∀i H' x H'',P H'→i < vs.length→J.yld i H' x H''→H''=H'∧vs[i]?=some x
 st:∀i H',P H'→vs.length≤i→J.stop i H'
def pU(H1:Hp)(a:Addr)(H':Hp):Prop:=∀o,H1 a=some o→H' a=some o
theorem aP.keep{K:Jd}{H H':Hp}{a:Addr}{xs:List V}(s:pU H a H')(h:aP K H a xs):aP K H' a xs:=by
 rcases h with(h | ⟨o,h⟩) | h
 ·exact .inl (.inl (s _ h))
 ·exact .inl (.inr ⟨o,s _ h⟩)
 ·exact .inr h
theorem bB.keep{K:Jd}{H H':Hp}{a:Addr}{xs:List V}(s:pU H a H')(h:bB K H a xs):bB K H' a xs:=by
 rcases h with(h | ⟨o,h⟩) | h
 ·exact .inl (.inl (s _ h))
 ·exact .inl (.inr ⟨o,s _ h⟩)
 ·exact .inr h
theorem cF.list{K:Jd}{H:Hp}{a:Addr}{vs:List V}(h:aP K H a vs):cF (lW K a) (pU H a) vs:=
 ⟨fun i H' s hi=> ⟨vs,vs[i],h.keep s,by simp [hi]⟩,fun i H' x H'' s _ y=> ⟨y.1,y.2 vs (h.keep s)⟩,fun i H' s hi=> ⟨vs,h.keep s,hi⟩⟩
theorem cF.tup{K:Jd}{H:Hp}{a:Addr}{vs:List V}(h:bB K H a vs):cF (lX K a) (pU H a) vs:=
 ⟨fun i H' s hi=> ⟨vs,vs[i],h.keep s,by simp [hi]⟩,fun i H' x H'' s _ y=> ⟨y.1,y.2 vs (h.keep s)⟩,fun i H' s hi=> ⟨vs,h.keep s,hi⟩⟩
def ia(lo:Int)(n:Nat):List PyData:=(Kn n).map fun(k:Nat)=> .int (lo+k)
theorem cF.rng{lo:Int}{n:Nat}:cF (gq lo n) (fun _=> True) ((Kn n).map fun(k:Nat)=> V.int (lo+k)):=by
 refine⟨fun i H' s hi=> (by simpa using hi:i < n),fun i H' x H'' s hi y=> ⟨y.1,?_⟩,fun i H' s hi=> (by simpa using hi:n≤i)⟩
 obtain⟨_,rfl⟩:=y
 have hn:i < n:=by simpa using hi
 simp [hn]
theorem ak.rng{K:Jd}{H:Hp}{O:Ex}{lo:Int}:∀(l:List Nat),ak K H O (l.map fun(k:Nat)=> V.int (lo+k)) (l.map fun(k:Nat)=> Jg (lo+k))
 | []=> .nil
 | n::r=> .cons (.int _) (ak.rng r)
abbrev DG:=PyData→Dl→(Dl→Prop)→Prop
def GD(K:Jd)(g:TG)(dg:DG):Prop:=∀(H0:Hp)(O0:Ex)(H:Hp)(O:Ex)(σ:St)(δ:Dl)(v:V)(x:PyData)(R:St→Hp→Prop)(Qd:Dl→Prop),Wd K H0 O0 H O σ δ→Dt K H O v x→dg x δ Qd→(∀δ' σ',Qd δ'→Wd K H0 O0 H O σ' δ'→R σ' H)→g v σ H R
def jh(i:Nat):DG:=fun x δ Q=> Q (δ.set i (some (.v x)))
theorem aY{K:Jd}{i:Nat}:GD K (gn i) (jh i):=fun H0 O0 H O σ δ v x R Qd w r q k=> k _ _ q (w.set r)
abbrev jG:=List PyData→Dl→(Dl→Prop)→Prop
def pV(K:Jd)(g:gi)(dg:jG):Prop:=∀(H0:Hp)(O0:Ex)(H:Hp)(O:Ex)(σ:St)(δ:Dl)(vs:List V)(xs:List PyData)(R:St→Hp→Prop)(Qd:Dl→Prop),Wd K H0 O0 H O σ δ→ak K H O vs xs→dg xs δ Qd→(∀δ' σ',Qd δ'→Wd K H0 O0 H O σ' δ'→R σ' H)→g vs σ H R
def mI:jG:=fun xs δ Q=> xs=[]∧Q δ
def mJ(t:DG)(u:jG):jG:=fun xs δ Q=> ∃x r,xs=x::r∧t x δ fun δ'=> u r δ' Q
theorem jH{K:Jd}:pV K pb mI:=fun H0 O0 H O σ δ vs xs R Qd w r uu1 k=> by obtain⟨e,q⟩:=uu1;subst e;cases r;exact⟨rfl,k _ _ q w⟩
theorem d4{K:Jd}{t:TG}{u:gi}{dt:DG}{du:jG}(h:GD K t dt)(h2:pV K u du):pV K (lT t u) (mJ dt du):=fun H0 O0 H O σ δ vs xs R Qd w r uu2 k=> by
 obtain⟨x,rr,e,q⟩:=uu2
 subst e
 cases r with
 | cons r1 r2=> exact⟨_,_,rfl,h H0 O0 H O σ δ _ _ _ _ w r1 q fun δ' σ' q' w'=> h2 H0 O0 H O σ' δ' _ _ R Qd w' r2 q' k⟩
def mK(n:Nat)(t:jG):DG:=fun x δ Q=> ∃xs,x= .tuple xs∧xs.length=n∧t xs δ Q
theorem jI{K:Jd}{n:Nat}{t:gi}{dt:jG}(h:pV K t dt):GD K (pd K n t) (mK n dt):=fun H0 O0 H O σ δ v x R Qd w r uu3 k=> by
 obtain⟨xs,e,hl,q⟩:=uu3
 subst e
 obtain⟨a,vs,rfl,hs,rr⟩:=(Sh.dt r).tup
 exact⟨a,vs,rfl,hs,by rw [rr.length];exact hl,h H0 O0 H O σ δ _ _ R Qd w rr q k⟩
section
variable {X:Cx} {H0:Hp} {O0:Ex}
def mL(t:DT)(g:DG):DS:=fun E δ=> t δ fun d=> g d δ E.nx
theorem uK{tg e:Expr}{t:DT}{g:TG}{dg:DG}{pos:Pos}(he:DE X H0 O0 e t)(hg:PG X tg g)(gd:GD X.K g dg)(hs:swapsWithSole [tg] e pos.line X.env=pure false:=by rfl)(hw:swappedStores [tg] e X.env=pure none:=by rfl)
  (h1:(assignEach [tg] X.env).map (·.2)=[assign tg X.env]:=by rfl):PS X (.Assign [tg] e pos) (bI X.K H0 O0 (mL t dg)):=
 (pe he hg hs hw h1).imp fun D σ H uu4=> by obtain⟨O,δ,E,w,q,k1,k2,k3,k4⟩:=uu4;exact⟨O,δ,_,w,q,fun d v H1 q1 s1 r1=> gd H0 O0 H1 O σ δ v d _ _ (w.mono s1) r1 q1 fun δ' σ' q' w'=> k1 O δ' σ' H1 q' w' (.same s1)⟩
def jJ(i j:Nat)(t:DA):DS:=fun E δ=> t δ fun ds=> ∃x y,ds=[x,y]∧E.nx ((δ.set i (some (.v x))).set j (some (.v y)))
theorem kE{i j:Nat}{x y:Str}{a b:Expr}{ta:DA}{px py pt pos:Pos}{kt k2 pt2}(hc:X.calm=true)(hN:X.N.Nodup)(hi:X.N[i]?=some x)(hj:X.N[j]?=some y)(hij:i≠j)
  (hx:X.env.scope.names.lookup x=some .local)(hy:X.env.scope.names.lookup y=some .local)(ha:PA X [a,b] (fO X.K H0 O0 ta))
  (hw:swappedStores [.Tuple [.Name x px,.Name y py] kt pt] (.Tuple [a,b] k2 pt2) X.env=pure (some [x,y]))
  (hs:swapsWithSole [.Tuple [.Name x px,.Name y py] kt pt] (.Tuple [a,b] k2 pt2) pos.line X.env=pure false:=by rfl):
  PS X (.Assign [.Tuple [.Name x px,.Name y py] kt pt] (.Tuple [a,b] k2 pt2) pos) (bI X.K H0 O0 (jJ i j ta)):=
 (wY hc hN hi hj hij hx hy ha hw hs).imp fun D σ H uu5=> by obtain⟨O,δ,E,w,q,k1,k2,k3,k4⟩:=uu5;exact⟨O,δ,_,w,q,fun ds vs H1 uu6 s1 r1=> by
  obtain⟨d1,d2,e,q1⟩:=uu6
  subst e
  cases r1 with
  | cons r1 r2=>
   cases r2 with
   | cons r2 r3=>
    cases r3
    exact⟨_,_,rfl,k1 _ _ _ _ q1 (((w.mono s1).set r1).set r2) (.same s1)⟩⟩
def ib(g:DG)(tb:DS)(E:jc):List PyData→Dl→Prop
 | [],δ=> E.nx δ
 | x::xs,δ=> g x δ fun δ2=> tb {E with nx:=ib g tb E xs,ct:=ib g tb E xs,bk:=E.nx} δ2
theorem I0{K:Jd}{J:It}{P:Hp→Prop}{vs:List V}{xs:List PyData}{g:TG}{dg:DG}{tb:DS}{D:i3}{E:jc}{σ:St}{H:Hp}{O:Ex}{δ:Dl}(S:cF J P vs)(gd:GD K g dg)
  (hP:∀H' O',aR H H' O O'→P H')(r:ak K H O vs xs)(w:Wd K H0 O0 H O σ δ)(q:ib dg tb E xs δ)
  (k1:∀O' δ' σ' H',E.nx δ'→Wd K H0 O0 H' O' σ' δ'→aR H H' O O'→D.nx σ' H')(k2:∀d v H',E.rt d→ar H0 H'→Dt K H' O0 v d→D.rt v H'):FR J g (bI K H0 O0 tb) D σ H:=by
 refine⟨fun i m σ' H'=> ∃O' δ',m=vs.length - i∧i≤vs.length∧Wd K H0 O0 H' O' σ' δ'∧aR H H' O O'∧ib dg tb E (xs.drop i) δ',⟨vs.length,O,δ,by simp,Kp _,w,aR.refl _ _,by simpa using q⟩,?_⟩
 rintro i m σ1 H1 ⟨O1,δ1,rfl,hi,w1,S1,q1⟩
 by_cases hlt:i < vs.length
 ·refine .inr ⟨S.go i H1 (hP _ _ S1) hlt,fun σ' H'=> ∃O' δ',Wd K H0 O0 H' O' σ' δ'∧aR H H' O O'∧ib dg tb E (xs.drop (i+1)) δ',fun σ' H' uu7=> by obtain⟨O',δ',w',S',q'⟩:=uu7;exact⟨vs.length - (i+1),by omega,O',δ',rfl,hlt,w',S',q'⟩,fun x H' y=> ?_⟩
  have yy:=S.yl i H1 x H' (hP _ _ S1) hlt y
  clear y
  obtain⟨e,y⟩:=yy
  subst e
  obtain⟨d,ed,rd⟩:=r.get y
  have hd:xs.drop i=d::xs.drop (i+1):=by
   rw [M4 (h:=(Jr.mp ed).1),(Jr.mp ed).2]
  rw [hd] at q1
  refine gd H0 O0 _ O1 σ1 δ1 x d _ _ w1 (rd.step S1) q1 fun δ2 σ2 q2 w2=> ?_
  refine⟨O1,δ2,_,w2,q2,fun O' δ' σ' H' z w' S'=> ⟨O',δ',w',S1.trans S',z⟩,k2,fun O' δ' σ' H' z w' S'=> k1 O' δ' σ' H' z w' (S1.trans S'),fun O' δ' σ' H' z w' S'=> ⟨O',δ',w',S1.trans S',z⟩⟩
 ·have e:i=vs.length:=by omega
  subst e
  refine .inl ⟨S.st _ H1 (hP _ _ S1) (Jm _),?_⟩
  rw [r.length,Ny (Jm _)] at q1
  exact k1 O1 δ1 σ1 H1 q1 w1 S1
def kF(g:DG)(tb:DS)(E:jc)(xs:List PyData)(δ:Dl):Prop:=∃I:Nat→Dl→Prop,I 0 δ∧(∀i x δ,xs[i]?=some x→I i δ→g x δ fun δ2=> tb {E with nx:=I (i+1),ct:=I (i+1),bk:=E.nx} δ2)∧∀δ,I xs.length δ→E.nx δ
theorem kG{K:Jd}{J:It}{P:Hp→Prop}{vs:List V}{xs:List PyData}{g:TG}{dg:DG}{tb:DS}{D:i3}{E:jc}{σ:St}{H:Hp}{O:Ex}{δ:Dl}(S:cF J P vs)(gd:GD K g dg)
  (hP:∀H' O',aR H H' O O'→P H')(r:ak K H O vs xs)(w:Wd K H0 O0 H O σ δ)(q:kF dg tb E xs δ)
  (k1:∀O' δ' σ' H',E.nx δ'→Wd K H0 O0 H' O' σ' δ'→aR H H' O O'→D.nx σ' H')(k2:∀d v H',E.rt d→ar H0 H'→Dt K H' O0 v d→D.rt v H'):FR J g (bI K H0 O0 tb) D σ H:=by
 obtain⟨Iv,q0,qs,qe⟩:=q
 refine⟨fun i m σ' H'=> ∃O' δ',m=vs.length - i∧i≤vs.length∧Wd K H0 O0 H' O' σ' δ'∧aR H H' O O'∧Iv i δ',⟨vs.length,O,δ,by simp,Kp _,w,aR.refl _ _,q0⟩,?_⟩
 rintro i m σ1 H1 ⟨O1,δ1,rfl,hi,w1,S1,q1⟩
 by_cases hlt:i < vs.length
 ·refine .inr ⟨S.go i H1 (hP _ _ S1) hlt,fun σ' H'=> ∃O' δ',Wd K H0 O0 H' O' σ' δ'∧aR H H' O O'∧Iv (i+1) δ',fun σ' H' uu8=> by obtain⟨O',δ',w',S',q'⟩:=uu8;exact⟨vs.length - (i+1),by omega,O',δ',rfl,hlt,w',S',q'⟩,fun x H' y=> ?_⟩
  have yy:=S.yl i H1 x H' (hP _ _ S1) hlt y
  clear y
  obtain⟨e,y⟩:=yy
  subst e
  obtain⟨d,ed,rd⟩:=r.get y
  refine gd H0 O0 _ O1 σ1 δ1 x d _ _ w1 (rd.step S1) (qs i d δ1 ed q1) fun δ2 σ2 q2 w2=> ?_
  refine⟨O1,δ2,_,w2,q2,fun O' δ' σ' H' z w' S'=> ⟨O',δ',w',S1.trans S',z⟩,k2,fun O' δ' σ' H' z w' S'=> k1 O' δ' σ' H' z w' (S1.trans S'),fun O' δ' σ' H' z w' S'=> ⟨O',δ',w',S1.trans S',z⟩⟩
 ·have e:i=vs.length:=by omega
  subst e
  refine .inl ⟨S.st _ H1 (hP _ _ S1) (Jm _),?_⟩
  rw [r.length] at q1
  exact k1 O1 δ1 σ1 H1 (qe δ1 q1) w1 S1
section
variable {tg iter:Expr} {body:List Stmt} {t:DT} {ta:DA} {g:TG} {dg:DG} {tb:DS} {pos p ps:Pos}
end
def mM(t:DT)(g:DG)(tb:DS):DS:=fun E δ=> t δ fun d=> ∃xs,d= .list xs∧kF g tb E xs δ
def mN(t:DT)(g:DG)(tb:DS):DS:=fun E δ=> t δ fun d=> ∃xs,d= .tuple xs∧kF g tb E xs δ
def mO(t:DA)(g:DG)(tb:DS):DS:=fun E δ=> t δ fun ds=> ∃j:Int,ds=[.int j]∧-(2 ^ 62)≤j∧j < 2 ^ 62∧kF g tb E (ia 0 j.toNat) δ
def mP(t:DA)(g:DG)(tb:DS):DS:=fun E δ=> t δ fun ds=> ∃i j:Int,ds=[.int i,.int j]∧(-(2 ^ 62)≤i∧i < 2 ^ 62∧-(2 ^ 62)≤j∧j < 2 ^ 62)∧kF g tb E (ia i (j - i).toNat) δ
section
variable {tg iter:Expr} {body:List Stmt} {t:DT} {ta:DA} {g:TG} {dg:DG} {tb:DS} {pos p ps:Pos}
theorem kH(hp:PassesOwn (model X.prog X.w) X.A X.env X.xe)(hc:X.calm=true)(hi:DE X H0 O0 iter t)(hg:PG X tg g)(gd:GD X.K g dg)(hb:bM X body (bI X.K H0 O0 tb))(hs:∀x,foldedSetIterable iter X.env x=pure x:=by intro _;rfl):
  PS X (.For tg iter body [] pos) (bI X.K H0 O0 (mM t dg tb)):=
 (mf hp hc (ug hi) hg hb hs).imp fun D σ H uu9=> by obtain⟨O,δ,E,w,q,k1,k2,k3,k4⟩:=uu9;exact⟨O,δ,_,w,q,fun d v H1 uu10 s1 r1=> by
  obtain⟨xs,e,q1⟩:=uu10
  subst e
  cases r1 with
  | lst h n r=>
   refine⟨_,rfl,⟨_,.inl h⟩,kG (cF.list (.inl h)) gd (fun H' O' S o e=> S.keep _ _ e n) r (w.mono s1) q1 (fun O' δ' σ' H' z w' S=> k1 O' δ' σ' H' z w' (aR.trans (.same s1) S)) k2⟩⟩
theorem uL(hp:PassesOwn (model X.prog X.w) X.A X.env X.xe)(hc:X.calm=true)(hi:DE X H0 O0 iter t)(hg:PG X tg g)(gd:GD X.K g dg)(hb:bM X body (bI X.K H0 O0 tb))(hs:∀x,foldedSetIterable iter X.env x=pure x:=by intro _;rfl):
  PS X (.For tg iter body [] pos) (bI X.K H0 O0 (mN t dg tb)):=
 (mf hp hc (uh hi) hg hb hs).imp fun D σ H uu11=> by obtain⟨O,δ,E,w,q,k1,k2,k3,k4⟩:=uu11;exact⟨O,δ,_,w,q,fun d v H1 uu12 s1 r1=> by
  obtain⟨xs,e,q1⟩:=uu12
  subst e
  cases r1 with
  | tup h n r=>
   refine⟨_,rfl,⟨_,.inl h⟩,kG (cF.tup (.inl h)) gd (fun H' O' S o e=> S.keep _ _ e n) r (w.mono s1) q1 (fun O' δ' σ' H' z w' S=> k1 O' δ' σ' H' z w' (aR.trans (.same s1) S)) k2⟩
  | tupK h r=>
   refine⟨_,rfl,⟨_,h.of0⟩,kG (P:=fun _=> True) ⟨fun i H' _ hi=> ⟨_,_,h.of0,by simp [hi];rfl⟩,fun i H' x H'' _ _ y=> ⟨y.1,y.2 _ h.of0⟩,fun i H' _ hi=> ⟨_,h.of0,hi⟩⟩ gd (fun _ _ _=> trivial) r (w.mono s1) q1 (fun O' δ' σ' H' z w' S=> k1 O' δ' σ' H' z w' (aR.trans (.same s1) S)) k2⟩⟩
theorem yq(hp:PassesOwn (model X.prog X.w) X.A X.env X.xe)(hc:X.calm=true){a:Expr}(hgl:Gl X "range")(hm:X.mg "range"=none)(ha:PA X [a] (fO X.K H0 O0 ta))(hg:PG X tg g)(gd:GD X.K g dg)(hb:bM X body (bI X.K H0 O0 tb))
  (hst:starEach [a] X.env=[(false,eval a X.env)]:=by rfl)(hs:∀x,foldedSetIterable (.Call (.Name "range" p) [a] [] ps) X.env x=pure x:=by intro _;rfl):
  PS X (.For tg (.Call (.Name "range" p) [a] [] ps) body [] pos) (bI X.K H0 O0 (mO ta dg tb)):=
 (mf hp hc (xa hgl hm ha hst) hg hb hs).imp fun D σ H uu13=> by obtain⟨O,δ,E,w,q,k1,k2,k3,k4⟩:=uu13;exact⟨O,δ,_,w,q,fun ds vs H1 uu14 s1 r1=> by
  obtain⟨j,e,b1,b2,q1⟩:=uu14
  subst e
  cases r1 with
  | cons r1 r2=>
   cases r2;cases r1
   exact⟨j,rfl,b1,b2,kG cF.rng gd (fun _ _ _=> trivial) (ak.rng _) (w.mono s1) q1 (fun O' δ' σ' H' z w' S=> k1 O' δ' σ' H' z w' (aR.trans (.same s1) S)) k2⟩⟩
theorem Ec(hp:PassesOwn (model X.prog X.w) X.A X.env X.xe)(hc:X.calm=true){a b:Expr}(hgl:Gl X "range")(hm:X.mg "range"=none)(ha:PA X [a,b] (fO X.K H0 O0 ta))(hg:PG X tg g)(gd:GD X.K g dg)(hb:bM X body (bI X.K H0 O0 tb))
  (hst:starEach [a,b] X.env=[(false,eval a X.env),(false,eval b X.env)]:=by rfl)(hst2:starEach [b] X.env=[(false,eval b X.env)]:=by rfl)(hs:∀x,foldedSetIterable (.Call (.Name "range" p) [a,b] [] ps) X.env x=pure x:=by intro _;rfl):
  PS X (.For tg (.Call (.Name "range" p) [a,b] [] ps) body [] pos) (bI X.K H0 O0 (mP ta dg tb)):=
 (mf hp hc (uk hgl hm ha hst hst2) hg hb hs).imp fun D σ H uu15=> by obtain⟨O,δ,E,w,q,k1,k2,k3,k4⟩:=uu15;exact⟨O,δ,_,w,q,fun ds vs H1 uu16 s1 r1=> by
  obtain⟨i,j,e,b1,q1⟩:=uu16
  subst e
  cases r1 with
  | cons r1 r2=>
   cases r2 with
   | cons r2 r3=>
    cases r3;cases r1;cases r2
    exact⟨i,j,rfl,b1,kG cF.rng gd (fun _ _ _=> trivial) (ak.rng _) (w.mono s1) q1 (fun O' δ' σ' H' z w' S=> k1 O' δ' σ' H' z w' (aR.trans (.same s1) S)) k2⟩⟩
end
def dS(k:Nat)(fr:List Nat)(δ:Dl):Dl:=Jx k none++fr.map fun j=> (δ[j]?).join
def pW(g:DG)(tc:DB)(te:DT)(δ0:Dl):List PyData→List PyData→(List PyData→Prop)→Prop
 | [],acc,Q=> Q acc
 | x::xs,acc,Q=> g x δ0 fun δ2=> tc δ2 fun ok=> if ok=true then te δ2 fun y=> pW g tc te δ0 xs (acc++[y]) Q else pW g tc te δ0 xs acc Q
theorem Wd.comp{K:Jd}{H:Hp}{O:Ex}{σ:St}{δ:Dl}(w:Wd K H0 O0 H O σ δ){k:Nat}{fr:List Nat}(hf:fr.Nodup):Wd K H0 O0 H O (bO k fr σ) (dS k fr δ):=by
 have at1:∀{α:Type}(l:List (Option α))(i:Nat),(Jx k none++fr.map fun j=> (l[j]?).join)[i]?=if i < k then some none else(fr[i - k]?).map fun j=> (l[j]?).join:=by
  intro α l i
  by_cases h:i < k
  ·rw [if_pos h,K3 (by simpa using h),Lz,if_pos h]
  ·rw [if_neg h,KZ (by simpa using M9 h),JB];simp
 have un:∀{α:Type}(l:List (Option α))(i:Nat)(x:α),(Jx k none++fr.map fun j=> (l[j]?).join)[i]?=some (some x)→∃j,fr[i - k]?=some j∧k≤i∧l[j]?=some (some x):=by
  intro α l i x h
  rw [at1] at h
  split at h
  ·cases h
  ·cases e:fr[i - k]? with
   | none=> rw [e] at h;cases h
   | some j=>
    rw [e] at h
    refine⟨j,rfl,by omega,?_⟩
    have h':(l[j]?).join=some x:=JW h
    cases q:l[j]? with
    | none=> rw [q] at h';cases h'
    | some o=> rw [q] at h';rw [show o=some x from h']
 refine⟨w.same,w.sub,w.new,w.trk,by simp [bO,dS],fun i y e=> ?_,fun i j y z l e1 y1 e2 z2 e3 e4=> ?_⟩
 ·match y,e with
  | none,_=> exact Ko
  | some x,e=>
   obtain⟨j,hj,hk,ej⟩:=un δ i x e
   have q:=w.sl j _ ej
   have e2:((bO k fr σ)[i]?).join=(σ[j]?).join:=by
    unfold bO;rw [at1,if_neg (by omega),hj];rfl
   rw [e2];exact q
 ·obtain⟨a,ha,ka,ea⟩:=un δ i _ e1
  obtain⟨b,hb,kb,eb⟩:=un δ j _ e2
  obtain⟨a',ha',_,ea'⟩:=un σ i _ e3
  obtain⟨b',hb',_,eb'⟩:=un σ j _ e4
  rw [ha] at ha';cases ha'
  rw [hb] at hb';cases hb'
  have:=w.dis a b y z l ea y1 eb z2 ea' eb'
  subst this
  have e5:=(Od (l:=fr) (i:=i - k) (j:=j - k) (Jr.mp ha).1 hf).mp (by rw [ha,hb])
  omega
theorem Ja{K:Jd}{J:It}{P:Hp→Prop}{vs:List V}{xs:List PyData}{g:TG}{dg:DG}{tc:TT}{dc:DB}{te:TE}{de:DT}{k:Nat}{fr:List Nat}{σ:St}{H:Hp}{O:Ex}{δ:Dl}{Qd:List PyData→Prop}{Q:VK}(S:cF J P vs)(gd:GD K g dg)(hf:fr.Nodup)
  (hk:∀v:V,∀σ':St,∀H':Hp,∀R:St→Hp→Prop,g v (bO k fr σ) H' R→g v (bO k fr σ) H' fun σ2 H2=> jB (bO k fr σ) σ2∧R σ2 H2)
  (hc:∀σ H Q,cg K H0 O0 dc σ H Q→tc σ H Q)(he:∀σ H Q,up K H0 O0 de σ H Q→te σ H Q)
  (hP:∀D H',H D=none→kh D H H'→P H')(r:ak K H O vs xs)(w:Wd K H0 O0 H O σ δ)(hz:vs.length≤sizeLine)(q:pW dg dc de (dS k fr δ) xs [] Qd)
  (k1:∀ds us p H',Qd ds→ar H H'→H' p=none→ak K H' O us ds→Q (.ref p) (ao H' p (.lst us))):jC J g tc te k fr σ H Q:=by
 intro D hD
 have w0:Wd K H0 O0 H O (bO k fr σ) (dS k fr δ):=w.comp hf
 have nD:¬O D:=fun z=> w.trk D z hD
 have D0:H0 D=none:=by
  cases e:H0 D with
  | none=> rfl
  | some o=> rw [w.same _ _ e] at hD;cases hD
 have ex:∀H',kh D H H'→H' D≠none→Wd K H0 O0 H' (fun a=> O a∨a=D) (bO k fr σ) (dS k fr δ):=fun H' s' hd=> by
  have S':aR H H' O (fun a=> O a∨a=D):=⟨fun b o e _=> s' b o e (cT e hD),fun b hb hn z=> z.elim hn fun q=> hb (by rw [q];exact hD)⟩
  refine⟨fun b o e=> s' b o (w.same b o e) (fun z=> by rw [z,D0] at e;cases e),fun l z=> .inl (w.sub l z),fun l z=> z.elim (w.new l) fun q=> .inr (by rw [q];exact D0),fun l z=> ?_,w0.len,fun j y e=> ?_,w0.dis⟩
  ·by_cases ql:l=D
   ·rw [ql];exact hd
   ·have hl:=w.trk l (z.resolve_right ql)
    cases e:H l with
    | none=> exact absurd e hl
    | some o=> rw [s' l o e ql];exact fun z=> nomatch z
  ·exact(w0.sl j y e).go S' fun l o _ _ a1 _ a3=> ⟨.inl a1,s' _ _ a3 (fun z=> nD (by rw [←z];exact a1))⟩
 refine⟨fun i m H'=> ∃acc ys,m=vs.length - i∧i≤vs.length∧kh D H H'∧H' D=some (.lst ys)∧ys.length≤i∧ak K H' (fun a=> O a∨a=D) ys acc∧pW dg dc de (dS k fr δ) (xs.drop i) acc Qd,⟨vs.length,[],[],by simp,Kp _,fun b o e n=> by rw [aJ n];exact e,bj,Kp _,.nil,by simpa using q⟩,?_⟩
 rintro i m H1 ⟨acc,ys,rfl,hi,s1,e1,hy,ra,q1⟩
 by_cases hlt:i < vs.length
 ·refine .inr ⟨S.go i H1 (hP D H1 hD s1) hlt,fun x H' y=> ?_⟩
  have yy:=S.yl i H1 x H' (hP D H1 hD s1) hlt y
  clear y
  obtain⟨e,y⟩:=yy
  subst e
  obtain⟨d,ed,rd⟩:=r.get y
  have hd:xs.drop i=d::xs.drop (i+1):=by
   rw [M4 (h:=(Jr.mp ed).1),(Jr.mp ed).2]
  rw [hd] at q1
  have w1:=ex _ s1 (by rw [e1];exact fun z=> nomatch z)
  have S':aR H H' O (fun a=> O a∨a=D):=⟨fun b o e _=> s1 b o e (cT e hD),fun b hb hn z=> z.elim hn fun q=> hb (by rw [q];exact hD)⟩
  refine hk x σ _ _ (gd H0 O0 _ _ _ _ x d _ _ w1 (rd.step S') q1 fun δ2 σ2 q2 w2=> ?_)
  refine hc σ2 _ _ ⟨_,δ2,_,w2,q2,fun ok H3 q3 s3=> ?_⟩
  cases ok with
  | true=>
   rw [if_pos rfl]
   refine he σ2 H3 _ ⟨_,δ2,_,w2.mono s3,q3,fun d' v H4 q4 s4 r4=> ?_⟩
   have e4:=s4 _ _ (s3 _ _ e1)
   have sD:aR H4 (ao H4 D (.lst (ys++[v]))) (fun a=> O a∨a=D) (fun a=> O a∨a=D):=⟨fun b o e n=> by rw [aJ (fun z=> n (.inr z))];exact e,fun _ _ n=> n⟩
   refine⟨ys,e4,by omega,vs.length - (i+1),by omega,acc++[d'],ys++[v],rfl,hlt,fun b o e n=> by rw [aJ n];exact s4 _ _ (s3 _ _ (s1 b o e n)),bj,by simpa using hy,?_,q4⟩
   exact((ra.mono (s3.trans s4)).append (.cons r4 .nil)).step sD
  | false=>
   rw [if_neg (by decide)]
   exact⟨vs.length - (i+1),by omega,acc,ys,rfl,hlt,fun b o e n=> s3 _ _ (s1 b o e n),s3 _ _ e1,by omega,ra.mono s3,q3⟩
 ·have e:i=vs.length:=by omega
  subst e
  refine .inl ⟨S.st _ H1 (hP D H1 hD s1) (Jm _),?_⟩
  rw [r.length,Ny (Jm _)] at q1
  have hrest:∃H2:Hp,H2 D=none∧ar H H2∧H1=ao H2 D (.lst ys):=by
   refine⟨fun b=> if b=D then none else H1 b,by simp,fun b o e=> ?_,?_⟩
   ·have n:=cT e hD
    show(if b=D then none else H1 b)=some o
    rw [if_neg n];exact s1 b o e n
   ·funext b
    by_cases z:b=D
    ·rw [z,bj];exact e1
    ·rw [aJ z];show H1 b=if b=D then none else H1 b;rw [if_neg z]
  obtain⟨H2,h2,s2,rfl⟩:=hrest
  refine k1 acc ys D H2 q1 s2 h2 (ra.step ⟨fun b o e n=> ?_,fun b _ n z=> n (.inl z)⟩)
  rw [aJ (fun z=> n (.inr z))] at e;exact e
def eZ(g:DG)(tc:DB)(te:DT)(δ0:Dl)(xs:List PyData)(Q:List PyData→Prop):Prop:=∃I:Nat→List PyData→Prop,I 0 []∧(∀i x acc,xs[i]?=some x→I i acc→g x δ0 fun δ2=> tc δ2 fun ok=> if ok=true then te δ2 fun y=> I (i+1) (acc++[y]) else I (i+1) acc)∧∀acc,I xs.length acc→Q acc
theorem kI{K:Jd}{J:It}{P:Hp→Prop}{vs:List V}{xs:List PyData}{g:TG}{dg:DG}{tc:TT}{dc:DB}{te:TE}{de:DT}{k:Nat}{fr:List Nat}{σ:St}{H:Hp}{O:Ex}{δ:Dl}{Qd:List PyData→Prop}{Q:VK}(S:cF J P vs)(gd:GD K g dg)(hf:fr.Nodup)
  (hk:∀v:V,∀σ':St,∀H':Hp,∀R:St→Hp→Prop,g v (bO k fr σ) H' R→g v (bO k fr σ) H' fun σ2 H2=> jB (bO k fr σ) σ2∧R σ2 H2)
  (hc:∀σ H Q,cg K H0 O0 dc σ H Q→tc σ H Q)(he:∀σ H Q,up K H0 O0 de σ H Q→te σ H Q)
  (hP:∀D H',H D=none→kh D H H'→P H')(r:ak K H O vs xs)(w:Wd K H0 O0 H O σ δ)(hz:vs.length≤sizeLine)(q:eZ dg dc de (dS k fr δ) xs Qd)
  (k1:∀ds us p H',Qd ds→ar H H'→H' p=none→ak K H' O us ds→Q (.ref p) (ao H' p (.lst us))):jC J g tc te k fr σ H Q:=by
 obtain⟨Iv,q0,qs,qe⟩:=q
 intro D hD
 have w0:Wd K H0 O0 H O (bO k fr σ) (dS k fr δ):=w.comp hf
 have nD:¬O D:=fun z=> w.trk D z hD
 have D0:H0 D=none:=by
  cases e:H0 D with
  | none=> rfl
  | some o=> rw [w.same _ _ e] at hD;cases hD
 have ex:∀H',kh D H H'→H' D≠none→Wd K H0 O0 H' (fun a=> O a∨a=D) (bO k fr σ) (dS k fr δ):=fun H' s' hd=> by
  have S':aR H H' O (fun a=> O a∨a=D):=⟨fun b o e _=> s' b o e (cT e hD),fun b hb hn z=> z.elim hn fun q=> hb (by rw [q];exact hD)⟩
  refine⟨fun b o e=> s' b o (w.same b o e) (fun z=> by rw [z,D0] at e;cases e),fun l z=> .inl (w.sub l z),fun l z=> z.elim (w.new l) fun q=> .inr (by rw [q];exact D0),fun l z=> ?_,w0.len,fun j y e=> ?_,w0.dis⟩
  ·by_cases ql:l=D
   ·rw [ql];exact hd
   ·have hl:=w.trk l (z.resolve_right ql)
    cases e:H l with
    | none=> exact absurd e hl
    | some o=> rw [s' l o e ql];exact fun z=> nomatch z
  ·exact(w0.sl j y e).go S' fun l o _ _ a1 _ a3=> ⟨.inl a1,s' _ _ a3 (fun z=> nD (by rw [←z];exact a1))⟩
 refine⟨fun i m H'=> ∃acc ys,m=vs.length - i∧i≤vs.length∧kh D H H'∧H' D=some (.lst ys)∧ys.length≤i∧ak K H' (fun a=> O a∨a=D) ys acc∧Iv i acc,⟨vs.length,[],[],by simp,Kp _,fun b o e n=> by rw [aJ n];exact e,bj,Kp _,.nil,q0⟩,?_⟩
 rintro i m H1 ⟨acc,ys,rfl,hi,s1,e1,hy,ra,q1⟩
 by_cases hlt:i < vs.length
 ·refine .inr ⟨S.go i H1 (hP D H1 hD s1) hlt,fun x H' y=> ?_⟩
  have yy:=S.yl i H1 x H' (hP D H1 hD s1) hlt y
  clear y
  obtain⟨e,y⟩:=yy
  subst e
  obtain⟨d,ed,rd⟩:=r.get y
  have w1:=ex _ s1 (by rw [e1];exact fun z=> nomatch z)
  have S':aR H H' O (fun a=> O a∨a=D):=⟨fun b o e _=> s1 b o e (cT e hD),fun b hb hn z=> z.elim hn fun q=> hb (by rw [q];exact hD)⟩
  refine hk x σ _ _ (gd H0 O0 _ _ _ _ x d _ _ w1 (rd.step S') (qs i d acc ed q1) fun δ2 σ2 q2 w2=> ?_)
  refine hc σ2 _ _ ⟨_,δ2,_,w2,q2,fun ok H3 q3 s3=> ?_⟩
  cases ok with
  | true=>
   rw [if_pos rfl]
   refine he σ2 H3 _ ⟨_,δ2,_,w2.mono s3,q3,fun d' v H4 q4 s4 r4=> ?_⟩
   have e4:=s4 _ _ (s3 _ _ e1)
   have sD:aR H4 (ao H4 D (.lst (ys++[v]))) (fun a=> O a∨a=D) (fun a=> O a∨a=D):=⟨fun b o e n=> by rw [aJ (fun z=> n (.inr z))];exact e,fun _ _ n=> n⟩
   refine⟨ys,e4,by omega,vs.length - (i+1),by omega,acc++[d'],ys++[v],rfl,hlt,fun b o e n=> by rw [aJ n];exact s4 _ _ (s3 _ _ (s1 b o e n)),bj,by simpa using hy,?_,q4⟩
   exact((ra.mono (s3.trans s4)).append (.cons r4 .nil)).step sD
  | false=>
   rw [if_neg (by decide)]
   exact⟨vs.length - (i+1),by omega,acc,ys,rfl,hlt,fun b o e n=> s3 _ _ (s1 b o e n),s3 _ _ e1,by omega,ra.mono s3,q3⟩
 ·have e:i=vs.length:=by omega
  subst e
  refine .inl ⟨S.st _ H1 (hP D H1 hD s1) (Jm _),?_⟩
  rw [r.length] at q1
  have hrest:∃H2:Hp,H2 D=none∧ar H H2∧H1=ao H2 D (.lst ys):=by
   refine⟨fun b=> if b=D then none else H1 b,by simp,fun b o e=> ?_,?_⟩
   ·have n:=cT e hD
    show(if b=D then none else H1 b)=some o
    rw [if_neg n];exact s1 b o e n
   ·funext b
    by_cases z:b=D
    ·rw [z,bj];exact e1
    ·rw [aJ z];show H1 b=if b=D then none else H1 b;rw [if_neg z]
  obtain⟨H2,h2,s2,rfl⟩:=hrest
  refine k1 acc ys D H2 (qe acc q1) s2 h2 (ra.step ⟨fun b o e n=> ?_,fun b _ n z=> n (.inl z)⟩)
  rw [aJ (fun z=> n (.inr z))] at e;exact e
def ic:DB:=fun _ Q=> Q true
def ie(g:TG)(k:Nat):Prop:=∀(fr:List Nat)(σ:St)(v:V)(H':Hp)(R:St→Hp→Prop),g v (bO k fr σ) H' R→g v (bO k fr σ) H' fun σ2 H2=> jB (bO k fr σ) σ2∧R σ2 H2
theorem cy:ie (gn 0) 1:=fun fr σ v H' R h=> ⟨yf,h⟩
section
variable {tg iter elt:Expr} {ifs:List Expr} {scope:Scope} {N':List Str} {k:Nat} {fr:List Nat} {g:TG} {dg:DG} {t:DT} {ta:DA} {tc:DB} {te:DT} {pos p ps:Pos}
end
def jK(t:DT)(g:DG)(tc:DB)(te:DT)(k:Nat)(fr:List Nat):DA:=fun δ Q=> t δ fun d=> ∃xs,d= .list xs∧xs.length≤sizeLine∧eZ g tc te (dS k fr δ) xs Q
def jL(t:DT)(g:DG)(tc:DB)(te:DT)(k:Nat)(fr:List Nat):DA:=fun δ Q=> t δ fun d=> ∃xs,d= .tuple xs∧xs.length≤sizeLine∧eZ g tc te (dS k fr δ) xs Q
def mQ(ta:DA)(g:DG)(tc:DB)(te:DT)(k:Nat)(fr:List Nat):DA:=fun δ Q=> ta δ fun ds=> ∃j:Int,ds=[.int j]∧-(2 ^ 62)≤j∧j < sizeLine∧eZ g tc te (dS k fr δ) (ia 0 j.toNat) Q
section
variable {tg iter elt:Expr} {ifs:List Expr} {scope:Scope} {N':List Str} {k:Nat} {fr:List Nat} {g:TG} {dg:DG} {t:DT} {ta:DA} {tc:DB} {te:DT} {pos p ps:Pos}
theorem gB(hc:X.calm=true)(S:bH X.env.scope X.N N' k fr scope)(hi:DF X H0 O0 iter t)(gd:GD X.K g dg)(hk:ie g k)(hfr:fr.Nodup)
  (hg:∀fp C s H,PG (bK X scope N' fp C s H) tg g)(hf:∀fp C s H,eF (bK X scope N' fp C s H) ifs (cg X.K H0 O0 tc))(he:∀fp C s H,PE (bK X scope N' fp C s H) elt (up X.K H0 O0 te))
  (hs:∀x,foldedSetIterable iter X.env x=pure x:=by intro _;rfl):FE X H0 O0 (.ListComp elt [⟨tg,iter,ifs,0⟩] scope pos) (jK t dg tc te k fr):=
 (mn hc S (ug hi) hg hf he hs).imp fun σ H Q uu17=> by obtain⟨O,δ,Qd,w,q,kk⟩:=uu17;exact⟨O,δ,_,w,q,fun d v H1 uu18 s1 r1=> by
  obtain⟨xs,e,hz,q1⟩:=uu18
  subst e
  obtain⟨a,vs,rfl,hq,rr⟩:=r1.lst
  refine⟨a,rfl,⟨_,hq⟩,fun D hD=> kI (cF.list hq) gd hfr (fun v _ H' R h=> hk fr σ v H' R h) (fun _ _ _ z=> z) (fun _ _ _ z=> z) (fun D H' hD s' o e=> s' _ _ e (cT e hD)) rr (w.mono s1) (by rw [rr.length];exact hz) q1 (fun ds us p H' z s' hp r'=> kk ds us p H' z (s1.trans s') hp r') D hD⟩⟩
theorem mR(hc:X.calm=true)(S:bH X.env.scope X.N N' k fr scope)(hi:DF X H0 O0 iter t)(gd:GD X.K g dg)(hk:ie g k)(hfr:fr.Nodup)
  (hg:∀fp C s H,PG (bK X scope N' fp C s H) tg g)(hf:∀fp C s H,eF (bK X scope N' fp C s H) ifs (cg X.K H0 O0 tc))(he:∀fp C s H,PE (bK X scope N' fp C s H) elt (up X.K H0 O0 te))
  (hs:∀x,foldedSetIterable iter X.env x=pure x:=by intro _;rfl):FE X H0 O0 (.ListComp elt [⟨tg,iter,ifs,0⟩] scope pos) (jL t dg tc te k fr):=
 (mn hc S (uh hi) hg hf he hs).imp fun σ H Q uu19=> by obtain⟨O,δ,Qd,w,q,kk⟩:=uu19;exact⟨O,δ,_,w,q,fun d v H1 uu20 s1 r1=> by
  obtain⟨xs,e,hz,q1⟩:=uu20
  subst e
  obtain⟨a,vs,rfl,hq,rr⟩:=r1.tup
  refine⟨a,rfl,⟨_,hq⟩,fun D hD=> kI (cF.tup hq) gd hfr (fun v _ H' R h=> hk fr σ v H' R h) (fun _ _ _ z=> z) (fun _ _ _ z=> z) (fun D H' hD s' o e=> s' _ _ e (cT e hD)) rr (w.mono s1) (by rw [rr.length];exact hz) q1 (fun ds us p H' z s' hp r'=> kk ds us p H' z (s1.trans s') hp r') D hD⟩⟩
theorem uM(hc:X.calm=true){a:Expr}(S:bH X.env.scope X.N N' k fr scope)(hgl:Gl X "range")(hm:X.mg "range"=none)(ha:PA X [a] (gz X.K H0 O0 ta))(gd:GD X.K g dg)(hk:ie g k)(hfr:fr.Nodup)
  (hg:∀fp C s H,PG (bK X scope N' fp C s H) tg g)(hf:∀fp C s H,eF (bK X scope N' fp C s H) ifs (cg X.K H0 O0 tc))(he:∀fp C s H,PE (bK X scope N' fp C s H) elt (up X.K H0 O0 te))
  (hst:starEach [a] X.env=[(false,eval a X.env)]:=by rfl)(hs:∀x,foldedSetIterable (.Call (.Name "range" p) [a] [] ps) X.env x=pure x:=by intro _;rfl):
  FE X H0 O0 (.ListComp elt [⟨tg,(.Call (.Name "range" p) [a] [] ps),ifs,0⟩] scope pos) (mQ ta dg tc te k fr):=
 (mn hc S (xa hgl hm ha hst) hg hf he hs).imp fun σ H Q uu21=> by obtain⟨O,δ,Qd,w,q,kk⟩:=uu21;exact⟨O,δ,_,w,q,fun ds vs H1 uu22 s1 r1=> by
  obtain⟨j,e,b1,b2,q1⟩:=uu22
  subst e
  cases r1 with
  | cons r1 r2=>
   cases r2
   cases r1.int
   have hb:(sizeLine:Int) < 2 ^ 62:=by decide
   exact⟨j,rfl,b1,by omega,fun D hD=> kI (P:=fun _=> True) cF.rng gd hfr (fun v _ H' R h=> hk fr σ v H' R h) (fun _ _ _ z=> z) (fun _ _ _ z=> z) (fun _ _ _ _=> trivial) (ak.rng _) (w.mono s1) (by rw [Jf,Mf];omega) q1 (fun ds us p H' z s' hp r'=> kk ds us p H' z (s1.trans s') hp r') D hD⟩⟩
end
end
end L2
namespace L2
open PySem PySem.Spec PyProof.Rows PySem.W
section
variable {K:Jd}
def dI(g:Int→Int→PyData):PyData→PyData→(PyData→Prop)→Prop:=fun x y Q=> ∃i j,x= .int i∧y= .int j∧Q (g i j)
def mS(C:Int→Int→Prop)(g:Int→Int→PyData):PyData→PyData→(PyData→Prop)→Prop:=fun x y Q=> ∃i j,x= .int i∧y= .int j∧C i j∧Q (g i j)
theorem bF{g:Int→Int→Int}:cL K (fF fun i j=> .int (g i j)) (dI fun i j=> .int (g i j)):=fun H O x y dx dy Qd R _ hx hy uu23 k=> by
 obtain⟨i,j,e1,e2,q⟩:=uu23
 subst e1 e2;cases hx.int;cases hy.int;exact⟨i,j,rfl,rfl,k _ _ H q (ar.refl _) (.int _)⟩
theorem dJ{g:Int→Int→Bool}:cL K (fF fun i j=> .bl (g i j)) (dI fun i j=> .bool (g i j)):=fun H O x y dx dy Qd R _ hx hy uu24 k=> by
 obtain⟨i,j,e1,e2,q⟩:=uu24
 subst e1 e2;cases hx.int;cases hy.int;exact⟨i,j,rfl,rfl,k _ _ H q (ar.refl _) (.bl _)⟩
theorem cN{C:Int→Int→Prop}{g:Int→Int→Int}:cL K (rI C fun i j=> .int (g i j)) (mS C fun i j=> .int (g i j)):=fun H O x y dx dy Qd R _ hx hy uu25 k=> by
 obtain⟨i,j,e1,e2,c,q⟩:=uu25
 subst e1 e2;cases hx.int;cases hy.int;exact⟨i,j,rfl,rfl,c,k _ _ H q (ar.refl _) (.int _)⟩
def yt(K:Jd):R2:=fun x y H Q=> ∃O dx dy,Sh K H O x dx∧Sh K H O y dy∧cV dx∧cV dy∧Q (.bl (JD dx dy)) H
def yu(K:Jd):R2:=fun x y H Q=> ∃O dx dy,Sh K H O x dx∧Sh K H O y dy∧cV dx∧cV dy∧Q (.bl (!JD dx dy)) H
theorem cz{X:Cx}(hu:X.A.units+64 < cLine):bW X (compareOp .Eq) (yt X.K):=by
 intro pins s σ H x y v u Q I rx ry h
 obtain⟨O,dx,dy,hx,hy,sx,sy,q⟩:=h
 obtain⟨as,ra⟩:=fN I hx.all (Kj sx) rx
 obtain⟨bs,rb⟩:=fN I hy.all (Kj sy) ry
 exact SeqAt.compareEq_shaped ra rb sx sy hu (bG I q rfl)
theorem kJ{X:Cx}(hu:X.A.units+64 < cLine):bW X (compareOp .NotEq) (yu X.K):=by
 intro pins s σ H x y v u Q I rx ry h
 obtain⟨O,dx,dy,hx,hy,sx,sy,q⟩:=h
 obtain⟨as,ra⟩:=fN I hx.all (Kj sx) rx
 obtain⟨bs,rb⟩:=fN I hy.all (Kj sy) ry
 exact SeqAt.compareNe_shaped ra rb sx sy hu (bG I q rfl)
def kK:PyData→PyData→(PyData→Prop)→Prop:=fun x y Q=> cV x∧cV y∧Q (.bool (JD x y))
def mT:PyData→PyData→(PyData→Prop)→Prop:=fun x y Q=> cV x∧cV y∧Q (.bool (!JD x y))
theorem cA:cL K (yt K) kK:=fun H O x y dx dy Qd R _ hx hy uu26 k=> by obtain⟨a,b,q⟩:=uu26;exact⟨O,dx,dy,hx,hy,a,b,k _ _ H q (ar.refl _) (.bl _)⟩
theorem kL:cL K (yu K) mT:=fun H O x y dx dy Qd R _ hx hy uu27 k=> by obtain⟨a,b,q⟩:=uu27;exact⟨O,dx,dy,hx,hy,a,b,k _ _ H q (ar.refl _) (.bl _)⟩
def mU:PyData→PyData→(PyData→Prop)→Prop:=fun x y Q=> ∃ds i d,x= .list ds∧y= .int i∧atI ds i=some d∧Q d
def fQ:PyData→PyData→(PyData→Prop)→Prop:=fun x y Q=> ∃ds i d,x= .tuple ds∧y= .int i∧atI ds i=some d∧Q d
theorem ak.atI{H:Hp}{O:Ex}{vs:List V}{ds:List PyData}{i:Int}{d:PyData}(r:ak K H O vs ds)(e:L2.atI ds i=some d):∃v,L2.atI vs i=some v∧Dt K H O v d:=by
 unfold L2.atI at e⊢
 rw [r.length]
 cases q:fI ds.length i with
 | none=> rw [q] at e;cases e
 | some j=> rw [q] at e;exact r.getD e
theorem cj:cL K (pJ K) mU:=fun H O x y dx dy Qd R _ hx hy uu28 k=> by
 obtain⟨ds,i,d,e1,e2,e3,q⟩:=uu28
 subst e1 e2
 obtain⟨a,vs,rfl,hs,r⟩:=hx.lst
 cases hy.int
 obtain⟨v,hv,rv⟩:=r.atI e3
 exact⟨a,vs,i,v,rfl,rfl,hs,hv,k d v H q (ar.refl _) rv⟩
theorem aF:cL K (pK K) fQ:=fun H O x y dx dy Qd R _ hx hy uu29 k=> by
 obtain⟨ds,i,d,e1,e2,e3,q⟩:=uu29
 subst e1 e2
 obtain⟨a,vs,rfl,hs,r⟩:=hx.tup
 cases hy.int
 obtain⟨v,hv,rv⟩:=r.atI e3
 exact⟨a,vs,i,v,rfl,rfl,hs,hv,k d v H q (ar.refl _) rv⟩
end
section
variable {X:Cx} {H0:Hp} {O0:Ex}
def cn(xs:List PyData)(lo hi:Option Int):List PyData:=(xs.drop (HT.sIx xs.length 0 lo)).take (HT.sIx xs.length xs.length hi - HT.sIx xs.length 0 lo)
theorem ak.cut{K:Jd}{H:Hp}{O:Ex}{vs:List V}{ds:List PyData}(r:ak K H O vs ds)(lo hi:Option Int):ak K H O (hV vs lo hi) (cn ds lo hi):=by
 unfold hV cn;rw [r.length];exact(r.drop _).take _
abbrev DO:=Dl→(Option Int→Prop)→Prop
def gC(K:Jd)(H0:Hp)(O0:Ex)(t:DO):TO:=fun σ H R=> ∃O δ Qd,Wd K H0 O0 H O σ δ∧t δ Qd∧∀d H',Qd d→ar H H'→R d H'
def kM:DO:=fun _ Q=> Q none
def kN(t:DT):DO:=fun δ Q=> t δ fun d=> ∃i,d= .int i∧Q (some i)
theorem PO.imp{X:Cx}{e:Option Expr}{t u:TO}(h:PO X e t)(i:∀σ H Q,u σ H Q→t σ H Q):PO X e u:=fun pins s σ H Q I z=> h pins s σ H Q I (i σ H Q z)
theorem ji:PO X none (gC X.K H0 O0 kM):=C5.imp fun σ H Q uu30=> by obtain⟨O,δ,Qd,w,q,k⟩:=uu30;exact k none H q (ar.refl _)
theorem eR{e:Expr}{t:DT}(h:DE X H0 O0 e t):PO X (some e) (gC X.K H0 O0 (kN t)):=(C6 h).imp fun σ H Q uu31=> by obtain⟨O,δ,Qd,w,q,k⟩:=uu31;exact⟨O,δ,_,w,q,fun d v H1 uu32 s1 r1=> by obtain⟨i,e,q1⟩:=uu32;subst e;cases r1;exact⟨i,rfl,k _ H1 q1 s1⟩⟩
def mV(t:DT)(tl th:DO):DA:=fun δ Q=> t δ fun d=> tl δ fun l=> th δ fun u=> ∃xs,d= .list xs∧Q (cn xs l u)
theorem mW{e:Expr}{lo hi:Option Expr}{t:DT}{tl th:DO}{pos p2:Pos}(h:DF X H0 O0 e t)(hl:PO X lo (gC X.K H0 O0 tl))(hu:PO X hi (gC X.K H0 O0 th)):FE X H0 O0 (.Subscript e (.Slice lo hi none p2) pos) (mV t tl th):=
 (pI xV h hl hu).imp fun σ H Q uu33=> by obtain⟨O,δ,Qd,w,q,k⟩:=uu33;exact⟨O,δ,_,w,q,fun d v H1 q1 s1 r1=> ⟨O,δ,_,w.mono s1,q1,fun l H2 q2 s2=> ⟨O,δ,_,w.mono (s1.trans s2),q2,fun u H3 uu34 s3=> by
  obtain⟨xs,e,q3⟩:=uu34
  subst e
  obtain⟨a,vs,rfl,h1,d1⟩:=(r1.mono (s2.trans s3)).lst
  exact⟨a,vs,rfl,h1,fun p hp=> k _ _ _ _ q3 (s1.trans (s2.trans s3)) hp (d1.cut l u)⟩⟩⟩⟩
theorem aq{a b:Expr}{ta tb:DT}{r:R2}{rd:PyData→PyData→(PyData→Prop)→Prop}{pos:Pos}(ho:mm X r)(hd:cL X.K r rd)(ha:DF X H0 O0 a ta)(hb:DF X H0 O0 b tb)(hs:∀v u,subscripted b false v u=operate [v,u] (getItem v u):=by intro _ _;rfl):DE X H0 O0 (.Subscript a b pos) (cQ rd ta tb):=(fK ho ha hb hs).imp (pQ hd)
def mX:List PyData→(PyData→Prop)→Prop:=fun ds Q=> ∃xs,(ds=[.list xs]∨ds=[.tuple xs])∧Q (.int xs.length)
def mY:List PyData→(PyData→Prop)→Prop:=fun ds Q=> ∃xs,ds=[eQ xs]∧Q (.int xs.length)
theorem gE{K:Jd}:fo K (fun xs H Q=> ∃p ys,xs=[.ref p]∧(aP K H p ys∨bB K H p ys)∧Q (.int ys.length) H) mX:=fun H O xs ds Qd R _ hs uu35 k=> by
 obtain⟨ys,e,q⟩:=uu35
 rcases e with e | e <;> subst e
 ·cases hs with
  | cons h r=>
   cases r
   obtain⟨a,vs,rfl,h1,d1⟩:=h.lst
   exact⟨a,vs,rfl,.inl h1,by rw [d1.length];exact k _ _ H q (ar.refl _) (.int _)⟩
 ·cases hs with
  | cons h r=>
   cases r
   obtain⟨a,vs,rfl,h1,d1⟩:=h.tup
   exact⟨a,vs,rfl,.inr h1,by rw [d1.length];exact k _ _ H q (ar.refl _) (.int _)⟩
theorem yw{K:Jd}:fo K (fun xs H Q=> ∃p ys,xs=[.ref p]∧(aP K H p ys∨bB K H p ys)∧Q (.int ys.length) H) mY:=fun H O xs ds Qd R _ hs uu36 k=> by
 obtain⟨ys,e,q⟩:=uu36
 subst e
 cases hs with
 | cons h r=>
  cases r
  obtain⟨a,vs,rfl,h1,d1⟩:=h.scr
  exact⟨a,vs,rfl,.inl h1,by rw [d1.length];exact k _ _ H q (ar.refl _) (.int _)⟩
def mZ:List PyData→(PyData→Prop)→Prop:=fun ds Q=> ∃xs,ds=[.list xs]∧Q (.tuple xs)
theorem ig{K:Jd}:fo K (fun xs H Q=> ∃p ys,xs=[.ref p]∧((aP K H p ys∧∀l,H l=none→Q (.ref l) (ao H l (.tup ys)))∨(bB K H p ys∧Q (.ref p) H))) mZ:=fun H O xs ds Qd R tr hs uu37 k=> by
 obtain⟨ys,e,q⟩:=uu37
 subst e
 cases hs with
 | cons h r=>
  cases r
  obtain⟨a,vs,rfl,h1,d1⟩:=h.lst
  exact⟨a,vs,rfl,.inl ⟨h1,fun l hl=> k _ _ _ q (ar.new hl) (.tup (.inl bj) (fun z=> tr l z hl) (d1.mono (ar.new hl)))⟩⟩
theorem ak.bools{K:Jd}{H:Hp}{O:Ex}:∀{bs:List Bool}{vs:List V},ak K H O vs (bs.map Lf)→vs=bs.map V.bl
 | [],_,r=> by rw [Kc] at r;cases r;rfl
 | b::bs,_,r=> by
  rw [Jj] at r
  cases r with
  | cons h r=> cases h;rw [Jj,ak.bools r]
def m4(g:List Bool→Bool):List PyData→(PyData→Prop)→Prop:=fun ds Q=> ∃bs:List Bool,ds=[.list (bs.map .bool)]∧Q (.bool (g bs))
theorem yx{K:Jd}{g:List Bool→Bool}:fo K (fun xs H Q=> ∃(a:Addr)(bs:List Bool),xs=[.ref a]∧aP K H a (bs.map V.bl)∧Q (.bl (g bs)) H) (m4 g):=fun H O xs ds Qd R tr hs uu38 k=> by
 obtain⟨bs,e,q⟩:=uu38
 subst e
 cases hs with
 | cons h r=>
  cases r
  obtain⟨a,vs,rfl,h1,d1⟩:=h.lst
  cases d1.bools
  exact⟨a,bs,rfl,h1,k _ _ H q (ar.refl _) (.bl _)⟩
def m5(g:Int→Int→Int):List PyData→(PyData→Prop)→Prop:=fun ds Q=> ∃i j,ds=[.int i,.int j]∧Q (.int (g i j))
theorem kO{K:Jd}{g:Int→Int→Int}:fo K (fun xs H Q=> ∃i j,xs=[.int i,.int j]∧Q (.int (g i j)) H) (m5 g):=fun H O xs ds Qd R tr hs uu39 k=> by
 obtain⟨i,j,e,q⟩:=uu39
 subst e
 cases hs with
 | cons h r=>
  cases r with
  | cons h2 r=>
   cases r;cases h.int;cases h2.int
   exact⟨i,j,rfl,k _ _ H q (ar.refl _) (.int _)⟩
def kP:PyData→String
 | .none=> "NoneType" | .bool _=> "bool" | .int _=> "int" | .str _=> "str" | .list _=> "list" | .tuple _=> "tuple" | .dict _=> "dict"
end
section
variable {P:Program} {w:World} {K:Jd} {mg:Str→Option Value} {base:Heap}
def fb(N:List Str)(ds:List PyData):Dl:=ds.map (fun d=> some (.v d))++Jx (N.length - ds.length) none
theorem yz{H:Hp}{O:Ex}{N:List Str}{vs:List V}{ds:List PyData}(tr:∀l,O l→H l≠none)(r:ak K H O vs ds):Wd K H O H O (start N vs) (fb N ds):=by
 have hl:=r.length
 have at1:∀(i:Nat) y,(fb N ds)[i]?=some y→(∃d,ds[i]?=some d∧y=some (.v d))∨y=none:=fun i y e=> by
  unfold fb at e
  by_cases h:i < ds.length
  ·rw [K3 (by simpa using h),JB] at e
   cases q:ds[i]? with
   | none=> rw [q] at e;cases e
   | some d=> rw [q] at e;exact .inl ⟨d,rfl,(JW e).symm⟩
  ·rw [KZ (by simpa using M9 h),Lz] at e
   split at e
   ·exact .inr (JW e).symm
   ·cases e
 refine⟨ar.refl _,fun _ z=> z,fun _ z=> .inl z,tr,by simp [start,fb,hl],fun i y e=> ?_,fun i j ds' es l e1=> ?_⟩
 ·rcases at1 i y e with⟨d,hd,rfl⟩ | rfl
  ·obtain⟨v,hv,rv⟩:=r.getD hd
   refine⟨v,?_,rv⟩
   unfold start
   rw [K3 (by simpa using(Jr.mp hv).1),JB,hv];rfl
  ·exact Ko
 ·rcases at1 i _ e1 with⟨d,_,z⟩ | z
  ·cases z;intro h;exact h.elim
  ·cases z
theorem aV.okD{x qual:Str}{st:Stmt}{f:Addr}{fd:FuncData}{N ps:List Str}{k:Nat}{F:List PyData→(PyData→Prop)→Prop}(Fu:aV K x qual st f fd)(S:bg N ps (ah st))(len:∀ds Q,F ds Q→ds.length=ps.length)
  (hbody:∀(cdv:Value) (A:Around) (outer:List Env) (s:Shared) (H:Hp) (O:Ex) (ds:List PyData) (Q:PyData→Prop) (E:XK),bE k (A.deeper (envOfC qual (ah st) s.heap.objs.size f cdv))→F ds Q→
   ∃t,bM (hU CX0 P w K mg base N qual (ah st) f cdv A outer s H E).nox (az st) (bI K H O t)∧t {nx:=fun _=> Q .none,rt:=Q} (fb N ds)):aK P w K mg base CX0 (k+1) f fd ps (bo K F):=by
 refine Fu.ok S (fun vs H Q E h=> ?_) (fun cdv A outer s H vs Q E hr h=> ?_)
 ·obtain⟨O,ds,Qd,_,r,q,_⟩:=h
  rw [r.length];exact len _ _ q
 ·obtain⟨O,ds,Qd,tr,r,q,k⟩:=h
  obtain⟨t,ht,q'⟩:=hbody cdv A outer s H O ds Qd E hr q
  refine⟨_,ht,O,_,_,yz tr r,q',fun O' δ' σ' H' z w' S'=> ?_,fun d v H' z s' r'=> k d v H' z s' r',fun _ _ _ _ z=> z.elim,fun _ _ _ _ z=> z.elim⟩
  exact k _ _ _ z w'.same .non
end
end L2
namespace L2
open PySem PySem.Spec PyProof.Rows PySem.W
section
variable {X:Cx} {H0:Hp} {O0:Ex}
theorem jj:eF X [] (cg X.K H0 O0 ic):=fun pins s σ H Q I h=> by
 obtain⟨O,δ,Qd,w,q,k⟩:=h
 exact x8 pins s σ H Q I (k true H q (ar.refl _))
theorem Ed:cP X (.builtin "isinstance") (fun xs H Q=> ∃O d T b x,xs=[x,.ty T]∧Dt X.K H O x d∧(∀x,d≠ .dict [(.none,x)])∧kitOne X.K (.type (kP d)) (.type T)=some b∧Q (.bl b) H):=by
 intro pins s σ H xs us Q I r h
 obtain⟨O,d,T,b,x,rfl,hd,hp,hk,q⟩:=h
 obtain⟨u,w',rfl,rx,rt⟩:=pB r
 cases (show w'=Ox T from rt)
 have fin:∀tk,EP X pins σ Q (.bool b) {s with toks:=tk}:=fun tk=> ⟨.bl b,H,I.tok tk,rfl,q⟩
 cases hd with
 | non=> cases (show u=LA from rx);exact kia_one kitx_none I.kIn Ko hk (fun z=> nomatch z) fin
 | bl y=> cases (show u=Le y from rx);exact kia_one kitx_bool I.kIn Ko hk (fun z=> nomatch z) fin
 | int i=> obtain⟨t,e⟩:=(show ∃t,u=Lw i t from rx);cases e;exact kia_one kitx_int I.kIn Ko hk (fun z=> nomatch z) fin
 | str y=> obtain⟨t,e⟩:=(show ∃t,u=Lx y t from rx);cases e;exact kia_one kitx_str I.kIn Ko hk (fun z=> nomatch z) fin
 | @tup a xs ds h n rr=>
  cases (show u=JP a from rx)
  obtain⟨its,rv,⟨o,e,c,_⟩,_⟩:=I.tuple (.inl h)
  exact kia_one kitx_tuple I.kIn ⟨o,e,c⟩ hk (fun z=> nomatch z) fin
 | @tupK a xs ds h rr=>
  cases (show u=JP a from rx)
  obtain⟨its,rv,⟨o,e,c,_⟩,_⟩:=I.tuple h.of0
  exact kia_one kitx_tuple I.kIn ⟨o,e,c⟩ hk (fun z=> nomatch z) fin
 | @lst a xs ds h n rr=>
  cases (show u=JP a from rx)
  obtain⟨its,rv,⟨o,_,e,c,_⟩,_⟩:=I.list (.inl h)
  exact kia_one kitx_list I.kIn ⟨o,e,c⟩ hk (fun z=> nomatch z) fin
 | pack h n=> exact absurd rfl (hp _)
 | purse h n=> exact absurd rfl (hp _)
 | scr h r=> exact absurd rfl (hp _)
 | obj h e n r=> exact absurd rfl (hp _)
 | @dct0 a h n=>
  cases (show u=JP a from rx)
  obtain⟨_,_,_,_,o,_,_,e,c,_⟩:=(show cf X.prog X.w H s.heap a (.dK []) from I.hok a _ h)
  exact kia_one kitx_dict I.kIn ⟨o,e,c.1⟩ hk (fun z=> nomatch z) fin
 | @dic a ob kv ks kp ds h e1 e2 n rr=>
  cases (show u=JP a from rx)
  obtain⟨_,_,_,_,o,_,_,e,c,_⟩:=(show cf X.prog X.w H s.heap a (.dK kv) from(I.hok a _ h).2)
  exact kia_one kitx_dict I.kIn ⟨o,e,c.1⟩ hk (fun z=> nomatch z) fin
def kQ(K:Jd)(T:String)(t:DT):DT:=fun δ Q=> t δ fun d=> ∃b,kitOne K (.type (kP d)) (.type T)=some b∧(∀x,d≠ .dict [(.none,x)])∧Q (.bool b)
theorem Ee{T:String}{a c:Expr}{t:DT}{np p:Pos}(hg:Gl X "isinstance")(hm:X.mg "isinstance"=none)(hv:bootBuiltins "isinstance"=some (.builtin "isinstance"))(ha:DF X H0 O0 a t)(hc:PE X c (tC (.ty T)))
  (hs:starEach [a,c] X.env=(false,eval a X.env)::starEach [c] X.env:=by rfl)(hs2:starEach [c] X.env=[(false,eval c X.env)]:=by rfl)(hb:(backTo p (starEach [c] X.env)).any (·.1)=false:=by rfl):DE X H0 O0 (.Call (.Name "isinstance" np) [a,c] [] p) (kQ X.K T t):=
 (bX Ed hg hm hv (bx ha (bx hc bZ hs2) hs) (he:=hs) (hpl:=hb)).imp fun σ H Q uu40=> by obtain⟨O,δ,Qd,w,q,k⟩:=uu40;exact⟨O,δ,_,w,q,fun d v H1 uu41 s1 r1=> by obtain⟨b,e,hp,q1⟩:=uu41;exact⟨fun _=> False,d,T,b,v,rfl,r1.all,hp,e,k _ _ H1 q1 s1 (.bl b)⟩⟩
def m6:PyData→PyData→(PyData→Prop)→Prop:=fun x y Q=> ∃i j,x= .str i∧y= .str j∧i.length+j.length≤sizeLine∧Q (.str (i++j))
theorem yA{K:Jd}:cL K (fun x y H Q=> ∃i j,x= .str i∧y= .str j∧i.length+j.length≤sizeLine∧Q (.str (i++j)) H) m6:=fun H O x y dx dy Qd R tr hx hy uu42 k=> by
 obtain⟨i,j,e1,e2,hz,q⟩:=uu42
 subst e1 e2;cases hx.str;cases hy.str;exact⟨i,j,rfl,rfl,hz,k _ _ H q (ar.refl _) (.str _)⟩
def m7:PyData→PyData→(PyData→Prop)→Prop:=fun x y Q=> ∃z i c,x= .str z∧y= .int i∧z.length≤sizeLine∧atI z.cps.toList i=some c∧Q (.str ⟨#[c]⟩)
theorem yB{K:Jd}:cL K xT m7:=fun H O x y dx dy Qd R tr hx hy uu43 k=> by
 obtain⟨z,i,c,e1,e2,hz,e3,q⟩:=uu43
 subst e1 e2;cases hx.str;cases hy.int;exact⟨z,i,c,rfl,rfl,hz,e3,k _ _ H q (ar.refl _) (.str _)⟩
def Ef:V→Option Int→Option Int→Hp→VK→Prop:=fun x lo hi H Q=> ∃z,x= .str z∧z.length≤sizeLine∧Q (.str (Txt.slice z lo hi)) H
theorem Eg:mj X Ef:=by
 intro pins s σ H x v vl vu lo hi sl Q I rx hs pl pu h
 obtain⟨z,rfl,hz,q⟩:=h
 obtain⟨t,rfl⟩:=rx
 have e1:∃l:Option (Int×Tok),vl=partValue l∧l.map (·.1)=lo:=by
  cases pl with
  | none=> exact⟨none,rfl,rfl⟩
  | int i t=> exact⟨some (i,t),rfl,rfl⟩
 have e2:∃l:Option (Int×Tok),vu=partValue l∧l.map (·.1)=hi:=by
  cases pu with
  | none=> exact⟨none,rfl,rfl⟩
  | int i t=> exact⟨some (i,t),rfl,rfl⟩
 obtain⟨l,rfl,rfl⟩:=e1
 obtain⟨u,rfl,rfl⟩:=e2
 refine⟨"str",_,F.slot_str_getitem.lookup,typeIs_str _ _ _,wpAny_getItem_str_slice (l:=l) (u:=u) (st:=none) hs rfl ?_⟩
 exact post_val_or_str ⟨JL (Txt.slice_le z _ _) hz,fun t' k=> ⟨.str (Txt.slice z (l.map (·.1)) (u.map (·.1))),H,I.tok _,⟨_,rfl⟩,q⟩⟩
def m8(t:DT)(tl th:DO):DT:=fun δ Q=> t δ fun d=> tl δ fun l=> th δ fun u=> ∃z,d= .str z∧z.length≤sizeLine∧Q (.str (Txt.slice z l u))
theorem yC{e:Expr}{lo hi:Option Expr}{t:DT}{tl th:DO}{pos p2:Pos}(h:DF X H0 O0 e t)(hl:PO X lo (gC X.K H0 O0 tl))(hu:PO X hi (gC X.K H0 O0 th)):DE X H0 O0 (.Subscript e (.Slice lo hi none p2) pos) (m8 t tl th):=
 (pI Eg h hl hu).imp fun σ H Q uu44=> by obtain⟨O,δ,Qd,w,q,k⟩:=uu44;exact⟨O,δ,_,w,q,fun d v H1 q1 s1 r1=> ⟨O,δ,_,w.mono s1,q1,fun l H2 q2 s2=> ⟨O,δ,_,w.mono (s1.trans s2),q2,fun u H3 uu45 s3=> by
  obtain⟨z,e,hz,q3⟩:=uu45
  subst e
  cases r1.str
  exact⟨z,rfl,hz,k _ _ H3 q3 (s1.trans (s2.trans s3)) (.str _)⟩⟩⟩⟩
theorem Eh{K:Jd}{H:Hp}{O:Ex}:∀{ys:List Str}{vs:List V}{us:List Value},ak K H O vs (ys.map Jh)→aH vs us→StrsAre us ys:=by
 intro ys
 induction ys with
 | nil=> intro vs us r rv;rw [Kc] at r;cases r;cases rv;exact .nil
 | cons y ys ih=>
  intro vs us r rv
  rw [Jj] at r
  cases r with
  | cons h r=>
   cases h
   cases rv with
   | cons r1 r2=>
    obtain⟨t,rfl⟩:=r1
    exact .cons y t (ih r r2)
theorem Ei:xS X "str.join" (fun x xs H Q=> ∃(O:Ex)(z:Str)(a:V)(ys:List Str),x= .str z∧xs=[a]∧Sh X.K H O a (.list (ys.map .str))∧(ys.map (·.length)).sum+ys.length*z.length≤16777216∧Q (.str (Txt.join z ys)) H):=by
 intro pins s σ H x xs v us Q I rx rs h
 obtain⟨O,z,a,ys,rfl,rfl,ha,hz,q⟩:=h
 obtain⟨t,rfl⟩:=rx
 obtain⟨u,rfl,ru⟩:=cU rs
 obtain⟨l,vs,rfl,hl,dl⟩:=ha.lst
 cases ru
 obtain⟨its,rv,pl,_⟩:=I.list hl
 exact join_list pl.isList (by simpa using Eh dl rv) hz fun t' k=> ⟨.str _,H,I.tok _,⟨_,rfl⟩,q⟩
def m9(to:DT)(t:DT):DT:=fun δ Q=> to δ fun x=> ∃z:Str,x= .str z∧t δ fun y=> ∃(ys:List Str),y= .list (ys.map .str)∧(ys.map (·.length)).sum+ys.length*z.length≤16777216∧Q (.str (Txt.join z ys))
theorem Ej{o e:Expr}{to t:DT}{apos cpos:Pos}(ho:DE X H0 O0 o to)(ha:DF X H0 O0 e t)(hbase:attributeBase o "join" X.env (eval o X.env)=eval o X.env:=by rfl)
  (hfew:((backTo cpos (starEach [e] X.env)).all (fun x=> !x.1) && (backToKw cpos (keywordEach [] X.env)).all (fun x=> x.1.isSome) && decide ([e].length+([]:List Keyword).length+(if ([]:List Keyword).isEmpty then 0 else 1) < 30))=true:=by rfl)
  (hline:(apos.endLine==cpos.line)=true:=by rfl)(hst:starEach [e] X.env=(false,eval e X.env)::starEach [] X.env:=by rfl)(hplain:(backTo cpos (starEach [] X.env)).any (·.1)=false:=by rfl):
  DE X H0 O0 (.Call (.Attribute o "join" apos) [e] [] cpos) (m9 to t):=
 (uD PySem.F.plainAttrs_str PySem.F.slot_str_join PySem.F.type_str_join Ei ho (bx ha bZ hst) hbase hfew hline hst hplain).imp fun σ H Q uu46=> by obtain⟨O,δ,Qd,w,q,k⟩:=uu46;exact⟨O,δ,_,w,q,fun x v H1 uu47 s1 r1=> by
  obtain⟨z,e,q1⟩:=uu47
  subst e
  cases r1
  exact⟨rfl,O,δ,_,w.mono s1,q1,fun y u H2 uu48 s2 r2=> by obtain⟨ys,e,hz,q2⟩:=uu48;subst e;exact⟨O,z,u,ys,rfl,rfl,r2,hz,k _ _ H2 q2 (s1.trans s2) (.str _)⟩⟩⟩
def nc:List PyData→(PyData→Prop)→Prop:=fun ds Q=> (∃i,ds=[.int i]∧Q (.int i))∨∃b,ds=[.bool b]∧Q (.int (if b then 1 else 0))
theorem pX{K:Jd}:fo K (fun xs H Q=> (∃i,xs=[.int i]∧Q (.int i) H)∨∃k,xs=[.bl k]∧Q (.int (if k then 1 else 0)) H) nc:=fun H O xs ds Qd R tr hs h k=> by
 rcases h with⟨i,e,q⟩ | ⟨b,e,q⟩ <;> subst e
 ·cases hs with
  | cons h r=> cases r;cases h.int;exact .inl ⟨i,rfl,k _ _ H q (ar.refl _) (.int _)⟩
 ·cases hs with
  | cons h r=> cases r;cases h.bl;exact .inr ⟨b,rfl,k _ _ H q (ar.refl _) (.int _)⟩
end
end L2
namespace L2
open PySem PySem.Spec PyProof.Rows PySem.W
section
variable {X:Cx} {pins:List (Addr×Obj)} {σ:St} {H:Hp} {s:Shared}
theorem af.swap{p:Addr}{o':HO}(I:af X pins σ H s)(mu:j4 (H p))(new:cf X.prog X.w (ao H p o') s.heap p o'):af X pins σ (ao H p o') s:=by
 have hp:∃o,H p=some o:=by
  cases e:H p with
  | none=> rw [e] at mu;exact mu.elim
  | some o=> exact⟨o,rfl⟩
 obtain⟨o,ho⟩:=hp
 have nn:∀{b:Addr},H b=none→b≠p:=fun hb z=> by rw [z,ho] at hb;cases hb
 have nt:∀{b:Addr}{xs:List V},H b=some (.tup xs)→b≠p:=fun hb z=> by rw [z] at hb;rw [hb] at mu;exact mu
 have nw:∀{b y:Addr},H b=some (.own y)→b≠p:=fun hb z=> by rw [z] at hb;rw [hb] at mu;exact mu
 have nf:∀{b:Addr}{ob:Obj}{u:HO},H b=some (.frz ob u)→b≠p:=fun hb z=> by rw [z] at hb;rw [hb] at mu;exact mu
 have nb:∀{b:Addr}{ps:Array Value},H b=some (.tbl ps)→b≠p:=fun hb z=> by rw [z] at hb;rw [hb] at mu;exact mu
 have ub:=I.base
 refine⟨I.ok,I.os,I.bare,⟨ub.keep,ub.slot,fun b ob e n hx=> ?_,ub.there,fun b xs z=> ?_,fun b ob u z=> ?_,fun b ps z=> ?_⟩,I.loc,I.cell,?_,fun x c e=> ?_,fun q hq=> ?_,fun b u e=> ?_,I.len⟩
 ·have:=ub.free b ob e n hx;rw [aJ (nn this)];exact this
 ·have:=ub.tups b xs z;rw [aJ (nt this)];exact this
 ·have:=ub.frzs b ob u z;rw [aJ (nf this)];exact this
 ·obtain⟨m,this⟩:=ub.tbls b ps z;exact⟨m,by rw [aJ (nb this)];exact this⟩
 ·rw [aJ (nn I.free)];exact I.free
 ·have:=I.freeC x c e;rw [aJ (nn this)];exact this
 ·obtain⟨a,b,c⟩:=I.pin q hq
  exact⟨a,by rw [aJ (nn b)];exact b,c⟩
 ·by_cases hb:b=p
  ·subst hb;rw [bj] at e;cases e;exact new
  ·rw [aJ hb] at e
   exact(I.hok b u e).stay (fun _ _ _ q=> q) (fun c z=> by rw [aJ (nw z)];exact z) fun c xs z=> by rw [aJ (nt z)];exact z
theorem af.open3{p:Addr}(I:af X pins σ H s)(e:H p=some (fM p)):∃a b c,af X pins σ (ao H p (.lst [.int a,.int b,.int c])) s:=by
 obtain⟨⟨a,b,c,t,u,v,k,h⟩,_,_⟩:=(show cf X.prog X.w H s.heap p (fM p) from I.hok p _ e)
 exact⟨a,b,c,I.swap (by rw [e];exact Ko) ⟨(show 3≤sizeLine by decide),[.int a t,.int b u,.int c v],k,.cons ⟨t,rfl⟩ (.cons ⟨u,rfl⟩ (.cons ⟨v,rfl⟩ .nil)),h⟩⟩
theorem af.shut3{p:Addr}{a b c:Int}(I:af X pins σ H s)(e:H p=some (.lst [.int a,.int b,.int c])):af X pins σ (ao H p (fM p)) s:=by
 obtain⟨_,its,k,r,h⟩:=(show cf X.prog X.w H s.heap p (.lst [.int a,.int b,.int c]) from I.hok p _ e)
 cases r with
 | cons r1 r2=>
  cases r2 with
  | cons r2 r3=>
   cases r3 with
   | cons r3 r4=>
    cases r4
    obtain⟨t,rfl⟩:=r1
    obtain⟨u,rfl⟩:=r2
    obtain⟨v,rfl⟩:=r3
    exact I.swap (by rw [e];exact Ko) ⟨⟨a,b,c,t,u,v,k,h⟩,⟨_,h⟩,fun h1 h2 uu49 kk=> by obtain⟨a,b,c,t,u,v,k,z⟩:=uu49;exact⟨a,b,c,t,u,v,k,kk _ z⟩⟩
theorem bM.purse{st:List Stmt}{t:TS}(h:bM X st t):bM X st (fun D σ H=> ∃p,H p=some (fM p)∧∀a b c,t {nx:=fun σ' H'=> ∃a b c,H' p=some (.lst [.int a,.int b,.int c])∧D.nx σ' (ao H' p (fM p)),rt:=fun v H'=> ∃a b c,H' p=some (.lst [.int a,.int b,.int c])∧D.rt v (ao H' p (fM p))} σ (ao H p (.lst [.int a,.int b,.int c]))):=by
 intro pins s σ H D I ⟨p,e,q⟩
 obtain⟨a,b,c,I1⟩:=I.open3 e
 refine aD (h pins s σ _ _ I1 (q a b c)) fun f s1 z=> ?_
 cases f with
 | next=> obtain⟨σ',H',J,_,_,_,e',q'⟩:=z;exact⟨σ',_,J.shut3 e',q'⟩
 | ret u=> obtain⟨v,σ',H',J,r,_,_,_,e',q'⟩:=z;exact⟨v,σ',_,J.shut3 e',r,q'⟩
 | brk=> obtain⟨_,_,_,z⟩:=z;exact z.elim
 | cont=> obtain⟨_,_,_,z⟩:=z;exact z.elim
theorem bM.newPurse{st:List Stmt}{t:TS}(h:bM X st t):bM X st (fun D σ H=> t {nx:=fun _ _=> False,rt:=fun v H'=> ∃p a b c,v= .ref p∧H' p=some (.lst [.int a,.int b,.int c])∧D.rt v (ao H' p (fM p))} σ H):=by
 intro pins s σ H D I q
 refine aD (h pins s σ _ _ I q) fun f s1 z=> ?_
 cases f with
 | next=> obtain⟨_,_,_,z⟩:=z;exact z.elim
 | ret u=> obtain⟨v,σ',H',J,r,p,a,b,c,e,e',q'⟩:=z;subst e;exact⟨_,σ',_,J.shut3 e',r,q'⟩
 | brk=> obtain⟨_,_,_,z⟩:=z;exact z.elim
 | cont=> obtain⟨_,_,_,z⟩:=z;exact z.elim
end
def Ek:List PyData→(PyData→Prop)→Prop:=fun ds Q=> ∃z:Int,ds=[uI,.int z]∧0 < z∧z≤1000000∧∀i:Int,0≤i→i < z→Q (.int i)
def uN:List PyData→(PyData→Prop)→Prop:=fun ds Q=> ∃z:Int,ds=[fm,.int z]∧0 < z∧z≤1000000∧∀i:Int,0≤i→i < z→Q (.int i)
theorem dU{α:Type}{a:α}{l:List α}:atI (a::l) 0=some a:=fJ (j:=0) rfl
theorem cW{α:Type}{a b:α}{l:List α}:atI (a::b::l) 1=some b:=fJ (j:=1) rfl
theorem jM{α:Type}{a b c:α}{l:List α}:atI (a::b::c::l) 2=some c:=fJ (j:=2) rfl
theorem ij{α:Type}{a b c d:α}{l:List α}:atI (a::b::c::d::l) 3=some d:=fJ (j:=3) rfl
theorem ng{α:Type}{a b c d e:α}{l:List α}:atI (a::b::c::d::e::l) 4=some e:=fJ (j:=4) rfl
theorem fq{i:Int}:cV (.int i):=rfl
theorem pY{i:Bool}:cV (.bool i):=rfl
theorem nh:cV .none:=rfl
theorem gF{x y:Str}:JD (.str x) (.str y)=(x==y):=by simp [JD]
theorem gG{x y:Int}:JD (.int x) (.int y)=(x==y):=by simp [JD]
theorem nj{x y:Bool}:JD (.bool x) (.bool y)=(x==y):=by simp [JD]
theorem cO{x:Str}:cV (.str x)↔Jp x=true:=by
 unfold cV Ka
 simp [JN,K7]
theorem pH{n d:Nat}:HT.sIx n d none=d:=rfl
theorem pZ{n d:Nat}{i:Int}(h0:0≤i)(h1:i≤n):HT.sIx n d (some i)=i.toNat:=by
 obtain⟨j,rfl⟩:=KR h0
 rw [HT.sIx_nat,MX]
 omega
theorem jN{xs:List PyData}{i:Int}(h0:0≤i)(h1:i≤xs.length):cn xs none (some i)=xs.take i.toNat:=by
 unfold cn;rw [pH,pZ h0 h1];simp
theorem p5{xs:List PyData}{i:Int}(h0:0≤i)(h1:i≤xs.length):cn xs (some i) none=xs.drop i.toNat:=by
 unfold cn;rw [pH,pZ h0 h1,JQ (by rw [Mo];exact Jm _)]
theorem jO{lo:Int}{n i:Nat}{x:PyData}(h:(ia lo n)[i]?=some x):i < n∧x= .int (lo+i):=by
 unfold ia at h
 rw [JB] at h
 by_cases hi:i < n
 ·rw [List.getElem?_range hi] at h;exact⟨hi,(JW h).symm⟩
 ·rw [Lh (by simpa using hi)] at h;cases h
theorem p7{lo:Int}{n:Nat}:(ia lo n).length=n:=by unfold ia;simp
end L2
namespace L2
open PySem PySem.Spec PyProof.Rows
section
variable {κ:Type} [DecidableEq κ]
def dq(kvs:List (κ×V))(k:κ):Option V:=(kvs.find? fun kv=> decide (kv.1=k)).map (·.2)
def putK(kvs:List (κ×V))(k:κ)(v:V):List (κ×V):=
  if (kvs.any fun kv=> decide (kv.1=k))=true then kvs.map (fun kv=> if kv.1=k then(kv.1,v) else kv) else kvs++[(k,v)]
theorem nk{p:κ×V}{r:List (κ×V)}{k:κ}(e:p.1=k):dq (p::r) k=some p.2:=by simp [dq,KO,e]
theorem kR{p:κ×V}{r:List (κ×V)}{k:κ}(e:¬p.1=k):dq (p::r) k=dq r k:=by simp [dq,KO,e]
theorem yD(k:κ):∀kvs:List (κ×V),(kvs.any fun kv=> decide (kv.1=k))=(dq kvs k).isSome
  | []=> rfl
  | p::r=> by
    rw [KI]
    by_cases e:p.1=k
    · simp only [nk e,decide_eq_true e,Bool.true_or,Option.isSome_some]
    · rw [kR e,decide_eq_false e,L0];exact yD k r
theorem uO(kvs:List (κ×V))(k:κ)(v:V):(putK kvs k v).length≤kvs.length+1:=by
  unfold putK
  split
  · rw [Jf];omega
  · rw [Kq,JC,Kw];omega
theorem d9.isSome_eq{o:Option V}{u:Option Value}(r:d9 o u):o.isSome=u.isSome:=by
  cases o with
  | none=> cases u with
    | none=> rfl
    | some _=> exact(show False from r).elim
  | some _=> cases u with
    | none=> exact(show False from r).elim
    | some _=> rfl
theorem d9.getD{o:Option V}{u:Option Value}{d:V}{d':Value}(r:d9 o u)(rd:aG d d'):aG (o.getD d) (u.getD d'):=by
  cases o with
  | none=> cases u with
    | none=> exact rd
    | some _=> exact(show False from r).elim
  | some _=> cases u with
    | none=> exact(show False from r).elim
    | some _=> exact r
theorem KV.val{kvs:List (κ×V)}{vs:List (κ×Value)}(r:KV kvs vs)(k:κ):d9 (dq kvs k) (valueAt vs k):=by
  unfold KV at r
  induction r with
  | nil=> exact Ko
  | @cons p q ps qs h t ih=>
    obtain⟨h1,h2⟩:=h
    by_cases e:p.1=k
    · have e':q.1=k:=h1.symm.trans e
      have b:valueAt (q::qs) k=some q.2:=by simp [valueAt,KO,e']
      rw [nk e,b];exact h2
    · have e':¬q.1=k:=fun z=> e (h1.trans z)
      have b:valueAt (q::qs) k=valueAt qs k:=by simp [valueAt,KO,e']
      rw [kR e,b];exact ih
theorem KV.any{kvs:List (κ×V)}{vs:List (κ×Value)}(r:KV kvs vs)(k:κ):(kvs.any fun kv=> decide (kv.1=k))=vs.any fun kv=> decide (kv.1=k):=by
  unfold KV at r
  induction r with
  | nil=> rfl
  | cons h t ih=> rw [KI,KI,ih,h.1]
theorem KV.repl{kvs:List (κ×V)}{vs:List (κ×Value)}(r:KV kvs vs)(k:κ){y:V}{u:Value}(ry:aG y u):
    KV (kvs.map fun kv=> if kv.1=k then(kv.1,y) else kv) (vs.map fun kv=> if kv.1=k then(kv.1,u) else kv):=by
  unfold KV at r⊢
  induction r with
  | nil=> exact .nil
  | @cons p q ps qs h t ih=>
    rw [Jj,Jj]
    refine .cons ?_ ih
    obtain⟨h1,h2⟩:=h
    by_cases e:p.1=k
    · rw [if_pos e,if_pos (h1.symm.trans e)];exact⟨h1,ry⟩
    · rw [if_neg e,if_neg (fun z=> e (h1.trans z))];exact⟨h1,h2⟩
theorem KV.put{kvs:List (κ×V)}{vs:List (κ×Value)}(r:KV kvs vs)(k:κ){y:V}{u:Value}(ry:aG y u):KV (putK kvs k y) (stored vs k u):=by
  unfold putK stored
  rw [r.any k]
  by_cases e:(vs.any fun kv=> decide (kv.1=k))=true
  · rw [if_pos e,if_pos e];exact r.repl k ry
  · rw [if_neg e,if_neg e];exact O8 r ⟨rfl,ry⟩
theorem KV.keys{kvs:List (κ×V)}{vs:List (κ×Value)}(r:KV kvs vs):kvs.map (·.1)=vs.map (·.1):=by
  unfold KV at r
  induction r with
  | nil=> rfl
  | cons h t ih=> rw [Jj,Jj,ih,h.1]
theorem KV.length{kvs:List (κ×V)}{vs:List (κ×Value)}(r:KV kvs vs):kvs.length=vs.length:=MJ r
end
theorem jk{P:Program}{w:World}{k:ai}{u:Value}(r:aG (kV k) u):(cm P w).is k u=true:=by
  cases k with
  | inl i=> obtain⟨t,e⟩:=(show ∃t,u=Lw i t from r);subst e;exact B3 P w i t
  | inr x=> obtain⟨t,e⟩:=(show ∃t,u=Lx x t from r);subst e;exact B4 P w x t
theorem yE{P:Program}{w:World}:∀{ks:List ai}{us:List Value},aH (ks.map kV) us→ItemsAre (cm P w) ks us
  | [],_,r=> by rw [Kc] at r;cases r;exact .nil
  | k::ks,_,r=> by
    rw [Jj] at r
    cases r with
    | cons h t=> exact .cons (jk h) (yE t)
abbrev KT(H:Hp):List (List ai×V)→List (List ai×Addr×Value)→Prop:=Paired fun p q=> p.1=q.1∧H q.2.1=some (.tup (p.1.map kV))∧aG p.2 q.2.2
theorem KT.val{H:Hp}{kvs:List (List ai×V)}{xs:List (List ai×Addr×Value)}(r:KT H kvs xs)(k:List ai):d9 (dq kvs k) ((atKey xs k).map (·.2)):=by
  induction r with
  | nil=> exact Ko
  | @cons p q ps qs h t ih=>
    obtain⟨h1,_,h2⟩:=h
    by_cases e:p.1=k
    · have e':q.1=k:=h1.symm.trans e
      have b:atKey (q::qs) k=some q.2:=by simp [atKey,KO,e']
      rw [nk e,b];exact h2
    · have e':¬q.1=k:=fun z=> e (h1.trans z)
      have b:atKey (q::qs) k=atKey qs k:=by simp [atKey,KO,e']
      rw [kR e,b];exact ih
theorem KT.repl{H:Hp}{kvs:List (List ai×V)}{xs:List (List ai×Addr×Value)}(r:KT H kvs xs)(k:List ai){y:V}{u:Value}(ry:aG y u):
    KT H (kvs.map fun kv=> if kv.1=k then(kv.1,y) else kv) (xs.map (putAt k u)):=by
  induction r with
  | nil=> exact .nil
  | @cons p q ps qs h t ih=>
    rw [Jj,Jj]
    refine .cons ?_ ih
    obtain⟨h1,h2,h3⟩:=h
    unfold putAt
    by_cases e:p.1=k
    · rw [if_pos e,if_pos (h1.symm.trans e)];exact⟨h1,h2,ry⟩
    · rw [if_neg e,if_neg (fun z=> e (h1.trans z))];exact⟨h1,h2,h3⟩
theorem KT.put{H:Hp}{kvs:List (List ai×V)}{xs:List (List ai×Addr×Value)}(r:KT H kvs xs)(k:List ai){b:Addr}{y:V}{u:Value}(hb:H b=some (.tup (k.map kV)))(ry:aG y u):
    KT H (putK kvs k y) (storedH xs k b u):=by
  have e:(kvs.any fun kv=> decide (kv.1=k))=(atKey xs k).isSome:=by
    rw [yD,(r.val k).isSome_eq,MZ]
  unfold putK storedH
  rw [e]
  by_cases q:(atKey xs k).isSome=true
  · rw [if_pos q,if_pos q];exact r.repl k ry
  · rw [if_neg q,if_neg q];exact O8 r ⟨rfl,hb,ry⟩
theorem KT.keeps{H H':Hp}{kvs:List (List ai×V)}{xs:List (List ai×Addr×Value)}(r:KT H kvs xs)(ht:∀b ys,H b=some (.tup ys)→H' b=some (.tup ys)):KT H' kvs xs:=
  Paired.mapP r fun _ _ z=> ⟨z.1,ht _ _ z.2.1,z.2.2⟩
section
variable {P:Program} {w:World} {H:Hp} {h:Heap} {a:Addr}
theorem yF{u:HO}(ok:bV P w H h)(e:Rd H a u):cf P w H h a u:=e.ok ok
theorem fR{kvs:List (ai×V)}(ok:bV P w H h)(e:Rd H a (.dK kvs)):kvs.length≤sizeLine∧(a==sysModules)=false∧∃vs,KV kvs vs∧h.DictOf (cm P w) a vs:=
  show cf P w H h a (.dK kvs) from yF ok e
theorem yG{kvs:List (ai×V)}(ok:bV P w H h)(e:H a=some (.dK kvs)):kvs.length≤sizeLine∧(a==sysModules)=false∧∃vs,KV kvs vs∧h.DictOf (cm P w) a vs:=fR ok (.inl e)
theorem kT{ks:List ai}(ok:bV P w H h)(e:H a=some (.tup (ks.map kV))):(tupleKind (cm P w)).is h ks a:=by
  obtain⟨_,its,r,o,h1,h2,n,h3⟩:=(show cf P w H h a (.tup (ks.map kV)) from ok a _ e)
  exact⟨o,its.toArray,n,h1,h2,h3,by simpa using yE r⟩
theorem jP{kvs:List (List ai×V)}(ok:bV P w H h)(e:Rd H a (.dT kvs)):kvs.length≤sizeLine∧(a==sysModules)=false∧
    ∃xs,KT H kvs xs∧h.DictOfH (tupleKind (cm P w)) a xs:=by
  obtain⟨z,y,xs,r,o,es,ep,h1,h2,h3,h4,h5⟩:=(show cf P w H h a (.dT kvs) from yF ok e)
  refine⟨z,y,xs,r,o,es,ep,h1,h2,h3,h4,fun x hx=> ?_,h5⟩
  have all:∀{l:List (List ai×V)}{m:List (List ai×Addr×Value)},KT H l m→∀x∈m,(tupleKind (cm P w)).is h x.1 x.2.1:=by
    intro l m q
    induction q with
    | nil=> intro x hx;exact nomatch hx
    | @cons p q ps qs hq t ih=>
      intro x hx
      rcases Jy.mp hx with e | hx
      · subst e
        exact kT ok (by rw [←hq.1];exact hq.2.1)
      · exact ih x hx
  exact all r x hx
theorem El{kvs:List (List ai×V)}(ok:bV P w H h)(e:H a=some (.dT kvs)):kvs.length≤sizeLine∧(a==sysModules)=false∧
    ∃xs,KT H kvs xs∧h.DictOfH (tupleKind (cm P w)) a xs:=jP ok (.inl e)
end
def cX(H:Hp)(a:Addr)(y:V)(r:Option V):Prop:=
  (∃kvs k,Rd H a (.dK kvs)∧y=kV k∧r=dq kvs k)∨∃kvs k b,Rd H a (.dT kvs)∧y= .ref b∧H b=some (.tup (k.map kV))∧r=dq kvs k
def nr(H:Hp)(a:Addr)(y v:V)(H':Hp):Prop:=
  (∃kvs k,H a=some (.dK kvs)∧y=kV k∧kvs.length < sizeLine∧H'=ao H a (.dK (putK kvs k v)))∨
  ∃kvs k b,H a=some (.dT kvs)∧y= .ref b∧H b=some (.tup (k.map kV))∧kvs.length < sizeLine∧H'=ao H a (.dT (putK kvs k v))
theorem cX.k{H:Hp}{a:Addr}{kvs:List (ai×V)}{k:ai}(e:H a=some (.dK kvs)):cX H a (kV k) (dq kvs k):= .inl ⟨kvs,k,.inl e,rfl,rfl⟩
theorem nr.k{H:Hp}{a:Addr}{kvs:List (ai×V)}{k:ai}{v:V}(e:H a=some (.dK kvs))(hl:kvs.length < sizeLine):nr H a (kV k) v (ao H a (.dK (putK kvs k v))):= .inl ⟨kvs,k,e,rfl,hl,rfl⟩
section
variable {X:Cx} {pins:List (Addr×Obj)} {σ:St} {H:Hp} {s:Shared} {a:Addr} {y v:V} {u r:Value} {o:Option V} {A:Around} {E:Value→Shared→Prop}
theorem af.big(I:af X pins σ H s):sysModules < s.heap.objs.size:=by
  have h:mainGlobals < s.heap.objs.size:=(I.mod.glob.keeps I.bk).lt
  exact Na (by decide) h
theorem Em{Q:Value→Shared→Prop}(hu:A.units+1 < cLine)(I:af X pins σ H s)(g:cX H a y (some v))(ry:aG y u)(h:∀w' s',af X pins σ H s'→aG v w'→Q w' s'):
    wpAny (model X.prog X.w) A (getItem (.ref a) u) Q E s:=by
  rcases g with⟨kvs,k,e,ey,l⟩ | ⟨kvs,k,b,e,ey,eb,l⟩
  · subst ey
    obtain⟨z,hd,vs,rel,dd⟩:=fR I.hok e
    obtain⟨w',hw,rw'⟩:=d9.some_of (v:=v) (o:=valueAt vs k) (by rw [l];exact rel.val k)
    exact wpAny_getItem_of (jk ry) dd.mapOf hw (h w' _ (I.tok _) rw')
  · subst ey
    cases (show u=JP b from ry)
    obtain⟨z,hd,xs,rel,dd⟩:=jP I.hok e
    obtain⟨w',hw,rw'⟩:=d9.some_of (v:=v) (o:=(atKey xs k).map (·.2)) (by rw [l];exact rel.val k)
    obtain⟨p,hp,hp2⟩:=Option.map_eq_some_iff.mp hw
    refine wpAny_getItem_heap (tupleKind_room_in1 hu) (kT I.hok eb) dd hp ?_
    rw [hp2]
    exact h w' _ (I.tok _) rw'
theorem En{Q:Value→Shared→Prop}(hu:A.units+1 < cLine)(I:af X pins σ H s)(g:cX H a y o)(ry:aG y u)(h:∀s',af X pins σ H s'→Q (.bool o.isSome) s'):
    wpAny (model X.prog X.w) A (compareOp .In u (.ref a)) Q E s:=by
  rcases g with⟨kvs,k,e,ey,l⟩ | ⟨kvs,k,b,e,ey,eb,l⟩
  · subst ey
    obtain⟨z,hd,vs,rel,dd⟩:=fR I.hok e
    refine wpAny_in_of (jk ry) hd dd.mapOf ?_
    rw [←(rel.val k).isSome_eq,←l]
    exact h _ (I.tok _)
  · subst ey
    cases (show u=JP b from ry)
    obtain⟨z,hd,xs,rel,dd⟩:=jP I.hok e
    refine wpAny_in_heap (tupleKind_room_in1 hu) (kT I.hok eb) hd dd ?_
    have q:=(rel.val k).isSome_eq
    rw [MZ] at q
    rw [←q,←l]
    exact h _ (I.tok _)
theorem Eo{Q:Value→Shared→Prop}(hu:A.units+1 < cLine)(I:af X pins σ H s)(g:cX H a y o)(ry:aG y u)(h:∀s',af X pins σ H s'→Q (.bool (!o.isSome)) s'):
    wpAny (model X.prog X.w) A (compareOp .NotIn u (.ref a)) Q E s:=by
  rcases g with⟨kvs,k,e,ey,l⟩ | ⟨kvs,k,b,e,ey,eb,l⟩
  · subst ey
    obtain⟨z,hd,vs,rel,dd⟩:=fR I.hok e
    refine wpAny_notIn_of (jk ry) hd dd.mapOf ?_
    rw [←(rel.val k).isSome_eq,←l]
    exact h _ (I.tok _)
  · subst ey
    cases (show u=JP b from ry)
    obtain⟨z,hd,xs,rel,dd⟩:=jP I.hok e
    refine wpAny_notIn_heap (tupleKind_room_in1 hu) (kT I.hok eb) hd dd ?_
    have q:=(rel.val k).isSome_eq
    rw [MZ] at q
    rw [←q,←l]
    exact h _ (I.tok _)
theorem uP{h':Heap}{t':Nat}{ob:HO}(I:af X pins σ H s)(mu:j4 (H a))(hs:L9 a s.heap h')(he:∃q,h'.get? a=some q)(new:cf X.prog X.w (ao H a ob) h' a ob):
    af X pins σ (ao H a ob) {s with heap:=h',toks:=t'}:=
  I.write (x:=a) (e:=a) mu (.inl rfl) (fun b q hb z=> (hs.2 b hb).trans z) he new
theorem p8{P:Program}{w:World}{H':Hp}{h':Heap}{kvs:List (ai×V)}{vs:List (ai×Value)}(z:kvs.length≤sizeLine)(hd:(a==sysModules)=false)(rel:KV kvs vs)(dd:h'.DictOf (cm P w) a vs):
    cf P w H' h' a (.dK kvs):=⟨z,hd,vs,rel,dd⟩
theorem Ep{H':Hp}{Q:Unit→Shared→Prop}(hu:A.units+1 < cLine)(I:af X pins σ H s)(g:nr H a y v H')(ry:aG y u)(rv:aG v r)(h:∀s',af X pins σ H' s'→Q () s'):
    wpAny (model X.prog X.w) A (setItem (.ref a) u r) Q E s:=by
  rcases g with⟨kvs,k,e,ey,l,eH⟩ | ⟨kvs,k,b,e,ey,eb,l,eH⟩
  · subst ey eH
    obtain⟨z,hd,vs,rel,dd⟩:=yG I.hok e
    have hz:vs.length≤sizeLine:=by rw [←rel.length];exact z
    have hl:(putK kvs k v).length≤sizeLine:=by have:=uO kvs k v;omega
    refine wpAny_setItem_pairs (hsz:=hz) (jk ry) dd fun h' dd' hs=> h _ ?_
    have he:∃q,h'.get? a=some q:=let ⟨q,_,_,hq,_⟩:=dd';⟨q,hq⟩
    exact uP I (by rw [e];exact Ko) hs he (p8 hl hd (rel.put k rv) dd')
  · subst ey eH
    cases (show u=JP b from ry)
    obtain⟨z,hd,xs,rel,dd⟩:=El I.hok e
    have hz:xs.length≤sizeLine:=by rw [←MJ rel];exact z
    have hl:(putK kvs k v).length≤sizeLine:=by have:=uO kvs k v;omega
    refine wpAny_setItem_heap (hsz:=hz) (tupleKind_room_in1 hu) (kT I.hok eb) dd fun h' dd' hs=> h _ ?_
    obtain⟨q,es,ep,hq,h2,h3,h4,_,h5⟩:=dd'
    refine uP I (by rw [e];exact Ko) hs ⟨q,hq⟩ ⟨hl,hd,_,(rel.put k eb rv).keeps fun c ys ec=> ?_,q,es,ep,hq,h2,h3,h4,h5⟩
    rw [aJ (B6 ec e (fun z=> nomatch z))]
    exact ec
end
section
variable {X:Cx} {pins:List (Addr×Obj)} {σ:St} {H:Hp} {s:Shared} {a:Addr} {kvs:List (ai×V)} {k:ai} {u:Value} {A:Around} {E:Value→Shared→Prop}
end
def p9(i:Expr):Prop:=∀ov iv,subscripted i false ov iv=operate [ov,iv] (getItem ov iv)
theorem Er{prog:Program}{w:World}{A:Around}{E:Value→Shared→Prop}{s:Shared}{env:Env}{value slice:Expr}{pos:Pos}{T id:String}{Q:Value→Shared→Prop}
    (hl:typeLookup (.type T) "__getitem__"=pure (some (.builtin id)))(hs:p9 slice)
    (h:wpAny (model prog w) A (eval value env) (fun o s₁=> wpAny (model prog w) A (eval slice env) (fun i s₂=> s₂.TypeIs o T∧wpAny (model prog w) A (getItem o i) Q E s₂) E s₁) E s):
    wpAny (model prog w) A (eval (.Subscript value slice pos) env) Q E s:=by
  refine Subscript_ (wpAny_mono h (fun o s₁ h₁=> wpAny_mono h₁ (fun i s₂ h₂=> ?_) fun _ _ x=> x) fun _ _ x=> x)
  obtain⟨hT,h₂⟩:=h₂
  unfold subscriptTail
  refine wpAny_bind ?_
  rw [getitemInPython_of_ne hT.not_modules]
  refine wpAny_bind (wpAny_specialOf hT hl ?_)
  have fin:wpAny (model prog w) A (subscripted slice false o i) (fun r s₃=> wpAny (model prog w) A (letTemporaryGo value o r >>=fun _=> pure r) Q E s₃) E s₂:=by
    rw [hs o i]
    exact wpAny_operating (wpAny_mono h₂ (fun r s₃ h₃=> wpAny_bind (wpAny_letTemporaryGo (wpAny_pure h₃))) fun _ _ x=> x)
  first
    | exact wpAny_pure (wpAny_bind fin)
    | exact wpAny_bind (wpAny_pure (wpAny_bind fin))
    | exact wpAny_bind fin
theorem Es{X:Cx}{pins:List (Addr×Obj)}{σ:St}{H:Hp}{s:Shared}{a:Addr}{y:V}{o:Option V}(I:af X pins σ H s)(g:cX H a y o):s.TypeIs (.ref a) "dict":=by
  rcases g with⟨kvs,k,e,_,_⟩ | ⟨kvs,k,b,e,_,_,_⟩
  · obtain⟨_,_,vs,_,dd⟩:=fR I.hok e
    exact dd.typeIs
  · obtain⟨_,_,xs,_,dd⟩:=jP I.hok e
    exact dd.typeIs
def Et(td ty:TE):TE:=fun σ H Q=> td σ H fun x H1=> ty σ H1 fun y H2=> ∃a v,x= .ref a∧cX H2 a y (some v)∧Q v H2
def Eu(ty td:TE):TE:=fun σ H Q=> ty σ H fun y H1=> td σ H1 fun x H2=> ∃a o,x= .ref a∧cX H2 a y o∧Q (.bl o.isSome) H2
def Ew(ty td:TE):TE:=fun σ H Q=> ty σ H fun y H1=> td σ H1 fun x H2=> ∃a o,x= .ref a∧cX H2 a y o∧Q (.bl (!o.isSome)) H2
def Ey(td ty tv:TE):TS:=fun D σ H=> tv σ H fun v H1=> td σ H1 fun x H2=> ty σ H2 fun y H3=> ∃a H4,x= .ref a∧nr H3 a y v H4∧D.nx σ H4
section
variable {X:Cx} {o i e value:Expr} {pos pos' tpos:Pos} {td ty tv:TE}
theorem yH(hu:X.A.units+1 < cLine)(ho:PE X o td)(hi:PE X i ty)(hs:p9 i):PE X (.Subscript o i pos) (Et td ty):=by
  intro pins s σ H Q I h
  refine Er PySem.F.slot_dict_getitem.lookup hs (aD (ho pins s σ H _ I h) fun u s1 ⟨x,H1,I1,rx,q1⟩=> aD (hi pins s1 σ H1 _ I1 q1) fun iv s2 ⟨y,H2,I2,ry,a,v,ex,g,q2⟩=> ?_)
  subst ex
  obtain rfl:u=JP a:=rx
  exact⟨Es I2 g,Em hu I2 g ry fun w' s3 I3 rw'=> ⟨v,H2,I3,rw',q2⟩⟩
theorem yI(hu:X.A.units+1 < cLine)(hi:PE X i ty)(ho:PE X o td):PC X .In i o (Eu ty td):=by
  intro pins s σ H Q I h
  refine aD (hi pins s σ H _ I h) fun iv s1 ⟨y,H1,I1,ry,q1⟩=> aD (ho pins s1 σ H1 _ I1 q1) fun u s2 ⟨x,H2,I2,rx,a,ov,ex,g,q2⟩=> ?_
  subst ex
  obtain rfl:u=JP a:=rx
  exact En hu I2 g ry fun s3 I3=> ⟨.bl ov.isSome,H2,I3,rfl,q2⟩
theorem Ez(hu:X.A.units+1 < cLine)(hi:PE X i ty)(ho:PE X o td):PC X .NotIn i o (Ew ty td):=by
  intro pins s σ H Q I h
  refine aD (hi pins s σ H _ I h) fun iv s1 ⟨y,H1,I1,ry,q1⟩=> aD (ho pins s1 σ H1 _ I1 q1) fun u s2 ⟨x,H2,I2,rx,a,ov,ex,g,q2⟩=> ?_
  subst ex
  obtain rfl:u=JP a:=rx
  exact Eo hu I2 g ry fun s3 I3=> ⟨.bl (!ov.isSome),H2,I3,rfl,q2⟩
theorem EA(hu:X.A.units+1 < cLine)(ho:PE X o td)(hi:PE X i ty)(hv:PE X value tv)(hs:swapsWith value (some (.Subscript o i pos')) pos.line X.env=pure false):
    PS X (.Assign [.Subscript o i pos'] value pos) (Ey td ty tv):=by
  intro pins s σ H D I h
  refine wpAny_Assign_Subscript (aD (hv pins s σ H _ I h) fun r s1 ⟨v,H1,I1,rv,q1⟩=> aD (ho pins s1 σ H1 _ I1 q1) fun u s2 ⟨x,H2,I2,rx,q2⟩=> aD (hi pins s2 σ H2 _ I2 q2) fun iv s3 ⟨y,H3,I3,ry,a,H4,ex,g,q3⟩=> ?_) hs
  subst ex
  obtain rfl:u=JP a:=rx
  exact Ep hu I3 g ry rv fun s4 I4=> ⟨σ,H4,I4,q3⟩
end
theorem yJ{P:Program}{w:World}{H:Hp}(h:Heap)(hb:sysModules < h.objs.size):cf P w H (h.push {cls:= .type "dict",data:= .dict #[]}) h.objs.size (.dK []):=
  ⟨Kp _,beq_eq_false_iff_ne.mpr (Ne.symm (JJ hb)),[],.nil,OD h⟩
def EB:TE:=fun _ H Q=> ∀p,H p=none→Q (.ref p) (ao H p (.dK []))
section
variable {X:Cx} {pos:Pos}
theorem EC:PE X (.Dict [] [] pos) EB:=fun pins s σ H Q I h=>
  wpAny_Dict_empty ⟨.ref s.heap.objs.size,_,I.laid (a:=s.heap.objs.size) (o:= .dK []) (t':=s.toks) (fun _ _ q=> Jl _ q) (Jm _) (yJ s.heap I.big),rfl,h _ (I.hok.fresh (Jm _))⟩
end
def qa:List (TE×TE)→St→Hp→(List (V×V)→Hp→Prop)→Prop
  | [],_,H,Q=> Q [] H
  | (tk,tv)::r,σ,H,Q=> tk σ H fun x H1=> tv σ H1 fun y H2=> qa r σ H2 fun ps H3=> Q ((x,y)::ps) H3
abbrev VV:List (V×V)→List (Value×Value)→Prop:=Paired fun p q=> aG p.1 q.1∧aG p.2 q.2
def nu(X:Cx)(pos:Pos)(keys:List (Option Expr))(values:List Expr)(trs:List (TE×TE)):Prop:=
  ∀(pins:List (Addr×Obj))(s:Shared)(σ:St)(H:Hp)(Q:List (V×V)→Hp→Prop),af X pins σ H s→qa trs σ H Q→
    wpAny (model X.prog X.w) X.A (evalPairs (pairTrees keys values X.env pos)) (fun vs s'=> ∃ps H',af X pins σ H' s'∧VV ps vs∧Q ps H') X.xe s
theorem ED{X:Cx}{pos:Pos}:nu X pos [] [] []:=fun pins s σ H Q I h=> pairTrees_nil_walk ⟨[],H,I,.nil,h⟩
theorem EF{X:Cx}{pos:Pos}{k v:Expr}{ks:List (Option Expr)}{vs:List Expr}{tk tv:TE}{trs:List (TE×TE)}(hk:PE X k tk)(hv:PE X v tv)(hr:nu X pos ks vs trs):
    nu X pos (some k::ks) (v::vs) ((tk,tv)::trs):=fun pins s σ H Q I h=>
  pairTrees_cons_walk (aD (hk pins s σ H _ I h) fun u s1 ⟨x,H1,I1,rx,q1⟩=> aD (hv pins s1 σ H1 _ I1 q1) fun w2 s2 ⟨y,H2,I2,ry,q2⟩=>
    aD (hr pins s2 σ H2 _ I2 q2) fun ws s3 uu61=> by obtain⟨ps,H3,I3,rel,q3⟩:=uu61;exact⟨(x,y)::ps,H3,I3,.cons ⟨rx,ry⟩ rel,q3⟩)
def fS(kvs more:List (ai×V)):List (ai×V):=more.foldl (fun acc kv=> putK acc kv.1 kv.2) kvs
theorem KV.merge:∀{more:List (ai×V)}{rs:List (ai×Value)}{kvs:List (ai×V)}{vs:List (ai×Value)},KV more rs→KV kvs vs→KV (fS kvs more) (merged vs rs):=by
  intro more rs kvs vs r
  unfold KV at r
  induction r generalizing kvs vs with
  | nil=> intro q;exact q
  | @cons p q ps qs h t ih=>
    intro r0
    have e:KV (putK kvs p.1 p.2) (stored vs q.1 q.2):=by
      have:=r0.put p.1 h.2
      rw [←h.1];exact this
    exact ih e
theorem uQ:∀(more kvs:List (ai×V)),(fS kvs more).length≤kvs.length+more.length
  | [],kvs=> by show kvs.length≤kvs.length+0;omega
  | p::r,kvs=> by
    have h1:=uQ r (putK kvs p.1 p.2)
    have h2:=uO kvs p.1 p.2
    show(fS (putK kvs p.1 p.2) r).length≤_
    rw [JC];omega
theorem yK{P:Program}{w:World}:∀{kvs:List (ai×V)}{ws:List (Value×Value)},VV (kvs.map fun kv=> (kV kv.1,kv.2)) ws→∃rs,Carries (cm P w) ws rs∧KV kvs rs
  | [],_,r=> by rw [Kc] at r;cases r;exact⟨[],Ko,.nil⟩
  | p::kvs,_,r=> by
    rw [Jj] at r
    cases r with
    | @cons a b as bs h t=>
      obtain⟨rs,c,q⟩:=yK (P:=P) (w:=w) t
      obtain⟨b1,b2⟩:=b
      exact⟨(p.1,b2)::rs,⟨jk h.1,rfl,c⟩,.cons ⟨rfl,h.2⟩ q⟩
def EG(trs:List (TE×TE)):TE:=fun σ H Q=> ∀p,H p=none→qa trs σ (ao H p (.dK [])) fun ps H2=> H2 p=some (.dK [])∧∃kvs:List (ai×V),ps=kvs.map (fun kv=> (kV kv.1,kv.2))∧kvs.length≤15∧Q (.ref p) (ao H2 p (.dK (fS [] kvs)))
theorem EH{X:Cx}{pos:Pos}{keys:List (Option Expr)}{values:List Expr}{trs:List (TE×TE)}(h:nu X pos keys values trs)(hall:keys.all (·.isSome)=true)(hl:keys.length=values.length)(h0:keys≠[])
    (h15:keys.length≤15):PE X (.Dict keys values pos) (EG trs):=by
  intro pins s σ H Q I q
  have hn:=I.hok.fresh (Jm s.heap.objs.size)
  have I1:=I.laid (a:=s.heap.objs.size) (o:= .dK []) (h':=s.heap.push {cls:= .type "dict",data:= .dict #[]}) (t':=s.toks) (fun _ _ q=> Jl _ q) (Jm _) (yJ s.heap I.big)
  refine wpAny_Dict_walk (knd:=cm X.prog X.w) hall hl h0 h15 (aD (h pins _ σ _ _ I1 (q _ hn)) fun ws s2 ⟨ps,H2,I2,rel,e,kvs,ep,lk,q2⟩=> ?_)
  subst ep
  obtain⟨rs,c,rk⟩:=yK (P:=X.prog) (w:=X.w) rel
  obtain⟨z,hd,vs0,r0,dd⟩:=yG I2.hok e
  cases r0
  refine⟨rs,c,dd,fun h' dd' hs=> ⟨.ref s.heap.objs.size,_,?_,rfl,q2⟩⟩
  have hz:(fS [] kvs).length≤sizeLine:=by
    have h1:=uQ kvs []
    rw [Kw] at h1
    rw [sizeLine_eq];omega
  have he:∃q,h'.get? s.heap.objs.size=some q:=let ⟨q,_,_,hq,_⟩:=dd';⟨q,hq⟩
  exact uP I2 (by rw [e];exact Ko) hs he (p8 hz hd (rk.merge .nil) dd')
structure M1 (X:Cx) (o:Expr) (m:Str) (apos:Pos) (e:Expr) (cpos:Pos):Prop where
  base:attributeBase o m X.env (eval o X.env)=eval o X.env
  few:((backTo cpos (starEach [e] X.env)).all (fun x=> !x.1) && (backToKw cpos (keywordEach [] X.env)).all (fun x=> x.1.isSome)
    && decide (([e]:List Expr).length+([]:List Keyword).length+(if ([]:List Keyword).isEmpty then 0 else 1) < 30))=true
  line:(apos.endLine==cpos.line)=true
  trees:backTo cpos (starEach [e] X.env)=[(false,eval e X.env)]
structure M2 (X:Cx) (o:Expr) (m:Str) (apos:Pos) (e f:Expr) (cpos:Pos):Prop where
  base:attributeBase o m X.env (eval o X.env)=eval o X.env
  few:((backTo cpos (starEach [e,f] X.env)).all (fun x=> !x.1) && (backToKw cpos (keywordEach [] X.env)).all (fun x=> x.1.isSome)
    && decide (([e,f]:List Expr).length+([]:List Keyword).length+(if ([]:List Keyword).isEmpty then 0 else 1) < 30))=true
  line:(apos.endLine==cpos.line)=true
  trees:backTo cpos (starEach [e,f] X.env)=[(false,eval e X.env),(false,eval f X.env)]
def yL(H:Hp)(a:Addr):Prop:=(∃kvs,Rd H a (.dK kvs))∨∃kvs,Rd H a (.dT kvs)
theorem EI{X:Cx}{pins:List (Addr×Obj)}{σ:St}{H:Hp}{s:Shared}{a:Addr}(I:af X pins σ H s)(d:yL H a):
    s.TypeIs (.ref a) "dict"∧(∀b,JP a= .ref b→∃ob,s.heap.get? b=some ob∧ob.dict=none)∧(a==sysModules)=false:=by
  rcases d with⟨kvs,e⟩ | ⟨kvs,e⟩
  · obtain⟨_,hd,vs,_,dd⟩:=fR I.hok e
    refine⟨dd.typeIs,fun b q=> ?_,hd⟩
    cases q
    obtain⟨ob,_,_,h1,h2,_⟩:=dd
    exact⟨ob,h1,h2.2.1⟩
  · obtain⟨_,hd,xs,_,dd⟩:=jP I.hok e
    refine⟨dd.typeIs,fun b q=> ?_,hd⟩
    cases q
    obtain⟨ob,_,_,h1,h2,_⟩:=dd
    exact⟨ob,h1,h2.2.1⟩
section
variable {X:Cx} {pins:List (Addr×Obj)} {σ:St} {H:Hp} {s:Shared} {a:Addr} {y d:V} {u r:Value} {o:Option V} {A:Around} {E:Value→Shared→Prop}
theorem EJ{Q:Value→Shared→Prop}(hu:A.units+1 < cLine)(I:af X pins σ H s)(g:cX H a y o)(ry:aG y u)(h:∀w' s',af X pins σ H s'→aG (o.getD .non) w'→Q w' s'):
    wpAny (model X.prog X.w) A (call (.builtin "dict.get") [.ref a,u]) Q E s:=by
  rcases g with⟨kvs,k,e,ey,l⟩ | ⟨kvs,k,b,e,ey,eb,l⟩
  · subst ey
    obtain⟨z,hd,vs,rel,dd⟩:=fR I.hok e
    refine call_meetsIn Mr dd.typeIs Nz (Ni _ _) (meets_dict_get (cm X.prog X.w) a (jk ry) hd) ⟨_,dd.mapOf,h _ _ (I.tok _) ?_⟩
    rw [l]
    exact(rel.val k).getD rfl
  · subst ey
    cases (show u=JP b from ry)
    obtain⟨z,hd,xs,rel,dd⟩:=jP I.hok e
    refine call_meetsIn Mr dd.typeIs Nz (Ni _ _) (meetsH_dict_get (tupleKind (cm X.prog X.w)) a b hd) ⟨tupleKind_room_in1 hu,k,xs,kT I.hok eb,dd,h _ _ (I.tok _) ?_⟩
    rw [l]
    exact(rel.val k).getD rfl
end
def EK(td ty:TE):TE:=fun σ H Q=> td σ H fun x H1=> ∃a,x= .ref a∧yL H1 a∧ty σ H1 fun y H2=> ∃o,cX H2 a y o∧Q (o.getD .non) H2
section
variable {X:Cx} {o e f:Expr} {apos cpos:Pos} {td ty tx:TE}
theorem yM(hu:X.A.units+1 < cLine)(ho:PE X o td)(he:PE X e ty)(m:M1 X o "get" apos e cpos):PE X (.Call (.Attribute o "get" apos) [e] [] cpos) (EK td ty):=by
  intro pins s σ H Q I h
  refine wpAny_Call_method m.base m.few m.line PySem.F.plainAttrs_dict Mr PySem.F.type_dict_get (aD (ho pins s σ H _ I h) fun u s1 ⟨x,H1,I1,rx,a,ex,d,q1⟩=> ?_)
  subst ex
  obtain rfl:u=JP a:=rx
  obtain⟨t1,t2,_⟩:=EI I1 d
  refine⟨t1,t2,?_⟩
  rw [m.trees]
  refine Nx rfl (NN (N1 (aD (he pins s1 σ H1 _ I1 q1) fun iv s2 ⟨y,H2,I2,ry,ov,g,q2⟩=> Oc ?_)))
  exact EJ hu I2 g ry fun w' s3 I3 rw'=> ⟨_,H2,I3,rw',q2⟩
end
section
variable {X:Cx} {pins:List (Addr×Obj)} {σ:St} {H:Hp} {s:Shared} {a:Addr} {kvs:List (ai×V)} {A:Around} {E:Value→Shared→Prop}
theorem EL{Q:Value→Shared→Prop}(I:af X pins σ H s)(e:Rd H a (.dK kvs))(h:∀p s',H p=none→af X pins σ (ao H p (.dK kvs)) s'→Q (.ref p) s'):wpAny (model X.prog X.w) A (call (.type "dict") [.ref a]) Q E s:=by
  obtain⟨z,hd,vs,rel,dd⟩:=fR I.hok e
  refine kt_call_dict hd dd (by rw [←rel.length];exact z) fun h' dd' hs=> ?_
  refine h _ _ (I.hok.fresh (Jm _)) (I.laid (a:=s.heap.objs.size) (o:= .dK kvs) (t':=s.toks) (fun b q hq=> ?_) (Jm _) (p8 z (beq_eq_false_iff_ne.mpr (Ne.symm (JJ I.big))) rel dd'))
  exact(hs.2 b (JJ (Jz hq))).trans (Jl _ hq)
end
section
variable {X:Cx} {pins:List (Addr×Obj)} {σ:St} {H:Hp} {s:Shared} {a:Addr} {y:V} {u:Value} {A:Around} {E:Value→Shared→Prop}
end
end L2
namespace L2
open PySem PySem.Spec PyProof.Rows PySem.W
section
variable {X:Cx} {H0:Hp} {O0:Ex}
def litsOf:List Expr→Option (List PyData)
 | []=> some []
 | .Constant (.int i) _ _::r=> (litsOf r).map (.int i::·)
 | .Constant (.str x) _ _::r=> (litsOf r).map (.str x::·)
 | _::_=> none
def kU(ds:List PyData):DA:=fun _ Q=> Q ds
theorem kW:∀{es:List Expr}{ds:List PyData},litsOf es=some ds→PA X es (fO X.K H0 O0 (kU ds))
 | [],ds,h=> by cases h;exact aj
 | e::r,ds,h=> by
  cases e with
  | Constant c j p=>
   cases c with
   | int i=>
    have h':(litsOf r).map (.int i::·)=some ds:=h
    cases q:litsOf r with
    | none=> rw [q] at h';cases h'
    | some ms=> rw [q] at h';cases h';exact aa ag (kW q)
   | str x=>
    have h':(litsOf r).map (.str x::·)=some ds:=h
    cases q:litsOf r with
    | none=> rw [q] at h';cases h'
    | some ms=> rw [q] at h';cases h';exact aa aS (kW q)
   | _=> cases h
  | _=> cases h
def litsE:Expr→Option (List PyData)
 | .List es _=> litsOf es
 | _=> none
theorem uR{e:Expr}{ds:List PyData}(h:litsE e=some ds):FE X H0 O0 e (kD (kU ds)):=by
 cases e with
 | List es p=> exact cM (kW h)
 | _=> cases h
theorem EM{e:Expr}{ds:List PyData}{x:Option Expr}{n:Nat}{env:Env}(h:litsE e=some ds):swapsWith e x n env=pure false:=by
 cases e with
 | List es p=> rfl
 | _=> cases h
end
end L2
namespace L2
open PySem PySem.Spec PyProof.Rows PySem.W
structure cw (n:Nat) (x:Str):Prop where
 ok:Jp x=true
 le:x.length≤n
theorem jQ{x:Str}:Jp x=true↔∀c∈x.cps.toList,c < 0x110000:=by
 unfold Jp
 rw [←Array.all_toList,Lc]
 simp
theorem yN(x y:Str):(x++y).cps=x.cps++y.cps:=rfl
theorem yO(x y:Str):(x++y).length=x.length+y.length:=by
 show(x.cps++y.cps).size=_
 rw [Array.size_append];rfl
theorem cw.append{a b:Nat}{x y:Str}(h:cw a x)(h':cw b y):cw (a+b) (x++y):=by
 refine⟨jQ.mpr fun c hc=> ?_,by rw [yO];have:=h.le;have:=h'.le;omega⟩
 rw [yN,NU] at hc
 rcases JM.mp hc with z | z
 ·exact jQ.mp h.ok c z
 ·exact jQ.mp h'.ok c z
theorem cw.mono{a b:Nat}{x:Str}(h:cw a x)(hb:a≤b):cw b x:=⟨h.ok,JL h.le hb⟩
theorem cw.slice{a:Nat}{x:Str}(h:cw a x)(l u:Option Int):cw a (Txt.slice x l u):=by
 refine⟨jQ.mpr fun c hc=> ?_,JL (Txt.slice_le x l u) h.le⟩
 unfold Txt.slice at hc
 split at hc
 ·exact jQ.mp h.ok c hc
 ·simp only [LB] at hc
  obtain⟨i,_,hi⟩:=hc
  exact jQ.mp h.ok c (by
   have:=Array.mem_of_getElem? hi
   simpa using this)
theorem cw.chr{c:Nat}(h:c < 0x110000):cw 1 ⟨#[c]⟩:=⟨jQ.mpr fun d hd=> by
 have:d=c:=by simpa using hd
 rw [this];exact h,Jm _⟩
theorem cw.join:∀{ys:List Str},(∀y∈ys,cw 1 y)→cw ys.length (Txt.join "" ys):=by
 have key:∀ys:List Str,(∀y∈ys,cw 1 y)→cw ys.length (Str.join "" ys):=by
  intro ys
  induction ys with
  | nil=> intro _;exact⟨by decide+kernel,by decide+kernel⟩
  | cons y r ih=>
   intro h
   cases r with
   | nil=> exact h y (by simp)
   | cons z r=>
    have a:=h y (by simp)
    have b:=ih fun w hw=> h w (by simp [hw])
    have e:cw 0 ("":Str):=⟨by decide+kernel,by decide+kernel⟩
    have:=(a.append e).append b
    refine this.mono ?_
    simp only [JC];omega
 intro ys h
 have e:Txt.join "" ys=Str.join "" ys:=StrLaws.glued_eq_join "" ys
 rw [e];exact key ys h
def ft:Str:="abcdefghijklmnopqrstuvwxyz"
theorem EN:ft.cps.toList.length=26:=by decide+kernel
theorem EO:ft.cps.toList.Nodup:=by decide+kernel
theorem ER:∀c∈ft.cps.toList,c < 0x110000:=by decide+kernel
theorem qc{j:Int}(h0:0≤j)(h1:j < 26):∃c,atI ft.cps.toList j=some c∧ft.cps.toList[j.toNat]?=some c∧c < 0x110000:=by
 obtain⟨k,rfl⟩:=KR h0
 have hk:k < ft.cps.toList.length:=by rw [EN];omega
 refine⟨ft.cps.toList[k],fJ (by simp [hk]),by simp [hk],ER _ (KH hk)⟩
def d5(j:Int):Nat:=(ft.cps.toList[j.toNat]?).getD 0
theorem ES{j:Int}(h0:0≤j)(h1:j < 26):atI ft.cps.toList j=some (d5 j)∧d5 j < 0x110000:=by
 obtain⟨c,e1,e2,e3⟩:=qc h0 h1
 have:d5 j=c:=by unfold d5;rw [e2];rfl
 rw [this];exact⟨e1,e3⟩
theorem ET{i j:Int}(h0:0≤i)(h1:i < 26)(g0:0≤j)(g1:j < 26)(e:d5 i=d5 j):i=j:=by
 obtain⟨c,_,e2,_⟩:=qc h0 h1
 obtain⟨d,_,e4,_⟩:=qc g0 g1
 have a:d5 i=c:=by unfold d5;rw [e2];rfl
 have b:d5 j=d:=by unfold d5;rw [e4];rfl
 have cd:c=d:=by rw [←a,←b,e]
 subst cd
 have hi:i.toNat < ft.cps.toList.length:=(Jr.mp e2).1
 have:=(Od (l:=ft.cps.toList) (i:=i.toNat) (j:=j.toNat) hi EO).mp (by rw [e2,e4])
 omega
structure cu (n:Nat) (d:PyData):Prop where
 can:d.canLay0=true
 dep:d.depth≤n
theorem cu.shp{n:Nat}{d:PyData}(h:cu n d)(hn:n≤64):Ka d=true:=by
 unfold Ka;rw [h.can,decide_eq_true (JL h.dep hn)];rfl
theorem cu.mono{n m:Nat}{d:PyData}(h:cu n d)(hn:n≤m):cu m d:=⟨h.can,JL h.dep hn⟩
theorem yP{x:Str}(h:Jp x=true):cu 1 (.str x):=⟨by simpa [JN] using h,by simp [K7]⟩
theorem yQ{i:Int}:cu 1 (.int i):=⟨by simp [JN],by simp [K7]⟩
theorem EU{i:Bool}:cu 1 (.bool i):=⟨by simp [JN],by simp [K7]⟩
theorem uS{n:Nat}:∀{ds:List PyData},(∀d∈ds,cu n d)→Ku ds=true∧L6 ds≤n
 | [],_=> ⟨by simp [Ku],by simp [L6]⟩
 | d::r,h=> by
  obtain⟨a,b⟩:=uS (ds:=r) fun e he=> h e (by simp [he])
  have c:=h d (by simp)
  refine⟨by rw [Ku,c.can,a];rfl,?_⟩
  rw [L6]
  exact Nat.max_le.mpr ⟨c.dep,b⟩
theorem cY{n:Nat}{ds:List PyData}(h:∀d∈ds,cu n d):cu (n+1) (.tuple ds):=by
 obtain⟨a,b⟩:=uS h
 refine⟨by simpa [JN] using a,?_⟩
 rw [K7];omega
end L2
namespace L2
open PySem PySem.Spec PyProof.Rows
section
variable {X:Cx} {pos:Pos}
end
def PU(X:Cx)(e:Expr)(te:TE):Prop:=∀(i:Nat)(x:Str)(pos' spos:Pos)(hN:X.N.Nodup)(hxi:X.N[i]?=some x)(hx:gh X.env.scope x)(hsw:swapsWith e (some (.Name x pos')) spos.line X.env=pure true)
 (hfn:X.fn x=true∨X.env.scope.names.lookup x=some .local),PS X (.Assign [.Name x pos'] e spos) (lU te (gn i))
theorem PU.imp{X:Cx}{e:Expr}{t u:TE}(h:PU X e t)(i:∀σ H Q,u σ H Q→t σ H Q):PU X e u:=fun i' x p1 p2 hN hxi hx hsw hfn=> (h i' x p1 p2 hN hxi hx hsw hfn).imp fun D σ H z=> i σ H _ z
section
variable {X:Cx} {H0:Hp} {O0:Ex}
section
variable {tg iter elt:Expr} {ifs:List Expr} {scope:Scope} {N':List Str} {k:Nat} {fr:List Nat} {g:TG} {dg:DG} {t:DT} {ta:DA} {tc:DB} {te:DT} {pos p ps:Pos}
theorem yR{wi:TI}{tc:TT}{te:TE}(hc:X.calm=true)(S:bH X.env.scope X.N N' k fr scope)(hi:PI X tg iter wi)
  (hg:∀fp C s H,PG (bK X scope N' fp C s H) tg g)(hf:∀fp C s H,eF (bK X scope N' fp C s H) ifs tc)(he:∀fp C s H,PE (bK X scope N' fp C s H) elt te)
  (hs:∀x,foldedSetIterable iter X.env x=pure x:=by intro _;rfl):PU X (.ListComp elt [⟨tg,iter,ifs,0⟩] scope pos) (ja wi g tc te k fr):=
 fun _ _ _ _ hN hxi hx hsw hfn=> DJ hN hxi hx hc S hi hg hf he hsw hs hfn
theorem nv(hc:X.calm=true)(S:bH X.env.scope X.N N' k fr scope)(hi:DF X H0 O0 iter t)(gd:GD X.K g dg)(hk:ie g k)(hfr:fr.Nodup)
  (hg:∀fp C s H,PG (bK X scope N' fp C s H) tg g)(hf:∀fp C s H,eF (bK X scope N' fp C s H) ifs (cg X.K H0 O0 tc))(he:∀fp C s H,PE (bK X scope N' fp C s H) elt (up X.K H0 O0 te))
  (hs:∀x,foldedSetIterable iter X.env x=pure x:=by intro _;rfl):PU X (.ListComp elt [⟨tg,iter,ifs,0⟩] scope pos) (pR X.K H0 O0 (jK t dg tc te k fr)):=
 (yR hc S (ug hi) hg hf he hs).imp fun σ H Q uu65=> by obtain⟨O,δ,Qd,w,q,kk⟩:=uu65;exact⟨O,δ,_,w,q,fun d v H1 uu66 s1 r1=> by
  obtain⟨xs,e,hz,q1⟩:=uu66
  subst e
  obtain⟨a,vs,rfl,hq,rr⟩:=r1.lst
  refine⟨a,rfl,⟨_,hq⟩,fun D hD=> kI (cF.list hq) gd hfr (fun v _ H' R h=> hk fr σ v H' R h) (fun _ _ _ z=> z) (fun _ _ _ z=> z) (fun D H' hD s' o e=> s' _ _ e (cT e hD)) rr (w.mono s1) (by rw [rr.length];exact hz) q1 (fun ds us p H' z s' hp r'=> kk ds us p H' z (s1.trans s') hp r') D hD⟩⟩
end
theorem ik{i:Nat}{x:Str}{e:Expr}{t:DA}{pos pos':Pos}(hN:X.N.Nodup)(hi:X.N[i]?=some x)(hx:gh X.env.scope x)(he:PU X e (pR X.K H0 O0 t))(hs:swapsWith e (some (.Name x pos')) pos.line X.env=pure true:=by rfl)(hf:X.fn x=true∨X.env.scope.names.lookup x=some .local:=by first | exact .inl rfl | exact .inr rfl | assumption):
  PS X (.Assign [.Name x pos'] e pos) (bI X.K H0 O0 (kC i (dL t))):=
 (he _ _ _ _ hN hi hx hs hf).imp fun D σ H ⟨O,δ,E,w,q,k1,k2,k3,k4⟩=> ⟨O,δ,_,w,q,fun ds vs p H1 q1 s1 hp r1=>
  k1 O _ _ _ q1 ((w.mono (s1.trans (ar.new hp))).set (.lst (.inl bj) (pP w s1 hp) (r1.mono (ar.new hp)))) (.same (s1.trans (ar.new hp)))⟩
end
end L2
namespace L2
open PySem PySem.Spec PyProof.Rows PySem.W
section
variable {X:Cx} {H0:Hp} {O0:Ex}
def ny(ta:DA)(g:DG)(tc:DB)(te:DT)(k:Nat)(fr:List Nat):DA:=fun δ Q=> ta δ fun ds=> ∃i j:Int,ds=[.int i,.int j]∧-(2 ^ 62)≤i∧j - i < sizeLine∧i < 2 ^ 62∧-(2 ^ 62)≤j∧j < 2 ^ 62∧eZ g tc te (dS k fr δ) (ia i (j - i).toNat) Q
section
variable {tg iter elt:Expr} {ifs:List Expr} {scope:Scope} {N':List Str} {k:Nat} {fr:List Nat} {g:TG} {dg:DG} {t:DT} {ta:DA} {tc:DB} {te:DT} {pos p ps:Pos}
theorem EV(hc:X.calm=true){a b:Expr}(S:bH X.env.scope X.N N' k fr scope)(hgl:Gl X "range")(hm:X.mg "range"=none)(ha:PA X [a,b] (gz X.K H0 O0 ta))(gd:GD X.K g dg)(hk:ie g k)(hfr:fr.Nodup)
  (hg:∀fp C s H,PG (bK X scope N' fp C s H) tg g)(hf:∀fp C s H,eF (bK X scope N' fp C s H) ifs (cg X.K H0 O0 tc))(he:∀fp C s H,PE (bK X scope N' fp C s H) elt (up X.K H0 O0 te))
  (hst:starEach [a,b] X.env=[(false,eval a X.env),(false,eval b X.env)]:=by rfl)(hst2:starEach [b] X.env=[(false,eval b X.env)]:=by rfl)(hs:∀x,foldedSetIterable (.Call (.Name "range" p) [a,b] [] ps) X.env x=pure x:=by intro _;rfl):
  FE X H0 O0 (.ListComp elt [⟨tg,(.Call (.Name "range" p) [a,b] [] ps),ifs,0⟩] scope pos) (ny ta dg tc te k fr):=
 (mn hc S (uk hgl hm ha hst hst2) hg hf he hs).imp fun σ H Q uu68=> by obtain⟨O,δ,Qd,w,q,kk⟩:=uu68;exact⟨O,δ,_,w,q,fun ds vs H1 uu69 s1 r1=> by
  obtain⟨i,j,e,b1,b2,b3,b4,b5,q1⟩:=uu69
  subst e
  cases r1 with
  | cons r1 r2=>
   cases r2 with
   | cons r2 r3=>
    cases r3
    cases r1.int
    cases r2.int
    exact⟨i,j,rfl,⟨b1,b3,b4,b5⟩,fun D hD=> kI (P:=fun _=> True) cF.rng gd hfr (fun v _ H' R h=> hk fr σ v H' R h) (fun _ _ _ z=> z) (fun _ _ _ z=> z) (fun _ _ _ _=> trivial) (ak.rng _) (w.mono s1) (by rw [Jf,Mf];omega) q1 (fun ds us p H' z s' hp r'=> kk ds us p H' z (s1.trans s') hp r') D hD⟩⟩
end
def uT(K:Jd)(neg:Bool):R2:=fun x y H Q=> ∃O dx ds dy,Sh K H O x dx∧Sh K H O y dy∧(dy= .list ds∨dy= .tuple ds)∧cV dx∧Ku ds=true∧Q (.bl (if neg then !(ds.any fun d=> JD d dx) else ds.any fun d=> JD d dx)) H
theorem qf{A:Around}{k:Nat}{xs:List PyData}{d:PyData}(hd:cV d)(hr:bE k A):A.units+1+min (L6 xs) d.depth < cLine:=by
 have:=SeqAt.depth_of_shaped hd
 have h1:min (L6 xs) d.depth≤d.depth:=Ol _ _
 have:=hr.un
 omega
theorem uU{k:Nat}(hr:bE k X.A):bW X (compareOp .In) (uT X.K false):=by
 intro pins s σ H x y v u Q I rx ry h
 obtain⟨O,dx,ds,dy,hx,hy,e,sx,sy,q⟩:=h
 obtain⟨as,ra⟩:=fN I hx.all (Kj sx) rx
 rcases e with e | e <;> subst e
 ·obtain⟨bs,rb⟩:=fN I hy.all (by simpa [JN] using sy) ry
  exact SeqAt.in_list_reads rb ra sy (Kj sx) (qf sx hr) (bG I q rfl)
 ·obtain⟨bs,rb⟩:=fN I hy.all (by simpa [JN] using sy) ry
  exact SeqAt.in_tuple_reads rb ra sy (Kj sx) (qf sx hr) (bG I q rfl)
theorem yS{k:Nat}(hr:bE k X.A):bW X (compareOp .NotIn) (uT X.K true):=by
 intro pins s σ H x y v u Q I rx ry h
 obtain⟨O,dx,ds,dy,hx,hy,e,sx,sy,q⟩:=h
 obtain⟨as,ra⟩:=fN I hx.all (Kj sx) rx
 rcases e with e | e <;> subst e
 ·obtain⟨bs,rb⟩:=fN I hy.all (by simpa [JN] using sy) ry
  exact SeqAt.notIn_list_reads rb ra sy (Kj sx) (qf sx hr) (bG I q rfl)
 ·obtain⟨bs,rb⟩:=fN I hy.all (by simpa [JN] using sy) ry
  exact SeqAt.notIn_tuple_reads rb ra sy (Kj sx) (qf sx hr) (bG I q rfl)
def nA(neg:Bool):PyData→PyData→(PyData→Prop)→Prop:=fun x y Q=> ∃ds,(y= .list ds∨y= .tuple ds)∧cV x∧Ku ds=true∧Q (.bool (if neg then !(ds.any fun d=> JD d x) else ds.any fun d=> JD d x))
theorem nB{K:Jd}{neg:Bool}:cL K (uT K neg) (nA neg):=fun H O x y dx dy Qd R _ hx hy uu70 k=> by obtain⟨ds,e,a,b,q⟩:=uu70;exact⟨O,dx,ds,dy,hx,hy,e,a,b,k _ _ H q (ar.refl _) (.bl _)⟩
def nE:List PyData→(PyData→Prop)→Prop:=fun ds Q=> ∃z:Str,ds=[.str z]∧z.length≤sizeLine∧Q (.int z.length)
theorem EW{K:Jd}:fo K (fun xs H Q=> ∃z,xs=[.str z]∧z.length≤sizeLine∧Q (.int z.length) H) nE:=fun H O xs ds Qd R _ hs uu71 k=> by
 obtain⟨z,e,hz,q⟩:=uu71
 subst e
 cases hs with
 | cons h r=> cases r;cases h.str;exact⟨z,rfl,hz,k _ _ H q (ar.refl _) (.int _)⟩
theorem EX{prog:Program}{w:World}{A:Around}{E:Value→Shared→Prop}{s:Shared}{t sl:Addr}{items:Array Value}{vl vu:Value}{lo hi:Option Int}{Q:Value→Shared→Prop}(ht:IsTup s.heap t items)(hs:s.heap.IsSliceOf sl vl vu .none)(pl:IsPart vl lo)(pu:IsPart vu hi)
  (hw:HT.sIx items.size 0 lo=0∧HT.sIx items.size items.size hi=items.size)(h:Q (.ref t) s):wpAny (model prog w) A (getItem (.ref t) (.ref sl)) Q E s:=by
 obtain⟨os,hos,hcs,hds⟩:=id hs
 have hTs:s.TypeIs (.ref sl) "slice":=⟨os,hos,hcs⟩
 unfold getItem
 try with_reducible refine wpAny_holding ?_
 first | refine wpAny_bind (wpAny_pure ?_) | skip
 refine wpAny_bind (wpAny_sequenceKey ht.typeIs (by decide) ?_)
 refine wpAny_bind (wpAny_callSpecial?_slot (name:=Jc "__getitem__") ht.typeIs K5
  (wpAny_call_entry K5 ht.typeIs PyProof.Rows.entry_tuple_getitem ?_ (PyProof.Rows.args_tuple_getitem _ _)))
 show wpAny _ _ (MO (.ref t) >>=_) _ _ s
 refine wpAny_bind (tupleItemsOf_ ht ?_)
 refine wpAny_bind (wpAny_typeOf hTs ?_)
 rw [if_pos (by decide)]
 refine wpAny_bind (HT.sliceApplied_gen hs pl pu ?_)
 show wpAny _ _ (if (((HT.sIx items.size 0 lo:Nat):Int)==0 && (1:Int)==1 && (HT.sIx items.size items.size hi - HT.sIx items.size 0 lo)==items.size)=true then _ else _) _ _ s
 rw [if_pos (by rw [hw.1,hw.2];simp)]
 unfold Builtin.Tuple.tupleIsExact
 refine wpAny_bind (wpAny_bind (wpAny_typeOf ht.typeIs (wpAny_pure ?_)))
 rw [if_pos (by decide)]
 exact wpAny_bind (wpAny_rule (wpAny_pure ⟨_,rfl,wpAny_pure h⟩))
def EY(K:Jd):V→Option Int→Option Int→Hp→VK→Prop:=fun x lo hi H Q=> ∃a xs,x= .ref a∧bB K H a xs∧
 ((HT.sIx xs.length 0 lo=0∧HT.sIx xs.length xs.length hi=xs.length)→Q x H)∧(¬(HT.sIx xs.length 0 lo=0∧HT.sIx xs.length xs.length hi=xs.length)→∀p,H p=none→Q (.ref p) (ao H p (.tup (hV xs lo hi))))
theorem EZ:mj X (EY X.K):=by
 intro pins s σ H x v vl vu lo hi sl Q I rx hs pl pu h
 obtain⟨a,xs,rfl,hx,q1,q2⟩:=h
 by_cases hw:HT.sIx xs.length 0 lo=0∧HT.sIx xs.length xs.length hi=xs.length
 ·cases rx
  obtain⟨its,r,ht,hz⟩:=I.tuple hx
  have hlen:its.toArray.size=xs.length:=by rw [JA];exact r.length.symm
  refine⟨"tuple",_,K5.lookup,ht.typeIs,?_⟩
  exact EX ht hs pl pu (by rw [hlen];exact hw) ⟨.ref a,H,I,rfl,q1 hw⟩
 ·exact C9 pins s σ H _ v vl vu lo hi sl Q I rx hs pl pu ⟨a,xs,rfl,hx,hw,q2 hw⟩
theorem E1{xs:List PyData}{l u:Option Int}(h:HT.sIx xs.length 0 l=0∧HT.sIx xs.length xs.length u=xs.length):cn xs l u=xs:=by
 unfold cn;rw [h.1,h.2];simp
def kX(t:DT)(tl th:DO):DT:=fun δ Q=> t δ fun d=> tl δ fun l=> th δ fun u=> ∃xs,d= .tuple xs∧Q (.tuple (cn xs l u))
theorem uV{e:Expr}{lo hi:Option Expr}{t:DT}{tl th:DO}{pos p2:Pos}(h:DF X H0 O0 e t)(hl:PO X lo (gC X.K H0 O0 tl))(hu:PO X hi (gC X.K H0 O0 th)):DE X H0 O0 (.Subscript e (.Slice lo hi none p2) pos) (kX t tl th):=
 (pI EZ h hl hu).imp fun σ H Q ⟨O,δ,Qd,w,q,k⟩=> ⟨O,δ,_,w,q,fun d v H1 q1 s1 r1=> ⟨O,δ,_,w.mono s1,q1,fun l H2 q2 s2=> ⟨O,δ,_,w.mono (s1.trans s2),q2,fun u H3 uu73 s3=> by
  obtain⟨xs,e,q3⟩:=uu73
  subst e
  have r3:=r1.mono (s2.trans s3)
  have r4:=r3
  obtain⟨a,vs,rfl,h1,d1⟩:=r4.tup
  refine⟨a,vs,rfl,h1,fun hw=> ?_,fun _ p hp=> k _ _ _ q3 (s1.trans (s2.trans (s3.trans (ar.new hp)))) (.tup (.inl bj) (pP w (s1.trans (s2.trans s3)) hp) ((d1.cut l u).mono (ar.new hp)))⟩
  rw [d1.length] at hw
  rw [E1 hw] at q3
  cases r3 with
  | dt r3=> exact k _ _ _ q3 (s1.trans (s2.trans s3)) r3⟩⟩⟩
def dz(a b:Str):Bool:=decide (a.cps.toList≤b.cps.toList)
def cZ(l:List Str):List Str:=l.mergeSort dz
theorem yT(a b c:Str)(h:dz a b=true)(h':dz b c=true):dz a c=true:=
 decide_eq_true (List.le_trans (of_decide_eq_true h) (of_decide_eq_true h'))
theorem E2(a b:Str):(dz a b || dz b a)=true:=by
 rcases List.le_total a.cps.toList b.cps.toList with h | h
 ·unfold dz;rw [decide_eq_true h];rfl
 ·unfold dz;rw [decide_eq_true h,Bool.or_true]
theorem yU{a b:Str}(h:a.cps.toList=b.cps.toList):a=b:=by
 cases a;cases b;congr 1;exact Array.ext' h
theorem yV{a b:Str}(h:dz a b=true)(h':dz b a=true):a=b:=yU (Oo (of_decide_eq_true h) (of_decide_eq_true h'))
theorem fc(l:List Str):(cZ l).Perm l:=List.mergeSort_perm l dz
theorem yW(l:List Str):(cZ l).Pairwise fun a b=> dz a b=true:=List.pairwise_mergeSort yT E2 l
theorem yX{l m:List Str}(h:m.Perm l)(p:m.Pairwise fun a b=> dz a b=true):m=cZ l:=
 List.Perm.eq_of_pairwise (fun a b _ _ x y=> yV x y) p (yW l) (h.trans (fc l).symm)
theorem yY:∀(p:Str)(l:List Str),risingS p l=true→(p::l).Pairwise fun a b=> dz a b=true
 | p,[],_=> by simp
 | p,x::r,h=> by
  rw [risingS,Kh,Lp,ltCps_eq,decide_eq_false_iff_not] at h
  have h1:dz p x=true:=decide_eq_true (Og.mp h.1)
  have h2:=yY x r h.2
  rw [Kb]
  refine⟨fun y hy=> ?_,h2⟩
  rcases Jy.mp hy with z | z
  ·rw [z];exact h1
  ·exact yT p x y h1 ((Kb.mp h2).1 y z)
theorem yZ:∀(l:List Str),sortedS l=true→l.Pairwise fun a b=> dz a b=true
 | [],_=> .nil
 | x::r,h=> yY x r h
theorem y3:∀{ys:List Str}{us:List Value},aH (ys.map V.str) us→StrsAre us ys:=by
 intro ys
 induction ys with
 | nil=> intro us rv;cases rv;exact .nil
 | cons y ys ih=>
  intro us rv
  rw [Jj] at rv
  cases rv with
  | cons r1 r2=> obtain⟨t,rfl⟩:=r1;exact .cons y t (ih r2)
theorem uW:∀{ys:List Str}{us:List Value},StrsAre us ys→aH (ys.map V.str) us
 | _,_,.nil=> .nil
 | _,_,.cons y t r=> .cons ⟨t,rfl⟩ (uW r)
theorem E3:cP X (.builtin "sorted") (fun xs H Q=> ∃p ss,xs=[.ref p]∧aP X.K H p (ss.map V.str)∧ss.length < 64∧∀l,H l=none→Q (.ref l) (ao H l (.lst ((cZ ss).map V.str)))):=by
 intro pins s σ H xs us Q I r h
 obtain⟨p,ss,rfl,hq,h64,q⟩:=h
 obtain⟨u,rfl,rx⟩:=cU r
 cases rx
 obtain⟨its,rv,pl,hz⟩:=I.list hq
 have hlen:=rv.length
 rw [Jf] at hlen
 refine sorted_strs pl.isList (y3 rv) (by omega) fun out ss' a1 a2 a3=> ?_
 obtain⟨e,he⟩:=sortedAll_at s.heap its out
 have es:ss'=cZ ss:=yX a2 (yZ _ a3)
 subst es
 have hl2:(cZ ss).length=ss.length:=a2.length_eq
 refine⟨.ref _,_,I.laid (t':=s.toks) (o:= .lst ((cZ ss).map V.str)) (fun b ob q=> sortedAll_old q) (MG _) ?_,rfl,q _ (I.hok.fresh (MG _))⟩
 refine⟨by rw [Jf,hl2];exact JL (LO h64) (by decide),out.toList,e,uW a1,?_⟩
 rw [he]
theorem ak.strs{K:Jd}{H:Hp}{O:Ex}:∀{ss:List Str}{vs:List V},ak K H O vs (ss.map Jh)→vs=ss.map V.str
 | [],_,r=> by rw [Kc] at r;cases r;rfl
 | b::bs,_,r=> by
  rw [Jj] at r
  cases r with
  | cons h r=> cases h;rw [Jj,ak.strs r]
theorem ak.ofStrs{K:Jd}{H:Hp}{O:Ex}:∀(ss:List Str),ak K H O (ss.map V.str) (ss.map Jh)
 | []=> .nil
 | s::r=> .cons (.str s) (ak.ofStrs r)
def nF(t:DA):DA:=fun δ Q=> t δ fun ds=> ∃ss:List Str,ds=[.list (ss.map .str)]∧ss.length < 64∧Q ((cZ ss).map .str)
theorem E4{a:Expr}{t:DA}{np p:Pos}(hg:Gl X "sorted")(hm:X.mg "sorted"=none)(hv:bootBuiltins "sorted"=some (.builtin "sorted"))(ha:PA X [a] (gz X.K H0 O0 t))(he:starEach [a] X.env=(false,eval a X.env)::starEach [] X.env:=by rfl)(hpl:(backTo p (starEach [] X.env)).any (·.1)=false:=by rfl):FE X H0 O0 (.Call (.Name "sorted" np) [a] [] p) (nF t):=
 (bX E3 hg hm hv ha (he:=he) (hpl:=hpl)).imp fun σ H Q uu74=> by obtain⟨O,δ,Qd,w,q,k⟩:=uu74;exact⟨O,δ,_,w,q,fun ds vs H1 uu75 s1 r1=> by
  obtain⟨ss,e,h64,q1⟩:=uu75
  subst e
  cases r1 with
  | cons h r=>
   cases r
   obtain⟨a,us,rfl,h1,d1⟩:=h.lst
   cases d1.strs
   exact⟨a,ss,rfl,h1,h64,fun l hl=> k _ _ _ _ q1 s1 hl (ak.ofStrs _)⟩⟩
end
end L2
namespace PySem.SeqAt
open AutoSeq1 (wpAny_loadPart')
open MeetsSeq
theorem y4(l:Addr)(es:Array DictEntry)(n:Nat)(dd:Option Addr)(sl:Array (Option Value))(b:Str)(u:Tok):
  Meets (Builtin.«dict.__eq__» ⟨[.ref l,.str b u],[]⟩) (fun _ R s=> s.heap.get? l=some {cls:= .type "dict",dict:=dd,data:= .dict es n,slots:=sl}∧R (.ok (.ret .notImplemented)) s):=
 .of_wp fun prog w A R s h=> by obtain⟨hp,g,d,tk,os⟩:=s;obtain⟨hl,h⟩:=h;have f1:=F.sub_str_dict;wp_walk using wpAny_loadPart' hl;exact⟨_,rfl,h⟩
theorem y6(b:Str)(u:Tok)(l:Addr)(c:Value)(es:Array DictEntry)(n:Nat)(dd:Option Addr)(sl:Array (Option Value)):
  Meets (Builtin.«str.__eq__» ⟨[.str b u,.ref l],[]⟩) (fun _ R s=> s.heap.get? l=some {cls:=c,dict:=dd,data:= .dict es n,slots:=sl}∧R (.ok (.ret .notImplemented)) s):=
 .of_wp fun prog w A R s h=> by obtain⟨hp,g,d,tk,os⟩:=s;obtain⟨hl,h⟩:=h;wp_walk using wpAny_loadPart' hl,wpAny_load hl;exact⟨_,rfl,h⟩
section
variable {A:Around} {s:Shared}
theorem RcAt.dict_str{l:Addr}{es:Array DictEntry}{n:Nat}{o:Obj}(b:Str)(u:Tok)(ho:s.heap.get? l=some o)(hc:o.cls= .type "dict")(hd:o.data= .dict es n)(hu:A.units < cLine):RcAt A s (.ref l) (.str b u) false:=fun prog w E Q h=> by
 obtain⟨cls,dd,data,sl⟩:=o
 simp only at hc hd
 subst hc hd
 exact rc_eq_decline_or (k:=false) ⟨_,ho,rfl⟩ (typeIs_str s b u) (by decide) F.sub_str_dict F.slot_dict_eq F.slot_str_eq_refl
  (fun _ hq=> call_meets F.slot_dict_eq ⟨_,ho,rfl⟩ F.entry_dict_eq (F.args_dict_eq_2 _ _) (y4 l es n dd sl b u) ⟨ho,hq⟩)
  (fun _ hq=> call_meets F.slot_str_eq_refl (typeIs_str s b u) F.entry_str_eq (F.args_str_eq_2 _ _) (y6 b u l (.type "dict") es n dd sl) ⟨ho,hq⟩)
  (fun _ hq=> wpAny_of_eq (rfl:isSame (.ref l) (.str b u)=pure false) hq) (.inr hu) h
theorem RcAt.str_dict{l:Addr}{es:Array DictEntry}{n:Nat}{o:Obj}(b:Str)(u:Tok)(ho:s.heap.get? l=some o)(hc:o.cls= .type "dict")(hd:o.data= .dict es n)(hu:A.units < cLine):RcAt A s (.str b u) (.ref l) false:=fun prog w E Q h=> by
 obtain⟨cls,dd,data,sl⟩:=o
 simp only at hc hd
 subst hc hd
 exact rc_eq_decline_or (k:=false) (typeIs_str s b u) ⟨_,ho,rfl⟩ (by decide) F.sub_dict_str F.slot_str_eq F.slot_dict_eq_refl
  (fun _ hq=> call_meets F.slot_str_eq (typeIs_str s b u) F.entry_str_eq (F.args_str_eq_2 _ _) (y6 b u l (.type "dict") es n dd sl) ⟨ho,hq⟩)
  (fun _ hq=> call_meets F.slot_dict_eq_refl ⟨_,ho,rfl⟩ F.entry_dict_eq (F.args_dict_eq_2 _ _) (y4 l es n dd sl b u) ⟨ho,hq⟩)
  (fun _ hq=> wpAny_of_eq (rfl:isSame (.str b u) (.ref l)=pure false) hq) (.inr hu) h
theorem EqAt.str_dict{l:Addr}{es:Array DictEntry}{n:Nat}{o:Obj}(b:Str)(u:Tok)(ho:s.heap.get? l=some o)(hc:o.cls= .type "dict")(hd:o.data= .dict es n)(hu:A.units < cLine):EqAt A s (.str b u) (.ref l) false:=fun prog w E Q h=> by
 unfold eqBool
 refine wpAny_holding ?_
 refine wpAny_ite_split (fun hab=> absurd (eq_of_beq hab) nofun) (fun _=> ?_)
 exact wpAny_bind (RcAt.str_dict b u ho hc hd hu prog w E _ (wpAny_truthy_bool h))
end
end PySem.SeqAt
namespace L2
open PySem PySem.Spec PyProof.Rows PySem.W
section
variable {X:Cx} {pins:List (Addr×Obj)} {σ:St} {H:Hp} {s:Shared}
def dA:PyData→Bool
 | .dict [(.none,_)]=> false
 | _=> true
theorem E5(I:af X pins σ H s){O:Ex}{v:V}{d:PyData}{u:Value}(h:Dt X.K H O v d)(ht:dA d=true)(r:aG v u)(y:Str)(t:Tok)(hu:X.A.units < cLine):SeqAt.RcAt X.A s u (.str y t) (JD d (.str y)):=by
 cases h with
 | non=> cases (show u=LA from r);simpa [JD] using SeqAt.RcAt.none_str y t
 | bl b=> cases (show u=Le b from r);simpa [JD] using SeqAt.RcAt.bool_str b y t
 | int i=> obtain⟨k,e⟩:=(show ∃t,u=Lw i t from r);cases e;simpa [JD] using SeqAt.RcAt.int_str i k y t
 | str x=> obtain⟨k,e⟩:=(show ∃t,u=Lx x t from r);cases e;simpa [JD] using SeqAt.RcAt.str_str x k y t
 | @tup a xs ds h n rr=>
  cases (show u=JP a from r)
  obtain⟨its,rv,p,_⟩:=I.tuple (.inl h)
  simpa [JD] using NO y t (show s.heap.IsTuple a its.toArray from p) hu
 | @tupK a xs ds h rr=>
  cases (show u=JP a from r)
  obtain⟨its,rv,p,_⟩:=I.tuple h.of0
  simpa [JD] using NO y t (show s.heap.IsTuple a its.toArray from p) hu
 | @lst a xs ds h n rr=>
  cases (show u=JP a from r)
  obtain⟨its,rv,p,_⟩:=I.list (.inl h)
  simpa [JD] using SeqAt.RcAt.list_str y t p.isList hu
 | pack h n=> exact absurd ht (by simp [dA])
 | purse h n=> exact absurd ht (by simp [dA])
 | scr h r=> exact absurd ht (by simp [dA])
 | obj h e n r=> exact absurd ht (by simp [dA])
 | @dct0 a h n=>
  cases (show u=JP a from r)
  obtain⟨_,_,_,_,o,es,ep,e,c,dd,_⟩:=(show cf X.prog X.w H s.heap a (.dK []) from I.hok a _ h)
  simpa [JD] using SeqAt.RcAt.dict_str y t e c.1 dd hu
 | @dic a ob kv ks kp ds h e1 e2 n rr=>
  cases (show u=JP a from r)
  obtain⟨_,_,_,_,o,es,ep,e,c,dd,_⟩:=(show cf X.prog X.w H s.heap a (.dK kv) from(I.hok a _ h).2)
  simpa [JD] using SeqAt.RcAt.dict_str y t e c.1 dd hu
theorem E6(I:af X pins σ H s){A:Around}{O:Ex}{v:V}{d:PyData}{u:Value}(h:Dt X.K H O v d)(ht:dA d=true)(r:aG v u)(y:Str)(t:Tok)(hu:A.units < cLine):Oy A s (.str y t) u (JD (.str y) d):=by
 cases h with
 | non=> cases (show u=LA from r);simpa [JD] using Oy.str_none y t
 | bl b=> cases (show u=Le b from r);simpa [JD] using Oy.str_bool y t b
 | int i=> obtain⟨k,e⟩:=(show ∃t,u=Lw i t from r);cases e;simpa [JD] using NX y t i k
 | str x=> obtain⟨k,e⟩:=(show ∃t,u=Lx x t from r);cases e;simpa [JD] using Oy.str_str y t x k
 | @tup a xs ds h n rr=>
  cases (show u=JP a from r)
  obtain⟨its,rv,p,_⟩:=I.tuple (.inl h)
  simpa [JD] using NP y t (show s.heap.IsTuple a its.toArray from p) hu
 | @tupK a xs ds h rr=>
  cases (show u=JP a from r)
  obtain⟨its,rv,p,_⟩:=I.tuple h.of0
  simpa [JD] using NP y t (show s.heap.IsTuple a its.toArray from p) hu
 | @lst a xs ds h n rr=>
  cases (show u=JP a from r)
  obtain⟨its,rv,p,_⟩:=I.list (.inl h)
  simpa [JD] using Oy.str_list y t p.isList hu
 | pack h n=> exact absurd ht (by simp [dA])
 | purse h n=> exact absurd ht (by simp [dA])
 | scr h r=> exact absurd ht (by simp [dA])
 | obj h e n r=> exact absurd ht (by simp [dA])
 | @dct0 a h n=>
  cases (show u=JP a from r)
  obtain⟨_,_,_,_,o,es,ep,e,c,dd,_⟩:=(show cf X.prog X.w H s.heap a (.dK []) from I.hok a _ h)
  simpa [JD] using Oy.str_dict y t e c.1 dd hu
 | @dic a ob kv ks kp ds h e1 e2 n rr=>
  cases (show u=JP a from r)
  obtain⟨_,_,_,_,o,es,ep,e,c,dd,_⟩:=(show cf X.prog X.w H s.heap a (.dK kv) from(I.hok a _ h).2)
  simpa [JD] using Oy.str_dict y t e c.1 dd hu
end
section
variable {X:Cx} {H0:Hp} {O0:Ex}
def y8(K:Jd):R2:=fun x y H Q=> ∃O dx z,Dt K H O x dx∧dA dx=true∧y= .str z∧Q (.bl (JD dx (.str z))) H
theorem cB{k:Nat}(hr:bE k X.A):bW X (compareOp .Eq) (y8 X.K):=by
 intro pins s σ H x y v u Q I rx ry h
 obtain⟨O,dx,z,hx,ht,rfl,q⟩:=h
 obtain⟨t,rfl⟩:=ry
 have hc:compareOp .Eq v (.str z t)=richCompare .Eq v (.str z t):=rfl
 rw [hc]
 exact E5 I hx ht rx z t hr.units0 X.prog X.w X.xe _ (bG I q rfl)
def jl:PyData→PyData→(PyData→Prop)→Prop:=fun x y Q=> ∃z,y= .str z∧dA x=true∧Q (.bool (JD x (.str z)))
theorem cC{K:Jd}:cL K (y8 K) jl:=fun H O x y dx dy Qd R _ hx hy uu76 k=> by
 obtain⟨z,e,ht,q⟩:=uu76
 subst e;cases hy.str;exact⟨_,dx,z,hx.all,ht,rfl,k _ _ H q (ar.refl _) (.bl _)⟩
theorem E7(dx:PyData){its:List Value}{zs:List Str}(hS:StrsAre its zs):its.any (fun y=> JD (.str (strOf y)) dx)=zs.any fun z=> JD (.str z) dx:=by
 induction hS with
 | nil=> rfl
 | cons y t r ih=> rw [KI,KI,ih];rfl
def y9(K:Jd):R2:=fun x y H Q=> ∃(O:Ex)(dx:PyData)(zs:List Str)(a:Addr),Dt K H O x dx∧dA dx=true∧y= .ref a∧bB K H a (zs.map V.str)∧Q (.bl (zs.any fun z=> JD (.str z) dx)) H
theorem uX{k:Nat}(hr:bE k X.A):bW X (compareOp .In) (y9 X.K):=by
 intro pins s σ H x y v u Q I rx ry h
 obtain⟨O,dx,zs,a,hx,ht,rfl,ha,q⟩:=h
 cases ry
 obtain⟨its,rv,p,_⟩:=I.tuple ha
 have hS:=y3 rv
 have hl:=E7 dx hS
 refine SeqAt.in_tupleAt (fun y=> JD (.str (strOf y)) dx) (show s.heap.IsTuple a its.toArray from p) (fun y hy=> ?_) (by rw [List.any_toArray,hl];exact bG I q rfl)
 obtain⟨z,t,rfl⟩:=hS.all y (by simpa using hy)
 exact E6 I hx ht rx z t (by show X.A.units+1 < cLine;have:=hr.un;omega)
def nG:PyData→PyData→(PyData→Prop)→Prop:=fun x y Q=> ∃zs:List Str,y= .tuple (zs.map .str)∧dA x=true∧Q (.bool (zs.any fun z=> JD (.str z) x))
theorem uY{K:Jd}:cL K (y9 K) nG:=fun H O x y dx dy Qd R _ hx hy uu77 k=> by
 obtain⟨zs,e,ht,q⟩:=uu77
 subst e
 obtain⟨a,vs,rfl,hs,r⟩:=hy.tup
 cases r.strs
 exact⟨_,dx,zs,a,hx.all,ht,rfl,hs,k _ _ H q (ar.refl _) (.bl _)⟩
end
end L2
namespace L2
open PySem
theorem qg{z:Int}{Q:PyData→Prop}:Ek [uI,.int z] Q↔(0 < z∧z≤1000000∧∀i:Int,0≤i→i < z→Q (.int i)):=by
 constructor
 ·rintro⟨z',e,a,b,c⟩
  simp only [J3,Ld,and_true,true_and] at e
  subst e;exact⟨a,b,c⟩
 ·rintro⟨a,b,c⟩;exact⟨z,rfl,a,b,c⟩
end L2
namespace L2
open PySem PySem.Spec PyProof.Rows PySem.W
def qh:PyData→Bool | .str _=> true | _=> false
def nH:PyData→Bool | .int _=> true | .bool _=> true | _=> false
def nI:PyData→Bool | .bool _=> true | _=> false
def kY:PyData→Bool | .tuple _=> true | _=> false
theorem E8{K:Jd}(d:PyData):kitOne K (.type (kP d)) (.type "str")=some (qh d):=by cases d <;> rfl
theorem E9{K:Jd}(d:PyData):kitOne K (.type (kP d)) (.type "int")=some (nH d):=by cases d <;> rfl
theorem Fb{K:Jd}(d:PyData):kitOne K (.type (kP d)) (.type "bool")=some (nI d):=by cases d <;> rfl
theorem Fc{K:Jd}(d:PyData):kitOne K (.type (kP d)) (.type "tuple")=some (kY d):=by cases d <;> rfl
theorem uZ{g:DG}{te:DT}{δ0:Dl}{xs:List PyData}{Q:List PyData→Prop}(f:PyData→PyData)
  (h:∀x∈xs,∀R:PyData→Prop,R (f x)→g x δ0 fun δ2=> te δ2 R)(q:Q (xs.map f)):eZ g ic te δ0 xs Q:=by
 refine⟨fun i acc=> acc=(xs.take i).map f,rfl,?_,?_⟩
 ·rintro i x acc hx rfl
  have:=h x (JO hx) (fun y=> (xs.take i).map f++[y]=(xs.take (i+1)).map f) (by rw [Kk,hx];simp)
  simpa [ic] using this
 ·rintro acc rfl
  rw [JQ (Jm _)];exact q
theorem Fd{g:DG}{tc:DB}{te:DT}{δ0:Dl}{xs:List PyData}{Q:List PyData→Prop}(f:PyData→Option PyData)
  (h:∀x∈xs,∀(R:PyData→Prop) (S:Prop),(match f x with | some y=> R y | none=> S)→g x δ0 fun δ2=> tc δ2 fun ok=> if ok=true then te δ2 R else S)(q:Q (xs.filterMap f)):eZ g tc te δ0 xs Q:=by
 refine⟨fun i acc=> acc=(xs.take i).filterMap f,rfl,?_,?_⟩
 ·rintro i x acc hx rfl
  refine h x (JO hx) (fun y=> (xs.take i).filterMap f++[y]=(xs.take (i+1)).filterMap f) ((xs.take i).filterMap f=(xs.take (i+1)).filterMap f) ?_
  rw [Kk,hx]
  cases e:f x with
  | none=> simp [e]
  | some y=> simp [e]
 ·rintro acc rfl
  rw [JQ (Jm _)];exact q
theorem Fe{g:DG}{te:DT}{δ0:Dl}{xs:List PyData}{p:Bool→Prop}{gg:List Bool→Bool}(f:PyData→Bool)
  (h:∀x∈xs,∀R:PyData→Prop,R (.bool (f x))→g x δ0 fun δ2=> te δ2 R)(q:p (gg (xs.map f))):eZ g ic te δ0 xs fun ds=> ∃bs:List Bool,ds=bs.map Lf∧p (gg bs):=
 uZ (fun x=> .bool (f x)) h ⟨xs.map f,by rw [JH];rfl,q⟩
theorem qi{a:Str}{P:List Str→Prop}:(∃zs,[Jh a]=JF Jh zs∧P zs)↔P [a]:=by
 refine⟨fun⟨zs,e,h⟩=> ?_,fun h=> ⟨_,rfl,h⟩⟩
 match zs,e with
 | [x],e=> simp at e;rw [e];exact h
theorem qj{a b:Str}{P:List Str→Prop}:(∃zs,[Jh a,Jh b]=JF Jh zs∧P zs)↔P [a,b]:=by
 refine⟨fun⟨zs,e,h⟩=> ?_,fun h=> ⟨_,rfl,h⟩⟩
 match zs,e with
 | [x,y],e=> simp at e;rw [e.1,e.2];exact h
theorem qm{a b c:Str}{P:List Str→Prop}:(∃zs,[Jh a,Jh b,Jh c]=JF Jh zs∧P zs)↔P [a,b,c]:=by
 refine⟨fun⟨zs,e,h⟩=> ?_,fun h=> ⟨_,rfl,h⟩⟩
 match zs,e with
 | [x,y,z],e=> simp at e;rw [e.1,e.2.1,e.2.2];exact h
theorem qo{x:Str}:dA (.str x)=true:=rfl
theorem qp{x:Int}:dA (.int x)=true:=rfl
theorem qr{x:Bool}:dA (.bool x)=true:=rfl
theorem qt{x:List PyData}:dA (.tuple x)=true:=rfl
theorem qu{x:List PyData}:dA (.list x)=true:=rfl
end L2
namespace L2
open PySem PySem.Spec PyProof.Rows PySem.W
def units:List Str:=["days","months","years"]
theorem dW{n:Nat}:∀d∈([]:List PyData),cu n d:=fun d hd=> by simp at hd
theorem aZ{n:Nat}{d:PyData}{r:List PyData}(h:cu n d)(hr:∀e∈r,cu n e):∀e∈d::r,cu n e:=fun e he=> by
 rcases Jy.mp he with z | z
 ·rw [z];exact h
 ·exact hr e z
theorem bQ{n:Nat}{x:Str}(h:Jp x=true)(hn:1≤n:=by decide):cu n (.str x):=(yP h).mono hn
theorem gH{n:Nat}{x:Int}(hn:1≤n:=by decide):cu n (.int x):=yQ.mono hn
theorem Ff{n:Nat}{x:Bool}(hn:1≤n:=by decide):cu n (.bool x):=EU.mono hn
theorem u5{n:Nat}{ms:List Str}(h:∀m∈ms,Jp m=true)(hn:1≤n:=by decide):∀d∈ms.map Jh,cu n d:=fun d hd=> by
 obtain⟨m,hm,rfl⟩:=Jw.mp hd
 exact(yP (h m hm)).mono hn
theorem qv{a:PyData}{l:List PyData}:cn (a::l) (some 1) none=l:=by
 rw [p5 (by decide) (by simp only [JC];omega)];rfl
theorem qw{a b:PyData}{l:List PyData}:cn (a::b::l) (some 2) none=l:=by
 rw [p5 (by decide) (by simp only [JC];omega)];rfl
theorem qx{a b c:PyData}{l:List PyData}:cn (a::b::c::l) (some 3) none=l:=by
 rw [p5 (by decide) (by simp only [JC];omega)];rfl
theorem qy{a b c d:PyData}{l:List PyData}:cn (a::b::c::d::l) (some 4) none=l:=by
 rw [p5 (by decide) (by simp only [JC];omega)];rfl
theorem qz{a:PyData}{l:List PyData}:cn (a::l) none (some 1)=[a]:=by
 rw [jN (by decide) (by simp only [JC];omega)];rfl
theorem qA{a b:PyData}{l:List PyData}:cn (a::b::l) none (some 2)=[a,b]:=by
 rw [jN (by decide) (by simp only [JC];omega)];rfl
theorem qB{a b c:PyData}{l:List PyData}:cn (a::b::c::l) none (some 3)=[a,b,c]:=by
 rw [jN (by decide) (by simp only [JC];omega)];rfl
theorem qC{a b c d:PyData}{l:List PyData}:cn (a::b::c::d::l) none (some 4)=[a,b,c,d]:=by
 rw [jN (by decide) (by simp only [JC];omega)];rfl
theorem qD{a b c:PyData}{l:List PyData}:cn (a::b::c::l) (some 1) (some 3)=[b,c]:=by
 unfold cn
 rw [pZ (by decide) (by simp only [JC];omega),pZ (by decide) (by simp only [JC];omega)]
 rfl
end L2
namespace PySem
open Builtin
open AutoSeq1 (wpAny_loadPart')
end PySem
namespace L2
open PySem PySem.Spec PyProof.Rows PySem.W
section
variable {X:Cx} {H0:Hp} {O0:Ex}
def nJ(t:DT):DT:=fun δ Q=> t δ fun d=> ∃i,d= .int i∧Q (.int (-i))
theorem qE{e:Expr}{t:DT}{pos:Pos}(h:DE X H0 O0 e t):DE X H0 O0 (.UnaryOp .USub e pos) (nJ t):=
 (Cs Cv h).imp fun σ H Q uu81=> by obtain⟨O,δ,Qd,w,q,k⟩:=uu81;exact⟨O,δ,_,w,q,fun d v H1 uu82 s1 r1=> by obtain⟨i,e,q1⟩:=uu82;subst e;cases r1;exact⟨i,rfl,k _ _ H1 q1 s1 (.int _)⟩⟩
end
section
variable {X:Cx} {H0:Hp} {O0:Ex}
end
theorem qF{xs:List PyData}:cn xs none (some (-1))=xs.dropLast:=by
 unfold cn
 rw [pH]
 have e:HT.sIx xs.length xs.length (some (-1))=xs.length - 1:=by
  simp only [HT.sIx]
  rw [if_pos (by decide)];omega
 rw [e,List.drop_zero,Nat.sub_zero,List.dropLast_eq_take]
section
variable {x:Option Expr} {n:Nat} {env:Env}
theorem za{a b c}:swapsWith (.Tuple a b c) x n env=pure false:=rfl
theorem nK{a b c d}:swapsWith (.BinOp a b c d) x n env=pure false:=rfl
theorem il{a b c d}:swapsWith (.Call a b c d) x n env=pure false:=rfl
theorem nL{a b c}:swapsWith (.Subscript a b c) x n env=pure false:=rfl
theorem Fg{a b c}:swapsWith (.Dict a b c) x n env=pure false:=rfl
end
end L2
namespace L2
open PySem PySem.Spec PyProof.Rows PySem.W
section
variable {X:Cx} {H0:Hp} {O0:Ex}
end
section
variable {P:Program} {w:World} {K:Jd} {mg:Str→Option Value} {base:Heap}
end
section
variable {X:Cx} {H0:Hp} {O0:Ex}
end
theorem qG:(Jc "paper"==Jc "happens")=false:=by decide+kernel
theorem qH:(Jc "paper"==Jc "rule")=false:=by decide+kernel
theorem qI:(Jc "paper"==Jc "end")=false:=by decide+kernel
theorem qJ:(Jc "paper"==Jc "hold")=false:=by decide+kernel
theorem qK:(Jc "paper"==Jc "lift")=false:=by decide+kernel
theorem qL:(Jc "paper"==Jc "leave")=false:=by decide+kernel
theorem qM:(Jc "happens"==Jc "paper")=false:=by decide+kernel
theorem qN:(Jc "happens"==Jc "rule")=false:=by decide+kernel
theorem qO:(Jc "happens"==Jc "end")=false:=by decide+kernel
theorem qP:(Jc "happens"==Jc "hold")=false:=by decide+kernel
theorem qQ:(Jc "happens"==Jc "lift")=false:=by decide+kernel
theorem qR:(Jc "happens"==Jc "leave")=false:=by decide+kernel
theorem qS:(Jc "rule"==Jc "paper")=false:=by decide+kernel
theorem qT:(Jc "rule"==Jc "happens")=false:=by decide+kernel
theorem qU:(Jc "rule"==Jc "end")=false:=by decide+kernel
theorem qV:(Jc "rule"==Jc "hold")=false:=by decide+kernel
theorem qW:(Jc "rule"==Jc "lift")=false:=by decide+kernel
theorem qX:(Jc "rule"==Jc "leave")=false:=by decide+kernel
theorem qY:(Jc "end"==Jc "paper")=false:=by decide+kernel
theorem qZ:(Jc "end"==Jc "happens")=false:=by decide+kernel
theorem q5:(Jc "end"==Jc "rule")=false:=by decide+kernel
theorem rf:(Jc "end"==Jc "hold")=false:=by decide+kernel
theorem rg:(Jc "end"==Jc "lift")=false:=by decide+kernel
theorem rh:(Jc "end"==Jc "leave")=false:=by decide+kernel
theorem rj:(Jc "hold"==Jc "paper")=false:=by decide+kernel
theorem rn:(Jc "hold"==Jc "happens")=false:=by decide+kernel
theorem rp:(Jc "hold"==Jc "rule")=false:=by decide+kernel
theorem rq:(Jc "hold"==Jc "end")=false:=by decide+kernel
theorem rz:(Jc "hold"==Jc "lift")=false:=by decide+kernel
theorem rA:(Jc "hold"==Jc "leave")=false:=by decide+kernel
theorem rB:(Jc "lift"==Jc "paper")=false:=by decide+kernel
theorem rC:(Jc "lift"==Jc "happens")=false:=by decide+kernel
theorem rD:(Jc "lift"==Jc "rule")=false:=by decide+kernel
theorem rE:(Jc "lift"==Jc "end")=false:=by decide+kernel
theorem rF:(Jc "lift"==Jc "hold")=false:=by decide+kernel
theorem rG:(Jc "lift"==Jc "leave")=false:=by decide+kernel
theorem rH:(Jc "leave"==Jc "paper")=false:=by decide+kernel
theorem rJ:(Jc "leave"==Jc "happens")=false:=by decide+kernel
theorem rK:(Jc "leave"==Jc "rule")=false:=by decide+kernel
theorem rL:(Jc "leave"==Jc "end")=false:=by decide+kernel
theorem rM:(Jc "leave"==Jc "hold")=false:=by decide+kernel
theorem rN:(Jc "leave"==Jc "lift")=false:=by decide+kernel
end L2
namespace L2
open PySem PySem.Spec PyProof.Rows PySem.W
section
variable {X:Cx} {H0:Hp} {O0:Ex}
end
section
variable {X:Cx} {H0:Hp} {O0:Ex}
end
end L2
namespace L2
open PySem PySem.Spec PyProof.Rows PySem.W
section
variable {X:Cx} {H0:Hp} {O0:Ex}
def nM:DS:=fun _ _=> False
theorem Fh{st:Stmt}:PS X st (bI X.K H0 O0 nM):=Ck.imp fun D σ H uu83=> by obtain⟨O,δ,E,w,q,_⟩:=uu83;exact q.elim
end
end L2
namespace L2
open PySem PySem.Spec PyProof.Rows PySem.W
section
variable {α:Type} {P:α→Prop}
theorem rO{a:PyData}{r:Dl}{P:PyData→Prop}:(∃d,(some (Sl.v a)::r)[0]?=some (some (Sl.v d))∧P d)=P a:=by simp
theorem rP{x:Option Sl}{r:Dl}{i:Nat}{P:PyData→Prop}:(∃d,(x::r)[i+1]?=some (some (Sl.v d))∧P d)=(∃d,r[i]?=some (some (Sl.v d))∧P d):=by simp
theorem rQ{a:PyData}{l:Dl}{i:Nat}{P:PyData→Prop}:(∃d,(l.set i (some (Sl.v a)))[i]?=some (some (Sl.v d))∧P d)=(i < l.length∧P a):=by
 apply propext
 rw [Md]
 constructor
 ·rintro⟨d,e,p⟩
  by_cases h:i < l.length
  ·rw [JE h] at e;cases e;exact⟨h,p⟩
  ·rw [Lh (by omega)] at e;cases e
 ·rintro⟨h,p⟩
  exact⟨a,by rw [JE h];rfl,p⟩
theorem rR{x:Option Sl}{l:Dl}{i j:Nat}{P:PyData→Prop}(h:i≠j):(∃d,(l.set i x)[j]?=some (some (Sl.v d))∧P d)=(∃d,l[j]?=some (some (Sl.v d))∧P d):=by rw [JI h]
theorem rS{a:List PyData}{r:Dl}{P:List PyData→Prop}:(∃d,(some (Sl.o a)::r)[0]?=some (some (Sl.o d))∧P d)=P a:=by simp
theorem rT{x:Option Sl}{r:Dl}{i:Nat}{P:List PyData→Prop}:(∃d,(x::r)[i+1]?=some (some (Sl.o d))∧P d)=(∃d,r[i]?=some (some (Sl.o d))∧P d):=by simp
theorem rV{a:List PyData}{l:Dl}{i:Nat}{P:List PyData→Prop}:(∃d,(l.set i (some (Sl.o a)))[i]?=some (some (Sl.o d))∧P d)=(i < l.length∧P a):=by
 apply propext
 rw [Md]
 constructor
 ·rintro⟨d,e,p⟩
  by_cases h:i < l.length
  ·rw [JE h] at e;cases e;exact⟨h,p⟩
  ·rw [Lh (by omega)] at e;cases e
 ·rintro⟨h,p⟩
  exact⟨a,by rw [JE h];rfl,p⟩
theorem rW{x:Option Sl}{l:Dl}{i j:Nat}{P:List PyData→Prop}(h:i≠j):(∃d,(l.set i x)[j]?=some (some (Sl.o d))∧P d)=(∃d,l[j]?=some (some (Sl.o d))∧P d):=by rw [JI h]
theorem rX{a:Bool}{P:Bool→Prop}:(∃b,Lf a= .bool b∧P b)=P a:=by simp
theorem rY{a:Int}{P:Int→Prop}:(∃b,Jg a= .int b∧P b)=P a:=by simp
theorem rZ{a:Str}{P:Str→Prop}:(∃b,Jh a= .str b∧P b)=P a:=by simp
theorem sd{a:List PyData}{P:List PyData→Prop}:(∃b,JG a= .tuple b∧P b)=P a:=by simp
theorem se{a:List PyData}{P:List PyData→Prop}:(∃b,J0 a= .list b∧P b)=P a:=by simp
theorem sf{a b:Int}{P:Int→Int→Prop}:(∃i j,Jg a= .int i∧Jg b= .int j∧P i j)=P a b:=by simp
theorem sg{a b:Str}{P:Str→Str→Prop}:(∃i j,Jh a= .str i∧Jh b= .str j∧P i j)=P a b:=by simp
theorem sj{a b:List PyData}{P:List PyData→List PyData→Prop}:(∃i j,JG a= .tuple i∧JG b= .tuple j∧P i j)=P a b:=by simp
theorem sk{a b:List PyData}{P:List PyData→List PyData→Prop}:(∃i j,J0 a= .list i∧J0 b= .list j∧P i j)=P a b:=by simp
theorem sq{a:PyData}{r:List PyData}{P:PyData→List PyData→Prop}:(∃x y,a::r=x::y∧P x y)=P a r:=propext ⟨fun uu84=> by obtain⟨_,_,e,p⟩:=uu84;cases e;exact p,fun p=> ⟨_,_,rfl,p⟩⟩
theorem sr{a b:PyData}{P:PyData→PyData→Prop}:(∃x y,[a,b]=[x,y]∧P x y)=P a b:=propext ⟨fun uu85=> by obtain⟨_,_,e,p⟩:=uu85;cases e;exact p,fun p=> ⟨_,_,rfl,p⟩⟩
theorem su{a:PyData}{r:List PyData}{P:PyData→Prop}:(∃ds i d,JG (a::r)= .tuple ds∧Jg 0= .int i∧atI ds i=some d∧P d)=P a:=by simp [dU]
theorem sv{a b:PyData}{r:List PyData}{P:PyData→Prop}:(∃ds i d,JG (a::b::r)= .tuple ds∧Jg 1= .int i∧atI ds i=some d∧P d)=P b:=by simp [cW]
theorem sA{a b c:PyData}{r:List PyData}{P:PyData→Prop}:(∃ds i d,JG (a::b::c::r)= .tuple ds∧Jg 2= .int i∧atI ds i=some d∧P d)=P c:=by simp [jM]
theorem sC{a b c e:PyData}{r:List PyData}{P:PyData→Prop}:(∃ds i d,JG (a::b::c::e::r)= .tuple ds∧Jg 3= .int i∧atI ds i=some d∧P d)=P e:=by simp [ij]
theorem sE{a:PyData}{r:List PyData}{P:PyData→Prop}:(∃ds i d,J0 (a::r)= .list ds∧Jg 0= .int i∧atI ds i=some d∧P d)=P a:=by simp [dU]
theorem sF{a b:PyData}{r:List PyData}{P:PyData→Prop}:(∃ds i d,J0 (a::b::r)= .list ds∧Jg 1= .int i∧atI ds i=some d∧P d)=P b:=by simp [cW]
theorem sG{a b c:PyData}{r:List PyData}{P:PyData→Prop}:(∃ds i d,J0 (a::b::c::r)= .list ds∧Jg 2= .int i∧atI ds i=some d∧P d)=P c:=by simp [jM]
theorem sH{xs:List PyData}{k:Int}{P:PyData→Prop}:(∃ds i d,JG xs= .tuple ds∧Jg k= .int i∧atI ds i=some d∧P d)=(∃d,atI xs k=some d∧P d):=by simp
theorem sI{xs:List PyData}{k:Int}{P:PyData→Prop}:(∃ds i d,J0 xs= .list ds∧Jg k= .int i∧atI ds i=some d∧P d)=(∃d,atI xs k=some d∧P d):=by simp
end
end L2
namespace L2
open PySem PySem.Spec PyProof.Rows PySem.W
theorem sJ{v:Str}{x:Option Sl}{l:Dl}{k:Nat}{Q:Bool→Prop}:eJ (cQ jl (cQ fQ (dH 0) (dC (.int 0))) (dC (.str v))) (l.set (k+1) x) Q=eJ (cQ jl (cQ fQ (dH 0) (dC (.int 0))) (dC (.str v))) l Q:=by
 simp only [eJ,cQ,dH,dC,JI (show k+1≠0 by omega)]
end L2
namespace L2
open PySem PySem.Spec PyProof.Rows PySem.W
def fT:ai→PyData
 | .inl i=> .int i
 | .inr x=> .str x
def cG(kd:List (ai×PyData))(k:ai):Option PyData:=(kd.find? fun p=> decide (p.1=k)).map (·.2)
def dM(kd:List (ai×PyData))(k:ai)(d:PyData):List (ai×PyData):=if (kd.any fun p=> decide (p.1=k))=true then kd.map (fun p=> if p.1=k then(p.1,d) else p) else kd++[(k,d)]
section
variable {K:Jd} {H:Hp} {O:Ex}
theorem Dt.key{v:V}{k:ai}(h:Dt K H O v (fT k)):v=kV k:=by
 cases k with
 | inl i=> cases h;rfl
 | inr x=> cases h;rfl
theorem bC.val{kv:List (ai×V)}{kd:List (ai×PyData)}(h:bC K H O kv kd)(k:ai):(dq kv k=none∧cG kd k=none)∨∃v d,dq kv k=some v∧cG kd k=some d∧Dt K H O v d:=by
 induction h with
 | nil=> exact .inl ⟨rfl,rfl⟩
 | @cons j v d r s a _ ih=>
  by_cases e:j=k
  ·exact .inr ⟨v,d,nk e,by simp [cG,KO,e],a⟩
  ·rw [kR e,show cG ((j,d)::s) k=cG s k by simp [cG,KO,e]]
   exact ih
theorem bC.any{kv:List (ai×V)}{kd:List (ai×PyData)}(h:bC K H O kv kd)(k:ai):(kv.any fun p=> decide (p.1=k))=(kd.any fun p=> decide (p.1=k)):=by
 induction h with
 | nil=> rfl
 | cons a _ ih=> simp only [KI,ih]
theorem bC.length{kv:List (ai×V)}{kd:List (ai×PyData)}(h:bC K H O kv kd):kv.length=kd.length:=by
 induction h with
 | nil=> rfl
 | cons a _ ih=> simp only [JC,ih]
theorem bC.append{kv kv':List (ai×V)}{kd kd':List (ai×PyData)}(h:bC K H O kv kd)(h':bC K H O kv' kd'):bC K H O (kv++kv') (kd++kd'):=by
 induction h with
 | nil=> exact h'
 | cons a _ ih=> exact .cons a ih
theorem bC.repl{kv:List (ai×V)}{kd:List (ai×PyData)}(h:bC K H O kv kd)(k:ai){v:V}{d:PyData}(hv:Dt K H O v d):bC K H O (kv.map fun p=> if p.1=k then(p.1,v) else p) (kd.map fun p=> if p.1=k then(p.1,d) else p):=by
 induction h with
 | nil=> exact .nil
 | @cons j u e r s a _ ih=>
  simp only [Jj]
  by_cases z:j=k
  ·rw [if_pos z,if_pos z];exact .cons hv ih
  ·rw [if_neg z,if_neg z];exact .cons a ih
theorem bC.put{kv:List (ai×V)}{kd:List (ai×PyData)}(h:bC K H O kv kd)(k:ai){v:V}{d:PyData}(hv:Dt K H O v d):bC K H O (putK kv k v) (dM kd k d):=by
 unfold putK dM
 rw [h.any k]
 split
 ·exact h.repl k hv
 ·exact h.append (.cons hv .nil)
end
section
variable {X:Cx} {H0:Hp} {O0:Ex}
abbrev jR:=Dl→(List (ai×PyData)→Prop)→Prop
def Fi(K:Jd)(H0:Hp)(O0:Ex)(t:jR):TE:=fun σ H R=> ∃O δ Qd,Wd K H0 O0 H O σ δ∧t δ Qd∧∀kd kv p H',Qd kd→ar H H'→H' p=none→bC K H' O kv kd→R (.ref p) (ao H' p (.dK kv))
abbrev KE(X:Cx)(H0:Hp)(O0:Ex)(e:Expr)(t:jR):Prop:=PE X e (Fi X.K H0 O0 t)
def nN:jR:=fun _ Q=> Q []
theorem sL{pos:Pos}:KE X H0 O0 (.Dict [] [] pos) nN:=EC.imp fun σ H Q uu86=> by obtain⟨O,δ,Qd,w,q,k⟩:=uu86;exact fun p hp=> k [] [] p H q (ar.refl _) hp .nil
def nO(i:Nat)(t:jR):DS:=fun E δ=> t δ fun kd=> E.nx (δ.set i (some (.k kd)))
theorem kZ{i:Nat}{x:Str}{e:Expr}{t:jR}{pos pos':Pos}(hN:X.N.Nodup)(hi:X.N[i]?=some x)(hx:gh X.env.scope x)(he:KE X H0 O0 e t)(hs:swapsWith e (some (.Name x pos')) pos.line X.env=pure false:=by rfl)(hf:X.fn x=true∨X.env.scope.names.lookup x=some .local:=by first | exact .inl rfl | exact .inr rfl | assumption):
  PS X (.Assign [.Name x pos'] e pos) (bI X.K H0 O0 (nO i t)):=
 (di hN hi hx he hs hf).imp fun D σ H ⟨O,δ,E,w,q,k1,k2,k3,k4⟩=> ⟨O,δ,_,w,q,fun ds vs p H1 q1 s1 hp r1=> k1 _ _ _ _ q1 ((w.mono s1).setK hp r1)
  ⟨fun b o e _=> (s1.trans (ar.new hp)) b o e,fun b e n z=> z.elim n fun y=> by
   cases q:H b with
   | none=> exact e q
   | some o=> have:=s1 _ _ q;rw [y,hp] at this;cases this⟩⟩
def nP(i:Nat)(tk tv:DT):DS:=fun E δ=> tv δ fun d=> ∃kd,δ[i]?=some (some (.k kd))∧tk δ fun y=> ∃k,y=fT k∧kd.length < sizeLine∧E.nx (δ.set i (some (.k (dM kd k d))))
theorem sM{i:Nat}{o e v:Expr}{tk tv:DT}{pos pos':Pos}(hu:X.A.units+64 < cLine)(ho:PE X o (eO i))(he:DE X H0 O0 e tk)(hv:DE X H0 O0 v tv)(hs:swapsWith v (some (.Subscript o e pos')) pos.line X.env=pure false:=by rfl):
  PS X (.Assign [.Subscript o e pos'] v pos) (bI X.K H0 O0 (nP i tk tv)):=
 (EA (by omega) ho he hv hs).imp fun D σ H ⟨O,δ,E,w,q,k1,k2,k3,k4⟩=> ⟨O,δ,_,w,q,fun d u H1 uu89 s1 r1=> by
  obtain⟨kd,e,qk⟩:=uu89
  have w1:=w.mono s1
  obtain⟨l,kv,h,a,b,c,r⟩:=w1.ownK e
  refine⟨.ref l,h,O,δ,_,w1,qk,fun y uy H2 ⟨k,ek,hl,q2⟩ s2 r2=> ?_⟩
  subst ek
  obtain rfl:=r2.key
  refine⟨l,_,rfl,nr.k (s2 _ _ c) (by rw [r.length];exact hl),k1 _ _ _ _ q2 ((w1.mono s2).putK e h ((r.mono s2).put k (r1.mono s2))) ⟨fun b' o' z n=> ?_,fun _ _ n=> n⟩⟩
  rw [aJ (fun y=> n (by rw [y];exact a))];exact(s1.trans s2) _ _ z⟩
def nQ(i:Nat)(tk:DT):DT:=fun δ Q=> ∃kd,δ[i]?=some (some (.k kd))∧tk δ fun y=> ∃k d,y=fT k∧cG kd k=some d∧Q d
theorem bC.got{K:Jd}{H:Hp}{O:Ex}{kv:List (ai×V)}{kd:List (ai×PyData)}(h:bC K H O kv kd){k:ai}{d:PyData}(e:cG kd k=some d):∃v,dq kv k=some v∧Dt K H O v d:=by
 rcases h.val k with⟨_,z⟩ | ⟨v,d',a,b,c⟩
 ·rw [e] at z;cases z
 ·rw [e] at b;cases b;exact⟨v,a,c⟩
theorem bC.none{K:Jd}{H:Hp}{O:Ex}{kv:List (ai×V)}{kd:List (ai×PyData)}(h:bC K H O kv kd){k:ai}:(dq kv k).isSome=(cG kd k).isSome:=by
 rcases h.val k with⟨y,z⟩ | ⟨v,d',a,b,c⟩
 ·rw [y,z];rfl
 ·rw [a,b];rfl
theorem nR{i:Nat}{o e:Expr}{tk:DT}{pos:Pos}(hu:X.A.units+64 < cLine)(ho:PE X o (eO i))(he:DE X H0 O0 e tk)(hs:p9 e):DE X H0 O0 (.Subscript o e pos) (nQ i tk):=
 (yH (by omega) ho he hs).imp fun σ H Q uu91=> by
  obtain⟨O,δ,Qd,w,⟨kd,e,q⟩,k⟩:=uu91
  obtain⟨l,kv,h,a,b,c,r⟩:=w.ownK e
  refine⟨.ref l,h,O,δ,_,w,q,fun y uy H2 ⟨ky,d,ek,ev,q2⟩ s2 r2=> ?_⟩
  subst ek
  obtain rfl:=r2.key
  obtain⟨v,hv,dv⟩:=r.got ev
  exact⟨l,v,rfl,by rw [←hv];exact cX.k (s2 _ _ c),k _ _ _ q2 s2 (dv.mono s2)⟩
def nS(i:Nat)(tk:DT):DT:=fun δ Q=> ∃kd,δ[i]?=some (some (.k kd))∧tk δ fun y=> ∃k,y=fT k∧Q ((cG kd k).getD .none)
theorem zb{i:Nat}{o e:Expr}{tk:DT}{apos cpos:Pos}(hu:X.A.units+64 < cLine)(ho:PE X o (eO i))(he:DE X H0 O0 e tk)(m:M1 X o "get" apos e cpos):DE X H0 O0 (.Call (.Attribute o "get" apos) [e] [] cpos) (nS i tk):=
 (yM (by omega) ho he m).imp fun σ H Q uu93=> by
  obtain⟨O,δ,Qd,w,⟨kd,e,q⟩,k⟩:=uu93
  obtain⟨l,kv,h,a,b,c,r⟩:=w.ownK e
  refine⟨.ref l,h,l,rfl,.inl ⟨kv,.inl c⟩,O,δ,_,w,q,fun y uy H2 ⟨ky,ek,q2⟩ s2 r2=> ?_⟩
  subst ek
  obtain rfl:=r2.key
  refine⟨_,cX.k (s2 _ _ c),k _ _ _ q2 s2 ?_⟩
  rcases r.val ky with⟨y,z⟩ | ⟨v,d',a',b',c'⟩
  ·rw [y,z];exact .non
  ·rw [a',b'];exact c'.mono s2
def jm(neg:Bool)(i:Nat)(tk:DT):DT:=fun δ Q=> tk δ fun y=> ∃k,y=fT k∧∃kd,δ[i]?=some (some (.k kd))∧Q (.bool (if neg then !(cG kd k).isSome else(cG kd k).isSome))
theorem Fj{i:Nat}{o e:Expr}{tk:DT}(hu:X.A.units+64 < cLine)(ho:PE X o (eO i))(he:DE X H0 O0 e tk):PC X .In e o (up X.K H0 O0 (jm false i tk)):=fun pins s σ H Q I ⟨O,δ,Qd,w,q,k⟩=>
 yI (by omega) he ho pins s σ H Q I ⟨O,δ,_,w,q,fun y uy H2 uu96 s2 r2=> by
  obtain⟨ky,ek,kd,e,q2⟩:=uu96
  subst ek
  obtain rfl:=r2.key
  obtain⟨l,kv,h,a,b,c,r⟩:=(w.mono s2).ownK e
  exact⟨.ref l,h,l,_,rfl,cX.k c,by rw [r.none];exact k _ _ _ q2 s2 (.bl _)⟩⟩
theorem Fl{i:Nat}{o e:Expr}{tk:DT}(hu:X.A.units+64 < cLine)(ho:PE X o (eO i))(he:DE X H0 O0 e tk):PC X .NotIn e o (up X.K H0 O0 (jm true i tk)):=fun pins s σ H Q I ⟨O,δ,Qd,w,q,k⟩=>
 Ez (by omega) he ho pins s σ H Q I ⟨O,δ,_,w,q,fun y uy H2 uu1 s2 r2=> by
  obtain⟨ky,ek,kd,e,q2⟩:=uu1
  subst ek
  obtain rfl:=r2.key
  obtain⟨l,kv,h,a,b,c,r⟩:=(w.mono s2).ownK e
  exact⟨.ref l,h,l,_,rfl,cX.k c,by rw [r.none];exact k _ _ _ q2 s2 (.bl _)⟩⟩
end
end L2
namespace L2
open PySem PySem.Spec PyProof.Rows PySem.W PySem.Calls
theorem Fm{prog:Program}{w:World}{A:Around}{E:Value→Shared→Prop}{s:Shared}{T:String}{r d:Addr}{n:Nat}{P:Nat→Value→Prop}{OK:Heap→Prop}{ss:List Str}{Q:Value→Shared→Prop}
  (K:KdlSrc prog w T r d n P OK)(hh:A.handled=none)(hok:OK s.heap)(hn:n < 64)(hP:∀vs:List Value,vs.length=n→(∀j v,vs[j]?=some v→P j v)→StrsAre vs ss)
  (h:∀(h' h2:Heap) (tk:Nat) (out:Array Value) (e:Nat) (ss':List Str),(∀b o,s.heap.get? b=some o→h'.get? b=some o)→(∀b o,h'.get? b=some o→h2.get? b=some o)→h2.get? h'.objs.size=some (seqObj "list" out e)→StrsAre out.toList ss'→ss'.Perm ss→sortedS ss'=true→Q (.ref h'.objs.size) {s with heap:=h2,toks:=tk}):
  wpAny (model prog w) A (call (.builtin "sorted") [.ref r]) Q E s:=by
 refine M5 kind_sorted plain_sorted entry_sorted (args_sorted1 _) ?_
 unfold Builtin.«sorted»
 refine wpAny_bind (m:=checkCount "sorted" 1 1 _) (wpAny_pure ?_)
 refine wpAny_bind (kdu_collect (A:=A.in1) K hh hok (JL (LO hn) (by decide)) fun h' tk acc hk hacc=> ?_)
 have hl:acc.toList.length=n:=by rw [J1];exact hacc.1
 refine wpAny_bind (wpAny_newList ?_)
 have hS:=hP acc.toList hl (fun j v e=> hacc.2 j v (by rw [←Array.getElem?_toList];exact e))
 have hoL:(h'.push (seqObj "list" acc.toList.toArray 0)).get? h'.objs.size=some (seqObj "list" acc.toList.toArray 0):=JR _ rfl
 refine wpAny_bind (wpAny_holding (wpAny_call_entry slot_list_sort ⟨_,hoL,rfl⟩ entry_list_sort (list_sort_treeK (s:={s with heap:=h'.push (seqObj "list" acc.toList.toArray 0),toks:=tk}) strKind_oneLt hoL hS.keysOf (fun v₁ v₂ rest e=> keyKind_strs (by rw [←e];exact hS)) (by rw [hl];exact hn) fun st' a1 a2=> ⟨_,rfl,?_⟩) (args_list_sort _)))
 obtain⟨ss',h1,h2,h3⟩:=sorted_out_str hS a1 a2
 obtain⟨e,he⟩:=sortedHeap_at (n:=0) (vs:=acc.toList) (out:=(arrOf st').map (·.2)) hoL
 refine wpAny_pure ⟨_,rfl,h h' _ tk _ e ss' hk (fun b o q=> ?_) he h1 h2 h3⟩
 have hlt:b < h'.objs.size:=Jz q
 rw [sortedHeap_old (JJ hlt) (by rw [size_push'];exact Nat.lt_succ_of_lt hlt),Heap.get?_push_ne _ _ _ (JJ hlt)]
 exact q
theorem zc{P:Program}{w:World}:∀{ss:List Str}{vs:List Value},vs.length=ss.length→(∀(j:Nat)(v:Value),vs[j]?=some v→∃x:Str,ss[j]?=some x∧(cm P w).is (.inr x) v=true)→StrsAre vs ss
 | [],[],_,_=> .nil
 | x::ss,v::vs,hl,h=> by
  obtain⟨y,e,k⟩:=h 0 v rfl
  cases e
  rcases fD (k:= .inr x) (v:=v) k with⟨i,t,e,_⟩ | ⟨z,t,e,ev⟩
  ·cases e
  ·cases e
   subst ev
   exact .cons x t (zc (by simpa using hl) fun j v e=> h (j+1) v e)
theorem zd{X:Cx}:cP X (.builtin "sorted") (fun xs H Q=> X.calm=true∧∃a kv ss,xs=[.ref a]∧Rd H a (.dK kv)∧kv.map (·.1)=ss.map Ke∧ss.length < 64∧∀l,H l=none→Q (.ref l) (ao H l (.lst ((cZ ss).map V.str)))):=by
 intro pins s σ H xs us Q I r h
 obtain⟨hc,a,kv,ss,rfl,ha,hk,h64,q⟩:=h
 obtain⟨u,rfl,rx⟩:=cU r
 cases rx
 obtain⟨hz,lo,vs,rel,dd⟩:=fR I.hok ha
 obtain⟨ep,da⟩:=dd.dictAt
 have hlen:vs.length=ss.length:=by rw [←rel.length,←Jf (f:=(·.1)),hk,Jf]
 refine Fm (ss:=ss) (kdl_dict (kvs:=vs) (ep:=ep) lo) (I.ok.hd hc) da (by omega) (fun us hl hp=> zc (P:=X.prog) (w:=X.w) (by omega) fun j v e=> ?_) fun h' h2 tk out e ss' k1 k2 tU s1 s2 s3=> ?_
 ·obtain⟨k,x,ek,kk⟩:=hp j v e
  have e1:(vs.map (·.1))[j]?=some k:=by rw [JB,ek];rfl
  rw [←rel.keys,hk,JB] at e1
  cases es:ss[j]? with
  | none=> rw [es] at e1;cases e1
  | some y=> rw [es] at e1;cases e1;exact⟨y,rfl,kk⟩
 ·have es:ss'=cZ ss:=yX s2 (yZ _ s3)
  subst es
  have hl2:(cZ ss).length=ss.length:=s2.length_eq
  have I1:af X pins σ H {s with heap:=h',toks:=tk}:=I.kept (t':=tk) k1
  refine⟨.ref _,_,I1.laid (t':=tk) (o:= .lst ((cZ ss).map V.str)) k2 (Jm _) ?_,rfl,q _ (I1.hok.fresh (Jm _))⟩
  refine⟨by rw [Jf,hl2];exact JL (LO h64) (by decide),out.toList,e,uW s1,?_⟩
  rw [tU]
theorem bC.keys{K:Jd}{H:Hp}{O:Ex}{kv:List (ai×V)}{kd:List (ai×PyData)}(h:bC K H O kv kd):kv.map (·.1)=kd.map (·.1):=by
 induction h with
 | nil=> rfl
 | cons a _ ih=> simp only [Jj,ih]
section
variable {X:Cx} {H0:Hp} {O0:Ex}
def nT(i:Nat):DA:=fun δ Q=> ∃kd,δ[i]?=some (some (.k kd))∧∃ss:List Str,kd.map (·.1)=ss.map Ke∧ss.length < 64∧Q ((cZ ss).map .str)
theorem ze{i:Nat}{o:Expr}{np p:Pos}(hc:X.calm=true)(hg:Gl X "sorted")(hm:X.mg "sorted"=none)(hv:bootBuiltins "sorted"=some (.builtin "sorted"))(ho:PE X o (eO i))(he:starEach [o] X.env=(false,eval o X.env)::starEach [] X.env:=by rfl)(hpl:(backTo p (starEach [] X.env)).any (·.1)=false:=by rfl):
  FE X H0 O0 (.Call (.Name "sorted" np) [o] [] p) (nT i):=
 (bX zd hg hm hv (bx ho bZ he) (he:=he) (hpl:=hpl)).imp fun σ H Q uu2=> by
  obtain⟨O,δ,Qd,w,⟨kd,e,ss,ek,h64,q⟩,k⟩:=uu2
  obtain⟨l,kv,h,a,b,c,r⟩:=w.ownK e
  exact⟨.ref l,h,hc,l,kv,ss,rfl,.inl c,by rw [r.keys];exact ek,h64,fun p hp=> k _ _ _ _ q (ar.refl _) hp (ak.ofStrs _)⟩
theorem Jb{i:Nat}{o e:Expr}{tk:DT}{pos:Pos}(hu:X.A.units+64 < cLine)(ho:PE X o (eO i))(he:DE X H0 O0 e tk)(hm:behindInMarks .In o=false:=by rfl):PT X (.Compare e [.In] [o] pos) (cg X.K H0 O0 (eJ (jm false i tk))):=
 (t8 (Fj hu ho he) hm).imp fun σ H Q uu3=> by obtain⟨O,δ,Qd,w,q,k⟩:=uu3;exact⟨O,δ,_,w,q,fun d v H' uu4 s r=> by obtain⟨b,e,qb⟩:=uu4;subst e;cases r;exact⟨b,rfl,k b H' qb s⟩⟩
theorem zf{i:Nat}{o e:Expr}{tk:DT}{pos:Pos}(hu:X.A.units+64 < cLine)(ho:PE X o (eO i))(he:DE X H0 O0 e tk)(hm:behindInMarks .NotIn o=false:=by rfl):PT X (.Compare e [.NotIn] [o] pos) (cg X.K H0 O0 (eJ (jm true i tk))):=
 (t8 (Fl hu ho he) hm).imp fun σ H Q uu5=> by obtain⟨O,δ,Qd,w,q,k⟩:=uu5;exact⟨O,δ,_,w,q,fun d v H' uu6 s r=> by obtain⟨b,e,qb⟩:=uu6;subst e;cases r;exact⟨b,rfl,k b H' qb s⟩⟩
end
section
theorem sN{a:List (ai×PyData)}{r:Dl}{P:List (ai×PyData)→Prop}:(∃d,(some (Sl.k a)::r)[0]?=some (some (Sl.k d))∧P d)=P a:=by simp
theorem sO{x:Option Sl}{r:Dl}{i:Nat}{P:List (ai×PyData)→Prop}:(∃d,(x::r)[i+1]?=some (some (Sl.k d))∧P d)=(∃d,r[i]?=some (some (Sl.k d))∧P d):=by simp
theorem sP{a:List (ai×PyData)}{l:Dl}{i:Nat}{P:List (ai×PyData)→Prop}:(∃d,(l.set i (some (Sl.k a)))[i]?=some (some (Sl.k d))∧P d)=(i < l.length∧P a):=by
 apply propext
 rw [Md]
 constructor
 ·rintro⟨d,e,p⟩
  by_cases h:i < l.length
  ·rw [JE h] at e;cases e;exact⟨h,p⟩
  ·rw [Lh (by omega)] at e;cases e
 ·rintro⟨h,p⟩
  exact⟨a,by rw [JE h];rfl,p⟩
theorem sQ{x:Option Sl}{l:Dl}{i j:Nat}{P:List (ai×PyData)→Prop}(h:i≠j):(∃d,(l.set i x)[j]?=some (some (Sl.k d))∧P d)=(∃d,l[j]?=some (some (Sl.k d))∧P d):=by rw [JI h]
theorem sR{x:Str}{P:ai→Prop}:(∃k,Jh x=fT k∧P k)=P (.inr x):=propext ⟨fun uu7=> by obtain⟨k,e,p⟩:=uu7;cases k with | inl i=> cases e | inr y=> cases e;exact p,fun p=> ⟨_,rfl,p⟩⟩
end
def cH:PyData→Bool
 | .none=> true
 | _=> false
def nU:PyData→PyData→(PyData→Prop)→Prop:=fun x y Q=> y= .none∧Q (.bool (cH x))
def nV:PyData→PyData→(PyData→Prop)→Prop:=fun x y Q=> y= .none∧Q (.bool (!cH x))
theorem Sh.isN{K:Jd}{H:Hp}{O:Ex}{x:V}{d:PyData}(h:Sh K H O x d):decide (x= .non)=cH d:=by
 cases h with
 | dt h=> cases h <;> simp [cH]
 | _=> simp [cH]
theorem la{K:Jd}:cL K (fun x y H Q=> y= .non∧Q (.bl (decide (x= .non))) H) nU:=fun H O x y dx dy Qd R _ hx hy uu8 k=> by
 obtain⟨e,q⟩:=uu8
 subst e
 refine⟨hy.non,?_⟩
 rw [hx.isN];exact k _ _ H q (ar.refl _) (.bl _)
theorem u7{K:Jd}:cL K (fun x y H Q=> y= .non∧Q (.bl (!decide (x= .non))) H) nV:=fun H O x y dx dy Qd R _ hx hy uu9 k=> by
 obtain⟨e,q⟩:=uu9
 subst e
 refine⟨hy.non,?_⟩
 rw [hx.isN];exact k _ _ H q (ar.refl _) (.bl _)
def nW:PyData→PyData→(PyData→Prop)→Prop:=fun x y Q=> ∃ds i d,x=eQ ds∧y= .int i∧atI ds i=some d∧Q d
theorem Fn{K:Jd}:cL K (pJ K) nW:=fun H O x y dx dy Qd R _ hx hy uu10 k=> by
 obtain⟨ds,i,d,e1,e2,e3,q⟩:=uu10
 subst e1 e2
 obtain⟨a,vs,rfl,hs,r⟩:=hx.scr
 cases hy.int
 obtain⟨v,hv,rv⟩:=r.atI e3
 exact⟨a,vs,i,v,rfl,rfl,hs,hv,k d v H q (ar.refl _) rv⟩
section
variable {X:Cx} {H0:Hp} {O0:Ex}
def nX(t:DT)(tl th:DO):DA:=fun δ Q=> t δ fun d=> tl δ fun l=> th δ fun u=> ∃xs,d=eQ xs∧Q (cn xs l u)
theorem Fo{e:Expr}{lo hi:Option Expr}{t:DT}{tl th:DO}{pos p2:Pos}(h:DF X H0 O0 e t)(hl:PO X lo (gC X.K H0 O0 tl))(hu:PO X hi (gC X.K H0 O0 th)):FE X H0 O0 (.Subscript e (.Slice lo hi none p2) pos) (nX t tl th):=
 (pI xV h hl hu).imp fun σ H Q uu11=> by obtain⟨O,δ,Qd,w,q,k⟩:=uu11;exact⟨O,δ,_,w,q,fun d v H1 q1 s1 r1=> ⟨O,δ,_,w.mono s1,q1,fun l H2 q2 s2=> ⟨O,δ,_,w.mono (s1.trans s2),q2,fun u H3 uu12 s3=> by
  obtain⟨xs,e,q3⟩:=uu12
  subst e
  obtain⟨a,vs,rfl,h1,d1⟩:=(r1.mono (s2.trans s3)).scr
  exact⟨a,vs,rfl,h1,fun p hp=> k _ _ _ _ q3 (s1.trans (s2.trans s3)) hp (d1.cut l u)⟩⟩⟩⟩
end
end L2
namespace L2
open PySem PySem.Spec PyProof.Rows PySem.W
structure Rw where
 w:Str
 n:Int
 nm:Str
 r:List PyData
def Rw.enc(x:Rw):PyData:= .tuple (.str x.w:: .int x.n:: .str x.nm::x.r)
def fu(ws:List Str)(day:Int)(x:Rw):Prop:=x.w∈ws∧x.n≤day
instance {ws:List Str} {day:Int} {x:Rw}:Decidable (fu ws day x):=by unfold fu;infer_instance
abbrev Ls:=List (Str×Rw)
def d6(L:Ls):List (ai×PyData):=L.map fun p=> (.inr p.1,p.2.enc)
def cI(L:Ls)(nm:Str):Option Rw:=(L.find? fun p=> decide (p.1=nm)).map (·.2)
def sS(L:Ls)(nm:Str)(x:Rw):Ls:=if (L.any fun p=> decide (p.1=nm))=true then L.map (fun p=> if p.1=nm then(p.1,x) else p) else L++[(nm,x)]
theorem nY{a b:Str}:((Ke a:ai)=Ke b)↔a=b:=⟨fun h=> by cases h;rfl,fun h=> by rw [h]⟩
theorem lh(nm:Str):∀L:Ls,cG (d6 L) (.inr nm)=(cI L nm).map Rw.enc
 | []=> rfl
 | p::L=> by
  have ih:=lh nm L
  unfold cG cI d6 at*
  by_cases h:p.1=nm
  ·simp [KO,h]
  ·have h':¬((Ke p.1:ai)=Ke nm):=fun z=> h (nY.mp z)
   simp only [Jj,KO,decide_eq_false h,decide_eq_false h']
   exact ih
theorem sT(L:Ls)(nm:Str)(x:Rw):dM (d6 L) (.inr nm) x.enc=d6 (sS L nm x):=by
 have ha:(d6 L).any (fun p=> decide (p.1=(Ke nm:ai)))=L.any fun p=> decide (p.1=nm):=by
  unfold d6
  rw [List.any_map]
  congr 1
  funext p
  simp only [NT,nY]
 unfold dM sS
 rw [ha]
 split
 ·unfold d6
  rw [JH,JH]
  apply MB
  intro p _
  simp only [NT,nY]
  split <;> rfl
 ·unfold d6;simp
structure dN (ws:List Str) (day:Int) (xs:List Rw) (L:Ls):Prop where
 nd:(L.map (·.1)).Nodup
 it:∀p∈L,p.1=p.2.nm∧p.2∈xs∧fu ws day p.2∧∀y∈xs,fu ws day y→y.nm=p.1→y.n≤p.2.n
 al:∀y∈xs,fu ws day y→∃p∈L,p.1=y.nm
 le:L.length≤xs.length
theorem dN.nil(ws:List Str)(day:Int):dN ws day [] []:=⟨List.nodup_nil,(fun p h=> by cases h),(fun p h=> by cases h),Jm _⟩
theorem nZ{L:Ls}{nm:Str}{y:Rw}(h:cI L nm=some y):∃p∈L,p.1=nm∧p.2=y:=by
 unfold cI at h
 cases e:L.find? (fun p=> decide (p.1=nm)) with
 | none=> rw [e] at h;cases h
 | some p=>
  rw [e] at h;cases h
  exact⟨p,Lr e,by simpa using Nq e,rfl⟩
theorem zg{L:Ls}{nm:Str}(h:cI L nm=none):∀p∈L,p.1≠nm:=by
 intro p hp e
 unfold cI at h
 rw [Option.map_eq_none_iff,MI] at h
 exact h p hp (by simpa using e)
section
variable {ws:List Str} {day:Int} {xs:List Rw} {L:Ls} {x:Rw}
theorem dN.skip(h:dN ws day xs L)(hx:¬fu ws day x):dN ws day (xs++[x]) L:=by
 refine⟨h.nd,fun p hp=> ?_,fun y hy ho=> ?_,by have:=h.le;simp;omega⟩
 ·obtain⟨a,b,c,d⟩:=h.it p hp
  refine⟨a,by simp [b],c,fun y hy ho e=> ?_⟩
  rcases JM.mp hy with z | z
  ·exact d y z ho e
  ·rw [JV] at z;subst z;exact absurd ho hx
 ·rcases JM.mp hy with z | z
  ·exact h.al y z ho
  ·rw [JV] at z;subst z;exact absurd ho hx
theorem dN.keep(h:dN ws day xs L){y0:Rw}(hl:cI L x.nm=some y0)(hn:¬y0.n < x.n):dN ws day (xs++[x]) L:=by
 obtain⟨p0,hp0,e0,rfl⟩:=nZ hl
 have uq:∀p∈L,p.1=x.nm→p=p0:=fun p hp e=> by
  have nd:=h.nd
  clear h hl hn
  induction L with
  | nil=> cases hp
  | cons q L ih=>
   rw [Jj,KA] at nd
   rcases Jy.mp hp with a | a <;> rcases Jy.mp hp0 with b | b
   ·rw [a,b]
   ·exact absurd (Jw.mpr ⟨p0,b,by rw [e0,←e,a]⟩) nd.1
   ·exact absurd (Jw.mpr ⟨p,a,by rw [e,←e0,b]⟩) nd.1
   ·exact ih b a nd.2
 refine⟨h.nd,fun p hp=> ?_,fun y hy ho=> ?_,by have:=h.le;simp;omega⟩
 ·obtain⟨a,b,c,d⟩:=h.it p hp
  refine⟨a,by simp [b],c,fun y hy ho e=> ?_⟩
  rcases JM.mp hy with z | z
  ·exact d y z ho e
  ·rw [JV] at z;subst z
   rw [uq p hp e.symm];omega
 ·rcases JM.mp hy with z | z
  ·exact h.al y z ho
  ·rw [JV] at z;subst z;exact⟨p0,hp0,e0⟩
theorem dN.put(h:dN ws day xs L)(ho:fu ws day x)(hl:∀y,cI L x.nm=some y→y.n < x.n):dN ws day (xs++[x]) (sS L x.nm x):=by
 unfold sS
 split
 ·rename_i ha
  obtain⟨p0,hp0,e0⟩:=LU.mp ha
  have e0:p0.1=x.nm:=of_decide_eq_true e0
  have hmx:∀y∈xs,fu ws day y→y.nm=x.nm→y.n≤x.n:=fun y hy ho' e=> by
   cases hk:cI L x.nm with
   | none=> exact absurd e0 (zg hk p0 hp0)
   | some z=>
    obtain⟨p,hp,ep,rfl⟩:=nZ hk
    have:=(h.it p hp).2.2.2 y hy ho' (by rw [ep];exact e)
    have:=hl _ hk
    omega
  refine⟨?_,fun p hp=> ?_,fun y hy ho'=> ?_,by have:=h.le;simp;omega⟩
  ·rw [JH,show((fun p:Str×Rw=> p.1)∘ fun p=> if p.1=x.nm then(p.1,x) else p)=fun p=> p.1 by funext p;simp only [NT];split <;> rfl]
   exact h.nd
  ·obtain⟨q,hq,rfl⟩:=Jw.mp hp
   by_cases z:q.1=x.nm
   ·rw [if_pos z]
    refine⟨z,by simp,ho,fun y hy ho' e=> ?_⟩
    rcases JM.mp hy with m | m
    ·exact hmx y m ho' (by rw [e];exact z)
    ·rw [JV] at m;subst m;exact O9 _
   ·rw [if_neg z]
    obtain⟨a,b,c,d⟩:=h.it q hq
    refine⟨a,by simp [b],c,fun y hy ho' e=> ?_⟩
    rcases JM.mp hy with m | m
    ·exact d y m ho' e
    ·rw [JV] at m;subst m;exact absurd e.symm z
  ·rcases JM.mp hy with m | m
   ·obtain⟨p,hp,e⟩:=h.al y m ho'
    refine⟨_,Jw.mpr ⟨p,hp,rfl⟩,?_⟩
    split <;> exact e
   ·rw [JV] at m;subst m
    refine⟨_,Jw.mpr ⟨p0,hp0,rfl⟩,?_⟩
    rw [if_pos e0];exact e0
 ·rename_i ha
  have hno:∀p∈L,p.1≠x.nm:=fun p hp e=> ha (LU.mpr ⟨p,hp,decide_eq_true e⟩)
  refine⟨?_,fun p hp=> ?_,fun y hy ho'=> ?_,by have:=h.le;simp;omega⟩
  ·rw [J6]
   refine Oe.mpr ⟨h.nd,by simp,fun a ha' b hb=> ?_⟩
   simp only [Jj,Kc,JV] at hb
   obtain⟨p,hp,rfl⟩:=Jw.mp ha'
   rw [hb];exact hno p hp
  ·rcases JM.mp hp with m | m
   ·obtain⟨a,b,c,d⟩:=h.it p m
    refine⟨a,by simp [b],c,fun y hy ho' e=> ?_⟩
    rcases JM.mp hy with z | z
    ·exact d y z ho' e
    ·rw [JV] at z;subst z;exact absurd e.symm (hno p m)
   ·rw [JV] at m;subst m
    refine⟨rfl,by simp,ho,fun y hy ho' e=> ?_⟩
    rcases JM.mp hy with z | z
    ·obtain⟨p,hp,e'⟩:=h.al y z ho'
     exact absurd (e'.trans e) (hno p hp)
    ·rw [JV] at z;subst z;exact O9 _
  ·rcases JM.mp hy with m | m
   ·obtain⟨p,hp,e⟩:=h.al y m ho';exact⟨p,by simp [hp],e⟩
   ·rw [JV] at m;subst m;exact⟨(y.nm,y),by simp,rfl⟩
end
structure n4 (ws:List Str) (day:Int) (xs res:List Rw):Prop where
 up:(res.map (·.nm)).Pairwise fun a b=> dz a b=true
 nd:(res.map (·.nm)).Nodup
 it:∀x∈res,x∈xs∧fu ws day x∧∀y∈xs,fu ws day y→y.nm=x.nm→y.n≤x.n
 al:∀y∈xs,fu ws day y→∃x∈res,x.nm=y.nm
 le:res.length≤xs.length
theorem n5{L:Ls}{nm:Str}(h:nm∈L.map (·.1)):∃x,cI L nm=some x:=by
 cases e:cI L nm with
 | some x=> exact⟨x,rfl⟩
 | none=>
  obtain⟨p,hp,e'⟩:=Jw.mp h
  exact absurd e' (zg e p hp)
def sU(L:Ls):List Rw:=(cZ (L.map (·.1))).filterMap (cI L)
theorem Fp{ws:List Str}{day:Int}{xs:List Rw}{L:Ls}(h:dN ws day xs L):(sU L).map (·.nm)=cZ (L.map (·.1)):=by
 unfold sU
 have key:∀l:List Str,(∀a∈l,a∈L.map (·.1))→(l.filterMap (cI L)).map (·.nm)=l:=by
  intro l
  induction l with
  | nil=> intro _;rfl
  | cons a l ih=>
   intro hl
   obtain⟨x,hx⟩:=n5 (hl a (by simp))
   obtain⟨p,hp,e,rfl⟩:=nZ hx
   rw [KW,hx]
   show p.2.nm::_=_
   rw [ih fun b hb=> hl b (by simp [hb]),←(h.it p hp).1,e]
 exact key _ fun a ha=> (fc _).mem_iff.mp ha
theorem dN.res{ws:List Str}{day:Int}{xs:List Rw}{L:Ls}(h:dN ws day xs L):n4 ws day xs (sU L):=by
 have hn:=Fp h
 refine⟨by rw [hn];exact yW _,by rw [hn];exact(fc _).nodup_iff.mpr h.nd,fun x hx=> ?_,fun y hy ho=> ?_,by rw [←Jf (f:=fun x:Rw=> x.nm),hn,(fc _).length_eq,Jf];exact h.le⟩
 ·obtain⟨a,ha,e⟩:=LB.mp hx
  obtain⟨p,hp,e1,rfl⟩:=nZ e
  obtain⟨b1,b2,b3,b4⟩:=h.it p hp
  exact⟨b2,b3,fun y hy ho e=> b4 y hy ho (by rw [b1];exact e)⟩
 ·obtain⟨p,hp,e⟩:=h.al y hy ho
  have:p.1∈(sU L).map (·.nm):=by rw [hn];exact(fc _).mem_iff.mpr (Jw.mpr ⟨p,hp,rfl⟩)
  obtain⟨x,hx,e'⟩:=Jw.mp this
  exact⟨x,hx,e'.trans e⟩
end L2
namespace L2
open PySem PySem.Spec PyProof.Rows PySem.W PySem.Calls
section
variable {P:Program} {w:World} {A:Around} {E:Value→Shared→Prop} {s:Shared}
end
end L2
namespace L2
open PySem PySem.Spec PyProof.Rows PySem.W PySem.Calls
section
variable {P:Program} {w:World} {A:Around} {R:Result→Shared→Prop} {I:Addr} {fp wr:List Addr} {G:Array GenState→Array GenState→Prop} {n:Nat} {Pv:Nat→Value→Prop} {St:Nat→Shared→Prop}
end
section
variable {P:Program} {w:World} {A:Around} {E:Value→Shared→Prop} {s:Shared}
end
end L2
namespace L2
open PySem PySem.Spec PyProof.Rows PySem.W PySem.Calls
section
variable {P:Program} {w:World} {A:Around} {E:Value→Shared→Prop}
end
section
variable {P:Program} {w:World} {A:Around} {E:Value→Shared→Prop} {s:Shared} {a:Addr} {o:Obj} {es:Array (Int×Value)} {ep:Nat} {t:SetTable}
end
end L2
namespace L2
open PySem PySem.Spec PyProof.Rows PySem.W PySem.Calls
section
variable {P:Program} {w:World} {A:Around} {E:Value→Shared→Prop} {s:Shared} {a:Addr} {o:Obj} {es:Array (Int×Value)} {ep:Nat} {t:SetTable}
end
end L2
namespace L2
open PySem PySem.Spec PyProof.Rows PySem.W PySem.Calls
section
variable {P:Program} {w:World} {A:Around} {E:Value→Shared→Prop} {s:Shared} {a:Addr}
end
end L2
namespace L2
open PySem PySem.Spec PyProof.Rows PySem.W PySem.Calls
section
variable {X:Cx} {H0:Hp} {O0:Ex}
end
end L2
namespace L2
open PySem PySem.Spec PyProof.Rows PySem.W PySem.Calls
section
variable {X:Cx} {H0:Hp} {O0:Ex}
end
theorem u9:∀{ns:List Int}{us:List Value},aH (ns.map V.int) us→IntsAre us ns
 | [],_,r=> by rw [Kc] at r;cases r;exact .nil
 | n::ns,_,r=> by
  rw [Jj] at r
  cases r with
  | cons r1 r2=> obtain⟨t,rfl⟩:=r1;exact .cons n t (u9 r2)
theorem Fq{X:Cx}(hc:X.calm=true):cP X (.builtin "max") (fun xs H Q=> ∃(p:Addr)(ns:List Int),xs=[.ref p]∧aP X.K H p (ns.map V.int)∧ns≠[]∧∀M,M∈ns→(∀a∈ns,a≤M)→Q (.int M) H):=by
 intro pins s σ H xs us Q I r h
 obtain⟨p,ns,rfl,hq,hne,q⟩:=h
 obtain⟨u,rfl,rx⟩:=cU r
 cases rx
 obtain⟨its,rv,pl,hz⟩:=I.list hq
 have hi:=u9 rv
 obtain⟨zs,e⟩:=hi.allInts.items
 have hns:ns=zs.toList.map (·.1):=by rw [←hi.numsOf,←nums_intItems,←e]
 have h0:0 < zs.size:=by
  rcases N4 zs.size with z | z
  ·exact absurd (by rw [hns];simp [NA.mp z]) hne
  ·exact z
 have hl:=pl.isList
 rw [e] at hl
 refine max_intList (I.ok.hd hc) hl h0 fun v h' tk hv hk=> ?_
 obtain⟨t,rfl⟩:=intItems_at hv
 obtain⟨h1,h2⟩:=argBest_gt (numAt zs) (zs.size - 1)
 refine⟨.int _,H,I.kept (t':=tk) hk,⟨t,rfl⟩,q _ ?_ fun a ha=> ?_⟩
 ·rw [hns,numAt_eq];exact getD_mem (by rw [Jf,J1];omega)
 ·rw [hns] at ha
  obtain⟨j,hj,rfl⟩:=mem_getD ha
  rw [Jf,J1] at hj
  rw [←numAt_eq];exact h2 j (by omega)
theorem ak.intsL{K:Jd}{H:Hp}{O:Ex}:∀{ns:List Int}{vs:List V},ak K H O vs (ns.map Jg)→vs=ns.map V.int
 | [],_,r=> by rw [Kc] at r;cases r;rfl
 | b::bs,_,r=> by
  rw [Jj] at r
  cases r with
  | cons h r=> cases h;rw [Jj,ak.intsL r]
def n8:List PyData→(PyData→Prop)→Prop:=fun ds Q=> ∃ns:List Int,ds=[.list (ns.map .int)]∧ns≠[]∧∀M,M∈ns→(∀a∈ns,a≤M)→Q (.int M)
theorem Fs{K:Jd}:fo K (fun xs H Q=> ∃(p:Addr)(ns:List Int),xs=[.ref p]∧aP K H p (ns.map V.int)∧ns≠[]∧∀M,M∈ns→(∀a∈ns,a≤M)→Q (.int M) H) n8:=fun H O xs ds Qd R tr hs uu13 k=> by
 obtain⟨ns,e,hne,q⟩:=uu13
 subst e
 cases hs with
 | cons h r=>
  cases r
  obtain⟨a,vs,rfl,h1,d1⟩:=h.lst
  cases d1.intsL
  exact⟨a,ns,rfl,h1,hne,fun M m1 m2=> k _ _ H (q M m1 m2) (ar.refl _) (.int _)⟩
def va(o:Obj)(a:Addr)(kv:List (ai×V)):It:=⟨fun i H=> i < kv.length∧H a=some (.frz o (.dK kv)),fun i H x H'=> H'=H∧∃p,kv[i]?=some p∧x=kV p.1,fun i H=> kv.length≤i∧H a=some (.frz o (.dK kv))⟩
theorem zh{P:Program}{w:World}{H:Hp}{h:Heap}{a:Addr}{o:Obj}{es:Array DictEntry}{ep:Nat}{kv:List (ai×V)}(ok:bV P w H h)(e:H a=some (.frz o (.dK kv)))(d:o.data= .dict es ep):
  (a==sysModules)=false∧∃vs,KV kv vs∧h.DictAt (cm P w) a vs ep:=by
 obtain⟨h1,_,hd,vs,rel,o',es',ep',g,r1,r2,r3⟩:=ok a _ e
 rw [h1] at g;cases g
 rw [d] at r2;cases r2
 exact⟨hd,vs,rel,o,es,h1,r1,d,r3⟩
theorem KV.len{kv:List (ai×V)}{vs:List (ai×Value)}(r:KV kv vs):vs.length=kv.length:=r.length.symm
theorem Ft{P:Program}{w:World}{K:Jd}{tg:Expr}(it a:Addr)(o:Obj)(es:Array DictEntry)(ep:Nat)(kv:List (ai×V))(d:o.data= .dict es ep):lV P w K tg (va o a kv) [it] it (fun i h=> h.IsKeyIter it a i kv.length ep) where
 mem:=by simp
 obj:=fun i h st b hb=> by
  have e:b=it:=by simpa using hb
  subst e
  obtain⟨o,e,c,d⟩:=st
  exact⟨o,e,fun v z=> by rw [d] at z;cases z⟩
 keep:=fun i h h' st k=> st.at fun o e=> k it (by simp) o e
 item:=by
  intro X hP hw hK hc i pins s σ H E I hf st hg
  subst hP hw hK
  obtain⟨hi,ha⟩:=hg
  obtain⟨hd,vs,rel,da⟩:=zh I.hok ha d
  have hlen:=rel.len
  obtain⟨f0,f1,f2,f3,f4,f5⟩:=hf it (by simp)
  obtain⟨⟨k0,v0⟩,hx⟩:∃p,vs[i]?=some p:=⟨vs[i]'(by omega),by simp [hlen,hi]⟩
  refine wpAny_pyNext_dict_item (by rw [hlen];exact st) da hx fun key h' hkey st' sb=> ?_
  rw [hlen] at st'
  have I1:af X pins σ H {s with heap:=h'}:=I.turned (t':=s.toks) (fun b o hb e=> (sb.2 b hb).trans e) f0 f1 f3 f4 f5
  obtain⟨u,e,c,dd⟩:=id st'
  have ek:(kv[i]'hi).1=k0:=by
   have z:=congrArg (fun l:List ai=> l[i]?) rel.keys
   simp only [JB,hx] at z
   simpa [hi] using z
  refine⟨key,rfl,pf (s:={s with heap:=h'}) e c dd (by decide) ⟨kV (kv[i]'hi).1,H,I1,?_,⟨rfl,_,by simp [hi],rfl⟩,st',fun b hb=> (hf b hb).1⟩⟩
  rw [ek]
  rcases fD (k:=k0) (v:=key) hkey with⟨j,t,e1,e2⟩ | ⟨j,t,e1,e2⟩
  ·rw [e1,e2];exact⟨t,rfl⟩
  ·rw [e1,e2];exact⟨t,rfl⟩
 done:=by
  intro X hP hw hK hc i pins s σ H E I hf st hg
  subst hP hw hK
  obtain⟨hi,ha⟩:=hg
  obtain⟨hd,vs,rel,da⟩:=zh I.hok ha d
  have hlen:=rel.len
  obtain⟨f0,f1,f2,f3,f4,f5⟩:=hf it (by simp)
  refine wpAny_pyNext_dict_end (I.ok.hd hc) (by rw [hlen];exact st) da (by simp [hlen,hi]) fun h' he=> ⟨rfl,?_⟩
  exact I.turned (t':=s.toks) (fun b o hb e=> he b o hb e) f0 f1 f3 f4 f5
 self:=fun A i s Q E st h=> wpAny_pyIter_keyiter st h
theorem Wd.frzK{K:Jd}{H0 H:Hp}{O0 O:Ex}{σ:St}{δ:Dl}(w:Wd K H0 O0 H O σ δ){i:Nat}{l:Addr}{y0:Sl}(e:δ[i]?=some (some y0))(ho:y0.own)(h:σ[i]?=some (some (.ref l)))(u:HO):
  ∃O',Wd K H0 O0 (ao H l u) O' σ (δ.set i none)∧aR H (ao H l u) O O'∧¬O' l:=by
 obtain⟨l',x1,a,b⟩:=w.adr e ho
 rw [h] at x1;cases x1
 have l0:H0 l=none:=(w.new l a).resolve_left b
 have S:aR H (ao H l u) O (fun x=> O x∧x≠l):=⟨fun c q z n=> by rw [aJ (fun y=> n (by rw [y];exact a))];exact z,fun _ _ n z=> n z.1⟩
 have li:i < δ.length:=(Jr.mp e).1
 have ne:∀{j:Nat}{y:Sl},(δ.set i none)[j]?=some (some y)→j≠i:=fun{j y} q z=> by
  subst z;rw [JT li] at q;cases q
 refine⟨_,⟨fun c q z=> ?_,fun x z=> ⟨w.sub x z,fun y=> b (by rw [←y];exact z)⟩,fun x z=> w.new x z.1,fun x z=> by rw [aJ z.2];exact w.trk x z.1,by simp [w.len],fun j y q=> ?_,fun j k y z l' e1 y1 e2 z2 e3 e4=> ?_⟩,S,fun z=> z.2 rfl⟩
 ·have:c≠l:=fun y=> by rw [y,l0] at z;cases z
  rw [aJ this];exact w.same c q z
 ·by_cases hj:j=i
  ·subst hj
   rw [JT li] at q
   cases q
   exact Ko
  ·rw [JI (Ne.symm hj)] at q
   refine(w.sl j y q).go S fun b o ho' e' a1 a2 a3=> ?_
   have nb:b≠l:=fun z=> by
    subst z
    match y,ho',q with
    | some z,ho',q=> exact hj (w.dis j i z y0 _ q (by cases z <;> first | trivial | cases ho') e ho (km e') h)
   exact⟨⟨a1,nb⟩,by rw [aJ nb];exact a3⟩
 ·have n1:=ne e1;have n2:=ne e2
  rw [JI (Ne.symm n1)] at e1
  rw [JI (Ne.symm n2)] at e2
  exact w.dis j k _ _ l' e1 y1 e2 z2 e3 e4
theorem cF.dk{o:Obj}{a:Addr}{kv:List (ai×V)}:cF (va o a kv) (fun H=> H a=some (.frz o (.dK kv))) (kv.map fun p=> kV p.1):=by
 refine⟨fun i H' s hi=> ⟨by simpa using hi,s⟩,fun i H' x H'' s hi y=> ⟨y.1,?_⟩,fun i H' s hi=> ⟨by simpa using hi,s⟩⟩
 obtain⟨_,p,hp,rfl⟩:=y
 simp [hp]
section
variable {X:Cx} {H0:Hp} {O0:Ex}
end
def jS:List (DT×DT)→Dl→(List (PyData×PyData)→Prop)→Prop
 | [],_,Q=> Q []
 | (a,b)::r,δ,Q=> a δ fun x=> b δ fun y=> jS r δ fun ps=> Q ((x,y)::ps)
inductive jn (K:Jd) (H:Hp) (O:Ex):List (V×V)→List (PyData×PyData)→Prop
 | nil:jn K H O [] []
 | cons {a b:V} {x y:PyData} {r s}:Dt K H O a x→Dt K H O b y→jn K H O r s→jn K H O ((a,b)::r) ((x,y)::s)
theorem zj{K:Jd}{H0:Hp}{O0 O:Ex}{σ:St}{δ:Dl}:∀(trs:List (DT×DT)){H:Hp}{Qd:List (PyData×PyData)→Prop}{R:List (V×V)→Hp→Prop},Wd K H0 O0 H O σ δ→jS trs δ Qd→(∀ds vs H',Qd ds→ar H H'→jn K H' O vs ds→R vs H')→qa (trs.map fun p=> (up K H0 O0 p.1,up K H0 O0 p.2)) σ H R
 | [],H,Qd,R,w,q,k=> k [] [] H q (ar.refl _) .nil
 | (a,b)::r,H,Qd,R,w,q,k=> by
  refine⟨O,δ,_,w,q,fun x v H1 q1 s1 r1=> ⟨O,δ,_,w.mono s1,q1,fun y u H2 q2 s2 r2=> ?_⟩⟩
  exact zj r ((w.mono s1).mono s2) q2 fun ds vs H3 q3 s3 r3=> k _ _ H3 q3 ((s1.trans s2).trans s3) (.cons (r1.mono (s2.trans s3)) (r2.mono s3) r3)
theorem Dt.free{K:Jd}{H H':Hp}{O O':Ex}{v:V}{d:PyData}(h:Dt K H O v d)(s:jE d=true):Dt K H' O' v d:=by
 cases h <;> first | exact .non | exact .bl _ | exact .int _ | exact .str _ | cases s
theorem jn.kd{K:Jd}{H H':Hp}{O:Ex}:∀{kd:List (ai×PyData)}{ps:List (V×V)},jn K H O ps (kd.map fun p=> (fT p.1,p.2))→(∀p∈kd,jE p.2=true)→∃kv:List (ai×V),ps=kv.map (fun p=> (kV p.1,p.2))∧bC K H' O kv kd
 | [],_,h,_=> by cases h;exact⟨[],rfl,.nil⟩
 | p::kd,_,h,sc=> by
  cases h with
  | cons a b r=>
   obtain⟨kv,e,k⟩:=jn.kd r fun q hq=> sc q (JS _ hq)
   have:=a.key
   exact⟨(p.1,_)::kv,by rw [e,this];rfl,.cons (b.free (sc p JY)) k⟩
theorem bC.merge{K:Jd}{H:Hp}{O:Ex}{more:List (ai×V)}{md:List (ai×PyData)}(h:bC K H O more md):∀{kv:List (ai×V)}{kd:List (ai×PyData)},bC K H O kv kd→bC K H O (fS kv more) (md.foldl (fun a p=> dM a p.1 p.2) kd):=by
 induction h with
 | nil=> intro kv kd r;exact r
 | cons a _ ih=> intro kv kd r;exact ih (r.put _ a)
section
variable {X:Cx} {H0:Hp} {O0:Ex}
def n9(trs:List (DT×DT)):jR:=fun δ Q=> jS trs δ fun ps=> ∃kd:List (ai×PyData),ps=kd.map (fun p=> (fT p.1,p.2))∧kd.length≤15∧(∀p∈kd,jE p.2=true)∧Q (kd.foldl (fun a p=> dM a p.1 p.2) [])
def sV(X:Cx)(H0:Hp)(O0:Ex)(pos:Pos)(keys:List (Option Expr))(values:List Expr)(trs:List (DT×DT)):Prop:=nu X pos keys values (trs.map fun p=> (up X.K H0 O0 p.1,up X.K H0 O0 p.2))
theorem Fv{pos:Pos}:sV X H0 O0 pos [] [] []:=ED
theorem sW{pos:Pos}{k v:Expr}{ks:List (Option Expr)}{vs:List Expr}{tk tv:DT}{trs:List (DT×DT)}(hk:DE X H0 O0 k tk)(hv:DE X H0 O0 v tv)(hr:sV X H0 O0 pos ks vs trs):sV X H0 O0 pos (some k::ks) (v::vs) ((tk,tv)::trs):=EF hk hv hr
theorem Fw{pos:Pos}{keys:List (Option Expr)}{values:List Expr}{trs:List (DT×DT)}(h:sV X H0 O0 pos keys values trs)(hall:keys.all (·.isSome)=true:=by rfl)(hl:keys.length=values.length:=by rfl)(h0:keys≠[]:=by exact List.cons_ne_nil _ _)(h15:keys.length≤15:=by exact Nat.le_of_ble_eq_true rfl):KE X H0 O0 (.Dict keys values pos) (n9 trs):=
 (EH h hall hl h0 h15).imp fun σ H Q ⟨O,δ,Qd,w,q,k⟩=> fun p hp=> by
  refine zj trs (w.mono (ar.new hp)) q fun ds vs H2 ⟨kd,e,n,sc,q2⟩ s2 r2=> ?_
  subst e
  have hp2:H2 p=some (.dK []):=s2 _ _ bj
  obtain⟨kv,e,r⟩:=jn.kd (H':=fun b=> if b=p then none else H2 b) r2 sc
  refine⟨hp2,kv,e,by rw [r.length];exact n,?_⟩
  have eu:ao H2 p (.dK (fS [] kv))=ao (fun b=> if b=p then none else H2 b) p (.dK (fS [] kv)):=by
   funext b;unfold ao;split
   ·rfl
   ·rename_i hb;exact(if_neg hb).symm
  rw [eu]
  refine k _ _ p _ q2 (fun b o z=> ?_) (if_pos rfl) (r.merge .nil)
  have:b≠p:=fun y=> by rw [y,hp] at z;cases z
  show(if b=p then none else H2 b)=some o
  rw [if_neg this]
  exact s2 _ _ (by rw [aJ this];exact z)
end
end L2
namespace L2
open PySem PySem.Spec PyProof.Rows PySem.W PySem.Calls
section
variable {X:Cx} {H0:Hp} {O0:Ex}
theorem sX{N':List Str}{k:Nat}{fr:List Nat}{scope:Scope}{iter elt tg:Expr}{ifs:List Expr}{t te:DT}{tc:DB}{g:TG}{dg:DG}{pos:Pos}(hc:X.calm=true)(S:bH X.env.scope X.N N' k fr scope)(hi:DF X H0 O0 iter t)(gd:GD X.K g dg)(hk:ie g k)(hfr:fr.Nodup)
  (hg:∀fp C s H,PG (bK X scope N' fp C s H) tg g)(hf:∀fp C s H,eF (bK X scope N' fp C s H) ifs (cg X.K H0 O0 tc))(he:∀fp C s H,PE (bK X scope N' fp C s H) elt (up X.K H0 O0 te))
  (hs:∀x,foldedSetIterable iter X.env x=pure x:=by intro _;rfl):PU X (.ListComp elt [⟨tg,iter,ifs,0⟩] scope pos) (pR X.K H0 O0 (jL t dg tc te k fr)):=
 (yR hc S (uh hi) hg hf he hs).imp fun σ H Q uu16=> by obtain⟨O,δ,Qd,w,q,kk⟩:=uu16;exact⟨O,δ,_,w,q,fun d v H1 uu17 s1 r1=> by
  obtain⟨xs,e,hz,q1⟩:=uu17
  subst e
  obtain⟨a,vs,rfl,hq,rr⟩:=r1.tup
  refine⟨a,rfl,⟨_,hq⟩,fun D hD=> kI (cF.tup hq) gd hfr (fun v _ H' R h=> hk fr σ v H' R h) (fun _ _ _ z=> z) (fun _ _ _ z=> z) (fun D H' hD s' o e=> s' _ _ e (cT e hD)) rr (w.mono s1) (by rw [rr.length];exact hz) q1 (fun ds us p H' z s' hp r'=> kk ds us p H' z (s1.trans s') hp r') D hD⟩⟩
end
end L2
namespace L2
open PySem PySem.Spec PyProof.Rows PySem.W PySem.Calls
structure lp (n:Nat) (lt:Nat→Nat→Bool) (I:Shared→Prop) (cmp:Nat→Nat→(Bool→Shared→Prop)→Shared→Prop):Prop where
 as:∀i j C s,i < n→j < n→i≠j→I s→(∀s',I s'→C (lt i j) s')→cmp i j C s
structure gI (n:Nat) (lt:Nat→Nat→Bool):Prop where
 tot:∀i j,i < n→j < n→i≠j→lt i j=!lt j i
 tr:∀i j k,i < n→j < n→k < n→lt i j=true→lt j k=true→lt i k=true
structure bY (n:Nat) (p:Array Nat):Prop where
 perm:p.toList.Perm (Kn n)
theorem bY.size{n:Nat}{p:Array Nat}(h:bY n p):p.size=n:=by rw [←J1,h.perm.length_eq,Mf]
theorem bY.lt{n:Nat}{p:Array Nat}(h:bY n p){k:Nat}(hk:k < n):p.getD k 0 < n:=by
 have hs:=h.size
 have e:p.getD k 0=p[k]'(by omega):=by simp [Mc,show k < p.size by omega]
 rw [e]
 have:=h.perm.mem_iff.mp (NM.mpr (Array.getElem_mem (show k < p.size by omega)))
 simpa using this
theorem bY.ne{n:Nat}{p:Array Nat}(h:bY n p){i j:Nat}(hi:i < n)(hj:j < n)(hij:i≠j):p.getD i 0≠p.getD j 0:=by
 have hs:=h.size
 have nd:p.toList.Nodup:=h.perm.nodup_iff.mpr List.nodup_range
 have ei:p.getD i 0=p.toList[i]'(by simp;omega):=by simp [Mc,show i < p.size by omega]
 have ej:p.getD j 0=p.toList[j]'(by simp;omega):=by simp [Mc,show j < p.size by omega]
 rw [ei,ej]
 intro e
 exact hij ((Mm nd).mp e)
theorem bY.bubble{n:Nat}{p:Array Nat}(h:bY n p)(a d:Nat):bY n (MC p a d):=⟨(MQ.mp (bubble_perm p a d)).trans h.perm⟩
theorem bY.rev{n:Nat}{p:Array Nat}(h:bY n p)(i j:Nat):bY n (kas_rev p i j):=⟨(MQ.mp (mirror_perm p i j _)).trans h.perm⟩
theorem vb(n:Nat):bY n (N5 (Kn n)):=⟨by simp⟩
def Up(lt:Nat→Nat→Bool)(p:Array Nat)(k:Nat):Prop:=∀i j,i < j→j < k→lt (p.getD i 0) (p.getD j 0)=true
section
variable {n:Nat} {lt:Nat→Nat→Bool} {I:Shared→Prop} {cmp:Nat→Nat→(Bool→Shared→Prop)→Shared→Prop}
theorem Up.snoc(T:gI n lt){p:Array Nat}(hp:bY n p){k:Nat}(hk:k < n)(h:Up lt p k)(h0:0 < k)(hl:lt (p.getD (k - 1) 0) (p.getD k 0)=true):Up lt p (k+1):=by
 intro i j hij hj
 rcases LP j k with z | z
 ·exact h i j hij z
 ·have:j=k:=by omega
  subst this
  rcases LP i (j - 1) with w | w
  ·exact T.tr _ _ _ (hp.lt (by omega)) (hp.lt (by omega)) (hp.lt hk) (h i (j - 1) w (by omega)) hl
  ·have:i=j - 1:=by omega
   subst this;exact hl
theorem vc(A:lp n lt I cmp)(T:gI n lt){p:Array Nat}(hp:bY n p){Q:Nat→Shared→Prop}:∀(f m:Nat)(s:Shared),1≤m→m+f=n→Up lt p m→I s→
  (∀k s',I s'→m≤k→k≤n→Up lt p k→(k < n→lt (p.getD k 0) (p.getD (k - 1) 0)=true)→Q k s')→(kas_asc p f m).kasWp cmp Q s
 | 0,m,s,h1,hf,hu,hI,q=> q m s hI (Jm _) (by omega) hu (fun z=> by omega)
 | f+1,m,s,h1,hf,hu,hI,q=> by
  have hm:m < n:=by omega
  refine A.as _ _ _ s (hp.lt hm) (hp.lt (by omega)) (hp.ne hm (by omega) (by omega)) hI fun s' hI'=> ?_
  cases hc:lt (p.getD m 0) (p.getD (m - 1) 0) with
  | true=>
   dsimp only;rw [if_pos rfl]
   exact q m s' hI' (Jm _) (by omega) hu (fun _=> hc)
  | false=>
   dsimp only;rw [if_neg (by simp)]
   have hl:lt (p.getD (m - 1) 0) (p.getD m 0)=true:=by rw [T.tot _ _ (hp.lt (by omega)) (hp.lt hm) (hp.ne (by omega) hm (by omega)),hc];rfl
   exact vc A T hp f (m+1) s' (by omega) (by omega) (hu.snoc T hp hm (by omega) hl) hI' fun k s2 a b c d e=> q k s2 a (by omega) c d e
def Dn(lt:Nat→Nat→Bool)(p:Array Nat)(k:Nat):Prop:=∀i j,i < j→j < k→lt (p.getD j 0) (p.getD i 0)=true
theorem Dn.snoc(T:gI n lt){p:Array Nat}(hp:bY n p){k:Nat}(hk:k < n)(h:Dn lt p k)(h0:0 < k)(hl:lt (p.getD k 0) (p.getD (k - 1) 0)=true):Dn lt p (k+1):=by
 intro i j hij hj
 rcases LP j k with z | z
 ·exact h i j hij z
 ·have:j=k:=by omega
  subst this
  rcases LP i (j - 1) with w | w
  ·exact T.tr _ _ _ (hp.lt hk) (hp.lt (by omega)) (hp.lt (by omega)) hl (h i (j - 1) w (by omega))
  ·have:i=j - 1:=by omega
   subst this;exact hl
theorem zk(A:lp n lt I cmp)(T:gI n lt){p:Array Nat}(hp:bY n p){Q:Array Nat×Nat×Nat→Shared→Prop}:∀(f m:Nat)(s:Shared),1≤m→m+f=n→Dn lt p m→I s→
  (∀k s',I s'→m≤k→k≤n→Dn lt p k→Q (p,k,0) s')→(kas_desc f p m 0).kasWp cmp Q s
 | 0,m,s,h1,hf,hu,hI,q=> q m s hI (Jm _) (by omega) hu
 | f+1,m,s,h1,hf,hu,hI,q=> by
  have hm:m < n:=by omega
  refine A.as _ _ _ s (hp.lt hm) (hp.lt (by omega)) (hp.ne hm (by omega) (by omega)) hI fun s' hI'=> ?_
  cases hc:lt (p.getD m 0) (p.getD (m - 1) 0) with
  | true=>
   dsimp only;rw [if_pos rfl,if_neg (by simp)]
   exact zk A T hp f (m+1) s' (by omega) (by omega) (hu.snoc T hp hm (by omega) hc) hI' fun k s2 a b c d=> q k s2 a (by omega) c d
  | false=>
   dsimp only;rw [if_neg (by simp)]
   refine A.as _ _ _ s' (hp.lt (by omega)) (hp.lt hm) (hp.ne (by omega) hm (by omega)) hI' fun s2 hI2=> ?_
   have hl:lt (p.getD (m - 1) 0) (p.getD m 0)=true:=by rw [T.tot _ _ (hp.lt (by omega)) (hp.lt hm) (hp.ne (by omega) hm (by omega)),hc];rfl
   rw [hl];dsimp only;rw [if_pos rfl]
   exact q m s2 hI2 (Jm _) (by omega) hu
theorem zm{p:Array Nat}{j k:Nat}(hj:j≤p.size):(kas_rev p 0 j).getD k 0=if k < j then p.getD (j - 1 - k) 0 else p.getD k 0:=by
 have:=getElem?_mirror_all (xs:=p) (i:=0) (j:=j) hj k
 unfold kas_rev
 rw [Kt,this]
 by_cases h:k < j
 ·simp [h,Kt]
 ·simp [h,Kt]
theorem Dn.rev{p:Array Nat}(hp:bY n p){k:Nat}(hk:k≤n)(h:Dn lt p k):Up lt (kas_rev p 0 k) k:=by
 intro i j hij hj
 have hs:=hp.size
 rw [zm (by omega),zm (by omega),if_pos (by omega),if_pos hj]
 exact h _ _ (by omega) (by omega)
theorem Fx(A:lp n lt I cmp)(T:gI n lt)(h2:2≤n){p:Array Nat}(hp:bY n p){Q:Nat×Array Nat→Shared→Prop}{s:Shared}(hI:I s)
  (q:∀k p' s',I s'→1≤k→k≤n→bY n p'→Up lt p' k→Q (k,p') s'):(kas_count n p).kasWp cmp Q s:=by
 unfold kas_count
 rw [L7]
 refine vc A T hp (n - 1) 1 s (Jm _) (by omega) (fun i j a b=> by omega) hI fun m s1 hI1 m1 m2 hu hs=> ?_
 by_cases hm:m=n
 ·subst hm
  rw [if_pos (by simp)]
  exact q m p s1 hI1 m1 (Jm _) hp hu
 ·rw [if_neg (by simpa using hm)]
  by_cases hm1:m > 1
  ·rw [if_pos hm1]
   refine A.as _ _ _ s1 (hp.lt (by omega)) (hp.lt (by omega)) (hp.ne (by omega) (by omega) (by omega)) hI1 fun s2 hI2=> ?_
   rw [hu 0 (m - 1) (by omega) (by omega)];dsimp only;rw [if_pos rfl]
   exact q m p s2 hI2 m1 (by omega) hp hu
  ·rw [if_neg hm1]
   have:m=1:=by omega
   subst this
   have h10:=hs (by omega)
   unfold kas_descPart
   rw [L7]
   refine zk A T hp (n - (1+1)) (1+1) s1 (by omega) (by omega) (fun i j a b=> ?_) hI1 fun k s2 hI2 k1 k2 hd=> ?_
   ·have:i=0:=by omega
    have:j=1:=by omega
    subst_vars
    exact h10
   ·rw [if_neg (by simp)]
    unfold kas_tail3
    rw [L7]
    have hp':=hp.rev 0 k
    refine vc A T hp' (n - k) k s2 (by omega) (by omega) (hd.rev hp k2) hI2 fun m s3 hI3 a b c d=> ?_
    exact q m _ s3 hI3 (by omega) b hp' c
theorem vd(A:lp n lt I cmp)(T:gI n lt){p:Array Nat}(hp:bY n p){k:Nat}(hk:k < n)(hu:Up lt p k){Q:Nat→Shared→Prop}:∀(f l r:Nat)(s:Shared),r - l≤f→l≤r→r≤k→I s→
  (∀i,i < l→lt (p.getD i 0) (p.getD k 0)=true)→(∀i,r≤i→i < k→lt (p.getD k 0) (p.getD i 0)=true)→
  (∀l s',I s'→l≤k→(∀i,i < l→lt (p.getD i 0) (p.getD k 0)=true)→(∀i,l≤i→i < k→lt (p.getD k 0) (p.getD i 0)=true)→Q l s')→(kas_place p k f l r).kasWp cmp Q s
 | 0,l,r,s,hf,hlr,hrk,hI,h1,h2,q=> q l s hI (by omega) h1 (fun i a b=> h2 i (by omega) b)
 | f+1,l,r,s,hf,hlr,hrk,hI,h1,h2,q=> by
  unfold kas_place
  by_cases hge:l ≥ r
  ·rw [if_pos hge]
   exact q l s hI (by omega) h1 (fun i a b=> h2 i (by omega) b)
  ·rw [if_neg hge]
   have hm:(l+r)/ 2 < k:=by omega
   refine A.as _ _ _ s (hp.lt hk) (hp.lt (by omega)) (hp.ne hk (by omega) (by omega)) hI fun s' hI'=> ?_
   cases hc:lt (p.getD k 0) (p.getD ((l+r)/ 2) 0) with
   | true=>
    dsimp only;rw [if_pos rfl]
    refine vd A T hp hk hu f l ((l+r)/ 2) s' (by omega) (by omega) (by omega) hI' h1 (fun i a b=> ?_) q
    rcases LP ((l+r)/ 2) i with z | z
    ·exact T.tr _ _ _ (hp.lt hk) (hp.lt (by omega)) (hp.lt (by omega)) hc (hu _ _ z b)
    ·have:i=(l+r)/ 2:=by omega
     rw [this];exact hc
   | false=>
    dsimp only;rw [if_neg (by simp)]
    have hl:lt (p.getD ((l+r)/ 2) 0) (p.getD k 0)=true:=by rw [T.tot _ _ (hp.lt (by omega)) (hp.lt hk) (hp.ne (by omega) hk (by omega)),hc];rfl
    refine vd A T hp hk hu f ((l+r)/ 2+1) r s' (by omega) (by omega) hrk hI' (fun i a=> ?_) h2 q
    rcases LP i ((l+r)/ 2) with z | z
    ·exact T.tr _ _ _ (hp.lt (by omega)) (hp.lt (by omega)) (hp.lt hk) (hu _ _ z hm) hl
    ·have:i=(l+r)/ 2:=by omega
     rw [this];exact hl
theorem zo{p:Array Nat}{k d i:Nat}(hk:k < p.size)(hd:d≤k):(MC p k d).getD i 0=if i=k - d then p.getD k 0 else if k - d < i∧i≤k then p.getD (i - 1) 0 else p.getD i 0:=by
 rw [Kt,getElem?_bubble hk d hd i]
 by_cases h1:i=k - d
 ·rw [if_pos h1,if_pos h1,Kt]
 ·rw [if_neg h1,if_neg h1]
  by_cases h2:k - d < i∧i≤k
  ·rw [if_pos h2,if_pos h2,Kt]
  ·rw [if_neg h2,if_neg h2,Kt]
theorem Up.ins(T:gI n lt){p:Array Nat}(hp:bY n p){k l:Nat}(hk:k < n)(hu:Up lt p k)(hl:l≤k)(h1:∀i,i < l→lt (p.getD i 0) (p.getD k 0)=true)(h2:∀i,l≤i→i < k→lt (p.getD k 0) (p.getD i 0)=true):Up lt (MC p k (k - l)) (k+1):=by
 have hs:=hp.size
 intro i j hij hj
 rw [zo (by omega) (by omega),zo (by omega) (by omega)]
 have e:k - (k - l)=l:=by omega
 rw [e]
 by_cases hi:i=l
 ·rw [if_pos hi,if_neg (by omega),if_pos (by omega)]
  exact h2 _ (by omega) (by omega)
 ·rw [if_neg hi]
  by_cases hi2:l < i∧i≤k
  ·rw [if_pos hi2,if_neg (by omega),if_pos (by omega)]
   exact hu _ _ (by omega) (by omega)
  ·rw [if_neg hi2]
   by_cases hj1:j=l
   ·rw [if_pos hj1];exact h1 _ (by omega)
   ·rw [if_neg hj1]
    by_cases hj2:l < j∧j≤k
    ·rw [if_pos hj2];exact hu _ _ (by omega) (by omega)
    ·rw [if_neg hj2];exact hu _ _ hij (by omega)
theorem zp(A:lp n lt I cmp)(T:gI n lt){Q:Array Nat→Shared→Prop}:∀(f:Nat)(p:Array Nat)(k:Nat)(s:Shared),k+f=n→bY n p→Up lt p k→I s→(∀p' s',I s'→bY n p'→Up lt p' n→Q p' s')→(kas_bin f p k).kasWp cmp Q s
 | 0,p,k,s,hf,hp,hu,hI,q=> q p s hI hp (by rw [show n=k by omega];exact hu)
 | f+1,p,k,s,hf,hp,hu,hI,q=> by
  unfold kas_bin
  rw [L7]
  have hk:k < n:=by omega
  refine vd A T hp hk hu k 0 k s (by omega) (by omega) (Jm _) hI (fun i z=> by omega) (fun i a b=> by omega) fun l s' hI' hl h1 h2=> ?_
  exact zp A T f _ (k+1) s' (by omega) (hp.bubble _ _) (hu.ins T hp hk hl h1 h2) hI' q
theorem Fy(A:lp n lt I cmp)(T:gI n lt)(h2:2≤n){Q:Array Nat→Shared→Prop}{s:Shared}(hI:I s)(q:∀p s',I s'→bY n p→Up lt p n→Q p s'):(kas_sort n).kasWp cmp Q s:=by
 unfold kas_sort
 rw [L7]
 refine Fx A T h2 (vb n) hI fun k p s1 hI1 k1 k2 hp hu=> ?_
 dsimp only
 by_cases hk:k < n
 ·rw [if_pos hk,show max k 1=k by omega]
  exact zp A T (n - k) p k s1 (by omega) hp hu hI1 q
 ·rw [if_neg hk]
  exact q p s1 hI1 hp (by rw [show n=k by omega];exact hu)
end
end L2
namespace L2
open PySem PySem.Spec PyProof.Rows PySem.W PySem.Calls
def aL(p q:Int×Str):Bool:=decide (p.1 < q.1) || (decide (p.1=q.1) && decide (p.2.cps.toList < q.2.cps.toList))
def fU(h:Heap)(v:Value)(p:Int×Str):Prop:=∃a o n t u,v= .ref a∧h.get? a=some o∧o.cls= .type "tuple"∧o.data= .seq #[.int p.1 t,.str p.2 u] n
section
variable {P:Program} {w:World} {A:Around} {E:Value→Shared→Prop} {s:Shared}
theorem Fz{v u:Value}{p q:Int×Str}{Q:Bool→Shared→Prop}(hv:fU s.heap v p)(hu:fU s.heap u q)(h:Q (aL p q) s):wpAny (model P w) A (keyLt' (tuples' true) v u) Q E s:=by
 obtain⟨a,oa,na,t1,t2,rfl,ha,_,da⟩:=hv
 obtain⟨b,ob,nb,t3,t4,rfl,hb,_,db⟩:=hu
 refine kat_lt ha da hb db (kat_cons ((intKind P w).eqBool (intKind_is _ _ _ _) (intKind_is _ _ _ _) (kat_go (fun e1=> ?_) fun e1=> ?_)))
 ·have e1:p.1=q.1:=by simpa using e1
  refine kat_yes (kat_cons ((PySem.strKind P w).eqBool (strKind_is _ _ _ _) (strKind_is _ _ _ _) (kat_go (fun e2=> ?_) fun e2=> ?_)))
  ·have e2:p.2=q.2:=by simpa using e2
   refine kat_yes (kat_nil ?_)
   have:aL p q=false:=by unfold aL;rw [e1,e2];simp
   rw [this] at h
   simpa using h
  ·have e2:p.2≠q.2:=by simpa using e2
   refine kat_no (kat_one _ _ ?_)
   have:aL p q=decide (p.2.cps.toList < q.2.cps.toList):=by unfold aL;simp [e1]
   rw [this] at h
   exact lt_str h
 ·have e1:p.1≠q.1:=by simpa using e1
  refine kat_no ?_
  show wpAny _ _ (oneLt' true _ _) _ _ _
  refine oneLt_int ?_
  have:aL p q=decide (p.1 < q.1):=by unfold aL;simp [e1]
  rw [this] at h
  exact h
theorem zq{n:Nat}{kp:Nat→Int×Str}(hd:∀i j,i < n→j < n→kp i=kp j→i=j):gI n fun i j=> aL (kp i) (kp j):=by
 have tl:∀a b:Str,a≠b→(decide (a.cps.toList < b.cps.toList))=!decide (b.cps.toList < a.cps.toList):=fun a b h=> by
  by_cases z:a.cps.toList < b.cps.toList
  ·rw [decide_eq_true z,decide_eq_false (List.lt_asymm z)];rfl
  ·have z2:b.cps.toList≤a.cps.toList:=Og.mp z
   have:b.cps.toList < a.cps.toList:=by
    rcases Classical.em (b.cps.toList < a.cps.toList) with y | y
    ·exact y
    ·exact absurd (yU (Oo (Og.mp y) z2)) h
   rw [decide_eq_false z,decide_eq_true this];rfl
 refine⟨fun i j hi hj hij=> ?_,fun i j k hi hj hk h1 h2=> ?_⟩
 ·have hne:kp i≠kp j:=fun e=> hij (hd i j hi hj e)
  unfold aL
  by_cases e:(kp i).1=(kp j).1
  ·have e2:(kp i).2≠(kp j).2:=fun z=> hne (Prod.ext e z)
   simp only [e,Int.lt_irrefl,decide_false,L0,decide_true,K8]
   exact tl _ _ e2
  ·have e':(kp j).1≠(kp i).1:=fun z=> e z.symm
   simp only [e,e',decide_false,MD,LZ]
   by_cases z:(kp i).1 < (kp j).1
   ·rw [decide_eq_true z,decide_eq_false (by omega)];rfl
   ·rw [decide_eq_false z,decide_eq_true (by omega)];rfl
 ·unfold aL at h1 h2⊢
  simp only [LG,Kh,decide_eq_true_eq] at h1 h2⊢
  rcases h1 with h1 | ⟨h1,h1'⟩ <;> rcases h2 with h2 | ⟨h2,h2'⟩
  ·left;omega
  ·left;omega
  ·left;omega
  ·right;exact⟨h1.trans h2,ON h1' h2'⟩
theorem zr{ks:List Value}{kp:Nat→Int×Str}(hk:∀i v,ks[i]?=some v→fU s.heap v (kp i))(h2:2≤ks.length){Q:SortKind→Shared→Prop}(h:Q (tuples' true) s):wpAny (model P w) A (keyKind' ks.toArray) Q E s:=by
 have key:∀(ks:List Value)(kp:Nat→Int×Str),(∀i v,ks[i]?=some v→fU s.heap v (kp i))→∃fs:List Value,KatTups s.heap ks fs∧fs.length=ks.length∧∀v∈fs,∃n t,v=Lw n t:=by
  intro ks
  induction ks with
  | nil=> intro kp _;exact⟨[],KatTups.nil,rfl,by simp⟩
  | cons v ks ih=>
   intro kp hk
   obtain⟨fs,a,b,c⟩:=ih (fun i=> kp (i+1)) fun i v e=> hk (i+1) v (by simpa using e)
   obtain⟨ad,o,n,t,u,rfl,h1,h2,h3⟩:=hk 0 v rfl
   refine⟨.int (kp 0).1 t::fs,KatTups.cons h1 h2 h3 rfl a,by simp [b],fun x hx=> ?_⟩
   rcases Jy.mp hx with rfl | hx
   ·exact⟨_,_,rfl⟩
   ·exact c x hx
 obtain⟨fs,a,b,c⟩:=key ks kp hk
 refine kat_kind (T:= .type "int") a (by omega) (fun v hv=> ?_) (by decide) h
 obtain⟨n,t,rfl⟩:=c v hv
 exact .now
theorem zt{n:Nat}{ks:List Value}{kp:Nat→Int×Str}(hn:ks.length=n)(h2:2≤n)(hk:∀i v,ks[i]?=some v→fU s.heap v (kp i))(hd:∀i j,i < n→j < n→kp i=kp j→i=j){G:Array Nat→Shared→Prop}
  (q:∀p,bY n p→Up (fun i j=> aL (kp i) (kp j)) p n→G p s):(kas_sort n).kasWp (kas_ask P w A (tuples' true) ks) G s:=by
 refine Fy (lt:=fun i j=> aL (kp i) (kp j)) (I:=fun s'=> s'=s) ⟨fun i j C s' hi hj hij e c=> ?_⟩ (zq hd) h2 rfl fun p s' e hp hu=> by subst e;exact q p hp hu
 subst e
 have ei:ks[i]?=some (ks.getD i .none):=by simp [show i < ks.length by omega]
 have ej:ks[j]?=some (ks.getD j .none):=by simp [show j < ks.length by omega]
 exact Fz (hk i _ ei) (hk j _ ej) (c _ rfl)
def zu(kS D:Addr)(s:Shared)(out:List Value)(C:Shared→Prop):Prop:=∀h' c,h'.get? D=some (seqObj "list" out.toArray c)→(∀b u,b≠kS→b≠D→s.heap.get? b=some u→h'.get? b=some u)→C {s with heap:=h'}
theorem zv{st:SortSt}{kS D:Addr}{ks out:List Value}{e e1:Nat}{C:N6→Shared→Prop}(hk:s.heap.get? kS=some (seqObj "list" ks.toArray e))(hD:s.heap.get? D=some (seqObj "list" #[] e1))(hne:kS≠D)(hf:failedOf st=none)
  (ho:(arrOf st).map (·.2)=out.toArray)(h64:out.length < 64)(hk64:ks.length < 64)(q:zu kS D s out (C (.done (.ret .none)))):wpAny (model P w) A (ksk_tail D false e1 (.ref kS) st) C E s:=by
 have hsl:sizeLine=16777216:=sizeLine_eq
 unfold ksk_tail
 rw [ho]
 refine wpAny_bind (listUpdate_at hk rfl (wpAny_bind (wpAny_letGo ?_)) (by rw [JA];omega) (Kp _))
 have u1:=Lb s.heap kS (Kg fun _=> (#[]:Array Value))
 have hD1:(s.heap.update kS (Kg fun _=> (#[]:Array Value))).get? D=some (seqObj "list" #[] e1):=(u1.2 D (Ne.symm hne)).trans hD
 refine wpAny_bind (seqEpoch_at (s:={s with heap:=s.heap.update kS (Kg fun _=> (#[]:Array Value))}) hD1 rfl ?_)
 rw [if_neg (by simp)]
 refine wpAny_bind (listUpdate_at (s:={s with heap:=s.heap.update kS (Kg fun _=> (#[]:Array Value))}) hD1 rfl ?_ (Kp _) (by show out.toArray.size≤_;rw [JA];omega))
 have u2:=Lb (s.heap.update kS (Kg fun _=> (#[]:Array Value))) D (Kg fun _=> out.toArray)
 rw [hf]
 simp only [bne_self_eq_false,KC,if_false]
 exact wpAny_pure (q _ _ (get?_update_seq hD1 fun _=> out.toArray) fun b u n1 n2 z=> (u2.2 b n2).trans ((u1.2 b n1).trans z))
theorem FA{kS D:Addr}{vs ks:List Value}{n e e1:Nat}{kp:Nat→Int×Str}{C:N6→Shared→Prop}(hv:vs.length=n)(hn:ks.length=n)(h64:n < 64)(hks:s.heap.get? kS=some (seqObj "list" ks.toArray e))(hD:s.heap.get? D=some (seqObj "list" #[] e1))(hne:kS≠D)
  (hk:∀i v,ks[i]?=some v→fU s.heap v (kp i))(hd:∀i j,i < n→j < n→kp i=kp j→i=j)
  (q:∀p,bY n p→Up (fun i j=> aL (kp i) (kp j)) p n→zu kS D s (p.toList.map fun i=> vs.getD i .none) (C (.done (.ret .none)))):wpAny (model P w) A (ksk_end D false vs.toArray e1 (.ref kS) ks.toArray) C E s:=by
 unfold ksk_end
 have hz:vs.toArray.size=n:=by rw [JA];exact hv
 by_cases h2:n < 2
 ·simp only [KC,if_false,hz,h2,if_true]
  refine wpAny_bind (wpAny_pure (wpAny_bind (wpAny_pure ?_)))
  refine zv hks hD hne rfl (out:=vs) ?_ (by omega) (by omega) ?_
  ·show(ks.toArray.zip vs.toArray).map (·.2)=vs.toArray
   apply Nb.mp
   simp only [Oq,Ot]
   rw [Ou (by omega)]
  ·have:=q _ (vb n) (fun i j a b=> by omega)
   have e:((N5 (Kn n)).toList.map fun i=> vs.getD i LA)=vs:=by
    apply LV (by simp [hv])
    intro i a b
    simp at a b⊢
    rw [JE b];rfl
   rw [e] at this
   exact this
 ·simp only [KC,if_false,hz,h2]
  refine wpAny_bind (zr hk (by omega) ?_)
  have hl:ks.length=vs.length:=by omega
  refine wpAny_bind (wpAny_mono (kat_run (κ:=tuples' true) (E:=fun _ _=> False) (Q:=fun st' s'=> s'=s∧∃p,bY n p∧Up (fun i j=> aL (kp i) (kp j)) p n∧arrOf st'=p.map (kas_item (ks.toArray.zip vs.toArray))∧failedOf st'=none) (G:=fun p s'=> s'=s∧bY n p∧Up (fun i j=> aL (kp i) (kp j)) p n) hl (by omega) (by omega)
   (fun p st' s' a b c d=> ⟨d.1,p,d.2.1,d.2.2,b,c⟩) ?_) (fun r s' hr=> ?_) fun _ _ x=> x.elim)
  ·rw [hv]
   exact zt hn (by omega) hk hd fun p a b=> ⟨rfl,a,b⟩
  ·obtain⟨rfl,p,p1,p2,p3,p4⟩:=hr
   refine zv hks hD hne p4 (kat_snds hl p3) ?_ (by omega) (q p p1 p2)
   rw [Jf,J1,p1.size];exact h64
end
end L2
namespace L2
open PySem PySem.Spec PyProof.Rows PySem.W PySem.Calls
section
variable {X:Cx} {pins:List (Addr×Obj)} {σ:St} {H:Hp} {s:Shared}
theorem af.track{o:HO}{D:Addr}{ch:List Addr}{t':Nat}{h':Heap}(I:af X pins σ H s)(hD:D∈ch)(f:∀b∈ch,fE X pins H b)(k:∀b u,b ∉ ch→s.heap.get? b=some u→h'.get? b=some u)(new:cf X.prog X.w (ao H D o) h' D o):af X pins σ (ao H D o) {s with heap:=h',toks:=t'}:=by
 have nC:∀b u,H b=some u→b ∉ ch:=fun b u e z=> by rw [(f b z).1] at e;cases e
 have nD:∀b u,H b=some u→b≠D:=fun b u e z=> nC b u e (by rw [z];exact hD)
 refine I.step (g':=s.gens) (d':=s.drawn) (ch:=ch) (fun b hb=> ?_) (fun b o _ _ hc e _=> k b o hc e) (fun b o _ _ hc e _=> ⟨o.slots,k b o hc e⟩) (fun b o hc _ n=> by rw [aJ (fun z=> hc (by rw [z];exact hD))];exact n)
  (fun b o hc e=> ⟨o,k b o hc e⟩) (fun b xs e=> by rw [aJ (nD _ _ e)];exact e) (fun b u xs e=> by rw [aJ (nD _ _ e)];exact e) (fun b ps e=> ⟨#[],by rw [aJ (nD _ _ e),e];simp⟩) (fun m hm=> hm.at' fun o e=> k _ o (fun z=> (f _ z).2.1 rfl) e) (fun b u e=> ?_) I.bare
 ·obtain⟨f0,f1,f2,f3,f4,f5⟩:=f b hb;exact⟨f3,f1,f4,f5⟩
 ·by_cases hb:b=D
  ·subst hb
   rw [bj] at e;cases e
   exact new
  ·rw [aJ hb] at e
   refine(I.hok b u e).stay (fun c v hc q=> k c v (fun z=> ?_) q) (fun c q=> by rw [aJ (nD _ _ q)];exact q) (fun c xs q=> by rw [aJ (nD _ _ q)];exact q)
   rcases hc with r | r
   ·subst r;exact nC _ _ e z
   ·exact nC _ _ r z
theorem FC{k:Nat}{f:Addr}{fd:FuncData}{ps:List Str}{sp:Sp}{v:V}{u:Value}{Q:VK}(Fk:aK X.prog X.w X.K X.mg X.base CX0 k f fd ps sp)(hr:bE k X.A.in1.in1)(hb:aQ X.K fd ps [])(I:af X pins σ H s)(r:aG v u)(h:sp [v] H Q E0):
  wpAny (model X.prog X.w) X.A.in1.in1 (call (.ref f) [u]) (EP X pins σ Q) (fun _ _=> False) s:=by
 have r2:aH [v] [u]:= .cons r .nil
 have hl:([u]++[]).length=ps.length:=by
  have:=Fk.len _ _ _ _ h
  simpa using this
 have hb2:=hb s [u] I.kIn hl
 rw [JX] at hb2
 refine wpAny_call (codeAny_mono (Fk.run X.A.in1.in1 X.stack s H ⟨[u],[]⟩ [u] [v] Q E0 hr I.env0.in1.in1 hb2 r2 h) fun r s' hq=> ?_)
 cases r with
 | error e=> exact hq.elim
 | ok fl=>
  cases fl with
  | ret u=> exact I.after hq
  | next=> exact KD hq
  | brk=> exact KD hq
  | cont=> exact KD hq
def jo(X:Cx)(pins:List (Addr×Obj))(b:Addr):Prop:=b≠X.env.locals∧b ∉ X.fs∧(b∈X.ex∨X.s₀.heap.objs.size≤b)∧(∀x c,X.env.cells.lookup x=some c→c≠b)∧∀p∈X.pn++pins,p.1≠b
theorem af.out(I:af X pins σ H s){b:Addr}(hb:s.heap.objs.size≤b):jo X pins b:=(I.fpOk (H':=H) hb (I.hok.fresh hb)).2
structure jq (X:Cx) (pins:List (Addr×Obj)) (σ:St) (H:Hp) (O:Ex) (kS D:Addr) (e1:Nat) (kds:List PyData) (ks:List Value) (s:Shared):Prop where
 ex:∃H' kvs e,af X (pins++[(kS,seqObj "list" ks.toArray e),(D,seqObj "list" #[] e1)]) σ H' s∧ar H H'∧ak X.K H' O kvs kds∧aH kvs ks
theorem jq.push{O:Ex}{kS D:Addr}{e1:Nat}{kds:List PyData}{ks:List Value}{H':Hp}{kvs:List V}{e:Nat}{h':Heap}{kv:V}{kd:PyData}{k:Value}(oS:jo X pins kS)(oD:jo X pins D)(hne:kS≠D)
  (I:af X (pins++[(kS,seqObj "list" ks.toArray e),(D,seqObj "list" #[] e1)]) σ H' s)(hs:ar H H')(hk:ak X.K H' O kvs kds)(hv:aH kvs ks)(k1:Dt X.K H' O kv kd)(k2:aG kv k)
  (hu:∃e',h'.get? kS=some (seqObj "list" (ks++[k]).toArray e'))(kept:∀b u,b≠kS→s.heap.get? b=some u→h'.get? b=some u):jq X pins σ H O kS D e1 (kds++[kd]) (ks++[k]) {s with heap:=h'}:=by
 obtain⟨e',hu⟩:=hu
 have pS:=I.pin (kS,seqObj "list" ks.toArray e) (by simp)
 have pD:=I.pin (D,seqObj "list" #[] e1) (by simp)
 have I1:af X pins σ H' s:=I.pins_of fun p hp=> I.pin p (by simp only [JM] at hp⊢;exact .inr (.inl hp))
 have I2:af X pins σ H' {s with heap:=h'}:=I1.turned (t':=s.toks) (it:=kS) kept pS.2.1 oS.1 oS.2.2.1 oS.2.2.2.1 oS.2.2.2.2
 refine⟨H',kvs++[kv],e',I2.pins_of fun p hp=> ?_,hs,hk.append (.cons k1 .nil),hv.append (.cons k2 .nil)⟩
 rcases JM.mp hp with z | z
 ·exact I2.pin p (J9 _ z)
 ·simp only [Jy,Ks,or_false] at z
  rcases z with rfl | rfl
  ·exact⟨hu,pS.2.1,oS.1,oS.2.1,fun v z=> by cases z⟩
  ·exact⟨kept _ _ (Ne.symm hne) pD.1,pD.2.1,oD.1,oD.2.1,fun v z=> by cases z⟩
theorem zw{k:Nat}{f:Addr}{fd:FuncData}{ps:List Str}{F:List PyData→(PyData→Prop)→Prop}{O:Ex}{kS D:Addr}{e1:Nat}{kd:PyData→PyData}(Fk:aK X.prog X.w X.K X.mg X.base CX0 k f fd ps (bo X.K F))(hr:bE k X.A.in1.in1)(hb:aQ X.K fd ps [])(trk:∀l,O l→H l≠none)
  (oS:jo X pins kS)(oD:jo X pins D)(hne:kS≠D){body:Value→PUnit→Sem (ForInStep PUnit)}{E:Value→Shared→Prop}
  (hbo:∀(x:Value) (s:Shared) (Q':Shared→Prop),wpAny (model X.prog X.w) X.A.in1.in1 (call (.ref f) [x]) (fun k s'=> wpAny (model X.prog X.w) X.A.in1.in1 (Nj (.ref kS) (·.push k)) (fun _ s''=> Q' s'') (fun _ _=> False) s') (fun _ _=> False) s→wpAny (model X.prog X.w) X.A.in1.in1 (body x ⟨⟩) (fun r s'=> r= .yield ⟨⟩∧Q' s') E s):
  ∀(r:List Value)(xr:List V)(dr:List PyData)(kds:List PyData)(ks:List Value)(s:Shared)(Q:Shared→Prop),aH xr r→ak X.K H O xr dr→(∀d∈dr,∀R:PyData→Prop,R (kd d)→F [d] R)→jq X pins σ H O kS D e1 kds ks s→ks.length+r.length < 64→
   (∀ks' s',jq X pins σ H O kS D e1 (kds++dr.map kd) ks' s'→ks'.length=ks.length+r.length→Q s')→wpAny (model X.prog X.w) X.A.in1.in1 (forIn r PUnit.unit body) (fun _ s'=> Q s') E s
 | [],xr,dr,kds,ks,s,Q,hv,hd,hF,M,hl,q=> by
  cases hv
  cases hd
  rw [List.forIn_nil]
  exact wpAny_pure (q ks s (by rw [Kc,JX];exact M) (by simp))
 | x::r,xr,dr,kds,ks,s,Q,hv,hd,hF,M,hl,q=> by
  cases hv with
  | @cons v _ xr _ h1 h2=>
   cases hd with
   | @cons _ d _ dr g1 g2=>
    rw [Oz]
    rw [JC] at hl
    obtain⟨H',kvs,e,I,hs,hk,hvk⟩:=M.ex
    refine wpAny_bind (wpAny_mono (hbo x s (fun s'=> ∃k,jq X pins σ H O kS D e1 (kds++[kd d]) (ks++[k]) s') (wpAny_mono (FC (Q:=fun v2 H2=> ar H' H2∧Dt X.K H2 O v2 (kd d)) Fk hr hb I h1 ⟨O,[d],fun y=> y=kd d,fun l z e=> trk l z (by
     cases q:H l with
     | none=> rfl
     | some u=> rw [hs _ _ q] at e;cases e),.cons (g1.mono hs) .nil,hF d (by simp) _ rfl,fun y v2 H2 e s2 r2=> by subst e;exact⟨s2,r2⟩⟩) (fun kk s' hq=> ?_) fun _ _ z=> z)) (fun r' s' hq=> ?_) fun _ _ z=> z)
    ·obtain⟨kv,H2,I2,rk,s2,dk⟩:=hq
     have pS:=I2.pin (kS,seqObj "list" ks.toArray e) (by simp)
     refine listUpdate_at pS.1 rfl ⟨kk,?_⟩ (by rw [JA];have:sizeLine=16777216:=sizeLine_eq;omega) (by rw [Array.size_push,JA];have:sizeLine=16777216:=sizeLine_eq;omega)
     have u1:=Lb s'.heap kS (Kg (·.push kk))
     have gk:=get?_update_seq pS.1 (·.push kk)
     rw [show ks.toArray.push kk=(ks++[kk]).toArray by simp] at gk
     exact jq.push oS oD hne I2 (hs.trans s2) (hk.mono s2) hvk dk rk ⟨_,gk⟩ fun b u n z=> (u1.2 b n).trans z
    ·obtain⟨rfl,kk,M'⟩:=hq
     refine zw Fk hr hb trk oS oD hne hbo r xr dr (kds++[kd d]) (ks++[kk]) s' Q h2 g2 (fun y hy=> hF y (by simp [hy])) M' (by simp;omega) fun ks' s2 M2 l2=> q ks' s2 ?_ (by rw [l2];simp;omega)
     rw [Jj,←List.singleton_append,←MY]
     exact M2
def cq(p:Int×Str):PyData:= .tuple [.int p.1,.str p.2]
theorem ve{h:V}{u:Value}{O:Ex}{p:Int×Str}(I:af X pins σ H s)(d:Dt X.K H O h (cq p))(r:aG h u):fU s.heap u p:=by
 obtain⟨a,xs,rfl,hq,hd⟩:=(Sh.dt d).tup
 cases r
 obtain⟨its,rv,⟨o,e,c,n,dd⟩,_⟩:=I.tuple hq
 cases hd with
 | cons g1 g2=>
  cases g2 with
  | cons g2 g3=>
   cases g3;cases g1;cases g2
   cases rv with
   | cons r1 r2=>
    cases r2 with
    | cons r2 r3=>
     cases r3
     obtain⟨t,rfl⟩:=r1
     obtain⟨u,rfl⟩:=r2
     exact⟨a,o,n,t,u,rfl,e,c,dd⟩
theorem oe{K:Jd}{H:Hp}{O:Ex}:∀{xs:List V}{ds:List PyData}{i:Nat}{d:PyData},ak K H O xs ds→ds[i]?=some d→∃x,xs[i]?=some x∧Dt K H O x d
 | _,_,0,d,.cons h r,e=> by simp at e;subst e;exact⟨_,rfl,h⟩
 | _,_,i+1,d,.cons h r,e=> by simp only [KS] at e⊢;exact oe r e
theorem sY{xs:List V}{us:List Value}:∀{i:Nat}{u:Value},aH xs us→us[i]?=some u→∃x,xs[i]?=some x∧aG x u:=by
 intro i u h e
 have hl:=h.length
 have hi:i < us.length:=(Jr.mp e).1
 obtain⟨u',e',r⟩:=h.get (show xs[i]?=some (xs[i]'(by omega)) by simp)
 rw [e] at e';cases e'
 exact⟨_,by simp,r⟩
theorem FD{O:Ex}{kS D:Addr}{e1:Nat}{kps:List (Int×Str)}{ks:List Value}(M:jq X pins σ H O kS D e1 (kps.map cq) ks s):(∀i v,ks[i]?=some v→fU s.heap v (kps.getD i (0,Jc "")))∧ks.length=kps.length:=by
 obtain⟨H',kvs,e,I,hs,hk,hv⟩:=M.ex
 have hl:ks.length=kps.length:=by rw [←hv.length,hk.length,Jf]
 refine⟨fun i v ei=> ?_,hl⟩
 have hi:i < kps.length:=by rw [←hl];exact(Jr.mp ei).1
 obtain⟨x,ex,rx⟩:=sY hv ei
 obtain⟨y,ey,dy⟩:=oe (i:=i) (d:=cq kps[i]) hk (by rw [JB,JE hi];rfl)
 rw [ex] at ey;cases ey
 have:kps.getD i (0,Jc "")=kps[i]:=by simp [hi]
 rw [this]
 exact ve I dy rx
theorem FF{k:Nat}{f:Addr}{fd:FuncData}{ps:List Str}{F:List PyData→(PyData→Prop)→Prop}{O:Ex}{D:Addr}{n0:Nat}{kf:PyData→Int×Str}{vs:List Value}{xs:List V}{ds:List PyData}{Q:V→Hp→Prop}{C:N6→Shared→Prop}{E:Value→Shared→Prop}
  (Fk:aK X.prog X.w X.K X.mg X.base CX0 k f fd ps (bo X.K F))(hr:bE k X.A.in1.in1)(hb:aQ X.K fd ps [])(trk:∀l,O l→H l≠none)(I:af X pins σ H s)(oD:jo X pins D)(hHD:H D=none)(hD:s.heap.get? D=some (seqObj "list" vs.toArray n0))
  (hv:aH xs vs)(hd:ak X.K H O xs ds)(hF:∀d∈ds,∀R:PyData→Prop,R (cq (kf d))→F [d] R)(h64:ds.length < 64)(nd:(ds.map kf).Nodup)
  (q:∀(H':Hp) (xs':List V) (ds':List PyData),ar H H'→H' D=none→ak X.K H' O xs' ds'→ds'.Perm ds→ds'.Pairwise (fun a b=> aL (kf a) (kf b)=true)→Q (.ref D) (ao H' D (.lst xs')))
  (fin:∀s',EP X pins σ Q (.ref D) s'→C (.done (.ret .none)) s'):wpAny (model X.prog X.w) X.A.in1.in1 (ksk_tree D (.ref f) false) C E s:=by
 have hsl:sizeLine=16777216:=sizeLine_eq
 have lv:vs.length=ds.length:=by rw [←hv.length,hd.length]
 have lD:D < s.heap.objs.size:=Jz hD
 unfold ksk_tree
 refine wpAny_bind (listItems_at hD rfl (wpAny_bind (listUpdate_at hD rfl ?_ (by rw [JA];omega) (Kp _))))
 have u1:=Lb s.heap D (Kg fun _=> (#[]:Array Value))
 have g1:=get?_update_seq hD fun _=> (#[]:Array Value)
 have I1:af X pins σ H {s with heap:=s.heap.update D (Kg fun _=> (#[]:Array Value))}:=I.turned (t':=s.toks) (it:=D) (fun b u n z=> (u1.2 b n).trans z) hHD oD.1 oD.2.2.1 oD.2.2.2.1 oD.2.2.2.2
 generalize s.heap.update D (Kg fun _=> (#[]:Array Value))=h1 at*
 generalize (if (#[]:Array Value).size==vs.toArray.size then n0 else n0+1)=e1 at*
 refine wpAny_bind (seqEpoch_at (s:={s with heap:=h1}) g1 rfl ?_)
 refine wpAny_bind (wpAny_newTuple ?_ (by show vs.length≤_;omega))
 have I2:af X pins σ H {s with heap:=h1.push {cls:= .type "tuple",data:= .seq vs.toArray}}:=I1.kept (t':=s.toks) fun b u z=> Jl _ z
 have g2:(h1.push {cls:= .type "tuple",data:= .seq vs.toArray}).get? D=some (seqObj "list" #[] e1):=Jl _ g1
 show wpAny _ _ _ _ _ {s with heap:=h1.push {cls:= .type "tuple",data:= .seq vs.toArray}}
 generalize h1.push {cls:= .type "tuple",data:= .seq vs.toArray}=h2 at*
 refine wpAny_bind (wpAny_newList (s:={s with heap:=h2}) ?_ (Kp _))
 have oS:jo X pins h2.objs.size:=I2.out (Jm _)
 have hne:h2.objs.size≠D:=M7 (Jz g2)
 have I3:af X pins σ H {s with heap:=h2.push (seqObj "list" #[] 0)}:=I2.kept (t':=s.toks) fun b u z=> Jl _ z
 have hS0:H h2.objs.size=none:=I2.hok.fresh (Jm _)
 have M0:jq X pins σ H O h2.objs.size D e1 [] [] {s with heap:=h2.push (seqObj "list" #[] 0)}:=by
  refine⟨H,[],0,I3.pins_of fun p hp=> ?_,ar.refl _,.nil,.nil⟩
  rcases JM.mp hp with z | z
  ·exact I3.pin p (J9 _ z)
  ·simp only [Jy,Ks,or_false] at z
   rcases z with rfl | rfl
   ·exact⟨JR _ rfl,hS0,oS.1,oS.2.1,fun v z=> by cases z⟩
   ·exact⟨Jl _ g2,hHD,oD.1,oD.2.1,fun v z=> by cases z⟩
 refine wpAny_holding ?_
 unfold ksk_rest
 refine wpAny_bind (wpAny_rule ?_)
 rw [List.forIn_toArray]
 refine wpAny_bind (zw (kd:=fun d=> cq (kf d)) (E:=E) Fk hr hb trk oS oD hne (fun x s' Q' hx=> ?_) vs xs ds [] [] _ _ hv hd hF M0 (by simp;omega) fun ks s' M hkl=> ?_)
 ·refine wpAny_bind (wpAny_attempt (wpAny_mono hx (fun kk s2 hk=> ?_) fun _ _ z=> z.elim))
  exact wpAny_bind (wpAny_mono hk (fun _ s3 z=> wpAny_pure ⟨rfl,z⟩) fun _ _ z=> z.elim)
 ·rw [Kx,←Function.comp_def,←JH] at M
  obtain⟨hk,hkn⟩:=FD M
  rw [Jf] at hkn
  obtain⟨H',kvs,e,I4,hs,_,_⟩:=M.ex
  have pS:=I4.pin (h2.objs.size,seqObj "list" ks.toArray e) (by simp)
  have pD:=I4.pin (D,seqObj "list" #[] e1) (by simp)
  have I5:af X pins σ H' s':=I4.pins_of fun p hp=> I4.pin p (by simp only [JM] at hp⊢;exact .inr (.inl hp))
  refine wpAny_bind (listItems_at pS.1 rfl ?_)
  refine FA (n:=ds.length) (kp:=fun i=> (ds.map kf).getD i (0,Jc "")) lv hkn h64 pS.1 pD.1 hne hk (fun i j hi hj ee=> ?_) fun p pp pu h' c gD kept=> ?_
  ·have e1':(ds.map kf).getD i (0,Jc "")=(ds.map kf)[i]'(by simpa using hi):=by simp [hi]
   have e2':(ds.map kf).getD j (0,Jc "")=(ds.map kf)[j]'(by simpa using hj):=by simp [hj]
   rw [e1',e2'] at ee
   exact(Mm nd).mp ee
  ·refine fin _ ⟨.ref D,ao H' D (.lst (p.toList.map fun i=> xs.getD i .non)),?_,rfl,q H' _ (p.toList.map fun i=> ds.getD i .none) hs pD.2.1 ?_ ?_ ?_⟩
   ·refine I5.track (t':=s'.toks) (ch:=[h2.objs.size,D]) (by simp) (fun b hb=> ?_) (fun b u hb z=> kept b u (fun y=> hb (by simp [y])) (fun y=> hb (by simp [y])) z) ⟨?_,_,c,?_,gD⟩
    ·simp only [Jy,Ks,or_false] at hb
     rcases hb with rfl | rfl
     ·exact⟨pS.2.1,oS⟩
     ·exact⟨pD.2.1,oD⟩
    ·rw [Jf,J1,pp.size];omega
    ·have:∀l:List Nat,(∀i∈l,i < ds.length)→aH (l.map fun i=> xs.getD i .non) (l.map fun i=> vs.getD i .none):=by
      intro l
      induction l with
      | nil=> intro _;exact .nil
      | cons a l ih=>
       intro hl
       have ha:=hl a (by simp)
       refine .cons ?_ (ih fun i hi=> hl i (by simp [hi]))
       obtain⟨x,ex,rx⟩:=sY hv (show vs[a]?=some (vs[a]'(by omega)) by simp)
       have e1':xs.getD a .non=x:=by simp [ex]
       have e2':vs.getD a .none=vs[a]'(by omega):=by simp [show a < vs.length by omega]
       show aG (xs.getD a .non) (vs.getD a .none)
       rw [e1',e2'];exact rx
     exact this _ fun i hi=> by simpa using pp.perm.mem_iff.mp hi
   ·have:∀l:List Nat,(∀i∈l,i < ds.length)→ak X.K H' O (l.map fun i=> xs.getD i .non) (l.map fun i=> ds.getD i .none):=by
     intro l
     induction l with
     | nil=> intro _;exact .nil
     | cons a l ih=>
      intro hl
      have ha:=hl a (by simp)
      refine .cons ?_ (ih fun i hi=> hl i (by simp [hi]))
      obtain⟨x,ex,dx⟩:=oe (i:=a) (d:=ds[a]) hd (by simp [ha])
      have e1':xs.getD a .non=x:=by simp [ex]
      have e2':ds.getD a .none=ds[a]:=by simp [ha]
      show Dt X.K H' O (xs.getD a .non) (ds.getD a .none)
      rw [e1',e2'];exact dx.mono hs
    exact this _ fun i hi=> by simpa using pp.perm.mem_iff.mp hi
   ·have h1:=pp.perm.map fun i=> ds.getD i .none
    have e:(Kn ds.length).map (fun i=> ds.getD i LK)=ds:=by
     apply LV (by simp)
     intro i a b
     simp at a b⊢
     rw [JE b];rfl
    rw [e] at h1
    exact h1
   ·rw [Kf,K4]
    intro i j hi hj hij
    have:=pu i j hij (by rw [J1,pp.size] at hj;exact hj)
    have ei:p.getD i 0=p.toList[i]:=by simp [Mc,show i < p.size by simpa using hi]
    have ej:p.getD j 0=p.toList[j]:=by simp [Mc,show j < p.size by simpa using hj]
    rw [ei,ej] at this
    have li:p.toList[i] < ds.length:=by simpa using pp.perm.mem_iff.mp (KH hi)
    have lj:p.toList[j] < ds.length:=by simpa using pp.perm.mem_iff.mp (KH hj)
    have ff:∀a,a < ds.length→(ds.map kf).getD a (0,Jc "")=kf (ds.getD a .none):=fun a ha=> by simp [ha]
    dsimp only at this
    rw [ff _ li,ff _ lj] at this
    exact this
theorem FG{k:Nat}{f l:Addr}{fd:FuncData}{ps:List Str}{F:List PyData→(PyData→Prop)→Prop}{O:Ex}{kf:PyData→Int×Str}{xs:List V}{ds:List PyData}{Q:VK}
  (hc:X.calm=true)(Fk:aK X.prog X.w X.K X.mg X.base CX0 k f fd ps (bo X.K F))(hr:bE k X.A.in1.in1)(hb:aQ X.K fd ps [])(trk:∀l,O l→H l≠none)(I:af X pins σ H s)(hq:aP X.K H l xs)
  (hd:ak X.K H O xs ds)(hF:∀d∈ds,∀R:PyData→Prop,R (cq (kf d))→F [d] R)(h64:ds.length < 64)(nd:(ds.map kf).Nodup)
  (q:∀(H':Hp) (p:Addr) (xs':List V) (ds':List PyData),ar H H'→H' p=none→ak X.K H' O xs' ds'→ds'.Perm ds→ds'.Pairwise (fun a b=> aL (kf a) (kf b)=true)→Q (.ref p) (ao H' p (.lst xs'))):
  wpAny (model X.prog X.w) X.A (call (.builtin "sorted") [.ref l] [(Jc "key",.ref f)]) (EP X pins σ Q) X.xe s:=by
 have hsl:sizeLine=16777216:=sizeLine_eq
 obtain⟨vs,hv,pl,hz⟩:=I.list hq
 have lv:vs.length=ds.length:=by rw [←hv.length,hd.length]
 refine call_function_entry_kw kind_sorted plain_sorted entry_sorted (ksk_s1 _ _) ?_
 unfold Builtin.«sorted»
 refine wpAny_bind (m:=checkCount "sorted" 1 1 _) (wpAny_pure ?_)
 refine wpAny_bind (collect_list pl.isList ?_ (by omega))
 have I1:af X pins σ H {s with heap:=(s.heap.push (seqObj "list" #[] 0)).update s.heap.objs.size (Kg (·++vs.toArray))}:=by
  refine I.kept (t':=s.toks) fun b u z=> ?_
  have hlt:b < s.heap.objs.size:=Jz z
  exact(NV _ _ _ _ (JJ hlt)).trans (Jl _ z)
 generalize (s.heap.push (seqObj "list" #[] 0)).update s.heap.objs.size (Kg (·++vs.toArray))=h1 at*
 refine wpAny_bind (wpAny_newList (s:={s with heap:=h1}) ?_ (by omega))
 have I2:af X pins σ H {s with heap:=h1.push (seqObj "list" vs.toArray 0)}:=I1.kept (t':=s.toks) fun b u z=> Jl _ z
 have gD:(h1.push (seqObj "list" vs.toArray 0)).get? h1.objs.size=some (seqObj "list" vs.toArray 0):=JR _ rfl
 refine wpAny_bind (wpAny_holding (wpAny_call_entry_kw slot_list_sort ⟨_,gD,rfl⟩ entry_list_sort ?_ (ksk_l1 _ _)))
 rw [ksk_t1]
 refine FF (kf:=kf) Fk hr hb trk I2 (I1.out (Jm _)) (I1.hok.fresh (Jm _)) gD hv hd hF h64 nd (Q:=Q) (fun H' xs' ds' a b c d e=> q H' _ xs' ds' a b c d e) fun s' hs'=> ?_
 exact⟨_,rfl,wpAny_pure ⟨_,rfl,hs'⟩⟩
end
end L2
namespace L2
open PySem PySem.Spec PyProof.Rows PySem.W PySem.Calls
section
variable {P:Program} {w:World} {A:Around} {E:Value→Shared→Prop} {s:Shared}
theorem FH{D:Addr}{vs:List Value}{n n0:Nat}{kp:Nat→Int×Str}{C:N6→Shared→Prop}(hv:vs.length=n)(h64:n < 64)(hD:s.heap.get? D=some (seqObj "list" vs.toArray n0))(hk:∀i v,vs[i]?=some v→fU s.heap v (kp i)∧v≠ .ref D)(hd:∀i j,i < n→j < n→kp i=kp j→i=j)
  (q:∀p,bY n p→Up (fun i j=> aL (kp i) (kp j)) p n→∀h' c,h'.get? D=some (seqObj "list" (p.toList.map fun i=> vs.getD i .none).toArray c)→(∀b u,b≠D→s.heap.get? b=some u→h'.get? b=some u)→C (.done (.ret .none)) {s with heap:=h'}):
  wpAny (model P w) A (Builtin.«list.sort» ⟨[.ref D],[]⟩) C E s:=by
 have hsl:sizeLine=16777216:=sizeLine_eq
 rw [list_sort_plain]
 refine wpAny_bind (listItems_at hD rfl (wpAny_bind (listUpdate_at hD rfl ?_ (by rw [JA];omega) (Kp _))))
 have u1:=Lb s.heap D (Kg fun _=> (#[]:Array Value))
 have g1:=get?_update_seq hD fun _=> (#[]:Array Value)
 have k1:∀b u,b≠D→s.heap.get? b=some u→(s.heap.update D (Kg fun _=> (#[]:Array Value))).get? b=some u:=fun b u n z=> (u1.2 b n).trans z
 generalize s.heap.update D (Kg fun _=> (#[]:Array Value))=h1 at*
 generalize (if (#[]:Array Value).size==vs.toArray.size then n0 else n0+1)=e1 at*
 refine wpAny_bind (seqEpoch_at (s:={s with heap:=h1}) g1 rfl ?_)
 refine wpAny_bind (wpAny_newTuple ?_ (by show vs.length≤_;omega))
 refine wpAny_bind (wpAny_newList ?_ (Kp _))
 have g2:((h1.push {cls:= .type "tuple",data:= .seq vs.toArray}).push {cls:= .type "list",data:= .seq ([]:List Value).toArray}).get? D=some (seqObj "list" #[] e1):=Jl _ (Jl _ g1)
 have k2:∀b u,b≠D→s.heap.get? b=some u→((h1.push {cls:= .type "tuple",data:= .seq vs.toArray}).push {cls:= .type "list",data:= .seq ([]:List Value).toArray}).get? b=some u:=fun b u n z=> Jl _ (Jl _ (k1 b u n z))
 show wpAny _ _ _ _ _ {s with heap:=(h1.push {cls:= .type "tuple",data:= .seq vs.toArray}).push {cls:= .type "list",data:= .seq ([]:List Value).toArray}}
 generalize (h1.push {cls:= .type "tuple",data:= .seq vs.toArray}).push {cls:= .type "list",data:= .seq ([]:List Value).toArray}=h2 at*
 refine wpAny_holding ?_
 have hz:vs.toArray.size=n:=by rw [JA];exact hv
 have last:∀(st:SortSt)(p:Array Nat),bY n p→Up (fun i j=> aL (kp i) (kp j)) p n→failedOf st=none→(arrOf st).map (·.2)=(p.toList.map fun i=> vs.getD i .none).toArray→
   wpAny (model P w) A (do
    let touched:=(←seqEpoch D) !=e1
    Nj (.ref D) fun _=> (arrOf st).map (·.2)
    if let some e:=failedOf st then rule "list.sort.comparison-raised";throw e
    if touched then rule "list.sort.modified";raiseError "ValueError" "list modified during sort"
    ret .none) C E {s with heap:=h2}:=by
  intro st p p1 p2 hf ho
  rw [ho,hf]
  refine wpAny_bind (seqEpoch_at (s:={s with heap:=h2}) g2 rfl ?_)
  refine wpAny_bind (listUpdate_at (s:={s with heap:=h2}) g2 rfl ?_ (Kp _) (by rw [JA,Jf,J1,p1.size];omega))
  simp only [bne_self_eq_false,KC,if_false]
  have u3:=Lb h2 D (Kg fun _=> (p.toList.map fun i=> vs.getD i LA).toArray)
  exact wpAny_pure (q p p1 p2 _ _ (get?_update_seq g2 fun _=> (p.toList.map fun i=> vs.getD i LA).toArray) fun b u n z=> (u3.2 b n).trans (k2 b u n z))
 by_cases h2':n < 2
 ·simp only [hz,h2',if_true]
  refine wpAny_bind (wpAny_pure (wpAny_bind (wpAny_pure ?_)))
  refine last _ (N5 (Kn n)) (vb n) (fun i j a b=> by omega) rfl ?_
  show(vs.toArray.zip vs.toArray).map (·.2)=_
  apply Nb.mp
  simp only [Oq,Ot]
  rw [Ou (by omega)]
  apply LV (by simp [hv])
  intro i a b
  simp at a b⊢
  rw [JE a];rfl
 ·simp only [hz,h2',if_false]
  have hk2:∀i v,vs[i]?=some v→fU h2 v (kp i):=fun i v e=> by
   obtain⟨⟨a,o,m,t,u,rfl,x1,x2,x3⟩,ne⟩:=hk i v e
   exact⟨a,o,m,t,u,rfl,k2 a o (fun z=> ne (by rw [z])) x1,x2,x3⟩
  refine wpAny_bind (zr (s:={s with heap:=h2}) hk2 (by omega) ?_)
  refine wpAny_bind (wpAny_mono (kat_run (κ:=tuples' true) (ks:=vs) (s:={s with heap:=h2}) (E:=fun _ _=> False) (Q:=fun st' s'=> s'={s with heap:=h2}∧∃p,bY n p∧Up (fun i j=> aL (kp i) (kp j)) p n∧arrOf st'=p.map (kas_item (vs.toArray.zip vs.toArray))∧failedOf st'=none) (G:=fun p s'=> s'={s with heap:=h2}∧bY n p∧Up (fun i j=> aL (kp i) (kp j)) p n) rfl (by omega) (by omega)
   (fun p st' s' a b c d=> ⟨d.1,p,d.2.1,d.2.2,b,c⟩) ?_) (fun r s' hr=> ?_) fun _ _ x=> x.elim)
  ·rw [hv]
   exact zt (s:={s with heap:=h2}) hv (by omega) hk2 hd fun p a b=> ⟨rfl,a,b⟩
  ·obtain⟨rfl,p,p1,p2,p3,p4⟩:=hr
   exact last _ p p1 p2 p4 (kat_snds rfl p3)
end
theorem FI{X:Cx}:cP X (.builtin "sorted") (fun xs H Q=> ∃(p:Addr)(us:List V)(O:Ex)(ps:List (Int×Str)),xs=[.ref p]∧aP X.K H p us∧ak X.K H O us (ps.map cq)∧ps.length < 64∧ps.Nodup∧∀(l:Addr)(us':List V)(ps':List (Int×Str)),H l=none→ak X.K H O us' (ps'.map cq)→ps'.Perm ps→ps'.Pairwise (fun a b=> aL a b=true)→Q (.ref l) (ao H l (.lst us'))):=by
 intro pins s σ H xs ws Q I r h
 obtain⟨l,us,O,ps,rfl,hq,hd,h64,nd,q⟩:=h
 obtain⟨u,rfl,rx⟩:=cU r
 cases rx
 have hsl:sizeLine=16777216:=sizeLine_eq
 obtain⟨vs,hv,pl,hz⟩:=I.list hq
 have lv:vs.length=ps.length:=by rw [←hv.length,hd.length,Jf]
 refine M5 kind_sorted plain_sorted entry_sorted (args_sorted1 _) ?_
 unfold Builtin.«sorted»
 refine wpAny_bind (m:=checkCount "sorted" 1 1 _) (wpAny_pure ?_)
 refine wpAny_bind (collect_list pl.isList ?_ (by omega))
 have I1:af X pins σ H {s with heap:=(s.heap.push (seqObj "list" #[] 0)).update s.heap.objs.size (Kg (·++vs.toArray))}:=by
  refine I.kept (t':=s.toks) fun b u z=> ?_
  have hlt:b < s.heap.objs.size:=Jz z
  exact(NV _ _ _ _ (JJ hlt)).trans (Jl _ z)
 generalize (s.heap.push (seqObj "list" #[] 0)).update s.heap.objs.size (Kg (·++vs.toArray))=h1 at*
 refine wpAny_bind (wpAny_newList (s:={s with heap:=h1}) ?_ (by omega))
 have I2:af X pins σ H {s with heap:=h1.push (seqObj "list" vs.toArray 0)}:=I1.kept (t':=s.toks) fun b u z=> Jl _ z
 have gD:(h1.push (seqObj "list" vs.toArray 0)).get? h1.objs.size=some (seqObj "list" vs.toArray 0):=JR _ rfl
 have hH:H h1.objs.size=none:=I1.hok.fresh (Jm _)
 have oD:jo X pins h1.objs.size:=I1.out (Jm _)
 have isp:∀i v,vs[i]?=some v→fU (h1.push (seqObj "list" vs.toArray 0)) v (ps.getD i (0,Jc ""))∧v≠ .ref h1.objs.size:=fun i v ei=> by
  have hi:i < ps.length:=by rw [←lv];exact(Jr.mp ei).1
  obtain⟨x,ex,rx⟩:=sY hv ei
  obtain⟨y,ey,dy⟩:=oe (i:=i) (d:=cq ps[i]) hd (by rw [JB,JE hi];rfl)
  rw [ex] at ey;cases ey
  have e:ps.getD i (0,Jc "")=ps[i]:=by simp [hi]
  rw [e]
  have a:=ve I1 dy rx
  refine⟨ve I2 dy rx,fun z=> ?_⟩
  obtain⟨ad,o,m,t,u,e1,e2,_⟩:=a
  rw [e1] at z
  cases z
  exact absurd (Jz e2) (Lj _)
 refine wpAny_bind (wpAny_holding (wpAny_call_entry slot_list_sort ⟨_,gD,rfl⟩ entry_list_sort ?_ (args_list_sort _)))
 refine FH (s:={s with heap:=h1.push (seqObj "list" vs.toArray 0)}) (n:=ps.length) (kp:=fun i=> ps.getD i (0,Jc "")) lv h64 gD isp (fun i j hi hj ee=> ?_) fun p pp pu h' c g kept=> ?_
 ·have e1':ps.getD i (0,Jc "")=ps[i]:=by simp [hi]
  have e2':ps.getD j (0,Jc "")=ps[j]:=by simp [hj]
  rw [e1',e2'] at ee
  exact(Mm nd).mp ee
 ·have lt:∀i∈p.toList,i < ps.length:=fun i hi=> by simpa using pp.perm.mem_iff.mp hi
  have dm:ak X.K H O (p.toList.map fun i=> us.getD i .non) ((p.toList.map fun i=> ps.getD i (0,Jc "")).map cq):=by
   have:∀l:List Nat,(∀i∈l,i < ps.length)→ak X.K H O (l.map fun i=> us.getD i .non) ((l.map fun i=> ps.getD i (0,Jc "")).map cq):=by
    intro l
    induction l with
    | nil=> intro _;exact .nil
    | cons a l ih=>
     intro hl
     have ha:=hl a (by simp)
     refine .cons ?_ (ih fun i hi=> hl i (by simp [hi]))
     obtain⟨x,ex,dx⟩:=oe (i:=a) (d:=cq ps[a]) hd (by rw [JB,JE ha];rfl)
     have e1':us.getD a .non=x:=by simp [ex]
     have e2':ps.getD a (0,Jc "")=ps[a]:=by simp [ha]
     show Dt X.K H O (us.getD a .non) (cq (ps.getD a (0,Jc "")))
     rw [e1',e2'];exact dx
   exact this _ lt
  have vm:aH (p.toList.map fun i=> us.getD i .non) (p.toList.map fun i=> vs.getD i .none):=by
   have:∀l:List Nat,(∀i∈l,i < ps.length)→aH (l.map fun i=> us.getD i .non) (l.map fun i=> vs.getD i .none):=by
    intro l
    induction l with
    | nil=> intro _;exact .nil
    | cons a l ih=>
     intro hl
     have ha:=hl a (by simp)
     refine .cons ?_ (ih fun i hi=> hl i (by simp [hi]))
     obtain⟨x,ex,rx⟩:=sY hv (show vs[a]?=some (vs[a]'(by omega)) by simp)
     have e1':us.getD a .non=x:=by simp [ex]
     have e2':vs.getD a .none=vs[a]'(by omega):=by simp [show a < vs.length by omega]
     show aG (us.getD a .non) (vs.getD a .none)
     rw [e1',e2'];exact rx
   exact this _ lt
  refine⟨_,rfl,wpAny_pure ⟨_,rfl,.ref h1.objs.size,ao H h1.objs.size (.lst (p.toList.map fun i=> us.getD i .non)),?_,rfl,q _ _ (p.toList.map fun i=> ps.getD i (0,Jc "")) hH dm ?_ ?_⟩⟩
  ·refine I2.track (t':=s.toks) (ch:=[h1.objs.size]) (by simp) (fun b hb=> ?_) (fun b u hb z=> kept b u (fun y=> hb (by simp [y])) z) ⟨?_,_,c,vm,g⟩
   ·rw [JV] at hb;subst hb;exact⟨hH,oD⟩
   ·rw [Jf,J1,pp.size];omega
  ·have h1:=pp.perm.map fun i=> ps.getD i (0,Jc "")
   have e:(Kn ps.length).map (fun i=> ps.getD i (0,Jc ""))=ps:=by
    apply LV (by simp)
    intro i a b
    simp at a b⊢
    rw [JE b];rfl
   rw [e] at h1
   exact h1
  ·rw [Kf,K4]
   intro i j hi hj hij
   have:=pu i j hij (by rw [J1,pp.size] at hj;exact hj)
   have ei:p.getD i 0=p.toList[i]:=by simp [Mc,show i < p.size by simpa using hi]
   have ej:p.getD j 0=p.toList[j]:=by simp [Mc,show j < p.size by simpa using hj]
   rw [ei,ej] at this
   exact this
section
variable {X:Cx} {H0:Hp} {O0:Ex}
def og(t:DA):DA:=fun δ Q=> t δ fun ds=> ∃ps:List (Int×Str),ds=[.list (ps.map cq)]∧ps.length < 64∧ps.Nodup∧∀ps':List (Int×Str),ps'.Perm ps→ps'.Pairwise (fun a b=> aL a b=true)→Q (ps'.map cq)
theorem zx{a:Expr}{t:DA}{np p:Pos}(hg:Gl X "sorted")(hm:X.mg "sorted"=none)(hv:bootBuiltins "sorted"=some (.builtin "sorted"))(ha:PA X [a] (gz X.K H0 O0 t))(he:starEach [a] X.env=(false,eval a X.env)::starEach [] X.env:=by rfl)(hpl:(backTo p (starEach [] X.env)).any (·.1)=false:=by rfl):
  FE X H0 O0 (.Call (.Name "sorted" np) [a] [] p) (og t):=
 (bX FI hg hm hv ha (he:=he) (hpl:=hpl)).imp fun σ H Q uu18=> by obtain⟨O,δ,Qd,w,q,k⟩:=uu18;exact⟨O,δ,_,w,q,fun ds vs H1 uu19 s1 r1=> by
  obtain⟨ps,e,h64,nd,q1⟩:=uu19
  subst e
  cases r1 with
  | cons h r=>
   cases r
   obtain⟨a,us,rfl,h1,d1⟩:=h.lst
   exact⟨a,us,O,ps,rfl,h1,d1,h64,nd,fun l us' ps' hl hd hp hs=> k _ _ _ _ (q1 ps' hp hs) s1 hl hd⟩⟩
def oh(F:List PyData→(PyData→Prop)→Prop)(kf:PyData→Int×Str)(t:DA):DA:=fun δ Q=> t δ fun ds0=> ∃ds,ds0=[.list ds]∧(∀d∈ds,∀R:PyData→Prop,R (cq (kf d))→F [d] R)∧ds.length < 64∧(ds.map kf).Nodup∧∀ds',ds'.Perm ds→ds'.Pairwise (fun a b=> aL (kf a) (kf b)=true)→Q ds'
theorem FJ{a:Expr}{t:DA}{np p gp kp:Pos}{g:Str}{k:Nat}{f:Addr}{fd:FuncData}{ps:List Str}{F:List PyData→(PyData→Prop)→Prop}(kf:PyData→Int×Str)(hc:X.calm=true)(Fk:aK X.prog X.w X.K X.mg X.base CX0 k f fd ps (bo X.K F))(hr:bE k X.A.in1.in1)(hb:aQ X.K fd ps [])
  (hgg:Gl X g)(hgm:X.mg g=some (.ref f))(hg:Gl X "sorted")(hm:X.mg "sorted"=none)(hv:bootBuiltins "sorted"=some (.builtin "sorted"))(ha:PA X [a] (gz X.K H0 O0 t))(hdb:(g==("__debug__":Str))=false:=by decide)
  (he:backTo p (starEach [a] X.env)=(false,eval a X.env)::backTo p (starEach [] X.env):=by rfl)(hplain:(backTo p (starEach [a] X.env)).any (·.1)=false:=by rfl):
  FE X H0 O0 (.Call (.Name "sorted" np) [a] [⟨some "key",.Name g gp,kp⟩] p) (oh F kf t):=by
 intro pins s σ H Q I h
 obtain⟨O,δ,Qd,w,q,kk⟩:=h
 refine wpAny_Call_Name_kw (j5 I hg hm hv ?_)
 refine callWith_kw (aD (ha p pins s σ H (fun vs H1=> ∃ds0,ar H H1∧kB X.K H1 O vs ds0∧∃ds,ds0=[.list ds]∧(∀d∈ds,∀R:PyData→Prop,R (cq (kf d))→F [d] R)∧ds.length < 64∧(ds.map kf).Nodup∧∀ds',ds'.Perm ds→ds'.Pairwise (fun a b=> aL (kf a) (kf b)=true)→Qd ds') I ⟨O,δ,_,w,q,fun ds0 vs H1 q1 s1 r1=> ⟨ds0,s1,r1,q1⟩⟩) fun us s1 hus=> ?_) he hplain rfl rfl
 obtain⟨vs,H1,I1,rv,ds0,s1',r1,ds,e,hF,h64,nd,q1⟩:=hus
 subst e
 refine kws_cons (oY I1 hgg hgm (kws_nil ?_) hdb)
 cases r1 with
 | cons h r=>
  cases r
  obtain⟨ad,xs,rfl,hq,hd⟩:=h.lst
  obtain⟨u,rfl,rx⟩:=cU rv
  cases rx
  exact FG (kf:=kf) hc Fk hr hb (w.mono s1').trk I1 hq hd hF h64 nd fun H' l xs' ds' a b c d e=> kk _ _ _ _ (q1 ds' d e) (s1'.trans a) b c
end
end L2
namespace L2
open PySem PySem.Spec PyProof.Rows PySem.W PySem.Calls
section
open PySem.SeqAt
open PySem.AutoSeq1 (wpAny_loadPart')
open PySem.MeetsSeq PySem.MeetsSeq2 PySem.MeetsSeq3
theorem FK(l b:Addr)(n n2:Nat)(dd dd2:Option Addr)(sl sl2:Array (Option Value))(p q:Int×Str)(t1 t2 t3 t4:Tok):
  Meets (Builtin.«tuple.__lt__» ⟨[.ref l,.ref b],[]⟩)
   (fun _ R s=> s.heap.get? l=some {cls:= .type "tuple",dict:=dd,data:= .seq #[.int p.1 t1,.str p.2 t2] n,slots:=sl}∧s.heap.get? b=some {cls:= .type "tuple",dict:=dd2,data:= .seq #[.int q.1 t3,.str q.2 t4] n2,slots:=sl2}∧
    R (.ok (.ret (.bool (aL p q)))) s):=
 .of_wp fun prog w A R s h=> by
  obtain⟨hp,g,d,tk,os⟩:=s;obtain⟨hl,hb,h⟩:=h
  have f2:=AutoSeq1.sub_tuple_tuple
  wp_walk using wpAny_loadPart' hl,wpAny_loadPart' hb,wpAny_forIn_list _ (fun rest b s'=> b.1=none∧s'=⟨hp,g,d,tk,os⟩∧(rest=[(Lw p.1 t1,Lw q.1 t3),(Lx p.2 t2,Lx q.2 t4)]∨(rest=[(Lx p.2 t2,Lx q.2 t4)]∧p.1=q.1)∨(rest=[]∧p.1=q.1∧p.2=q.2))) _
  case turn=>
   rintro⟨y,x⟩ rest b s' ⟨hb',rfl,h3⟩
   rcases h3 with h3 | ⟨h3,e1⟩ | ⟨h3,_⟩
   ·injection h3 with hyx hrest
    injection hyx with hy hx
    subst hy hx
    obtain⟨e,he,hiff⟩:=HT.eqAt_int A.in1 ⟨hp,g,d,tk,os⟩ p.1 t1 q.1 t3
    refine wpAny_bind (he prog w _ _ ?_)
    cases e with
    | true=>
     wp_walk
     exact⟨rfl,rfl,.inr (.inl ⟨hrest,hiff.mp rfl⟩)⟩
    | false=>
     have ne:p.1≠q.1:=fun z=> absurd (hiff.mpr z) Jk
     have hri:=HT.rcLt_int A.in1 ⟨hp,g,d,tk,os⟩ p.1 t1 q.1 t3 prog w
     have hv:aL p q=decide (p.1 < q.1):=by unfold aL;simp [ne]
     rw [hv] at h
     wp_walk using hri
     exact⟨_,rfl,by simpa using h⟩
   ·injection h3 with hyx hrest
    injection hyx with hy hx
    subst hy hx
    have he:=EqAt.str_str (A:=A.in1) (s:=⟨hp,g,d,tk,os⟩) p.2 t2 q.2 t4
    refine wpAny_bind (he prog w _ _ ?_)
    cases e:(p.2==q.2) with
    | true=>
     wp_walk
     exact⟨rfl,rfl,.inr (.inr ⟨hrest,e1,eq_of_beq e⟩)⟩
    | false=>
     have hri:∀(E:Value→Shared→Prop)(Q:Value→Shared→Prop),Q (.bool (decide (p.2.cps.toList < q.2.cps.toList))) ⟨hp,g,d,tk,os⟩→wpAny (model prog w) A.in1 (richCompare .Lt (.str p.2 t2) (.str q.2 t4)) Q E ⟨hp,g,d,tk,os⟩:=fun E Q z=> (lt_str z:wpAny (model prog w) A.in1 (compareOp .Lt (.str p.2 t2) (.str q.2 t4)) Q E _)
     have hv:aL p q=decide (p.2.cps.toList < q.2.cps.toList):=by unfold aL;simp [e1]
     rw [hv] at h
     wp_walk using hri
     exact⟨_,rfl,by simpa using h⟩
   ·cases h3
  case fin=>
   rintro⟨b1,b2⟩ s' ⟨hb',rfl,h3⟩
   simp only at hb'
   subst hb'
   rcases h3 with h3 | ⟨h3,e1⟩ | ⟨h3,e1,e2⟩
   ·cases h3
   ·cases h3
   ·have hv:aL p q=false:=by unfold aL;rw [e1,e2];simp
    rw [hv] at h
    wp_walk
    exact⟨_,rfl,by simpa [Builtin.Tuple.tupleCompareSizes] using h⟩
  case h=>
   exact⟨rfl,rfl,.inl rfl⟩
end
def zz(K:Jd):R2:=fun x y H Q=> ∃a b p q,x= .ref a∧y= .ref b∧bB K H a [.int p.1,.str p.2]∧bB K H b [.int q.1,.str q.2]∧Q (.bl (aL p q)) H
theorem zA{X:Cx}(hu:X.A.units < cLine):bW X (compareOp .Lt) (zz X.K):=by
 intro pins s σ H x y v u Q I rx ry h
 obtain⟨a,b,p,q,rfl,rfl,ha,hb,z⟩:=h
 cases rx
 cases ry
 obtain⟨its,r1,⟨⟨c1,d1,da1,s1⟩,o1,k1,n1,e1⟩,_⟩:=I.tuple ha
 obtain⟨its2,r2,⟨⟨c2,d2,da2,s2⟩,o2,k2,n2,e2⟩,_⟩:=I.tuple hb
 simp only at k1 e1 k2 e2
 subst k1 e1 k2 e2
 cases r1 with
 | cons x1 r1=>
  cases r1 with
  | cons x2 r1=>
   cases r1;obtain⟨t1,rfl⟩:=x1;obtain⟨t2,rfl⟩:=x2
   cases r2 with
   | cons y1 r2=>
    cases r2 with
    | cons y2 r2=>
     cases r2;obtain⟨t3,rfl⟩:=y1;obtain⟨t4,rfl⟩:=y2
     exact richCompare_meets_room (op:= .Lt) ⟨_,o1,rfl⟩ ⟨_,o2,rfl⟩ PySem.F.slot_tuple_lt PySem.F.entry_tuple_lt (PySem.F.args_tuple_lt_2 _ _) (FK a b n1 n2 d1 d2 s1 s2 p q t1 t2 t3 t4) ⟨o1,o2,(fun x=> nomatch x),.bl (aL p q),H,I,rfl,z⟩ hu
def oi:PyData→PyData→(PyData→Prop)→Prop:=fun x y Q=> ∃p q:Int×Str,x=cq p∧y=cq q∧Q (.bool (aL p q))
theorem zB{K:Jd}:cL K (zz K) oi:=fun H O x y dx dy Qd R _ hx hy uu20 k=> by
 obtain⟨p,q,e1,e2,z⟩:=uu20
 subst e1 e2
 obtain⟨a,xs,rfl,h1,g1⟩:=hx.tup
 obtain⟨b,ys,rfl,h2,g2⟩:=hy.tup
 cases g1 with
 | cons x1 g1=>
  cases g1 with
  | cons x2 g1=>
   cases g1;cases x1;cases x2
   cases g2 with
   | cons y1 g2=>
    cases g2 with
    | cons y2 g2=>
     cases g2;cases y1;cases y2;exact⟨a,b,p,q,rfl,rfl,h1,h2,k _ _ H z (ar.refl _) (.bl _)⟩
end L2
namespace L2
open PySem PySem.Spec PyProof.Rows PySem.W PySem.Calls
section
variable {X:Cx} {H0:Hp} {O0:Ex}
def FL(tc:DB)(tb:DS):DS:=fun E δ=> ∃W:Nat→Dl→Prop,(∃m,W m δ)∧∀m δ,W m δ→tc δ fun b=> if b=true then tb {E with nx:=fun δ'=> ∃m',m' < m∧W m' δ',ct:=fun δ'=> ∃m',m' < m∧W m' δ',bk:=E.nx} δ else E.nx δ
theorem zC{c:Expr}{body:List Stmt}{tc:DB}{tb:DS}{pos:Pos}(hp:PassesOwn (model X.prog X.w) X.A X.env X.xe)(hc:PT X c (cg X.K H0 O0 tc))(hb:bM X body (bI X.K H0 O0 tb)):PS X (.While c body [] pos) (bI X.K H0 O0 (FL tc tb)):=
 (wZ hp hc hb).imp fun D σ H uu21=> by
  obtain⟨O,δ,E,w,⟨W,⟨m0,w0⟩,st⟩,k1,k2,k3,k4⟩:=uu21
  refine⟨fun m σ' H'=> ∃O' δ',Wd X.K H0 O0 H' O' σ' δ'∧aR H H' O O'∧W m δ',⟨m0,O,δ,w,aR.refl _ _,w0⟩,fun m σ1 H1 ⟨O1,δ1,w1,S1,q1⟩=> ⟨O1,δ1,_,w1,st m δ1 q1,fun b H2 q2 s2=> ?_⟩⟩
  cases b with
  | false=>
   rw [if_neg (by simp)] at q2⊢
   exact k1 O1 δ1 σ1 H2 q2 (w1.mono s2) (S1.trans (.same s2))
  | true=>
   rw [if_pos rfl] at q2⊢
   refine⟨fun σ' H'=> ∃O' δ' m',m' < m∧Wd X.K H0 O0 H' O' σ' δ'∧aR H H' O O'∧W m' δ',fun σ' H' uu23=> by obtain⟨O',δ',m',lt,w',S',q'⟩:=uu23;exact⟨m',lt,O',δ',w',S',q'⟩,O1,δ1,_,w1.mono s2,q2,?_,k2,?_,?_⟩
   ·rintro O' δ' σ' H' ⟨m',lt,q'⟩ w' S'
    exact⟨O',δ',m',lt,w',S1.trans ((aR.same s2).trans S'),q'⟩
   ·intro O' δ' σ' H' q' w' S'
    exact k1 O' δ' σ' H' q' w' (S1.trans ((aR.same s2).trans S'))
   ·rintro O' δ' σ' H' ⟨m',lt,q'⟩ w' S'
    exact⟨O',δ',m',lt,w',S1.trans ((aR.same s2).trans S'),q'⟩
theorem bC.vals{K:Jd}{H:Hp}{O:Ex}{kv:List (ai×V)}{kd:List (ai×PyData)}(h:bC K H O kv kd):ak K H O (kv.map (·.2)) (kd.map (·.2)):=by
 induction h with
 | nil=> exact .nil
 | cons a _ ih=> exact .cons a ih
abbrev dO(ks:List Str)(ds:List PyData):PyData:=ym (ks.map .str) ds
def oj(i:Nat)(t:DS):DS:=fun E δ=> ∃kd,δ[i]?=some (some (.k kd))∧∃ks:List Str,kd.map (·.1)=ks.map Ke∧t E (δ.set i (some (.v (dO ks (kd.map (·.2))))))
theorem cX.z{H:Hp}{a:Addr}{ob:Obj}{kvs:List (ai×V)}{k:ai}(e:H a=some (.frz ob (.dK kvs))):cX H a (kV k) (dq kvs k):= .inl ⟨kvs,k,.inr ⟨ob,e⟩,rfl,rfl⟩
theorem af.fast{X:Cx}{pins:List (Addr×Obj)}{σ:St}{H:Hp}{s:Shared}(I:af X pins σ H s){a:Addr}{kv:List (ai×V)}(ha:H a=some (.dK kv)):∃o,af X pins σ (ao H a (.frz o (.dK kv))) s:=by
 obtain⟨z,hd,vs,rel,o,es,ep,g,r1,r2,r3⟩:=I.hok a _ ha
 exact⟨o,I.write (x:=a) (e:=a) (o:= .frz o (.dK kv)) (h':=s.heap) (t':=s.toks) (by rw [ha];exact Ko) (.inl rfl) (fun _ _ _ q=> q) ⟨o,g⟩ ⟨g,z,hd,vs,rel,o,es,ep,g,r1,r2,r3⟩⟩
theorem FN{st:Stmt}{t:TS}(h:PS X st t)(i:Nat):PS X st (fun D σ H=> ∃a kv,σ[i]?=some (some (.ref a))∧H a=some (.dK kv)∧∀o,t D σ (ao H a (.frz o (.dK kv)))):=by
 intro pins s σ H D I q
 obtain⟨a,kv,_,ha,q⟩:=q
 obtain⟨o,I2⟩:=I.fast ha
 exact h pins s σ _ D I2 (q o)
theorem Wd.tell{K:Jd}{H0 H:Hp}{O0 O:Ex}{σ:St}{δ:Dl}(w:Wd K H0 O0 H O σ δ){i:Nat}{v:V}{d:PyData}(h:σ[i]?=some (some v))(hd:Dt K H O v d):Wd K H0 O0 H O σ (δ.set i (some (.v d))):=by
 have li:i < δ.length:=by rw [←w.len];exact(Jr.mp h).1
 have ne:∀{j:Nat}{y:Sl},(δ.set i (some (.v d)))[j]?=some (some y)→y.own→j≠i:=fun{j y} q hy z=> by
  subst z;rw [JT li] at q;cases q;exact hy
 refine⟨w.same,w.sub,w.new,w.trk,by simp [w.len],fun j y q=> ?_,fun j k y z l' e1 y1 e2 z2 e3 e4=> ?_⟩
 ·by_cases hj:j=i
  ·subst hj
   rw [JT li] at q
   cases q
   exact⟨v,by rw [h];rfl,hd⟩
  ·rw [JI (Ne.symm hj)] at q
   exact w.sl j y q
 ·have n1:=ne e1 y1;have n2:=ne e2 z2
  rw [JI (Ne.symm n1)] at e1
  rw [JI (Ne.symm n2)] at e2
  exact w.dis j k _ _ l' e1 y1 e2 z2 e3 e4
theorem vf(i:Nat){st:Stmt}{t:DS}(h:PS X st (bI X.K H0 O0 t)):PS X st (bI X.K H0 O0 (oj i t)):=
 (FN h i).imp fun D σ H uu24=> by
  obtain⟨O,δ,E,w,⟨kd,e,ks,ek,q⟩,k1,k2,k3,k4⟩:=uu24
  obtain⟨l,kv,h,a,b,c,r⟩:=w.ownK e
  refine⟨l,kv,h,c,fun o=> ?_⟩
  obtain⟨O',w',S,n⟩:=w.frzK (y0:= .k kd) e trivial h (.frz o (.dK kv))
  have w2:=w'.tell (d:=dO ks (kd.map (·.2))) h (.dic bj (by rw [r.keys];exact ek) rfl n (r.vals.step S))
  rw [List.set_set] at w2
  exact⟨O',_,E,w2,q,fun O2 δ2 σ2 H2 z2 w2 S2=> k1 O2 δ2 σ2 H2 z2 w2 (S.trans S2),k2,fun O2 δ2 σ2 H2 z2 w2 S2=> k3 O2 δ2 σ2 H2 z2 w2 (S.trans S2),fun O2 δ2 σ2 H2 z2 w2 S2=> k4 O2 δ2 σ2 H2 z2 w2 (S.trans S2)⟩
theorem sZ:∀{a b:List Str},a.map Jh=b.map Jh→a=b
 | [],[],_=> rfl
 | [],_::_,h=> by cases h
 | _::_,[],h=> by cases h
 | x::a,y::b,h=> by
  simp only [Jj,J3,KP] at h
  rw [h.1,sZ h.2]
def ck:List Str→List PyData→Str→Option PyData
 | k::ks,d::ds,z=> if k=z then some d else ck ks ds z
 | _,_,_=> none
theorem tf{K:Jd}{H:Hp}{O:Ex}{z:Str}{d:PyData}:∀{kv:List (ai×V)}{ks:List Str}{ds:List PyData},kv.map (·.1)=ks.map Ke→ak K H O (kv.map (·.2)) ds→ck ks ds z=some d→∃v,dq kv (.inr z)=some v∧Dt K H O v d
 | [],[],ds,_,_,e=> by unfold ck at e;cases e
 | [],_::_,ds,h,_,_=> by cases h
 | _::_,[],ds,h,_,_=> by cases h
 | p::kv,k::ks,ds,h,hd,e=> by
  rw [Jj] at hd
  cases hd with
  | cons h1 h2=>
   simp only [Jj,J3] at h
   obtain⟨p1,p2⟩:=p
   obtain⟨rfl,h⟩:=h
   unfold ck at e
   by_cases hk:k=z
   ·rw [if_pos hk] at e;cases e
    exact⟨p2,nk (by rw [hk]),h1⟩
   ·rw [if_neg hk] at e
    obtain⟨v,a,b⟩:=tf h h2 e
    exact⟨v,by rw [kR (fun q=> hk (nY.mp q))];exact a,b⟩
def om(to tk:DT):DT:=fun δ Q=> to δ fun x=> ∃ks ds,x=dO ks ds∧tk δ fun y=> ∃z,y= .str z∧∃d,ck ks ds z=some d∧Q d
theorem jT{o e:Expr}{to tk:DT}{pos:Pos}(hu:X.A.units+64 < cLine)(ho:DE X H0 O0 o to)(he:DE X H0 O0 e tk)(hs:p9 e):DE X H0 O0 (.Subscript o e pos) (om to tk):=
 (yH (by omega) ho he hs).imp fun σ H Q uu25=> by
  obtain⟨O,δ,Qd,w,q,k⟩:=uu25
  refine⟨O,δ,_,w,q,fun x vx H1 ⟨ks,ds,ex,q1⟩ s1 r1=> ?_⟩
  subst ex
  refine⟨O,δ,_,w.mono s1,q1,fun y vy H2 ⟨z,ey,d,ed,q2⟩ s2 r2=> ?_⟩
  subst ey
  cases r2
  cases r1 with
  | @dic a ob kv ks' kp ds h e1 e2 n rr=>
   have ek:ks'=ks:=by
    have:ks'.map Jh=ks.map Jh:=e2.symm
    exact sZ this
   subst ek
   obtain⟨v,hv,dv⟩:=tf e1 rr ed
   exact⟨a,v,rfl,by rw [←hv];exact cX.z (k:= .inr z) (s2 _ _ h),k _ _ _ q2 (s1.trans s2) (dv.mono s2)⟩
end
end L2
namespace L2
open PySem PySem.Spec PyProof.Rows PySem.W PySem.Calls
section
variable {X:Cx} {H0:Hp} {O0:Ex}
end
section
variable {X:Cx} {H0:Hp} {O0:Ex}
def oo(t:DT)(g:DG)(tc:DB)(te:DT)(k:Nat)(fr:List Nat):DA:=fun δ Q=> jK t g tc te k fr δ Q∨jL t g tc te k fr δ Q
theorem FO{N':List Str}{k:Nat}{fr:List Nat}{scope:Scope}{iter elt tg:Expr}{ifs:List Expr}{t te:DT}{tc:DB}{g:TG}{dg:DG}{pos:Pos}(hc:X.calm=true)(S:bH X.env.scope X.N N' k fr scope)(hi:DF X H0 O0 iter t)(gd:GD X.K g dg)(hk:ie g k)(hfr:fr.Nodup)
  (hg:∀fp C s H,PG (bK X scope N' fp C s H) tg g)(hf:∀fp C s H,eF (bK X scope N' fp C s H) ifs (cg X.K H0 O0 tc))(he:∀fp C s H,PE (bK X scope N' fp C s H) elt (up X.K H0 O0 te))
  (hs:∀x,foldedSetIterable iter X.env x=pure x:=by intro _;rfl):FE X H0 O0 (.ListComp elt [⟨tg,iter,ifs,0⟩] scope pos) (oo t dg tc te k fr):=by
 intro pins s σ H Q I h
 obtain⟨O,δ,Qd,w,q,kk⟩:=h
 rcases q with q | q
 ·exact gB hc S hi gd hk hfr hg hf he hs pins s σ H Q I ⟨O,δ,Qd,w,q,kk⟩
 ·exact mR hc S hi gd hk hfr hg hf he hs pins s σ H Q I ⟨O,δ,Qd,w,q,kk⟩
end
theorem FP{fr:List Nat}{σ:St}{v u:Option V}:jB (bO 2 fr σ) (((bO 2 fr σ).set 0 v).set 1 u):=by
 refine⟨by simp,fun i w h=> ?_⟩
 match i with
 | 0=> simp [bO,Jx] at h
 | 1=> simp [bO,Jx] at h
 | i+2=> simpa [bO,Jx] using h
theorem zD{K:Jd}{n:Nat}:ie (pd K n (lT (gn 0) (lT (gn 1) pb))) 2:=fun fr σ v H' R uu28=> by obtain⟨a,xs,e,h1,h2,x,r,e1,y,r2,e2,e3,h⟩:=uu28;exact⟨a,xs,e,h1,h2,x,r,e1,y,r2,e2,e3,FP,h⟩
section
variable {X:Cx} {H0:Hp} {O0:Ex}
theorem jr{T:String}{a c:Expr}{t:DT}{np p:Pos}{K':Jd}(hK:X.K=K')(hg:Gl X "isinstance")(hm:X.mg "isinstance"=none)(hv:bootBuiltins "isinstance"=some (.builtin "isinstance"))(ha:DF X H0 O0 a t)(hc:PE X c (tC (.ty T)))
  (hs:starEach [a,c] X.env=(false,eval a X.env)::starEach [c] X.env:=by rfl)(hs2:starEach [c] X.env=[(false,eval c X.env)]:=by rfl)(hb:(backTo p (starEach [c] X.env)).any (·.1)=false:=by rfl):DE X H0 O0 (.Call (.Name "isinstance" np) [a,c] [] p) (kQ K' T t):=by
 subst hK
 exact Ee hg hm hv ha hc hs hs2 hb
end
end L2
namespace L2
open PySem PySem.Spec PyProof.Rows PySem.W PySem.Calls
def eS(f:Str)(d:PyData):List (Str×PyData)→List (Str×PyData)
 | []=> [(f,d)]
 | (g,x)::r=> if g=f then(g,d)::r else(g,x)::eS f d r
theorem kl.put{K:Jd}{H:Hp}{O:Ex}{f:Str}{v:V}{d:PyData}(hv:Dt K H O v d):∀{fs:List (Str×V)}{fd:List (Str×PyData)},kl K H O fs fd→kl K H O (dG f v fs) (eS f d fd)
 | [],[],_=> ⟨rfl,.cons hv .nil⟩
 | [],_::_,h=> by cases h.1
 | _::_,[],h=> by cases h.1
 | (g,x)::fs,(g',y)::fd,⟨h1,h2⟩=> by
  simp only [Jj,J3] at h1
  obtain⟨rfl,h1⟩:=h1
  simp only [Jj] at h2
  cases h2 with
  | cons a r=>
   unfold dG eS
   by_cases e:g=f
   ·rw [if_pos e,if_pos e]
    exact⟨by simp only [Jj,h1],.cons hv r⟩
   ·rw [if_neg e,if_neg e]
    obtain⟨q1,q2⟩:=kl.put hv (fs:=fs) (fd:=fd) ⟨h1,r⟩
    exact⟨by simp only [Jj,q1],.cons a q2⟩
section
variable {X:Cx} {H0:Hp} {O0:Ex}
def oq(C:Addr)(i:Nat)(f:Str)(t:DT):DS:=fun E δ=> t δ fun d=> ∃l fd,δ[i]?=some (some (.i l C fd))∧fd.length < 1000∧E.nx (δ.set i (some (.i l C (eS f d fd))))
theorem ot{C:Addr}{i:Nat}{f:Str}{o e:Expr}{t:DT}{pos pos':Pos}(hc:hJ X.K C)(hn:eX X.K C f)(ho:PE X o (eO i))(he:DE X H0 O0 e t)(hs:swapsWith e (some (.Attribute o f pos')) pos.line X.env=pure false:=by rfl):
  PS X (.Assign [.Attribute o f pos'] e pos) (bI X.K H0 O0 (oq C i f t)):=
 (CP ho he hs).imp fun D σ H ⟨O,δ,E,w,q,k1,k2,k3,k4⟩=> ⟨O,δ,_,w,q,fun d u H1 uu30 s1 r1=> by
  obtain⟨l,fd,e,hl,q1⟩:=uu30
  have w1:=w.mono s1
  obtain⟨dx,fs,h,a,b,c,r⟩:=w1.ownI e
  have lf:fs.length=fd.length:=by have:=congrArg MH r.1;simpa using this
  refine⟨.ref l,h,l,C,dx,fs,rfl,c,hc,hn,by rw [lf];exact hl,k1 _ _ _ _ q1 (w1.putY (y0:= .i l C fd) (y1:= .i l C (eS f d fd)) trivial trivial e h fun S a b=> ⟨dx,_,rfl,a,b,bj,?_⟩) ⟨fun b' o' z n=> ?_,fun _ _ n=> n⟩⟩
  ·obtain⟨z1,z2⟩:=r.put (f:=f) r1
   exact⟨z1,z2.step S⟩
  ·rw [aJ (fun y=> n (by rw [y];exact a))];exact s1 _ _ z⟩
abbrev zE(C:Addr)(fd:List (Str×PyData)):PyData:=jD C (fd.map fun p=> .str p.1) (fd.map (·.2))
def vg(K:Jd)(C:Addr)(F:List PyData→(PyData→Prop)→Prop):Sp:=fun vs H Q _=> ∃x dx vs' H1 O ds Qd,vs= .ref x::vs'∧H=ao (ao H1 dx (.own x)) x (.ins C dx [])∧H1 x=none∧H1 dx=none∧dx≠x∧(∀l,O l→H1 l≠none)∧ak K H1 O vs' ds∧F ds Qd∧
 ∀d H',Qd d→ar H1 H'→Dt K H' O (.ref x) d→Q .non H'
theorem zF{K:Jd}{C:Addr}{F:List PyData→(PyData→Prop)→Prop}{t:DA}{E:XK}:∀σ H Q,up K H0 O0 (jg F t) σ H Q→xF C (vg K C F) [] E (fO K H0 O0 t) σ H Q:=
 fun σ H Q uu31=> by obtain⟨O,δ,Qd,w,q,k⟩:=uu31;exact⟨O,δ,_,w,q,fun ds vs H1 q1 s1 r1 x dx hx hdx ne=> ⟨x,dx,vs,H1,O,ds,Qd,by rw [JX],rfl,hx,hdx,ne,(w.mono s1).trk,r1,q1,fun d H2 q2 s2 r2=> ⟨rfl,k d _ H2 q2 (s1.trans s2) r2⟩⟩⟩
def vh(N:List Str)(l C:Addr)(ds:List PyData):Dl:=some (.i l C [])::(fb N (.none::ds)).tail
theorem FQ{K:Jd}{H1:Hp}{O:Ex}{N:List Str}{vs:List V}{ds:List PyData}{x dx C:Addr}(tr:∀l,O l→H1 l≠none)(r:ak K H1 O vs ds)(hx:H1 x=none)(hdx:H1 dx=none)(ne:dx≠x):
  Wd K H1 O (ao (ao H1 dx (.own x)) x (.ins C dx [])) (fun l=> O l∨l=x) (start N (.ref x::vs)) (vh N x C ds):=by
 have w0:=yz (N:=N) tr (.cons .non r)
 have w1:=w0.mono (ar.new (o:=HO.own x) hdx)
 have hx1:(ao H1 dx (.own x)) x=none:=by rw [aJ (Ne.symm ne)];exact hx
 have:=w1.setY (i:=0) (p:=x) (ho:= .ins C dx []) (y0:= .i x C []) trivial hx1 fun O' S a b=> ⟨dx,[],rfl,a,b,bj,rfl,.nil⟩
 exact this
end
section
variable {P:Program} {w:World} {K:Jd} {mg:Str→Option Value} {base:Heap}
theorem aV.okI{x qual:Str}{st:Stmt}{f C:Addr}{fd:FuncData}{N ps:List Str}{k:Nat}{F:List PyData→(PyData→Prop)→Prop}(Fu:aV K x qual st f fd)(S:bg N ps (ah st))(len:∀ds Q,F ds Q→ds.length+1=ps.length)
  (hbody:∀(cdv:Value) (A:Around) (outer:List Env) (s:Shared) (H H1:Hp) (O:Ex) (ds:List PyData) (Q:PyData→Prop) (E:XK) (l:Addr),bE k (A.deeper (envOfC qual (ah st) s.heap.objs.size f cdv))→F ds Q→
   ∃t,bM (hU CX0 P w K mg base N qual (ah st) f cdv A outer s H E).nox (az st) (bI K H1 O t)∧t {nx:=fun δ=> ∃fd,δ[0]?=some (some (.i l C fd))∧Q (zE C fd),rt:=fun _=> False} (vh N l C ds)):aK P w K mg base CX0 (k+1) f fd ps (vg K C F):=by
 refine Fu.ok S (fun vs H Q E h=> ?_) (fun cdv A outer s H vs Q E hr h=> ?_)
 ·obtain⟨x,dx,vs',H1,O,ds,Qd,rfl,_,_,_,_,_,r,q,_⟩:=h
  rw [JC,r.length];exact len _ _ q
 ·obtain⟨x,dx,vs',H1,O,ds,Qd,rfl,rfl,hx,hdx,ne,tr,r,q,k⟩:=h
  obtain⟨t,ht,q'⟩:=hbody cdv A outer s _ H1 O ds Qd E x hr q
  refine⟨_,ht,_,_,_,FQ tr r hx hdx ne,q',fun O' δ' σ' H' z w' S'=> ?_,fun d v H' z s' r'=> z.elim,fun _ _ _ _ z=> z.elim,fun _ _ _ _ z=> z.elim⟩
  obtain⟨fd,e,z⟩:=z
  obtain⟨dx',fs,h,a,b,c,r1,r2⟩:=w'.ownI e
  refine k _ _ z w'.same (.obj c ?_ b (r2.step ⟨fun _ _ y _=> y,fun b' _ n z=> n (w'.sub b' z)⟩))
  rw [show(fd.map fun p:Str×PyData=> Jh p.1)=(fd.map (·.1)).map Jh by rw [JH];rfl,←r1,JH];rfl
end
theorem Dt.objI{K:Jd}{H:Hp}{O:Ex}{v:V}{C:Addr}{kp ds:List PyData}(h:Dt K H O v (jD C kp ds)):∃a dx fs,v= .ref a∧H a=some (.ins C dx fs)∧kp=fs.map (fun p=> Jh p.1)∧ak K H O (fs.map (·.2)) ds:=by
 generalize e:jD C kp ds=x at h
 cases h with
 | @obj a C' dx fs kp' ds' h1 h2 n r=>
  simp only [jD,PyData.dict.injEq,J3,OO,KQ,Ld,LM,and_true,true_and] at e
  obtain⟨e1,e2,e3⟩:=e
  have e1:C=C':=by exact_mod_cast e1
  subst e1 e2 e3
  exact⟨a,dx,fs,rfl,h1,h2,r⟩
 | _=> first | cases e | simp [jD] at e
section
variable {X:Cx} {H0:Hp} {O0:Ex}
theorem zG{K:Jd}{H:Hp}{O:Ex}{f:Str}{d:PyData}:∀{fs:List (Str×V)}{ks:List Str}{ds:List PyData},fs.map (fun p=> Jh p.1)=ks.map Jh→ak K H O (fs.map (·.2)) ds→ck ks ds f=some d→∃v,fs.lookup f=some v∧Dt K H O v d
 | [],[],ds,_,_,e=> by unfold ck at e;cases e
 | [],_::_,ds,h,_,_=> by cases h
 | _::_,[],ds,h,_,_=> by cases h
 | (g,x)::fs,k::ks,ds,h,hd,e=> by
  rw [Jj] at hd
  cases hd with
  | cons h1 h2=>
   simp only [Jj,J3,KP] at h
   obtain⟨rfl,h⟩:=h
   unfold ck at e
   rw [Km]
   by_cases hk:g=f
   ·rw [if_pos hk] at e;cases e
    subst hk
    exact⟨x,by simp,h1⟩
   ·rw [if_neg hk] at e
    have:(f==g)=false:=by simpa using Ne.symm hk
    rw [this]
    exact zG h h2 e
def ou(C:Addr)(f:Str)(t:DT):DT:=fun δ Q=> t δ fun x=> ∃ks ds d,x=jD C (ks.map .str) ds∧ck ks ds f=some d∧Q d
theorem lq{C:Addr}{f:Str}{e:Expr}{t:DT}{pos:Pos}(hc:hJ X.K C)(hn:eX X.K C f)(he:DE X H0 O0 e t)(hb:attributeBase e f X.env (eval e X.env)=eval e X.env:=by rfl):DE X H0 O0 (.Attribute e f pos) (ou C f t):=
 (CO he hb).imp fun σ H Q uu32=> by obtain⟨O,δ,Qd,w,q,k⟩:=uu32;exact⟨O,δ,_,w,q,fun x v H1 uu33 s1 r1=> by
  obtain⟨ks,ds,d,ex,ed,q1⟩:=uu33
  subst ex
  obtain⟨a,dx,fs,rfl,h1,h2,r⟩:=r1.objI
  obtain⟨v,hv,dv⟩:=zG h2.symm r ed
  exact⟨a,C,dx,fs,v,rfl,h1,hc,hn,hv,k _ _ _ q1 s1 dv⟩⟩
end
end L2
namespace L2
open PySem PySem.Spec PyProof.Rows PySem.W PySem.Calls
end L2
namespace L2
open PySem PySem.Spec PyProof.Rows PySem.W PySem.Calls
section
variable {P:Program} {w:World} {A:Around} {E:Value→Shared→Prop} {s:Shared}
end
end L2
namespace L2
open PySem PySem.Spec PyProof.Rows PySem.W PySem.Calls
section
variable {P:Program} {w:World} {A:Around} {R:Result→Shared→Prop} {I:Addr} {fp wr:List Addr} {G:Array GenState→Array GenState→Prop} {n:Nat} {Pv:Nat→Value→Prop} {St:Nat→Shared→Prop}
end
section
variable {P:Program} {w:World} {A:Around} {E:Value→Shared→Prop} {s:Shared}
end
end L2
namespace L2
open PySem PySem.Spec PyProof.Rows PySem.W PySem.Calls
section
variable {P:Program} {w:World} {A:Around} {E:Value→Shared→Prop} {s:Shared} {a:Addr} {o:Obj} {es:Array (Int×Value)} {ep:Nat} {t:SetTable}
end
end L2
namespace L2
open PySem PySem.Spec PyProof.Rows PySem.W PySem.Calls
section
variable {P:Program} {w:World} {A:Around} {E:Value→Shared→Prop} {s:Shared} {a:Addr}
end
end L2
namespace L2
open PySem PySem.Spec PyProof.Rows PySem.W PySem.Calls
section
variable {X:Cx} {H0:Hp} {O0:Ex}
end
end L2
namespace L2
open PySem PySem.Spec PyProof.Rows PySem.W PySem.Calls
section
variable {X:Cx} {H0:Hp} {O0:Ex}
end
end L2
namespace L2
open PySem PySem.Spec PyProof.Rows PySem.W PySem.Calls
def ow:List PyData→(PyData→Prop)→Prop:=fun ds Q=> ∃ns:List Int,ds=[.list (ns.map .int)]∧Q (.int ns.sum)
theorem FT{K:Jd}:fo K (fun xs H Q=> ∃(a:Addr)(ns:List Int),xs=[.ref a]∧aP K H a (ns.map V.int)∧Q (.int ns.sum) H) ow:=fun H O xs ds Qd R tr hs uu34 k=> by
 obtain⟨ns,e,q⟩:=uu34
 subst e
 cases hs with
 | cons h r=>
  cases r
  obtain⟨a,vs,rfl,h1,d1⟩:=h.lst
  cases d1.intsL
  exact⟨a,ns,rfl,h1,k _ _ H q (ar.refl _) (.int _)⟩
theorem FU{X:Cx}(hc:X.calm=true):cP X (.builtin "min") (fun xs H Q=> ∃(p:Addr)(ns:List Int),xs=[.ref p]∧aP X.K H p (ns.map V.int)∧ns≠[]∧∀M,M∈ns→(∀a∈ns,M≤a)→Q (.int M) H):=by
 intro pins s σ H xs us Q I r h
 obtain⟨p,ns,rfl,hq,hne,q⟩:=h
 obtain⟨u,rfl,rx⟩:=cU r
 cases rx
 obtain⟨its,rv,pl,hz⟩:=I.list hq
 have hi:=u9 rv
 obtain⟨zs,e⟩:=hi.allInts.items
 have hns:ns=zs.toList.map (·.1):=by rw [←hi.numsOf,←nums_intItems,←e]
 have h0:0 < zs.size:=by
  rcases N4 zs.size with z | z
  ·exact absurd (by rw [hns];simp [NA.mp z]) hne
  ·exact z
 have hl:=pl.isList
 rw [e] at hl
 refine min_intList (I.ok.hd hc) hl h0 fun v h' tk hv hk=> ?_
 obtain⟨t,rfl⟩:=intItems_at hv
 obtain⟨h1,h2⟩:=argBest_lt (numAt zs) (zs.size - 1)
 refine⟨.int _,H,I.kept (t':=tk) hk,⟨t,rfl⟩,q _ ?_ fun a ha=> ?_⟩
 ·rw [hns,numAt_eq];exact getD_mem (by rw [Jf,J1];omega)
 ·rw [hns] at ha
  obtain⟨j,hj,rfl⟩:=mem_getD ha
  rw [Jf,J1] at hj
  rw [←numAt_eq];exact h2 j (by omega)
def ox:List PyData→(PyData→Prop)→Prop:=fun ds Q=> ∃ns:List Int,ds=[.list (ns.map .int)]∧ns≠[]∧∀M,M∈ns→(∀a∈ns,M≤a)→Q (.int M)
theorem FV{K:Jd}:fo K (fun xs H Q=> ∃(p:Addr)(ns:List Int),xs=[.ref p]∧aP K H p (ns.map V.int)∧ns≠[]∧∀M,M∈ns→(∀a∈ns,M≤a)→Q (.int M) H) ox:=fun H O xs ds Qd R tr hs uu35 k=> by
 obtain⟨ns,e,hne,q⟩:=uu35
 subst e
 cases hs with
 | cons h r=>
  cases r
  obtain⟨a,vs,rfl,h1,d1⟩:=h.lst
  cases d1.intsL
  exact⟨a,ns,rfl,h1,hne,fun M m1 m2=> k _ _ H (q M m1 m2) (ar.refl _) (.int _)⟩
section
variable {X:Cx} {H0:Hp} {O0:Ex}
theorem ak.rep{K:Jd}{H:Hp}{O:Ex}{vs:List V}{ds:List PyData}(h:ak K H O vs ds):∀n:Nat,ak K H O (Jx n vs).flatten (Jx n ds).flatten
 | 0=> .nil
 | n+1=> by rw [KY,KY,Lo,Lo];exact h.append (ak.rep h n)
end
section
variable {X:Cx} {H0:Hp} {O0:Ex}
end
section
variable {X:Cx} {H0:Hp} {O0:Ex}
end
end L2
namespace Day
def fv(y:Int):Bool:=decide (y % 400=0) || (decide (y % 4=0) && !decide (y % 100=0))
def ld(y:Int):Int:=if fv y=true then 1 else 0
def vi:List Int:=[31,28,31,30,31,30,31,31,30,31,30,31]
def aX(y m:Int):Int:=if m=2∧fv y=true then 29 else vi.getD (m - 1).toNat 0
def lb(y:Int):Int:=(y - 1)/ 4 - (y - 1)/ 100+(y - 1)/ 400
def bD(y:Int):Int:=365*(y - 2000)+lb y - lb 2000
def aN(y m:Int):Int:=((Kn (m - 1).toNat).map fun(i:Nat)=> aX y (1+(i:Int))).sum
def fw(y m n:Int):Int:=bD y+aN y m+n - 1
structure ip (d y m n:Int):Prop where
 m1:1≤m
 m12:m≤12
 n1:1≤n
 nl:n≤aX y m
 eq:fw y m n=d
theorem vj(y:Int):0≤ld y∧ld y≤1:=by unfold ld;split <;> omega
theorem oy(y:Int):fv y=true↔(y % 400=0∨(y % 4=0∧y % 100≠0)):=by
 unfold fv;simp
theorem vk(y:Int):bD (y+1)=bD y+365+ld y:=by
 unfold bD lb ld
 by_cases h:fv y=true
 ·rw [if_pos h];have:=(oy y).mp h;omega
 ·rw [if_neg h];have:=mt (oy y).mpr h;omega
theorem zH{a b:Int}(h:a+1≤b):bD (a+1)≤bD b:=by
 unfold bD lb;omega
theorem tj(y:Int):aX y 2=28+ld y:=by
 unfold aX ld
 by_cases h:fv y=true
 ·rw [if_pos ⟨rfl,h⟩,if_pos h];rfl
 ·rw [if_neg (fun z=> h z.2),if_neg h];rfl
theorem vo{y m:Int}(h:m≠2):aX y m=vi.getD (m - 1).toNat 0:=by
 unfold aX;rw [if_neg (fun z=> h z.1)]
theorem oz(y:Int):aX y 1=31∧aX y 3=31∧aX y 4=30∧aX y 5=31∧aX y 6=30∧aX y 7=31∧aX y 8=31∧aX y 9=30∧aX y 10=31∧aX y 11=30∧aX y 12=31:=by
 refine⟨?_,?_,?_,?_,?_,?_,?_,?_,?_,?_,?_⟩ <;> (rw [vo (by decide)];rfl)
theorem tm{m:Int}(h1:1≤m)(h2:m≤12):m=1∨m=2∨m=3∨m=4∨m=5∨m=6∨m=7∨m=8∨m=9∨m=10∨m=11∨m=12:=by omega
theorem zI{y m:Int}(h1:1≤m)(h2:m≤12):28≤aX y m∧aX y m≤31:=by
 have:=oz y;have:=tj y;have:=vj y
 rcases tm h1 h2 with h | h | h | h | h | h | h | h | h | h | h | h <;> subst h <;> omega
theorem oA(y:Int):aN y 1=0:=rfl
theorem dB{y m:Int}(h:1≤m):aN y (m+1)=aN y m+aX y m:=by
 unfold aN
 have e:(m+1 - 1).toNat=(m - 1).toNat+1:=by omega
 rw [e,Mt,J6,List.sum_append]
 have e2:(1:Int)+(((m - 1).toNat:Nat):Int)=m:=by omega
 simp only [Jj,Kc,OP,List.sum_nil,e2]
 omega
theorem tq(y:Int):aN y 1=0∧aN y 2=31∧aN y 3=59+ld y∧aN y 4=90+ld y∧aN y 5=120+ld y∧aN y 6=151+ld y∧aN y 7=181+ld y∧aN y 8=212+ld y∧aN y 9=243+ld y∧aN y 10=273+ld y∧aN y 11=304+ld y∧aN y 12=334+ld y∧aN y 13=365+ld y:=by
 have h1:=oA y
 have h2:aN y 2=aN y 1+aX y 1:=dB (m:=1) (by decide)
 have h3:aN y 3=aN y 2+aX y 2:=dB (m:=2) (by decide)
 have h4:aN y 4=aN y 3+aX y 3:=dB (m:=3) (by decide)
 have h5:aN y 5=aN y 4+aX y 4:=dB (m:=4) (by decide)
 have h6:aN y 6=aN y 5+aX y 5:=dB (m:=5) (by decide)
 have h7:aN y 7=aN y 6+aX y 6:=dB (m:=6) (by decide)
 have h8:aN y 8=aN y 7+aX y 7:=dB (m:=7) (by decide)
 have h9:aN y 9=aN y 8+aX y 8:=dB (m:=8) (by decide)
 have h10:aN y 10=aN y 9+aX y 9:=dB (m:=9) (by decide)
 have h11:aN y 11=aN y 10+aX y 10:=dB (m:=10) (by decide)
 have h12:aN y 12=aN y 11+aX y 11:=dB (m:=11) (by decide)
 have h13:aN y 13=aN y 12+aX y 12:=dB (m:=12) (by decide)
 have:=oz y;have:=tj y
 omega
theorem zJ{y m:Int}(h1:1≤m):∀k:Nat,m+k≤13→aN y m≤aN y (m+k)
 | 0,_=> by simp
 | k+1,h=> by
  have ih:=zJ (y:=y) h1 k (by omega)
  have e:m+((k+1:Nat):Int)=(m+k)+1:=by omega
  rw [e,dB (by omega)]
  have:=zI (y:=y) (m:=m+k) (by omega) (by omega)
  omega
theorem vp{y m m':Int}(h1:1≤m)(h2:m≤m')(h3:m'≤13):aN y m≤aN y m':=by
 have:=zJ (y:=y) h1 (m' - m).toNat (by omega)
 rw [show m+(((m' - m).toNat:Nat):Int)=m' by omega] at this
 exact this
theorem tu{y m:Int}(h1:1≤m)(h2:m≤12):0≤aN y m∧aN y m+aX y m≤365+ld y:=by
 have a:=vp (y:=y) (m:=1) (m':=m) (by decide) h1 (by omega)
 have b:=vp (y:=y) (m:=m+1) (m':=13) (by omega) (by omega) (by decide)
 rw [dB h1] at b
 have c:=(tq y).1
 have e:=(tq y).2.2.2.2.2.2.2.2.2.2.2.2
 omega
theorem zK{y m m':Int}(h1:1≤m)(h2:m < m')(h3:m'≤12):aN y m+aX y m≤aN y m':=by
 have b:=vp (y:=y) (m:=m+1) (m':=m') (by omega) (by omega) (by omega)
 rw [dB h1] at b
 exact b
theorem ip.in{d y m n:Int}(h:ip d y m n):bD y≤d∧d < bD (y+1):=by
 have:=tu (y:=y) h.m1 h.m12;have:=h.n1;have:=h.nl;have e:=h.eq;have:=vk y
 unfold fw at e;omega
theorem ip.uniq{d y m n y' m' n':Int}(h:ip d y m n)(h':ip d y' m' n'):y=y'∧m=m'∧n=n':=by
 have a:=h.in;have b:=h'.in
 have ey:y=y':=by
  rcases Of y y' with z | z | z
  ·have:=zH (a:=y) (b:=y') (by omega);omega
  ·exact z
  ·have:=zH (a:=y') (b:=y) (by omega);omega
 subst ey
 have e:=h.eq;have e':=h'.eq;unfold fw at e e'
 have em:m=m':=by
  rcases Of m m' with z | z | z
  ·have:=zK (y:=y) h.m1 z h'.m12;have:=h.nl;have:=h'.n1;omega
  ·exact z
  ·have:=zK (y:=y) h'.m1 z h.m12;have:=h'.nl;have:=h.n1;omega
 subst em
 exact⟨rfl,rfl,by omega⟩
def lr(d:Int):Int:=
 if d < bD (2000+d*400 / 146097) then 2000+d*400 / 146097 - 1
 else if bD (2000+d*400 / 146097+1)≤d then 2000+d*400 / 146097+1
 else 2000+d*400 / 146097
theorem FW(d:Int):bD (lr d)≤d∧d < bD (lr d+1):=by
 unfold lr
 have e:2000+d*400 / 146097 - 1+1=2000+d*400 / 146097:=by omega
 by_cases h:d < bD (2000+d*400 / 146097)
 ·rw [if_pos h,e]
  refine⟨?_,h⟩
  unfold bD lb at*;omega
 ·rw [if_neg h]
  by_cases h2:bD (2000+d*400 / 146097+1)≤d
  ·rw [if_pos h2]
   refine⟨h2,?_⟩
   unfold bD lb at*;omega
  ·rw [if_neg h2];omega
def lu(y m n k:Int):Int:=fw ((y*12+m - 1+k)/ 12) ((y*12+m - 1+k)% 12+1) (min n (aX ((y*12+m - 1+k)/ 12) ((y*12+m - 1+k)% 12+1)))
theorem zL(y:Int):365*(y - 2000)+(y - 2000+3)/ 4 - (y - 2000+99)/ 100+(y - 2000+399)/ 400=bD y:=by
 unfold bD lb;omega
theorem length_eq(y m:Int)(h1:1≤m)(h2:m≤12):(if m=2∧(y % 4≠0∨(y % 100=0∧y % 400≠0)) then(28:Int) else [31,29,31,30,31,30,31,31,30,31,30,31].getD (m - 1).toNat 0)=aX y m:=by
 by_cases h:m=2
 ·subst h
  rw [tj];unfold ld
  by_cases l:fv y=true
  ·rw [if_pos l,if_neg (by have:=(oy y).mp l;omega)];rfl
  ·rw [if_neg l,if_pos (by have:=mt (oy y).mpr l;omega)];rfl
 ·rw [vo h,if_neg (fun z=> h z.1)]
  rcases tm h1 h2 with z | z | z | z | z | z | z | z | z | z | z | z <;> subst z <;> first | rfl | exact absurd rfl h
end Day
namespace Day
def fst(M:Int):Int:=fw (M / 12) (M % 12+1) 1
def Dn(M n:Int):Int:=fst M+n - 1
end Day
namespace L2
open PySem PySem.Spec PyProof.Rows PySem.W
def d2(m:Nat):List Nat:=[48+m / 10,48+m % 10]
end L2
namespace L2
open PySem PySem.Spec PyProof.Rows PySem.W
section
variable {X:Cx} {H0:Hp} {O0:Ex}
def oB(t:DA)(u:DT):DA:=fun δ Q=> t δ fun ds=> ds.length≤1000∧u δ fun y=> ∃i:Int,y= .int i∧0≤i∧i≤1000∧Q (Jx i.toNat ds).flatten
theorem FX{e f:Expr}{t:DA}{u:DT}{pos:Pos}(h:FE X H0 O0 e t)(hf:DE X H0 O0 f u):FE X H0 O0 (.BinOp e .Mult f pos) (oB t u):=
 (bh Du h hf).imp fun σ H Q ⟨O,δ,Qd,w,q,k⟩=> ⟨O,δ,_,w,q,fun ds vs p H1 q1 s1 hp r1=> ⟨O,δ,_,w.mono (s1.trans (ar.new hp)),q1.2,fun y v H2 uu37 s2 r2=> by
  obtain⟨i,e,i0,i1,q2⟩:=uu37
  subst e
  cases r2
  refine⟨p,i,vs,rfl,rfl,s2 _ _ bj,by omega,by omega,?_,fun p' hp'=> k _ _ p' _ q2 ((s1.trans (ar.new hp)).trans s2) hp' ((r1.rep i.toNat).mono ((ar.new hp).trans s2))⟩
  have h1:=r1.length
  have h2:(sizeLine:Nat)=16777216:=by decide
  have h3:=q1.1
  have h4:vs.length*i.toNat≤1000*1000:=Nat.mul_le_mul (by omega) (by omega)
  omega⟩⟩
end
end L2
namespace L2
open PySem PySem.Spec PyProof.Rows PySem.W PySem.Calls
section
variable {prog:Program} {w:World} {A:Around} {E:Value→Shared→Prop} {s:Shared}
end
section
variable {X:Cx} {pins:List (Addr×Obj)} {σ:St} {H:Hp} {s:Shared}
end
section
variable {X:Cx} {H0:Hp} {O0:Ex} {elts:List Expr} {k0:Nat} {tp:Pos} {elt:Expr} {ifs:List Expr} {scope:Scope} {N':List Str} {k:Nat} {fr:List Nat} {g:TG} {dg:DG} {ta:DA} {tc:DB} {te:DT} {pos p ps:Pos} {a b:Expr}
end
end L2
namespace L2
open PySem PySem.Spec PyProof.Rows PySem.W PySem.Calls
def eT{α:Type}(xs:List α)(n:Nat)(y:α):List α:=xs.take n++y::xs.drop n
theorem vq{α:Type}(xs:List α)(n:Nat)(y:α):(eT xs n y).Perm (y::xs):=by
 unfold eT
 refine List.perm_middle.trans ?_
 rw [List.take_append_drop]
theorem FY{α β:Type}(f:α→β)(xs:List α)(n:Nat)(y:α):(eT xs n y).map f=eT (xs.map f) n (f y):=by
 unfold eT
 rw [J6,Jj,Mh,OQ]
theorem vt{α:Type}(xs:List α)(n:Nat)(y:α):(eT xs n y).length=xs.length+1:=(vq xs n y).length_eq
def FZ:V→List V→Hp→VK→Prop:=fun x vs H Q=> ∃l xs y,∃n:Nat,x= .ref l∧vs=[.int (n:Int),y]∧H l=some (.lst xs)∧n≤xs.length∧xs.length < 1000000∧Q .non (ao H l (.lst (eT xs n y)))
theorem Ga(l:List Value)(k:Nat)(y:Value):(l.toArray.extract 0 k).push y++l.toArray.extract k=(eT l k y).toArray:=by
 apply Nb.mp
 simp
 unfold eT
 congr 2
 exact JQ (by simp)
theorem Gb{X:Cx}:xX X "list.insert" FZ:=by
 intro pins s σ H x vs v us Q I rx rv h
 obtain⟨l,xs,y,n,rfl,rfl,hH,hn,hz,q⟩:=h
 cases rx
 cases rv with
 | cons r1 r2=>
  obtain⟨u,rfl,ru⟩:=cU r2
  obtain⟨t,rfl⟩:=r1
  obtain⟨z,its,m,r,hl,e⟩:=I.lstM hH
  have ef:Lk (n:Int)=true:=by
   unfold Lk
   simp
   omega
  have sl:(1000000:Nat)≤sizeLine:=by decide
  have hsz:its.toArray.size≤sizeLine:=by rw [JA];exact JL (by omega) sl
  have hfi:¬(!Lk (n:Int))=true:=by rw [ef];decide
  generalize hni:(n:Int)=ni at hfi ef⊢
  refine call_meets Nc ⟨_,e,rfl⟩ PySem.F.entry_list_insert (PySem.F.args_list_insert_3 _ _ _) (PySem.AutoSeq1.list_insert_list_int_val_1 l its.toArray m ni t u hfi hsz) ⟨e,?_⟩
  refine⟨.non,_,I.lset (its':=eT its n u) hH e ?_ ((r.take n).append (.cons ru (r.drop n))) ?_,rfl,q⟩
  ·show(its.toArray.extract 0 (if ni < 0 then(ni+(its.toArray.size:Int)).toNat else min ni.toNat its.toArray.size)).push u++its.toArray.extract (if ni < 0 then(ni+(its.toArray.size:Int)).toNat else min ni.toNat its.toArray.size)=_
   subst hni
   rw [if_neg (by omega),JA,MX,Nat.min_eq_left (by omega)]
   have:=Ga its n u
   simp only [JA] at this
   exact this
  ·show(eT xs n y).length≤sizeLine
   rw [vt];exact JL (by omega) sl
section
variable {X:Cx} {H0:Hp} {O0:Ex}
theorem ak.takeN{K:Jd}{H:Hp}{O:Ex}:∀{vs:List V}{ds:List PyData}(n:Nat),ak K H O vs ds→ak K H O (vs.take n) (ds.take n)
 | _,_,0,_=> by rw [ME,ME];exact .nil
 | _,_,n+1,.nil=> .nil
 | _,_,n+1,.cons a r=> .cons a (ak.takeN n r)
theorem ak.dropN{K:Jd}{H:Hp}{O:Ex}:∀{vs:List V}{ds:List PyData}(n:Nat),ak K H O vs ds→ak K H O (vs.drop n) (ds.drop n)
 | _,_,0,r=> r
 | _,_,n+1,.nil=> .nil
 | _,_,n+1,.cons a r=> ak.dropN n r
def oC(i:Nat)(t1 t2:DT):DS:=fun E δ=> ∃ds,δ[i]?=some (some (.o ds))∧t1 δ fun a=> t2 δ fun d=> ∃n:Nat,a= .int (n:Int)∧n≤ds.length∧ds.length < 1000000∧E.nx (δ.set i (some (.o (eT ds n d))))
theorem Gd{i:Nat}{o e e2:Expr}{t1 t2:DT}{apos cpos pos:Pos}(ho:PE X o (eO i))(he:DE X H0 O0 e t1)(he2:DE X H0 O0 e2 t2)(hbase:attributeBase o "insert" X.env (eval o X.env)=eval o X.env:=by rfl)
  (hfew:((backTo cpos (starEach [e,e2] X.env)).all (fun x=> !x.1) && (backToKw cpos (keywordEach [] X.env)).all (fun x=> x.1.isSome) && decide ([e,e2].length+([]:List Keyword).length+(if ([]:List Keyword).isEmpty then 0 else 1) < 30))=true:=by rfl)
  (hline:(apos.endLine==cpos.line)=true:=by rfl)(hst:starEach [e,e2] X.env=(false,eval e X.env)::starEach [e2] X.env:=by rfl)(hst2:starEach [e2] X.env=(false,eval e2 X.env)::starEach [] X.env:=by rfl)(hplain:(backTo cpos (starEach [e2] X.env)).any (·.1)=false:=by rfl)
  (hs:swapsWith (.Call (.Attribute o "insert" apos) [e,e2] [] cpos) none pos.line X.env=pure false:=by rfl):PS X (.Expr (.Call (.Attribute o "insert" apos) [e,e2] [] cpos) pos) (bI X.K H0 O0 (oC i t1 t2)):=
 (wO (uD Nh Nc PySem.F.type_list_insert Gb ho (bx he (bx he2 bZ hst2) hst) hbase hfew hline hst hplain) hs).imp fun D σ H uu38=> by
  obtain⟨O,δ,E,w,⟨ds,e,q⟩,k1,k2,k3,k4⟩:=uu38
  obtain⟨l,vs,h,a,b,c,r⟩:=w.own e
  refine⟨_,h,.inl ⟨rfl,_,aP.of c⟩,O,δ,_,w,q,fun x vx H1 q1 s1 r1=> ?_⟩
  refine⟨O,δ,_,w.mono s1,q1,fun d v H2 q2 s2 r2=> ?_⟩
  obtain⟨n,rfl,hn,hz,q2⟩:=q2
  cases r1
  have rl:=r.length
  have S:=s1.trans s2
  refine⟨l,vs,v,n,rfl,rfl,S _ _ c,by omega,by omega,?_⟩
  exact k1 _ _ _ _ q2 ((w.mono S).putO (vs:=vs) e h (((r.mono S).takeN n).append (.cons r2 ((r.mono S).dropN n)))) ⟨fun b' o' z n=> by rw [aJ (fun y=> n (by rw [y];exact a))];exact S _ _ z,fun _ _ n=> n⟩
def oE(t:DT):DB:=fun δ Q=> t δ fun d=> ∃ds,d= .list ds∧Q (!ds.isEmpty)
theorem vv{e:Expr}{t:DT}(h:DE X H0 O0 e t)(he:∀whole,isTrue e X.env whole=(do let v←whole;standAt e.pos;holding [v] (truthy v)):=by intro _;rfl):PT X e (cg X.K H0 O0 (oE t)):=
 (CA h he).imp fun σ H Q ⟨O,δ,Qd,w,q,k⟩=> ⟨O,δ,_,w,q,fun d v H' uu40 s r=> by
  obtain⟨ds,e,qb⟩:=uu40
  subst e
  obtain⟨a,vs,rfl,hs,r⟩:=(Sh.dt r).lst
  refine⟨_,.inl ⟨vs,hs,rfl⟩,?_⟩
  have:(!vs.isEmpty)=!ds.isEmpty:=by cases r <;> rfl
  rw [this]
  exact k _ H' qb s⟩
theorem vw{K:Jd}{H:Hp}{O:Ex}{z:Str}:∀{kv:List (ai×V)}{ks:List Str}{ds:List PyData},kv.map (·.1)=ks.map Ke→ak K H O (kv.map (·.2)) ds→ck ks ds z=none→dq kv (.inr z)=none
 | [],_,ds,_,_,e=> rfl
 | _::_,[],ds,h,_,_=> by cases h
 | p::kv,k::ks,ds,h,hd,e=> by
  rw [Jj] at hd
  cases hd with
  | cons h1 h2=>
   simp only [Jj,J3] at h
   obtain⟨p1,p2⟩:=p
   obtain⟨rfl,h⟩:=h
   unfold ck at e
   by_cases hk:k=z
   ·rw [if_pos hk] at e;cases e
   ·rw [if_neg hk] at e
    rw [kR (fun q=> hk (nY.mp q))];exact vw h h2 e
def oF(to tk:DT):DT:=fun δ Q=> to δ fun x=> ∃ks ds,x=dO ks ds∧tk δ fun y=> ∃z,y= .str z∧Q ((ck ks ds z).getD .none)
theorem Ge{o e:Expr}{to tk:DT}{apos cpos:Pos}(hu:X.A.units+64 < cLine)(ho:DE X H0 O0 o to)(he:DE X H0 O0 e tk)(m:M1 X o "get" apos e cpos):DE X H0 O0 (.Call (.Attribute o "get" apos) [e] [] cpos) (oF to tk):=
 (yM (by omega) ho he m).imp fun σ H Q uu41=> by
  obtain⟨O,δ,Qd,w,q,k⟩:=uu41
  refine⟨O,δ,_,w,q,fun x vx H1 ⟨ks,ds,ex,q1⟩ s1 r1=> ?_⟩
  subst ex
  cases r1 with
  | @dic a ob kv ks' kp ds h e1 e2 n rr=>
   have ek:ks'=ks:=by
    have:ks'.map Jh=ks.map Jh:=e2.symm
    exact sZ this
   subst ek
   refine⟨a,rfl,.inl ⟨kv,.inr ⟨_,h⟩⟩,O,δ,_,w.mono s1,q1,fun y vy H2 ⟨z,ey,q2⟩ s2 r2=> ?_⟩
   subst ey
   cases r2
   refine⟨_,cX.z (k:= .inr z) (s2 _ _ h),k _ _ _ q2 (s1.trans s2) ?_⟩
   cases hd:ck ks' ds z with
   | none=> rw [vw e1 rr hd];exact .non
   | some d=>
    obtain⟨v,hv,dv⟩:=tf e1 rr hd
    rw [hv];exact dv.mono s2
end
end L2
namespace L2
open PySem PySem.Spec PyProof.Rows PySem.W PySem.Calls
theorem Gf:typeLookup (.type "list") "keys"=pure none:=by rw [typeLookup_type,builtinLookup_eq_fast];kernel_rfl
theorem zM:entryFor table "dict.update.loop"=some Builtin.«dict.update.loop»:=entryFor_of_tree (by kernel_rfl)
theorem tw:plainId "dict.update.loop"=true:=by decide+kernel
section
variable {P:Program} {w:World} {A:Around} {E:Value→Shared→Prop} {s:Shared}
theorem Gg{l:Addr}{o:Obj}{xs:Array Value}{k:Nat}{Q:Option Value→Shared→Prop}(hx:s.heap.get? l=some o)(hc:o.cls= .type "list")(hdat:o.data= .seq xs k)(hd:o.dict=none)(hA:A.handled=none)
  (h:∀(h':Heap) (tk:Nat),(∀b u,s.heap.get? b=some u→h'.get? b=some u)→Q none {s with heap:=h',toks:=tk}):wpAny (model P w) A (getAttr? (.ref l) "keys") Q E s:=by
 obtain⟨c,dct,dat,sl⟩:=o
 simp only at hc hdat hd
 subst hc hdat hd
 obtain⟨hp,g,d,tk,os⟩:=s
 have hT:∀tk',(⟨hp,g,d,tk',os⟩:Shared).TypeIs (.ref l) "list":=fun _=> ⟨_,hx,rfl⟩
 have f1:=sub_AttributeError
 have f3:=PySem.F.slot_list_getattribute.lookup
 have f4:=PySem.F.slot_list_getattribute.bind (.ref l)
 have f5:=am_list_getattr_none
 unfold getAttr? getAttrBy? getAttrBy
 repeat (any_goals (first | assumption | exact hT _ | ((with_reducible show wpAny _ _ (call (Value.builtin "list.__getattribute__") _ _) _ _ _);refine call_meets PySem.F.slot_list_getattribute (hT _) am_entry_list_getattribute (PySem.F.args_list_getattribute_2 _ _) (meets_getattribute_miss_list l xs k sl (Jc "keys") _ Gf (by decide+kernel)) ⟨hx,hA,fun h' tk' e hx'=> ?_⟩) | wp_step))
 obtain⟨t',u',he⟩:=hx'.there
 show wpAny _ _ (getattributeRaised _ _ _ _ _ _ _) _ _ _
 unfold getattributeRaised
 repeat (any_goals (first | assumption | wp_step))
 exact h _ _ fun b u e=> hx'.keeps b u e
end
def fV(val:Nat→ai×Value)(i:Nat):List (ai×Value):=((Kn i).map val).foldl (fun a p=> stored a p.1 p.2) []
theorem zN(val:Nat→ai×Value)(i:Nat):fV val (i+1)=stored (fV val i) (val i).1 (val i).2:=by
 unfold fV;rw [Mt,J6,List.foldl_append];rfl
theorem Gh{K:Type} [DecidableEq K](l:List (K×Value))(k:K)(v:Value):(stored l k v).length≤l.length+1:=by
 unfold stored;split <;> simp
theorem zO(val:Nat→ai×Value):∀i,(fV val i).length≤i
 | 0=> Jm _
 | i+1=> by
  have ih:=zO val i
  rw [zN]
  have:=Gh (fV val i) (val i).1 (val i).2
  omega
def oG(h:Heap)(a:Addr)(x y:Value):Prop:=∃o m,h.get? a=some o∧o.cls= .type "tuple"∧o.data= .seq #[x,y] m
section
variable {P:Program} {w:World} {A:Around} {R:Result→Shared→Prop} {I:Addr} {fp wr:List Addr} {G:Array GenState→Array GenState→Prop} {n:Nat} {Pv:Nat→Value→Prop} {St:Nat→Shared→Prop}
theorem Gi(W:WalksS P w A.in1 I fp wr G n Pv St)(D:Addr)(hDf:D ∉ fp)(tp:Nat→Addr)(kv:Nat→Value)(val:Nat→ai×Value)(hval:∀i v,Pv i v→v= .ref (tp i))(hk:∀i,i < n→(cm P w).is (val i).1 (kv i)=true)(hw:∀i,i < n→tp i ∉ D::wr)(hb:n≤sizeLine):
  ∀(k i:Nat)(s:Shared),n - i=k→i≤n→St i s→s.heap.DictOf (cm P w) D (fV val i)→(∀j,j < n→oG s.heap (tp j) (kv j) (val j).2)→
   (∀s',Moved (D::wr) G s s'→s'.heap.DictOf (cm P w) D (fV val n)→R (.ok (.ret .none)) s')→∀t,codeAny (model P w) A (.builtin "dict.update.loop" ⟨[.ref D,.ref I,.int (i:Int) t,.none],[]⟩) R s:=by
 have sw:D ∉ wr:=fun z=> hDf (W.sub _ z)
 have sub:∀b∈wr,b∈D::wr:=fun b z=> JS _ z
 intro k
 induction k with
 | zero=>
  intro i s e1 e2 st hS hT q t
  obtain rfl:i=n:=by omega
  refine codeAny_builtin zM ?_
  rw [NQ tw _]
  show wpAny _ A.in1 (pyNext (.ref I) >>=_) _ _ s
  exact wpAny_bind (W.done s _ _ st fun s' m=> wpAny_bind (wpAny_pure (wpAny_pure (q s' (m.mono sub) (let ⟨o,es,ep,ho,r⟩:=hS;⟨o,es,ep,m.heap D o sw ho,r⟩)))))
 | succ k ih=>
  intro i s e1 e2 st hS hT q t
  have lt:i < n:=by omega
  refine codeAny_builtin zM ?_
  rw [NQ tw _]
  show wpAny _ A.in1 (pyNext (.ref I) >>=_) _ _ s
  refine wpAny_bind (W.item i s _ _ lt st fun v s' hP st' m=> ?_)
  obtain rfl:=hval i v hP
  have hS':s'.heap.DictOf (cm P w) D (fV val i):=let ⟨o,es,ep,ho,r⟩:=hS;⟨o,es,ep,m.heap D o sw ho,r⟩
  have hT':∀j,j < n→oG s'.heap (tp j) (kv j) (val j).2:=fun j hj=> let ⟨o,m2,ho,r⟩:=hT j hj;⟨o,m2,m.heap _ o (fun z=> hw j hj (sub _ z)) ho,r⟩
  obtain⟨o,m2,ho,hc,hd⟩:=hT' i lt
  show wpAny _ A.in1 (holding [JP (tp i)] _ >>=_) _ _ s'
  refine wpAny_bind (wpAny_holding ?_)
  obtain⟨oc,od,oda,osl⟩:=o
  simp only at hc hd
  subst hc hd
  have hTy:s'.TypeIs (.ref (tp i)) "tuple":=⟨_,ho,rfl⟩
  refine wpAny_bind (wpAny_tryCatch ?_)
  unfold Builtin.Dict.pairItems
  refine wpAny_bind (wpAny_typeOf hTy ?_)
  rw [if_pos (by decide)]
  refine wpAny_bind (wpAny_seqItems ho rfl (wpAny_pure ?_))
  show wpAny _ A.in1 (holding [kv i,(val i).2] (dictSet D (kv i) (val i).2)) _ _ s'
  refine wpAny_holding (wpAny_dictSet_pairs (hk i lt) hS' (fun h' S2 sb=> ?_) (by have:=zO val i;omega))
  rw [←zN] at S2
  refine wpAny_pure ⟨plainId_quiet tw _,ih (i+1) _ (by omega) lt (W.frame _ s' _ _ st' (MG _) fun b hb o e=> ?_) S2 (fun j hj=> ?_) (fun s2 m2 S3=> ?_) _⟩
  ·rw [sb.2 b (fun z:b=D=> hDf (by rw [←z];exact hb))];exact e
  ·obtain⟨o,m3,ho3,r⟩:=hT' j hj
   exact⟨o,m3,by rw [sb.2 _ (fun z=> hw j hj (by rw [z];exact JY))];exact ho3,r⟩
  ·refine q s2 (Moved.trans W.gtrans ((m.mono sub).then_heap (MG _) fun b o hb e=> ?_) m2) S3
   rw [sb.2 b (fun z:b=D=> hb (by rw [z];exact JY))];exact e
end
section
variable {P:Program} {w:World} {A:Around} {E:Value→Shared→Prop} {s:Shared}
theorem Gj{l:Addr}{items:Array Value}{n:Nat}(tp:Nat→Addr)(kv:Nat→Value)(val:Nat→ai×Value){Q:Value→Shared→Prop}
  (hh:A.handled=none)(hl:∃o k,s.heap.get? l=some o∧o.cls= .type "list"∧o.dict=none∧o.data= .seq items k)(hn:items.size=n)(hi:∀(i:Nat) (v:Value),items[i]?=some v→v= .ref (tp i))(hk:∀i,i < n→(cm P w).is (val i).1 (kv i)=true)(hT:∀i,i < n→oG s.heap (tp i) (kv i) (val i).2)(hb:n≤sizeLine)
  (h:∀(h':Heap) (tk:Nat),h'.DictOf (cm P w) s.heap.objs.size (fV val n)→(∀b o,s.heap.get? b=some o→h'.get? b=some o)→Q (.ref s.heap.objs.size) {s with heap:=h',toks:=tk}):
  wpAny (model P w) A (call (.type "dict") [.ref l]) Q E s:=by
 refine callType_codes (Q₁:=fun obj s₁=> obj= .ref s.heap.objs.size∧s₁={s with heap:=s.heap.push {cls:= .type "dict",data:= .dict #[]}}) PySem.F.kt_called_dict (PySem.F.kt_typeCall_dict_1 _) PySem.F.entry_dict_init (kt_code_dict_new _ ⟨rfl,rfl⟩) ?_
 rintro obj s₁ ⟨rfl,rfl⟩
 have hnew:(s.heap.push {cls:= .type "dict",data:= .dict #[]}).DictOf (cm P w) s.heap.objs.size []:=OD s.heap
 refine⟨hnew.typeIs,PySem.F.args_dict_init_2 _ _,?_⟩
 unfold Builtin.«dict.__init__»
 refine wpAny_bind ?_
 unfold Builtin.Dict.selfAndRest
 refine wpAny_bind (wpAny_notOrdered_dict hnew.typeIs ?_)
 show wpAny _ _ (pure (s.heap.objs.size,[JP l])) _ _ _
 refine wpAny_pure ?_
 show wpAny _ _ (Nk "dict.__init__" s.heap.objs.size (.ref l) [] .none) _ _ _
 unfold Nk
 obtain⟨o,k,ho,hc,hd,hdat⟩:=hl
 have ho2:(s.heap.push {cls:= .type "dict",data:= .dict #[]}).get? l=some o:=Jl _ ho
 refine wpAny_bind (wpAny_typeOf (T:="list") ⟨_,ho2,hc⟩ ?_)
 rw [if_pos (by decide)]
 refine wpAny_bind (Gg (s:={s with heap:=s.heap.push {cls:= .type "dict",data:= .dict #[]}}) ho2 hc hdat hd ?_ fun h' tk hk'=> ?_)
 ·simp [hh]
 ·show wpAny _ A.in1.in1 (rule _ >>=_) _ _ _
  refine wpAny_bind (wpAny_rule ?_)
  have o3:h'.get? l=some o:=hk' l o ho2
  have l1:h'.IsList l items:=⟨_,o3,hc,k,hdat⟩
  have ll:l < s.heap.objs.size:=Jz ho
  have nD:s.heap.objs.size < h'.objs.size:=by
   obtain⟨od,_,_,hod,_⟩:=hnew
   exact Jz (hk' _ _ hod)
  refine wpAny_bind (wpAny_pyIter_list l1 ?_)
  refine wpAny_pure ⟨plainId_quiet tw _,?_⟩
  have tl:∀i,i < n→tp i < s.heap.objs.size:=fun i hi=> by obtain⟨_,_,e,_⟩:=hT i hi;exact Jz e
  have hn2:items.size≤sizeLine:=by omega
  subst hn
  refine Gi (A:=A.in1) (OC (show A.in1.in1.handled=none by simp [hh]) _ l (JJ (Na ll nD)) items).toS s.heap.objs.size (by simp only [Jy,Ks,or_false,not_or];exact⟨JJ nD,M7 ll⟩) tp kv val hi hk ?hw hn2 (items.size - 0) 0 _ (by omega) (Kp _)
   ⟨⟨_,JR _ rfl,rfl,rfl⟩,l1.push _⟩ ?hS0 ?hT0 ?hR _
  case hw=>
   intro i hi z
   have t1:=tl i hi
   simp only [Jy,Ks,or_false] at z
   rcases z with z | z
   ·exact JJ t1 z
   ·exact JJ (Na t1 nD) z
  case hT0=>
   intro j hj
   obtain⟨u,m,e,r⟩:=hT j hj
   exact⟨u,m,Jl _ (hk' _ _ (Jl _ e)),r⟩
  case hS0=>
   obtain⟨od,es,ep,hod,r⟩:=hnew
   exact⟨od,es,ep,Jl _ (hk' _ _ hod),r⟩
  case hR=>
   intro s' m S'
   obtain⟨h2,g',d',tk',os'⟩:=s'
   obtain rfl:g'=s.gens:=m.gens
   obtain rfl:d'=s.drawn:=m.drawn
   obtain rfl:os'=s.os:=m.os
   refine⟨rfl,h h2 tk' S' fun b u e=> ?_⟩
   have hb1:b < s.heap.objs.size:=Jz e
   refine m.heap b u ?_ (Jl _ (hk' _ _ (Jl _ e)))
   simp only [Jy,Ks,or_false,not_or];exact⟨JJ hb1,JJ (Na hb1 nD)⟩
end
def vz(K:Jd)(H:Hp)(vs:List V)(kvs:List (ai×V)):Prop:=Paired (fun v (p:ai×V)=> ∃b,v= .ref b∧bB K H b [kV p.1,p.2]) vs kvs
theorem zP{X:Cx}{pins:List (Addr×Obj)}{σ:St}{H:Hp}{s:Shared}(I:af X pins σ H s):∀{vs:List V}{kvs:List (ai×V)}{its:List Value},vz X.K H vs kvs→aH vs its→
  ∃zs:List (Addr×Value×ai×Value),zs.length=its.length∧KV kvs (zs.map (·.2.2))∧its=zs.map (fun z=> JP z.1)∧∀z∈zs,(cm X.prog X.w).is z.2.2.1 z.2.1=true∧oG s.heap z.1 z.2.1 z.2.2.2
 | _,_,_,.nil,.nil=> ⟨[],rfl,.nil,rfl,by simp⟩
 | _,_,_,.cons (b:=p) h t,.cons r rs=> by
  obtain⟨zs,e1,e2,e3,e4⟩:=zP I t rs
  obtain⟨b,rfl,hb⟩:=h
  cases r
  obtain⟨its2,r2,⟨o,ho,hc,n,hd⟩,_⟩:=I.tuple hb
  cases r2 with
  | @cons _ u _ _ ru r3=>
   obtain⟨x,rfl,rx⟩:=cU r3
   refine⟨(b,u,p.1,x)::zs,by simp [e1],.cons ⟨rfl,rx⟩ e2,by rw [e3];rfl,fun z hz=> ?_⟩
   rcases Jy.mp hz with e | e
   ·subst e;exact⟨jk ru,o,n,ho,hc,hd⟩
   ·exact e4 z e
theorem Gk{X:Cx}:cP X (.type "dict") (fun xs H Q=> X.calm=true∧∃a vs kvs,xs=[.ref a]∧aP X.K H a vs∧vz X.K H vs kvs∧∀l,H l=none→Q (.ref l) (ao H l (.dK (fS [] kvs)))):=by
 intro pins s σ H xs us Q I r h
 obtain⟨hc,a,vs,kvs,rfl,ha,hp,q⟩:=h
 obtain⟨u,rfl,rx⟩:=cU r
 cases rx
 obtain⟨its,rv,⟨o,n,ho,hcl,hdi,hda⟩,hz⟩:=I.list ha
 obtain⟨zs,z1,z2,z3,z4⟩:=zP I hp rv
 have ln:vs.length=its.length:=rv.length
 have hk:kvs.length=zs.length:=by rw [z2.length,Jf]
 let D:Addr×Value×ai×Value:=(0,.none,.inl 0,.none)
 have at_:∀i,i < its.length→∃z∈zs,(zs[i]?).getD D=z:=fun i hi=> by
  rw [←z1] at hi
  exact⟨zs[i],KH hi,by rw [JE hi];rfl⟩
 refine Gj (s:=s) (n:=its.length) (fun i=> ((zs[i]?).getD D).1) (fun i=> ((zs[i]?).getD D).2.1) (fun i=> ((zs[i]?).getD D).2.2) (I.ok.hd hc) ⟨o,n,ho,hcl,hdi,hda⟩ (by simp) (fun i v e=> ?_) (fun i hi=> ?_) (fun i hi=> ?_) (by omega) fun h' tk dd kp=> ?_
 ·rw [List.getElem?_toArray,z3,JB] at e
  cases hz':zs[i]? with
  | none=> rw [hz'] at e;cases e
  | some z=> rw [hz'] at e;cases e;rfl
 ·obtain⟨z,hz1,e⟩:=at_ i hi
  show(cm X.prog X.w).is ((zs[i]?).getD D).2.2.1 ((zs[i]?).getD D).2.1=true
  rw [e];exact(z4 z hz1).1
 ·obtain⟨z,hz1,e⟩:=at_ i hi
  show oG s.heap ((zs[i]?).getD D).1 ((zs[i]?).getD D).2.1 ((zs[i]?).getD D).2.2.2
  rw [e];exact(z4 z hz1).2
 ·have em:fV (fun i=> ((zs[i]?).getD D).2.2) its.length=merged [] (zs.map (·.2.2)):=by
   unfold fV merged
   congr 1
   rw [←z1]
   apply LV (by simp)
   intro i a b
   simp at a b⊢
   rw [JE (by omega)];rfl
  rw [em] at dd
  have zl:(fS [] kvs).length≤sizeLine:=by
   have h1:=uQ kvs []
   rw [Kw] at h1
   omega
  exact⟨.ref _,_,I.laid (t':=tk) (o:= .dK (fS [] kvs)) kp (Jm _) (p8 zl (beq_eq_false_iff_ne.mpr (Ne.symm (JJ I.big))) (z2.merge .nil) dd),rfl,q _ (I.hok.fresh (Jm _))⟩
section
variable {X:Cx} {H0:Hp} {O0:Ex}
def oH(t:DA):jR:=fun δ Q=> t δ fun ds=> ∃kd:List (ai×PyData),ds=[.list (kd.map fun p=> .tuple [fT p.1,p.2])]∧Q (kd.foldl (fun a p=> dM a p.1 p.2) [])
theorem zQ{K:Jd}{H:Hp}{O:Ex}:∀{us:List V}{kd:List (ai×PyData)},ak K H O us (kd.map fun p=> .tuple [fT p.1,p.2])→∃kv,vz K H us kv∧bC K H O kv kd
 | [],[],_=> ⟨[],.nil,.nil⟩
 | _::_,(k,d)::kd,.cons h r=> by
  obtain⟨kv,h1,h2⟩:=zQ r
  obtain⟨b,vs,rfl,hs,d2⟩:=(Sh.dt h).tup
  cases d2 with
  | cons x1 x2=>
   cases x2 with
   | cons x2 x3=>
    cases x3
    cases x1.key
    exact⟨(k,_)::kv,.cons ⟨b,rfl,hs⟩ h1,.cons x2 h2⟩
theorem Gm{a:Expr}{t:DA}{np p:Pos}(hc:X.calm=true)(hg:Gl X "dict")(hm:X.mg "dict"=none)(ha:PA X [a] (gz X.K H0 O0 t))(he:starEach [a] X.env=(false,eval a X.env)::starEach [] X.env:=by rfl)(hpl:(backTo p (starEach [] X.env)).any (·.1)=false:=by rfl):KE X H0 O0 (.Call (.Name "dict" np) [a] [] p) (oH t):=
 (eD Gk hg hm yh ha (he:=he) (hpl:=hpl)).imp fun σ H Q uu44=> by obtain⟨O,δ,Qd,w,q,k⟩:=uu44;exact⟨O,δ,_,w,q,fun ds vs H1 uu45 s1 r1=> by
  obtain⟨kd,e,q1⟩:=uu45
  subst e
  cases r1 with
  | cons h r=>
   cases r
   obtain⟨a,us,rfl,h1,d1⟩:=h.lst
   obtain⟨kv,p1,p2⟩:=zQ d1
   exact⟨hc,a,us,kv,rfl,h1,p1,fun l hl=> k _ _ _ _ q1 s1 hl (p2.merge .nil)⟩⟩
end
end L2
namespace L2
open PySem PySem.Spec PyProof.Rows PySem.W PySem.Calls
theorem Dt.dicE{K:Jd}{H:Hp}{O:Ex}{v:V}{ks:List Str}{ds:List PyData}(h:Dt K H O v (dO ks ds)):∃a ob kv,v= .ref a∧H a=some (.frz ob (.dK kv))∧kv.map (·.1)=ks.map Ke∧¬O a∧ak K H O (kv.map (·.2)) ds:=by
 cases h with
 | @dic a ob kv ks' kp ds h e1 e2 n rr=>
  have ek:ks'=ks:=sZ e2.symm
  subst ek
  exact⟨a,ob,kv,rfl,h,e1,n,rr⟩
theorem Gp{K:Jd}{H:Hp}{O:Ex}{z:Str}{kv:List (ai×V)}{ks:List Str}{ds:List PyData}(e1:kv.map (·.1)=ks.map Ke)(r:ak K H O (kv.map (·.2)) ds):(dq kv (.inr z)).isSome=(ck ks ds z).isSome:=by
 cases hd:ck ks ds z with
 | none=> rw [vw e1 r hd];rfl
 | some d=>
  obtain⟨v,hv,_⟩:=tf e1 r hd
  rw [hv];rfl
section
variable {X:Cx} {H0:Hp} {O0:Ex}
def oI(t:DT):DA:=fun δ Q=> t δ fun d=> ∃ks ds,d=dO ks ds∧ks.length < 64∧Q ((cZ ks).map .str)
theorem Gq{o:Expr}{t:DT}{np p:Pos}(hc:X.calm=true)(hg:Gl X "sorted")(hm:X.mg "sorted"=none)(hv:bootBuiltins "sorted"=some (.builtin "sorted"))(ho:DE X H0 O0 o t)(he:starEach [o] X.env=(false,eval o X.env)::starEach [] X.env:=by rfl)(hpl:(backTo p (starEach [] X.env)).any (·.1)=false:=by rfl):
  FE X H0 O0 (.Call (.Name "sorted" np) [o] [] p) (oI t):=
 (bX zd hg hm hv (bx ho bZ he) (he:=he) (hpl:=hpl)).imp fun σ H Q uu46=> by obtain⟨O,δ,Qd,w,q,k⟩:=uu46;exact⟨O,δ,_,w,q,fun d v H1 uu47 s1 r1=> by
  obtain⟨ks,ds,e,h64,q1⟩:=uu47
  subst e
  obtain⟨a,ob,kv,rfl,h,e1,n,rr⟩:=r1.dicE
  exact⟨hc,a,kv,ks,rfl,.inr ⟨_,h⟩,e1,h64,fun p hp=> k _ _ _ _ q1 s1 hp (ak.ofStrs _)⟩⟩
def lz(neg:Bool)(tk to:DT):DT:=fun δ Q=> tk δ fun y=> to δ fun x=> ∃z ks ds,y= .str z∧x=dO ks ds∧Q (.bool (if neg then !(ck ks ds z).isSome else(ck ks ds z).isSome))
theorem Gr{o e:Expr}{tk to:DT}(hu:X.A.units+64 < cLine)(ho:DE X H0 O0 o to)(he:DE X H0 O0 e tk):PC X .In e o (up X.K H0 O0 (lz false tk to)):=fun pins s σ H Q I ⟨O,δ,Qd,w,q,k⟩=>
 yI (by omega) he ho pins s σ H Q I ⟨O,δ,_,w,q,fun y uy H2 q2 s2 r2=> ⟨O,δ,_,w.mono s2,q2,fun x ux H3 uu49 s3 r3=> by
  obtain⟨z,ks,ds,ey,ex,q3⟩:=uu49
  subst ey ex
  cases r2
  obtain⟨a,ob,kv,rfl,h,e1,n,rr⟩:=r3.dicE
  exact⟨a,_,rfl,cX.z (k:= .inr z) h,by rw [Gp e1 rr];exact k _ _ _ q3 (s2.trans s3) (.bl _)⟩⟩⟩
theorem zR{o e:Expr}{tk to:DT}{pos:Pos}(hu:X.A.units+64 < cLine)(ho:DE X H0 O0 o to)(he:DE X H0 O0 e tk)(hm:behindInMarks .In o=false:=by rfl):PT X (.Compare e [.In] [o] pos) (cg X.K H0 O0 (eJ (lz false tk to))):=
 (t8 (Gr hu ho he) hm).imp fun σ H Q uu50=> by obtain⟨O,δ,Qd,w,q,k⟩:=uu50;exact⟨O,δ,_,w,q,fun d v H' uu51 s r=> by obtain⟨b,e,qb⟩:=uu51;subst e;cases r;exact⟨b,rfl,k b H' qb s⟩⟩
def Gs(tl:TE):TI:=fun σ H R=> tl σ H fun x H1=> ∃a o kv,x= .ref a∧H1 a=some (.frz o (.dK kv))∧R (va o a kv) H1
theorem Gu{X:Cx}{tg l:Expr}{tl:TE}(hl:PE X l tl):PI X tg l (Gs tl):=by
 intro pins s σ H R I h
 refine aD (hl pins s σ H _ I h) fun v s1 ⟨x,H1,I1,r1,q1⟩=> ?_
 obtain⟨a,o,kv,e,ha,q⟩:=q1
 subst e
 cases r1
 obtain⟨g,z,hd,vs,rel,o',es,ep,g',r1,r2,r3⟩:=I1.hok a _ ha
 rw [g] at g';cases g'
 have hlen:=rel.len
 have hd':(a==sysModules)=false:=hd
 refine wpAny_pyIter_dict hd' (knd:=cm X.prog X.w) (kvs:=vs) (ep:=ep) ⟨o,es,g,r1,r2,r3⟩ ?_
 rw [hlen]
 refine⟨s1.heap.objs.size,[s1.heap.objs.size],_,_,_,rfl,I1.kept (t':=s1.toks) fun b o e=> Jl _ e,Ft _ a o es ep kv r2,⟨_,JR _ rfl,rfl,rfl⟩,fun b hb=> ?_,q⟩
 have e:b=s1.heap.objs.size:=by simpa using hb
 subst e
 exact I1.fpOk (Jm _) (I1.hok.fresh (Jm _))
theorem zS{K:Jd}{H:Hp}{O:Ex}:∀{kv:List (ai×V)}{ks:List Str},kv.map (·.1)=ks.map Ke→ak K H O (kv.map fun p=> kV p.1) (ks.map .str)
 | [],[],_=> .nil
 | p::kv,k::ks,h=> by
  simp only [Jj,J3] at h
  obtain⟨p1,p2⟩:=p
  obtain⟨rfl,h⟩:=h
  exact .cons (.str _) (zS h)
def oJ(t:DT)(dg:DG)(tb:DS):DS:=fun E δ=> t δ fun d=> ∃ks ds,d=dO ks ds∧kF dg tb E (ks.map .str) δ
theorem Gv{tg iter:Expr}{t:DT}{g:TG}{dg:DG}{tb:DS}{body:List Stmt}{pos:Pos}(hp:PassesOwn (model X.prog X.w) X.A X.env X.xe)(hc:X.calm=true)(hi:DE X H0 O0 iter t)(hg:PG X tg g)(gd:GD X.K g dg)(hb:bM X body (bI X.K H0 O0 tb))(hs:∀x,foldedSetIterable iter X.env x=pure x:=by intro _;rfl):
  PS X (.For tg iter body [] pos) (bI X.K H0 O0 (oJ t dg tb)):=
 (mf hp hc (Gu hi) hg hb hs).imp fun D σ H uu53=> by obtain⟨O,δ,E,w,q,k1,k2,k3,k4⟩:=uu53;exact⟨O,δ,_,w,q,fun d v H1 uu54 s1 r1=> by
  obtain⟨ks,ds,e,q1⟩:=uu54
  subst e
  obtain⟨a,ob,kv,rfl,h,e1,n,rr⟩:=r1.dicE
  exact⟨a,ob,kv,rfl,h,kG cF.dk gd (fun H' O' S=> S.keep _ _ h n) (zS e1) (w.mono s1) q1 (fun O' δ' σ' H' z w' S=> k1 O' δ' σ' H' z w' (aR.trans (.same s1) S)) k2⟩⟩
theorem Gw{X:Cx}:cP X (.type "dict") (fun xs H Q=> ∃a kv,xs=[.ref a]∧Rd H a (.dK kv)∧∀l o,H l=none→Q (.ref l) (ao H l (.frz o (.dK kv)))):=by
 intro pins s σ H xs us Q I r h
 obtain⟨a,kv,rfl,ha,q⟩:=h
 obtain⟨u,rfl,rx⟩:=cU r
 cases rx
 refine EL I ha fun p s' hp I'=> ?_
 obtain⟨o,I2⟩:=I'.fast bj
 rw [B5] at I2
 exact⟨.ref p,_,I2,rfl,q p o hp⟩
def oK:List PyData→(PyData→Prop)→Prop:=fun ds Q=> ∃ks xs,ds=[dO ks xs]∧Q (dO ks xs)
theorem Sh.dicE{K:Jd}{H:Hp}{O:Ex}{v:V}{ks:List Str}{ds:List PyData}(h:Sh K H O v (dO ks ds)):Dt K H O v (dO ks ds):=by
 cases h with
 | dt h=> exact h
theorem Gx{K:Jd}:fo K (fun xs H Q=> ∃a kv,xs=[.ref a]∧Rd H a (.dK kv)∧∀l o,H l=none→Q (.ref l) (ao H l (.frz o (.dK kv)))) oK:=fun H O xs ds Qd R tr hs uu55 k=> by
 obtain⟨ks,ys,e,q⟩:=uu55
 subst e
 cases hs with
 | cons h r=>
  cases r
  obtain⟨a,ob,kv,rfl,h,e1,n,rr⟩:=h.dicE.dicE
  refine⟨a,kv,rfl,.inr ⟨_,h⟩,fun l o hl=> k _ _ _ q (ar.new hl) (.dic bj e1 rfl (fun z=> tr l z hl) (rr.mono (ar.new hl)))⟩
def zT:R2:=fun x y H Q=> ∃a b kv kv',∃ns:List Int,x= .ref a∧y= .ref b∧Rd H a (.dK kv)∧Rd H b (.dK kv')∧kv.map (·.1)=kv'.map (·.1)∧kv.map (·.2)=ns.map V.int∧kv'.map (·.2)=ns.map V.int∧Q (.bl false) H
theorem zU{A:Around}{s:Shared}{kb:List (ai×Value)}:∀{ka:List (ai×Value)},(∀p∈ka,∃i t u,p.2= .int i t∧valueAt kb p.1=some (.int i u))→KeqHits A s kb ka true
 | [],_=> .nil
 | (k,v)::r,h=> by
  obtain⟨i,t,u,e,hv⟩:=h (k,v) JY
  have e:v= .int i t:=e
  subst e
  have x:Oy A s (.int i t) (.int i u) true:=by
   have:=keq_flat (A:=A) (s:=s) (v:= .int i t) (y:= .int i u) (d:= .int i) (e:= .int i) (fun h=> .int i t) (fun h=> .int i u)
   simpa [JD] using this
  exact .hit (e:=true) (b:=true) hv x (zU fun p hp=> h p (JS _ hp))
theorem vA:∀{kv:List (ai×V)}{ns:List Int}{vs:List (ai×Value)},KV kv vs→kv.map (·.2)=ns.map V.int→vs.map (·.1)=kv.map (·.1)∧∃ts:List Nat,vs.map (·.2)=(ns.zip ts).map (fun p=> Lw p.1 p.2)∧ts.length=ns.length
 | [],[],[],_,_=> ⟨rfl,[],rfl,rfl⟩
 | p::kv,n::ns,q::vs,.cons h t,e=> by
  simp only [Jj,J3] at e
  obtain⟨a,ts,b,c⟩:=vA t e.2
  obtain⟨e1,r⟩:=h
  rw [e.1] at r
  obtain⟨t1,e2⟩:=r
  exact⟨by rw [Jj,Jj,a,e1],t1::ts,by simp [b,e2],by simp [c]⟩
theorem Gy{X:Cx}(hu:X.A.units+64 < cLine):bW X (compareOp .NotEq) zT:=by
 intro pins s σ H x y v u Q I rx ry h
 obtain⟨a,b,kv,kv',ns,rfl,rfl,ha,hb,ek,e1,e2,q⟩:=h
 cases rx
 cases ry
 obtain⟨_,da,vs,rel,dd⟩:=fR I.hok ha
 obtain⟨_,db,vs',rel',dd'⟩:=fR I.hok hb
 obtain⟨k1,ts,t1,t2⟩:=vA rel e1
 obtain⟨k2,us,u1,u2⟩:=vA rel' e2
 have ln:vs.length=vs'.length:=by
  have:=congrArg MH (k1.trans (ek.trans k2.symm))
  simpa using this
 refine keq_ne (r:=true) da db dd dd' (by omega) (fun _=> zU fun p hp=> ?_) ?_
 ·obtain⟨i,hi⟩:=Lu hp
  have li:i < vs.length:=(Jr.mp hi).1
  have hi':vs'[i]?=some vs'[i]:=JE (by omega)
  have nl:ns.length=vs.length:=by
   have:=congrArg MH t1
   simp [t2] at this;omega
  have pk:p.1=vs'[i].1:=by
   have z:(vs.map (·.1))[i]?=(vs'.map (·.1))[i]?:=by rw [k1,ek,k2]
   rw [JB,JB,hi,hi'] at z
   simpa using z
  have pv:∃t,p.2= .int (ns[i]'(by omega)) t:=by
   have z:=congrArg (fun l=> l[i]?) t1
   simp only [JB,hi,KU] at z
   rw [JE (by rw [OE,t2];omega)] at z
   simp only [KU,KL,Ov] at z
   exact⟨_,z⟩
  have pu:∃t,vs'[i].2= .int (ns[i]'(by omega)) t:=by
   have z:=congrArg (fun l=> l[i]?) u1
   simp only [JB,hi',KU] at z
   rw [JE (by rw [OE,u2];omega)] at z
   simp only [KU,KL,Ov] at z
   exact⟨_,z⟩
  obtain⟨t,pv⟩:=pv
  obtain⟨u,pu⟩:=pu
  refine⟨_,t,u,pv,?_⟩
  obtain⟨_,_,_,_,_,_,_,_,nd⟩:=dd'
  have hm:vs'[i]∈vs':=KH (by omega)
  have:valueAt vs' vs'[i].1=some vs'[i].2:=by
   unfold valueAt
   have:vs'.find? (fun kv=> kv.1=vs'[i].1)=some vs'[i]:=by
    cases hf:vs'.find? (fun kv=> kv.1=vs'[i].1) with
    | none=> exact absurd (MI.mp hf _ hm) (by simp)
    | some w=>
     have w1:=Lr hf
     have w2:=Nq hf
     simp only [decide_eq_true_eq] at w2
     have inj:∀{l:List (ai×Value)},(l.map (·.1)).Nodup→∀{a b},a∈l→b∈l→a.1=b.1→a=b:=by
      intro l
      induction l with
      | nil=> intro _ a b ha;cases ha
      | cons x l ih=>
       intro nd a b ha hb e
       rw [Jj,KA] at nd
       rcases Jy.mp ha with ea | ha1 <;> rcases Jy.mp hb with eb | hb1
       ·rw [ea,eb]
       ·subst ea;exact absurd (Jw.mpr ⟨b,hb1,e.symm⟩) nd.1
       ·subst eb;exact absurd (Jw.mpr ⟨a,ha1,e⟩) nd.1
       ·exact ih nd.2 ha1 hb1 e
     rw [inj nd w1 hm w2]
   rw [this];rfl
  rw [pk,this,pu]
 ·have e:(!(vs.length==vs'.length && true))=false:=by rw [ln];simp
  rw [e];exact bG I q rfl
def oM:PyData→PyData→(PyData→Prop)→Prop:=fun x y Q=> ∃(ks:List Str)(ns:List Int),x=dO ks (ns.map .int)∧y=dO ks (ns.map .int)∧Q (.bool false)
theorem vB{K:Jd}{H:Hp}{O:Ex}:∀{vs:List V}{ns:List Int},ak K H O vs (ns.map .int)→vs=ns.map V.int
 | [],[],_=> rfl
 | _::_,n::ns,.cons h r=> by
  cases h
  rw [vB r];rfl
theorem Gz{K:Jd}:cL K zT oM:=fun H O x y dx dy Qd R _ hx hy uu56 k=> by
 obtain⟨ks,ns,e1,e2,q⟩:=uu56
 subst e1 e2
 obtain⟨a,_,kv,rfl,h,e1,_,rr⟩:=hx.dicE.dicE
 obtain⟨b,_,kv',rfl,h',e1',_,rr'⟩:=hy.dicE.dicE
 exact⟨a,b,kv,kv',ns,rfl,rfl,.inr ⟨_,h⟩,.inr ⟨_,h'⟩,e1.trans e1'.symm,vB rr,vB rr',k _ _ H q (ar.refl _) (.bl _)⟩
end
end L2
namespace L2
open PySem PySem.Spec PyProof.Rows PySem.W PySem.Calls
section
variable {X:Cx} {H0:Hp} {O0:Ex}
theorem Wd.newO{K:Jd}{H:Hp}{O:Ex}{σ:St}{δ:Dl}(w:Wd K H0 O0 H O σ δ){i:Nat}{p:Addr}(hp:H p=none):∃O',Wd K H0 O0 (ao H p (.lst [])) O' (σ.set i (some (.ref p))) (δ.set i (some (.o [])))∧aR H (ao H p (.lst [])) O O':=
 ⟨_,w.setO hp .nil,⟨fun b o e _=> (ar.new hp) b o e,fun b e n z=> z.elim n fun y=> by
   rw [y] at e;exact e hp⟩⟩
def vC(i j:Nat):DS:=fun E δ=> E.nx ((δ.set i (some (.o []))).set j (some (.o [])))
theorem GB{i j:Nat}{x y:Str}{px py pt pos p1 p2:Pos}{kt k2 pt2}(hc:X.calm=true)(hN:X.N.Nodup)(hi:X.N[i]?=some x)(hj:X.N[j]?=some y)(hij:i≠j)
  (hx:X.env.scope.names.lookup x=some .local)(hy:X.env.scope.names.lookup y=some .local)
  (hw:swappedStores [.Tuple [.Name x px,.Name y py] kt pt] (.Tuple [.List [] p1,.List [] p2] k2 pt2) X.env=pure (some [x,y]))
  (hs:swapsWithSole [.Tuple [.Name x px,.Name y py] kt pt] (.Tuple [.List [] p1,.List [] p2] k2 pt2) pos.line X.env=pure false:=by rfl):
  PS X (.Assign [.Tuple [.Name x px,.Name y py] kt pt] (.Tuple [.List [] p1,.List [] p2] k2 pt2) pos) (bI X.K H0 O0 (vC i j)):=
 (wY hc hN hi hj hij hx hy (bx (pF bZ) (bx (pF bZ) bZ)) hw hs).imp fun D σ H uu57=> by
  obtain⟨O,δ,E,w,q,k1,k2,k3,k4⟩:=uu57
  refine⟨by simp,fun p hp=> ⟨by simp,fun r hr=> ⟨_,_,rfl,?_⟩⟩⟩
  obtain⟨O1,w1,S1⟩:=w.newO (i:=i) hp
  obtain⟨O2,w2,S2⟩:=w1.newO (i:=j) hr
  exact k1 _ _ _ _ q w2 (S1.trans S2)
end
end L2
namespace K16
open PySem L2
def bA(i:Nat):Stmt:=PySem.Challenge.pw_goneday_k16_by_makers.main.body.getD i (.Pass ⟨0,0,0,0⟩)
abbrev iq:Stmt:=bA 8
abbrev iu:Stmt:=bA 9
abbrev iw:Stmt:=bA 10
abbrev ix:Stmt:=bA 11
abbrev iy:Stmt:=bA 12
abbrev iz:Stmt:=bA 13
abbrev gJ:Stmt:=bA 14
abbrev iA:Stmt:=bA 15
abbrev gK:Stmt:=L2.inClass (bA 17) 0
abbrev iB:Stmt:=bA 18
abbrev gL:Stmt:=bA 19
abbrev iC:Stmt:=bA 20
abbrev fW:Stmt:=bA 21
abbrev gM:Stmt:=bA 22
abbrev gN:Stmt:=bA 24
abbrev gO:Stmt:=bA 25
abbrev gP:Stmt:=bA 26
abbrev gQ:Stmt:=bA 27
abbrev iD:Stmt:=bA 28
abbrev gR:Stmt:=bA 30
abbrev iE:Stmt:=bA 31
abbrev gS:Stmt:=bA 32
abbrev gT:Stmt:=bA 33
abbrev iF:Stmt:=bA 34
abbrev iG:Stmt:=bA 35
abbrev iH:Stmt:=bA 37
abbrev iI:Stmt:=bA 38
abbrev iJ:Stmt:=bA 39
abbrev fX:Stmt:=bA 40
abbrev iK:Stmt:=bA 41
abbrev iL:Stmt:=bA 42
abbrev gU:Stmt:=bA 43
abbrev iM:Stmt:=bA 44
abbrev iN:Stmt:=bA 45
abbrev iO:Stmt:=bA 46
abbrev gW:Stmt:=bA 47
abbrev iP:Stmt:=bA 48
abbrev gX:Stmt:=bA 49
abbrev fg:Stmt:=bA 50
abbrev gY:Stmt:=bA 51
abbrev fY:Stmt:=bA 52
abbrev fZ:Stmt:=bA 53
abbrev gZ:Stmt:=bA 54
abbrev iQ:Stmt:=bA 55
abbrev iR:Stmt:=bA 56
set_option genInjectivity false in
set_option genSizeOfSpec false in
structure cJ where
 a_x0:Addr
 d_x0:FuncData
 a_x1:Addr
 d_x1:FuncData
 a_x2:Addr
 d_x2:FuncData
 a_x3:Addr
 d_x3:FuncData
 a_x4:Addr
 d_x4:FuncData
 a_x5:Addr
 d_x5:FuncData
 a_x6:Addr
 d_x6:FuncData
 a_x7:Addr
 d_x7:FuncData
 a_x8:Addr
 d_x8:FuncData
 a_x9:Addr
 d_x9:FuncData
 a_x10:Addr
 d_x10:FuncData
 a_x11:Addr
 d_x11:FuncData
 a_x12:Addr
 d_x12:FuncData
 a_x13:Addr
 d_x13:FuncData
 a_x14:Addr
 d_x14:FuncData
 a_x15:Addr
 d_x15:FuncData
 a_x16:Addr
 d_x16:FuncData
 a_x17:Addr
 d_x17:FuncData
 a_x18:Addr
 d_x18:FuncData
 a_x19:Addr
 d_x19:FuncData
 a_x20:Addr
 d_x20:FuncData
 a_x21:Addr
 d_x21:FuncData
 a_x22:Addr
 d_x22:FuncData
 a_x23:Addr
 d_x23:FuncData
 a_x24:Addr
 d_x24:FuncData
 a_x25:Addr
 d_x25:FuncData
 a_x26:Addr
 d_x26:FuncData
 a_x27:Addr
 d_x27:FuncData
 a_x28:Addr
 d_x28:FuncData
 a_x29:Addr
 d_x29:FuncData
 a_x30:Addr
 d_x30:FuncData
 a_x31:Addr
 d_x31:FuncData
 a_x32:Addr
 d_x32:FuncData
 a_x33:Addr
 d_x33:FuncData
 a_x34:Addr
 d_x34:FuncData
 a_x35:Addr
 d_x35:FuncData
 a_x36:Addr
 d_x36:FuncData
 a_x37:Addr
 d_x37:FuncData
 a_x38:Addr
 d_x38:FuncData
 a_x39:Addr
 d_x39:FuncData
 a_x40:Addr
 d_x40:FuncData
 a_x41:Addr
 d_x41:FuncData
 a_x42:Addr
 d_x42:FuncData
 a_x43:Addr
 d_x43:FuncData
 a_x44:Addr
 d_x44:FuncData
 u_MONTH_DAYS:Value
 u_FIRST_YEAR:Value
 u_ROUND_DAYS:Value
 u_ROUND_YEARS:Value
 u_NoPaper:Addr
 u_Paper:Addr
structure Txt (K:Jd) (mg:Str→Option Value) (t:cJ):Prop where
 F_x0:aV K "is_leap" "is_leap" iq t.a_x0 t.d_x0
 m_x0:mg "is_leap"=some (.ref t.a_x0)
 b_x0:aQ K t.d_x0 ["year"] []
 F_x1:aV K "month_length" "month_length" iu t.a_x1 t.d_x1
 m_x1:mg "month_length"=some (.ref t.a_x1)
 b_x1:aQ K t.d_x1 ["year","month"] []
 F_x2:aV K "leaps_before" "leaps_before" iw t.a_x2 t.d_x2
 m_x2:mg "leaps_before"=some (.ref t.a_x2)
 b_x2:aQ K t.d_x2 ["year"] []
 F_x3:aV K "year_start" "year_start" ix t.a_x3 t.d_x3
 m_x3:mg "year_start"=some (.ref t.a_x3)
 b_x3:aQ K t.d_x3 ["year"] []
 F_x4:aV K "year_of" "year_of" iy t.a_x4 t.d_x4
 m_x4:mg "year_of"=some (.ref t.a_x4)
 b_x4:aQ K t.d_x4 ["day"] []
 F_x5:aV K "parts_of" "parts_of" iz t.a_x5 t.d_x5
 m_x5:mg "parts_of"=some (.ref t.a_x5)
 b_x5:aQ K t.d_x5 ["day"] []
 F_x6:aV K "number_of" "number_of" gJ t.a_x6 t.d_x6
 m_x6:mg "number_of"=some (.ref t.a_x6)
 b_x6:aQ K t.d_x6 ["year","month","day"] []
 F_x7:aV K "later" "later" iA t.a_x7 t.d_x7
 m_x7:mg "later"=some (.ref t.a_x7)
 b_x7:aQ K t.d_x7 ["day","many","unit"] []
 F_x8:aV K "__init__" "Paper.__init__" gK t.a_x8 t.d_x8
 b_x8:aQ K t.d_x8 ["self","deeds","name"] []
 F_x9:aV K "place_of" "place_of" iB t.a_x9 t.d_x9
 m_x9:mg "place_of"=some (.ref t.a_x9)
 b_x9:aQ K t.d_x9 ["deed"] []
 F_x10:aV K "comings" "comings" gL t.a_x10 t.d_x10
 m_x10:mg "comings"=some (.ref t.a_x10)
 b_x10:aQ K t.d_x10 ["deeds"] []
 F_x11:aV K "coming_of" "coming_of" iC t.a_x11 t.d_x11
 m_x11:mg "coming_of"=some (.ref t.a_x11)
 b_x11:aQ K t.d_x11 ["deeds","paper"] []
 F_x12:aV K "maker_comings" "maker_comings" fW t.a_x12 t.d_x12
 m_x12:mg "maker_comings"=some (.ref t.a_x12)
 b_x12:aQ K t.d_x12 ["deeds","coming"] []
 F_x13:aV K "makers" "makers" gM t.a_x13 t.d_x13
 m_x13:mg "makers"=some (.ref t.a_x13)
 b_x13:aQ K t.d_x13 ["deeds","paper"] []
 F_x14:aV K "latest" "latest" gN t.a_x14 t.d_x14
 m_x14:mg "latest"=some (.ref t.a_x14)
 b_x14:aQ K t.d_x14 ["deeds","words","day"] []
 F_x15:aV K "rules_on" "rules_on" gO t.a_x15 t.d_x15
 m_x15:mg "rules_on"=some (.ref t.a_x15)
 b_x15:aQ K t.d_x15 ["deeds","day"] []
 F_x16:aV K "happened" "happened" gP t.a_x16 t.d_x16
 m_x16:mg "happened"=some (.ref t.a_x16)
 b_x16:aQ K t.d_x16 ["paper","happening"] []
 F_x17:aV K "base_of" "base_of" gQ t.a_x17 t.d_x17
 m_x17:mg "base_of"=some (.ref t.a_x17)
 b_x17:aQ K t.d_x17 ["paper","since","day"] []
 F_x18:aV K "reckoned" "reckoned" iD t.a_x18 t.d_x18
 m_x18:mg "reckoned"=some (.ref t.a_x18)
 b_x18:aQ K t.d_x18 ["paper","parts","day"] []
 F_x19:aV K "rules_over" "rules_over" gR t.a_x19 t.d_x19
 m_x19:mg "rules_over"=some (.ref t.a_x19)
 b_x19:aQ K t.d_x19 ["paper","rules","day"] []
 F_x20:aV K "has_gone" "has_gone" iE t.a_x20 t.d_x20
 m_x20:mg "has_gone"=some (.ref t.a_x20)
 b_x20:aQ K t.d_x20 ["gone","paper","day"] []
 F_x21:aV K "staying" "staying" gS t.a_x21 t.d_x21
 m_x21:mg "staying"=some (.ref t.a_x21)
 b_x21:aQ K t.d_x21 ["paper","rules","day","gone"] []
 F_x22:aV K "going" "going" gT t.a_x22 t.d_x22
 m_x22:mg "going"=some (.ref t.a_x22)
 b_x22:aQ K t.d_x22 ["paper","rules","day","gone"] []
 F_x23:aV K "stays" "stays" iF t.a_x23 t.d_x23
 m_x23:mg "stays"=some (.ref t.a_x23)
 b_x23:aQ K t.d_x23 ["deeds","day","paper","gone"] []
 F_x24:aV K "goes" "goes" iG t.a_x24 t.d_x24
 m_x24:mg "goes"=some (.ref t.a_x24)
 b_x24:aQ K t.d_x24 ["deeds","day","paper","gone"] []
 F_x25:aV K "_law_cell" "_law_cell" iH t.a_x25 t.d_x25
 m_x25:mg "_law_cell"=some (.ref t.a_x25)
 b_x25:aQ K t.d_x25 ["_law_script","_law_k"] []
 F_x26:aV K "_law_purse" "_law_purse" iI t.a_x26 t.d_x26
 m_x26:mg "_law_purse"=some (.ref t.a_x26)
 b_x26:aQ K t.d_x26 ["_law_cell_here"] []
 F_x27:aV K "_law_take" "_law_take" iJ t.a_x27 t.d_x27
 m_x27:mg "_law_take"=some (.ref t.a_x27)
 b_x27:aQ K t.d_x27 ["_law_purse_here","_law_many"] []
 F_x28:aV K "_law_names" "_law_names" fX t.a_x28 t.d_x28
 m_x28:mg "_law_names"=some (.ref t.a_x28)
 b_x28:aQ K t.d_x28 ["_law_purse_here","_law_many"] []
 F_x29:aV K "_law_month" "_law_month" iK t.a_x29 t.d_x29
 m_x29:mg "_law_month"=some (.ref t.a_x29)
 b_x29:aQ K t.d_x29 ["_law_year_here","_law_month_here"] []
 F_x30:aV K "_law_year" "_law_year" iL t.a_x30 t.d_x30
 m_x30:mg "_law_year"=some (.ref t.a_x30)
 b_x30:aQ K t.d_x30 ["_law_year_here"] []
 F_x31:aV K "_law_day" "_law_day" gU t.a_x31 t.d_x31
 m_x31:mg "_law_day"=some (.ref t.a_x31)
 b_x31:aQ K t.d_x31 ["_law_year_here","_law_month_here","_law_number"] []
 F_x32:aV K "_law_later" "_law_later" iM t.a_x32 t.d_x32
 m_x32:mg "_law_later"=some (.ref t.a_x32)
 b_x32:aQ K t.d_x32 ["_law_day_here","_law_many","_law_unit"] []
 F_x33:aV K "_law_drawn_day" "_law_drawn_day" iN t.a_x33 t.d_x33
 m_x33:mg "_law_drawn_day"=some (.ref t.a_x33)
 b_x33:aQ K t.d_x33 ["_law_purse_here","_law_far"] []
 F_x34:aV K "_law_parts" "_law_parts" iO t.a_x34 t.d_x34
 m_x34:mg "_law_parts"=some (.ref t.a_x34)
 b_x34:aQ K t.d_x34 ["_law_purse_here","_law_word","_law_names_here","_law_kinds","_law_far"] []
 F_x35:aV K "_law_deed" "_law_deed" gW t.a_x35 t.d_x35
 m_x35:mg "_law_deed"=some (.ref t.a_x35)
 b_x35:aQ K t.d_x35 ["_law_purse_here","_law_word","_law_names_here","_law_kinds","_law_far"] []
 F_x36:aV K "_law_quarrels" "_law_quarrels" iP t.a_x36 t.d_x36
 m_x36:mg "_law_quarrels"=some (.ref t.a_x36)
 b_x36:aQ K t.d_x36 ["_law_one","_law_other"] []
 F_x37:aV K "_law_deeds" "_law_deeds" gX t.a_x37 t.d_x37
 m_x37:mg "_law_deeds"=some (.ref t.a_x37)
 b_x37:aQ K t.d_x37 ["_law_script","_law_menu","_law_most"] []
 F_x38:aV K "_law_web" "_law_web" fg t.a_x38 t.d_x38
 m_x38:mg "_law_web"=some (.ref t.a_x38)
 b_x38:aQ K t.d_x38 ["_law_deeds_here"] []
 F_x39:aV K "_law_standing" "_law_standing" gY t.a_x39 t.d_x39
 m_x39:mg "_law_standing"=some (.ref t.a_x39)
 b_x39:aQ K t.d_x39 ["_law_deeds_here","_law_day_here","_law_word","_law_ending"] []
 F_x40:aV K "_law_reckoned" "_law_reckoned" fY t.a_x40 t.d_x40
 m_x40:mg "_law_reckoned"=some (.ref t.a_x40)
 b_x40:aQ K t.d_x40 ["_law_deeds_here","_law_parts_here","_law_name","_law_day_here","_law_coming"] []
 F_x41:aV K "_law_called" "_law_called" fZ t.a_x41 t.d_x41
 m_x41:mg "_law_called"=some (.ref t.a_x41)
 b_x41:aQ K t.d_x41 ["_law_deeds_here","_law_day_here","_law_name","_law_gone"] []
 F_x42:aV K "_law_same" "_law_same" gZ t.a_x42 t.d_x42
 m_x42:mg "_law_same"=some (.ref t.a_x42)
 b_x42:aQ K t.d_x42 ["_law_told","_law_due"] []
 F_x43:aV K "_law_right" "_law_right" iQ t.a_x43 t.d_x43
 m_x43:mg "_law_right"=some (.ref t.a_x43)
 b_x43:aQ K t.d_x43 ["_law_deeds_here","_law_day_here","_law_gone"] []
 F_x44:aV K "law" "law" iR t.a_x44 t.d_x44
 m_x44:mg "law"=some (.ref t.a_x44)
 b_x44:aQ K t.d_x44 ["_law_script"] []
 bt_x44:∀(s:Shared)(u:Value),BindsTo s t.d_x44 ⟨[u],[]⟩ [("_law_script",u)]
 c_MONTH_DAYS:mg "MONTH_DAYS"=some t.u_MONTH_DAYS
 e_MONTH_DAYS:∃a,t.u_MONTH_DAYS= .ref a∧∀H,bB K H a [V.int 31,V.int 28,V.int 31,V.int 30,V.int 31,V.int 30,V.int 31,V.int 31,V.int 30,V.int 31,V.int 30,V.int 31]
 c_FIRST_YEAR:mg "FIRST_YEAR"=some t.u_FIRST_YEAR
 r_FIRST_YEAR:aG (.int 2000) t.u_FIRST_YEAR
 c_ROUND_DAYS:mg "ROUND_DAYS"=some t.u_ROUND_DAYS
 r_ROUND_DAYS:aG (.int 146097) t.u_ROUND_DAYS
 c_ROUND_YEARS:mg "ROUND_YEARS"=some t.u_ROUND_YEARS
 r_ROUND_YEARS:aG (.int 400) t.u_ROUND_YEARS
 c_NoPaper:mg "NoPaper"=some (.ref t.u_NoPaper)
 c_Paper:mg "Paper"=some (.ref t.u_Paper)
 cl_Paper:hJ K t.u_Paper
 mk_Paper:Mk K t.u_Paper t.a_x8
 na_Paper_name:eX K t.u_Paper "name"
 na_Paper_coming:eX K t.u_Paper "coming"
 na_Paper_kind:eX K t.u_Paper "kind"
 na_Paper_makers:eX K t.u_Paper "makers"
 na_Paper_happenings:eX K t.u_Paper "happenings"
 n_abs:mg "abs"=none
 n_all:mg "all"=none
 n_any:mg "any"=none
 n_bool:mg "bool"=none
 n_dict:mg "dict"=none
 n_divmod:mg "divmod"=none
 n_int:mg "int"=none
 n_isinstance:mg "isinstance"=none
 n_len:mg "len"=none
 n_max:mg "max"=none
 n_min:mg "min"=none
 n_range:mg "range"=none
 n_sorted:mg "sorted"=none
 n_str:mg "str"=none
 n_sum:mg "sum"=none
 n_tuple:mg "tuple"=none
theorem GC:bg ["year"] ["year"] (ah iq):=⟨rfl,rfl,rfl,by decide+kernel,rfl,by decide+kernel,by decide+kernel⟩
theorem GF:bg ["year","month"] ["year","month"] (ah iu):=⟨rfl,rfl,rfl,by decide+kernel,rfl,by decide+kernel,by decide+kernel⟩
theorem zV:bg ["year","past"] ["year"] (ah iw):=⟨rfl,rfl,rfl,by decide+kernel,rfl,by decide+kernel,by decide+kernel⟩
theorem GG:bg ["year"] ["year"] (ah ix):=⟨rfl,rfl,rfl,by decide+kernel,rfl,by decide+kernel,by decide+kernel⟩
theorem zW:bg ["day","year"] ["day"] (ah iy):=⟨rfl,rfl,rfl,by decide+kernel,rfl,by decide+kernel,by decide+kernel⟩
theorem lA:bg ["day","year","left","month"] ["day"] (ah iz):=⟨rfl,rfl,rfl,by decide+kernel,rfl,by decide+kernel,by decide+kernel⟩
theorem zX:bg ["year","month","day","before"] ["year","month","day"] (ah gJ):=⟨rfl,rfl,rfl,by decide+kernel,rfl,by decide+kernel,by decide+kernel⟩
theorem lB:bg ["day","many","unit","months","parts","place","year","month"] ["day","many","unit"] (ah iA):=⟨rfl,rfl,rfl,by decide+kernel,rfl,by decide+kernel,by decide+kernel⟩
theorem zY:bg ["self","deeds","name","coming"] ["self","deeds","name"] (ah gK):=⟨rfl,rfl,rfl,by decide+kernel,rfl,by decide+kernel,by decide+kernel⟩
theorem GH:bg ["deed"] ["deed"] (ah iB):=⟨rfl,rfl,rfl,by decide+kernel,rfl,by decide+kernel,by decide+kernel⟩
theorem GI:bg ["deeds"] ["deeds"] (ah gL):=⟨rfl,rfl,rfl,by decide+kernel,rfl,by decide+kernel,by decide+kernel⟩
theorem zZ:bg ["deeds","paper","deed"] ["deeds","paper"] (ah iC):=⟨rfl,rfl,rfl,by decide+kernel,rfl,by decide+kernel,by decide+kernel⟩
theorem z5:bg ["deeds","coming","named"] ["deeds","coming"] (ah fW):=⟨rfl,rfl,rfl,by decide+kernel,rfl,by decide+kernel,by decide+kernel⟩
theorem GJ:bg ["deeds","paper"] ["deeds","paper"] (ah gM):=⟨rfl,rfl,rfl,by decide+kernel,rfl,by decide+kernel,by decide+kernel⟩
theorem tD:bg ["deeds","words","day","found","deed","known"] ["deeds","words","day"] (ah gN):=⟨rfl,rfl,rfl,by decide+kernel,rfl,by decide+kernel,by decide+kernel⟩
theorem GK:bg ["deeds","day"] ["deeds","day"] (ah gO):=⟨rfl,rfl,rfl,by decide+kernel,rfl,by decide+kernel,by decide+kernel⟩
theorem GL:bg ["paper","happening"] ["paper","happening"] (ah gP):=⟨rfl,rfl,rfl,by decide+kernel,rfl,by decide+kernel,by decide+kernel⟩
theorem z7:bg ["paper","since","day","days"] ["paper","since","day"] (ah gQ):=⟨rfl,rfl,rfl,by decide+kernel,rfl,by decide+kernel,by decide+kernel⟩
theorem z8:bg ["paper","parts","day","base"] ["paper","parts","day"] (ah iD):=⟨rfl,rfl,rfl,by decide+kernel,rfl,by decide+kernel,by decide+kernel⟩
theorem GN:bg ["paper","rules","day"] ["paper","rules","day"] (ah gR):=⟨rfl,rfl,rfl,by decide+kernel,rfl,by decide+kernel,by decide+kernel⟩
theorem z9:bg ["gone","paper","day","went"] ["gone","paper","day"] (ah iE):=⟨rfl,rfl,rfl,by decide+kernel,rfl,by decide+kernel,by decide+kernel⟩
theorem lC:bg ["paper","rules","day","gone","left","calls","rule","parts","due"] ["paper","rules","day","gone"] (ah gS):=⟨rfl,rfl,rfl,by decide+kernel,rfl,by decide+kernel,by decide+kernel⟩
theorem lE:bg ["paper","rules","day","gone","away","calls","rule","parts","due"] ["paper","rules","day","gone"] (ah gT):=⟨rfl,rfl,rfl,by decide+kernel,rfl,by decide+kernel,by decide+kernel⟩
theorem GO:bg ["deeds","day","paper","gone"] ["deeds","day","paper","gone"] (ah iF):=⟨rfl,rfl,rfl,by decide+kernel,rfl,by decide+kernel,by decide+kernel⟩
theorem GP:bg ["deeds","day","paper","gone"] ["deeds","day","paper","gone"] (ah iG):=⟨rfl,rfl,rfl,by decide+kernel,rfl,by decide+kernel,by decide+kernel⟩
theorem tE:bg ["_law_script","_law_k","_law_state","_law_cell_here"] ["_law_script","_law_k"] (ah iH):=⟨rfl,rfl,rfl,by decide+kernel,rfl,by decide+kernel,by decide+kernel⟩
theorem vD:bg ["_law_cell_here","_law_digits"] ["_law_cell_here"] (ah iI):=⟨rfl,rfl,rfl,by decide+kernel,rfl,by decide+kernel,by decide+kernel⟩
theorem vE:bg ["_law_purse_here","_law_many","_law_state","_law_digit"] ["_law_purse_here","_law_many"] (ah iJ):=⟨rfl,rfl,rfl,by decide+kernel,rfl,by decide+kernel,by decide+kernel⟩
theorem lF:bg ["_law_purse_here","_law_many","_law_letters","_law_stem","_law_at","_law_first","_law_step"] ["_law_purse_here","_law_many"] (ah fX):=⟨rfl,rfl,rfl,by decide+kernel,rfl,by decide+kernel,by decide+kernel⟩
theorem Aa:bg ["_law_year_here","_law_month_here","_law_leap"] ["_law_year_here","_law_month_here"] (ah iK):=⟨rfl,rfl,rfl,by decide+kernel,rfl,by decide+kernel,by decide+kernel⟩
theorem Ab:bg ["_law_year_here"] ["_law_year_here"] (ah iL):=⟨rfl,rfl,rfl,by decide+kernel,rfl,by decide+kernel,by decide+kernel⟩
theorem GQ:bg ["_law_year_here","_law_month_here","_law_number"] ["_law_year_here","_law_month_here","_law_number"] (ah gU):=⟨rfl,rfl,rfl,by decide+kernel,rfl,by decide+kernel,by decide+kernel⟩
theorem jU:bg ["_law_day_here","_law_many","_law_unit","_law_year_here","_law_month_here","_law_left","_law_months"] ["_law_day_here","_law_many","_law_unit"] (ah iM):=⟨rfl,rfl,rfl,by decide+kernel,rfl,by decide+kernel,by decide+kernel⟩
theorem Ac:bg ["_law_purse_here","_law_far","_law_year_here","_law_month_here"] ["_law_purse_here","_law_far"] (ah iN):=⟨rfl,rfl,rfl,by decide+kernel,rfl,by decide+kernel,by decide+kernel⟩
theorem tF:bg ["_law_purse_here","_law_word","_law_names_here","_law_kinds","_law_far","_law_kind","_law_since","_law_many"] ["_law_purse_here","_law_word","_law_names_here","_law_kinds","_law_far"] (ah iO):=⟨rfl,rfl,rfl,by decide+kernel,rfl,by decide+kernel,by decide+kernel⟩
theorem lG:bg ["_law_purse_here","_law_word","_law_names_here","_law_kinds","_law_far","_law_day_here","_law_name","_law_some","_law_kind","_law_target"] ["_law_purse_here","_law_word","_law_names_here","_law_kinds","_law_far"] (ah gW):=⟨rfl,rfl,rfl,by decide+kernel,rfl,by decide+kernel,by decide+kernel⟩
theorem Ad:bg ["_law_one","_law_other","_law_sorts"] ["_law_one","_law_other"] (ah iP):=⟨rfl,rfl,rfl,by decide+kernel,rfl,by decide+kernel,by decide+kernel⟩
theorem fx:bg ["_law_script","_law_menu","_law_most","_law_head","_law_far","_law_chain","_law_names_here","_law_kinds","_law_words","_law_turn","_law_deeds_here","_law_k","_law_deed_here","_law_day_here"] ["_law_script","_law_menu","_law_most"] (ah gX):=⟨rfl,rfl,rfl,by decide+kernel,rfl,by decide+kernel,by decide+kernel⟩
theorem lH:bg ["_law_deeds_here","_law_rows","_law_web_here","_law_name","_law_some","_law_ahead"] ["_law_deeds_here"] (ah fg):=⟨rfl,rfl,rfl,by decide+kernel,rfl,by decide+kernel,by decide+kernel⟩
theorem vF:bg ["_law_deeds_here","_law_day_here","_law_word","_law_ending","_law_known","_law_deed_here"] ["_law_deeds_here","_law_day_here","_law_word","_law_ending"] (ah gY):=⟨rfl,rfl,rfl,by decide+kernel,rfl,by decide+kernel,by decide+kernel⟩
theorem tG:bg ["_law_deeds_here","_law_parts_here","_law_name","_law_day_here","_law_coming","_law_days"] ["_law_deeds_here","_law_parts_here","_law_name","_law_day_here","_law_coming"] (ah fY):=⟨rfl,rfl,rfl,by decide+kernel,rfl,by decide+kernel,by decide+kernel⟩
theorem g4:bg ["_law_deeds_here","_law_day_here","_law_name","_law_gone","_law_coming","_law_kind","_law_elders","_law_away","_law_here","_law_stay","_law_leave","_law_deed_here","_law_word","_law_till"] ["_law_deeds_here","_law_day_here","_law_name","_law_gone"] (ah fZ):=⟨rfl,rfl,rfl,by decide+kernel,rfl,by decide+kernel,by decide+kernel⟩
theorem GR:bg ["_law_told","_law_due"] ["_law_told","_law_due"] (ah gZ):=⟨rfl,rfl,rfl,by decide+kernel,rfl,by decide+kernel,by decide+kernel⟩
theorem oN:bg ["_law_deeds_here","_law_day_here","_law_gone","_law_name","_law_due","_law_handed","_law_told"] ["_law_deeds_here","_law_day_here","_law_gone"] (ah iQ):=⟨rfl,rfl,rfl,by decide+kernel,rfl,by decide+kernel,by decide+kernel⟩
theorem gb:bg ["_law_script","_law_menu","_law_deeds_here","_law_names_here","_law_far","_law_k","_law_purse_here","_law_day_here","_law_gone","_law_name","_law_way"] ["_law_script"] (ah iR):=⟨rfl,rfl,rfl,by decide+kernel,rfl,by decide+kernel,by decide+kernel⟩
theorem fy{α:Type}{us:List α}(h:us.length=1):∃a,us=[a]:=List.length_eq_one_iff.mp h
theorem eU{α:Type}{us:List α}(h0:us.length=2):∃a b,us=[a,b]:=by
 cases us with
 | nil=> cases h0
 | cons a us=>
  obtain⟨b,z0⟩:=fy (us:=us) (Nd h0)
  exact⟨a,b,by rw [z0]⟩
theorem fh{α:Type}{us:List α}(h0:us.length=3):∃a b c,us=[a,b,c]:=by
 cases us with
 | nil=> cases h0
 | cons a us=>
  obtain⟨b,c,z0⟩:=eU (us:=us) (Nd h0)
  exact⟨a,b,c,by rw [z0]⟩
theorem jV{α:Type}{us:List α}(h0:us.length=4):∃a b c d,us=[a,b,c,d]:=by
 cases us with
 | nil=> cases h0
 | cons a us=>
  obtain⟨b,c,d,z0⟩:=fh (us:=us) (Nd h0)
  exact⟨a,b,c,d,by rw [z0]⟩
theorem vG{α:Type}{us:List α}(h0:us.length=5):∃a b c d p,us=[a,b,c,d,p]:=by
 cases us with
 | nil=> cases h0
 | cons a us=>
  obtain⟨b,c,d,p,z0⟩:=jV (us:=us) (Nd h0)
  exact⟨a,b,c,d,p,by rw [z0]⟩
set_option maxHeartbeats 0 in
theorem txt_mk{K:Jd}{h:Heap}{mg:Str→Option Value}(X:K.In h)(G:h.Ns mainGlobals mg)
  {f0 f1 f2 f3 f4 f5 f6 f7 f8 f9 f10 f11 f12 f13 f14 f15 f16 f17 f18 f19 f20 f21 f22 f23 f24 f25 f26 f27 f28 f29 f30 f31 f32 f33 f34 f35 f36 f37 f38 f39 f40 f41 f42 f43 f44:Addr}{od0 an0 od1 an1 od2 an2 od3 an3 od4 an4 od5 an5 od6 an6 od7 an7 od8 an8 od9 an9 od10 an10 od11 an11 od12 an12 od13 an13 od14 an14 od15 an15 od16 an16 od17 an17 od18 an18 od19 an19 od20 an20 od21 an21 od22 an22 od23 an23 od24 an24 od25 an25 od26 an26 od27 an27 od28 an28 od29 an29 od30 an30 od31 an31 od32 an32 od33 an33 od34 an34 od35 an35 od36 an36 od37 an37 od38 an38 od39 an39 od40 an40 od41 an41 od42 an42 od43 an43 od44 an44:Option Addr}{sl0 sl1 sl2 sl3 sl4 sl5 sl6 sl7 sl8 sl9 sl10 sl11 sl12 sl13 sl14 sl15 sl16 sl17 sl18 sl19 sl20 sl21 sl22 sl23 sl24 sl25 sl26 sl27 sl28 sl29 sl30 sl31 sl32 sl33 sl34 sl35 sl36 sl37 sl38 sl39 sl40 sl41 sl42 sl43 sl44:Array (Option Value)}{oc0 kV0 dc0 pm0 cd0 ct0 oc1 kV1 dc1 pm1 cd1 ct1 oc2 kV2 dc2 pm2 cd2 ct2 oc3 kV3 dc3 pm3 cd3 ct3 oc4 kV4 dc4 pm4 cd4 ct4 oc5 kV5 dc5 pm5 cd5 ct5 oc6 kV6 dc6 pm6 cd6 ct6 oc7 kV7 dc7 pm7 cd7 ct7 oc8 kV8 dc8 pm8 cd8 ct8 oc9 kV9 dc9 pm9 cd9 ct9 oc10 kV10 dc10 pm10 cd10 ct10 oc11 kV11 dc11 pm11 cd11 ct11 oc12 kV12 dc12 pm12 cd12 ct12 oc13 kV13 dc13 pm13 cd13 ct13 oc14 kV14 dc14 pm14 cd14 ct14 oc15 kV15 dc15 pm15 cd15 ct15 oc16 kV16 dc16 pm16 cd16 ct16 oc17 kV17 dc17 pm17 cd17 ct17 oc18 kV18 dc18 pm18 cd18 ct18 oc19 kV19 dc19 pm19 cd19 ct19 oc20 kV20 dc20 pm20 cd20 ct20 oc21 kV21 dc21 pm21 cd21 ct21 oc22 kV22 dc22 pm22 cd22 ct22 oc23 kV23 dc23 pm23 cd23 ct23 oc24 kV24 dc24 pm24 cd24 ct24 oc25 kV25 dc25 pm25 cd25 ct25 oc26 kV26 dc26 pm26 cd26 ct26 oc27 kV27 dc27 pm27 cd27 ct27 oc28 kV28 dc28 pm28 cd28 ct28 oc29 kV29 dc29 pm29 cd29 ct29 oc30 kV30 dc30 pm30 cd30 ct30 oc31 kV31 dc31 pm31 cd31 ct31 oc32 kV32 dc32 pm32 cd32 ct32 oc33 kV33 dc33 pm33 cd33 ct33 oc34 kV34 dc34 pm34 cd34 ct34 oc35 kV35 dc35 pm35 cd35 ct35 oc36 kV36 dc36 pm36 cd36 ct36 oc37 kV37 dc37 pm37 cd37 ct37 oc38 kV38 dc38 pm38 cd38 ct38 oc39 kV39 dc39 pm39 cd39 ct39 oc40 kV40 dc40 pm40 cd40 ct40 oc41 kV41 dc41 pm41 cd41 ct41 oc42 kV42 dc42 pm42 cd42 ct42 oc43 kV43 dc43 pm43 cd43 ct43 oc44 kV44 dc44 pm44 cd44 ct44:Value}
  {u_NoPaper u_Paper:Addr}
  {u_FIRST_YEAR u_ROUND_DAYS u_ROUND_YEARS:Value}
  {A_MONTH_DAYS:Addr}{dd_MONTH_DAYS:Option Addr}{its_MONTH_DAYS:Array Value}{n_MONTH_DAYS:Nat}{sl_MONTH_DAYS:Array (Option Value)}
  (a0:Jo K mainGlobals "is_leap"=some (some (.ref f0)))(l0:K.lookup f0=some ⟨oc0,od0,.func (Ji "is_leap" "is_leap" (aB iq) (az iq) (ah iq) .none kV0 dc0 pm0 an0 cd0 ct0),sl0⟩)(c0:Js K cd0 "is_leap"=true)(k0:Jq K (.ref f0)=true)
  (a1:Jo K mainGlobals "month_length"=some (some (.ref f1)))(l1:K.lookup f1=some ⟨oc1,od1,.func (Ji "month_length" "month_length" (aB iu) (az iu) (ah iu) .none kV1 dc1 pm1 an1 cd1 ct1),sl1⟩)(c1:Js K cd1 "month_length"=true)(k1:Jq K (.ref f1)=true)
  (a2:Jo K mainGlobals "leaps_before"=some (some (.ref f2)))(l2:K.lookup f2=some ⟨oc2,od2,.func (Ji "leaps_before" "leaps_before" (aB iw) (az iw) (ah iw) .none kV2 dc2 pm2 an2 cd2 ct2),sl2⟩)(c2:Js K cd2 "leaps_before"=true)(k2:Jq K (.ref f2)=true)
  (a3:Jo K mainGlobals "year_start"=some (some (.ref f3)))(l3:K.lookup f3=some ⟨oc3,od3,.func (Ji "year_start" "year_start" (aB ix) (az ix) (ah ix) .none kV3 dc3 pm3 an3 cd3 ct3),sl3⟩)(c3:Js K cd3 "year_start"=true)(k3:Jq K (.ref f3)=true)
  (a4:Jo K mainGlobals "year_of"=some (some (.ref f4)))(l4:K.lookup f4=some ⟨oc4,od4,.func (Ji "year_of" "year_of" (aB iy) (az iy) (ah iy) .none kV4 dc4 pm4 an4 cd4 ct4),sl4⟩)(c4:Js K cd4 "year_of"=true)(k4:Jq K (.ref f4)=true)
  (a5:Jo K mainGlobals "parts_of"=some (some (.ref f5)))(l5:K.lookup f5=some ⟨oc5,od5,.func (Ji "parts_of" "parts_of" (aB iz) (az iz) (ah iz) .none kV5 dc5 pm5 an5 cd5 ct5),sl5⟩)(c5:Js K cd5 "parts_of"=true)(k5:Jq K (.ref f5)=true)
  (a6:Jo K mainGlobals "number_of"=some (some (.ref f6)))(l6:K.lookup f6=some ⟨oc6,od6,.func (Ji "number_of" "number_of" (aB gJ) (az gJ) (ah gJ) .none kV6 dc6 pm6 an6 cd6 ct6),sl6⟩)(c6:Js K cd6 "number_of"=true)(k6:Jq K (.ref f6)=true)
  (a7:Jo K mainGlobals "later"=some (some (.ref f7)))(l7:K.lookup f7=some ⟨oc7,od7,.func (Ji "later" "later" (aB iA) (az iA) (ah iA) .none kV7 dc7 pm7 an7 cd7 ct7),sl7⟩)(c7:Js K cd7 "later"=true)(k7:Jq K (.ref f7)=true)
  (a8:Kr K (.ref u_Paper) "__init__"=some (some (.ref f8)))(i8:OV K (.ref f8)=true)(l8:K.lookup f8=some ⟨oc8,od8,.func (Ji "__init__" "Paper.__init__" (aB gK) (az gK) (ah gK) .none kV8 dc8 pm8 an8 cd8 ct8),sl8⟩)(c8:Js K cd8 "Paper.__init__"=true)(k8:Jq K (.ref f8)=true)
  (a9:Jo K mainGlobals "place_of"=some (some (.ref f9)))(l9:K.lookup f9=some ⟨oc9,od9,.func (Ji "place_of" "place_of" (aB iB) (az iB) (ah iB) .none kV9 dc9 pm9 an9 cd9 ct9),sl9⟩)(c9:Js K cd9 "place_of"=true)(k9:Jq K (.ref f9)=true)
  (a10:Jo K mainGlobals "comings"=some (some (.ref f10)))(l10:K.lookup f10=some ⟨oc10,od10,.func (Ji "comings" "comings" (aB gL) (az gL) (ah gL) .none kV10 dc10 pm10 an10 cd10 ct10),sl10⟩)(c10:Js K cd10 "comings"=true)(k10:Jq K (.ref f10)=true)
  (a11:Jo K mainGlobals "coming_of"=some (some (.ref f11)))(l11:K.lookup f11=some ⟨oc11,od11,.func (Ji "coming_of" "coming_of" (aB iC) (az iC) (ah iC) .none kV11 dc11 pm11 an11 cd11 ct11),sl11⟩)(c11:Js K cd11 "coming_of"=true)(k11:Jq K (.ref f11)=true)
  (a12:Jo K mainGlobals "maker_comings"=some (some (.ref f12)))(l12:K.lookup f12=some ⟨oc12,od12,.func (Ji "maker_comings" "maker_comings" (aB fW) (az fW) (ah fW) .none kV12 dc12 pm12 an12 cd12 ct12),sl12⟩)(c12:Js K cd12 "maker_comings"=true)(k12:Jq K (.ref f12)=true)
  (a13:Jo K mainGlobals "makers"=some (some (.ref f13)))(l13:K.lookup f13=some ⟨oc13,od13,.func (Ji "makers" "makers" (aB gM) (az gM) (ah gM) .none kV13 dc13 pm13 an13 cd13 ct13),sl13⟩)(c13:Js K cd13 "makers"=true)(k13:Jq K (.ref f13)=true)
  (a14:Jo K mainGlobals "latest"=some (some (.ref f14)))(l14:K.lookup f14=some ⟨oc14,od14,.func (Ji "latest" "latest" (aB gN) (az gN) (ah gN) .none kV14 dc14 pm14 an14 cd14 ct14),sl14⟩)(c14:Js K cd14 "latest"=true)(k14:Jq K (.ref f14)=true)
  (a15:Jo K mainGlobals "rules_on"=some (some (.ref f15)))(l15:K.lookup f15=some ⟨oc15,od15,.func (Ji "rules_on" "rules_on" (aB gO) (az gO) (ah gO) .none kV15 dc15 pm15 an15 cd15 ct15),sl15⟩)(c15:Js K cd15 "rules_on"=true)(k15:Jq K (.ref f15)=true)
  (a16:Jo K mainGlobals "happened"=some (some (.ref f16)))(l16:K.lookup f16=some ⟨oc16,od16,.func (Ji "happened" "happened" (aB gP) (az gP) (ah gP) .none kV16 dc16 pm16 an16 cd16 ct16),sl16⟩)(c16:Js K cd16 "happened"=true)(k16:Jq K (.ref f16)=true)
  (a17:Jo K mainGlobals "base_of"=some (some (.ref f17)))(l17:K.lookup f17=some ⟨oc17,od17,.func (Ji "base_of" "base_of" (aB gQ) (az gQ) (ah gQ) .none kV17 dc17 pm17 an17 cd17 ct17),sl17⟩)(c17:Js K cd17 "base_of"=true)(k17:Jq K (.ref f17)=true)
  (a18:Jo K mainGlobals "reckoned"=some (some (.ref f18)))(l18:K.lookup f18=some ⟨oc18,od18,.func (Ji "reckoned" "reckoned" (aB iD) (az iD) (ah iD) .none kV18 dc18 pm18 an18 cd18 ct18),sl18⟩)(c18:Js K cd18 "reckoned"=true)(k18:Jq K (.ref f18)=true)
  (a19:Jo K mainGlobals "rules_over"=some (some (.ref f19)))(l19:K.lookup f19=some ⟨oc19,od19,.func (Ji "rules_over" "rules_over" (aB gR) (az gR) (ah gR) .none kV19 dc19 pm19 an19 cd19 ct19),sl19⟩)(c19:Js K cd19 "rules_over"=true)(k19:Jq K (.ref f19)=true)
  (a20:Jo K mainGlobals "has_gone"=some (some (.ref f20)))(l20:K.lookup f20=some ⟨oc20,od20,.func (Ji "has_gone" "has_gone" (aB iE) (az iE) (ah iE) .none kV20 dc20 pm20 an20 cd20 ct20),sl20⟩)(c20:Js K cd20 "has_gone"=true)(k20:Jq K (.ref f20)=true)
  (a21:Jo K mainGlobals "staying"=some (some (.ref f21)))(l21:K.lookup f21=some ⟨oc21,od21,.func (Ji "staying" "staying" (aB gS) (az gS) (ah gS) .none kV21 dc21 pm21 an21 cd21 ct21),sl21⟩)(c21:Js K cd21 "staying"=true)(k21:Jq K (.ref f21)=true)
  (a22:Jo K mainGlobals "going"=some (some (.ref f22)))(l22:K.lookup f22=some ⟨oc22,od22,.func (Ji "going" "going" (aB gT) (az gT) (ah gT) .none kV22 dc22 pm22 an22 cd22 ct22),sl22⟩)(c22:Js K cd22 "going"=true)(k22:Jq K (.ref f22)=true)
  (a23:Jo K mainGlobals "stays"=some (some (.ref f23)))(l23:K.lookup f23=some ⟨oc23,od23,.func (Ji "stays" "stays" (aB iF) (az iF) (ah iF) .none kV23 dc23 pm23 an23 cd23 ct23),sl23⟩)(c23:Js K cd23 "stays"=true)(k23:Jq K (.ref f23)=true)
  (a24:Jo K mainGlobals "goes"=some (some (.ref f24)))(l24:K.lookup f24=some ⟨oc24,od24,.func (Ji "goes" "goes" (aB iG) (az iG) (ah iG) .none kV24 dc24 pm24 an24 cd24 ct24),sl24⟩)(c24:Js K cd24 "goes"=true)(k24:Jq K (.ref f24)=true)
  (a25:Jo K mainGlobals "_law_cell"=some (some (.ref f25)))(l25:K.lookup f25=some ⟨oc25,od25,.func (Ji "_law_cell" "_law_cell" (aB iH) (az iH) (ah iH) .none kV25 dc25 pm25 an25 cd25 ct25),sl25⟩)(c25:Js K cd25 "_law_cell"=true)(k25:Jq K (.ref f25)=true)
  (a26:Jo K mainGlobals "_law_purse"=some (some (.ref f26)))(l26:K.lookup f26=some ⟨oc26,od26,.func (Ji "_law_purse" "_law_purse" (aB iI) (az iI) (ah iI) .none kV26 dc26 pm26 an26 cd26 ct26),sl26⟩)(c26:Js K cd26 "_law_purse"=true)(k26:Jq K (.ref f26)=true)
  (a27:Jo K mainGlobals "_law_take"=some (some (.ref f27)))(l27:K.lookup f27=some ⟨oc27,od27,.func (Ji "_law_take" "_law_take" (aB iJ) (az iJ) (ah iJ) .none kV27 dc27 pm27 an27 cd27 ct27),sl27⟩)(c27:Js K cd27 "_law_take"=true)(k27:Jq K (.ref f27)=true)
  (a28:Jo K mainGlobals "_law_names"=some (some (.ref f28)))(l28:K.lookup f28=some ⟨oc28,od28,.func (Ji "_law_names" "_law_names" (aB fX) (az fX) (ah fX) .none kV28 dc28 pm28 an28 cd28 ct28),sl28⟩)(c28:Js K cd28 "_law_names"=true)(k28:Jq K (.ref f28)=true)
  (a29:Jo K mainGlobals "_law_month"=some (some (.ref f29)))(l29:K.lookup f29=some ⟨oc29,od29,.func (Ji "_law_month" "_law_month" (aB iK) (az iK) (ah iK) .none kV29 dc29 pm29 an29 cd29 ct29),sl29⟩)(c29:Js K cd29 "_law_month"=true)(k29:Jq K (.ref f29)=true)
  (a30:Jo K mainGlobals "_law_year"=some (some (.ref f30)))(l30:K.lookup f30=some ⟨oc30,od30,.func (Ji "_law_year" "_law_year" (aB iL) (az iL) (ah iL) .none kV30 dc30 pm30 an30 cd30 ct30),sl30⟩)(c30:Js K cd30 "_law_year"=true)(k30:Jq K (.ref f30)=true)
  (a31:Jo K mainGlobals "_law_day"=some (some (.ref f31)))(l31:K.lookup f31=some ⟨oc31,od31,.func (Ji "_law_day" "_law_day" (aB gU) (az gU) (ah gU) .none kV31 dc31 pm31 an31 cd31 ct31),sl31⟩)(c31:Js K cd31 "_law_day"=true)(k31:Jq K (.ref f31)=true)
  (a32:Jo K mainGlobals "_law_later"=some (some (.ref f32)))(l32:K.lookup f32=some ⟨oc32,od32,.func (Ji "_law_later" "_law_later" (aB iM) (az iM) (ah iM) .none kV32 dc32 pm32 an32 cd32 ct32),sl32⟩)(c32:Js K cd32 "_law_later"=true)(k32:Jq K (.ref f32)=true)
  (a33:Jo K mainGlobals "_law_drawn_day"=some (some (.ref f33)))(l33:K.lookup f33=some ⟨oc33,od33,.func (Ji "_law_drawn_day" "_law_drawn_day" (aB iN) (az iN) (ah iN) .none kV33 dc33 pm33 an33 cd33 ct33),sl33⟩)(c33:Js K cd33 "_law_drawn_day"=true)(k33:Jq K (.ref f33)=true)
  (a34:Jo K mainGlobals "_law_parts"=some (some (.ref f34)))(l34:K.lookup f34=some ⟨oc34,od34,.func (Ji "_law_parts" "_law_parts" (aB iO) (az iO) (ah iO) .none kV34 dc34 pm34 an34 cd34 ct34),sl34⟩)(c34:Js K cd34 "_law_parts"=true)(k34:Jq K (.ref f34)=true)
  (a35:Jo K mainGlobals "_law_deed"=some (some (.ref f35)))(l35:K.lookup f35=some ⟨oc35,od35,.func (Ji "_law_deed" "_law_deed" (aB gW) (az gW) (ah gW) .none kV35 dc35 pm35 an35 cd35 ct35),sl35⟩)(c35:Js K cd35 "_law_deed"=true)(k35:Jq K (.ref f35)=true)
  (a36:Jo K mainGlobals "_law_quarrels"=some (some (.ref f36)))(l36:K.lookup f36=some ⟨oc36,od36,.func (Ji "_law_quarrels" "_law_quarrels" (aB iP) (az iP) (ah iP) .none kV36 dc36 pm36 an36 cd36 ct36),sl36⟩)(c36:Js K cd36 "_law_quarrels"=true)(k36:Jq K (.ref f36)=true)
  (a37:Jo K mainGlobals "_law_deeds"=some (some (.ref f37)))(l37:K.lookup f37=some ⟨oc37,od37,.func (Ji "_law_deeds" "_law_deeds" (aB gX) (az gX) (ah gX) .none kV37 dc37 pm37 an37 cd37 ct37),sl37⟩)(c37:Js K cd37 "_law_deeds"=true)(k37:Jq K (.ref f37)=true)
  (a38:Jo K mainGlobals "_law_web"=some (some (.ref f38)))(l38:K.lookup f38=some ⟨oc38,od38,.func (Ji "_law_web" "_law_web" (aB fg) (az fg) (ah fg) .none kV38 dc38 pm38 an38 cd38 ct38),sl38⟩)(c38:Js K cd38 "_law_web"=true)(k38:Jq K (.ref f38)=true)
  (a39:Jo K mainGlobals "_law_standing"=some (some (.ref f39)))(l39:K.lookup f39=some ⟨oc39,od39,.func (Ji "_law_standing" "_law_standing" (aB gY) (az gY) (ah gY) .none kV39 dc39 pm39 an39 cd39 ct39),sl39⟩)(c39:Js K cd39 "_law_standing"=true)(k39:Jq K (.ref f39)=true)
  (a40:Jo K mainGlobals "_law_reckoned"=some (some (.ref f40)))(l40:K.lookup f40=some ⟨oc40,od40,.func (Ji "_law_reckoned" "_law_reckoned" (aB fY) (az fY) (ah fY) .none kV40 dc40 pm40 an40 cd40 ct40),sl40⟩)(c40:Js K cd40 "_law_reckoned"=true)(k40:Jq K (.ref f40)=true)
  (a41:Jo K mainGlobals "_law_called"=some (some (.ref f41)))(l41:K.lookup f41=some ⟨oc41,od41,.func (Ji "_law_called" "_law_called" (aB fZ) (az fZ) (ah fZ) .none kV41 dc41 pm41 an41 cd41 ct41),sl41⟩)(c41:Js K cd41 "_law_called"=true)(k41:Jq K (.ref f41)=true)
  (a42:Jo K mainGlobals "_law_same"=some (some (.ref f42)))(l42:K.lookup f42=some ⟨oc42,od42,.func (Ji "_law_same" "_law_same" (aB gZ) (az gZ) (ah gZ) .none kV42 dc42 pm42 an42 cd42 ct42),sl42⟩)(c42:Js K cd42 "_law_same"=true)(k42:Jq K (.ref f42)=true)
  (a43:Jo K mainGlobals "_law_right"=some (some (.ref f43)))(l43:K.lookup f43=some ⟨oc43,od43,.func (Ji "_law_right" "_law_right" (aB iQ) (az iQ) (ah iQ) .none kV43 dc43 pm43 an43 cd43 ct43),sl43⟩)(c43:Js K cd43 "_law_right"=true)(k43:Jq K (.ref f43)=true)
  (a44:Jo K mainGlobals "law"=some (some (.ref f44)))(l44:K.lookup f44=some ⟨oc44,od44,.func (Ji "law" "law" (aB iR) (az iR) (ah iR) .none kV44 dc44 pm44 an44 cd44 ct44),sl44⟩)(c44:Js K cd44 "law"=true)(k44:Jq K (.ref f44)=true)
  (x_MONTH_DAYS:Jo K mainGlobals "MONTH_DAYS"=some (some (.ref A_MONTH_DAYS)))(y_MONTH_DAYS:K.lookup A_MONTH_DAYS=some ⟨.type "tuple",dd_MONTH_DAYS,.seq its_MONTH_DAYS n_MONTH_DAYS,sl_MONTH_DAYS⟩)(z_MONTH_DAYS:aH [V.int 31,V.int 28,V.int 31,V.int 30,V.int 31,V.int 30,V.int 31,V.int 31,V.int 30,V.int 31,V.int 30,V.int 31] its_MONTH_DAYS.toList)(w_MONTH_DAYS:its_MONTH_DAYS.size≤sizeLine)
  (x_FIRST_YEAR:Jo K mainGlobals "FIRST_YEAR"=some (some u_FIRST_YEAR))(r_FIRST_YEAR:aG (.int 2000) u_FIRST_YEAR)
  (x_ROUND_DAYS:Jo K mainGlobals "ROUND_DAYS"=some (some u_ROUND_DAYS))(r_ROUND_DAYS:aG (.int 146097) u_ROUND_DAYS)
  (x_ROUND_YEARS:Jo K mainGlobals "ROUND_YEARS"=some (some u_ROUND_YEARS))(r_ROUND_YEARS:aG (.int 400) u_ROUND_YEARS)
  (x_NoPaper:Jo K mainGlobals "NoPaper"=some (some (.ref u_NoPaper)))
  (x_Paper:Jo K mainGlobals "Paper"=some (some (.ref u_Paper)))
  (pg_Paper:Mn K u_Paper Str.empty=true)
  (hd_Paper:Me K u_Paper=true)
  (po_Paper:MW K u_Paper=true)
  (sa_Paper:Kr K (.ref u_Paper) "__setattr__"=some (some (.builtin "object.__setattr__")))
  (mk_Paper:Nn K u_Paper=true)
  (kc_Paper:Jq K (.ref u_Paper)=true)
  (na_Paper_name:Kr K (.ref u_Paper) "name"=some none)
  (na_Paper_coming:Kr K (.ref u_Paper) "coming"=some none)
  (na_Paper_kind:Kr K (.ref u_Paper) "kind"=some none)
  (na_Paper_makers:Kr K (.ref u_Paper) "makers"=some none)
  (na_Paper_happenings:Kr K (.ref u_Paper) "happenings"=some none)
  (n_abs:Jo K mainGlobals "abs"=some none)
  (n_all:Jo K mainGlobals "all"=some none)
  (n_any:Jo K mainGlobals "any"=some none)
  (n_bool:Jo K mainGlobals "bool"=some none)
  (n_dict:Jo K mainGlobals "dict"=some none)
  (n_divmod:Jo K mainGlobals "divmod"=some none)
  (n_int:Jo K mainGlobals "int"=some none)
  (n_isinstance:Jo K mainGlobals "isinstance"=some none)
  (n_len:Jo K mainGlobals "len"=some none)
  (n_max:Jo K mainGlobals "max"=some none)
  (n_min:Jo K mainGlobals "min"=some none)
  (n_range:Jo K mainGlobals "range"=some none)
  (n_sorted:Jo K mainGlobals "sorted"=some none)
  (n_str:Jo K mainGlobals "str"=some none)
  (n_sum:Jo K mainGlobals "sum"=some none)
  (n_tuple:Jo K mainGlobals "tuple"=some none):∃t:cJ,Txt K mg t:=by
 have F0:=bz (st:=iq) l0 c0 k0
 have F1:=bz (st:=iu) l1 c1 k1
 have F2:=bz (st:=iw) l2 c2 k2
 have F3:=bz (st:=ix) l3 c3 k3
 have F4:=bz (st:=iy) l4 c4 k4
 have F5:=bz (st:=iz) l5 c5 k5
 have F6:=bz (st:=gJ) l6 c6 k6
 have F7:=bz (st:=iA) l7 c7 k7
 have F8:=bz (st:=gK) l8 c8 k8
 have F9:=bz (st:=iB) l9 c9 k9
 have F10:=bz (st:=gL) l10 c10 k10
 have F11:=bz (st:=iC) l11 c11 k11
 have F12:=bz (st:=fW) l12 c12 k12
 have F13:=bz (st:=gM) l13 c13 k13
 have F14:=bz (st:=gN) l14 c14 k14
 have F15:=bz (st:=gO) l15 c15 k15
 have F16:=bz (st:=gP) l16 c16 k16
 have F17:=bz (st:=gQ) l17 c17 k17
 have F18:=bz (st:=iD) l18 c18 k18
 have F19:=bz (st:=gR) l19 c19 k19
 have F20:=bz (st:=iE) l20 c20 k20
 have F21:=bz (st:=gS) l21 c21 k21
 have F22:=bz (st:=gT) l22 c22 k22
 have F23:=bz (st:=iF) l23 c23 k23
 have F24:=bz (st:=iG) l24 c24 k24
 have F25:=bz (st:=iH) l25 c25 k25
 have F26:=bz (st:=iI) l26 c26 k26
 have F27:=bz (st:=iJ) l27 c27 k27
 have F28:=bz (st:=fX) l28 c28 k28
 have F29:=bz (st:=iK) l29 c29 k29
 have F30:=bz (st:=iL) l30 c30 k30
 have F31:=bz (st:=gU) l31 c31 k31
 have F32:=bz (st:=iM) l32 c32 k32
 have F33:=bz (st:=iN) l33 c33 k33
 have F34:=bz (st:=iO) l34 c34 k34
 have F35:=bz (st:=gW) l35 c35 k35
 have F36:=bz (st:=iP) l36 c36 k36
 have F37:=bz (st:=gX) l37 c37 k37
 have F38:=bz (st:=fg) l38 c38 k38
 have F39:=bz (st:=gY) l39 c39 k39
 have F40:=bz (st:=fY) l40 c40 k40
 have F41:=bz (st:=fZ) l41 c41 k41
 have F42:=bz (st:=gZ) l42 c42 k42
 have F43:=bz (st:=iQ) l43 c43 k43
 have F44:=bz (st:=iR) l44 c44 k44
 refine⟨⟨f0,Ji "is_leap" "is_leap" (aB iq) (az iq) (ah iq) .none kV0 dc0 pm0 an0 cd0 ct0,f1,Ji "month_length" "month_length" (aB iu) (az iu) (ah iu) .none kV1 dc1 pm1 an1 cd1 ct1,f2,Ji "leaps_before" "leaps_before" (aB iw) (az iw) (ah iw) .none kV2 dc2 pm2 an2 cd2 ct2,f3,Ji "year_start" "year_start" (aB ix) (az ix) (ah ix) .none kV3 dc3 pm3 an3 cd3 ct3,f4,Ji "year_of" "year_of" (aB iy) (az iy) (ah iy) .none kV4 dc4 pm4 an4 cd4 ct4,f5,Ji "parts_of" "parts_of" (aB iz) (az iz) (ah iz) .none kV5 dc5 pm5 an5 cd5 ct5,f6,Ji "number_of" "number_of" (aB gJ) (az gJ) (ah gJ) .none kV6 dc6 pm6 an6 cd6 ct6,f7,Ji "later" "later" (aB iA) (az iA) (ah iA) .none kV7 dc7 pm7 an7 cd7 ct7,f8,Ji "__init__" "Paper.__init__" (aB gK) (az gK) (ah gK) .none kV8 dc8 pm8 an8 cd8 ct8,f9,Ji "place_of" "place_of" (aB iB) (az iB) (ah iB) .none kV9 dc9 pm9 an9 cd9 ct9,f10,Ji "comings" "comings" (aB gL) (az gL) (ah gL) .none kV10 dc10 pm10 an10 cd10 ct10,f11,Ji "coming_of" "coming_of" (aB iC) (az iC) (ah iC) .none kV11 dc11 pm11 an11 cd11 ct11,f12,Ji "maker_comings" "maker_comings" (aB fW) (az fW) (ah fW) .none kV12 dc12 pm12 an12 cd12 ct12,f13,Ji "makers" "makers" (aB gM) (az gM) (ah gM) .none kV13 dc13 pm13 an13 cd13 ct13,f14,Ji "latest" "latest" (aB gN) (az gN) (ah gN) .none kV14 dc14 pm14 an14 cd14 ct14,f15,Ji "rules_on" "rules_on" (aB gO) (az gO) (ah gO) .none kV15 dc15 pm15 an15 cd15 ct15,f16,Ji "happened" "happened" (aB gP) (az gP) (ah gP) .none kV16 dc16 pm16 an16 cd16 ct16,f17,Ji "base_of" "base_of" (aB gQ) (az gQ) (ah gQ) .none kV17 dc17 pm17 an17 cd17 ct17,f18,Ji "reckoned" "reckoned" (aB iD) (az iD) (ah iD) .none kV18 dc18 pm18 an18 cd18 ct18,f19,Ji "rules_over" "rules_over" (aB gR) (az gR) (ah gR) .none kV19 dc19 pm19 an19 cd19 ct19,f20,Ji "has_gone" "has_gone" (aB iE) (az iE) (ah iE) .none kV20 dc20 pm20 an20 cd20 ct20,f21,Ji "staying" "staying" (aB gS) (az gS) (ah gS) .none kV21 dc21 pm21 an21 cd21 ct21,f22,Ji "going" "going" (aB gT) (az gT) (ah gT) .none kV22 dc22 pm22 an22 cd22 ct22,f23,Ji "stays" "stays" (aB iF) (az iF) (ah iF) .none kV23 dc23 pm23 an23 cd23 ct23,f24,Ji "goes" "goes" (aB iG) (az iG) (ah iG) .none kV24 dc24 pm24 an24 cd24 ct24,f25,Ji "_law_cell" "_law_cell" (aB iH) (az iH) (ah iH) .none kV25 dc25 pm25 an25 cd25 ct25,f26,Ji "_law_purse" "_law_purse" (aB iI) (az iI) (ah iI) .none kV26 dc26 pm26 an26 cd26 ct26,f27,Ji "_law_take" "_law_take" (aB iJ) (az iJ) (ah iJ) .none kV27 dc27 pm27 an27 cd27 ct27,f28,Ji "_law_names" "_law_names" (aB fX) (az fX) (ah fX) .none kV28 dc28 pm28 an28 cd28 ct28,f29,Ji "_law_month" "_law_month" (aB iK) (az iK) (ah iK) .none kV29 dc29 pm29 an29 cd29 ct29,f30,Ji "_law_year" "_law_year" (aB iL) (az iL) (ah iL) .none kV30 dc30 pm30 an30 cd30 ct30,f31,Ji "_law_day" "_law_day" (aB gU) (az gU) (ah gU) .none kV31 dc31 pm31 an31 cd31 ct31,f32,Ji "_law_later" "_law_later" (aB iM) (az iM) (ah iM) .none kV32 dc32 pm32 an32 cd32 ct32,f33,Ji "_law_drawn_day" "_law_drawn_day" (aB iN) (az iN) (ah iN) .none kV33 dc33 pm33 an33 cd33 ct33,f34,Ji "_law_parts" "_law_parts" (aB iO) (az iO) (ah iO) .none kV34 dc34 pm34 an34 cd34 ct34,f35,Ji "_law_deed" "_law_deed" (aB gW) (az gW) (ah gW) .none kV35 dc35 pm35 an35 cd35 ct35,f36,Ji "_law_quarrels" "_law_quarrels" (aB iP) (az iP) (ah iP) .none kV36 dc36 pm36 an36 cd36 ct36,f37,Ji "_law_deeds" "_law_deeds" (aB gX) (az gX) (ah gX) .none kV37 dc37 pm37 an37 cd37 ct37,f38,Ji "_law_web" "_law_web" (aB fg) (az fg) (ah fg) .none kV38 dc38 pm38 an38 cd38 ct38,f39,Ji "_law_standing" "_law_standing" (aB gY) (az gY) (ah gY) .none kV39 dc39 pm39 an39 cd39 ct39,f40,Ji "_law_reckoned" "_law_reckoned" (aB fY) (az fY) (ah fY) .none kV40 dc40 pm40 an40 cd40 ct40,f41,Ji "_law_called" "_law_called" (aB fZ) (az fZ) (ah fZ) .none kV41 dc41 pm41 an41 cd41 ct41,f42,Ji "_law_same" "_law_same" (aB gZ) (az gZ) (ah gZ) .none kV42 dc42 pm42 an42 cd42 ct42,f43,Ji "_law_right" "_law_right" (aB iQ) (az iQ) (ah iQ) .none kV43 dc43 pm43 an43 cd43 ct43,f44,Ji "law" "law" (aB iR) (az iR) (ah iR) .none kV44 dc44 pm44 an44 cd44 ct44,.ref A_MONTH_DAYS,u_FIRST_YEAR,u_ROUND_DAYS,u_ROUND_YEARS,u_NoPaper,u_Paper⟩,?_⟩
 exact⟨(F0),
  (Jv X G a0),
  (F0.binds (ps:=["year"]) fun _ _ _ _ _ _ us hl=> by obtain⟨a,rfl⟩:=fy (us:=us) hl;rfl),
  (F1),
  (Jv X G a1),
  (F1.binds (ps:=["year","month"]) fun _ _ _ _ _ _ us hl=> by obtain⟨a,b,rfl⟩:=eU (us:=us) hl;rfl),
  (F2),
  (Jv X G a2),
  (F2.binds (ps:=["year"]) fun _ _ _ _ _ _ us hl=> by obtain⟨a,rfl⟩:=fy (us:=us) hl;rfl),
  (F3),
  (Jv X G a3),
  (F3.binds (ps:=["year"]) fun _ _ _ _ _ _ us hl=> by obtain⟨a,rfl⟩:=fy (us:=us) hl;rfl),
  (F4),
  (Jv X G a4),
  (F4.binds (ps:=["day"]) fun _ _ _ _ _ _ us hl=> by obtain⟨a,rfl⟩:=fy (us:=us) hl;rfl),
  (F5),
  (Jv X G a5),
  (F5.binds (ps:=["day"]) fun _ _ _ _ _ _ us hl=> by obtain⟨a,rfl⟩:=fy (us:=us) hl;rfl),
  (F6),
  (Jv X G a6),
  (F6.binds (ps:=["year","month","day"]) fun _ _ _ _ _ _ us hl=> by obtain⟨a,b,c,rfl⟩:=fh (us:=us) hl;rfl),
  (F7),
  (Jv X G a7),
  (F7.binds (ps:=["day","many","unit"]) fun _ _ _ _ _ _ us hl=> by obtain⟨a,b,c,rfl⟩:=fh (us:=us) hl;rfl),
  (F8),
  (F8.binds (ps:=["self","deeds","name"]) fun _ _ _ _ _ _ us hl=> by obtain⟨a,b,c,rfl⟩:=fh (us:=us) hl;rfl),
  (F9),
  (Jv X G a9),
  (F9.binds (ps:=["deed"]) fun _ _ _ _ _ _ us hl=> by obtain⟨a,rfl⟩:=fy (us:=us) hl;rfl),
  (F10),
  (Jv X G a10),
  (F10.binds (ps:=["deeds"]) fun _ _ _ _ _ _ us hl=> by obtain⟨a,rfl⟩:=fy (us:=us) hl;rfl),
  (F11),
  (Jv X G a11),
  (F11.binds (ps:=["deeds","paper"]) fun _ _ _ _ _ _ us hl=> by obtain⟨a,b,rfl⟩:=eU (us:=us) hl;rfl),
  (F12),
  (Jv X G a12),
  (F12.binds (ps:=["deeds","coming"]) fun _ _ _ _ _ _ us hl=> by obtain⟨a,b,rfl⟩:=eU (us:=us) hl;rfl),
  (F13),
  (Jv X G a13),
  (F13.binds (ps:=["deeds","paper"]) fun _ _ _ _ _ _ us hl=> by obtain⟨a,b,rfl⟩:=eU (us:=us) hl;rfl),
  (F14),
  (Jv X G a14),
  (F14.binds (ps:=["deeds","words","day"]) fun _ _ _ _ _ _ us hl=> by obtain⟨a,b,c,rfl⟩:=fh (us:=us) hl;rfl),
  (F15),
  (Jv X G a15),
  (F15.binds (ps:=["deeds","day"]) fun _ _ _ _ _ _ us hl=> by obtain⟨a,b,rfl⟩:=eU (us:=us) hl;rfl),
  (F16),
  (Jv X G a16),
  (F16.binds (ps:=["paper","happening"]) fun _ _ _ _ _ _ us hl=> by obtain⟨a,b,rfl⟩:=eU (us:=us) hl;rfl),
  (F17),
  (Jv X G a17),
  (F17.binds (ps:=["paper","since","day"]) fun _ _ _ _ _ _ us hl=> by obtain⟨a,b,c,rfl⟩:=fh (us:=us) hl;rfl),
  (F18),
  (Jv X G a18),
  (F18.binds (ps:=["paper","parts","day"]) fun _ _ _ _ _ _ us hl=> by obtain⟨a,b,c,rfl⟩:=fh (us:=us) hl;rfl),
  (F19),
  (Jv X G a19),
  (F19.binds (ps:=["paper","rules","day"]) fun _ _ _ _ _ _ us hl=> by obtain⟨a,b,c,rfl⟩:=fh (us:=us) hl;rfl),
  (F20),
  (Jv X G a20),
  (F20.binds (ps:=["gone","paper","day"]) fun _ _ _ _ _ _ us hl=> by obtain⟨a,b,c,rfl⟩:=fh (us:=us) hl;rfl),
  (F21),
  (Jv X G a21),
  (F21.binds (ps:=["paper","rules","day","gone"]) fun _ _ _ _ _ _ us hl=> by obtain⟨a,b,c,d,rfl⟩:=jV (us:=us) hl;rfl),
  (F22),
  (Jv X G a22),
  (F22.binds (ps:=["paper","rules","day","gone"]) fun _ _ _ _ _ _ us hl=> by obtain⟨a,b,c,d,rfl⟩:=jV (us:=us) hl;rfl),
  (F23),
  (Jv X G a23),
  (F23.binds (ps:=["deeds","day","paper","gone"]) fun _ _ _ _ _ _ us hl=> by obtain⟨a,b,c,d,rfl⟩:=jV (us:=us) hl;rfl),
  (F24),
  (Jv X G a24),
  (F24.binds (ps:=["deeds","day","paper","gone"]) fun _ _ _ _ _ _ us hl=> by obtain⟨a,b,c,d,rfl⟩:=jV (us:=us) hl;rfl),
  (F25),
  (Jv X G a25),
  (F25.binds (ps:=["_law_script","_law_k"]) fun _ _ _ _ _ _ us hl=> by obtain⟨a,b,rfl⟩:=eU (us:=us) hl;rfl),
  (F26),
  (Jv X G a26),
  (F26.binds (ps:=["_law_cell_here"]) fun _ _ _ _ _ _ us hl=> by obtain⟨a,rfl⟩:=fy (us:=us) hl;rfl),
  (F27),
  (Jv X G a27),
  (F27.binds (ps:=["_law_purse_here","_law_many"]) fun _ _ _ _ _ _ us hl=> by obtain⟨a,b,rfl⟩:=eU (us:=us) hl;rfl),
  (F28),
  (Jv X G a28),
  (F28.binds (ps:=["_law_purse_here","_law_many"]) fun _ _ _ _ _ _ us hl=> by obtain⟨a,b,rfl⟩:=eU (us:=us) hl;rfl),
  (F29),
  (Jv X G a29),
  (F29.binds (ps:=["_law_year_here","_law_month_here"]) fun _ _ _ _ _ _ us hl=> by obtain⟨a,b,rfl⟩:=eU (us:=us) hl;rfl),
  (F30),
  (Jv X G a30),
  (F30.binds (ps:=["_law_year_here"]) fun _ _ _ _ _ _ us hl=> by obtain⟨a,rfl⟩:=fy (us:=us) hl;rfl),
  (F31),
  (Jv X G a31),
  (F31.binds (ps:=["_law_year_here","_law_month_here","_law_number"]) fun _ _ _ _ _ _ us hl=> by obtain⟨a,b,c,rfl⟩:=fh (us:=us) hl;rfl),
  (F32),
  (Jv X G a32),
  (F32.binds (ps:=["_law_day_here","_law_many","_law_unit"]) fun _ _ _ _ _ _ us hl=> by obtain⟨a,b,c,rfl⟩:=fh (us:=us) hl;rfl),
  (F33),
  (Jv X G a33),
  (F33.binds (ps:=["_law_purse_here","_law_far"]) fun _ _ _ _ _ _ us hl=> by obtain⟨a,b,rfl⟩:=eU (us:=us) hl;rfl),
  (F34),
  (Jv X G a34),
  (F34.binds (ps:=["_law_purse_here","_law_word","_law_names_here","_law_kinds","_law_far"]) fun _ _ _ _ _ _ us hl=> by obtain⟨a,b,c,d,p,rfl⟩:=vG (us:=us) hl;rfl),
  (F35),
  (Jv X G a35),
  (F35.binds (ps:=["_law_purse_here","_law_word","_law_names_here","_law_kinds","_law_far"]) fun _ _ _ _ _ _ us hl=> by obtain⟨a,b,c,d,p,rfl⟩:=vG (us:=us) hl;rfl),
  (F36),
  (Jv X G a36),
  (F36.binds (ps:=["_law_one","_law_other"]) fun _ _ _ _ _ _ us hl=> by obtain⟨a,b,rfl⟩:=eU (us:=us) hl;rfl),
  (F37),
  (Jv X G a37),
  (F37.binds (ps:=["_law_script","_law_menu","_law_most"]) fun _ _ _ _ _ _ us hl=> by obtain⟨a,b,c,rfl⟩:=fh (us:=us) hl;rfl),
  (F38),
  (Jv X G a38),
  (F38.binds (ps:=["_law_deeds_here"]) fun _ _ _ _ _ _ us hl=> by obtain⟨a,rfl⟩:=fy (us:=us) hl;rfl),
  (F39),
  (Jv X G a39),
  (F39.binds (ps:=["_law_deeds_here","_law_day_here","_law_word","_law_ending"]) fun _ _ _ _ _ _ us hl=> by obtain⟨a,b,c,d,rfl⟩:=jV (us:=us) hl;rfl),
  (F40),
  (Jv X G a40),
  (F40.binds (ps:=["_law_deeds_here","_law_parts_here","_law_name","_law_day_here","_law_coming"]) fun _ _ _ _ _ _ us hl=> by obtain⟨a,b,c,d,p,rfl⟩:=vG (us:=us) hl;rfl),
  (F41),
  (Jv X G a41),
  (F41.binds (ps:=["_law_deeds_here","_law_day_here","_law_name","_law_gone"]) fun _ _ _ _ _ _ us hl=> by obtain⟨a,b,c,d,rfl⟩:=jV (us:=us) hl;rfl),
  (F42),
  (Jv X G a42),
  (F42.binds (ps:=["_law_told","_law_due"]) fun _ _ _ _ _ _ us hl=> by obtain⟨a,b,rfl⟩:=eU (us:=us) hl;rfl),
  (F43),
  (Jv X G a43),
  (F43.binds (ps:=["_law_deeds_here","_law_day_here","_law_gone"]) fun _ _ _ _ _ _ us hl=> by obtain⟨a,b,c,rfl⟩:=fh (us:=us) hl;rfl),
  (F44),
  (Jv X G a44),
  (F44.binds (ps:=["_law_script"]) fun _ _ _ _ _ _ us hl=> by obtain⟨a,rfl⟩:=fy (us:=us) hl;rfl),
  (fun s v=> .of_eq rfl),
  (Jv X G x_MONTH_DAYS),
  (⟨A_MONTH_DAYS,rfl,fun H=> .inr ⟨_,_,_,y_MONTH_DAYS,rfl,rfl,w_MONTH_DAYS,z_MONTH_DAYS⟩⟩),
  (Jv X G x_FIRST_YEAR),
  (r_FIRST_YEAR),
  (Jv X G x_ROUND_DAYS),
  (r_ROUND_DAYS),
  (Jv X G x_ROUND_YEARS),
  (r_ROUND_YEARS),
  (Jv X G x_NoPaper),
  (Jv X G x_Paper),
  (⟨pg_Paper,hd_Paper,po_Paper,sa_Paper⟩),
  (⟨mk_Paper,a8,i8,kc_Paper⟩),
  (na_Paper_name),
  (na_Paper_coming),
  (na_Paper_kind),
  (na_Paper_makers),
  (na_Paper_happenings),
  (JZ X G n_abs),
  (JZ X G n_all),
  (JZ X G n_any),
  (JZ X G n_bool),
  (JZ X G n_dict),
  (JZ X G n_divmod),
  (JZ X G n_int),
  (JZ X G n_isinstance),
  (JZ X G n_len),
  (JZ X G n_max),
  (JZ X G n_min),
  (JZ X G n_range),
  (JZ X G n_sorted),
  (JZ X G n_str),
  (JZ X G n_sum),
  (JZ X G n_tuple)⟩
end K16
open PySem L2
local macro_rules | `(tactic| walk_at "o")=> `(tactic| first | exact NC rfl | exact Ms rfl)
local macro_rules | `(tactic| walk_at "rd") => rzT "wM wL wR wQ wN lU gn eO tC j7 xb rI fF rU xf xh ur xp tB wu wx wy wD wF wG wJ uA xB xA pG xC xD pd lT pb wV wX DM DN DP DQ DR DU DV DW jz j9 i9 L2.start Jj Kc JC Kw Jx K1 Kx JX Ll Lm Mu Mv Mw K9 KS LH LI KL exists_eq_left' exists_eq_left exists_and_left exists_and_right V.int.injEq V.bl.injEq V.str.injEq V.ref.injEq J3 and_true true_and Mx exists_const decide_eq_true_eq My Mz Mi Mj Lp decide_eq_false_iff_not and_assoc bO LW LN LX L2.cxK L2.cmK or_true true_or"
namespace K16
open Day
theorem Ae:bH (ah gJ) ["year","month","day","before"] ["other","year"] 1 [0] {kind:=Jt,names:=[ (Je ".0",PySem.NameKind.local),(Je "other",PySem.NameKind.local),(Je "month_length",J7),(Je "year",Ju)],isGenerator:=false,isCoroutine:=false,more:=[]:JU}:=⟨rfl,by decide+kernel,by decide+kernel,by decide+kernel,rfl,by decide+kernel,by decide+kernel,by decide+kernel,rfl⟩
section
variable {P:Program} {w:World} {K:Jd} {mg:Str→Option Value} {base:Heap} {t:cJ}
def Af:Sp:=fun vs H Q _=> ∃(y:Int),vs=[.int y]∧Q (.bl (fv y)) H
theorem GS(T:Txt K mg t):aK P w K mg base CX0 1 t.a_x0 t.d_x0 ["year"] Af:=by
 refine T.F_x0.ok GC (fun vs H Q E h=> ?_) (fun cdv A outer s H vs Q E hr h=> ?_)
 ·obtain⟨y,rfl,_⟩:=h;rfl
 ·obtain⟨y,rfl,k⟩:=h
  refine⟨_,(dE (dY (wI (pA mh (bh dZ (pv 0) aT) aT (ay _)) (ua (wH (pA mh (bh dZ (pv 0) aT) aT (ay _)) (ua (pA Cw (bh dZ (pv 0) aT) aT (ay _)))))))),?_⟩
  walk_at "rd"
  have e:fv y=(decide (y % 400=0) || (decide (y % 4=0) && !decide (y % 100=0))):=rfl
  rw [e] at k
  by_cases h1:y % 400=0
  ·simpa [h1] using k
  ·by_cases h2:y % 4=0
   ·simpa [h1,h2] using k
   ·simpa [h1,h2] using k
def Ag:Sp:=fun vs H Q _=> ∃(y m:Int),vs=[.int y,.int m]∧1≤m∧m≤12∧Q (.int (aX y m)) H
theorem vH(T:Txt K mg t):aK P w K mg base CX0 2 t.a_x1 t.d_x1 ["year","month"] Ag:=by
 have G_x0:=GS (P:=P) (w:=w) (base:=base) T
 refine T.F_x1.ok GF (fun vs H Q E h=> ?_) (fun cdv A outer s H vs Q E hr h=> ?_)
 ·obtain⟨y,m,rfl,_⟩:=h;rfl
 ·obtain⟨y,m,rfl,h1,h2,k⟩:=h
  obtain⟨a,ea,hM⟩:=T.e_MONTH_DAYS
  have T_r:aG (.ref a) t.u_MONTH_DAYS:=ea
  refine⟨_,(cx (jy (PW.pt (wB (gr mh (pv 1) aT (ay _)) (wz (wt (ax G_x0 (hr.mono (by decide)) rfl T.m_x0 T.F_x0.kp T.b_x0 .nil av (bx (pv 0) bZ)))))) (dE (dY aT)) jx)
   (dE (dY (fK aE (j6 rfl T.c_MONTH_DAYS T_r) (bh cK (pv 1) aT) (fun _ _=> rfl))))),?_⟩
  walk_at "rd"
  simp only [Af]
  walk_at "rd"
  have fin:∀{v:Int},v=aX y m→Q (.int v) H:=fun e=> by rw [e];exact k
  have tail:aX y m=vi.getD (m - 1).toNat 0→pK K (.ref a) (.int (m - 1)) H Q:=fun e=> by
   refine⟨a,_,m - 1,.int (aX y m),rfl,rfl,hM H,?_,k⟩
   rw [e]
   rcases tm h1 h2 with z | z | z | z | z | z | z | z | z | z | z | z <;> subst z <;> rfl
  by_cases hm:m=2
  ·rw [if_pos hm]
   by_cases hl:fv y=true
   ·rw [if_pos hl]
    exact fin (by unfold aX;rw [if_pos ⟨hm,hl⟩])
   ·rw [if_neg hl]
    exact tail (by unfold aX;rw [if_neg (fun z=> hl z.2)])
  ·rw [if_neg hm]
   exact tail (vo hm)
def Ah:Sp:=fun vs H Q _=> ∃(y:Int),vs=[.int y]∧Q (.int (lb y)) H
theorem GU(T:Txt K mg t):aK P w K mg base CX0 1 t.a_x2 t.d_x2 ["year"] Ah:=by
 refine T.F_x2.ok zV (fun vs H Q E h=> ?_) (fun cdv A outer s H vs Q E hr h=> ?_)
 ·obtain⟨y,rfl,_⟩:=h;rfl
 ·obtain⟨y,rfl,k⟩:=h
  refine⟨_,(cx (di (i:=1) zV.nd rfl (by walk_at "o") (bh cK (pv 0) aT))
   (dE (dY (bh bw (bh cK (bh fG (pv 1) aT) (bh fG (pv 1) aT)) (bh fG (pv 1) aT))))),?_⟩
  walk_at "rd"
  exact k
def tH:Sp:=fun vs H Q _=> ∃(y:Int),vs=[.int y]∧Q (.int (bD y)) H
theorem vI(T:Txt K mg t):aK P w K mg base CX0 2 t.a_x3 t.d_x3 ["year"] tH:=by
 have G_x2:=GU (P:=P) (w:=w) (base:=base) T
 refine T.F_x3.ok GG (fun vs H Q E h=> ?_) (fun cdv A outer s H vs Q E hr h=> ?_)
 ·obtain⟨y,rfl,_⟩:=h;rfl
 ·obtain⟨y,rfl,k⟩:=h
  refine⟨_,(dE (dY (bh cK (bh bw (bh eo aT (bh cK (pv 0) (j6 rfl T.c_FIRST_YEAR T.r_FIRST_YEAR))) (ax G_x2 (hr.mono (by decide)) rfl T.m_x2 T.F_x2.kp T.b_x2 .nil av (bx (pv 0) bZ))) (ax G_x2 (hr.mono (by decide)) rfl T.m_x2 T.F_x2.kp T.b_x2 .nil av (bx (j6 rfl T.c_FIRST_YEAR T.r_FIRST_YEAR) bZ))))),?_⟩
  walk_at "rd"
  simp only [Ah]
  walk_at "rd"
  exact k
def Ai:Sp:=fun vs H Q _=> ∃(d:Int),vs=[.int d]∧Q (.int (lr d)) H
theorem GV(T:Txt K mg t):aK P w K mg base CX0 3 t.a_x4 t.d_x4 ["day"] Ai:=by
 have G_x3:=vI (P:=P) (w:=w) (base:=base) T
 refine T.F_x4.ok zW (fun vs H Q E h=> ?_) (fun cdv A outer s H vs Q E hr h=> ?_)
 ·obtain⟨d,rfl,_⟩:=h;rfl
 ·obtain⟨d,rfl,k⟩:=h
  refine⟨_,(cx (di (i:=1) zW.nd rfl (by walk_at "o") (bh bw (j6 rfl T.c_FIRST_YEAR T.r_FIRST_YEAR) (bh fG (bh eo (pv 0) (j6 rfl T.c_ROUND_YEARS T.r_ROUND_YEARS)) (j6 rfl T.c_ROUND_DAYS T.r_ROUND_DAYS))))
   (cx (jy (gr kc (ax G_x3 (hr.mono (by decide)) rfl T.m_x3 T.F_x3.kp T.b_x3 .nil av (bx (pv 1) bZ)) (pv 0) (ay _)) (dE (dY (bh cK (pv 1) aT))) jx)
   (cx (jy (gr fH (ax G_x3 (hr.mono (by decide)) rfl T.m_x3 T.F_x3.kp T.b_x3 .nil av (bx (bh bw (pv 1) aT) bZ)) (pv 0) (ay _)) (dE (dY (bh bw (pv 1) aT))) jx)
   (dE (dY (pv 1)))))),?_⟩
  walk_at "rd"
  simp only [tH]
  walk_at "rd"
  unfold lr at k
  split
  ·rename_i h;rw [if_pos h] at k;exact k
  ·rename_i h;rw [if_neg h] at k
   split
   ·rename_i h;rw [if_pos h] at k;exact k
   ·rename_i h;rw [if_neg h] at k;exact k
def GW:Sp:=fun vs H Q _=> ∃(d:Int),vs=[.int d]∧∀(p:Addr)(H':Hp)(y m n:Int),ip d y m n→ar H H'→H p=none→H' p=some (.tup [.int y,.int m,.int n])→Q (.ref p) H'
theorem GX(T:Txt K mg t):aK P w K mg base CX0 4 t.a_x5 t.d_x5 ["day"] GW:=by
 have G_x4:=GV (P:=P) (w:=w) (base:=base) T
 have G_x3:=vI (P:=P) (w:=w) (base:=base) T
 have G_x1:=vH (P:=P) (w:=w) (base:=base) T
 refine T.F_x5.ok lA (fun vs H Q E h=> ?_) (fun cdv A outer s H vs Q E hr h=> ?_)
 ·obtain⟨d,rfl,_⟩:=h;rfl
 ·obtain⟨d,rfl,k⟩:=h
  refine⟨_,(cx (di (i:=1) lA.nd rfl (by walk_at "o") (ax G_x4 (hr.mono (by decide)) rfl T.m_x4 T.F_x4.kp T.b_x4 .nil av (bx (pv 0) bZ)))
   (cx (di (i:=2) lA.nd rfl (by walk_at "o") (bh cK (pv 0) (ax G_x3 (hr.mono (by decide)) rfl T.m_x3 T.F_x3.kp T.b_x3 .nil av (bx (pv 1) bZ))))
   (cx (di (i:=3) lA.nd rfl (by walk_at "o") aT)
   (cx (wZ Kd (gr uu (pv 2) (ax G_x1 (hr.mono (by decide)) rfl T.m_x1 T.F_x1.kp T.b_x1 .nil av (bx (pv 1) (bx (pv 3) bZ))) (ay _)) (cx (di (i:=2) lA.nd rfl (by walk_at "o") (bh cK (pv 2) (ax G_x1 (hr.mono (by decide)) rfl T.m_x1 T.F_x1.kp T.b_x1 .nil av (bx (pv 1) (bx (pv 3) bZ)))))
   (dE (di (i:=3) lA.nd rfl (by walk_at "o") (bh bw (pv 3) aT)))))
   (dE (dY (xE (bx (pv 1) (bx (pv 3) (bx (bh bw (pv 2) aT) bZ)))))))))),?_⟩
  walk_at "rd"
  simp only [Ai]
  walk_at "rd"
  simp only [tH]
  walk_at "rd"
  have yo:=FW d
  generalize lr d=y at*
  refine⟨fun m σ H'=> H'=H∧∃mo:Int,1≤mo∧mo≤12∧aN y mo≤d - bD y∧m=(12 - mo).toNat∧σ=[some (.int d),some (.int y),some (.int (d - bD y - aN y mo)),some (.int mo)],⟨11,rfl,1,by decide,by decide,?_,rfl,?_⟩,?_⟩
  ·rw [oA];omega
  ·rw [oA];simp
  ·rintro m σ H' ⟨rfl,mo,h1,h2,hb,rfl,rfl⟩
   walk_at "rd"
   simp only [Ag]
   walk_at "rd"
   refine⟨h1,h2,?_⟩
   have ys:=vk y
   have ba:=tu (y:=y) h1 h2
   split
   ·rename_i hge
    have lt12:mo < 12:=by
     by_cases z:mo < 12
     ·exact z
     ·have e:mo=12:=by omega
      subst e
      have:=(tq y);have:=oz y;omega
    refine⟨_,fun _ _ h=> h,h1,h2,(12 - (mo+1)).toNat,by omega,rfl,mo+1,by omega,by omega,?_,rfl,?_⟩
    ·rw [dB h1];omega
    ·rw [dB h1,show d - bD y - (aN y mo+aX y mo)=d - bD y - aN y mo - aX y mo by omega]
   ·rename_i hlt
    refine⟨by show 3≤sizeLine;decide,fun p hp=> ?_⟩
    refine k p _ y mo (d - bD y - aN y mo+1) ⟨h1,h2,by omega,by omega,by unfold fw;omega⟩ (ar.new hp) hp bj
def GY:Sp:=fun vs H Q _=> ∃(y m n:Int),vs=[.int y,.int m,.int n]∧1≤m∧m≤12∧∀H',ar H H'→Q (.int (fw y m n)) H'
theorem GZ(T:Txt K mg t):aK P w K mg base CX0 3 t.a_x6 t.d_x6 ["year","month","day"] GY:=by
 have G_x3:=vI (P:=P) (w:=w) (base:=base) T
 have G_x1:=vH (P:=P) (w:=w) (base:=base) T
 refine T.F_x6.ok zX (fun vs H Q E h=> ?_) (fun cdv A outer s H vs Q E hr h=> ?_)
 ·obtain⟨y,m,n,rfl,_⟩:=h;rfl
 ·obtain⟨y,m,n,rfl,h1,h2,k⟩:=h
  refine⟨_,(cx (di (i:=3) zX.nd rfl (by walk_at "o") (bX (ya rfl) rfl T.n_sum ND (bx (mn rfl Ae (uk rfl T.n_range (bx aT (bx (pv 1) bZ))) (fun _ _ _ _=> (aU (i:=0) Ae.nd rfl (by walk_at "o"))) (fun _ _ _ _=> x8) (fun _ _ _ _=> (ax G_x1 (hr.mono (by decide)) rfl T.m_x1 T.F_x1.kp T.b_x1 .nil av (bx (pv 1) (bx (pv 0) bZ))))) bZ)))
   (dE (dY (bh cK (bh bw (bh bw (ax G_x3 (hr.mono (by decide)) rfl T.m_x3 T.F_x3.kp T.b_x3 .nil av (bx (pv 0) bZ)) (pv 3)) (pv 2)) aT)))),?_⟩
  walk_at "rd"
  refine⟨by omega,by omega,?_⟩
  refine DX (fun i=> .int (aX y (1+(i:Int)))) (by omega) (fun i H' R hi s1 hR=> ?_) (fun D H' hD s1 e1=> ?_)
  ·walk_at "rd"
   exact⟨_,_,rfl,by omega,by omega,hR H' (ar.refl _)⟩
  ·refine⟨D,rfl,(Kn (m - 1).toNat).map fun(i:Nat)=> aX y (1+(i:Int)),aP.of (by rw [e1,JH];rfl),?_⟩
   simp only [tH]
   walk_at "rd"
   exact k H' s1
def g5(u:Str):Prop:=u="days"∨u="months"∨u="years"
def iS(d k:Int)(u:Str)(r:Int):Prop:=(u="days"∧r=d+k)∨(u="months"∧∃y m n,ip d y m n∧r=lu y m n k)∨(u="years"∧∃y m n,ip d y m n∧r=lu y m n (k*12))
theorem Aj:¬(("months":Str)="days"):=by decide+kernel
theorem Ak:¬(("years":Str)="days"):=by decide+kernel
theorem Al:¬(("months":Str)="years"):=by decide+kernel
def G0:Sp:=fun vs H Q _=> ∃(d k:Int)(u:Str),vs=[.int d,.int k,.str u]∧g5 u∧∀r H',iS d k u r→ar H H'→Q (.int r) H'
theorem G1(T:Txt K mg t):aK P w K mg base CX0 5 t.a_x7 t.d_x7 ["day","many","unit"] G0:=by
 have G_x5:=GX (P:=P) (w:=w) (base:=base) T
 have G_x1:=vH (P:=P) (w:=w) (base:=base) T
 have G_x6:=GZ (P:=P) (w:=w) (base:=base) T
 refine T.F_x7.ok lB (fun vs H Q E h=> ?_) (fun cdv A outer s H vs Q E hr h=> ?_)
 ·obtain⟨d,k,u,rfl,_⟩:=h;rfl
 ·obtain⟨d,mk,u,rfl,hu,k⟩:=h
  refine⟨_,(cx (jy (gr mh (pv 2) t7 (ay _)) (dE (dY (bh bw (pv 0) (pv 1)))) jx)
   (cx (di (i:=3) lB.nd rfl (by walk_at "o") (wK (gr mh (pv 2) t7 (ay _)) (bh eo (pv 1) aT) (pv 1)))
   (cx (di (i:=4) lB.nd rfl (by walk_at "o") (ax G_x5 (hr.mono (by decide)) rfl T.m_x5 T.F_x5.kp T.b_x5 .nil av (bx (pv 0) bZ)))
   (cx (di (i:=5) lB.nd rfl (by walk_at "o") (bh bw (bh cK (bh bw (bh eo (fK aE (pv 4) aT (fun _ _=> rfl)) aT) (fK aE (pv 4) aT (fun _ _=> rfl))) aT) (pv 3)))
   (cx (di (i:=6) lB.nd rfl (by walk_at "o") (bh fG (pv 5) aT))
   (cx (di (i:=7) lB.nd rfl (by walk_at "o") (bh bw (bh dZ (pv 5) aT) aT))
   (dE (dY (ax G_x6 (hr.mono (by decide)) rfl T.m_x6 T.F_x6.kp T.b_x6 .nil av (bx (pv 6) (bx (pv 7) (bx (bX (uw rfl) rfl T.n_min LQ (bx (fK aE (pv 4) aT (fun _ _=> rfl)) (bx (ax G_x1 (hr.mono (by decide)) rfl T.m_x1 T.F_x1.kp T.b_x1 .nil av (bx (pv 6) (bx (pv 7) bZ))) bZ))) bZ)))))))))))),?_⟩
  walk_at "rd"
  by_cases hd:u="days"
  ·rw [if_pos hd]
   exact k _ H (.inl ⟨hd,rfl⟩) (ar.refl _)
  ·rw [if_neg hd]
   by_cases hy:u="years"
   ·rw [if_pos hy]
    refine⟨d,rfl,fun p H' y m n D s1 _ e1=> ?_⟩
    refine kj (bB.of e1) rfl ⟨y,rfl,kj (bB.of e1) rfl ⟨m,rfl,kj (bB.of e1) rfl ?_⟩⟩
    refine⟨_,_,rfl,by omega,by omega,n,rfl,_,rfl,_,_,_,rfl,by omega,by omega,fun H2 s2=> ?_⟩
    exact k _ H2 (.inr (.inr ⟨hy,y,m,n,D,by unfold lu;rw [uG]⟩)) (s1.trans s2)
   ·rw [if_neg hy]
    have hm:u="months":=by rcases hu with z | z | z;exact absurd z hd;exact z;exact absurd z hy
    refine⟨d,rfl,fun p H' y m n D s1 _ e1=> ?_⟩
    refine kj (bB.of e1) rfl ⟨y,rfl,kj (bB.of e1) rfl ⟨m,rfl,kj (bB.of e1) rfl ?_⟩⟩
    refine⟨_,_,rfl,by omega,by omega,n,rfl,_,rfl,_,_,_,rfl,by omega,by omega,fun H2 s2=> ?_⟩
    exact k _ H2 (.inr (.inl ⟨hm,y,m,n,D,by unfold lu;rw [uG]⟩)) (s1.trans s2)
def F_x7:List PyData→(PyData→Prop)→Prop:=fun ds Q=> ∃(d i:Int)(u:Str),ds=[.int d,.int i,.str u]∧g5 u∧∀r,iS d i u r→Q (.int r)
theorem G2(T:Txt K mg t):aK P w K mg base CX0 5 t.a_x7 t.d_x7 ["day","many","unit"] (bo K F_x7):=
 (G1 T).imp fun vs H Q E uu58=> by
  obtain⟨O,ds,Qd,tr,hs,⟨d,i,u,e,hu,q⟩,k⟩:=uu58
  subst e
  cases hs with
  | cons a r=> cases r with
   | cons b r=> cases r with
    | cons c r=> cases r;cases a;cases b;cases c;exact⟨d,i,u,rfl,hu,fun z H' L s1=> k _ _ H' (q z L) s1 (.int _)⟩
end
end K16
open PySem L2
namespace K16
structure Pp where
 d:Int
 nm:Str
 kd:Str
 ms:List Str
def Pp.enc(p:Pp):PyData:= .tuple [.str (Jc "paper"),.int p.d,.str p.nm,.str p.kd,.tuple (p.ms.map .str)]
def Pp.key(p:Pp):Int×Str:=(p.d,p.nm)
def js:PyData→Int×Str
 | .tuple (_:: .int d:: .str n::_)=> (d,n)
 | _=> (0,Jc "")
def Pp.lt(a b:Pp):Prop:=aL a.key b.key=true
instance (a b:Pp):Decidable (a.lt b):=by unfold Pp.lt;infer_instance
theorem Am(p:Int×Str):aL p p=false:=by unfold aL;simp [List.lt_irrefl]
theorem vJ{a b c:Int×Str}(h1:aL a b=true)(h2:aL b c=true):aL a c=true:=by
 unfold aL at h1 h2⊢
 simp only [LG,Kh,decide_eq_true_eq] at h1 h2⊢
 rcases h1 with h1 | ⟨h1,h1'⟩ <;> rcases h2 with h2 | ⟨h2,h2'⟩
 ·left;omega
 ·left;omega
 ·left;omega
 ·right;exact⟨h1.trans h2,ON h1' h2'⟩
theorem tI{a b:Int×Str}(h:aL a b=true):¬aL b a=true:=fun z=> by
 have:=vJ h z
 rw [Am] at this;cases this
theorem An{a b:Int×Str}(h:a≠b):aL a b=true∨aL b a=true:=by
 have T:=zq (n:=2) (kp:=fun i=> if i=0 then a else b) (fun i j hi hj e=> by
  have:i=0∨i=1:=by omega
  have:j=0∨j=1:=by omega
  rcases ‹i=0∨i=1› with rfl | rfl <;> rcases ‹j=0∨j=1› with rfl | rfl
  ·rfl
  ·exact absurd e h
  ·exact absurd e.symm h
  ·rfl)
 have:=T.tot 0 1 (by omega) (by omega) (by omega)
 simp at this
 cases hb:aL b a with
 | true=> exact .inr rfl
 | false=> rw [hb] at this;exact .inl (by simpa using this)
theorem Pp.lt_tr{a b c:Pp}(h1:a.lt b)(h2:b.lt c):a.lt c:=vJ h1 h2
theorem lI{α:Type}{r:α→α→Prop}(as:∀a b,r a b→¬r b a):∀{l1 l2:List α},l1.Perm l2→l1.Pairwise r→l2.Pairwise r→l1=l2
 | [],l2,p,_,_=> by rw [p.nil_eq]
 | a::l1,[],p,_,_=> by have:=p.length_eq;simp at this
 | a::l1,b::l2,p,h1,h2=> by
  have e:a=b:=by
   have m1:a∈b::l2:=p.mem_iff.mp (by simp)
   have m2:b∈a::l1:=p.mem_iff.mpr (by simp)
   rcases Jy.mp m1 with e | m1
   ·exact e
   ·rcases Jy.mp m2 with e | m2
    ·exact e.symm
    ·exact absurd ((Kb.mp h1).1 b m2) (as _ _ ((Kb.mp h2).1 a m1))
  subst e
  rw [lI as ((List.perm_cons a).mp p) (Kb.mp h1).2 (Kb.mp h2).2]
def lJ(x:Pp):List Pp→List Pp
 | []=> [x]
 | y::l=> if x.lt y then x::y::l else y::lJ x l
def fi(ps:List Pp):List Pp:=ps.foldr lJ []
theorem vK(x:Pp):∀l,(lJ x l).Perm (x::l)
 | []=> .refl _
 | y::l=> by
  unfold lJ
  split
  ·exact .refl _
  ·exact((vK x l).cons y).trans (.swap x y l)
theorem jW:∀ps:List Pp,(fi ps).Perm ps
 | []=> .refl _
 | x::ps=> (vK x (fi ps)).trans ((jW ps).cons x)
theorem Ao{x:Pp}:∀{l:List Pp},(∀y∈l,y.nm≠x.nm)→l.Pairwise Pp.lt→(lJ x l).Pairwise Pp.lt
 | [],_,_=> Nl _ _
 | y::l,hn,h=> by
  have hp:=Kb.mp h
  unfold lJ
  split
  ·rename_i hl
   refine Kb.mpr ⟨fun z hz=> ?_,h⟩
   rcases Jy.mp hz with e | e
   ·subst e;exact hl
   ·exact Pp.lt_tr hl (hp.1 z e)
  ·rename_i hl
   refine Kb.mpr ⟨fun z hz=> ?_,Ao (fun z hz=> hn z (by simp [hz])) hp.2⟩
   rcases Jy.mp ((vK x l).mem_iff.mp hz) with e | e
   ·subst e
    rcases An (a:=y.key) (b:=z.key) (fun z=> hn y (by simp) (congrArg OX z)) with w | w
    ·exact w
    ·exact absurd w hl
   ·exact hp.1 z e
theorem oO:∀{ps:List Pp},(ps.map (·.nm)).Nodup→(fi ps).Pairwise Pp.lt
 | [],_=> .nil
 | x::ps,h=> by
  rw [Jj,KA] at h
  exact Ao (fun y hy e=> h.1 (by rw [←e];exact Jw.mpr ⟨y,(jW ps).mem_iff.mp hy,rfl⟩)) (oO h.2)
theorem tJ{ps:List Pp}{x:Pp}:x∈fi ps↔x∈ps:=(jW ps).mem_iff
theorem G3{ps:List Pp}:(fi ps).length=ps.length:=(jW ps).length_eq
theorem Pp.asym(a b:Pp)(h:a.lt b):¬b.lt a:=tI h
theorem G4{ps os:List Pp}(nd:(ps.map (·.nm)).Nodup)(hp:os.Perm ps)(hs:os.Pairwise Pp.lt):os=fi ps:=
 lI Pp.asym (hp.trans (jW ps).symm) hs (oO nd)
theorem vL{ps:List Pp}{f:Pp→Bool}(nd:(ps.map (·.nm)).Nodup):((ps.filter f).map (·.nm)).Nodup:=nd.sublist (KN.map _)
theorem Ap{ps:List Pp}{f:Pp→Bool}(nd:(ps.map (·.nm)).Nodup):fi (ps.filter f)=(fi ps).filter f:=
 (G4 (vL nd) ((jW ps).filter f) ((oO nd).sublist KN)).symm
theorem G5{ps:List Pp}{ds:List PyData}(nd:(ps.map (·.nm)).Nodup)(hp:ds.Perm (ps.map Pp.enc))(hs:ds.Pairwise fun a b=> aL (js a) (js b)=true):ds=(fi ps).map Pp.enc:=by
 refine lI (fun a b h=> tI h) (hp.trans ((jW ps).symm.map _)) hs ?_
 rw [Kf]
 exact oO nd
theorem Aq{ps:List Pp}(nd:(ps.map (·.nm)).Nodup){a b:Pp}(ha:a∈ps)(hb:b∈ps)(e:a.nm=b.nm):a=b:=by
 induction ps with
 | nil=> cases ha
 | cons x ps ih=>
  rw [Jj,KA] at nd
  rcases Jy.mp ha with ea | ha1 <;> rcases Jy.mp hb with eb | hb1
  ·rw [ea,eb]
  ·subst ea;exact absurd (Jw.mpr ⟨b,hb1,e.symm⟩) nd.1
  ·subst eb;exact absurd (Jw.mpr ⟨a,ha1,e⟩) nd.1
  ·exact ih nd.2 ha1 hb1
structure lK (ps:List Pp):Prop where
 ln:ps.length≤41
 nd:(ps.map (·.nm)).Nodup
 nm:∀p∈ps,Jp p.nm=true
 kd:∀p∈ps,Jp p.kd=true
 ms:∀p∈ps,(∀m∈p.ms,Jp m=true)∧p.ms.length≤50
theorem lK.filter{ps:List Pp}(g:lK ps)(f:Pp→Bool):lK (ps.filter f):=
 ⟨JL (J4 _ _) g.ln,vL g.nd,fun p hp=> g.nm p (JK.mp hp).1,fun p hp=> g.kd p (JK.mp hp).1,fun p hp=> g.ms p (JK.mp hp).1⟩
def oP(c p:Pp):Bool:=c.ms.contains p.nm && aL p.key c.key
def cR(ps:List Pp)(c:Pp):List Pp:=(fi ps).filter (oP c)
inductive De where
 | pap (p:Pp)
 | oth (w:Str) (d:Int) (nm:Str) (r:List PyData)
def De.enc:De→PyData
 | .pap p=> p.enc
 | .oth w d nm r=> .tuple (.str w:: .int d:: .str nm::r)
def De.w:De→Str
 | .pap _=> Jc "paper"
 | .oth w _ _ _=> w
def De.d:De→Int
 | .pap p=> p.d
 | .oth _ d _ _=> d
def De.nm:De→Str
 | .pap p=> p.nm
 | .oth _ _ nm _=> nm
def De.pp:De→Option Pp
 | .pap p=> some p
 | _=> none
def bb(xs:List De):List Pp:=xs.filterMap De.pp
structure jt (xs:List De):Prop where
 gp:lK (bb xs)
 np:∀w d nm r,De.oth w d nm r∈xs→w≠Jc "paper"
 ln:xs.length≤41
 w:∀x∈xs,Jp x.w=true
 nm:∀x∈xs,Jp x.nm=true
theorem tK{xs:List De}{p:Pp}:p∈bb xs↔De.pap p∈xs:=by
 unfold bb
 rw [LB]
 constructor
 ·rintro⟨x,hx,e⟩
  cases x with
  | pap q=> cases e;exact hx
  | oth w d nm r=> cases e
 ·intro h;exact⟨_,h,rfl⟩
theorem Ar(ps:List Pp):bb (ps.map De.pap)=ps:=by
 unfold bb
 rw [N3]
 exact List.filterMap_some
theorem G6(ps:List Pp):ps.map Pp.enc=(ps.map De.pap).map De.enc:=by rw [JH];rfl
theorem G7:Jp (Jc "paper")=true:=by decide+kernel
theorem jt.of{ps:List Pp}(g:lK ps):jt (ps.map De.pap):=by
 refine⟨by rw [Ar];exact g,fun w d nm r h=> ?_,by rw [Jf];exact g.ln,fun x hx=> ?_,fun x hx=> ?_⟩
 ·obtain⟨p,_,e⟩:=Jw.mp h;cases e
 ·obtain⟨p,_,rfl⟩:=Jw.mp hx;exact G7
 ·obtain⟨p,hp,rfl⟩:=Jw.mp hx;exact g.nm p hp
end K16
open PySem L2
local macro_rules | `(tactic| walk_at "rz") => do let a ← rzT "fb Jj Kc JC Kw Ll Lm Jx K1 Kx"; let b ← rzT "↓sN ↓sO ↓sP ↓sQ ↓sR ↓sJ ↓rO ↓rP ↓rQ ↓rR ↓rS ↓rT ↓rV ↓rW ↓rX ↓rY ↓rZ ↓sd ↓se ↓sf ↓sg ↓sj ↓sk ↓sq ↓sr ↓su ↓sv ↓sA ↓sC ↓sE ↓sF ↓sG ↓sH ↓sI fP mD mF mE kC mG mH mL jJ dH mr dC cQ dI mS kK mT mU fQ m7 m6 dL kD kq jd gv eJ kr mv mw my mz mB mC jg qG qH qI qJ qK qL qM qN qO qP qQ qR qS qT qU qV qW qX qY qZ q5 rf rg rh rj rn rp rq rz rA rB rC rD rE rF rG rH rJ rK rL rM rN mV m8 kU kM kN mX mY mZ m4 m5 kQ m9 nc ic mM mN mO mP kX nJ qF nA nE jl nG nF ny nM nO nN nP nQ nS jm nT nU nV nW nX n8 n9 jS oj om og oh oi oo oq ou ow ox oB oC oF oE oI lz oJ oK oM oH qg qv qw qx qy qz qA qB qC qD ne_eq qo qp qr qt qu qi qj qm jK jL mQ jh mK mJ mI ib fb dS jz j9 i9 Jj Kc JC Kw Jx K1 Kx JX Ll Lm Mu Mv Mw K9 KS LN LH LI KL exists_eq_left' exists_eq_left exists_and_left exists_and_right LW LX Sl.v.injEq Sl.o.injEq Sl.k.injEq Ld Mg KP KQ LM J3 and_true true_and Mx Mp exists_const decide_eq_true_eq My Mz Mi Mj Lp decide_eq_false_iff_not and_assoc or_true true_or ↓reduceIte if_true if_false KC LJ not_true_eq_false not_false_eq_true MR MF ite_true ite_false eq_self exists_eq reduceCtorEq false_and and_false or_false false_or exists_false KU L8 jE MS Nf KI Ng MT LZ K8 L0 dU cW jM ij ng gF gG nj beq_self_eq_true fq pY nh cV sizeLine_eq"; `(tactic| ((try $a:tactic); $b:tactic))
namespace K16
theorem As:bH (ah gL) ["deeds"] ["deed"] 1 [] {kind:=Jt,names:=[(Je ".0",PySem.NameKind.local),(Je "deed",PySem.NameKind.local)],isGenerator:=false,isCoroutine:=false,more:=[]:JU}:=⟨rfl,by decide+kernel,by decide+kernel,by decide+kernel,rfl,by decide+kernel,by decide+kernel,by decide+kernel,rfl⟩
theorem Au:bH (ah fW) ["deeds","coming","named"] ["deed","coming"] 1 [1] {kind:=Jt,names:=[ (Je ".0",PySem.NameKind.local),(Je "deed",PySem.NameKind.local),(Je "coming",Ju)],isGenerator:=false,isCoroutine:=false,more:=[]:JU}:=⟨rfl,by decide+kernel,by decide+kernel,by decide+kernel,rfl,by decide+kernel,by decide+kernel,by decide+kernel,rfl⟩
theorem Av:bH (ah fW) ["deeds","coming","named"] ["deed","coming"] 1 [1] {kind:=Jt,names:=[ (Je ".0",PySem.NameKind.local),(Je "deed",PySem.NameKind.local),(Je "place_of",J7),(Je "coming",Ju)],isGenerator:=false,isCoroutine:=false,more:=[]:JU}:=⟨rfl,by decide+kernel,by decide+kernel,by decide+kernel,rfl,by decide+kernel,by decide+kernel,by decide+kernel,rfl⟩
theorem Aw:bH (ah gM) ["deeds","paper"] ["deed"] 1 [] {kind:=Jt,names:=[(Je ".0",PySem.NameKind.local),(Je "deed",PySem.NameKind.local)],isGenerator:=false,isCoroutine:=false,more:=[]:JU}:=⟨rfl,by decide+kernel,by decide+kernel,by decide+kernel,rfl,by decide+kernel,by decide+kernel,by decide+kernel,rfl⟩
section
variable {P:Program} {w:World} {K:Jd} {mg:Str→Option Value} {base:Heap} {t:cJ}
theorem dh{α:Type}{enc:α→PyData}{g:DG}{tc:DB}{te:DT}{δ0:Dl}{xs:List α}{Q:List PyData→Prop}(p:α→Bool)(f:α→PyData)
  (h:∀x∈xs,∀(R:PyData→Prop) (S:Prop),(if p x=true then R (f x) else S)→g (enc x) δ0 fun δ2=> tc δ2 fun ok=> if ok=true then te δ2 R else S)(q:Q ((xs.filter p).map f)):eZ g tc te δ0 (xs.map enc) Q:=by
 refine⟨fun i acc=> acc=((xs.take i).filter p).map f,rfl,?_,?_⟩
 ·rintro i z acc hz rfl
  rw [JB] at hz
  cases hz':xs[i]? with
  | none=> rw [hz'] at hz;cases hz
  | some x=>
   rw [hz'] at hz;cases hz
   refine h x (JO hz') (fun y=> ((xs.take i).filter p).map f++[y]=((xs.take (i+1)).filter p).map f) (((xs.take i).filter p).map f=((xs.take (i+1)).filter p).map f) ?_
   rw [Kk,hz']
   by_cases e:p x=true
   ·rw [if_pos e];simp [e]
   ·rw [if_neg e];simp [e]
 ·rintro acc rfl
  rw [Jf,JQ (Jm _)];exact q
theorem Ax{α:Type}{enc:α→PyData}{g:DG}{tc:DB}{te:DT}{δ0:Dl}{xs:List α}{Q:List PyData→Prop}(p:α→Bool)(f:α→PyData)
  (h:∀x∈xs,∀(R:PyData→Prop) (S:Prop),(p x=true→R (f x))→(p x=false→S)→g (enc x) δ0 fun δ2=> tc δ2 fun ok=> if ok=true then te δ2 R else S)(q:Q ((xs.filter p).map f)):eZ g tc te δ0 (xs.map enc) Q:=
 dh p f (fun x hx R S z=> h x hx R S (fun e=> by rw [if_pos e] at z;exact z) (fun e=> by rw [if_neg (by rw [e];exact Jk)] at z;exact z)) q
theorem tL{α:Type}(l:List α):l.filter (fun _=> true)=l:=List.filter_eq_self.mpr fun _ _=> rfl
theorem bS{a b:Str}(h:a≠b):(a==b)=false:=by simpa using h
theorem G8{ws:List Str}{w:Str}:((ws.map Jh).any fun d=> JD d (.str w))=ws.contains w:=by
 induction ws with
 | nil=> rfl
 | cons a ws ih=>
  rw [Jj,KI,ih,gF,List.contains_cons]
  congr 1
  by_cases h:a=w
  ·simp [h]
  ·rw [bS h,bS (Ne.symm h)]
theorem Ay{ms:List Str}(h:∀m∈ms,Jp m=true):Ku (ms.map .str)=true:=(uS (n:=1) (u5 h)).1
def eL(f:Pp→Bool):De→Bool
 | .pap p=> f p
 | _=> false
theorem oQ{f:Pp→Bool}:∀xs:List De,(xs.filter (eL f)).map De.enc=((bb xs).filter f).map Pp.enc
 | []=> rfl
 | .pap p::xs=> by
  have ih:=oQ (f:=f) xs
  show _=(Oh f (p::bb xs)).map Pp.enc
  rw [Ki,Ki]
  by_cases h:f p=true
  ·rw [if_pos h,if_pos (show eL f (.pap p)=true from h),Jj,Jj,ih];rfl
  ·rw [if_neg h,if_neg (show ¬eL f (.pap p)=true from h),ih]
 | .oth w d nm r::xs=> by
  have ih:=oQ (f:=f) xs
  show _=(Oh f (bb xs)).map Pp.enc
  rw [Ki,if_neg (show ¬eL f (.oth w d nm r)=true from Jk),ih]
def vM:List PyData→(PyData→Prop)→Prop:=fun ds Q=> ∃p:Pp,ds=[p.enc]∧Q (cq p.key)
theorem Az(T:Txt K mg t):aK P w K mg base CX0 1 t.a_x9 t.d_x9 ["deed"] (bo K vM):=by
 refine T.F_x9.okD GH (fun ds Q h=> ?_) (fun cdv A outer s H O ds Q E hr h=> ?_)
 ·obtain⟨p,rfl,_⟩:=h;rfl
 ·obtain⟨p,rfl,q⟩:=h
  refine'⟨_,?body,?read⟩
  case body=>
   refine' aA ?s1
   case' s1=> refine' aO ?e2
   case' e2=> refine' bJ ?t3
   case' t3=> refine' aa ?u4 ?w4
   case u4=> exact(aq aE aF (df (dv 0)) (df ag))
   case' w4=> refine' aa ?u6 aj
   case u6=> exact(aq aE aF (df (dv 0)) (df ag))
  case read=>
  clear hr T
  simp only [Pp.enc]
  walk_at "rz"
  exact q
theorem G9{d:PyData}{ps:List Pp}(h:d∈ps.map Pp.enc)(R:PyData→Prop)(q:R (cq (js d))):vM [d] R:=by
 obtain⟨p,hp,rfl⟩:=Jw.mp h
 exact⟨p,rfl,q⟩
theorem Ha{ps:List Pp}(nd:(ps.map (·.nm)).Nodup):(ps.map Pp.key).Nodup:=by
 rw [LY,Kf] at nd⊢
 exact nd.imp fun h e=> h (congrArg OX e)
def F_x10:List PyData→(PyData→Prop)→Prop:=fun ds Q=> ∃xs:List De,(ds=[.list (xs.map De.enc)]∨ds=[.tuple (xs.map De.enc)])∧jt xs∧Q (.list ((fi (bb xs)).map Pp.enc))
theorem Hb(T:Txt K mg t):aK P w K mg base CX0 4 t.a_x10 t.d_x10 ["deeds"] (bo K F_x10):=by
 have G_x9:=Az (P:=P) (w:=w) (base:=base) T
 refine T.F_x10.okD GI (fun ds Q h=> ?_) (fun cdv A outer s H O ds Q E hr h=> ?_)
 ·obtain⟨ps,h | h,_⟩:=h <;> subst h <;> rfl
 ·obtain⟨xs,e,gd,q⟩:=h
  refine'⟨_,?body,?read⟩
  case body=>
   refine' aA ?s1
   case' s1=> refine' aO ?e2
   case e2=> exact(fe (FJ js rfl G_x9 (bE.in1 (bE.in1 (hr.mono (by decide)))) T.b_x9 rfl T.m_x9 rfl T.n_sorted Kz (aW (df (fe (FO rfl As (df (dv 0)) aY cy (by decide) (fun _ _ _ _=> (aU (i:=0) As.nd rfl (by walk_at "o"))) (fun _ _ _ _=> (dj (aI (cB hr) cC (df (aq aE aF (df (dv 0)) (df ag))) (df aS) (ay _)))) (fun _ _ _ _=> (dv 0))))) bp)))
  case read=>
  clear hr T G_x9
  have ln:=gd.ln
  have pl:=gd.gp.ln
  have step:∀x∈xs,∀(R:PyData→Prop)(S:Prop),(if eL (fun _=> true) x=true then R x.enc else S)→(if (x.w==Jc "paper")=true then R x.enc else S):=fun x hx R S h=> by
   cases x with
   | pap p=> exact h
   | oth w d nm r=>
    rw [show((De.oth w d nm r).w==Jc "paper")=false from bS (gd.np w d nm r hx),if_neg Jk]
    rw [if_neg (show ¬eL (fun _=> true) (.oth w d nm r)=true from Jk)] at h
    exact h
  have fin:∀ds':List PyData,ds'.Perm ((bb xs).map Pp.enc)→ds'.Pairwise (fun a b=> aL (js a) (js b)=true)→Q (.list ds'):=fun ds' h1 h2=> by
   rw [G5 gd.gp.nd h1 h2];exact q
  have tail:(∀d∈(bb xs).map Pp.enc,∀R:PyData→Prop,R (cq (js d))→vM [d] R)∧((bb xs).map Pp.enc).length < 64∧(((bb xs).map Pp.enc).map js).Nodup:=by
   refine⟨fun d hd R z=> G9 hd R z,by rw [Jf];omega,?_⟩
   rw [JH]
   exact Ha gd.gp.nd
  rcases e with e | e <;> subst e <;> walk_at "rz"
  ·refine⟨by rw [Jf];omega,dh (eL fun _=> true) De.enc (fun x hx R S h=> ?_) ?_⟩
   ·have h:=step x hx R S h
    cases x <;> simp only [De.enc,De.w,Pp.enc] at h⊢<;> walk_at "rz" <;> exact h
   ·rw [oQ,tL]
    exact⟨tail.1,tail.2.1,tail.2.2,fin⟩
  ·refine⟨by rw [Jf];omega,dh (eL fun _=> true) De.enc (fun x hx R S h=> ?_) ?_⟩
   ·have h:=step x hx R S h
    cases x <;> simp only [De.enc,De.w,Pp.enc] at h⊢<;> walk_at "rz" <;> exact h
   ·rw [oQ,tL]
    exact⟨tail.1,tail.2.1,tail.2.2,fin⟩
def Hc:List PyData→(PyData→Prop)→Prop:=fun ds Q=> ∃(xs:List De)(c:Pp),ds=[.tuple (xs.map De.enc),.str c.nm]∧jt xs∧c∈bb xs∧Q c.enc
theorem AA(T:Txt K mg t):aK P w K mg base CX0 1 t.a_x11 t.d_x11 ["deeds","paper"] (bo K Hc):=by
 refine T.F_x11.okD zZ (fun ds Q h=> ?_) (fun cdv A outer s H O ds Q E hr h=> ?_)
 ·obtain⟨ps,c,rfl,_⟩:=h;rfl
 ·obtain⟨xs,c,rfl,gd,hc,q⟩:=h
  refine'⟨_,?body,?read⟩
  case body=>
   refine' au ?s1 ?r1
   case s1=>
    refine' uL Kd rfl (dv 0) ?a2 aY ?b2
    case a2=> exact(aU (i:=2) zZ.nd rfl (by walk_at "o"))
    case' b2=> refine' aA ?s3
    case' s3=> refine' bt ?c4 ?a4 br
    case c4=> exact(PW.pt (dn (aI (cB hr) cC (df (aq aE aF (df (dv 2)) (df ag))) (df aS) (ay _)) (dR (aI (cz hr.units) cA (df (aq aE aF (df (dv 2)) (df ag))) (df (dv 1)) (ay _)))))
    case' a4=> refine' aA ?s5
    case s5=> exact(aO (dv 2))
   case r1=> refine' aA Fh
  case read=>
  clear hr T
  walk_at "rz"
  refine⟨fun i δ=> (∀x∈bb (xs.take i),x.nm≠c.nm)∧∃o2,δ=[some (Sl.v (.tuple (xs.map De.enc))),some (Sl.v (.str c.nm)),o2],⟨by simp [bb],_,rfl⟩,?_,?_⟩
  ·rintro i z δ hz ⟨hn,o2,rfl⟩
   rw [JB] at hz
   cases hz':xs[i]? with
   | none=> rw [hz'] at hz;cases hz
   | some x=>
    rw [hz'] at hz;cases hz
    have hx:=JO hz'
    cases x with
    | pap p=>
     simp only [De.enc,Pp.enc]
     walk_at "rz"
     refine⟨cO.mpr (gd.nm _ hx),cO.mpr (gd.gp.nm c hc),?_⟩
     split
     ·rename_i h
      have e:=Aq gd.gp.nd (tK.mpr hx) hc (eq_of_beq h)
      subst e
      exact q
     ·rename_i h
      refine⟨fun y hy=> ?_,_,rfl⟩
      rw [Kk,hz'] at hy
      unfold bb at hy
      rw [NF] at hy
      rcases JM.mp hy with z | z
      ·exact hn y z
      ·have:y=p:=by simpa [De.pp] using z
       rw [this];exact fun e=> h (by rw [e];exact beq_self_eq_true _)
    | oth w d nm r=>
     simp only [De.enc]
     walk_at "rz"
     rw [bS (gd.np w d nm r hx),if_neg Jk]
     refine⟨fun y hy=> ?_,_,rfl⟩
     rw [Kk,hz'] at hy
     unfold bb at hy
     rw [NF] at hy
     rcases JM.mp hy with z | z
     ·exact hn y z
     ·simp [De.pp] at z
  ·rintro δ ⟨hn,o2,rfl⟩
   rw [Jf,JQ (Jm _)] at hn
   exact absurd rfl (hn c hc)
def Hd:List PyData→(PyData→Prop)→Prop:=fun ds Q=> ∃(xs:List De)(c:Pp),ds=[.tuple (xs.map De.enc),c.enc]∧jt xs∧c∈bb xs∧Q (.list ((cR (bb xs) c).map Pp.enc))
theorem He(T:Txt K mg t):aK P w K mg base CX0 5 t.a_x12 t.d_x12 ["deeds","coming"] (bo K Hd):=by
 have G_x10:=Hb (P:=P) (w:=w) (base:=base) T
 have G_x9:=Az (P:=P) (w:=w) (base:=base) T
 refine T.F_x12.okD z5 (fun ds Q h=> ?_) (fun cdv A outer s H O ds Q E hr h=> ?_)
 ·obtain⟨ps,c,rfl,_⟩:=h;rfl
 ·obtain⟨xs,c,rfl,gd,hc,q⟩:=h
  refine'⟨_,?body,?read⟩
  case body=>
   refine' au ?s1 ?r1
   case s1=> exact(ik (i:=2) z5.nd rfl (by walk_at "o") (sX rfl Au (df (dv 0)) aY cy (by decide) (fun _ _ _ _=> (aU (i:=0) Au.nd rfl (by walk_at "o"))) (fun _ _ _ _=> (dj (PW.pt (dn (aI (cB hr) cC (df (aq aE aF (df (dv 0)) (df ag))) (df aS) (ay _)) (dR (aI (uU hr) nB (df (aq aE aF (df (dv 0)) (df ag))) (df (aq aE aF (df (dv 1)) (df ag))) rfl)))))) (fun _ _ _ _=> (dv 0))))
   case' r1=> refine' aA ?s3
   case' s3=> refine' aO ?e4
   case e4=> exact(PE.imp (ax G_x10 (hr.mono (by decide)) rfl T.m_x10 T.F_x10.kp T.b_x10 .nil av (aa (fe (gB rfl Av (df (dv 2)) aY cy (by decide) (fun _ _ _ _=> (aU (i:=0) Av.nd rfl (by walk_at "o"))) (fun _ _ _ _=> (dj (aI (zA hr.units0) zB (df (PE.imp (ax G_x9 (hr.mono (by decide)) rfl T.m_x9 T.F_x9.kp T.b_x9 .nil av (aa (dv 0) aj)) aC)) (df (PE.imp (ax G_x9 (hr.mono (by decide)) rfl T.m_x9 T.F_x9.kp T.b_x9 .nil av (aa (dv 1) aj)) aC)) (ay _)))) (fun _ _ _ _=> (dv 0)))) aj)) aC)
  case read=>
  clear hr T G_x10 G_x9
  have ln:=gd.ln
  have pl:=gd.gp.ln
  obtain⟨hm1,hm2⟩:=gd.gp.ms c hc
  walk_at "rz"
  refine⟨by rw [Jf];omega,dh (eL fun p=> c.ms.contains p.nm) De.enc (fun x hx R S h=> ?_) ?_⟩
  ·cases x with
   | pap p=>
    simp only [De.enc,Pp.enc]
    walk_at "rz"
    refine⟨cO.mpr (gd.nm _ hx),Ay hm1,?_⟩
    rw [G8]
    exact h
   | oth w d nm r=>
    simp only [De.enc]
    walk_at "rz"
    rw [bS (gd.np w d nm r hx),if_neg Jk]
    rw [if_neg (show ¬eL _ (.oth w d nm r)=true from Jk)] at h
    exact h
  ·rw [oQ]
   have fl:=J4 (fun p:Pp=> c.ms.contains p.nm) (bb xs)
   refine⟨by rw [Jf];omega,dh (fun p=> aL p.key c.key) Pp.enc (fun x hx R S h=> ?_) ?_⟩
   ·walk_at "rz"
    exact⟨x,rfl,c,rfl,x.key,rfl,c.key,rfl,h⟩
   ·rw [G6]
    refine⟨_,.inl rfl,jt.of ((gd.gp.filter _).filter _),?_⟩
    rw [Ar,Ap (vL gd.gp.nd),Ap gd.gp.nd,N7]
    have e:(fi (bb xs)).filter (fun a=> aL a.key c.key && c.ms.contains a.nm)=cR (bb xs) c:=by
     unfold cR oP
     congr 1
     funext a
     rw [OR]
    rw [e];exact q
theorem tM{ps:List Pp}{c:Pp}(g:lK ps):(cR ps c).length≤41:=by
 unfold cR
 have h1:=J4 (oP c) (fi ps)
 have h2:=G3 (ps:=ps)
 have h3:=g.ln
 omega
def F_x13:List PyData→(PyData→Prop)→Prop:=fun ds Q=> ∃(xs:List De)(c:Pp),ds=[.tuple (xs.map De.enc),.str c.nm]∧jt xs∧c∈bb xs∧Q (.tuple (((cR (bb xs) c).map (·.nm)).map .str))
theorem Hf(T:Txt K mg t):aK P w K mg base CX0 6 t.a_x13 t.d_x13 ["deeds","paper"] (bo K F_x13):=by
 have G_x12:=He (P:=P) (w:=w) (base:=base) T
 have G_x11:=AA (P:=P) (w:=w) (base:=base) T
 refine T.F_x13.okD GJ (fun ds Q h=> ?_) (fun cdv A outer s H O ds Q E hr h=> ?_)
 ·obtain⟨ps,c,rfl,_⟩:=h;rfl
 ·obtain⟨xs,c,rfl,gd,hc,q⟩:=h
  refine'⟨_,?body,?read⟩
  case body=>
   refine' aA ?s1
   case' s1=> refine' aO ?e2
   case e2=> exact(PE.imp (eD hW rfl T.n_tuple fL (aW (df (fe (gB rfl Aw (df (PE.imp (ax G_x12 (hr.mono (by decide)) rfl T.m_x12 T.F_x12.kp T.b_x12 .nil av (aa (dv 0) (aa (PE.imp (ax G_x11 (hr.mono (by decide)) rfl T.m_x11 T.F_x11.kp T.b_x11 .nil av (aa (dv 0) (aa (dv 1) aj))) aC) aj))) aC)) aY cy (by decide) (fun _ _ _ _=> (aU (i:=0) Aw.nd rfl (by walk_at "o"))) (fun _ _ _ _=> jj) (fun _ _ _ _=> (aq aE aF (df (dv 0)) (df ag)))))) bp)) (bP ig))
  case read=>
  clear hr T G_x12 G_x11
  walk_at "rz"
  refine⟨xs,c,rfl,gd,hc,xs,c,rfl,gd,hc,⟨_,rfl,by rw [Jf];have:=tM (c:=c) gd.gp;omega,dh (fun _=> true) (fun p:Pp=> .str p.nm) (fun x hx R S h=> ?_) ?_⟩⟩
  ·simp only [Pp.enc]
   walk_at "rz"
   rw [if_pos rfl] at h;exact h
  ·rw [tL];rw [JH] at q;exact q
end
end K16
open PySem L2
local macro_rules | `(tactic| walk_at "rzi") => rzT "↓sN ↓sO ↓sP ↓sQ ↓sR ↓sJ ↓rO ↓rP ↓rQ ↓rR ↓rS ↓rT ↓rV ↓rW ↓rX ↓rY ↓rZ ↓sd ↓se ↓sf ↓sg ↓sj ↓sk ↓sq ↓sr ↓su ↓sv ↓sA ↓sC ↓sE ↓sF ↓sG ↓sH ↓sI fP mD mF mE kC mG mH mL jJ dH mr dC cQ dI mS kK mT mU fQ m7 m6 dL kD kq jd gv eJ kr mv mw my mz mB mC jg qG qH qI qJ qK qL qM qN qO qP qQ qR qS qT qU qV qW qX qY qZ q5 rf rg rh rj rn rp rq rz rA rB rC rD rE rF rG rH rJ rK rL rM rN mV m8 kU kM kN mX mY mZ m4 m5 kQ m9 nc ic mM mN mO mP kX nJ qF nA nE jl nG nF ny nM nO nN nP nQ nS jm nT nU nV nW nX n8 n9 jS oj om og oh oi oo oq ou ow ox oB oC oF oE oI lz oJ oK oM oH qg qv qw qx qy qz qA qB qC qD ne_eq qo qp qr qt qu qi qj qm jK jL mQ jh mK mJ mI ib fb dS jz j9 i9 Jj Kc JC Kw Jx K1 Kx JX Ll Lm Mu Mv Mw K9 KS LN LH LI KL exists_eq_left' exists_eq_left exists_and_left exists_and_right LW LX Sl.v.injEq Sl.o.injEq Sl.k.injEq Ld Mg KP KQ LM J3 and_true true_and Mx Mp exists_const decide_eq_true_eq My Mz Mi Mj Lp decide_eq_false_iff_not and_assoc or_true true_or ↓reduceIte if_true if_false KC LJ not_true_eq_false not_false_eq_true MR MF ite_true ite_false eq_self exists_eq reduceCtorEq false_and and_false or_false false_or exists_false KU L8 jE MS Nf KI Ng MT LZ K8 L0 dU cW jM ij ng gF gG nj beq_self_eq_true fq pY nh cV sizeLine_eq Sl.i.injEq exists_and_left"
namespace K16
open Day
theorem AB:bH (ah gK) ["self","deeds","name","coming"] ["deed","name"] 1 [2] {kind:=Jt,names:=[ (Je ".0",PySem.NameKind.local),(Je "deed",PySem.NameKind.local),(Je "name",Ju)],isGenerator:=false,isCoroutine:=false,more:=[]:JU}:=⟨rfl,by decide+kernel,by decide+kernel,by decide+kernel,rfl,by decide+kernel,by decide+kernel,by decide+kernel,rfl⟩
theorem vN:bH (ah gP) ["paper","happening"] ["day","other","happening"] 2 [1] {kind:=Jt,names:=[ (Je ".0",PySem.NameKind.local),(Je "day",PySem.NameKind.local),(Je "other",PySem.NameKind.local),(Je "happening",Ju)],isGenerator:=false,isCoroutine:=false,more:=[]:JU}:=⟨rfl,by decide+kernel,by decide+kernel,by decide+kernel,rfl,by decide+kernel,by decide+kernel,by decide+kernel,rfl⟩
section
variable {P:Program} {w:World} {K:Jd} {mg:Str→Option Value} {base:Heap} {t:cJ}
inductive cv where
 | com
 | fst (wd:Str)
 | lst (wd:Str)
def cv.enc:cv→PyData
 | .com=> .tuple [.str (Jc "coming")]
 | .fst wd=> .tuple [.str (Jc "first"),.str wd]
 | .lst wd=> .tuple [.str (Jc "last"),.str wd]
def cv.Ok:cv→Prop
 | .com=> True
 | .fst wd=> Jp wd=true
 | .lst wd=> Jp wd=true
inductive Pt where
 | two (w kd:Str)
 | five (w kd:Str) (s:cv) (k:Int) (u:Str)
def Pt.enc:Pt→PyData
 | .two w kd=> .tuple [.str w,.str kd]
 | .five w kd s k u=> .tuple [.str w,.str kd,s.enc,.int k,.str u]
def KG(w:Str):Prop:=w=Jc "keep"∨w=Jc "gone"
def Pt.Ok:Pt→Prop
 | .two w kd=> ¬KG w∧Jp w=true∧Jp kd=true
 | .five w kd s k u=> KG w∧Jp kd=true∧s.Ok∧0≤k∧k < 1000∧g5 u
def De.isR:De→Bool
 | .oth w _ _ _=> w==Jc "rule"
 | _=> false
def De.isE:De→Bool
 | .oth w _ _ _=> w==Jc "rule" || w==Jc "end"
 | _=> false
structure dD (xs:List De):Prop where
 gx:jt xs
 hp:∀d nm r,De.oth (Jc "happens") d nm r∈xs→∃wd,r=[.str wd]∧Jp wd=true
 ru:∀d nm r,De.oth (Jc "rule") d nm r∈xs→∃pt:Pt,r=[pt.enc]∧pt.Ok
 nd:xs.Nodup
 d0:∀x∈xs,0≤x.d∧x.d < 100000
 re:∀x∈xs,∀y∈xs,x.isE=true→y.isE=true→x.d=y.d→x.nm=y.nm→x=y
def fz(nm:Str):De→Bool
 | .oth w _ n _=> w==Jc "happens" && n==nm
 | _=> false
def ju:De→Int×Str
 | .oth _ d _ [.str wd]=> (d,wd)
 | x=> (x.d,Jc "")
def dX(xs:List De)(nm:Str):List (Int×Str):=(xs.filter (fz nm)).map ju
theorem vO{xs:List De}(g:dD xs)(nm:Str):(dX xs nm).Nodup:=by
 unfold dX
 rw [LY,Kf]
 refine OS.imp_of_mem (fun{a b} ha hb h e=> ?_) (g.nd.sublist KN)
 obtain⟨a1,a2⟩:=JK.mp ha
 obtain⟨b1,b2⟩:=JK.mp hb
 cases a with
 | pap p=> cases a2
 | oth w d n r=>
  cases b with
  | pap p=> cases b2
  | oth w' d' n' r'=>
   simp only [fz,Kh,beq_iff_eq] at a2 b2
   obtain⟨rfl,rfl⟩:=a2
   obtain⟨rfl,rfl⟩:=b2
   obtain⟨wd,rfl,_⟩:=g.hp _ _ _ a1
   obtain⟨wd',rfl,_⟩:=g.hp _ _ _ b1
   simp only [ju,OO] at e
   exact h (by rw [e.1,e.2])
structure Rp where
 c:Pp
 ts:List Str
 hs:List (Int×Str)
def Rp.enc(C:Addr)(r:Rp):PyData:=zE C [(Jc "name",.str r.c.nm),(Jc "coming",.int r.c.d),(Jc "kind",.str r.c.kd),(Jc "makers",.tuple (r.ts.map .str)),(Jc "happenings",.list (r.hs.map cq))]
open Classical in
noncomputable def g6(l:List (Int×Str)):List (Int×Str):=if h:∃s:List (Int×Str),s.Perm l∧s.Pairwise (fun a b=> aL a b=true) then h.choose else []
theorem AD{s l:List (Int×Str)}(h1:s.Perm l)(h2:s.Pairwise fun a b=> aL a b=true):s=g6 l:=by
 unfold g6
 have h:∃s:List (Int×Str),s.Perm l∧s.Pairwise (fun a b=> aL a b=true):=⟨s,h1,h2⟩
 rw [dif_pos h]
 exact lI (fun a b z=> tI z) (h1.trans h.choose_spec.1.symm) h2 h.choose_spec.2
noncomputable def bu(xs:List De)(c:Pp):Rp:=⟨c,(cR (bb xs) c).map (·.nm),g6 (dX xs c.nm)⟩
theorem g7{f g:Str}{d x:PyData}{r:List (Str×PyData)}(h:g≠f):eS f d ((g,x)::r)=(g,x)::eS f d r:=by rw [eS,if_neg h]
theorem Hg{a b:PyData}:eS (Jc "coming") b (eS (Jc "name") a [])=[(Jc "name",a),(Jc "coming",b)]:=by
 rw [show eS (Jc "name") a []=[(Jc "name",a)] from rfl,g7 (by decide+kernel)];rfl
theorem Hh{a b c:PyData}:eS (Jc "kind") c [(Jc "name",a),(Jc "coming",b)]=[(Jc "name",a),(Jc "coming",b),(Jc "kind",c)]:=by
 rw [g7 (by decide+kernel),g7 (by decide+kernel)];rfl
theorem Hi{a b c d:PyData}:eS (Jc "makers") d [(Jc "name",a),(Jc "coming",b),(Jc "kind",c)]=[(Jc "name",a),(Jc "coming",b),(Jc "kind",c),(Jc "makers",d)]:=by
 rw [g7 (by decide+kernel),g7 (by decide+kernel),g7 (by decide+kernel)];rfl
theorem Hj{a b c d e:PyData}:eS (Jc "happenings") e [(Jc "name",a),(Jc "coming",b),(Jc "kind",c),(Jc "makers",d)]=[(Jc "name",a),(Jc "coming",b),(Jc "kind",c),(Jc "makers",d),(Jc "happenings",e)]:=by
 rw [g7 (by decide+kernel),g7 (by decide+kernel),g7 (by decide+kernel),g7 (by decide+kernel)];rfl
def Hk(C:Addr):List PyData→(PyData→Prop)→Prop:=fun ds Q=> ∃(xs:List De)(c:Pp),ds=[.tuple (xs.map De.enc),.str c.nm]∧dD xs∧c∈bb xs∧((∀z,z∈g6 (dX xs c.nm)↔z∈dX xs c.nm)→(g6 (dX xs c.nm)).Pairwise (fun a b=> aL a b=true)→(g6 (dX xs c.nm)).length≤41→Q ((bu xs c).enc C))
theorem AE(T:Txt K mg t):aK P w K mg base CX0 7 t.a_x8 t.d_x8 ["self","deeds","name"] (vg K t.u_Paper (Hk t.u_Paper)):=by
 have G_x11:=AA (P:=P) (w:=w) (base:=base) T
 have G_x13:=Hf (P:=P) (w:=w) (base:=base) T
 refine T.F_x8.okI zY (fun ds Q h=> ?_) (fun cdv A outer s H H1 O ds Q E l hr h=> ?_)
 ·obtain⟨xs,c,rfl,_⟩:=h;rfl
 ·obtain⟨xs,c,rfl,gd,hc,q⟩:=h
  refine'⟨_,?body,?read⟩
  case body=>
   refine' au ?s1 ?r1
   case s1=> exact(bL (i:=3) zY.nd rfl (by walk_at "o") (PE.imp (ax G_x11 (hr.mono (by decide)) rfl T.m_x11 T.F_x11.kp T.b_x11 .nil av (aa (dv 1) (aa (dv 2) aj))) aC))
   case' r1=> refine' au ?s3 ?r3
   case s3=> exact(ot (C:=t.u_Paper) (i:=0) T.cl_Paper T.na_Paper_name (pv 0) (aq aE aF (df (dv 3)) (df ag)))
   case' r3=> refine' au ?s5 ?r5
   case s5=> exact(ot (C:=t.u_Paper) (i:=0) T.cl_Paper T.na_Paper_coming (pv 0) (aq aE aF (df (dv 3)) (df ag)))
   case' r5=> refine' au ?s7 ?r7
   case s7=> exact(ot (C:=t.u_Paper) (i:=0) T.cl_Paper T.na_Paper_kind (pv 0) (aq aE aF (df (dv 3)) (df ag)))
   case' r7=> refine' au ?s9 ?r9
   case s9=> exact(ot (C:=t.u_Paper) (i:=0) T.cl_Paper T.na_Paper_makers (pv 0) (PE.imp (ax G_x13 (hr.mono (by decide)) rfl T.m_x13 T.F_x13.kp T.b_x13 .nil av (aa (dv 1) (aa (dv 2) aj))) aC))
   case' r9=> refine' aA ?s11
   case s11=> exact(ot (C:=t.u_Paper) (i:=0) T.cl_Paper T.na_Paper_happenings (pv 0) (fe (zx rfl T.n_sorted Kz (aW (df (fe (mR rfl AB (df (dv 1)) aY cy (by decide) (fun _ _ _ _=> (aU (i:=0) AB.nd rfl (by walk_at "o"))) (fun _ _ _ _=> (dj (PW.pt (dn (aI (cB hr) cC (df (aq aE aF (df (dv 0)) (df ag))) (df aS) (ay _)) (dR (aI (cz hr.units) cA (df (aq aE aF (df (dv 0)) (df ag))) (df (dv 1)) (ay _))))))) (fun _ _ _ _=> (bJ (aa (aq aE aF (df (dv 0)) (df ag)) (aa (aq aE aF (df (dv 0)) (df ag)) aj))))))) bp))))
  case read=>
  clear hr T G_x11 G_x13
  simp only [vh,fb,Jj,Kc,K1,Kx,List.tail_cons,JC,Kw,Ll,Lm,Jx]
  walk_at "rzi"
  refine⟨xs,c,rfl,gd.gx,hc,?_⟩
  simp only [Pp.enc]
  walk_at "rzi"
  simp only [Hg,Hh,Hi,Hj]
  have ln:=gd.gx.ln
  have lt:∀n:Nat,n < 10→n < 1000:=fun n h=> by omega
  refine⟨lt 1 (by decide),lt 2 (by decide),xs,c,rfl,gd.gx,hc,⟨lt 3 (by decide),by rw [Jf];omega,Ax (fz c.nm) (fun x=> cq (ju x)) (fun x hx R S h1 h0=> ?_) ?_⟩⟩
  ·cases x with
   | pap p=>
    simp only [De.enc,Pp.enc]
    walk_at "rz"
    exact h0 rfl
   | oth w d nm r=>
    simp only [De.enc]
    walk_at "rz"
    by_cases e:w=Jc "happens"
    ·subst e
     obtain⟨wd,rfl,_⟩:=gd.hp _ _ _ hx
     rw [if_pos (beq_self_eq_true _)]
     refine⟨cO.mpr (gd.gx.nm _ hx),cO.mpr (gd.gx.gp.nm c hc),?_⟩
     split
     ·rename_i h2
      exact⟨_,ij,h1 (by simp only [fz,beq_self_eq_true,K8];exact h2)⟩
     ·rename_i h2
      exact h0 (by simp only [fz,beq_self_eq_true,K8];simpa using h2)
    ·rw [bS e,if_neg Jk]
     exact h0 (by simp only [fz,bS e,MD])
  ·have hl:(dX xs c.nm).length≤41:=by
    unfold dX
    rw [Jf]
    have:=J4 (fz c.nm) xs
    omega
   refine⟨dX xs c.nm,by unfold dX;rw [JH];rfl,by omega,vO gd c.nm,fun hs h1 h2=> ⟨lt 4 (by decide),?_⟩⟩
   have e:=AD h1 h2
   have q:=q (fun z=> by rw [←e];exact h1.mem_iff) (by rw [←e];exact h2) (by rw [←e,h1.length_eq];exact hl)
   rw [e]
   exact q
def AF(hs:List (Int×Str)):Prop:=hs.length≤41∧∀z∈hs,Jp z.2=true
def lL(hs:List (Int×Str))(wd:Str):List Int:=(hs.filter fun z=> z.2==wd).map (·.1)
def F_x16(C:Addr):List PyData→(PyData→Prop)→Prop:=fun ds Q=> ∃(r:Rp)(wd:Str),ds=[r.enc C,.str wd]∧AF r.hs∧Jp wd=true∧Q (.list ((lL r.hs wd).map .int))
theorem Hl{a b c d e:PyData}:ck [Jc "name",Jc "coming",Jc "kind",Jc "makers",Jc "happenings"] [a,b,c,d,e] (Jc "happenings")=some e:=by
 simp only [ck]
 rw [if_neg (by decide+kernel),if_neg (by decide+kernel),if_neg (by decide+kernel),if_neg (by decide+kernel),if_pos trivial]
theorem AG{a b c d e:PyData}:ck [Jc "name",Jc "coming",Jc "kind",Jc "makers",Jc "happenings"] [a,b,c,d,e] (Jc "coming")=some b:=by
 simp only [ck]
 rw [if_neg (by decide+kernel),if_pos trivial]
theorem Hm{a b c d e:PyData}:ck [Jc "name",Jc "coming",Jc "kind",Jc "makers",Jc "happenings"] [a,b,c,d,e] (Jc "kind")=some c:=by
 simp only [ck]
 rw [if_neg (by decide+kernel),if_neg (by decide+kernel),if_pos trivial]
theorem Hn(T:Txt K mg t):aK P w K mg base CX0 1 t.a_x16 t.d_x16 ["paper","happening"] (bo K (F_x16 t.u_Paper)):=by
 refine T.F_x16.okD GL (fun ds Q h=> ?_) (fun cdv A outer s H O ds Q E hr h=> ?_)
 ·obtain⟨r,wd,rfl,_⟩:=h;rfl
 ·obtain⟨r,wd,rfl,⟨hl,hok⟩,wok,q⟩:=h
  refine'⟨_,?body,?read⟩
  case body=>
   refine' aA ?s1
   case' s1=> refine' aO ?e2
   case' e2=> refine' fe ?f3
   case f3=> exact(gB rfl vN (df (lq (C:=t.u_Paper) T.cl_Paper T.na_Paper_happenings (dv 0))) (jI (d4 aY (d4 aY jH))) zD (by decide) (fun _ _ _ _=> (i7 (n:=2) rfl (dF (aU (i:=0) vN.nd rfl (by walk_at "o")) (dF (aU (i:=1) vN.nd rfl (by walk_at "o")) i6)))) (fun _ _ _ _=> (dj (aI (cz hr.units) cA (df (dv 1)) (df (dv 2)) (ay _)))) (fun _ _ _ _=> (dv 0)))
  case read=>
  clear hr T
  walk_at "rz"
  refine⟨[Jc "name",Jc "coming",Jc "kind",Jc "makers",Jc "happenings"],_,rfl,_,Hl,_,rfl,by rw [Jf];omega,dh (fun z:Int×Str=> z.2==wd) (fun z=> .int z.1) (fun x hx R S h=> ?_) ?_⟩
  ·simp only [cq]
   walk_at "rz"
   exact⟨cO.mpr (hok x hx),cO.mpr wok,h⟩
  ·unfold lL at q;rw [JH] at q;exact q
end
end K16
open PySem L2
namespace K16
theorem AH:bH (ah gN) ["deeds","words","day","found","deed","known"] ["name","found"] 1 [3] {kind:=Jt,names:=[ (Je ".0",PySem.NameKind.local),(Je "name",PySem.NameKind.local),(Je "found",Ju)],isGenerator:=false,isCoroutine:=false,more:=[]:JU}:=⟨rfl,by decide+kernel,by decide+kernel,by decide+kernel,rfl,by decide+kernel,by decide+kernel,by decide+kernel,rfl⟩
section
variable {P:Program} {w:World} {K:Jd} {mg:Str→Option Value} {base:Heap} {t:cJ}
def F_x14:List PyData→(PyData→Prop)→Prop:=fun ds Q=> ∃(xs:List Rw)(ws:List Str)(n:Int),ds=[.tuple (xs.map Rw.enc),.tuple (ws.map .str),.int n]∧(∀x∈xs,Jp x.w=true)∧Ku (ws.map .str)=true∧xs.length < 64∧∀res,n4 ws n xs res→Q (.list (res.map Rw.enc))
theorem AI{ws:List Str}{w:Str}:((ws.map Jh).any fun d=> JD d (.str w))=decide (w∈ws):=by
 induction ws with
 | nil=> simp
 | cons a ws ih=>
  rw [Jj,KI,ih,gF]
  by_cases h:a=w
  ·simp [h]
  ·have h':(a==w)=false:=by simpa using h
   rw [h']
   simp [Ne.symm h]
theorem Ho(T:Txt K mg t):aK P w K mg base CX0 1 t.a_x14 t.d_x14 ["deeds","words","day"] (bo K F_x14):=by
 refine T.F_x14.okD tD (fun ds Q h=> ?_) (fun cdv A outer s H O ds Q E hr h=> ?_)
 ·obtain⟨xs,ws,n,rfl,_⟩:=h;rfl
 ·obtain⟨xs,ws,n,rfl,hw,hws,h64,q⟩:=h
  refine'⟨_,?body,?read⟩
  case body=>
   refine' au ?s1 ?r1
   case s1=> exact(kZ (i:=3) tD.nd rfl (by walk_at "o") sL)
   case' r1=> refine' au ?s3 ?r3
   case s3=>
    refine' uL Kd rfl (dv 0) ?a4 aY ?b4
    case a4=> exact(aU (i:=4) tD.nd rfl (by walk_at "o"))
    case' b4=> refine' aA ?s5
    case' s5=> refine' bt ?c6 ?a6 br
    case c6=> exact(PW.pt (dn (aI (uU hr) nB (df (aq aE aF (df (dv 4)) (df ag))) (df (dv 1)) rfl) (dR (aI fH dJ (df (aq aE aF (df (dv 4)) (df ag))) (df (dv 2)) (ay _)))))
    case' a6=> refine' au ?s7 ?r7
    case s7=> exact(bL (i:=5) tD.nd rfl (by walk_at "o") (zb (i:=3) hr.units (pv 3) (aq aE aF (df (dv 4)) (df ag)) ⟨rfl,rfl,rfl,rfl⟩))
    case' r7=> refine' aA ?s9
    case' s9=> refine' bt ?c10 ?a10 br
    case c10=> exact(PW.pt (jf (aI ke la (df (dv 5)) (df eY) (ay _)) (je (aI pz dJ (df (aq aE aF (df (dv 5)) (df ag))) (df (aq aE aF (df (dv 4)) (df ag))) (ay _)))))
    case' a10=> refine' aA ?s11
    case s11=> exact(sM (i:=3) hr.units (pv 3) (aq aE aF (df (dv 4)) (df ag)) (dv 4))
   case' r3=> refine' aA ?s13
   case' s13=> refine' aO ?e14
   case' e14=> refine' fe ?f15
   case f15=> exact(gB rfl AH (df (fe (ze (i:=3) rfl rfl T.n_sorted Kz (pv 3)))) aY cy (by decide) (fun _ _ _ _=> (aU (i:=0) AH.nd rfl (by walk_at "o"))) (fun _ _ _ _=> jj) (fun _ _ _ _=> (nR (i:=1) hr.units (pv 1) (dv 0) (fun _ _=> rfl))))
  case read=>
  clear hr T
  walk_at "rz"
  refine⟨fun i δ=> ∃L o4 o5,dN ws n (xs.take i) L∧δ=[some (Sl.v (.tuple (xs.map Rw.enc))),some (Sl.v (.tuple (ws.map .str))),some (Sl.v (.int n)),some (Sl.k (d6 L)),o4,o5],⟨[],_,_,dN.nil _ _,rfl⟩,?_,?_⟩
  ·rintro i x δ hx ⟨L,o4,o5,hL,rfl⟩
   rw [JB] at hx
   cases hx':xs[i]? with
   | none=> rw [hx'] at hx;cases hx
   | some y=>
    rw [hx'] at hx;cases hx
    have hy:y∈xs:=JO hx'
    have tk:xs.take (i+1)=xs.take i++[y]:=by rw [Kk,hx'];rfl
    simp only [Rw.enc]
    walk_at "rz"
    have hle:L.length < 64:=by have:=hL.le;rw [J8] at this;omega
    have hk:(d6 L).length < 16777216:=by unfold d6;rw [Jf];omega
    have en:JG (Jh y.w::Jg y.n::Jh y.nm::y.r)=y.enc:=rfl
    refine⟨cO.mpr (hw y hy),hws,?_⟩
    rw [AI]
    by_cases hin:y.w∈ws
    ·rw [if_pos (decide_eq_true hin)]
     by_cases hn:y.n≤n
     ·rw [if_pos hn,lh,en]
      cases hl:cI L y.nm with
      | none=>
       rw [if_pos (show cH ((Option.map Rw.enc none).getD LK)=true from rfl)]
       exact⟨hk,_,by rw [tk];exact hL.put ⟨hin,hn⟩ (fun z e=> by rw [hl] at e;cases e),sT L y.nm y,_,rfl⟩
      | some z=>
       rw [if_neg (by simp [cH,Rw.enc])]
       refine⟨_,rfl,_,cW,_,rfl,?_⟩
       split
       ·rename_i hlt
        exact⟨hk,_,by rw [tk];exact hL.put ⟨hin,hn⟩ (fun z' e=> by rw [hl] at e;cases e;exact hlt),sT L y.nm y,_,rfl⟩
       ·rename_i hlt
        exact⟨L,by rw [tk];exact hL.keep hl hlt,rfl,_,rfl⟩
     ·rw [if_neg hn];exact⟨L,by rw [tk];exact hL.skip (fun z=> hn z.2),rfl,_,rfl⟩
    ·rw [if_neg (by simpa using hin)];exact⟨L,by rw [tk];exact hL.skip (fun z=> hin z.1),rfl,_,rfl⟩
  ·rintro δ ⟨L,o4,o5,hL,rfl⟩
   walk_at "rz"
   rw [Jf,JQ (Jm _)] at hL
   have hle:L.length < 64:=by have:=hL.le;omega
   refine⟨L.map (·.1),by unfold d6;rw [JH,JH];rfl,by rw [Jf];exact hle,by rw [Jf,(fc _).length_eq,Jf];omega,?_⟩
   refine uZ (fun x=> match x with | .str nm=> ((cI L nm).map Rw.enc).getD .none | _=> .none) (fun x hx R hR=> ?_) ?_
   ·obtain⟨nm,hnm,rfl⟩:=Jw.mp hx
    obtain⟨z,hz⟩:=n5 ((fc _).mem_iff.mp hnm)
    walk_at "rz"
    refine⟨z.enc,by rw [lh,hz];rfl,?_⟩
    have hR:R (((cI L nm).map Rw.enc).getD .none):=hR
    rw [hz] at hR;exact hR
   ·have e:∀l:List Str,(∀a∈l,a∈L.map (·.1))→(l.map Jh).map (fun x=> match x with | .str nm=> ((cI L nm).map Rw.enc).getD .none | _=> .none)=(l.filterMap (cI L)).map Rw.enc:=by
     intro l
     induction l with
     | nil=> intro _;rfl
     | cons a l ih=>
      intro hl
      obtain⟨z,hz⟩:=n5 (hl a (by simp))
      rw [Jj,Jj,KW,hz,ih fun b hb=> hl b (by simp [hb])]
      simp [hz]
    rw [e _ fun a ha=> (fc _).mem_iff.mp ha]
    exact q _ hL.res
end
end K16
open PySem L2
namespace K16
theorem AJ:bH (ah gO) ["deeds","day"] ["deed"] 1 [] {kind:=Jt,names:=[(Je ".0",PySem.NameKind.local),(Je "deed",PySem.NameKind.local)],isGenerator:=false,isCoroutine:=false,more:=[]:JU}:=⟨rfl,by decide+kernel,by decide+kernel,by decide+kernel,rfl,by decide+kernel,by decide+kernel,by decide+kernel,rfl⟩
section
variable {P:Program} {w:World} {K:Jd} {mg:Str→Option Value} {base:Heap} {t:cJ}
def d7:List Str:=["rule","end"]
def gc(res:List Rw):List PyData:=(res.filter fun x=> x.w==Jc "rule").map fun x=> .tuple [.str x.nm,x.r.headD .none]
structure AK (xs:List Rw):Prop where
 st:∀x∈xs,Jp x.w=true
 ru:∀x∈xs,x.w=Jc "rule"→∃p,x.r=[p]
 le:xs.length < 64
def Hq:List PyData→(PyData→Prop)→Prop:=fun ds Q=> ∃(xs:List Rw)(n:Int),ds=[.tuple (xs.map Rw.enc),.int n]∧AK xs∧∀res,n4 d7 n xs res→Q (.tuple (gc res))
theorem Hr(T:Txt K mg t):aK P w K mg base CX0 2 t.a_x15 t.d_x15 ["deeds","day"] (bo K Hq):=by
 have G_x14:=Ho (P:=P) (w:=w) (base:=base) T
 refine T.F_x15.okD GK (fun ds Q h=> ?_) (fun cdv A outer s H O ds Q E hr h=> ?_)
 ·obtain⟨xs,n,rfl,_⟩:=h;rfl
 ·obtain⟨xs,n,rfl,ok,q⟩:=h
  refine'⟨_,?body,?read⟩
  case body=>
   refine' aA ?s1
   case' s1=> generalize hG2:N8 _ _ _ _=eg2
   refine' aO ?e2
   case' e2=> subst hG2
   exact(PE.imp (eD hW rfl T.n_tuple fL (aW (df (fe (gB rfl AJ (df (PE.imp (ax G_x14 (hr.mono (by decide)) rfl T.m_x14 T.F_x14.kp T.b_x14 .nil av (aa (dv 0) (aa (bJ (aa aS (aa aS aj))) (aa (dv 1) aj)))) aC)) aY cy (by decide) (fun _ _ _ _=> (aU (i:=0) AJ.nd rfl (by walk_at "o"))) (fun _ _ _ _=> (dj (aI (cB hr) cC (df (aq aE aF (df (dv 0)) (df ag))) (df aS) (ay _)))) (fun _ _ _ _=> (bJ (aa (aq aE aF (df (dv 0)) (df ag)) (aa (aq aE aF (df (dv 0)) (df ag)) aj))))))) bp)) (bP ig))
  case read=>
  clear hr T G_x14
  walk_at "rz"
  refine⟨xs,d7,n,rfl,ok.st,by decide+kernel,ok.le,fun res hres=> ⟨_,rfl,?_,?_⟩⟩
  ·rw [Jf];have:=hres.le;have:=ok.le;omega
  refine Fd (fun x=> match x with | .tuple (.str w:: .int n:: .str nm::r)=> if (w==Jc "rule")=true then some (.tuple [.str nm,r.headD .none]) else none | _=> none) (fun x hx R S h=> ?_) ?_
  ·obtain⟨y,hy,rfl⟩:=Jw.mp hx
   simp only [Rw.enc] at h⊢
   walk_at "rz"
   by_cases hr:(y.w==Jc "rule")=true
   ·rw [if_pos hr] at h⊢
    obtain⟨p,hp⟩:=ok.ru y (hres.it y hy).1 (eq_of_beq hr)
    rw [hp] at h⊢
    exact⟨p,ij,h⟩
   ·rw [if_neg hr] at h⊢
    exact h
  ·have e:∀l:List Rw,(l.map Rw.enc).filterMap (fun x=> match x with | .tuple (.str w:: .int n:: .str nm::r)=> if (w==Jc "rule")=true then some (.tuple [.str nm,r.headD .none]) else none | _=> none)=gc l:=by
    intro l
    induction l with
    | nil=> rfl
    | cons a l ih=>
     rw [Jj,KW,ih]
     unfold gc
     simp only [Rw.enc,Ki]
     by_cases hr:(a.w==Jc "rule")=true
     ·rw [if_pos hr,if_pos hr];rfl
     ·rw [if_neg hr,if_neg hr]
   rw [e]
   exact q res hres
theorem Hs{s s':cv}(h:s.enc=s'.enc):s=s':=by
 have n1:Jc "first"≠Jc "last":=by decide+kernel
 cases s <;> cases s' <;> simp only [cv.enc,KQ,J3,KP,and_true,reduceCtorEq,and_false] at h
 ·rfl
 ·rw [h.2]
 ·exact absurd h.1 n1
 ·exact absurd h.1.symm n1
 ·rw [h.2]
theorem vP{a b:Pt}(h:a.enc=b.enc):a=b:=by
 cases a <;> cases b <;> simp only [Pt.enc,KQ,J3,KP,Ld,and_true,reduceCtorEq,and_false] at h
 ·rw [h.1,h.2]
 ·obtain⟨h1,h2,h3,h4,h5⟩:=h
  rw [h1,h2,Hs h3,h4,h5]
theorem AL{α β:Type}{f:α→β}:∀{l:List α},(l.map f).Nodup→∀{a b:α},a∈l→b∈l→f a=f b→a=b
 | x::l,nd,a,b,ha,hb,e=> by
  rw [Jj,KA] at nd
  rcases Jy.mp ha with ea | ha1 <;> rcases Jy.mp hb with eb | hb1
  ·rw [ea,eb]
  ·subst ea;exact absurd (Jw.mpr ⟨b,hb1,e.symm⟩) nd.1
  ·subst eb;exact absurd (Jw.mpr ⟨a,ha1,e⟩) nd.1
  ·exact AL nd.2 ha1 hb1 e
def De.rw:De→Rw
 | .pap p=> ⟨Jc "paper",p.d,p.nm,[.str p.kd,.tuple (p.ms.map .str)]⟩
 | .oth w d nm r=> ⟨w,d,nm,r⟩
theorem De.rw_enc(x:De):x.rw.enc=x.enc:=by cases x <;> rfl
theorem AM(xs:List De):(xs.map De.rw).map Rw.enc=xs.map De.enc:=by
 rw [JH]
 congr 1
 funext x
 exact x.rw_enc
def AN(xs:List De)(n:Int)(z:Str×Pt):Prop:=∃d,d≤n∧De.oth (Jc "rule") d z.1 [z.2.enc]∈xs∧∀x∈xs,x.isE=true→x.nm=z.1→x.d≤n→x.d≤d
def lM(a b:Str×Pt):Prop:=dz a.1 b.1=true∧a.1≠b.1
def fA(xs:List De)(n:Int)(L:List (Str×Pt)):Prop:=L.Pairwise lM∧∀z,z∈L↔AN xs n z
theorem Ht(a b:Str×Pt)(h:lM a b):¬lM b a:=fun z=> h.2 (yV h.1 z.1)
theorem AO{L:List (Str×Pt)}(h:L.Pairwise lM):L.Nodup:=h.imp fun{a b} z e=> z.2 (by rw [e])
theorem Hu{L M:List (Str×Pt)}(h1:L.Pairwise lM)(h2:M.Pairwise lM)(h:∀z,z∈L↔z∈M):L=M:=
 lI Ht ((MU (AO h1) (AO h2)).mpr h) h1 h2
open Classical in
noncomputable def bR(xs:List De)(n:Int):List (Str×Pt):=if h:∃L,fA xs n L then h.choose else []
theorem AQ{xs:List De}{n:Int}{L:List (Str×Pt)}(h:fA xs n L):L=bR xs n:=by
 unfold bR
 have e:∃L,fA xs n L:=⟨L,h⟩
 rw [dif_pos e]
 exact Hu h.1 e.choose_spec.1 fun z=> (h.2 z).trans (e.choose_spec.2 z).symm
def d8(z:Str×Pt):PyData:= .tuple [.str z.1,z.2.enc]
theorem Hv{x:De}(np:x.rw.w∈d7)(hp:∀p,x≠ .pap p):x.isE=true:=by
 cases x with
 | pap p=> exact absurd rfl (hp p)
 | oth w d nm r=>
  have:w=Jc "rule"∨w=Jc "end":=by
   have h:w∈d7:=np
   unfold d7 at h
   rcases Jy.mp h with e | h
   ·exact .inl e
   ·rcases Jy.mp h with e | h
    ·exact .inr e
    ·cases h
  rcases this with e | e
  ·simp [De.isE,e]
  ·simp [De.isE,e]
theorem AR{x:De}(h:x.isE=true):x.rw.w∈d7∧x.rw.nm=x.nm∧x.rw.n=x.d:=by
 cases x with
 | pap p=> cases h
 | oth w d nm r=>
  refine⟨?_,rfl,rfl⟩
  simp only [De.isE,LG,beq_iff_eq] at h
  show w∈d7
  unfold d7
  rcases h with e | e
  ·rw [e];exact JY
  ·rw [e];exact JS _ JY
theorem Hw:Jc "paper" ∉ d7:=by decide+kernel
theorem AS{xs:List De}{n:Int}{res:List Rw}(g:dD xs)(h:n4 d7 n (xs.map De.rw) res):∃L,fA xs n L∧gc res=L.map d8:=by
 have from1:∀x∈res,x.w=Jc "rule"→∃pt:Pt,pt.Ok∧x.r=[pt.enc]∧De.oth (Jc "rule") x.n x.nm [pt.enc]∈xs:=fun x hx hw=> by
  obtain⟨h1,_,_⟩:=h.it x hx
  obtain⟨y,hy,rfl⟩:=Jw.mp h1
  cases y with
  | pap p=> exact absurd hw (by show Jc "paper"≠_;decide+kernel)
  | oth w d nm r=>
   have hw:w=Jc "rule":=hw
   subst hw
   obtain⟨pt,e,ok⟩:=g.ru _ _ _ hy
   subst e
   exact⟨pt,ok,rfl,hy⟩
 have pick:∀l:List Rw,(∀x∈l,x∈res)→∃L:List (Str×Pt),gc l=L.map d8∧L.map (·.1)=(l.filter fun x=> x.w==Jc "rule").map (·.nm)∧∀z∈L,∃x∈l,x.w=Jc "rule"∧x.nm=z.1∧x.r=[z.2.enc]:=by
  intro l
  induction l with
  | nil=> intro _;exact⟨[],rfl,rfl,by simp⟩
  | cons a l ih=>
   intro hl
   obtain⟨L,e1,e2,e3⟩:=ih fun x hx=> hl x (by simp [hx])
   by_cases hr:(a.w==Jc "rule")=true
   ·obtain⟨pt,_,er,_⟩:=from1 a (hl a (by simp)) (eq_of_beq hr)
    refine⟨(a.nm,pt)::L,?_,?_,?_⟩
    ·unfold gc at e1⊢
     rw [Ki,if_pos hr,Jj,Jj,e1,er];rfl
    ·rw [Ki,if_pos hr,Jj,Jj,e2]
    ·intro z hz
     rcases Jy.mp hz with rfl | hz
     ·exact⟨a,by simp,eq_of_beq hr,rfl,er⟩
     ·obtain⟨x,hx,h'⟩:=e3 z hz;exact⟨x,by simp [hx],h'⟩
   ·refine⟨L,?_,?_,?_⟩
    ·unfold gc at e1⊢
     rw [Ki,if_neg hr,e1]
    ·rw [Ki,if_neg hr,e2]
    ·intro z hz
     obtain⟨x,hx,h'⟩:=e3 z hz;exact⟨x,by simp [hx],h'⟩
 obtain⟨L,e1,e2,e3⟩:=pick res fun _ h=> h
 have key:∀x∈res,∀pt:Pt,x.r=[pt.enc]→x.w=Jc "rule"→AN xs n (x.nm,pt):=fun x hx pt er hw=> by
  obtain⟨pt',_,er',hm⟩:=from1 x hx hw
  obtain⟨h1,⟨_,h2⟩,h3⟩:=h.it x hx
  rw [er] at er'
  rw [←(Ml er').1] at hm
  refine⟨x.n,h2,hm,fun y hy ye yn yd=> ?_⟩
  obtain⟨a,b,c⟩:=AR ye
  have:=h3 y.rw (Jw.mpr ⟨y,hy,rfl⟩) ⟨a,by rw [c];exact yd⟩ (by rw [b];exact yn)
  rw [c] at this;exact this
 refine⟨L,⟨?_,fun z=> ⟨fun hz=> ?_,fun hz=> ?_⟩⟩,e1⟩
 ·have up:(L.map (·.1)).Pairwise fun a b=> dz a b=true:=by
   rw [e2];exact h.up.sublist (KN.map _)
  have nd:(L.map (·.1)).Nodup:=by
   rw [e2];exact h.nd.sublist (KN.map _)
  rw [Kf] at up
  rw [LY,Kf] at nd
  exact up.and nd
 ·obtain⟨x,hx,hw,hn,hr⟩:=e3 z hz
  have:=key x hx z.2 hr hw
  rw [hn] at this;exact this
 ·obtain⟨d,hd,hm,hal⟩:=hz
  have hmr:(De.oth (Jc "rule") d z.1 [z.2.enc]).rw∈xs.map De.rw:=Jw.mpr ⟨_,hm,rfl⟩
  have hok:fu d7 n (De.oth (Jc "rule") d z.1 [z.2.enc]).rw:=⟨JY,hd⟩
  obtain⟨x,hx,xn⟩:=h.al _ hmr hok
  have xn:x.nm=z.1:=xn
  obtain⟨h1,⟨h2a,h2b⟩,h3⟩:=h.it x hx
  obtain⟨y,hy,ey⟩:=Jw.mp h1
  have hyE:y.isE=true:=Hv (by rw [ey];exact h2a) fun p hp=> by
   rw [hp] at ey;rw [←ey] at h2a;exact Hw h2a
  obtain⟨_,yb,yc⟩:=AR hyE
  have dd:d≤x.n:=h3 _ hmr hok xn.symm
  have dd2:x.n≤d:=by
   have:=hal y hy hyE (by rw [←yb,ey];exact xn) (by rw [←yc,ey];exact h2b)
   rw [←yc,ey] at this;exact this
  have ee:y=De.oth (Jc "rule") d z.1 [z.2.enc]:=g.re y hy _ hm hyE (by simp [De.isE]) (by rw [←yc,ey];exact Nr dd2 dd) (by rw [←yb,ey];exact xn)
  subst ee
  have hw:x.w=Jc "rule":=by rw [←ey];rfl
  have hr:x.r=[z.2.enc]:=by rw [←ey];rfl
  have:z.1∈L.map (·.1):=by
   rw [e2]
   exact Jw.mpr ⟨x,JK.mpr ⟨hx,by rw [hw];exact beq_self_eq_true _⟩,xn⟩
  obtain⟨v,hv,vn⟩:=Jw.mp this
  obtain⟨x',hx',hw',hn',hr'⟩:=e3 v hv
  have exx:x'=x:=AL h.nd hx' hx (hn'.trans (vn.trans xn.symm))
  rw [exx,hr] at hr'
  have:v=z:=by
   obtain⟨v1,v2⟩:=v
   obtain⟨z1,z2⟩:=z
   have a1:v1=z1:=vn
   have a2:z2.enc=v2.enc:=(Ml hr').1
   rw [a1,vP a2.symm]
  rw [←this];exact hv
def Hx:List PyData→(PyData→Prop)→Prop:=fun ds Q=> ∃(xs:List De)(n:Int),ds=[.tuple (xs.map De.enc),.int n]∧dD xs∧(fA xs n (bR xs n)→(bR xs n).length≤41→Q (.tuple ((bR xs n).map d8)))
theorem AU{xs:List De}(g:dD xs)(wok:∀w d nm r,De.oth w d nm r∈xs→Jp w=true):AK (xs.map De.rw):=by
 refine⟨fun x hx=> ?_,fun x hx hw=> ?_,?_⟩
 ·obtain⟨y,hy,rfl⟩:=Jw.mp hx
  cases y with
  | pap p=> show Jp (Jc "paper")=true;decide+kernel
  | oth w d nm r=> exact wok _ _ _ _ hy
 ·obtain⟨y,hy,rfl⟩:=Jw.mp hx
  cases y with
  | pap p=> exact absurd hw (by show Jc "paper"≠_;decide+kernel)
  | oth w d nm r=>
   have hw:w=Jc "rule":=hw
   subst hw
   obtain⟨pt,e,_⟩:=g.ru _ _ _ hy
   exact⟨_,e⟩
 ·rw [Jf];have:=g.gx.ln;omega
theorem AV(T:Txt K mg t):aK P w K mg base CX0 2 t.a_x15 t.d_x15 ["deeds","day"] (bo K Hx):=
 (Hr T).imp fun vs H Q E ⟨O,ds,Qd,tr,hs,⟨xs,n,e,g,q⟩,k⟩=> ⟨O,ds,Qd,tr,hs,⟨xs.map De.rw,n,by rw [AM];exact e,AU g (fun w d nm r h=> g.gx.w _ h),fun res hres=> by
  obtain⟨L,h1,h2⟩:=AS g hres
  have e:=AQ h1
  rw [h2,e]
  refine q (by rw [←e];exact h1) ?_
  have hl:(gc res).length≤res.length:=by unfold gc;rw [Jf];exact J4 _ _
  have:=hres.le
  rw [Jf] at this
  rw [h2,Jf,e] at hl
  have:=g.gx.ln
  omega⟩,k⟩
end
end K16
open PySem L2
namespace K16
open Day
theorem AW:bH (ah gQ) ["paper","since","day","days"] ["other","day"] 1 [2] {kind:=Jt,names:=[ (Je ".0",PySem.NameKind.local),(Je "other",PySem.NameKind.local),(Je "day",Ju)],isGenerator:=false,isCoroutine:=false,more:=[]:JU}:=⟨rfl,by decide+kernel,by decide+kernel,by decide+kernel,rfl,by decide+kernel,by decide+kernel,by decide+kernel,rfl⟩
section
variable {P:Program} {w:World} {K:Jd} {mg:Str→Option Value} {base:Heap} {t:cJ}
theorem Hy{d k:Int}{u:Str}{r r':Int}(h:iS d k u r)(h':iS d k u r'):r=r':=by
 rcases h with⟨e,h⟩ | ⟨e,y,m,n,D,h⟩ | ⟨e,y,m,n,D,h⟩ <;> rcases h' with⟨e',h'⟩ | ⟨e',y',m',n',D',h'⟩ | ⟨e',y',m',n',D',h'⟩
 ·rw [h,h']
 ·exact absurd (e'.symm.trans e) Aj
 ·exact absurd (e'.symm.trans e) Ak
 ·exact absurd (e.symm.trans e') Aj
 ·obtain⟨rfl,rfl,rfl⟩:=D.uniq D';rw [h,h']
 ·exact absurd (e.symm.trans e') Al
 ·exact absurd (e.symm.trans e') Ak
 ·exact absurd (e'.symm.trans e) Al
 ·obtain⟨rfl,rfl,rfl⟩:=D.uniq D';rw [h,h']
open Classical in
noncomputable def jv(d k:Int)(u:Str):Int:=if h:∃r,iS d k u r then h.choose else 0
theorem AX{d k:Int}{u:Str}{r:Int}(h:iS d k u r):r=jv d k u:=by
 unfold jv
 rw [dif_pos ⟨r,h⟩]
 exact Hy h (Exists.choose_spec (⟨r,h⟩:∃r,iS d k u r))
def bT:Option Int→PyData
 | none=> .none
 | some i=> .int i
def fB(r:Rp):Prop:=AF r.hs∧Jp r.c.kd=true∧r.ts.length≤41∧∀m∈r.ts,Jp m=true
def gf(r:Rp)(wd:Str)(n:Int):List Int:=(lL r.hs wd).filter fun z=> decide (z≤n)
def oR(r:Rp)(n:Int):cv→Option Int
 | .com=> some r.c.d
 | .fst wd=> (gf r wd n).head?
 | .lst wd=> (gf r wd n).getLast?
theorem Hz{l:List Int}{Q:PyData→Prop}(q:Q (bT l.head?)):if (!(l.map fun z=> Jg z).isEmpty)=false then Q .none else ∃d,atI (l.map fun z=> Jg z) 0=some d∧Q d:=by
 cases l with
 | nil=> rw [if_pos (by rfl)];exact q
 | cons a l=> rw [if_neg (by simp)];exact⟨.int a,dU,q⟩
theorem xR{l:List PyData}{a:PyData}:atI (l++[a]) (-1)=some a:=by
 unfold atI fI
 rw [if_neg (by omega),if_pos (by rw [Kq,Mq];omega)]
 rw [show((-1:Int)+((l++[a]).length:Nat)).toNat=l.length by rw [Kq,Mq];omega]
 simp
theorem HA{l:List Int}{Q:PyData→Prop}(q:Q (bT l.getLast?)):if (!(l.map fun z=> Jg z).isEmpty)=false then Q .none else ∃d,atI (l.map fun z=> Jg z) (-1)=some d∧Q d:=by
 rcases NG l with e | ⟨l',a,e⟩
 ·subst e;rw [if_pos (by rfl)];exact q
 ·rw [NH] at e
  subst e
  rw [if_neg (by simp)]
  refine⟨.int a,?_,?_⟩
  ·rw [J6];exact xR
  ·rw [NR] at q;exact q
def HB(C:Addr):List PyData→(PyData→Prop)→Prop:=fun ds Q=> ∃(r:Rp)(s:cv)(n:Int),ds=[r.enc C,s.enc,.int n]∧s.Ok∧fB r∧Q (bT (oR r n s))
theorem HC(T:Txt K mg t):aK P w K mg base CX0 2 t.a_x17 t.d_x17 ["paper","since","day"] (bo K (HB t.u_Paper)):=by
 have G_x16:=Hn (P:=P) (w:=w) (base:=base) T
 refine T.F_x17.okD z7 (fun ds Q h=> ?_) (fun cdv A outer s H O ds Q E hr h=> ?_)
 ·obtain⟨r,s,n,rfl,_⟩:=h;rfl
 ·obtain⟨r,si,n,rfl,hsi,hh,q⟩:=h
  refine'⟨_,?body,?read⟩
  case body=>
   refine' au ?s1 ?r1
   case s1=>
    refine' bt ?c2 ?a2 br
    case c2=> exact(aI (cB hr) cC (df (aq aE aF (df (dv 1)) (df ag))) (df aS) (ay _))
    case' a2=> refine' aA ?s3
    case s3=> exact(aO (lq (C:=t.u_Paper) T.cl_Paper T.na_Paper_coming (dv 0)))
   case' r1=> refine' au ?s5 ?r5
   case s5=> exact(ik (i:=3) z7.nd rfl (by walk_at "o") (nv rfl AW (df (PE.imp (ax G_x16 (hr.mono (by decide)) rfl T.m_x16 T.F_x16.kp T.b_x16 .nil av (aa (dv 0) (aa (aq aE aF (df (dv 1)) (df ag)) aj))) aC)) aY cy (by decide) (fun _ _ _ _=> (aU (i:=0) AW.nd rfl (by walk_at "o"))) (fun _ _ _ _=> (dj (aI fH dJ (df (dv 0)) (df (dv 1)) (ay _)))) (fun _ _ _ _=> (dv 0))))
   case' r5=> refine' au ?s7 ?r7
   case s7=>
    refine' bt ?c8 ?a8 br
    case c8=> exact(ku (vv (dv 3)))
    case a8=> refine' aA (aO eY)
   case' r7=> refine' aA ?s11
   case' s11=> refine' aO ?e12
   case e12=> exact(Eb (aI (cB hr) cC (df (aq aE aF (df (dv 1)) (df ag))) (df aS) (ay _)) (aq bN cj (df (dv 3)) (df ag)) (aq bN cj (df (dv 3)) (df (qE ag))))
  case read=>
  clear hr T G_x16
  have dl:∀wd,(lL r.hs wd).length≤41:=fun wd=> by
   unfold lL;rw [Jf];exact JL (J4 _ _) hh.1.1
  cases si with
  | com=>
   simp only [cv.enc]
   walk_at "rz"
   exact⟨[Jc "name",Jc "coming",Jc "kind",Jc "makers",Jc "happenings"],_,rfl,_,AG,q⟩
  | fst wd=>
   simp only [cv.enc]
   walk_at "rz"
   rw [bS (show Jc "first"≠Jc "coming" by decide+kernel),if_neg Jk]
   have dl:=dl wd
   refine⟨r,wd,rfl,hh.1,hsi,_,rfl,by rw [Jf];omega,dh (fun z=> decide (z≤n)) (fun z=> .int z) (fun x hx R S h=> ?_) ?_⟩
   ·walk_at "rz"
    simpa using h
   ·have q:Q (bT (gf r wd n).head?):=q
    unfold gf at q
    exact Hz q
  | lst wd=>
   simp only [cv.enc]
   walk_at "rz"
   rw [bS (show Jc "last"≠Jc "coming" by decide+kernel),if_neg Jk]
   have dl:=dl wd
   refine⟨r,wd,rfl,hh.1,hsi,_,rfl,by rw [Jf];omega,dh (fun z=> decide (z≤n)) (fun z=> .int z) (fun x hx R S h=> ?_) ?_⟩
   ·walk_at "rz"
    simpa using h
   ·have q:Q (bT (gf r wd n).getLast?):=q
    unfold gf at q
    exact HA q
noncomputable def bU(r:Rp)(n:Int):Pt→Option Int
 | .five _ _ s k u=> (oR r n s).map fun b=> jv b k u
 | .two _ _=> none
def HD(C:Addr):List PyData→(PyData→Prop)→Prop:=fun ds Q=> ∃(r:Rp)(w kd:Str)(s:cv)(k:Int)(u:Str)(n:Int),ds=[r.enc C,(Pt.five w kd s k u).enc,.int n]∧s.Ok∧g5 u∧fB r∧Q (bT (bU r n (.five w kd s k u)))
theorem AY(T:Txt K mg t):aK P w K mg base CX0 6 t.a_x18 t.d_x18 ["paper","parts","day"] (bo K (HD t.u_Paper)):=by
 have G_x17:=HC (P:=P) (w:=w) (base:=base) T
 have G_x7:=G2 (P:=P) (w:=w) (base:=base) T
 refine T.F_x18.okD z8 (fun ds Q h=> ?_) (fun cdv A outer s H O ds Q E hr h=> ?_)
 ·obtain⟨r,w,kd,s,k,u,n,rfl,_⟩:=h;rfl
 ·obtain⟨r,wo,kd,si,k,u,n,rfl,hsi,hu,hh,q⟩:=h
  refine'⟨_,?body,?read⟩
  case body=>
   refine' au ?s1 ?r1
   case s1=>
    refine' bL (i:=3) z8.nd rfl (by walk_at "o") ?e2 (hs:=il)
    case e2=> exact(PE.imp (ax G_x17 (hr.mono (by decide)) rfl T.m_x17 T.F_x17.kp T.b_x17 .nil av (aa (dv 0) (aa (aq aE aF (df (dv 1)) (df ag)) (aa (dv 2) aj)))) aC)
   case' r1=> refine' au ?s4 ?r4
   case s4=>
    refine' bt ?c5 ?a5 br
    case c5=> exact(aI ke la (df (dv 3)) (df eY) (ay _))
    case a5=> refine' aA (aO eY)
   case' r4=> refine' aA ?s8
   case' s8=> refine' aO ?e9
   case e9=> exact(PE.imp (ax G_x7 (hr.mono (by decide)) rfl T.m_x7 T.F_x7.kp T.b_x7 .nil av (aa (dv 3) (aa (aq aE aF (df (dv 1)) (df ag)) (aa (aq aE aF (df (dv 1)) (df ag)) aj)))) aC)
  case read=>
  clear hr T G_x17 G_x7
  simp only [Pt.enc]
  walk_at "rz"
  refine⟨r,si,n,rfl,hsi,hh,?_⟩
  have q:Q (bT ((oR r n si).map fun b=> jv b k u)):=q
  cases hb:oR r n si with
  | none=>
   rw [hb] at q
   simp only [bT,cH]
   walk_at "rz"
   exact q
  | some b=>
   rw [hb] at q
   simp only [bT,cH]
   walk_at "rz"
   exact⟨b,k,u,rfl,hu,fun x hx=> by rw [AX hx];exact q⟩
theorem tN{xs:List De}{c:Pp}(g:dD xs)(hc:c∈bb xs)(h1:∀z,z∈g6 (dX xs c.nm)↔z∈dX xs c.nm)(h3:(g6 (dX xs c.nm)).length≤41):fB (bu xs c):=by
 refine⟨⟨h3,fun z hz=> ?_⟩,g.gx.gp.kd c hc,?_,fun m hm=> ?_⟩
 ·have hz:=(h1 z).mp hz
  unfold dX at hz
  obtain⟨x,hx,e⟩:=Jw.mp hz
  obtain⟨hx1,hx2⟩:=JK.mp hx
  cases x with
  | pap p=> cases hx2
  | oth w d nm r=>
   simp only [fz,Kh,beq_iff_eq] at hx2
   obtain⟨rfl,rfl⟩:=hx2
   obtain⟨wd,rfl,hw⟩:=g.hp _ _ _ hx1
   rw [←e];exact hw
 ·show((cR (bb xs) c).map (·.nm)).length≤41
  rw [Jf];exact tM g.gx.gp
 ·obtain⟨p,hp,rfl⟩:=Jw.mp hm
  exact g.gx.gp.nm p (tJ.mp (JK.mp hp).1)
end
end K16
open PySem L2
namespace K16
open Day
theorem AZ:bH (ah gR) ["paper","rules","day"] ["pair","paper"] 1 [0] {kind:=Jt,names:=[ (Je ".0",PySem.NameKind.local),(Je "pair",PySem.NameKind.local),(Je "paper",Ju)],isGenerator:=false,isCoroutine:=false,more:=[]:JU}:=⟨rfl,by decide+kernel,by decide+kernel,by decide+kernel,rfl,by decide+kernel,by decide+kernel,by decide+kernel,rfl⟩
theorem A0:bH (ah gS) ["paper","rules","day","gone","left","calls","rule","parts","due"] ["maker","gone","day"] 1 [3,2] {kind:=Jt,names:=[ (Je ".0",PySem.NameKind.local),(Je "maker",PySem.NameKind.local),(Je "has_gone",J7),(Je "day",Ju),(Je "gone",Ju)],isGenerator:=false,isCoroutine:=false,more:=[]:JU}:=⟨rfl,by decide+kernel,by decide+kernel,by decide+kernel,rfl,by decide+kernel,by decide+kernel,by decide+kernel,rfl⟩
theorem A1:bH (ah gT) ["paper","rules","day","gone","away","calls","rule","parts","due"] ["maker","gone","day"] 1 [3,2] {kind:=Jt,names:=[ (Je ".0",PySem.NameKind.local),(Je "maker",PySem.NameKind.local),(Je "has_gone",J7),(Je "day",Ju),(Je "gone",Ju)],isGenerator:=false,isCoroutine:=false,more:=[]:JU}:=⟨rfl,by decide+kernel,by decide+kernel,by decide+kernel,rfl,by decide+kernel,by decide+kernel,by decide+kernel,rfl⟩
section
variable {P:Program} {w:World} {K:Jd} {mg:Str→Option Value} {base:Heap} {t:cJ}
structure Gn where
 ks:List Str
 gs:List Int
def Gn.enc(g:Gn):PyData:=dO g.ks (g.gs.map .int)
def jX:List Str→List Int→Str→Option Int
 | k::ks,d::ds,z=> if k=z then some d else jX ks ds z
 | _,_,_=> none
theorem tO:∀(ks:List Str)(gs:List Int)(z:Str),ck ks (gs.map .int) z=(jX ks gs z).map .int
 | [],_,_=> rfl
 | _::_,[],_=> rfl
 | k::ks,g::gs,z=> by
  rw [Jj]
  unfold ck jX
  by_cases h:k=z
  ·rw [if_pos h,if_pos h];rfl
  ·rw [if_neg h,if_neg h];exact tO ks gs z
def Gn.at(g:Gn)(z:Str):Option Int:=jX g.ks g.gs z
def Gn.has(g:Gn)(n:Int)(z:Str):Bool:=match g.at z with
 | some d=> decide (d≤n)
 | none=> false
def HE:List PyData→(PyData→Prop)→Prop:=fun ds Q=> ∃(g:Gn)(z:Str)(n:Int),ds=[g.enc,.str z,.int n]∧Q (.bool (g.has n z))
theorem A2(T:Txt K mg t):aK P w K mg base CX0 1 t.a_x20 t.d_x20 ["gone","paper","day"] (bo K HE):=by
 refine T.F_x20.okD z9 (fun ds Q h=> ?_) (fun cdv A outer s H O ds Q E hr h=> ?_)
 ·obtain⟨g,z,n,rfl,_⟩:=h;rfl
 ·obtain⟨g,z,n,rfl,q⟩:=h
  refine'⟨_,?body,?read⟩
  case body=>
   refine' au ?s1 ?r1
   case s1=> exact(bL (i:=3) z9.nd rfl (by walk_at "o") (Ge hr.units (dv 0) (dv 1) ⟨rfl,rfl,rfl,rfl⟩))
   case' r1=> refine' aA ?s3
   case' s3=> refine' aO ?e4
   case e4=> exact(kA (eI uv u7 (df (dv 3)) (df eY) (ay _)) (kz (eI fH dJ (df (dv 3)) (df (dv 2)) (ay _))))
  case read=>
  clear hr T
  simp only [Gn.enc]
  walk_at "rz"
  refine⟨g.ks,_,rfl,?_⟩
  rw [tO]
  have q:Q (.bool (match g.at z with | some d=> decide (d≤n) | none=> false)):=q
  unfold Gn.at at q
  cases hd:jX g.ks g.gs z with
  | none=>
   rw [hd] at q
   simp only [L8,M8,cH]
   walk_at "rz"
   exact q
  | some d=>
   rw [hd] at q
   simp only [KU,Option.getD_some,cH]
   walk_at "rz"
   exact q
theorem A3{a b c d e:PyData}:ck [Jc "name",Jc "coming",Jc "kind",Jc "makers",Jc "happenings"] [a,b,c,d,e] (Jc "makers")=some d:=by
 simp only [ck]
 rw [if_neg (by decide+kernel),if_neg (by decide+kernel),if_neg (by decide+kernel),if_pos trivial]
def Pt.wd:Pt→Str
 | .two w _=> w
 | .five w _ _ _ _=> w
def Pt.kd:Pt→Str
 | .two _ kd=> kd
 | .five _ kd _ _ _=> kd
theorem Pt.kdOk{p:Pt}(h:p.Ok):Jp p.kd=true:=by cases p with | two w kd=> exact h.2.2 | five w kd s k u=> exact h.2.1
theorem Pt.at1(p:Pt):∃l,p.enc= .tuple l∧atI l 1=some (.str p.kd):=by cases p <;> exact⟨_,rfl,cW⟩
def lN(L:List (Str×Pt)):Prop:=L.length≤41∧∀z∈L,z.2.Ok
def cD(r:Rp)(n:Int)(L:List (Str×Pt)):List (Str×Pt):=if r.c.d > n then [] else L.filter fun z=> z.2.kd==r.c.kd
def HF(C:Addr):List PyData→(PyData→Prop)→Prop:=fun ds Q=> ∃(r:Rp)(L:List (Str×Pt))(n:Int),ds=[r.enc C,.tuple (L.map d8),.int n]∧fB r∧lN L∧Q (.list ((cD r n L).map d8))
theorem A4(T:Txt K mg t):aK P w K mg base CX0 1 t.a_x19 t.d_x19 ["paper","rules","day"] (bo K (HF t.u_Paper)):=by
 refine T.F_x19.okD GN (fun ds Q h=> ?_) (fun cdv A outer s H O ds Q E hr h=> ?_)
 ·obtain⟨r,L,n,rfl,_⟩:=h;rfl
 ·obtain⟨r,L,n,rfl,hr',hL,q⟩:=h
  refine'⟨_,?body,?read⟩
  case body=>
   refine' au ?s1 ?r1
   case s1=>
    refine' bt ?c2 ?a2 br
    case c2=> exact(aI kc dJ (df (lq (C:=t.u_Paper) T.cl_Paper T.na_Paper_coming (dv 0))) (df (dv 2)) (ay _))
    case' a2=> refine' aA ?s3
    case s3=> exact(aO (fe (cM aj)))
   case' r1=> refine' aA ?s5
   case' s5=> refine' aO ?e6
   case' e6=> refine' fe ?f7
   case f7=> exact(mR rfl AZ (df (dv 1)) aY cy (by decide) (fun _ _ _ _=> (aU (i:=0) AZ.nd rfl (by walk_at "o"))) (fun _ _ _ _=> (dj (aI (cz hr.units) cA (df (aq aE aF (df (aq aE aF (df (dv 0)) (df ag))) (df ag))) (df (lq (C:=t.u_Paper) T.cl_Paper T.na_Paper_kind (dv 1))) (ay _)))) (fun _ _ _ _=> (dv 0)))
  case read=>
  clear hr T
  walk_at "rz"
  refine⟨[Jc "name",Jc "coming",Jc "kind",Jc "makers",Jc "happenings"],_,rfl,_,AG,r.c.d,rfl,?_⟩
  unfold cD at q
  by_cases hd:r.c.d > n
  ·rw [if_pos hd] at q⊢
   exact q
  ·rw [if_neg hd] at q⊢
   refine⟨by rw [Jf];have:=hL.1;omega,dh (fun z:Str×Pt=> z.2.kd==r.c.kd) d8 (fun x hx R S h=> ?_) q⟩
   simp only [d8]
   obtain⟨l,e1,e2⟩:=Pt.at1 x.2
   rw [e1]
   walk_at "rz"
   refine⟨_,e2,[Jc "name",Jc "coming",Jc "kind",Jc "makers",Jc "happenings"],_,rfl,_,Hm,cO.mpr (Pt.kdOk (hL.2 x hx)),cO.mpr hr'.2.1,?_⟩
   rw [gF]
   simp only [d8] at h
   rw [e1] at h
   exact h
def bf(z:Str×PyData):PyData:= .tuple [.str z.1,z.2]
def eM(r:Rp)(n:Int)(g:Gn):List Str:=r.ts.filter fun m=> !g.has n m
def eN(r:Rp)(n:Int)(g:Gn):List Str:=r.ts.filter fun m=> g.has n m
def cS(n:Int):Option Int→Bool
 | none=> true
 | some d=> decide (d > n)
noncomputable def oT(r:Rp)(n:Int)(g:Gn):Pt→Option PyData
 | .five w kd s k u=> if w=Jc "keep"∧cS n (bU r n (.five w kd s k u))=true then some (bT (bU r n (.five w kd s k u))) else none
 | .two w kd=> if w=Jc "while" then(eM r n g).head?.map .str else none
noncomputable def oU(r:Rp)(n:Int)(g:Gn):Pt→Option PyData
 | .five w kd s k u=> if w=Jc "gone"∧cS n (bU r n (.five w kd s k u))=false then some (bT (bU r n (.five w kd s k u))) else none
 | .two w kd=> if w=Jc "follow" then(eN r n g).head?.map .str else none
noncomputable def iT(r:Rp)(n:Int)(g:Gn)(z:Str×Pt):List (Str×PyData):=((oT r n g z.2).map fun b=> (z.1,b)).toList
noncomputable def iU(r:Rp)(n:Int)(g:Gn)(z:Str×Pt):List (Str×PyData):=((oU r n g z.2).map fun b=> (z.1,b)).toList
noncomputable def dP(r:Rp)(n:Int)(g:Gn)(L:List (Str×Pt)):List (Str×PyData):=(cD r n L).flatMap (iT r n g)
noncomputable def dQ(r:Rp)(n:Int)(g:Gn)(L:List (Str×Pt)):List (Str×PyData):=(cD r n L).flatMap (iU r n g)
theorem tP{α β:Type}{f:α→List β}(h:∀x,(f x).length≤1):∀l:List α,(l.flatMap f).length≤l.length
 | []=> by simp
 | x::l=> by
  rw [List.flatMap_cons,Kq,JC]
  have:=h x
  have:=tP h l
  omega
theorem vQ{α:Type}(o:Option α):o.toList.length≤1:=by cases o <;> simp
theorem A5{f:Str×Pt→Option PyData}(M:List (Str×Pt))(hM:M.length≤41):∃acc:Nat→List PyData,acc 0=[]∧(∀i,(acc i).length≤41)∧(∀i x,M[i]?=some x→f x=none→acc (i+1)=acc i)∧(∀i x,M[i]?=some x→∀b,f x=some b→acc (i+1)=acc i++[.tuple [.str x.1,b]])∧acc M.length=(M.flatMap fun z=> ((f z).map fun b=> (z.1,b)).toList).map bf:=by
 refine⟨fun i=> ((M.take i).flatMap fun z=> ((f z).map fun b=> (z.1,b)).toList).map bf,rfl,fun i=> ?_,fun i x hx e=> ?_,fun i x hx b e=> ?_,?_⟩
 ·show(JF bf _).length≤41
  rw [Jf]
  refine JL (tP (fun z=> vQ _) _) ?_
  rw [J8];omega
 ·show JF bf _=JF bf _
  rw [Kk,hx,L3]
  simp [e]
 ·show JF bf _=JF bf _++_
  rw [Kk,hx,L3,J6]
  simp [e,bf]
 ·show JF bf _=_
  rw [JQ (Jm _)]
theorem A6{r:Rp}{n:Int}{L:List (Str×Pt)}(h:lN L):lN (cD r n L):=by
 unfold cD
 split
 ·exact⟨by simp,by simp⟩
 ·exact⟨JL (J4 _ _) h.1,fun z hz=> h.2 z (JK.mp hz).1⟩
def F_x21(C:Addr):List PyData→(PyData→Prop)→Prop:=fun ds Q=> ∃(r:Rp)(L:List (Str×Pt))(n:Int)(g:Gn),ds=[r.enc C,.tuple (L.map d8),.int n,g.enc]∧fB r∧lN L∧Q (.tuple ((dP r n g L).map bf))
theorem HG(T:Txt K mg t):aK P w K mg base CX0 7 t.a_x21 t.d_x21 ["paper","rules","day","gone"] (bo K (F_x21 t.u_Paper)):=by
 have G_x20:=A2 (P:=P) (w:=w) (base:=base) T
 have G_x19:=A4 (P:=P) (w:=w) (base:=base) T
 have G_x18:=AY (P:=P) (w:=w) (base:=base) T
 refine T.F_x21.okD lC (fun ds Q h=> ?_) (fun cdv A outer s H O ds Q E hr h=> ?_)
 ·obtain⟨r,L,n,g,rfl,_⟩:=h;rfl
 ·obtain⟨r,L,n,g,rfl,hr',hL,q⟩:=h
  refine'⟨_,?body,?read⟩
  case body=>
   refine' au ?s1 ?r1
   case s1=> exact(ik (i:=4) lC.nd rfl (by walk_at "o") (sX rfl A0 (df (lq (C:=t.u_Paper) T.cl_Paper T.na_Paper_makers (dv 0))) aY cy (by decide) (fun _ _ _ _=> (aU (i:=0) A0.nd rfl (by walk_at "o"))) (fun _ _ _ _=> (dj (ku (gw (PE.imp (ax G_x20 (hr.mono (by decide)) rfl T.m_x20 T.F_x20.kp T.b_x20 .nil av (aa (dv 1) (aa (dv 0) (aa (dv 2) aj)))) aC))))) (fun _ _ _ _=> (dv 0))))
   case' r1=> refine' au ?s3 ?r3
   case s3=> exact(pT (i:=5) lC.nd rfl (by walk_at "o") (cM aj))
   case' r3=> refine' au ?s5 ?r5
   case s5=>
    refine' kH Kd rfl (PE.imp (ax G_x19 (hr.mono (by decide)) rfl T.m_x19 T.F_x19.kp T.b_x19 .nil av (aa (dv 0) (aa (dv 1) (aa (dv 2) aj)))) aC) ?a6 (jI (d4 aY (d4 aY jH))) ?b6
    case a6=> exact(i7 (n:=2) rfl (dF (aU (i:=6) lC.nd rfl (by walk_at "o")) (dF (aU (i:=7) lC.nd rfl (by walk_at "o")) i6)))
    case' b6=> refine' au ?s7 ?r7
    case s7=>
     refine' bt ?c8 ?a8 br
     case c8=> exact(aI (cB hr) cC (df (aq aE aF (df (dv 7)) (df ag))) (df aS) (ay _))
     case' a8=> refine' au ?s9 ?r9
     case s9=> exact(bL (i:=8) lC.nd rfl (by walk_at "o") (PE.imp (ax G_x18 (hr.mono (by decide)) rfl T.m_x18 T.F_x18.kp T.b_x18 .nil av (aa (dv 0) (aa (dv 7) (aa (dv 2) aj)))) aC))
     case' r9=> refine' aA ?s11
     case' s11=> refine' bt ?c12 ?a12 br
     case c12=> exact(PW.pt (jf (aI ke la (df (dv 8)) (df eY) (ay _)) (je (aI kc dJ (df (dv 8)) (df (dv 2)) (ay _)))))
     case' a12=> refine' aA ?s13
     case s13=> exact(hZ (i:=5) (pv 5) (bJ (aa (dv 6) (aa (dv 8) aj))))
    case' r7=> refine' aA ?s15
    case' s15=> refine' bt ?c16 ?a16 br
    case c16=> exact(PW.pt (dn (aI (cB hr) cC (df (aq aE aF (df (dv 7)) (df ag))) (df aS) (ay _)) (dR (vv (dv 4)))))
    case' a16=> refine' aA ?s17
    case' s17=> refine' hZ (i:=5) (pv 5) ?e18
    case e18=> exact(bJ (aa (dv 6) (aa (aq bN cj (df (dv 4)) (df ag)) aj)))
   case' r5=> refine' aA ?s20
   case s20=> exact(aO (PE.imp (eD hW rfl T.n_tuple fL (aW (dw 5) bp)) (bP ig)))
  case read=>
  clear hr T G_x20 G_x19 G_x18
  walk_at "rz"
  refine⟨[Jc "name",Jc "coming",Jc "kind",Jc "makers",Jc "happenings"],_,rfl,_,A3,_,rfl,by rw [Jf];have:=hr'.2.2.1;omega,dh (fun m=> !g.has n m) (fun m=> .str m) (fun x hx R S h=> ?_) ?_⟩
  ·walk_at "rz"
   exact⟨g,x,n,rfl,by simpa using h⟩
  ·refine⟨r,L,n,rfl,hr',hL,?_⟩
   have ok:=A6 (r:=r) (n:=n) hL
   walk_at "rz"
   have q:Q (.tuple (((cD r n L).flatMap (iT r n g)).map bf)):=q
   generalize hM:cD r n L=M at ok q⊢
   obtain⟨acc,a0,al,an,as,ae⟩:=A5 (f:=fun z:Str×Pt=> oT r n g z.2) M ok.1
   refine⟨fun i δ=> ∃o6 o7 o8,δ=[some (Sl.v (Rp.enc t.u_Paper r)),some (Sl.v (JG (JF d8 L))),some (Sl.v (Jg n)),some (Sl.v g.enc),some (Sl.v (J0 ((eM r n g).map fun m=> Jh m))),some (Sl.o (acc i)),o6,o7,o8],⟨_,_,_,by rw [a0];rfl⟩,?_,?_⟩
   ·rintro i z δ hz ⟨o6,o7,o8,rfl⟩
    rw [JB] at hz
    cases hz':M[i]? with
    | none=> rw [hz'] at hz;cases hz
    | some x=>
     rw [hz'] at hz;cases hz
     have xo:=ok.2 x (JO hz')
     have tl:=al i
     have none_:=an i x hz'
     have some_:=as i x hz'
     obtain⟨nm,pt⟩:=x
     simp only [d8]
     cases pt with
     | two w2 kd=>
      have k1:w2≠Jc "keep":=fun e=> xo.1 (.inl e)
      simp only [Pt.enc]
      walk_at "rz"
      rw [bS k1,if_neg Jk]
      by_cases hw:w2=Jc "while"
      ·subst hw
       rw [if_pos (beq_self_eq_true _)]
       cases hl:eM r n g with
       | nil=>
        rw [none_ (by show(if Jc "while"=Jc "while" then(eM r n g).head?.map Jh else none)=none;rw [if_pos rfl,hl];rfl),if_neg (by simp)]
        exact⟨rfl,_,rfl⟩
       | cons m l=>
        rw [some_ (.str m) (by show(if Jc "while"=Jc "while" then(eM r n g).head?.map Jh else none)=some _;rw [if_pos rfl,hl];rfl),if_pos (by rfl)]
        exact⟨_,dU,by omega,rfl,_,rfl⟩
      ·rw [bS hw,if_neg Jk]
       rw [none_ (by show(if w2=Jc "while" then(eM r n g).head?.map Jh else none)=none;rw [if_neg hw])]
       exact⟨rfl,_,rfl⟩
     | five w2 kd si k u=>
      have k1:w2≠Jc "while":=fun e=> by rcases xo.1 with z | z <;> rw [z] at e <;> exact absurd e (by decide+kernel)
      simp only [Pt.enc]
      walk_at "rz"
      by_cases hw:w2=Jc "keep"
      ·subst hw
       rw [if_pos (beq_self_eq_true _)]
       refine⟨r,Jc "keep",kd,si,k,u,n,rfl,xo.2.2.1,xo.2.2.2.2.2,hr',?_⟩
       have df:oT r n g (.five (Jc "keep") kd si k u)=if Jc "keep"=Jc "keep"∧cS n (bU r n (.five (Jc "keep") kd si k u))=true then some (bT (bU r n (.five (Jc "keep") kd si k u))) else none:=rfl
       cases hd:bU r n (.five (Jc "keep") kd si k u) with
       | none=>
        rw [hd] at df
        simp only [bT,cH]
        walk_at "rz"
        refine⟨by omega,?_⟩
        rw [bS (show Jc "keep"≠Jc "while" by decide+kernel),if_neg Jk]
        rw [some_ .none (by rw [df,if_pos ⟨rfl,rfl⟩];rfl)]
        exact⟨rfl,_,rfl⟩
       | some d=>
        rw [hd] at df
        simp only [bT,cH]
        walk_at "rz"
        by_cases hdn:n < d
        ·rw [if_pos hdn]
         refine⟨by omega,?_⟩
         rw [bS (show Jc "keep"≠Jc "while" by decide+kernel),if_neg Jk]
         rw [some_ (.int d) (by rw [df,if_pos ⟨rfl,decide_eq_true hdn⟩];rfl)]
         exact⟨rfl,_,rfl⟩
        ·rw [if_neg hdn]
         rw [bS (show Jc "keep"≠Jc "while" by decide+kernel),if_neg Jk]
         rw [none_ (by rw [df,if_neg fun z=> hdn (of_decide_eq_true z.2)])]
         exact⟨rfl,_,rfl⟩
      ·rw [bS hw,if_neg Jk,bS k1,if_neg Jk]
       rw [none_ (by show(if w2=Jc "keep"∧cS n (bU r n (.five w2 kd si k u))=true then some (bT (bU r n (.five w2 kd si k u))) else none)=none;rw [if_neg fun z=> hw z.1])]
       exact⟨rfl,_,rfl⟩
   ·rintro δ ⟨o6,o7,o8,rfl⟩
    walk_at "rz"
    rw [Jf,ae]
    exact q
def F_x22(C:Addr):List PyData→(PyData→Prop)→Prop:=fun ds Q=> ∃(r:Rp)(L:List (Str×Pt))(n:Int)(g:Gn),ds=[r.enc C,.tuple (L.map d8),.int n,g.enc]∧fB r∧lN L∧Q (.tuple ((dQ r n g L).map bf))
theorem HH(T:Txt K mg t):aK P w K mg base CX0 7 t.a_x22 t.d_x22 ["paper","rules","day","gone"] (bo K (F_x22 t.u_Paper)):=by
 have G_x20:=A2 (P:=P) (w:=w) (base:=base) T
 have G_x19:=A4 (P:=P) (w:=w) (base:=base) T
 have G_x18:=AY (P:=P) (w:=w) (base:=base) T
 refine T.F_x22.okD lE (fun ds Q h=> ?_) (fun cdv A outer s H O ds Q E hr h=> ?_)
 ·obtain⟨r,L,n,g,rfl,_⟩:=h;rfl
 ·obtain⟨r,L,n,g,rfl,hr',hL,q⟩:=h
  refine'⟨_,?body,?read⟩
  case body=>
   refine' au ?s1 ?r1
   case s1=> exact(ik (i:=4) lE.nd rfl (by walk_at "o") (sX rfl A1 (df (lq (C:=t.u_Paper) T.cl_Paper T.na_Paper_makers (dv 0))) aY cy (by decide) (fun _ _ _ _=> (aU (i:=0) A1.nd rfl (by walk_at "o"))) (fun _ _ _ _=> (dj (gw (PE.imp (ax G_x20 (hr.mono (by decide)) rfl T.m_x20 T.F_x20.kp T.b_x20 .nil av (aa (dv 1) (aa (dv 0) (aa (dv 2) aj)))) aC)))) (fun _ _ _ _=> (dv 0))))
   case' r1=> refine' au ?s3 ?r3
   case s3=> exact(pT (i:=5) lE.nd rfl (by walk_at "o") (cM aj))
   case' r3=> refine' au ?s5 ?r5
   case s5=>
    refine' kH Kd rfl (PE.imp (ax G_x19 (hr.mono (by decide)) rfl T.m_x19 T.F_x19.kp T.b_x19 .nil av (aa (dv 0) (aa (dv 1) (aa (dv 2) aj)))) aC) ?a6 (jI (d4 aY (d4 aY jH))) ?b6
    case a6=> exact(i7 (n:=2) rfl (dF (aU (i:=6) lE.nd rfl (by walk_at "o")) (dF (aU (i:=7) lE.nd rfl (by walk_at "o")) i6)))
    case' b6=> refine' au ?s7 ?r7
    case s7=>
     refine' bt ?c8 ?a8 br
     case c8=> exact(aI (cB hr) cC (df (aq aE aF (df (dv 7)) (df ag))) (df aS) (ay _))
     case' a8=> refine' au ?s9 ?r9
     case s9=> exact(bL (i:=8) lE.nd rfl (by walk_at "o") (PE.imp (ax G_x18 (hr.mono (by decide)) rfl T.m_x18 T.F_x18.kp T.b_x18 .nil av (aa (dv 0) (aa (dv 7) (aa (dv 2) aj)))) aC))
     case' r9=> refine' aA ?s11
     case' s11=> refine' bt ?c12 ?a12 br
     case c12=> exact(PW.pt (dn (aI uv u7 (df (dv 8)) (df eY) (ay _)) (dR (aI fH dJ (df (dv 8)) (df (dv 2)) (ay _)))))
     case' a12=> refine' aA ?s13
     case s13=> exact(hZ (i:=5) (pv 5) (bJ (aa (dv 6) (aa (dv 8) aj))))
    case' r7=> refine' aA ?s15
    case' s15=> refine' bt ?c16 ?a16 br
    case c16=> exact(PW.pt (dn (aI (cB hr) cC (df (aq aE aF (df (dv 7)) (df ag))) (df aS) (ay _)) (dR (vv (dv 4)))))
    case' a16=> refine' aA ?s17
    case' s17=> refine' hZ (i:=5) (pv 5) ?e18
    case e18=> exact(bJ (aa (dv 6) (aa (aq bN cj (df (dv 4)) (df ag)) aj)))
   case' r5=> refine' aA ?s20
   case s20=> exact(aO (PE.imp (eD hW rfl T.n_tuple fL (aW (dw 5) bp)) (bP ig)))
  case read=>
  clear hr T G_x20 G_x19 G_x18
  walk_at "rz"
  refine⟨[Jc "name",Jc "coming",Jc "kind",Jc "makers",Jc "happenings"],_,rfl,_,A3,_,rfl,by rw [Jf];have:=hr'.2.2.1;omega,dh (fun m=> g.has n m) (fun m=> .str m) (fun x hx R S h=> ?_) ?_⟩
  ·walk_at "rz"
   exact⟨g,x,n,rfl,by simpa using h⟩
  ·refine⟨r,L,n,rfl,hr',hL,?_⟩
   have ok:=A6 (r:=r) (n:=n) hL
   walk_at "rz"
   have q:Q (.tuple (((cD r n L).flatMap (iU r n g)).map bf)):=q
   generalize hM:cD r n L=M at ok q⊢
   obtain⟨acc,a0,al,an,as,ae⟩:=A5 (f:=fun z:Str×Pt=> oU r n g z.2) M ok.1
   refine⟨fun i δ=> ∃o6 o7 o8,δ=[some (Sl.v (Rp.enc t.u_Paper r)),some (Sl.v (JG (JF d8 L))),some (Sl.v (Jg n)),some (Sl.v g.enc),some (Sl.v (J0 ((eN r n g).map fun m=> Jh m))),some (Sl.o (acc i)),o6,o7,o8],⟨_,_,_,by rw [a0];rfl⟩,?_,?_⟩
   ·rintro i z δ hz ⟨o6,o7,o8,rfl⟩
    rw [JB] at hz
    cases hz':M[i]? with
    | none=> rw [hz'] at hz;cases hz
    | some x=>
     rw [hz'] at hz;cases hz
     have xo:=ok.2 x (JO hz')
     have tl:=al i
     have none_:=an i x hz'
     have some_:=as i x hz'
     obtain⟨nm,pt⟩:=x
     simp only [d8]
     cases pt with
     | two w2 kd=>
      have k1:w2≠Jc "gone":=fun e=> xo.1 (.inr e)
      simp only [Pt.enc]
      walk_at "rz"
      rw [bS k1,if_neg Jk]
      by_cases hw:w2=Jc "follow"
      ·subst hw
       rw [if_pos (beq_self_eq_true _)]
       cases hl:eN r n g with
       | nil=>
        rw [none_ (by show(if Jc "follow"=Jc "follow" then(eN r n g).head?.map Jh else none)=none;rw [if_pos rfl,hl];rfl),if_neg (by simp)]
        exact⟨rfl,_,rfl⟩
       | cons m l=>
        rw [some_ (.str m) (by show(if Jc "follow"=Jc "follow" then(eN r n g).head?.map Jh else none)=some _;rw [if_pos rfl,hl];rfl),if_pos (by rfl)]
        exact⟨_,dU,by omega,rfl,_,rfl⟩
      ·rw [bS hw,if_neg Jk]
       rw [none_ (by show(if w2=Jc "follow" then(eN r n g).head?.map Jh else none)=none;rw [if_neg hw])]
       exact⟨rfl,_,rfl⟩
     | five w2 kd si k u=>
      have k1:w2≠Jc "follow":=fun e=> by rcases xo.1 with z | z <;> rw [z] at e <;> exact absurd e (by decide+kernel)
      simp only [Pt.enc]
      walk_at "rz"
      by_cases hw:w2=Jc "gone"
      ·subst hw
       rw [if_pos (beq_self_eq_true _)]
       refine⟨r,Jc "gone",kd,si,k,u,n,rfl,xo.2.2.1,xo.2.2.2.2.2,hr',?_⟩
       have df:oU r n g (.five (Jc "gone") kd si k u)=if Jc "gone"=Jc "gone"∧cS n (bU r n (.five (Jc "gone") kd si k u))=false then some (bT (bU r n (.five (Jc "gone") kd si k u))) else none:=rfl
       cases hd:bU r n (.five (Jc "gone") kd si k u) with
       | none=>
        rw [hd] at df
        simp only [bT,cH]
        walk_at "rz"
        rw [bS (show Jc "gone"≠Jc "follow" by decide+kernel),if_neg Jk]
        rw [none_ (by rw [df,if_neg fun z=> Bool.noConfusion (show true=false from z.2)])]
        exact⟨rfl,_,rfl⟩
       | some d=>
        rw [hd] at df
        simp only [bT,cH]
        walk_at "rz"
        by_cases hdn:d≤n
        ·rw [if_pos hdn]
         refine⟨by omega,?_⟩
         rw [bS (show Jc "gone"≠Jc "follow" by decide+kernel),if_neg Jk]
         rw [some_ (.int d) (by rw [df,if_pos ⟨rfl,decide_eq_false (by omega)⟩];rfl)]
         exact⟨rfl,_,rfl⟩
        ·rw [if_neg hdn]
         rw [bS (show Jc "gone"≠Jc "follow" by decide+kernel),if_neg Jk]
         rw [none_ (by rw [df,if_neg fun z=> hdn (by have:=of_decide_eq_false z.2;omega)])]
         exact⟨rfl,_,rfl⟩
      ·rw [bS hw,if_neg Jk,bS k1,if_neg Jk]
       rw [none_ (by show(if w2=Jc "gone"∧cS n (bU r n (.five w2 kd si k u))=false then some (bT (bU r n (.five w2 kd si k u))) else none)=none;rw [if_neg fun z=> hw z.1])]
       exact⟨rfl,_,rfl⟩
   ·rintro δ ⟨o6,o7,o8,rfl⟩
    walk_at "rz"
    rw [Jf,ae]
    exact q
end
end K16
open PySem L2
namespace K16
section
variable {P:Program} {w:World} {K:Jd} {mg:Str→Option Value} {base:Heap} {t:cJ}
theorem vR{a b:Str}:(a==b)=decide (a=b):=by
 by_cases h:a=b
 ·simp [h]
 ·rw [bS h,decide_eq_false h]
theorem HI{w:Str}(h:KG w):Jp w=true:=by rcases h with h | h <;> rw [h] <;> decide+kernel
theorem HJ{w:Str}(h:g5 w):Jp w=true:=by rcases h with h | h | h <;> rw [h] <;> decide+kernel
theorem cv.lay{s:cv}(h:s.Ok):cu 2 s.enc:=by
 cases s with
 | com=> exact cY (aZ (bQ (by decide+kernel)) dW)
 | fst wd=> exact cY (aZ (bQ (by decide+kernel)) (aZ (bQ h) dW))
 | lst wd=> exact cY (aZ (bQ (by decide+kernel)) (aZ (bQ h) dW))
theorem Pt.lay{p:Pt}(h:p.Ok):cu 3 p.enc:=by
 cases p with
 | two w kd=> exact(cY (n:=1) (aZ (bQ h.2.1) (aZ (bQ h.2.2) dW))).mono (by decide)
 | five w kd s k u=> exact cY (aZ (bQ (HI h.1)) (aZ (bQ h.2.1) (aZ (cv.lay h.2.2.1) (aZ gH (aZ (bQ (HJ h.2.2.2.2.2)) dW)))))
end
section
variable {P:Program} {w:World} {K:Jd} {mg:Str→Option Value} {base:Heap} {t:cJ}
theorem vS{xs:List De}{n:Int}(g:dD xs)(h:fA xs n (bR xs n))(hl:(bR xs n).length≤41):lN (bR xs n):=by
 refine⟨hl,fun z hz=> ?_⟩
 obtain⟨d,_,hm,_⟩:=(h.2 z).mp hz
 obtain⟨pt,e,ok⟩:=g.ru _ _ _ hm
 rw [vP (Ml e).1];exact ok
noncomputable def tQ(xs:List De)(n:Int)(c:Pp)(g:Gn):List (Str×PyData):=dP (bu xs c) n g (bR xs n)
noncomputable def tR(xs:List De)(n:Int)(c:Pp)(g:Gn):List (Str×PyData):=dQ (bu xs c) n g (bR xs n)
def F_x23:List PyData→(PyData→Prop)→Prop:=fun ds Q=> ∃(xs:List De)(n:Int)(c:Pp)(g:Gn),ds=[.tuple (xs.map De.enc),.int n,.str c.nm,g.enc]∧dD xs∧c∈bb xs∧(fA xs n (bR xs n)→(bR xs n).length≤41→fB (bu xs c)→Q (.tuple ((tQ xs n c g).map bf)))
def F_x24:List PyData→(PyData→Prop)→Prop:=fun ds Q=> ∃(xs:List De)(n:Int)(c:Pp)(g:Gn),ds=[.tuple (xs.map De.enc),.int n,.str c.nm,g.enc]∧dD xs∧c∈bb xs∧(fA xs n (bR xs n)→(bR xs n).length≤41→fB (bu xs c)→Q (.tuple ((tR xs n c g).map bf)))
theorem HK(T:Txt K mg t):aK P w K mg base CX0 9 t.a_x23 t.d_x23 ["deeds","day","paper","gone"] (bo K F_x23):=by
 have G_x8:=AE (P:=P) (w:=w) (base:=base) T
 have G_x15:=AV (P:=P) (w:=w) (base:=base) T
 have G_x21:=HG (P:=P) (w:=w) (base:=base) T
 refine T.F_x23.okD GO (fun ds Q h=> ?_) (fun cdv A outer s H O ds Q E hr h=> ?_)
 ·obtain⟨xs,n,c,g,rfl,_⟩:=h;rfl
 ·obtain⟨xs,n,c,g,rfl,gd,hc,q⟩:=h
  refine'⟨_,?body,?read⟩
  case body=>
   refine' aA ?s1
   case' s1=> refine' aO ?e2
   case e2=> exact(PE.imp (ax G_x21 (hr.mono (by decide)) rfl T.m_x21 T.F_x21.kp T.b_x21 .nil av (aa (PE.imp (xG T.mk_Paper G_x8 (hr.mono (by decide)) rfl T.c_Paper T.b_x8 .nil av (aa (dv 0) (aa (dv 2) aj))) zF) (aa (PE.imp (ax G_x15 (hr.mono (by decide)) rfl T.m_x15 T.F_x15.kp T.b_x15 .nil av (aa (dv 0) (aa (dv 1) aj))) aC) (aa (dv 1) (aa (dv 3) aj))))) aC)
  case read=>
  clear hr T G_x8 G_x15 G_x21
  walk_at "rz"
  exact⟨xs,c,rfl,gd,hc,fun h1 h2 h3=> ⟨xs,n,rfl,gd,fun h4 h5=> ⟨bu xs c,_,n,g,rfl,tN gd hc h1 h3,vS gd h4 h5,q h4 h5 (tN gd hc h1 h3)⟩⟩⟩
theorem HL(T:Txt K mg t):aK P w K mg base CX0 9 t.a_x24 t.d_x24 ["deeds","day","paper","gone"] (bo K F_x24):=by
 have G_x8:=AE (P:=P) (w:=w) (base:=base) T
 have G_x15:=AV (P:=P) (w:=w) (base:=base) T
 have G_x22:=HH (P:=P) (w:=w) (base:=base) T
 refine T.F_x24.okD GP (fun ds Q h=> ?_) (fun cdv A outer s H O ds Q E hr h=> ?_)
 ·obtain⟨xs,n,c,g,rfl,_⟩:=h;rfl
 ·obtain⟨xs,n,c,g,rfl,gd,hc,q⟩:=h
  refine'⟨_,?body,?read⟩
  case body=>
   refine' aA ?s1
   case' s1=> refine' aO ?e2
   case e2=> exact(PE.imp (ax G_x22 (hr.mono (by decide)) rfl T.m_x22 T.F_x22.kp T.b_x22 .nil av (aa (PE.imp (xG T.mk_Paper G_x8 (hr.mono (by decide)) rfl T.c_Paper T.b_x8 .nil av (aa (dv 0) (aa (dv 2) aj))) zF) (aa (PE.imp (ax G_x15 (hr.mono (by decide)) rfl T.m_x15 T.F_x15.kp T.b_x15 .nil av (aa (dv 0) (aa (dv 1) aj))) aC) (aa (dv 1) (aa (dv 3) aj))))) aC)
  case read=>
  clear hr T G_x8 G_x15 G_x22
  walk_at "rz"
  exact⟨xs,c,rfl,gd,hc,fun h1 h2 h3=> ⟨xs,n,rfl,gd,fun h4 h5=> ⟨bu xs c,_,n,g,rfl,tN gd hc h1 h3,vS gd h4 h5,q h4 h5 (tN gd hc h1 h3)⟩⟩⟩
end
end K16
open PySem L2
namespace K16
section
variable {P:Program} {w:World} {K:Jd} {mg:Str→Option Value} {base:Heap} {t:cJ}
theorem A7{H H1:Hp}{p:Addr}(hp:H p=some (fM p))(h:∀b o,b≠p→H b=some o→H1 b=some o):ar H (ao H1 p (fM p)):=fun b o e=> by
 by_cases hb:b=p
 ·subst hb;rw [bj,←hp,e]
 ·rw [aJ hb];exact h b o hb e
theorem lO(T:Txt K mg t):aK P w K mg base CX0 1 t.a_x27 t.d_x27 ["_law_purse_here","_law_many"] (bo K uN):=by
 refine T.F_x27.ok vE (fun vs H Q E h=> ?_) (fun cdv A outer s H vs Q E hr h=> ?_)
 ·obtain⟨O,ds,Qd,_,r,⟨z,rfl,_⟩,_⟩:=h;exact r.length
 ·obtain⟨O,ds,Qd,tr,r,⟨z,rfl,z0,z1,qq⟩,k⟩:=h
  cases r with
  | cons r1 r2=>
   cases r2 with
   | cons r2 r3=>
    cases r3
    cases r2
    cases r1 with
    | @purse p hp hn=>
     refine⟨_,bM.purse (cx (pe (bh bw (fK bN (pv 0) aT (fun _ _=> rfl)) aT) (ud (pv 0) aT uC))
   (cx (di (i:=2) vE.nd rfl (by walk_at "o") (fK bN (pv 0) aT (fun _ _=> rfl)))
   (cx (pe (bh dZ (bh bw (bh eo (pv 2) (bh bw (bh dZ (pv 2) aT) aT)) (bh eo aT (fK bN (pv 0) aT (fun _ _=> rfl)))) aT) (ud (pv 0) aT uC))
   (cx (jy (gr kc (fK bN (pv 0) aT (fun _ _=> rfl)) aT (ay _)) (cx (pe (bX CC rfl T.n_divmod DY (bx (fK bN (pv 0) aT (fun _ _=> rfl)) (bx (pv 1) bZ))) (i7 (n:=2) rfl (dF (ud (pv 0) aT uC) (dF (aU (i:=3) vE.nd rfl (by walk_at "o")) i6))))
   (dE (dY (pv 3)))) jx)
   (dE (dY (bh dZ (bh fG (fK bN (pv 0) aT (fun _ _=> rfl)) aT) (pv 1)))))))),p,hp,fun a b c=> ?_⟩
     walk_at "rd"
     refine ki (aP.of bj) rfl ⟨c,rfl,p,[.int a,.int b,.int c],2,2,rfl,rfl,bj,rfl,?_⟩
     refine ki (aP.of bj) rfl ⟨a,rfl,a,rfl,.inr ⟨by omega,by omega⟩,?_⟩
     refine ki (aP.of bj) rfl ⟨c+1,rfl,p,[.int a,.int b,.int (c+1)],0,0,rfl,rfl,bj,rfl,?_⟩
     generalize (a*(a % 44497+21701)+86243*(c+1))% 2147483579=a'
     refine ki (aP.of bj) rfl ⟨b,rfl,?_⟩
     split
     ·refine ki (aP.of bj) rfl ⟨b,rfl,z0,by omega,fun q hq=> ?_⟩
      have hpq:p≠q:=cT bj hq
      refine⟨_,bB.of bj,rfl,_,_,rfl,p,[.int a',.int b,.int (c+1)],1,1,rfl,rfl,by rw [aJ hpq,bj];rfl,rfl,?_⟩
      refine⟨_,_,rfl,rfl,⟨_,_,_,bj⟩,k _ _ _ (qq (b % z) (OF _ (by omega)) (N9 _ z0)) (A7 hp fun x o hx e=> ?_) (.int _)⟩
      have hxq:x≠q:=fun y=> by
       subst y
       rw [aJ hx,aJ hx,aJ hx] at hq;rw [hq] at e;cases e
      rw [aJ hx,aJ hxq,aJ hx,aJ hx,aJ hx];exact e
     ·refine ki (aP.of bj) rfl ⟨a',rfl,z0,⟨_,_,_,bj⟩,k _ _ _ (qq (a' / 16 % z) (OF _ (by omega)) (N9 _ z0)) (A7 hp fun x o hx e=> ?_) (.int _)⟩
      rw [aJ hx,aJ hx,aJ hx];exact e
def HM:List PyData→(PyData→Prop)→Prop:=fun ds Q=> ∃c:Int,ds=[.int c]∧Q fm
theorem A8(T:Txt K mg t):aK P w K mg base CX0 1 t.a_x26 t.d_x26 ["_law_cell_here"] (bo K HM):=by
 refine T.F_x26.ok vD (fun vs H Q E h=> ?_) (fun cdv A outer s H vs Q E hr h=> ?_)
 ·obtain⟨O,ds,Qd,_,r,⟨z,rfl,_⟩,_⟩:=h;exact r.length
 ·obtain⟨O,ds,Qd,tr,r,⟨c,rfl,qq⟩,k⟩:=h
  cases r with
  | cons r1 r2=>
   cases r2
   cases r1
   refine⟨_,bM.newPurse (cx (di (i:=1) vD.nd rfl (by walk_at "o") aT)
   (cx (jy (PW.pt (wC (gr pz (pv 0) aT (ay _)) (wA (gr uu (pv 0) (bh Ct aT aT) (ay _))))) (dE (di (i:=1) vD.nd rfl (by walk_at "o") (bX CB rfl T.n_abs PyProof.Rows.boot_abs (bx (pv 0) bZ)))) jx)
   (dE (dY (pF (bx (bh dZ (pv 0) aT) (bx (pv 1) (bx aT bZ)))))))),?_⟩
   walk_at "rd"
   have fin:∀(x y z:Int)(p:Addr),H p=none→(∃u v w,ao H p (HO.lst [V.int x,V.int y,V.int z]) p=some (HO.lst [V.int u,V.int v,V.int w]))∧Q (V.ref p) (ao (ao H p (HO.lst [V.int x,V.int y,V.int z])) p (fM p)):=fun x y z p hp=>
    ⟨⟨_,_,_,bj⟩,k _ _ _ qq (fun b o e=> by rw [aJ (cT e hp),aJ (cT e hp)];exact e) (.purse bj fun h=> tr p h hp)⟩
   have sl:3≤sizeLine:=by decide
   split
   ·rw [if_pos trivial];exact⟨sl,fin _ _ _⟩
   ·refine⟨by decide,?_⟩
    split
    ·exact⟨sl,fin _ _ _⟩
    ·exact⟨sl,fin _ _ _⟩
end
end K16
open PySem L2
namespace K16
open Day
theorem A9:bH (ah fX) ["_law_purse_here","_law_many","_law_letters","_law_stem","_law_at","_law_first","_law_step"] ["_law_k","_law_letters","_law_purse_here"] 1 [2,0] {kind:=Jt,names:=[ (Je ".0",PySem.NameKind.local),(Je "_law_k",PySem.NameKind.local),(Je "_law_take",J7),(Je "_law_letters",Ju),(Je "_law_purse_here",Ju)],isGenerator:=false,isCoroutine:=false,more:=[]:JU}:=⟨rfl,by decide+kernel,by decide+kernel,by decide+kernel,rfl,by decide+kernel,by decide+kernel,by decide+kernel,rfl⟩
theorem Ba:bH (ah fX) ["_law_purse_here","_law_many","_law_letters","_law_stem","_law_at","_law_first","_law_step"] ["_law_k","_law_stem","_law_letters","_law_at","_law_first","_law_step"] 1 [3,2,4,5,6] {kind:=Jt,names:=[ (Je ".0",PySem.NameKind.local),(Je "_law_k",PySem.NameKind.local),(Je "_law_at",Ju),(Je "_law_first",Ju),(Je "_law_letters",Ju),(Je "_law_stem",Ju),(Je "_law_step",Ju)],isGenerator:=false,isCoroutine:=false,more:=[]:JU}:=⟨rfl,by decide+kernel,by decide+kernel,by decide+kernel,rfl,by decide+kernel,by decide+kernel,by decide+kernel,rfl⟩
theorem Bb:bH (ah gU) ["_law_year_here","_law_month_here","_law_number"] ["_law_k","_law_year_here"] 1 [0] {kind:=Jt,names:=[ (Je ".0",PySem.NameKind.local),(Je "_law_k",PySem.NameKind.local),(Je "_law_month",J7),(Je "_law_year_here",Ju)],isGenerator:=false,isCoroutine:=false,more:=[]:JU}:=⟨rfl,by decide+kernel,by decide+kernel,by decide+kernel,rfl,by decide+kernel,by decide+kernel,by decide+kernel,rfl⟩
section
variable {P:Program} {w:World} {K:Jd} {mg:Str→Option Value} {base:Heap} {t:cJ}
def HN:List PyData→(PyData→Prop)→Prop:=fun ds Q=> ∃(ns:List Int)(k:Int),ds=[eQ (ns.map .int),.int k]∧0≤k∧k≤1000∧∀c:Int,Q (.int c)
theorem Bc(T:Txt K mg t):aK P w K mg base CX0 1 t.a_x25 t.d_x25 ["_law_script","_law_k"] (bo K HN):=by
 refine T.F_x25.okD tE (fun ds Q h=> ?_) (fun cdv A outer s H O ds Q E hr h=> ?_)
 ·obtain⟨ns,k,rfl,_⟩:=h;rfl
 ·obtain⟨ns,k,rfl,k0,k1,q⟩:=h
  refine'⟨_,?body,?read⟩
  case body=>
   refine' au ?s1 ?r1
   case s1=>
    refine' bt ?c2 ?a2 br
    case c2=> exact(aI pz dJ (df (dv 1)) (df (PE.imp (bX fk rfl T.n_len Kv (aW (df (dv 0)) bp)) (bP yw))) (ay _))
    case' a2=> refine' aA ?s3
    case s3=> exact(aO (aq bN Fn (df (dv 0)) (df (dv 1))))
   case' r1=> refine' au ?s5 ?r5
   case s5=>
    refine' bL (i:=2) tE.nd rfl (by walk_at "o") ?e6 (hs:=nK)
    case e6=> exact(aM dZ cN (df (aM eo cN (df ag) (df (aM bw bF (df (aM bw bF (df (aM eo cN (df (dv 1)) (df (dv 1)))) (df (aM eo cN (df ag) (df (dv 1)))))) (df ag))))) (df ag))
   case' r5=> refine' au ?s8 ?r8
   case s8=>
    refine' kH Kd rfl (fe (Fo (df (dv 0)) ji (eR ag))) ?a9 aY ?b9
    case a9=> exact(aU (i:=3) tE.nd rfl (by walk_at "o"))
    case' b9=> refine' aA ?s10
    case' s10=> refine' bL (i:=2) tE.nd rfl (by walk_at "o") ?e11 (hs:=nK)
    case e11=> exact(aM dZ cN (df (aM bw bF (df (aM eo cN (df (dv 2)) (df ag))) (df (dv 3)))) (df ag))
   case' r8=> refine' aA ?s13
   case s13=> exact(aO (dv 2))
  case read=>
  clear hr T
  walk_at "rz"
  refine⟨_,rfl,?_⟩
  rw [Jf]
  split
  ·rename_i hlt
   obtain⟨j,rfl⟩:=KR k0
   have hj:j < ns.length:=by omega
   exact⟨_,rfl,.int ns[j],fJ (by simp [hj]),q _⟩
  ·refine⟨.inl ⟨by omega,by omega⟩,_,rfl,fun i δ=> ∃(st:Int)(o:Option Sl),δ=[some (Sl.v (eQ (ns.map .int))),some (Sl.v (.int k)),some (Sl.v (.int st)),o],⟨_,_,rfl⟩,?_,?_⟩
   ·rintro i x δ hx ⟨st,o,rfl⟩
    have hm:=JO hx
    unfold cn at hm
    have hm2:=NS (Lv hm)
    obtain⟨c,_,rfl⟩:=Jw.mp hm2
    walk_at "rz"
    first | exact⟨_,_,rfl,rfl⟩ | exact⟨⟨_,rfl⟩,⟨_,rfl⟩⟩
   ·rintro δ ⟨st,o,rfl⟩
    walk_at "rz"
    exact q _
def Bd:List PyData→(PyData→Prop)→Prop:=fun ds Q=> ∃y m:Int,ds=[.int y,.int m]∧1≤m∧m≤12∧Q (.int (aX y m))
theorem vT(T:Txt K mg t):aK P w K mg base CX0 1 t.a_x29 t.d_x29 ["_law_year_here","_law_month_here"] (bo K Bd):=by
 refine T.F_x29.okD Aa (fun ds Q h=> ?_) (fun cdv A outer s H O ds Q E hr h=> ?_)
 ·obtain⟨y,m,rfl,_⟩:=h;rfl
 ·obtain⟨y,m,rfl,m1,m2,q⟩:=h
  refine'⟨_,?body,?read⟩
  case body=>
   refine' au ?s1 ?r1
   case s1=>
    generalize hG2:N8 _ _ _ _=eg2
    refine' bL (i:=2) Aa.nd rfl (by walk_at "o") ?e2 (hs:=by subst hG2;exact il)
    case' e2=> subst hG2
    exact(PE.imp (eD pE rfl T.n_int mq (aW (df (D9 (eI (cz hr.units) cA (df (aM dZ cN (df (dv 0)) (df ag))) (df ag) (ay _)) (kz (kA (eI (cz hr.units) cA (df (aM dZ cN (df (dv 0)) (df ag))) (df ag) (ay _)) (kz (eI (kJ hr.units) kL (df (aM dZ cN (df (dv 0)) (df ag))) (df ag) (ay _))))))) bp)) (bP pX))
   case' r1=> refine' aA ?s4
   case' s4=> generalize hG5:OH _ _ _=eg5
   refine' aO ?e5
   case' e5=> subst hG5
   refine' aq bN cj (df ?a6) ?b6
   case a6=>
    refine' fe ?f7
    case' f7=> refine' cM ?g8
    case' g8=> refine' aa ag ?w9
    case' w9=> refine' aa ?u11 ?w11
    case u11=> exact(aM bw bF (df ag) (df (dv 2)))
    case w11=> refine' kW (ds:=[.int 31,.int 30,.int 31,.int 30,.int 31,.int 31,.int 30,.int 31,.int 30,.int 31]) (by rfl)
   case b6=> exact(df (aM cK bF (df (dv 1)) (df ag)))
  case read=>
  clear hr T
  walk_at "rz"
  have ma:=oz y
  have key:∀l2:Int,l2=aX y 2→∃d,atI [Jg 31,Jg l2,Jg 31,Jg 30,Jg 31,Jg 30,Jg 31,Jg 31,Jg 30,Jg 31,Jg 30,Jg 31] (m - 1)=some d∧Q d:=fun l2 e=> by
   obtain⟨a1,a3,a4,a5,a6,a7,a8,a9,a10,a11,a12⟩:=ma
   rcases tm m1 m2 with z | z | z | z | z | z | z | z | z | z | z | z <;> subst z
   ·rw [a1] at q;exact⟨_,rfl,q⟩
   ·rw [←e] at q;exact⟨_,rfl,q⟩
   ·rw [a3] at q;exact⟨_,rfl,q⟩
   ·rw [a4] at q;exact⟨_,rfl,q⟩
   ·rw [a5] at q;exact⟨_,rfl,q⟩
   ·rw [a6] at q;exact⟨_,rfl,q⟩
   ·rw [a7] at q;exact⟨_,rfl,q⟩
   ·rw [a8] at q;exact⟨_,rfl,q⟩
   ·rw [a9] at q;exact⟨_,rfl,q⟩
   ·rw [a10] at q;exact⟨_,rfl,q⟩
   ·rw [a11] at q;exact⟨_,rfl,q⟩
   ·rw [a12] at q;exact⟨_,rfl,q⟩
  have e2:=tj y
  unfold ld at e2
  have li:=oy y
  split
  ·rename_i h
   have h:=eq_of_beq h
   exact key _ (by rw [e2,if_pos (li.mpr (.inl h))])
  ·rename_i h
   have h:¬y % 400=0:=fun e=> h (by rw [e];rfl)
   split
   ·rename_i h4
    have h4:=eq_of_beq h4
    by_cases h100:y % 100=0
    ·have nl:¬fv y=true:=fun z=> by rcases li.mp z with z | z;exact h z;exact z.2 h100
     have nb:¬(y % 100==0)=false:=by rw [h100];decide
     exact key _ (by rw [e2,if_neg nl,if_neg nb])
    ·exact key _ (by rw [e2,if_pos (show fv y=true from li.mpr (.inr ⟨h4,h100⟩)),if_pos (show(y % 100==0)=false by simpa using h100)])
   ·rename_i h4
    have h4:¬y % 4=0:=fun e=> h4 (by rw [e];rfl)
    exact key _ (by rw [e2,if_neg (fun z=> by rcases li.mp z with z | z;exact h z;exact h4 z.1)])
def HP:List PyData→(PyData→Prop)→Prop:=fun ds Q=> ∃y:Int,ds=[.int y]∧Q (.int (bD y))
theorem Be(T:Txt K mg t):aK P w K mg base CX0 1 t.a_x30 t.d_x30 ["_law_year_here"] (bo K HP):=by
 refine T.F_x30.okD Ab (fun ds Q h=> ?_) (fun cdv A outer s H O ds Q E hr h=> ?_)
 ·obtain⟨y,rfl,_⟩:=h;rfl
 ·obtain⟨y,rfl,q⟩:=h
  refine'⟨_,?body,?read⟩
  case body=>
   refine' au ?s1 ?r1
   case s1=> exact(bL (i:=0) Ab.nd rfl (by walk_at "o") (aM cK bF (df (dv 0)) (df ag)))
   case' r1=> refine' aA ?s3
   case' s3=> generalize hG4:Expr.BinOp _ _ _ _=eg4
   refine' aO ?e4
   case' e4=> subst hG4
   exact(aM cK bF (df (aM bw bF (df (aM cK bF (df (aM bw bF (df (aM eo cN (df ag) (df (aM cK bF (df (dv 0)) (df ag))))) (df (aM fG cN (df (dv 0)) (df ag))))) (df (aM fG cN (df (dv 0)) (df ag))))) (df (aM fG cN (df (dv 0)) (df ag))))) (df ag))
  case read=>
  clear hr T
  walk_at "rz"
  have e:365*(y - 1 - 1999)+(y - 1)/ 4 - (y - 1)/ 100+(y - 1)/ 400 - 484=bD y:=by
   unfold bD lb;omega
  rw [e];exact q
def vU:List PyData→(PyData→Prop)→Prop:=fun ds Q=> ∃y m n:Int,ds=[.int y,.int m,.int n]∧1≤m∧m≤12∧Q (.int (fw y m n))
theorem Bf(T:Txt K mg t):aK P w K mg base CX0 2 t.a_x31 t.d_x31 ["_law_year_here","_law_month_here","_law_number"] (bo K vU):=by
 have G_x30:=Be (P:=P) (w:=w) (base:=base) T
 have G_x29:=vT (P:=P) (w:=w) (base:=base) T
 refine T.F_x31.okD GQ (fun ds Q h=> ?_) (fun cdv A outer s H O ds Q E hr h=> ?_)
 ·obtain⟨y,m,n,rfl,_⟩:=h;rfl
 ·obtain⟨y,m,n,rfl,m1,m2,q⟩:=h
  refine'⟨_,?body,?read⟩
  case body=>
   refine' aA ?s1
   case' s1=> refine' aO ?e2
   case e2=> exact(aM cK bF (df (aM bw bF (df (aM bw bF (df (PE.imp (ax G_x30 (hr.mono (by decide)) rfl T.m_x30 T.F_x30.kp T.b_x30 .nil av (aa (dv 0) aj)) aC)) (df (PE.imp (bX (ya rfl) rfl T.n_sum ND (aW (df (fe (EV rfl Bb rfl T.n_range (aW (df ag) (aW (df (dv 1)) bp)) aY cy (by decide) (fun _ _ _ _=> (aU (i:=0) Bb.nd rfl (by walk_at "o"))) (fun _ _ _ _=> jj) (fun _ _ _ _=> (PE.imp (ax G_x29 (hr.mono (by decide)) rfl T.m_x29 T.F_x29.kp T.b_x29 .nil av (aa (dv 1) (aa (dv 0) aj))) aC))))) bp)) (bP FT))))) (df (dv 2)))) (df ag))
  case read=>
  clear hr T G_x30 G_x29
  walk_at "rz"
  refine⟨y,rfl,by have:((16777216:Nat):Int)=16777216:=rfl;omega,by omega,by omega,?_⟩
  refine uZ (fun x=> match x with | .int i=> .int (aX y i) | _=> .none) (fun x hx R hR=> ?_) ?_
  ·obtain⟨i,hi⟩:=Lu hx
   obtain⟨hlt,rfl⟩:=jO hi
   walk_at "rz"
   exact⟨y,1+(i:Int),rfl,by omega,by omega,hR⟩
  ·refine⟨(Kn (m - 1).toNat).map fun(i:Nat)=> aX y (1+(i:Int)),by unfold ia;rw [JH,JH];rfl,_,rfl,?_⟩
   exact q
def tS(ss:List Str):Prop:=∀s∈ss,cw 20 s
def vV:List Str:=["paper","rule","keep","gone","deep","first","kind","leave"]
theorem HQ:∀z∈vV,cw 20 z:=by
 intro z hz
 have a:vV.all (fun z=> Jp z && decide (z.length≤20))=true:=by decide+kernel
 have:=Lc.mp a z hz
 simp only [Kh,decide_eq_true_eq] at this
 exact⟨this.1,this.2⟩
def tT(st:Str)(at0 fs sp:Int)(k:Nat):Str:=Txt.slice st none (some at0)++⟨#[d5 ((fs+sp*(0+(k:Int)))% 26)]⟩++Txt.slice st (some at0) none
theorem HR{st:Str}{at0 fs sp:Int}{a b:Nat}(h:tT st at0 fs sp a=tT st at0 fs sp b):d5 ((fs+sp*(0+(a:Int)))% 26)=d5 ((fs+sp*(0+(b:Int)))% 26):=by
 have z:=congrArg (fun s:Str=> s.cps.toList) h
 unfold tT at z
 simp only [yN,NU] at z
 have z:=List.append_cancel_left (List.append_cancel_right z)
 exact(Ml z).1
def HS:List PyData→(PyData→Prop)→Prop:=fun ds Q=> ds=[fm,.int 8]∧∀ss:List Str,ss.length=8→tS ss→ss.Nodup→Q (.list (ss.map .str))
theorem HU(T:Txt K mg t):aK P w K mg base CX0 2 t.a_x28 t.d_x28 ["_law_purse_here","_law_many"] (bo K HS):=by
 have G_x27:=lO (P:=P) (w:=w) (base:=base) T
 refine T.F_x28.okD lF (fun ds Q h=> ?_) (fun cdv A outer s H O ds Q E hr h=> ?_)
 ·obtain⟨rfl,_⟩:=h;rfl
 ·obtain⟨rfl,q⟩:=h
  refine'⟨_,?body,?read⟩
  case body=>
   refine' au ?s1 ?r1
   case s1=> exact(bL (i:=2) lF.nd rfl (by walk_at "o") aS)
   case' r1=> refine' au ?s3 ?r3
   case s3=>
    refine' bL (i:=3) lF.nd rfl (by walk_at "o") ?e4 (hs:=il)
    case e4=> exact(Ej aS (df (fe (uM rfl A9 rfl T.n_range (aW (df (PE.imp (ax G_x27 (hr.mono (by decide)) rfl T.m_x27 T.F_x27.kp T.b_x27 .nil av (aa (dv 0) (aa ag aj))) aC)) bp) aY cy (by decide) (fun _ _ _ _=> (aU (i:=0) A9.nd rfl (by walk_at "o"))) (fun _ _ _ _=> jj) (fun _ _ _ _=> (aq xU yB (df (dv 1)) (df (PE.imp (ax G_x27 (hr.mono (by decide)) rfl T.m_x27 T.F_x27.kp T.b_x27 .nil av (aa (dv 2) (aa ag aj))) aC))))))))
   case' r3=> refine' au ?s6 ?r6
   case s6=>
    refine' bL (i:=4) lF.nd rfl (by walk_at "o") ?e7 (hs:=il)
    case e7=> exact(PE.imp (ax G_x27 (hr.mono (by decide)) rfl T.m_x27 T.F_x27.kp T.b_x27 .nil av (aa (dv 0) (aa (aM bw bF (df (PE.imp (bX Dj rfl T.n_len Kv (aW (df (dv 3)) bp)) (bP EW))) (df ag)) aj))) aC)
   case' r6=> refine' au ?s9 ?r9
   case s9=>
    generalize hE10_0:OJ _ _=ee10_0
    exact(uK (bJ (aa (PE.imp (ax G_x27 (hr.mono (by decide)) rfl T.m_x27 T.F_x27.kp T.b_x27 .nil av (aa (dv 0) (aa ag aj))) aC) (aa (aq bN cj (df (fe (uR (ds:=[.int 1,.int 3,.int 5,.int 7,.int 9,.int 11]) (by first | (subst hE10_0;rfl))))) (df (PE.imp (ax G_x27 (hr.mono (by decide)) rfl T.m_x27 T.F_x27.kp T.b_x27 .nil av (aa (dv 0) (aa ag aj))) aC))) aj))) (i7 (n:=2) rfl (dF (aU (i:=5) lF.nd rfl (by walk_at "o")) (dF (aU (i:=6) lF.nd rfl (by walk_at "o")) i6))) (jI (d4 aY (d4 aY jH))))
   case' r9=> refine' au ?s11 ?r11
   case s11=>
    refine' bt ?c12 ?a12 br
    case c12=> exact(aI (cz hr.units) cA (df (PE.imp (ax G_x27 (hr.mono (by decide)) rfl T.m_x27 T.F_x27.kp T.b_x27 .nil av (aa (dv 0) (aa ag aj))) aC)) (df ag) (ay _))
    case' a12=> refine' aA ?s13
    case' s13=> generalize hE14_0:OJ _ _=ee14_0
    exact(aO (fe (mW (df (fe (uR (ds:=[.str "paper",.str "rule",.str "keep",.str "gone",.str "deep",.str "first",.str "kind",.str "leave"]) (by first | (subst hE14_0;rfl))))) ji (eR (dv 1)))))
   case' r11=> refine' aA ?s15
   case' s15=> refine' aO ?e16
   case' e16=> refine' fe ?f17
   case f17=> exact(uM rfl Ba rfl T.n_range (aW (df (dv 1)) bp) aY cy (by decide) (fun _ _ _ _=> (aU (i:=0) Ba.nd rfl (by walk_at "o"))) (fun _ _ _ _=> jj) (fun _ _ _ _=> (aM xv yA (df (aM xv yA (df (yC (df (dv 1)) ji (eR (dv 3)))) (df (aq xU yB (df (dv 2)) (df (aM dZ cN (df (aM bw bF (df (dv 4)) (df (aM eo cN (df (dv 5)) (df (dv 0)))))) (df ag))))))) (df (yC (df (dv 1)) (eR (dv 3)) ji)))))
  case read=>
  clear hr T G_x27
  walk_at "rz"
  refine⟨8,rfl,by decide,by decide,fun j j0 j8=> ⟨j,rfl,by omega,by have:((16777216:Nat):Int)=16777216:=rfl;omega,?_⟩⟩
  refine⟨fun i acc=> ∃ys:List Str,acc=ys.map .str∧ys.length=i∧∀y∈ys,cw 1 y,⟨[],rfl,rfl,by simp⟩,?_,?_⟩
  ·rintro i z acc hz ⟨ys,rfl,hl,hg⟩
   obtain⟨hi,rfl⟩:=jO hz
   walk_at "rz"
   refine⟨26,rfl,by decide,by decide,fun a a0 a1=> ?_⟩
   obtain⟨x,e1,_,x1⟩:=qc a0 a1
   refine⟨_,rfl,by decide+kernel,x,e1,ys++[⟨#[x]⟩],by rw [J6];rfl,by simp [hl],fun z hz=> ?_⟩
   rcases JM.mp hz with h | h
   ·exact hg z h
   ·rw [JV] at h;rw [h];exact cw.chr x1
  ·rintro acc ⟨ys,rfl,hl,hg⟩
   rw [p7] at hl
   have gj:=cw.join hg
   have sl:(ys.map fun x=> x.length).sum≤ys.length:=by
    clear hl gj
    induction ys with
    | nil=> simp
    | cons y ys ih=>
     rw [Jj,OP,JC]
     have:=(hg y (by simp)).le
     have:=ih fun z hz=> hg z (by simp [hz])
     omega
   have l7:ys.length≤7:=by omega
   refine⟨ys,rfl,?_⟩
   generalize hst:Txt.join (Jc "") ys=st
   have gs:cw 7 st:=by rw [←hst];exact gj.mono l7
   have e0:(Jc "").length=0:=by decide+kernel
   have gl:=gs.le
   refine⟨by rw [e0];omega,by omega,_,rfl,by omega,by omega,fun at0 a0 a1=> ⟨26,rfl,by decide,by decide,fun fs f0 f1=> ⟨6,rfl,by decide,by decide,fun sx s0 s1=> ⟨_,rfl,?_⟩⟩⟩⟩
   have six:∃sp:Int,atI [Jg 1,Jg 3,Jg 5,Jg 7,Jg 9,Jg 11] sx=some (.int sp)∧(0≤sp∧sp≤11)∧(sp=1∨sp=3∨sp=5∨sp=7∨sp=9∨sp=11):=by
    have:sx=0∨sx=1∨sx=2∨sx=3∨sx=4∨sx=5:=by omega
    rcases this with h | h | h | h | h | h <;> subst h
    ·exact⟨1,rfl,by decide,by decide⟩
    ·exact⟨3,rfl,by decide,by decide⟩
    ·exact⟨5,rfl,by decide,by decide⟩
    ·exact⟨7,rfl,by decide,by decide⟩
    ·exact⟨9,rfl,by decide,by decide⟩
    ·exact⟨11,rfl,by decide,by decide⟩
   obtain⟨sp,hsp,⟨p0,p1⟩,p6⟩:=six
   refine⟨_,hsp,8,rfl,by decide,by decide,fun v v0 v1=> ⟨fq,?_⟩⟩
   rw [gG]
   split
   ·exact q vV rfl HQ (by decide+kernel)
   ·have g1:=gs.slice none (some at0)
    have g2:=gs.slice (some at0) none
    have abr:∀i:Nat,d5 ((fs+sp*(0+(i:Int)))% 26) < 0x110000∧atI ft.cps.toList ((fs+sp*(0+(i:Int)))% 26)=some (d5 ((fs+sp*(0+(i:Int)))% 26)):=fun i=> (ES (by omega) (by omega)).symm
    refine⟨by decide,fun i acc=> acc=((Kn i).map fun(k:Nat)=> tT st at0 fs sp k).map .str,rfl,?_,?_⟩
    ·rintro i z acc hz rfl
     obtain⟨hi,rfl⟩:=jO hz
     walk_at "rz"
     obtain⟨x1,e1⟩:=abr i
     have lx:(⟨#[d5 ((fs+sp*(0+(i:Int)))% 26)]⟩:Str).length=1:=rfl
     have l1:=g1.le
     have l2:=g2.le
     have ga:=(g1.append (cw.chr x1)).append g2
     have gal:=ga.le
     refine⟨by omega,.inl ⟨by omega,by omega⟩,by decide+kernel,_,e1,by rw [lx];omega,by omega,by rw [yO,lx];omega,?_⟩
     rw [Mt,J6,J6];rfl
    ·rintro acc rfl
     rw [p7]
     refine q _ (by simp) (fun z hz=> ?_) ?_
     ·obtain⟨k,_,rfl⟩:=Jw.mp hz
      exact((g1.append (cw.chr (abr k).1)).append g2).mono (by omega)
     ·rw [LY,Kf]
      refine K4.mpr fun a b ha hb lt e=> ?_
      rw [Oa,Oa] at e
      have hb:b < 8:=by simpa using hb
      have e2:=HR e
      have e3:=ET (by omega) (by omega) (by omega) (by omega) e2
      rcases p6 with h | h | h | h | h | h <;> subst h <;> omega
end
end K16
open PySem L2
namespace K16
open Day
theorem Bg:bH (ah gW) ["_law_purse_here","_law_word","_law_names_here","_law_kinds","_law_far","_law_day_here","_law_name","_law_some","_law_kind","_law_target"] ["_law_one","_law_purse_here"] 1 [0] {kind:=Jt,names:=[ (Je ".0",PySem.NameKind.local),(Je "_law_one",PySem.NameKind.local),(Je "_law_take",J7),(Je "_law_purse_here",Ju)],isGenerator:=false,isCoroutine:=false,more:=[]:JU}:=⟨rfl,by decide+kernel,by decide+kernel,by decide+kernel,rfl,by decide+kernel,by decide+kernel,by decide+kernel,rfl⟩
section
variable {P:Program} {w:World} {K:Jd} {mg:Str→Option Value} {base:Heap} {t:cJ}
def HV:List PyData→(PyData→Prop)→Prop:=fun ds Q=> ∃far:Int,ds=[fm,.int far]∧∀d:Int,0≤d→d < 100000→Q (.int d)
theorem tU{a b:PyData}{i:Int}(h0:0≤i)(h1:i < 2):∃d,atI [a,b] i=some d∧(d=a∨d=b):=by
 have:i=0∨i=1:=by omega
 rcases this with e | e <;> subst e
 ·exact⟨_,dU,.inl rfl⟩
 ·exact⟨_,cW,.inr rfl⟩
theorem HW{y m n:Int}(y0:2000≤y)(y1:y≤2269)(m1:1≤m)(m2:m≤12)(n1:1≤n)(n2:n≤aX y m):0≤fw y m n∧fw y m n < 100000:=by
 have ba:=tu (y:=y) m1 m2
 have ld:=vj y
 have ys:0≤bD y∧bD y≤98300:=by unfold bD lb;omega
 unfold fw
 omega
theorem HX(T:Txt K mg t):aK P w K mg base CX0 3 t.a_x33 t.d_x33 ["_law_purse_here","_law_far"] (bo K HV):=by
 have G_x27:=lO (P:=P) (w:=w) (base:=base) T
 have G_x29:=vT (P:=P) (w:=w) (base:=base) T
 have G_x31:=Bf (P:=P) (w:=w) (base:=base) T
 refine T.F_x33.okD Ac (fun ds Q h=> ?_) (fun cdv A outer s H O ds Q E hr h=> ?_)
 ·obtain⟨far,rfl,_⟩:=h;rfl
 ·obtain⟨far,rfl,q⟩:=h
  refine'⟨_,?body,?read⟩
  case body=>
   refine' au ?s1 ?r1
   case s1=>
    refine' bt ?c2 ?a2 br
    case c2=> exact(aI (cz hr.units) cA (df (dv 1)) (df ag) (ay _))
    case' a2=> refine' aA ?s3
    case s3=> exact(aO (PE.imp (ax G_x27 (hr.mono (by decide)) rfl T.m_x27 T.F_x27.kp T.b_x27 .nil av (aa (dv 0) (aa ag aj))) aC))
   case' r1=> refine' au ?s5 ?r5
   case s5=>
    refine' bt ?c6 ?a6 br
    case c6=> exact(aI (cz hr.units) cA (df (PE.imp (ax G_x27 (hr.mono (by decide)) rfl T.m_x27 T.F_x27.kp T.b_x27 .nil av (aa (dv 0) (aa ag aj))) aC)) (df ag) (ay _))
    case' a6=> refine' aA ?s7
    case s7=> exact(aO (PE.imp (ax G_x27 (hr.mono (by decide)) rfl T.m_x27 T.F_x27.kp T.b_x27 .nil av (aa (dv 0) (aa ag aj))) aC))
   case' r5=> refine' au ?s9 ?r9
   case s9=> exact(kE (i:=2) (j:=3) rfl Ac.nd rfl rfl (by decide) rfl rfl (aa (aM bw bF (df ag) (df (PE.imp (ax G_x27 (hr.mono (by decide)) rfl T.m_x27 T.F_x27.kp T.b_x27 .nil av (aa (dv 0) (aa ag aj))) aC))) (aa (aM bw bF (df ag) (df (PE.imp (ax G_x27 (hr.mono (by decide)) rfl T.m_x27 T.F_x27.kp T.b_x27 .nil av (aa (dv 0) (aa ag aj))) aC))) aj)) (by rfl))
   case' r9=> refine' aA ?s11
   case' s11=> refine' aO ?e12
   case e12=> exact(PE.imp (ax G_x31 (hr.mono (by decide)) rfl T.m_x31 T.F_x31.kp T.b_x31 .nil av (aa (dv 2) (aa (dv 3) (aa (aq bN cj (df (fe (cM (aa ag (aa (aM cK bF (df (PE.imp (ax G_x29 (hr.mono (by decide)) rfl T.m_x29 T.F_x29.kp T.b_x29 .nil av (aa (dv 2) (aa (dv 3) aj))) aC)) (df (PE.imp (ax G_x27 (hr.mono (by decide)) rfl T.m_x27 T.F_x27.kp T.b_x27 .nil av (aa (dv 0) (aa ag aj))) aC))) aj))))) (df (PE.imp (ax G_x27 (hr.mono (by decide)) rfl T.m_x27 T.F_x27.kp T.b_x27 .nil av (aa (dv 0) (aa ag aj))) aC))) aj)))) aC)
  case read=>
  clear hr T G_x27 G_x29 G_x31
  walk_at "rz"
  split
  ·exact⟨41,rfl,by decide,by decide,fun d d0 d1=> q d d0 (by omega)⟩
  ·refine⟨2,rfl,by decide,by decide,fun v v0 v1=> ⟨fq,?_⟩⟩
   rw [gG]
   split
   ·exact⟨100000,rfl,by decide,by decide,fun d d0 d1=> q d d0 d1⟩
   ·refine⟨270,rfl,by decide,by decide,fun y y0 y1=> ⟨_,rfl,12,rfl,by decide,by decide,fun m m0 m1=> ⟨_,rfl,?_⟩⟩⟩
    refine⟨2000+y,1+m,rfl,by omega,by omega,4,rfl,by decide,by decide,fun z z0 z1=> ⟨_,rfl,_,rfl,2,rfl,by decide,by decide,fun e e0 e1=> ⟨_,rfl,?_⟩⟩⟩
    have mb:=zI (y:=2000+y) (m:=1+m) (by omega) (by omega)
    have nb:∀n,1≤n→n≤aX (2000+y) (1+m)→vU [.int (2000+y),.int (1+m),.int n] Q:=fun n n1 n2=> by
     have:=HW (y:=2000+y) (m:=1+m) (n:=n) (by omega) (by omega) (by omega) (by omega) n1 n2
     exact⟨_,_,_,rfl,by omega,by omega,q _ this.1 this.2⟩
    obtain⟨d,hd,hd'⟩:=tU (a:=Jg 1) (b:=Jg (aX (2000+y) (1+m) - z)) e0 e1
    refine⟨d,hd,?_⟩
    rcases hd' with h | h <;> rw [h]
    ·exact nb 1 (by omega) (by omega)
    ·exact nb _ (by omega) (by omega)
structure vW (ns ks:List Str) (far:Int):Prop where
 nl:ns.length=8
 no:tS ns
 nn:ns.Nodup
 k0:2≤ks.length
 k1:ks.length≤3
 ko:tS ks
 f0:0≤far
 f1:far≤1
def HY:List PyData→(PyData→Prop)→Prop:=fun ds Q=> ∃(wo:Str)(ns ks:List Str)(far:Int),ds=[fm,.str wo,.list (ns.map .str),.list (ks.map .str),.int far]∧Jp wo=true∧vW ns ks far∧∀pt:Pt,pt.Ok→pt.wd=wo→Q pt.enc
theorem iV{ss:List Str}{i:Int}(h0:0≤i)(h1:i < ss.length):∃s∈ss,atI (ss.map Jh) i=some (.str s):=by
 obtain⟨k,rfl⟩:=KR h0
 have hk:k < ss.length:=by omega
 exact⟨ss[k],KH hk,fJ (by simp [hk])⟩
theorem HZ(T:Txt K mg t):aK P w K mg base CX0 2 t.a_x34 t.d_x34 ["_law_purse_here","_law_word","_law_names_here","_law_kinds","_law_far"] (bo K HY):=by
 have G_x27:=lO (P:=P) (w:=w) (base:=base) T
 refine T.F_x34.okD tF (fun ds Q h=> ?_) (fun cdv A outer s H O ds Q E hr h=> ?_)
 ·obtain⟨wo,ns,ks,far,rfl,_⟩:=h;rfl
 ·obtain⟨wo,ns,ks,far,rfl,hw,dr,q⟩:=h
  refine'⟨_,?body,?read⟩
  case body=>
   refine' au ?s1 ?r1
   case s1=>
    refine' bL (i:=5) tF.nd rfl (by walk_at "o") ?e2 (hs:=nL)
    case' e2=> refine' aq bN cj (df (dv 3)) ?b3
    case b3=> exact(df (PE.imp (ax G_x27 (hr.mono (by decide)) rfl T.m_x27 T.F_x27.kp T.b_x27 .nil av (aa (dv 0) (aa (PE.imp (bX fk rfl T.n_len Kv (aW (df (dv 3)) bp)) (bP gE)) aj))) aC))
   case' r1=> refine' au ?s5 ?r5
   case s5=>
    refine' bt ?c6 ?a6 br
    case c6=> exact(aI (yS hr) nB (df (dv 1)) (df (bJ (aa aS (aa aS aj)))) rfl)
    case' a6=> refine' aA ?s7
    case s7=> exact(aO (bJ (aa (dv 1) (aa (dv 5) aj))))
   case' r5=> refine' au ?s9 ?r9
   case s9=>
    generalize hG10:OH _ _ _=eg10
    refine' bL (i:=6) tF.nd rfl (by walk_at "o") ?e10 (hs:=by subst hG10;exact nL)
    case' e10=> subst hG10
    refine' aq bN cj (df ?a11) ?b11
    case a11=>
     refine' fe ?f12
     case' f12=> refine' cM ?g13
     case' g13=> refine' aa ?u14 ?w14
     case u14=> exact(bJ (aa aS aj))
     case' w14=> refine' aa ?u16 ?w16
     case u16=> exact(bJ (aa aS (aa (aq bN cj (df (dv 2)) (df ag)) aj)))
     case' w16=> refine' aa ?u18 aj
     case' u18=> refine' bJ ?t19
     case' t19=> refine' aa aS ?w20
     case' w20=> refine' aa ?u22 aj
     case' u22=> refine' aq bN cj (df (dv 2)) ?b23
     case b23=> exact(df (aM bw bF (df ag) (df (PE.imp (ax G_x27 (hr.mono (by decide)) rfl T.m_x27 T.F_x27.kp T.b_x27 .nil av (aa (dv 0) (aa ag aj))) aC))))
    case b11=> exact(df (PE.imp (ax G_x27 (hr.mono (by decide)) rfl T.m_x27 T.F_x27.kp T.b_x27 .nil av (aa (dv 0) (aa ag aj))) aC))
   case' r9=> refine' au ?s27 ?r27
   case s27=>
    refine' bt ?c28 ?a28 br
    case c28=> exact(aI (cz hr.units) cA (df (dv 4)) (df ag) (ay _))
    case' a28=> refine' aA ?s29
    case' s29=> refine' aO ?e30
    case' e30=> refine' bJ ?t31
    case' t31=> refine' aa (dv 1) ?w32
    case' w32=> refine' aa (dv 5) ?w34
    case' w34=> refine' aa (dv 6) ?w36
    case' w36=> refine' aa ?u38 ?w38
    case u38=> exact(PE.imp (ax G_x27 (hr.mono (by decide)) rfl T.m_x27 T.F_x27.kp T.b_x27 .nil av (aa (dv 0) (aa ag aj))) aC)
    case w38=> refine' aa aS aj
   case' r27=> refine' au ?s43 ?r43
   case s43=>
    refine' bL (i:=7) tF.nd rfl (by walk_at "o") ?e44 (hs:=il)
    case e44=> exact(PE.imp (ax G_x27 (hr.mono (by decide)) rfl T.m_x27 T.F_x27.kp T.b_x27 .nil av (aa (dv 0) (aa (aq bN cj (df (fe (cM (kW (ds:=[.int 1000,.int 14,.int 30]) (by rfl))))) (df (PE.imp (ax G_x27 (hr.mono (by decide)) rfl T.m_x27 T.F_x27.kp T.b_x27 .nil av (aa (dv 0) (aa ag aj))) aC))) aj))) aC)
   case' r43=> refine' aA ?s46
   case' s46=> refine' aO ?e47
   case' e47=> refine' bJ ?t48
   case' t48=> refine' aa (dv 1) ?w49
   case' w49=> refine' aa (dv 5) ?w51
   case' w51=> refine' aa (dv 6) ?w53
   case' w53=> refine' aa (dv 7) ?w55
   case' w55=> refine' aa ?u57 aj
   case' u57=> refine' aq bN cj (df ?a58) ?b58
   case a58=> exact(fe (cM (kW (ds:=[.str "days",.str "months",.str "years"]) (by rfl))))
   case b58=> exact(df (PE.imp (ax G_x27 (hr.mono (by decide)) rfl T.m_x27 T.F_x27.kp T.b_x27 .nil av (aa (dv 0) (aa ag aj))) aC))
  case read=>
  clear hr T G_x27
  walk_at "rz"
  refine⟨_,rfl,by rw [Jf];have:=dr.k0;omega,by rw [Jf];have:=dr.k1;omega,fun i i0 i1=> ⟨_,rfl,?_⟩⟩
  rw [Jf] at i1
  obtain⟨kd,hk,ek⟩:=iV i0 i1
  have kok:=(dr.ko kd hk).ok
  refine⟨_,ek,cO.mpr hw,by decide+kernel,?_⟩
  by_cases hg:KG wo
  ·rw [if_neg (by rcases hg with e | e <;> rw [e] <;> decide+kernel)]
   have nl:=dr.nl
   obtain⟨n6,h6,e6⟩:=iV (ss:=ns) (i:=6) (by decide) (by omega)
   refine⟨_,e6,2,rfl,by decide,by decide,fun j j0 j1=> ⟨_,rfl,?_⟩⟩
   obtain⟨n7,h7,e7⟩:=iV (ss:=ns) (i:=6+j) (by omega) (by omega)
   refine⟨_,e7,3,rfl,by decide,by decide,fun v v0 v1=> ⟨_,rfl,?_⟩⟩
   have sn:∃s:cv,s.Ok∧atI [JG [Jh (Jc "coming")],JG [Jh (Jc "first"),.str n6],JG [Jh (Jc "last"),.str n7]] v=some s.enc:=by
    have:v=0∨v=1∨v=2:=by omega
    rcases this with e | e | e <;> subst e
    ·exact⟨.com,trivial,rfl⟩
    ·exact⟨.fst n6,(dr.no n6 h6).ok,rfl⟩
    ·exact⟨.lst n7,(dr.no n7 h7).ok,rfl⟩
   obtain⟨sn,so,es⟩:=sn
   refine⟨_,es,?_⟩
   have fin:∀(k:Int)(u:Str),0≤k→k < 1000→g5 u→Q (JG [Jh wo,.str kd,sn.enc,.int k,.str u]):=fun k u k0 k1 hu=> q (.five wo kd sn k u) ⟨hg,kok,so,k0,k1,hu⟩ rfl
   split
   ·exact⟨21,rfl,by decide,by decide,fun k k0 k1=> fin k _ k0 (by omega) (.inl rfl)⟩
   ·refine⟨3,rfl,by decide,by decide,fun a a0 a1=> ⟨_,rfl,?_⟩⟩
    have mx:∃z:Int,0 < z∧z≤1000∧atI [Jg 1000,Jg 14,Jg 30] a=some (.int z):=by
     have:a=0∨a=1∨a=2:=by omega
     rcases this with e | e | e <;> subst e
     ·exact⟨1000,by decide,by decide,rfl⟩
     ·exact⟨14,by decide,by decide,rfl⟩
     ·exact⟨30,by decide,by decide,rfl⟩
    obtain⟨z,z0,z1,ez⟩:=mx
    refine⟨_,ez,z,rfl,z0,by omega,fun k k0 k1=> ⟨3,rfl,by decide,by decide,fun b b0 b1=> ⟨_,rfl,?_⟩⟩⟩
    have:b=0∨b=1∨b=2:=by omega
    rcases this with e | e | e <;> subst e
    ·exact⟨_,dU,fin k _ k0 (by omega) (.inl rfl)⟩
    ·exact⟨_,cW,fin k _ k0 (by omega) (.inr (.inl rfl))⟩
    ·exact⟨_,jM,fin k _ k0 (by omega) (.inr (.inr rfl))⟩
  ·rw [if_pos (by
    rw [bS (fun e=> hg (.inl e.symm)),bS (fun e=> hg (.inr e.symm))];rfl)]
   exact q (.two wo kd) ⟨hg,hw,kok⟩ rfl
structure jY (x:De):Prop where
 w:Jp x.w=true
 nm:Jp x.nm=true
 d0:0≤x.d∧x.d < 100000
 ly:cu 4 x.enc
 pp:∀p,x= .pap p→Jp p.kd=true∧(∀m∈p.ms,Jp m=true)∧p.ms.length≤50∧p.ms.Nodup
 np:∀w d nm r,x= .oth w d nm r→w≠Jc "paper"
 hp:∀d nm r,x= .oth (Jc "happens") d nm r→∃wd,r=[.str wd]∧Jp wd=true
 ru:∀d nm r,x= .oth (Jc "rule") d nm r→∃pt:Pt,r=[pt.enc]∧pt.Ok
def lP:List Str:=["paper","happens","end","lift","hold","permit"]
def Ia(wo:Str)(x:De):Prop:=∀d nm(pt:Pt),x= .oth (Jc "rule") d nm [pt.enc]→pt.wd=wo∧wo ∉ lP
def Ib:List PyData→(PyData→Prop)→Prop:=fun ds Q=> ∃(wo:Str)(ns ks:List Str)(far:Int),ds=[fm,.str wo,.list (ns.map .str),.list (ks.map .str),.int far]∧Jp wo=true∧vW ns ks far∧∀x:De,jY x→(wo=Jc "paper"→∃p,x= .pap p)→Ia wo x→Q x.enc
theorem Ic(T:Txt K mg t):aK P w K mg base CX0 4 t.a_x35 t.d_x35 ["_law_purse_here","_law_word","_law_names_here","_law_kinds","_law_far"] (bo K Ib):=by
 have G_x27:=lO (P:=P) (w:=w) (base:=base) T
 have G_x33:=HX (P:=P) (w:=w) (base:=base) T
 have G_x34:=HZ (P:=P) (w:=w) (base:=base) T
 refine T.F_x35.okD lG (fun ds Q h=> ?_) (fun cdv A outer s H O ds Q E hr h=> ?_)
 ·obtain⟨wo,ns,ks,far,rfl,_⟩:=h;rfl
 ·obtain⟨wo,ns,ks,far,rfl,hw,dr,q⟩:=h
  refine'⟨_,?body,?read⟩
  case body=>
   refine' au ?s1 ?r1
   case s1=> exact(bL (i:=5) lG.nd rfl (by walk_at "o") (PE.imp (ax G_x33 (hr.mono (by decide)) rfl T.m_x33 T.F_x33.kp T.b_x33 .nil av (aa (dv 0) (aa (dv 4) aj))) aC))
   case' r1=> refine' au ?s3 ?r3
   case s3=> exact(bL (i:=6) lG.nd rfl (by walk_at "o") (aq bN cj (df (dv 2)) (df (PE.imp (ax G_x27 (hr.mono (by decide)) rfl T.m_x27 T.F_x27.kp T.b_x27 .nil av (aa (dv 0) (aa ag aj))) aC))))
   case' r3=> refine' au ?s5 ?r5
   case s5=>
    refine' bt ?c6 ?a6 br
    case c6=> exact(aI (cB hr) cC (df (dv 1)) (df aS) (ay _))
    case' a6=> refine' au ?s7 ?r7
    case s7=> exact(ik (i:=7) lG.nd rfl (by walk_at "o") (nv rfl Bg (df (fe (mW (df (dv 2)) ji (eR ag)))) aY cy (by decide) (fun _ _ _ _=> (aU (i:=0) Bg.nd rfl (by walk_at "o"))) (fun _ _ _ _=> (dj (aI (cz hr.units) cA (df (PE.imp (ax G_x27 (hr.mono (by decide)) rfl T.m_x27 T.F_x27.kp T.b_x27 .nil av (aa (dv 1) (aa ag aj))) aC)) (df ag) (ay _)))) (fun _ _ _ _=> (dv 0))))
    case' r7=> refine' aA ?s9
    case' s9=> refine' aO ?e10
    case' e10=> refine' bJ ?t11
    case' t11=> refine' aa (dv 1) ?w12
    case' w12=> refine' aa (dv 5) ?w14
    case' w14=> refine' aa (dv 6) ?w16
    case' w16=> refine' aa ?u18 ?w18
    case u18=>
     refine' aq bN cj (df (dv 3)) ?b19
     case b19=> exact(df (PE.imp (ax G_x27 (hr.mono (by decide)) rfl T.m_x27 T.F_x27.kp T.b_x27 .nil av (aa (dv 0) (aa (PE.imp (bX fk rfl T.n_len Kv (aW (df (dv 3)) bp)) (bP gE)) aj))) aC))
    case' w18=> refine' aa ?u21 aj
    case u21=> exact(PE.imp (eD hW rfl T.n_tuple fL (aW (df (fe (E4 rfl T.n_sorted Kz (aW (df (fe (mW (df (dv 7)) ji (eR ag)))) bp)))) bp)) (bP ig))
   case' r5=> refine' au ?s24 ?r24
   case s24=>
    refine' bt ?c25 ?a25 br
    case c25=> exact(aI (cB hr) cC (df (dv 1)) (df aS) (ay _))
    case' a25=> refine' aA ?s26
    case' s26=> refine' aO ?e27
    case' e27=> refine' bJ ?t28
    case' t28=> refine' aa (dv 1) ?w29
    case' w29=> refine' aa (dv 5) ?w31
    case' w31=> refine' aa (dv 6) ?w33
    case' w33=> refine' aa ?u35 aj
    case' u35=> refine' aq bN cj (df (dv 2)) ?b36
    case b36=> exact(df (aM bw bF (df ag) (df (PE.imp (ax G_x27 (hr.mono (by decide)) rfl T.m_x27 T.F_x27.kp T.b_x27 .nil av (aa (dv 0) (aa ag aj))) aC))))
   case' r24=> refine' au ?s39 ?r39
   case s39=>
    refine' bt ?c40 ?a40 br
    case c40=> exact(aI (uX hr) uY (df (dv 1)) (df (bJ (aa aS (aa aS aj)))) rfl)
    case' a40=> refine' aA ?s41
    case s41=> exact(aO (bJ (aa (dv 1) (aa (dv 5) (aa (dv 6) aj)))))
   case' r39=> refine' au ?s43 ?r43
   case s43=>
    refine' bL (i:=8) lG.nd rfl (by walk_at "o") ?e44 (hs:=nL)
    case' e44=> refine' aq bN cj (df (dv 3)) ?b45
    case b45=> exact(df (PE.imp (ax G_x27 (hr.mono (by decide)) rfl T.m_x27 T.F_x27.kp T.b_x27 .nil av (aa (dv 0) (aa (PE.imp (bX fk rfl T.n_len Kv (aW (df (dv 3)) bp)) (bP gE)) aj))) aC))
   case' r43=> refine' au ?s47 ?r47
   case s47=>
    refine' bt ?c48 ?a48 br
    case c48=> exact(aI (cB hr) cC (df (dv 1)) (df aS) (ay _))
    case' a48=> refine' au ?s49 ?r49
    case s49=>
     refine' bL (i:=9) lG.nd rfl (by walk_at "o") ?e50 (hs:=nL)
     case' e50=> refine' aq bN cj (df ?a51) ?b51
     case a51=>
      refine' fe ?f52
      case' f52=> refine' cM ?g53
      case' g53=> refine' aa ?u54 ?w54
      case u54=>
       refine' bJ ?t55
       case' t55=> refine' aa aS ?w56
       case' w56=> refine' aa ?u58 aj
       case u58=> exact(aq bN cj (df (dv 2)) (df (PE.imp (ax G_x27 (hr.mono (by decide)) rfl T.m_x27 T.F_x27.kp T.b_x27 .nil av (aa (dv 0) (aa ag aj))) aC)))
      case' w54=> refine' aa ?u61 aj
      case u61=> exact(bJ (aa aS (aa (dv 8) aj)))
     case b51=> exact(df (PE.imp (ax G_x27 (hr.mono (by decide)) rfl T.m_x27 T.F_x27.kp T.b_x27 .nil av (aa (dv 0) (aa ag aj))) aC))
    case' r49=> refine' aA ?s64
    case' s64=> refine' aO ?e65
    case' e65=> refine' bJ ?t66
    case' t66=> refine' aa (dv 1) ?w67
    case' w67=> refine' aa (dv 5) ?w69
    case' w69=> refine' aa (dv 6) ?w71
    case' w71=> refine' aa (dv 9) ?w73
    case' w73=> refine' aa ?u75 aj
    case u75=> exact(eI (cz hr.units) cA (df (PE.imp (ax G_x27 (hr.mono (by decide)) rfl T.m_x27 T.F_x27.kp T.b_x27 .nil av (aa (dv 0) (aa ag aj))) aC)) (df ag) (ay _))
   case' r47=> refine' au ?s78 ?r78
   case s78=>
    refine' bt ?c79 ?a79 br
    case c79=> exact(aI (cB hr) cC (df (dv 1)) (df aS) (ay _))
    case' a79=> refine' aA ?s80
    case s80=> exact(aO (bJ (aa aS (aa (dv 5) (aa (dv 6) (aa (dv 8) aj))))))
   case' r78=> refine' aA ?s82
   case' s82=> refine' aO ?e83
   case' e83=> refine' bJ ?t84
   case' t84=> refine' aa aS ?w85
   case' w85=> refine' aa (dv 5) ?w87
   case' w87=> refine' aa (dv 6) ?w89
   case' w89=> refine' aa ?u91 aj
   case u91=> exact(PE.imp (ax G_x34 (hr.mono (by decide)) rfl T.m_x34 T.F_x34.kp T.b_x34 .nil av (aa (dv 0) (aa (dv 1) (aa (dv 2) (aa (dv 3) (aa (dv 4) aj)))))) aC)
  case read=>
  clear hr T G_x27 G_x33 G_x34
  walk_at "rz"
  refine⟨far,rfl,fun d d0 d1=> ⟨6,rfl,by decide,by decide,fun i i0 i1=> ⟨_,rfl,?_⟩⟩⟩
  have nl:=dr.nl
  have k0:=dr.k0
  have k1:=dr.k1
  obtain⟨nm,hn,en⟩:=iV (ss:=ns) i0 (by omega)
  have nok:=(dr.no nm hn).ok
  refine⟨_,en,?_⟩
  have kinds:∀R:PyData→Prop,(∀kd∈ks,R (.str kd))→uN [fm,Jg ((JF Jh ks).length:Int)] fun y=> ∃x,y=Jg x∧∃x_2,atI (JF Jh ks) x=some x_2∧R x_2:=fun R hR=> by
   refine⟨_,rfl,by rw [Jf];omega,by rw [Jf];omega,fun i i0 i1=> ⟨_,rfl,?_⟩⟩
   rw [Jf] at i1
   obtain⟨kd,hk,ek⟩:=iV i0 i1
   exact⟨_,ek,hR kd hk⟩
  by_cases hp:wo=Jc "paper"
  ·rw [if_pos (by rw [hp];exact beq_self_eq_true _)]
   have ec:cn (JF Jh ns) none (some 6)=(ns.take 6).map Jh:=by
    rw [jN (by decide) (by simp;omega),←Mh];rfl
   rw [ec]
   refine⟨by rw [Jf,J8];omega,fun i acc=> ∃ss:List Str,acc=ss.map .str∧ss.Sublist ((ns.take 6).take i),⟨[],rfl,List.nil_sublist _⟩,?_,?_⟩
   ·rintro i z acc hz ⟨ss,rfl,hs⟩
    rw [JB] at hz
    cases hz':(ns.take 6)[i]? with
    | none=> rw [hz'] at hz;cases hz
    | some x=>
     rw [hz'] at hz;cases hz
     walk_at "rz"
     refine⟨3,rfl,by decide,by decide,fun v v0 v1=> ⟨fq,?_⟩⟩
     rw [gG]
     split
     ·refine⟨ss++[x],by rw [J6];rfl,?_⟩
      rw [Kk,hz']
      exact hs.append (.refl _)
     ·refine⟨ss,rfl,?_⟩
      rw [Kk]
      exact hs.trans (List.sublist_append_left _ _)
   ·rintro acc ⟨ss,rfl,hs⟩
    have hs:ss.Sublist (ns.take 6):=hs.trans (LL _ _)
    have hl:=hs.length_le
    rw [J8] at hl
    have hm:∀z∈ss,z∈ns:=fun z hz=> Lv (hs.subset hz)
    have snd:ss.Nodup:=(dr.nn.sublist (LL _ _)).sublist hs
    refine kinds (fun x_2=> ∃ss_1,cn (JF Jh ss) none (some 4)=JF Jh ss_1∧ss_1.length < 64∧Q (JG [Jh wo,.int d,.str nm,x_2,JG (JF Jh (cZ ss_1))])) fun kd hk=> ?_
    have cc:∃ss':List Str,cn (JF Jh ss) none (some 4)=ss'.map Jh∧ss'.length≤6∧(∀z∈ss',z∈ss)∧ss'.Nodup:=by
     by_cases h4:4≤ss.length
     ·refine⟨ss.take 4,by rw [jN (by decide) (by simp;omega),←Mh];rfl,by rw [J8];omega,fun z hz=> Lv hz,snd.sublist (LL _ _)⟩
     ·refine⟨ss,?_,by omega,fun z hz=> hz,snd⟩
      have:ss.length=0∨ss.length=1∨ss.length=2∨ss.length=3:=by omega
      match ss,h4 with
      | [],_=> rfl
      | [a],_=> rfl
      | [a,b],_=> rfl
      | [a,b,c],_=> rfl
      | a::b::c::e::l,h4=> exact absurd h4 (by simp)
    obtain⟨ss',e1,e2,e3,e4⟩:=cc
    refine⟨ss',e1,by omega,?_⟩
    rw [hp]
    have msok:∀m∈cZ ss',Jp m=true:=fun m hm'=> (dr.no m (hm m (e3 m ((fc ss').mem_iff.mp hm')))).ok
    have msl:(cZ ss').length≤50:=by rw [(fc ss').length_eq];omega
    refine q (.pap ⟨d,nm,kd,cZ ss'⟩) ⟨by show Jp (Jc "paper")=true;decide+kernel,nok,⟨d0,d1⟩,?_,?_,(fun _ _ _ _ e=> by cases e),(fun _ _ _ e=> by cases e),(fun _ _ _ e=> by cases e)⟩ (fun _=> ⟨_,rfl⟩) (fun _ _ _ e=> by cases e)
    ·exact cY (aZ (bQ (by decide+kernel)) (aZ gH (aZ (bQ nok) (aZ (bQ (dr.ko kd hk).ok) (aZ ((cY (n:=1) (u5 msok)).mono (by decide)) dW)))))
    ·intro p e;cases e;exact⟨(dr.ko kd hk).ok,msok,msl,(fc ss').nodup_iff.mpr e4⟩
  ·rw [bS hp,if_neg Jk]
   have q:∀(w:Str)(r:List PyData),Jp w=true→w≠Jc "paper"→cu 4 (.tuple (.str w:: .int d:: .str nm::r))→(w=Jc "happens"→∃wd,r=[.str wd]∧Jp wd=true)→(w=Jc "rule"→∃pt:Pt,r=[pt.enc]∧pt.Ok∧pt.wd=wo∧wo ∉ lP)→Q (.tuple (.str w:: .int d:: .str nm::r)):=fun w r wok wp wl wh wr=>
    q (.oth w d nm r) ⟨wok,nok,⟨d0,d1⟩,wl,(fun p e=> by cases e),(fun w' d' nm' r' e=> by cases e;exact wp),(fun d' nm' r' e=> by cases e;exact wh rfl),(fun d' nm' r' e=> by cases e;obtain⟨pt,a,b,_⟩:=wr rfl;exact⟨pt,a,b⟩)⟩ (fun e=> absurd e hp) (fun d' nm' pt' e=> by
     simp only [De.oth.injEq] at e
     obtain⟨e1,_,_,e4⟩:=e
     obtain⟨pt,a,_,c1,c2⟩:=wr e1
     rw [a] at e4
     rw [←vP (Ml e4).1];exact⟨c1,c2⟩)
   by_cases hh:wo=Jc "happens"
   ·rw [if_pos (by rw [hh];exact beq_self_eq_true _)]
    refine⟨2,rfl,by decide,by decide,fun j j0 j1=> ⟨_,rfl,?_⟩⟩
    obtain⟨n7,h7,e7⟩:=iV (ss:=ns) (i:=6+j) (by omega) (by omega)
    have o7:=(dr.no n7 h7).ok
    exact⟨_,e7,q wo [.str n7] hw hp (cY (aZ (bQ hw) (aZ gH (aZ (bQ nok) (aZ (bQ o7) dW))))) (fun _=> ⟨n7,rfl,o7⟩) (fun e=> by rw [hh] at e;exact absurd e (by decide+kernel))⟩
   ·rw [bS hh,if_neg Jk]
    by_cases he:(Jc "end"==wo || Jc "lift"==wo)=true
    ·rw [if_pos he]
     refine q wo [] hw hp (cY (aZ (bQ hw) (aZ gH (aZ (bQ nok) dW)))) (fun e=> absurd e hh) (fun e=> ?_)
     rw [e] at he
     exact absurd he (by decide+kernel)
    ·rw [if_neg he]
     refine kinds _ fun kd hk=> ?_
     have kok:=(dr.ko kd hk).ok
     by_cases hb:wo=Jc "hold"
     ·rw [if_pos (by rw [hb];exact beq_self_eq_true _)]
      refine⟨6,rfl,by decide,by decide,fun j j0 j1=> ⟨_,rfl,?_⟩⟩
      obtain⟨n3,h3,e3⟩:=iV (ss:=ns) j0 (by omega)
      refine⟨_,e3,2,rfl,by decide,by decide,fun v v0 v1=> ⟨_,rfl,?_⟩⟩
      have o3:=(dr.no n3 h3).ok
      obtain⟨tg,et,ht⟩:=tU (a:=JG [Jh (Jc "paper"),.str n3]) (b:=JG [Jh (Jc "kind"),.str kd]) v0 v1
      have lt:cu 2 tg:=by
       rcases ht with e | e <;> rw [e]
       ·exact cY (aZ (bQ (by decide+kernel)) (aZ (bQ o3) dW))
       ·exact cY (aZ (bQ (by decide+kernel)) (aZ (bQ kok) dW))
      refine⟨_,et,2,rfl,by decide,by decide,fun b b0 b1=> ⟨fq,?_⟩⟩
      exact q wo [tg,.bool _] hw hp (cY (aZ (bQ hw) (aZ gH (aZ (bQ nok) (aZ (lt.mono (by decide)) (aZ Ff dW)))))) (fun e=> absurd e hh) (fun e=> by rw [hb] at e;exact absurd e (by decide+kernel))
     ·rw [bS hb,if_neg Jk]
      by_cases hm:wo=Jc "permit"
      ·rw [if_pos (by rw [hm];exact beq_self_eq_true _)]
       exact q (Jc "leave") [.str kd] (by decide+kernel) (by decide+kernel) (cY (aZ (bQ (by decide+kernel)) (aZ gH (aZ (bQ nok) (aZ (bQ kok) dW))))) (fun e=> absurd e (by decide+kernel)) (fun e=> absurd e (by decide+kernel))
      ·rw [bS hm,if_neg Jk]
       refine⟨wo,ns,ks,far,rfl,hw,dr,fun pt po pw=> ?_⟩
       exact q (Jc "rule") [pt.enc] (by decide+kernel) (by decide+kernel) (cY (aZ (bQ (by decide+kernel)) (aZ gH (aZ (bQ nok) (aZ (Pt.lay po) dW))))) (fun e=> absurd e (by decide+kernel)) (fun _=> ⟨pt,rfl,po,pw,fun hin=> by
        simp only [lP,Jy,Ks,or_false] at hin
        rcases hin with h | h | h | h | h | h
        ·exact hp h
        ·exact hh h
        ·rw [h] at he;exact he (by decide+kernel)
        ·rw [h] at he;exact he (by decide+kernel)
        ·exact hb h
        ·exact hm h⟩)
end
end K16
open PySem L2
namespace K16
section
variable {P:Program} {w:World} {K:Jd} {mg:Str→Option Value} {base:Heap} {t:cJ}
mutual
theorem vX:∀d:PyData,d.canLay0=true→JD d d=true
 | .none,_=> by simp [JD]
 | .bool _,_ | .int _,_ | .str _,_=> by simp [JD]
 | .list xs,h=> by rw [JD];exact vY xs (by simpa [JN] using h)
 | .tuple xs,h=> by rw [JD];exact vY xs (by simpa [JN] using h)
 | .dict _,h=> by simp [JN] at h
theorem vY:∀ds:List PyData,Ku ds=true→Ln ds ds=true
 | [],_=> by simp [Ln]
 | d::ds,h=> by
  rw [Ku,Kh] at h
  rw [Ln,vX d h.1,vY ds h.2];rfl
end
def fC(x y:De):Prop:=x≠y∧(∀p r,x= .pap p→y= .pap r→p.nm≠r.nm)∧(x.isE=true→y.isE=true→¬(x.d=y.d∧x.nm=y.nm))
theorem fC.symm{x y:De}(h:fC x y):fC y x:=⟨h.1.symm,fun p r e1 e2 e=> h.2.1 r p e2 e1 e.symm,fun e1 e2 e=> h.2.2 e2 e1 ⟨e.1.symm,e.2.symm⟩⟩
def g9:List (ai×PyData):=[(.inr (Jc "rule"),.int 1),(.inr (Jc "end"),.int 1),(.inr (Jc "hold"),.int 2),(.inr (Jc "lift"),.int 2)]
theorem Ie:LS (fun a p=> dM a p.fst p.snd) [] g9=g9:=by
 rfl
theorem vZ{x:De}(h:x.isE=true):cG g9 (.inr x.w)=some (.int 1):=by
 cases x with
 | pap p=> cases h
 | oth w d nm r=>
  simp only [De.isE,LG,beq_iff_eq] at h
  rcases h with e | e <;> subst e <;> rfl
theorem Bh(w:Str):cG g9 (.inr w)=none∨∃i:Int,cG g9 (.inr w)=some (.int i):=by
 unfold cG
 cases h:g9.find? fun p=> decide (p.fst=Ke w) with
 | none=> exact .inl rfl
 | some p=>
  have hp:=Lr h
  simp only [g9,Jy,Ks,or_false] at hp
  rcases hp with e | e | e | e <;> rw [e] <;> exact .inr ⟨_,rfl⟩
theorem v3{x y:De}{Q:PyData→Prop}(gx:jY x)(gy:jY y)(nq:x≠y)(pc:∀p r,x= .pap p→y= .pap r→p.nm≠r.nm)(q:∀b:Bool,(b=false→fC x y)→Q (.bool b)):
  ∃kd:List (ai×PyData),[(Jh (Jc "rule"),Jg 1),(Jh (Jc "end"),Jg 1),(Jh (Jc "hold"),Jg 2),(Jh (Jc "lift"),Jg 2)]=JF (fun p=> (fT p.fst,p.snd)) kd∧
   kd.length≤15∧(∀(p:ai×PyData),p∈kd→(match p.snd with | LK=> true | Lf b=> true | Jg i=> true | Jh s=> true | x=> false)=true)∧
   if (cG (LS (fun a p=> dM a p.fst p.snd) [] kd) (Ke x.w)).isSome=false then Q (Lf false)
   else ∃x_1,cG (LS (fun a p=> dM a p.fst p.snd) [] kd) (Ke x.w)=some x_1∧Ka x_1=true∧Ka ((cG (LS (fun a p=> dM a p.fst p.snd) [] kd) (Ke y.w)).getD LK)=true∧
    if x_1.eqv ((cG (LS (fun a p=> dM a p.fst p.snd) [] kd) (Ke y.w)).getD LK)=false then Q (Lf false)
    else Ka (JG [Jg x.d,Jh x.nm])=true∧Ka (JG [Jg y.d,Jh y.nm])=true∧Q (Lf ((JG [Jg x.d,Jh x.nm]).eqv (JG [Jg y.d,Jh y.nm]))):=by
 refine⟨g9,rfl,by decide,?_,?_⟩
 ·intro p hp
  simp only [g9,Jy,Ks,or_false] at hp
  rcases hp with e | e | e | e <;> rw [e]
 ·rw [Ie]
  have no:(x.isE=true→y.isE=true→False)→Q (.bool false):=fun h=> q false fun _=> ⟨nq,pc,fun a b=> (h a b).elim⟩
  rcases Bh x.w with hx | ⟨i,hx⟩
  ·rw [hx,if_pos (by rfl)]
   exact no fun a _=> by rw [vZ a] at hx;cases hx
  ·rw [hx,if_neg (by simp)]
   have sh:Ka ((cG g9 (Ke y.w)).getD LK)=true:=by
    rcases Bh y.w with hy | ⟨j,hy⟩ <;> rw [hy]
    ·exact nh
    ·exact fq
   have two:∀z:De,Jp z.nm=true→Ka (JG [Jg z.d,Jh z.nm])=true:=fun z hz=> (cY (n:=1) (aZ gH (aZ (bQ hz) dW))).shp (by decide)
   refine⟨_,rfl,fq,sh,?_⟩
   split
   ·rename_i hne
    exact no fun a b=> by
     rw [vZ a] at hx;cases hx
     rw [vZ b] at hne
     exact absurd hne (by simp [gG])
   ·refine⟨two x gx.nm,two y gy.nm,q _ fun e=> ⟨nq,pc,fun _ _ h=> ?_⟩⟩
    rw [h.1,h.2] at e
    rw [vX _ (cY (n:=1) (aZ gH (aZ (bQ gy.nm) dW))).can] at e
    cases e
def Bi:List PyData→(PyData→Prop)→Prop:=fun ds Q=> ∃x y:De,ds=[x.enc,y.enc]∧jY x∧jY y∧∀b:Bool,(b=false→fC x y)→Q (.bool b)
theorem Ig(T:Txt K mg t):aK P w K mg base CX0 1 t.a_x36 t.d_x36 ["_law_one","_law_other"] (bo K Bi):=by
 refine T.F_x36.okD Ad (fun ds Q h=> ?_) (fun cdv A outer s H O ds Q E hr h=> ?_)
 ·obtain⟨x,y,rfl,_⟩:=h;rfl
 ·obtain⟨x,y,rfl,gx,gy,q⟩:=h
  refine'⟨_,?body,?read⟩
  case body=>
   refine' au ?s1 ?r1
   case s1=>
    refine' bt ?c2 ?a2 br
    case c2=> exact(PW.pt (jf (aI (cz hr.units) cA (df (dv 0)) (df (dv 1)) (ay _)) (je (PW.pt (dn (aI (cz hr.units) cA (df (aq aE aF (df (dv 0)) (df ag))) (df (aq aE aF (df (dv 1)) (df ag))) (ay _)) (dn (aI (uX hr) uY (df (aq aE aF (df (dv 0)) (df ag))) (df (bJ (aa aS (aa aS aj)))) rfl) (dR (aI (cz hr.units) cA (df (aq aE aF (df (dv 0)) (df ag))) (df (aq aE aF (df (dv 1)) (df ag))) (ay _)))))))))
    case a2=> refine' aA (aO jF)
   case' r1=> refine' au ?s5 ?r5
   case s5=>
    generalize hD6:Expr.Dict _ _ _=ed6
    refine' kZ (i:=2) Ad.nd rfl (by walk_at "o") ?e6 (hs:=by subst hD6;first | rfl | exact Fg)
    case' e6=> subst hD6
    refine' Fw ?p6_0
    case p6_0=>
     refine' sW aS ag ?p6_1
     case p6_1=>
      refine' sW aS ag ?p6_2
      case p6_2=>
       refine' sW aS ag ?p6_3
       case p6_3=>
        refine' sW aS ag ?p6_4
        case p6_4=> exact Fv
   case' r5=> refine' au ?s7 ?r7
   case s7=>
    refine' bt ?c8 ?a8 br
    case c8=> exact(PW.pt (jf (zf (i:=2) hr.units (pv 2) (aq aE aF (df (dv 0)) (df ag))) (je (aI (kJ hr.units) kL (df (nR (i:=2) hr.units (pv 2) (aq aE aF (df (dv 0)) (df ag)) (fun _ _=> rfl))) (df (zb (i:=2) hr.units (pv 2) (aq aE aF (df (dv 1)) (df ag)) ⟨rfl,rfl,rfl,rfl⟩)) (ay _)))))
    case a8=> refine' aA (aO jF)
   case' r7=> refine' aA ?s11
   case' s11=> refine' aO ?e12
   case e12=> exact(eI (cz hr.units) cA (df (uV (df (dv 0)) (eR ag) (eR ag))) (df (uV (df (dv 1)) (eR ag) (eR ag))) (ay _))
  case read=>
  clear hr T
  have sx:=gx.ly.shp (by decide)
  have sy:=gy.ly.shp (by decide)
  have ne:(x.enc).eqv y.enc=false→x≠y:=fun h e=> by rw [e,vX _ gy.ly.can] at h;cases h
  have ex:∃rx,x.enc= .tuple (.str x.w:: .int x.d:: .str x.nm::rx):=by cases x <;> exact⟨_,rfl⟩
  have ey:∃ry,y.enc= .tuple (.str y.w:: .int y.d:: .str y.nm::ry):=by cases y <;> exact⟨_,rfl⟩
  obtain⟨rx,ex⟩:=ex
  obtain⟨ry,ey⟩:=ey
  rw [ex] at sx ne⊢
  rw [ey] at sy ne⊢
  walk_at "rz"
  refine⟨sx,sy,?_⟩
  split
  ·exact q true fun e=> by cases e
  ·rename_i h0
   have nq:=ne (by simpa using h0)
   refine⟨cO.mpr gx.w,cO.mpr gy.w,?_⟩
   split
   ·split
    ·refine⟨cO.mpr gx.nm,cO.mpr gy.nm,?_⟩
     split
     ·exact q true fun e=> by cases e
     ·rename_i hn
      exact v3 gx gy nq (fun p r e1 e2 e=> hn (by rw [e1,e2];exact beq_iff_eq.mpr e)) q
    ·rename_i hn
     exact v3 gx gy nq (fun p r e1 e2 e=> hn (by rw [e1];show(Jc "paper"==Jc "paper" || _)=true;simp)) q
   ·rename_i hn
    exact v3 gx gy nq (fun p r e1 e2 e=> hn (by rw [e1,e2];exact beq_self_eq_true _)) q
def jw(xs:List De):Prop:=(∀x∈xs,jY x)∧xs.Pairwise fC∧xs.length≤41
theorem jw.good{xs:List De}(h:jw xs):dD xs:=by
 obtain⟨h1,h2,h3⟩:=h
 have un:∀x∈xs,∀y∈xs,x≠y→fC x y:=fun x hx y hy ne=> by
  obtain⟨i,hi⟩:=Lu hx
  obtain⟨j,hj⟩:=Lu hy
  obtain⟨li,ei⟩:=Jr.mp hi
  obtain⟨lj,ej⟩:=Jr.mp hj
  have pw:=K4.mp h2
  rcases Nat.lt_trichotomy i j with h | h | h
  ·rw [←ei,←ej];exact pw i j li lj h
  ·subst h;exact absurd (by rw [←ei,←ej]) ne
  ·rw [←ei,←ej];exact(pw j i lj li h).symm
 have pm:∀p∈bb xs,De.pap p∈xs:=fun p hp=> tK.mp hp
 refine⟨⟨⟨?_,?_,fun p hp=> (h1 _ (pm p hp)).nm,fun p hp=> ((h1 _ (pm p hp)).pp p rfl).1,fun p hp=> ⟨((h1 _ (pm p hp)).pp p rfl).2.1,((h1 _ (pm p hp)).pp p rfl).2.2.1⟩⟩,fun w d nm r h=> (h1 _ h).np _ _ _ _ rfl,h3,fun x hx=> (h1 x hx).w,fun x hx=> (h1 x hx).nm⟩,fun d nm r h=> (h1 _ h).hp _ _ _ rfl,fun d nm r h=> (h1 _ h).ru _ _ _ rfl,h2.imp fun h=> h.1,fun x hx=> (h1 x hx).d0,fun x hx y hy e1 e2 ed en=> ?_⟩
 ·exact JL (List.length_filterMap_le _ _) h3
 ·unfold bb
  rw [LY,Kf,List.pairwise_filterMap]
  refine h2.imp fun{a b} h p hp r hr=> ?_
  cases a with
  | oth w d nm r=> simp [De.pp] at hp
  | pap a=>
   cases b with
   | oth w d nm r=> simp [De.pp] at hr
   | pap b=>
    simp only [De.pp,KL] at hp hr
    subst hp hr
    exact h.2.1 a b rfl rfl
 ·by_cases e:x=y
  ·exact e
  ·exact absurd ⟨ed,en⟩ ((un x hx y hy e).2.2 e1 e2)
end
end K16
open PySem L2
namespace K16
theorem Bj:bH (ah gX) ["_law_script","_law_menu","_law_most","_law_head","_law_far","_law_chain","_law_names_here","_law_kinds","_law_words","_law_turn","_law_deeds_here","_law_k","_law_deed_here","_law_day_here"] ["_law_one","_law_deed_here"] 1 [12] {kind:=Jt,names:=[ (Je ".0",PySem.NameKind.local),(Je "_law_one",PySem.NameKind.local),(Je "_law_quarrels",J7),(Je "_law_deed_here",Ju)],isGenerator:=false,isCoroutine:=false,more:=[]:JU}:=⟨rfl,by decide+kernel,by decide+kernel,by decide+kernel,rfl,by decide+kernel,by decide+kernel,by decide+kernel,rfl⟩
section
variable {P:Program} {w:World} {K:Jd} {mg:Str→Option Value} {base:Heap} {t:cJ}
theorem Ih{ns:List Str}(l u:Option Int):∃ms:List Str,cn (JF Jh ns) l u=ms.map Jh∧(∀m∈ms,m∈ns)∧ms.length≤ns.length∧ms.Sublist ns:=by
 unfold cn
 rw [←OQ,←Mh]
 exact⟨_,rfl,fun m hm=> NS (Lv hm),by rw [J8,Mo];omega,(LL _ _).trans (List.drop_sublist _ _)⟩
def Bk(me:List Str)(x:De):Prop:=∀d nm(pt:Pt),x= .oth (Jc "rule") d nm [pt.enc]→pt.wd∈me∧pt.wd ∉ lP
def oV(me:List Str)(x:De):Prop:=jY x∧Bk me x
def Ii:List PyData→(PyData→Prop)→Prop:=fun ds Q=> ∃(cs:List Int)(me:List Str)(mo:Int),ds=[eQ (cs.map .int),.list (me.map .str),.int mo]∧me≠[]∧me.length≤1000∧(∀m∈me,Jp m=true∧m≠Jc "paper")∧0 < mo∧mo≤18∧∀(xs:List De)(ns:List Str)(far:Int),jw xs→(∀x∈xs,Bk me x)→xs≠[]→ns.length=8→tS ns→Q (.tuple [.tuple (xs.map De.enc),.list (ns.map .str),.int far])
theorem Ij(T:Txt K mg t):aK P w K mg base CX0 5 t.a_x37 t.d_x37 ["_law_script","_law_menu","_law_most"] (bo K Ii):=by
 have G_x27:=lO (P:=P) (w:=w) (base:=base) T
 have G_x26:=A8 (P:=P) (w:=w) (base:=base) T
 have G_x25:=Bc (P:=P) (w:=w) (base:=base) T
 have G_x28:=HU (P:=P) (w:=w) (base:=base) T
 have G_x35:=Ic (P:=P) (w:=w) (base:=base) T
 have G_x36:=Ig (P:=P) (w:=w) (base:=base) T
 refine T.F_x37.okD fx (fun ds Q h=> ?_) (fun cdv A outer s H O ds Q E hr h=> ?_)
 ·obtain⟨cs,me,mo,rfl,_⟩:=h;rfl
 ·obtain⟨cs,me,mo,rfl,me0,mel,meo,mo0,mo1,q⟩:=h
  refine'⟨_,?body,?read⟩
  case body=>
   refine' au ?s1 ?r1
   case s1=> exact(bL (i:=3) fx.nd rfl (by walk_at "o") (PE.imp (ax G_x26 (hr.mono (by decide)) rfl T.m_x26 T.F_x26.kp T.b_x26 .nil av (aa (PE.imp (ax G_x25 (hr.mono (by decide)) rfl T.m_x25 T.F_x25.kp T.b_x25 .nil av (aa (dv 0) (aa ag aj))) aC) aj)) aC))
   case' r1=> refine' au ?s3 ?r3
   case s3=> exact(kE (i:=4) (j:=5) rfl fx.nd rfl rfl (by decide) rfl rfl (aa (PE.imp (ax G_x27 (hr.mono (by decide)) rfl T.m_x27 T.F_x27.kp T.b_x27 .nil av (aa (dv 3) (aa ag aj))) aC) (aa (eI (cz hr.units) cA (df (PE.imp (ax G_x27 (hr.mono (by decide)) rfl T.m_x27 T.F_x27.kp T.b_x27 .nil av (aa (dv 3) (aa ag aj))) aC)) (df ag) (ay _)) aj)) (by rfl))
   case' r3=> refine' au ?s5 ?r5
   case s5=> exact(bL (i:=6) fx.nd rfl (by walk_at "o") (PE.imp (ax G_x28 (hr.mono (by decide)) rfl T.m_x28 T.F_x28.kp T.b_x28 .nil av (aa (dv 3) (aa ag aj))) aC))
   case' r5=> refine' au ?s7 ?r7
   case s7=>
    refine' bL (i:=7) fx.nd rfl (by walk_at "o") ?e8 (hs:=nL)
    case' e8=> refine' fe ?f9
    case f9=> exact(mW (df (dv 6)) ji (eR (aM bw bF (df ag) (df (PE.imp (ax G_x27 (hr.mono (by decide)) rfl T.m_x27 T.F_x27.kp T.b_x27 .nil av (aa (dv 3) (aa ag aj))) aC)))))
   case' r7=> refine' au ?s11 ?r11
   case s11=>
    refine' pT (i:=8) fx.nd rfl (by walk_at "o") ?e12 (hs:=nK)
    case e12=> exact(FX (cM (aa aS aj)) (aM bw bF (df ag) (df (PE.imp (ax G_x27 (hr.mono (by decide)) rfl T.m_x27 T.F_x27.kp T.b_x27 .nil av (aa (dv 3) (aa ag aj))) aC))))
   case' r11=> refine' au ?s14 ?r14
   case s14=>
    refine' yq Kd rfl rfl T.n_range (aa (PE.imp (ax G_x27 (hr.mono (by decide)) rfl T.m_x27 T.F_x27.kp T.b_x27 .nil av (aa (dv 3) (aa (aq bN cj (df (fe (cM (aa (dv 2) (aa (aM eo cN (df ag) (df (dv 2))) aj))))) (df (PE.imp (eD pE rfl T.n_int mq (aW (df (eI (cz hr.units) cA (df (PE.imp (ax G_x27 (hr.mono (by decide)) rfl T.m_x27 T.F_x27.kp T.b_x27 .nil av (aa (dv 3) (aa ag aj))) aC)) (df ag) (ay _))) bp)) (bP pX)))) aj))) aC) aj) ?a15 aY ?b15
    case a15=> exact(aU (i:=9) fx.nd rfl (by walk_at "o"))
    case' b15=> refine' aA ?s16
    case' s16=> refine' hZ (i:=8) (pv 8) ?e17
    case' e17=> refine' aq bN cj (df (dv 1)) ?b18
    case b18=> exact(df (PE.imp (ax G_x27 (hr.mono (by decide)) rfl T.m_x27 T.F_x27.kp T.b_x27 .nil av (aa (dv 3) (aa (PE.imp (bX fk rfl T.n_len Kv (aW (df (dv 1)) bp)) (bP gE)) aj))) aC))
   case' r14=> refine' au ?s20 ?r20
   case s20=> exact(pT (i:=10) fx.nd rfl (by walk_at "o") (cM aj))
   case' r20=> refine' au ?s22 ?r22
   case s22=>
    refine' yq Kd rfl rfl T.n_range (aa (PE.imp (bX fk rfl T.n_len Kv (aW (dw 8) bp)) (bP gE)) aj) ?a23 aY ?b23
    case a23=> exact(aU (i:=11) fx.nd rfl (by walk_at "o"))
    case' b23=> refine' au ?s24 ?r24
    case s24=>
     refine' bL (i:=12) fx.nd rfl (by walk_at "o") ?e25 (hs:=il)
     case e25=> exact(PE.imp (ax G_x35 (hr.mono (by decide)) rfl T.m_x35 T.F_x35.kp T.b_x35 .nil av (aa (PE.imp (ax G_x26 (hr.mono (by decide)) rfl T.m_x26 T.F_x26.kp T.b_x26 .nil av (aa (PE.imp (ax G_x25 (hr.mono (by decide)) rfl T.m_x25 T.F_x25.kp T.b_x25 .nil av (aa (dv 0) (aa (aM bw bF (df ag) (df (dv 11))) aj))) aC) aj)) aC) (aa (aq bN cj (dw 8) (df (dv 11))) (aa (dv 6) (aa (dv 7) (aa (dv 4) aj)))))) aC)
    case' r24=> refine' au ?s27 ?r27
    case s27=>
     refine' bt ?c28 ?a28 br
     case c28=> exact(PW.pt (dn (gw (dv 5)) (dR (aI (cB hr) cC (df (aq bN cj (dw 8) (df (dv 11)))) (df aS) (ay _)))))
     case' a28=> refine' au ?s29 ?r29
     case s29=>
      refine' bL (i:=13) fx.nd rfl (by walk_at "o") ?e30 (hs:=nK)
      case e30=> exact(aM bw bF (df (aM eo cN (df (aq bN cj (df (fe (cM (aa ag (aa ag aj))))) (df (dv 4)))) (df (dv 11)))) (df (aM dZ cN (df (aq aE aF (df (dv 12)) (df ag))) (df ag))))
     case' r29=> refine' aA ?s32
     case' s32=> refine' bL (i:=12) fx.nd rfl (by walk_at "o") ?e33 (hs:=za)
     case' e33=> refine' bJ ?t34
     case' t34=> refine' aa aS ?w35
     case' w35=> refine' aa (dv 13) ?w37
     case' w37=> refine' aa ?u39 ?w39
     case u39=> exact(aq bN cj (df (dv 6)) (df (dv 11)))
     case' w39=> refine' aa ?u41 ?w41
     case u41=> exact(aq aE aF (df (dv 12)) (df ag))
     case' w41=> refine' aa ?u43 aj
     case u43=> exact(PE.imp (eD hW rfl T.n_tuple fL (aW (df (fe (mW (df (dv 6)) (eR (PE.imp (bX (pC rfl) rfl T.n_max Li (aW (df ag) (aW (df (aM cK bF (df (dv 11)) (df ag))) bp))) (bP kO))) (eR (dv 11))))) bp)) (bP ig))
    case' r27=> refine' aA ?s46
    case' s46=> refine' bt ?c47 ?a47 br
    case c47=> exact(ku (gw (PE.imp (bX (D3 rfl) rfl T.n_any D5 (aW (df (fe (gB rfl Bj (dw 10) aY cy (by decide) (fun _ _ _ _=> (aU (i:=0) Bj.nd rfl (by walk_at "o"))) (fun _ _ _ _=> jj) (fun _ _ _ _=> (PE.imp (ax G_x36 (hr.mono (by decide)) rfl T.m_x36 T.F_x36.kp T.b_x36 .nil av (aa (dv 0) (aa (dv 1) aj))) aC))))) bp)) (bP yx))))
    case' a47=> refine' aA ?s48
    case s48=> exact(Gd (i:=10) (pv 10) (PE.imp (ax G_x27 (hr.mono (by decide)) rfl T.m_x27 T.F_x27.kp T.b_x27 .nil av (aa (dv 3) (aa (aM bw bF (df (PE.imp (bX fk rfl T.n_len Kv (aW (dw 10) bp)) (bP gE))) (df ag)) aj))) aC) (dv 12))
   case' r22=> refine' aA ?s50
   case s50=> exact(aO (bJ (aa (PE.imp (eD hW rfl T.n_tuple fL (aW (dw 10) bp)) (bP ig)) (aa (dv 6) (aa (dv 4) aj)))))
  case read=>
  clear hr T G_x27 G_x26 G_x25 G_x28 G_x35 G_x36
  walk_at "rz"
  refine⟨cs,0,rfl,by decide,by decide,fun c=> ⟨c,rfl,2,rfl,by decide,by decide,fun far f0 f1=> ⟨8,rfl,by decide,by decide,fun ch c0 c1=> ⟨fq,rfl,fun ns nl nok nnd=> ⟨2,rfl,by decide,by decide,fun kk kk0 kk1=> ⟨_,rfl,_,rfl,5,rfl,by decide,by decide,fun pc p0 p1=> ⟨_,rfl,by omega,by omega,8,rfl,by decide,by decide,fun e e0 e1=> ⟨fq,?_⟩⟩⟩⟩⟩⟩⟩⟩
  have hz:∃z:Int,atI [Jg mo,Jg (2*mo)] (if (Jg e).eqv (Jg 3)=true then 1 else 0)=some (.int z)∧0 < z∧z≤36:=by
   split
   ·exact⟨_,cW,by omega,by omega⟩
   ·exact⟨_,dU,by omega,by omega⟩
  obtain⟨z,ez,z0,z1⟩:=hz
  refine⟨_,ez,z,rfl,z0,by omega,fun j j0 j1=> ⟨j,rfl,by omega,by omega,?_⟩⟩
  obtain⟨ks,ek,dr⟩:∃ks:List Str,cn (JF Jh ns) none (some (2+kk))=ks.map Jh∧vW ns ks far:=by
   refine⟨ns.take (2+kk).toNat,by rw [jN (by omega) (by simp;omega),←Mh],nl,nok,nnd,by rw [J8];omega,by rw [J8];omega,fun z hz=> nok z (Lv hz),f0,by omega⟩
  rw [ek]
  have er:(Jx (1+pc).toNat [Jh (Jc "paper")]).flatten=(Jx (1+pc).toNat (Jc "paper")).map Jh:=by
   rw [List.flatten_replicate_singleton,List.map_replicate]
  rw [er]
  generalize (Jg ch).eqv (Jg 5)=cb
  have n0:1≤(1+pc).toNat:=by omega
  have n1:(1+pc).toNat≤5:=by omega
  generalize (1+pc).toNat=n at n0 n1⊢
  refine⟨fun i δ=> ∃(ms:List Str)(o9:Option Sl),ms.length=i∧(∀m∈ms,m∈me)∧δ=[some (Sl.v (eQ (JF Jg cs))),some (Sl.v (J0 (JF Jh me))),some (Sl.v (Jg mo)),some (Sl.v fm),some (Sl.v (.int far)),some (Sl.v (.bool cb)),some (Sl.v (.list (ns.map .str))),some (Sl.v (.list (ks.map .str))),some (Sl.o ((Jx n (Jc "paper")++ms).map Jh)),o9,none,none,none,none],⟨[],_,rfl,by simp,by rw [JX]⟩,?_,?_⟩
  ·rintro i x δ hx ⟨ms,o9,hl,hm,rfl⟩
   obtain⟨hi,rfl⟩:=jO hx
   walk_at "rz"
   have ml:0 < me.length:=NW.mpr me0
   refine⟨_,rfl,by rw [Jf];omega,by rw [Jf];omega,fun v v0 v1=> ⟨_,rfl,?_⟩⟩
   rw [Jf] at v1
   obtain⟨m,hm1,em⟩:=iV v0 v1
   refine⟨_,em,by rw [Jf,Kq,K2];omega,ms++[m],by simp [hl],fun z hz=> ?_,?_⟩
   ·rcases JM.mp hz with h | h
    ·exact hm z h
    ·rw [JV] at h;rw [h];exact hm1
   ·refine⟨?_,_,rfl⟩
    rw [←MY,J6 (l₂:=[m])];rfl
  ·rintro δ ⟨ms,o9,hl,hm,rfl⟩
   rw [p7] at hl
   have wl:(Jx n (Jc "paper")++ms).length≤41:=by rw [Kq,K2];omega
   have w0:1≤(Jx n (Jc "paper")++ms).length:=by rw [Kq,K2];omega
   have wok:∀w∈Jx n (Jc "paper")++ms,Jp w=true:=fun w hw=> by
    rcases JM.mp hw with h | h
    ·rw [(Ob.mp h).2];decide+kernel
    ·exact(meo w (hm w h)).1
   have wm:∀w∈Jx n (Jc "paper")++ms,w=Jc "paper"∨w∈me:=fun w hw=> by
    rcases JM.mp hw with h | h
    ·exact .inl (Ob.mp h).2
    ·exact .inr (hm w h)
   have wp:∀k:Nat,(Jx n (Jc "paper")++ms)[k]?=some (Jc "paper")→k < 5:=fun k hk=> by
    by_cases h:k < n
    ·omega
    ·rw [KZ (by rw [K2];omega)] at hk
     exact absurd rfl (meo _ (hm _ (JO hk))).2
   generalize Jx n (Jc "paper")++ms=ws at wl w0 wok wp wm⊢
   walk_at "rz"
   rw [Jf]
   refine⟨by omega,by omega,?_⟩
   refine⟨fun i δ=> ∃(xs:List De)(o11 o12 o13:Option Sl),(∀x∈xs,oV me x)∧xs.Pairwise fC∧xs.length≤i∧(0 < i→xs≠[])∧δ=[some (Sl.v (eQ (JF Jg cs))),some (Sl.v (J0 (JF Jh me))),some (Sl.v (Jg mo)),some (Sl.v fm),some (Sl.v (.int far)),some (Sl.v (.bool cb)),some (Sl.v (.list (ns.map .str))),some (Sl.v (.list (ks.map .str))),some (Sl.o (ws.map Jh)),o9,some (Sl.o (xs.map De.enc)),o11,o12,o13],⟨[],_,_,_,by simp,.nil,by simp,by simp,rfl⟩,?_,?_⟩
   ·rintro i x δ hx ⟨xs,o11,o12,o13,xg,xq,xl,x0,rfl⟩
    obtain⟨hi,rfl⟩:=jO hx
    walk_at "rz"
    have hi:i < ws.length:=by omega
    have hw:ws[i]?=some ws[i]:=Jr.mpr ⟨hi,rfl⟩
    have aw:atI (JF Jh ws) (0+(i:Int))=some (.str ws[i]):=by rw [OY];exact fJ (by simp [hi])
    have wo:=wok _ (KH hi)
    generalize ws[i]=wi at hw aw wo
    have tail:∀(y:De)(o:Option Sl),oV me y→((JF De.enc xs).length≤16777216∧eZ (jh 0) ic (jg Bi (gv (dH 0) (gv (dH 1) jd))) [none,some (Sl.v y.enc)] (JF De.enc xs) fun ds=> ∃bs,ds=JF Lf bs∧
      if bs.any id=false then uN [fm,Jg (((JF De.enc xs).length:Int)+1)] fun a=> ∃n:Nat,a=Jg (n:Int)∧n≤(JF De.enc xs).length∧(JF De.enc xs).length < 1000000∧∃xs_1:List De,(∀x∈xs_1,oV me x)∧OS fC xs_1∧xs_1.length≤i+1∧(0 < i+1→¬xs_1=[])∧eT (JF De.enc xs) n y.enc=JF De.enc xs_1∧∃x,o=x
      else ∃xs_1:List De,(∀x∈xs_1,oV me x)∧OS fC xs_1∧xs_1.length≤i+1∧(0 < i+1→¬xs_1=[])∧JF De.enc xs=JF De.enc xs_1∧∃x,o=x):=fun y o gy=> by
     refine⟨by rw [Jf];omega,fun k acc=> ∃bs:List Bool,acc=bs.map Lf∧bs.length=k∧(bs.any id=false→∀x∈xs.take k,fC x y),⟨[],rfl,rfl,by simp⟩,?_,?_⟩
     ·rintro k x acc hk ⟨bs,rfl,bl,bq⟩
      rw [JB] at hk
      cases hk':xs[k]? with
      | none=> rw [hk'] at hk;cases hk
      | some x=>
       rw [hk'] at hk;cases hk
       walk_at "rz"
       refine⟨x,y,rfl,(xg x (JO hk')).1,gy.1,fun b hb=> ⟨bs++[b],by rw [J6];rfl,by simp [bl],fun h x' hx'=> ?_⟩⟩
       rw [List.any_append,Bool.or_eq_false_iff] at h
       rw [Kk,hk'] at hx'
       rcases JM.mp hx' with z | z
       ·exact bq h.1 x' z
       ·have:x'=x:=by simpa using z
        rw [this];exact hb (by simpa using h.2)
     ·rintro acc ⟨bs,rfl,bl,bq⟩
      rw [Jf] at bl bq⊢
      rw [JQ (Jm _)] at bq
      refine⟨bs,rfl,?_⟩
      split
      ·rename_i h
       refine⟨_,rfl,by omega,by omega,fun v v0 v1=> ?_⟩
       obtain⟨n,rfl⟩:=KR v0
       refine⟨n,rfl,by omega,by omega,eT xs n y,fun x hx=> ?_,?_,by rw [vt];omega,fun _ e=> ?_,(FY _ _ _ _).symm,_,rfl⟩
       ·rcases Jy.mp ((vq xs n y).mem_iff.mp hx) with e | e
        ·rw [e];exact gy
        ·exact xg x e
       ·refine(List.Perm.pairwise_iff (fun h=> fC.symm h) (vq xs n y)).mpr (Kb.mpr ⟨fun x hx=> (bq h x hx).symm,xq⟩)
       ·have:=congrArg MH e
        rw [vt] at this;simp at this
      ·rename_i h
       refine⟨xs,xg,xq,by omega,fun _ e=> ?_,rfl,_,rfl⟩
       rw [e] at bl
       have:bs=[]:=List.length_eq_zero_iff.mp bl
       rw [this] at h;exact h rfl
    refine⟨cs,_,rfl,by omega,by omega,fun c=> ⟨c,rfl,_,aw,wi,ns,ks,far,rfl,wo,dr,fun y gy yp yr=> ?_⟩⟩
    have gm:oV me y:=⟨gy,fun d nm pt e=> by
     obtain⟨a,b⟩:=yr d nm pt e
     rw [a]
     refine⟨?_,b⟩
     rcases wm wi (JO hw) with h | h
     ·rw [h] at b;exact absurd JY b
     ·exact h⟩
    split
    ·refine⟨_,aw,rfl,?_⟩
     rw [gF]
     split
     ·rename_i hp
      have hp:=eq_of_beq hp
      obtain⟨p,rfl⟩:=yp hp
      have i5:=wp i (by rw [hw,hp])
      have hf:∃z:Int,atI [Jg 5,Jg 9000] far=some (.int z)∧0≤z∧z≤9000:=by
       have:far=0∨far=1:=by omega
       rcases this with h | h <;> rw [h]
       ·exact⟨5,rfl,by decide,by decide⟩
       ·exact⟨9000,rfl,by decide,by decide⟩
      obtain⟨z,ez,z0,z1⟩:=hf
      obtain⟨nm,hn,en⟩:=iV (ss:=ns) (i:=0+(i:Int)) (by omega) (by omega)
      have pk:=(gy.pp p rfl).1
      refine⟨_,ez,_,rfl,.inr ⟨by omega,by omega⟩,_,rfl,_,cW,_,rfl,_,en,_,rfl,_,ij,?_⟩
      obtain⟨ms,em,hm,ml,msub⟩:=Ih (ns:=ns) (some (if 0+(i:Int) - 1 > 0 then 0+(i:Int) - 1 else 0)) (some (0+(i:Int)))
      rw [em]
      have nok':=(nok nm hn).ok
      have msok:∀m∈ms,Jp m=true:=fun m h=> (nok m (hm m h)).ok
      have zi:0≤z*(0+(i:Int))∧z*(0+(i:Int))≤36000:=by
       have:i=0∨i=1∨i=2∨i=3∨i=4:=by omega
       rcases this with h | h | h | h | h <;> subst h <;> simp <;> omega
      refine tail (.pap ⟨z*(0+(i:Int))+p.d % 5,nm,p.kd,ms⟩) _ ⟨⟨by show Jp (Jc "paper")=true;decide+kernel,nok',⟨?_,?_⟩,?_,?_,(fun _ _ _ _ e=> by cases e),(fun _ _ _ e=> by cases e),(fun _ _ _ e=> by cases e)⟩,fun _ _ _ e=> by cases e⟩
      ·show 0≤z*(0+(i:Int))+p.d % 5
       omega
      ·show z*(0+(i:Int))+p.d % 5 < 100000
       omega
      ·exact cY (aZ (bQ (by decide+kernel)) (aZ gH (aZ (bQ nok') (aZ (bQ pk) (aZ ((cY (n:=1) (u5 msok)).mono (by decide)) dW)))))
      ·intro p' e;cases e;exact⟨pk,msok,by show ms.length≤50;omega,nnd.sublist msub⟩
     ·exact tail y _ gm
    ·exact tail y _ gm
   ·rintro δ ⟨xs,o11,o12,o13,xg,xq,xl,x0,rfl⟩
    rw [p7] at xl x0
    walk_at "rz"
    exact q xs ns far ⟨fun x hx=> (xg x hx).1,xq,by omega⟩ (fun x hx=> (xg x hx).2) (x0 (by omega)) nl nok
end
end K16
open PySem L2
namespace K16
open Day
section
variable {P:Program} {w:World} {K:Jd} {mg:Str→Option Value} {base:Heap} {t:cJ}
def v5:List PyData→(PyData→Prop)→Prop:=fun ds Q=> ∃(d k:Int)(u:Str),ds=[.int d,.int k,.str u]∧g5 u∧0≤d∧Q (.int (jv d k u))
theorem Ik(k:Int)(h:0≤k):bD (2000+k)≤366*k:=by
 unfold bD lb
 omega
theorem Il(T:Txt K mg t):aK P w K mg base CX0 3 t.a_x32 t.d_x32 ["_law_day_here","_law_many","_law_unit"] (bo K v5):=by
 have G_x30:=Be (P:=P) (w:=w) (base:=base) T
 have G_x29:=vT (P:=P) (w:=w) (base:=base) T
 have G_x31:=Bf (P:=P) (w:=w) (base:=base) T
 refine T.F_x32.okD jU (fun ds Q h=> ?_) (fun cdv A outer s H O ds Q E hr h=> ?_)
 ·obtain⟨d,k,u,rfl,_⟩:=h;rfl
 ·obtain⟨d,k,u,rfl,hu,d0,q⟩:=h
  refine'⟨_,?body,?read⟩
  case body=>
   refine' au ?s1 ?r1
   case s1=>
    refine' bt ?c2 ?a2 br
    case c2=> exact(aI (cB hr) cC (df (dv 2)) (df aS) (ay _))
    case' a2=> refine' aA ?s3
    case s3=> exact(aO (aM bw bF (df (dv 0)) (df (dv 1))))
   case' r1=> refine' au ?s5 ?r5
   case s5=> exact(bL (i:=3) jU.nd rfl (by walk_at "o") (aM bw bF (df ag) (df (aM fG cN (df (dv 0)) (df ag)))))
   case' r5=> refine' au ?s7 ?r7
   case s7=>
    refine' zC Kd ?c8 ?b8
    case c8=> exact(aI fH dJ (df (PE.imp (ax G_x30 (hr.mono (by decide)) rfl T.m_x30 T.F_x30.kp T.b_x30 .nil av (aa (aM bw bF (df (dv 3)) (df ag)) aj)) aC)) (df (dv 0)) (ay _))
    case' b8=> refine' aA ?s9
    case s9=> exact(bL (i:=3) jU.nd rfl (by walk_at "o") (aM bw bF (df (dv 3)) (df ag)))
   case' r7=> refine' au ?s11 ?r11
   case s11=> exact(kE (i:=4) (j:=5) rfl jU.nd rfl rfl (by decide) rfl rfl (aa ag (aa (aM cK bF (df (dv 0)) (df (PE.imp (ax G_x30 (hr.mono (by decide)) rfl T.m_x30 T.F_x30.kp T.b_x30 .nil av (aa (dv 3) aj)) aC))) aj)) (by rfl))
   case' r11=> refine' au ?s13 ?r13
   case s13=>
    refine' zC Kd ?c14 ?b14
    case c14=> exact(aI uu dJ (df (dv 5)) (df (PE.imp (ax G_x29 (hr.mono (by decide)) rfl T.m_x29 T.F_x29.kp T.b_x29 .nil av (aa (dv 3) (aa (dv 4) aj))) aC)) (ay _))
    case' b14=> refine' aA ?s15
    case s15=> exact(kE (i:=5) (j:=4) rfl jU.nd rfl rfl (by decide) rfl rfl (aa (aM cK bF (df (dv 5)) (df (PE.imp (ax G_x29 (hr.mono (by decide)) rfl T.m_x29 T.F_x29.kp T.b_x29 .nil av (aa (dv 3) (aa (dv 4) aj))) aC))) (aa (aM bw bF (df (dv 4)) (df ag)) aj)) (by rfl))
   case' r13=> refine' au ?s17 ?r17
   case s17=>
    refine' bL (i:=6) jU.nd rfl (by walk_at "o") ?e18 (hs:=nK)
    case e18=> exact(aM bw bF (df (aM cK bF (df (dv 4)) (df ag))) (df (aM eo cN (df (dv 1)) (df (aq bN cj (df (fe (cM (aa ag (aa ag aj))))) (df (PE.imp (eD pE rfl T.n_int mq (aW (df (eI (cB hr) cC (df (dv 2)) (df aS) (ay _))) bp)) (bP pX))))))))
   case' r17=> refine' au ?s20 ?r20
   case s20=> exact(kE (i:=3) (j:=4) rfl jU.nd rfl rfl (by decide) rfl rfl (aa (aM bw bF (df (dv 3)) (df (aM fG cN (df (dv 6)) (df ag)))) (aa (aM bw bF (df (aM dZ cN (df (dv 6)) (df ag))) (df ag)) aj)) (by rfl))
   case' r20=> refine' aA ?s22
   case' s22=> refine' aO ?e23
   case e23=> exact(PE.imp (ax G_x31 (hr.mono (by decide)) rfl T.m_x31 T.F_x31.kp T.b_x31 .nil av (aa (dv 3) (aa (dv 4) (aa (PE.imp (bX (uw rfl) rfl T.n_min LQ (aW (df (aM bw bF (df (dv 5)) (df ag))) (aW (df (PE.imp (ax G_x29 (hr.mono (by decide)) rfl T.m_x29 T.F_x29.kp T.b_x29 .nil av (aa (dv 3) (aa (dv 4) aj))) aC)) bp))) (bP kO)) aj)))) aC)
  case read=>
  clear hr T G_x30 G_x29 G_x31
  walk_at "rz"
  have le1:=fun{r:Int} (h:iS d k u r)=> AX h
  by_cases hd:u=Jc "days"
  ·rw [if_pos (by rw [hd];exact beq_self_eq_true _),le1 (.inl ⟨hd,rfl⟩)];exact q
  ·rw [bS hd,if_neg Jk]
   have y0:=Ik (d / 366) (by omega)
   refine⟨fun m δ=> ∃y:Int,2000≤y∧bD y≤d∧m=(d - bD y).toNat∧δ=[some (Sl.v (Jg d)),some (Sl.v (Jg k)),some (Sl.v (Jh u)),some (Sl.v (Jg y)),none,none,none],⟨_,_,by omega,by omega,rfl,rfl⟩,?_⟩
   rintro m δ ⟨y,hy,hyd,rfl,rfl⟩
   have ys:=vk y
   have l01:=vj y
   walk_at "rz"
   refine⟨_,rfl,_,rfl,?_⟩
   by_cases hs:bD (y+1)≤d
   ·rw [if_pos hs]
    exact⟨_,by omega,y+1,by omega,hs,rfl,rfl⟩
   ·rw [if_neg hs]
    refine⟨_,rfl,_,rfl,?_⟩
    refine⟨fun m δ=> ∃mo:Int,1≤mo∧mo≤12∧aN y mo≤d - bD y∧m=(12 - mo).toNat∧δ=[some (Sl.v (Jg d)),some (Sl.v (Jg k)),some (Sl.v (Jh u)),some (Sl.v (Jg y)),some (Sl.v (Jg mo)),some (Sl.v (Jg (d - bD y - aN y mo))),none],⟨_,1,by decide,by decide,by rw [oA];omega,rfl,by rw [oA,Int.sub_zero]⟩,?_⟩
    rintro m δ ⟨mo,m1,m12,hb,rfl,rfl⟩
    have ba:=tu (y:=y) m1 m12
    walk_at "rz"
    refine⟨y,mo,rfl,m1,m12,_,rfl,?_⟩
    by_cases hm:aX y mo≤d - bD y - aN y mo
    ·rw [if_pos hm]
     have lt12:mo < 12:=by
      by_cases z:mo < 12
      ·exact z
      ·have e:mo=12:=by omega
       subst e
       have:=(tq y);have:=oz y;omega
     refine⟨y,mo,rfl,m1,m12,_,rfl,_,?_,mo+1,by omega,by omega,?_,rfl,rfl,?_⟩
     ·omega
     ·rw [dB m1];omega
     ·rw [dB m1];omega
    ·rw [if_neg hm]
     have D:ip d y mo (d - bD y - aN y mo+1):=⟨m1,m12,by omega,by omega,by unfold fw;omega⟩
     have fin:∀x:Int,iS d k u (lu y mo (d - bD y - aN y mo+1) (k*x))→Bd [Jg (y+(mo - 1+k*x)/ 12),Jg ((mo - 1+k*x)% 12+1)] fun d_2=> ∃x_1,d_2=Jg x_1∧vU [Jg (y+(mo - 1+k*x)/ 12),Jg ((mo - 1+k*x)% 12+1),Jg (if x_1 < d - bD y - aN y mo+1 then x_1 else d - bD y - aN y mo+1)] Q:=fun x hx=> by
      generalize hkx:k*x=kx at hx⊢
      have e1:(y*12+mo - 1+kx)/ 12=y+(mo - 1+kx)/ 12:=by omega
      have e2:(y*12+mo - 1+kx)% 12=(mo - 1+kx)% 12:=by omega
      refine⟨_,_,rfl,by omega,by omega,_,rfl,_,_,_,rfl,by omega,by omega,?_⟩
      have e3:=le1 hx
      unfold lu at e3
      rw [e1,e2] at e3
      rw [uG,e3];exact q
     have z:u=Jc "months"∨u=Jc "years":=by
      rcases hu with z | z | z
      ·exact absurd z hd
      ·exact .inl z
      ·exact .inr z
     rcases z with z | z
     ·rw [if_neg (by rw [z];decide+kernel)]
      exact⟨_,dU,_,rfl,.inr ⟨by decide,by decide⟩,fin 1 (.inr (.inl ⟨z,y,mo,_,D,by rw [O6]⟩))⟩
     ·rw [if_pos (by rw [z];decide+kernel)]
      exact⟨_,cW,_,rfl,.inr ⟨by decide,by decide⟩,fin 12 (.inr (.inr ⟨z,y,mo,_,D,rfl⟩))⟩
end
end K16
open PySem L2
namespace K16
theorem Bl:bH (ah gY) ["_law_deeds_here","_law_day_here","_law_word","_law_ending","_law_known","_law_deed_here"] ["_law_name","_law_known","_law_word"] 1 [4,2] {kind:=Jt,names:=[ (Je ".0",PySem.NameKind.local),(Je "_law_name",PySem.NameKind.local),(Je "_law_known",Ju),(Je "_law_word",Ju)],isGenerator:=false,isCoroutine:=false,more:=[]:JU}:=⟨rfl,by decide+kernel,by decide+kernel,by decide+kernel,rfl,by decide+kernel,by decide+kernel,by decide+kernel,rfl⟩
section
variable {P:Program} {w:World} {K:Jd} {mg:Str→Option Value} {base:Heap} {t:cJ}
def oW(z:Int×Str×Pt):PyData:= .tuple [.str (Jc "rule"),.int z.1,.str z.2.1,z.2.2.enc]
def Im:List PyData→(PyData→Prop)→Prop:=fun ds Q=> ∃(xs:List De)(n:Int),ds=[.tuple (xs.map De.enc),.int n,.str (Jc "rule"),.str (Jc "end")]∧dD xs∧∀L:List (Int×Str×Pt),L.map (·.2)=bR xs n→(bR xs n).length≤41→fA xs n (bR xs n)→Q (.list (L.map oW))
theorem Bm:∀(R:List Rw)(M:List (Str×Pt)),(∀x∈R,x.w=Jc "rule"∧∃p,x.r=[p])→R.map (fun x=> JG [.str x.nm,x.r.headD .none])=M.map d8→∃L:List (Int×Str×Pt),L.map (·.2)=M∧R.map Rw.enc=L.map oW
 | [],[],_,_=> ⟨[],rfl,rfl⟩
 | [],_::_,_,h=> by cases h
 | _::_,[],_,h=> by cases h
 | x::R,m::M,h,e=> by
  simp only [Jj,J3] at e
  obtain⟨L,h1,h2⟩:=Bm R M (fun y hy=> h y (by simp [hy])) e.2
  obtain⟨hw,p,hp⟩:=h x (by simp)
  refine⟨(x.n,m)::L,by simp [h1],?_⟩
  have e1:=e.1
  rw [hp] at e1
  simp only [d8,List.headD_cons,KQ,J3,KP,and_true] at e1
  simp only [Jj,h2,J3,and_true]
  unfold Rw.enc oW
  rw [hw,hp,e1.1,e1.2]
def lQ(L:Ls)(nm:Str):Bool:=match cI L nm with
 | some z=> z.w==Jc "rule"
 | none=> false
theorem Bn(L:Ls):∀ns:List Str,(∀a∈ns,a∈L.map (·.1))→(ns.filter (lQ L)).map (fun nm=> ((cI L nm).map Rw.enc).getD .none)=((ns.filterMap (cI L)).filter fun x=> x.w==Jc "rule").map Rw.enc
 | [],_=> rfl
 | a::ns,h=> by
  obtain⟨z,hz⟩:=n5 (h a (by simp))
  have ih:=Bn L ns fun b hb=> h b (by simp [hb])
  rw [Ki,KW,hz]
  simp only [Ki]
  have e:lQ L a=(z.w==Jc "rule"):=by unfold lQ;rw [hz]
  rw [e]
  by_cases hr:(z.w==Jc "rule")=true
  ·rw [if_pos hr,if_pos hr,Jj,Jj,ih,hz];rfl
  ·rw [if_neg hr,if_neg hr,ih]
theorem Io(T:Txt K mg t):aK P w K mg base CX0 1 t.a_x39 t.d_x39 ["_law_deeds_here","_law_day_here","_law_word","_law_ending"] (bo K Im):=by
 refine T.F_x39.okD vF (fun ds Q h=> ?_) (fun cdv A outer s H O ds Q E hr h=> ?_)
 ·obtain⟨xs,n,rfl,_⟩:=h;rfl
 ·obtain⟨xs,n,rfl,g,q⟩:=h
  refine'⟨_,?body,?read⟩
  case body=>
   refine' au ?s1 ?r1
   case s1=> exact(kZ (i:=4) vF.nd rfl (by walk_at "o") sL)
   case' r1=> refine' au ?s3 ?r3
   case s3=>
    refine' uL Kd rfl (dv 0) ?a4 aY ?b4
    case a4=> exact(aU (i:=5) vF.nd rfl (by walk_at "o"))
    case' b4=> refine' aA ?s5
    case' s5=> refine' bt ?c6 ?a6 br
    case c6=> exact(PW.pt (dn (aI (uU hr) nB (df (aq aE aF (df (dv 5)) (df ag))) (df (bJ (aa (dv 2) (aa (dv 3) aj)))) rfl) (dR (aI fH dJ (df (aq aE aF (df (dv 5)) (df ag))) (df (dv 1)) (ay _)))))
    case' a6=> refine' aA ?s7
    case' s7=> refine' bt ?c8 ?a8 br
    case c8=> exact(PW.pt (jf (zf (i:=4) hr.units (pv 4) (aq aE aF (df (dv 5)) (df ag))) (je (aI pz dJ (df (aq aE aF (df (nR (i:=4) hr.units (pv 4) (aq aE aF (df (dv 5)) (df ag)) (fun _ _=> rfl))) (df ag))) (df (aq aE aF (df (dv 5)) (df ag))) (ay _)))))
    case' a8=> refine' aA ?s9
    case s9=> exact(sM (i:=4) hr.units (pv 4) (aq aE aF (df (dv 5)) (df ag)) (dv 5))
   case' r3=> refine' aA ?s11
   case' s11=> refine' aO ?e12
   case' e12=> refine' fe ?f13
   case f13=> exact(gB rfl Bl (df (fe (ze (i:=4) rfl rfl T.n_sorted Kz (pv 4)))) aY cy (by decide) (fun _ _ _ _=> (aU (i:=0) Bl.nd rfl (by walk_at "o"))) (fun _ _ _ _=> (dj (aI (cz hr.units) cA (df (aq aE aF (df (nR (i:=1) hr.units (pv 1) (dv 0) (fun _ _=> rfl))) (df ag))) (df (dv 2)) (ay _)))) (fun _ _ _ _=> (nR (i:=1) hr.units (pv 1) (dv 0) (fun _ _=> rfl))))
  case read=>
  clear hr T
  walk_at "rz"
  rw [←AM]
  have wok:∀x∈xs.map De.rw,Jp x.w=true:=fun x hx=> by
   obtain⟨y,hy,rfl⟩:=Jw.mp hx
   have:=g.gx.w y hy
   cases y <;> exact this
  have nok:∀x∈xs.map De.rw,Jp x.nm=true:=fun x hx=> by
   obtain⟨y,hy,rfl⟩:=Jw.mp hx
   have:=g.gx.nm y hy
   cases y <;> exact this
  have h64:(xs.map De.rw).length≤41:=by rw [Jf];exact g.gx.ln
  have q:∀res,n4 d7 n (xs.map De.rw) res→Q (.list ((res.filter fun x=> x.w==Jc "rule").map Rw.enc)):=fun res hres=> by
   obtain⟨M,h1,h2⟩:=AS g hres
   have e:=AQ h1
   obtain⟨L,l1,l2⟩:=Bm (res.filter fun x=> x.w==Jc "rule") M (fun x hx=> by
    obtain⟨hx1,hx2⟩:=JK.mp hx
    exact⟨eq_of_beq hx2,(AU g (fun w d nm r h=> g.gx.w _ h)).ru x (hres.it x hx1).1 (eq_of_beq hx2)⟩) h2
   rw [l2]
   refine q L (l1.trans e) ?_ (by rw [←e];exact h1)
   have hl:(gc res).length≤res.length:=by unfold gc;rw [Jf];exact J4 _ _
   have:=hres.le
   rw [Jf] at this
   rw [h2,Jf,e] at hl
   have:=g.gx.ln
   omega
  generalize xs.map De.rw=ys at wok nok h64 q⊢
  clear g
  refine⟨fun i δ=> ∃L o5,dN d7 n (ys.take i) L∧δ=[some (Sl.v (.tuple (ys.map Rw.enc))),some (Sl.v (.int n)),some (Sl.v (.str (Jc "rule"))),some (Sl.v (.str (Jc "end"))),some (Sl.k (d6 L)),o5],⟨[],_,dN.nil _ _,rfl⟩,?_,?_⟩
  ·rintro i x δ hx ⟨L,o5,hL,rfl⟩
   rw [JB] at hx
   cases hx':ys[i]? with
   | none=> rw [hx'] at hx;cases hx
   | some y=>
    rw [hx'] at hx;cases hx
    have hy:y∈ys:=JO hx'
    have tk:ys.take (i+1)=ys.take i++[y]:=by rw [Kk,hx'];rfl
    simp only [Rw.enc]
    walk_at "rz"
    have hle:L.length < 64:=by have:=hL.le;rw [J8] at this;omega
    have hk:(d6 L).length < 16777216:=by unfold d6;rw [Jf];omega
    have en:JG (Jh y.w::Jg y.n::Jh y.nm::y.r)=y.enc:=rfl
    refine⟨cO.mpr (wok y hy),by decide+kernel,?_⟩
    have ein:(Jc "rule"==y.w || Jc "end"==y.w)=decide (y.w∈d7):=by
     rw [vR,vR,←Bool.decide_or]
     refine decide_eq_decide.mpr ?_
     unfold d7
     rw [Jy,Jy]
     exact⟨fun h=> h.imp Eq.symm fun h=> .inl h.symm,fun h=> h.imp Eq.symm fun h=> h.elim Eq.symm fun h=> absurd h Ks⟩
    rw [ein]
    by_cases hin:y.w∈d7
    ·rw [if_pos (decide_eq_true hin)]
     by_cases hn:y.n≤n
     ·rw [if_pos hn,lh,en]
      cases hl:cI L y.nm with
      | none=>
       rw [if_pos (by rfl)]
       exact⟨hk,_,by rw [tk];exact hL.put ⟨hin,hn⟩ (fun z e=> by rw [hl] at e;cases e),sT L y.nm y,_,rfl⟩
      | some z=>
       rw [if_neg (by simp)]
       refine⟨_,rfl,_,rfl,_,cW,_,rfl,?_⟩
       split
       ·rename_i hlt
        exact⟨hk,_,by rw [tk];exact hL.put ⟨hin,hn⟩ (fun z' e=> by rw [hl] at e;cases e;exact hlt),sT L y.nm y,_,rfl⟩
       ·rename_i hlt
        exact⟨L,by rw [tk];exact hL.keep hl hlt,rfl,_,rfl⟩
     ·rw [if_neg hn];exact⟨L,by rw [tk];exact hL.skip (fun z=> hn z.2),rfl,_,rfl⟩
    ·rw [if_neg (by simpa using hin)];exact⟨L,by rw [tk];exact hL.skip (fun z=> hin z.1),rfl,_,rfl⟩
  ·rintro δ ⟨L,o5,hL,rfl⟩
   walk_at "rz"
   rw [Jf,JQ (Jm _)] at hL
   have hle:L.length < 64:=by have:=hL.le;omega
   have sp:=fc (L.map (·.1))
   refine⟨L.map (·.1),by unfold d6;rw [JH,JH];rfl,by rw [Jf];exact hle,by rw [Jf,sp.length_eq,Jf];omega,?_⟩
   refine dh (lQ L) (fun nm=> ((cI L nm).map Rw.enc).getD .none) (fun nm hnm R S h=> ?_) ?_
   ·obtain⟨z,hz⟩:=n5 (sp.mem_iff.mp hnm)
    walk_at "rz"
    refine⟨z.enc,by rw [lh,hz];rfl,_,rfl,_,dU,?_⟩
    obtain⟨p,hp,_,e⟩:=nZ hz
    have zy:z∈ys:=by rw [←e];exact(hL.it p hp).2.1
    have e2:lQ L nm=(z.w==Jc "rule"):=by unfold lQ;rw [hz]
    rw [e2,hz] at h
    refine⟨cO.mpr (wok z zy),by decide+kernel,?_⟩
    rw [gF]
    split
    ·rename_i h1
     rw [if_pos h1] at h
     exact⟨z.enc,by rw [lh,hz];rfl,h⟩
    ·rename_i h1
     rw [if_neg h1] at h
     exact h
   ·rw [Bn L _ fun a ha=> sp.mem_iff.mp ha]
    exact q _ hL.res
end
end K16
open PySem L2
namespace K16
theorem Bo:bH (ah fY) ["_law_deeds_here","_law_parts_here","_law_name","_law_day_here","_law_coming","_law_days"] ["_law_deed_here","_law_name","_law_parts_here"] 1 [2,1] {kind:=Jt,names:=[ (Je ".0",PySem.NameKind.local),(Je "_law_deed_here",PySem.NameKind.local),(Je "_law_name",Ju),(Je "_law_parts_here",Ju)],isGenerator:=false,isCoroutine:=false,more:=[]:JU}:=⟨rfl,by decide+kernel,by decide+kernel,by decide+kernel,rfl,by decide+kernel,by decide+kernel,by decide+kernel,rfl⟩
theorem Bp:bH (ah fY) ["_law_deeds_here","_law_parts_here","_law_name","_law_day_here","_law_coming","_law_days"] ["_law_one","_law_day_here"] 1 [3] {kind:=Jt,names:=[ (Je ".0",PySem.NameKind.local),(Je "_law_one",PySem.NameKind.local),(Je "_law_day_here",Ju)],isGenerator:=false,isCoroutine:=false,more:=[]:JU}:=⟨rfl,by decide+kernel,by decide+kernel,by decide+kernel,rfl,by decide+kernel,by decide+kernel,by decide+kernel,rfl⟩
section
def lR(x:Int×Str):List (Int×Str)→List (Int×Str)
 | []=> [x]
 | y::l=> if aL x y=true then x::y::l else y::lR x l
theorem v7(x:Int×Str):∀l,(lR x l).Perm (x::l)
 | []=> .refl _
 | y::l=> by
  unfold lR
  split
  ·exact .refl _
  ·exact((v7 x l).cons y).trans (.swap x y l)
theorem Bq{x:Int×Str}:∀{l:List (Int×Str)},(∀y∈l,y≠x)→l.Pairwise (fun a b=> aL a b=true)→(lR x l).Pairwise fun a b=> aL a b=true
 | [],_,_=> Nl _ _
 | y::l,hn,h=> by
  have hp:=Kb.mp h
  unfold lR
  split
  ·rename_i hl
   refine Kb.mpr ⟨fun z hz=> ?_,h⟩
   rcases Jy.mp hz with e | e
   ·subst e;exact hl
   ·exact vJ hl (hp.1 z e)
  ·rename_i hl
   refine Kb.mpr ⟨fun z hz=> ?_,Bq (fun z hz=> hn z (by simp [hz])) hp.2⟩
   rcases Jy.mp ((v7 x l).mem_iff.mp hz) with e | e
   ·subst e
    rcases An (a:=y) (b:=z) (hn y (by simp)) with w | w
    ·exact w
    ·exact absurd w hl
   ·exact hp.1 z e
theorem Br:∀{l:List (Int×Str)},l.Nodup→∃s:List (Int×Str),s.Perm l∧s.Pairwise fun a b=> aL a b=true
 | [],_=> ⟨[],.refl _,.nil⟩
 | x::l,nd=> by
  rw [KA] at nd
  obtain⟨s,h1,h2⟩:=Br nd.2
  exact⟨lR x s,(v7 x s).trans (h1.cons x),Bq (fun y hy e=> nd.1 (by rw [←e];exact h1.mem_iff.mp hy)) h2⟩
theorem Bs{l:List (Int×Str)}(nd:l.Nodup):(g6 l).Perm l∧(g6 l).Pairwise fun a b=> aL a b=true:=by
 obtain⟨s,h1,h2⟩:=Br nd
 rw [←AD h1 h2];exact⟨h1,h2⟩
def fj(nm wd:Str)(x:De):Bool:=fz nm x && (ju x).2==wd
theorem tV{xs:List De}(g:dD xs)(c:Pp)(wd:Str)(n:Int):(gf (bu xs c) wd n).Perm (((xs.filter (fj c.nm wd)).map fun x=> x.d).filter fun z=> decide (z≤n)):=by
 have e:((dX xs c.nm).filter fun z=> z.2==wd).map (·.1)=(xs.filter (fj c.nm wd)).map fun x=> x.d:=by
  unfold dX
  rw [List.filter_map,JH,N7]
  have e1:xs.filter (fun a=> ((fun z:Int×Str=> z.2==wd)∘ ju) a && fz c.nm a)=xs.filter (fj c.nm wd):=by
   congr 1
   funext a
   unfold fj
   rw [OR];rfl
  rw [e1]
  refine MB fun x hx=> ?_
  cases x with
  | pap p=> rfl
  | oth w d nm r=>
   show(ju (De.oth w d nm r)).1=d
   unfold ju
   split
   ·rename_i h;cases h;rfl
   ·rfl
 have p:=(Bs (vO g c.nm)).1
 have p2:=((p.filter fun z=> z.2==wd).map (·.1)).filter fun z=> decide (z≤n)
 rw [e] at p2
 exact p2
theorem Bt{xs:List De}(g:dD xs)(c:Pp)(wd:Str)(n:Int):(gf (bu xs c) wd n).Pairwise (·≤·):=by
 unfold gf lL
 refine NI KN ?_
 rw [Kf]
 refine NI KN ((Bs (vO g c.nm)).2.imp fun{a b} h=> ?_)
 unfold aL at h
 simp only [LG,Kh,decide_eq_true_eq] at h
 rcases h with h | h <;> omega
end
section
variable {P:Program} {w:World} {K:Jd} {mg:Str→Option Value} {base:Heap} {t:cJ}
def Ip:List PyData→(PyData→Prop)→Prop:=fun ds Q=> ∃(xs:List De)(c:Pp)(wo kd:Str)(si:cv)(k:Int)(u:Str)(n:Int),ds=[.tuple (xs.map De.enc),(Pt.five wo kd si k u).enc,.str c.nm,.int n,.int c.d]∧dD xs∧c∈bb xs∧si.Ok∧g5 u∧Q (bT (bU (bu xs c) n (.five wo kd si k u)))
theorem Bu{n:Nat}{ds:List PyData}(h:∀d∈ds,cu n d):cu (n+1) (.list ds):=by
 have:=cY h
 exact⟨by have:=this.can;simpa [JN] using this,by have:=this.dep;simpa [K7] using this⟩
theorem Iq(ns:List Int):cu 2 (.list (ns.map Jg)):=Bu fun d hd=> by
 obtain⟨i,_,rfl⟩:=Jw.mp hd;exact yQ
theorem v8{Q:PyData→Prop}{k:Int}{u:Str}(hu:g5 u){ns:List Int}{j:Int}{ob:Option Int}(h:∀M M1:Int,M∈ns→(∀a∈ns,M≤a)→M1∈ns→(∀a∈ns,a≤M1)→∃b:Int,atI [Jg M,Jg M1] j=some (.int b)∧ob=some b∧0≤b)(h0:ns=[]→ob=none)(q:Q (bT (ob.map fun b=> jv b k u))):
  Ka (J0 (ns.map Jg))=true∧Ka (J0 [])=true∧if (J0 (ns.map Jg)).eqv (J0 [])=true then Q LK else ∃ns_1,ns.map Jg=JF Jg ns_1∧¬ns_1=[]∧∀(M:Int),M∈ns_1→(∀(a:Int),a∈ns_1→M≤a)→∃ns_2,ns.map Jg=JF Jg ns_2∧¬ns_2=[]∧∀(M_1:Int),M_1∈ns_2→(∀(a:Int),a∈ns_2→a≤M_1)→∃d,atI [Jg M,Jg M_1] j=some d∧v5 [d,Jg k,Jh u] Q:=by
 refine⟨(Iq ns).shp (by decide),by decide+kernel,?_⟩
 cases ns with
 | nil=>
  rw [if_pos (by simp [JD,Ln])]
  rw [h0 rfl] at q;exact q
 | cons a l=>
  rw [if_neg (by simp [JD,Ln])]
  refine⟨a::l,rfl,by simp,fun M h1 h2=> ⟨a::l,rfl,by simp,fun M1 h3 h4=> ?_⟩⟩
  obtain⟨b,e1,e2,e3⟩:=h M M1 h1 h2 h3 h4
  rw [e2] at q
  exact⟨_,e1,b,k,u,rfl,hu,e3,q⟩
theorem Ir{Q:PyData→Prop}{k:Int}{u:Str}(hu:g5 u){ns:List Int}{ob:Option Int}(h:∀M1:Int,M1∈ns→(∀a∈ns,a≤M1)→ob=some M1∧0≤M1)(h0:ns=[]→ob=none)(q:Q (bT (ob.map fun b=> jv b k u))):
  Ka (J0 (ns.map Jg))=true∧Ka (J0 [])=true∧if (J0 (ns.map Jg)).eqv (J0 [])=true then Q LK else ∃ns_1,ns.map Jg=JF Jg ns_1∧¬ns_1=[]∧∀(M:Int),M∈ns_1→(∀(a:Int),a∈ns_1→M≤a)→∃ns_2,ns.map Jg=JF Jg ns_2∧¬ns_2=[]∧∀(M_1:Int),M_1∈ns_2→(∀(a:Int),a∈ns_2→a≤M_1)→v5 [Jg M_1,Jg k,Jh u] Q:=by
 have z:=v8 (j:=1) hu (fun M M1 _ _ h3 h4=> ⟨M1,cW,h M1 h3 h4⟩) h0 q
 simpa only [cW,KL,exists_eq_left'] using z
theorem Iu{l m:List Int}{M:Int}(up:l.Pairwise (·≤·))(p:l.Perm m)(h1:M∈m)(h2:∀a∈m,M≤a):l.head?=some M:=by
 cases l with
 | nil=> rw [←p.nil_eq] at h1;cases h1
 | cons a l=>
  have ha:M≤a:=h2 a (p.mem_iff.mp (by simp))
  have hm:M∈a::l:=p.mem_iff.mpr h1
  rcases Jy.mp hm with e | e
  ·rw [e];rfl
  ·have:=(Kb.mp up).1 M e
   show some a=some M
   rw [Nr this ha]
theorem Iw{l m:List Int}{M:Int}(up:l.Pairwise (·≤·))(p:l.Perm m)(h1:M∈m)(h2:∀a∈m,a≤M):l.getLast?=some M:=by
 rcases NG l with e | ⟨l',a,e⟩
 ·subst e;rw [←p.nil_eq] at h1;cases h1
 ·rw [NH] at e
  subst e
  rw [NR]
  have ha:a≤M:=h2 a (p.mem_iff.mp (by simp))
  have hm:M∈l'++[a]:=p.mem_iff.mpr h1
  rcases JM.mp hm with e | e
  ·have:=(List.pairwise_append.mp up).2.2 M e a (by simp)
   rw [Nr ha this]
  ·rw [JV.mp e]
theorem Bv{xs:List De}(g:dD xs){nm wd:Str}{n M:Int}(h:M∈((xs.filter (fj nm wd)).map fun x=> x.d).filter fun z=> decide (z≤n)):0≤M:=by
 obtain⟨x,hx,rfl⟩:=Jw.mp (JK.mp h).1
 exact(g.d0 x (JK.mp hx).1).1
theorem Bw{xs:List De}{c:Pp}{n k:Int}{a wd wo kd u:Str}{Q':List PyData→Prop}(g:dD xs)(hc:c∈bb xs)(hw:Jp wd=true)(q:Q' ((((xs.filter (fj c.nm wd)).map fun x=> x.d).filter fun z=> decide (z≤n)).map .int)):
  eZ (jh 0)
  (kr (eJ (cQ jl (cQ fQ (dH 0) (dC (Jg 0))) (dC (Jh (Jc "happens")))))
   (eJ
    (cQ kK (kX (dH 0) (kN (dC (Jg 2))) kM)
     (kq (gv (dH 1) (gv (cQ fQ (cQ fQ (dH 2) (dC (Jg 2))) (dC (Jg 1))) jd))))))
  (cQ fQ (dH 0) (dC (Jg 1)))
  [none,some (Sl.v (Jh c.nm)),some (Sl.v (JG [Jh wo,Jh kd,JG [Jh a,Jh wd],Jg k,Jh u]))]
  (JF De.enc xs) fun ds=> ds.length≤16777216∧
   eZ (jh 0) (eJ (cQ (dI fun i j=> Lf (decide (i≤j))) (dH 0) (dH 1))) (dH 0) [none,some (Sl.v (Jg n))] ds Q':=by
 have ln:=g.gx.ln
 refine Ax (fj c.nm wd) (fun x=> .int x.d) (fun x hx R S h1 h0=> ?_) ⟨?_,?_⟩
 ·cases x with
  | pap p=>
   simp only [De.enc,Pp.enc]
   walk_at "rz"
   exact h0 rfl
  | oth wo d nm r=>
   simp only [De.enc]
   walk_at "rz"
   by_cases e:wo=Jc "happens"
   ·subst e
    obtain⟨wd2,rfl,hw2⟩:=g.hp _ _ _ hx
    have cok:=g.gx.gp.nm c hc
    have nok:=g.gx.nm _ hx
    have l2:∀a b:Str,Jp a=true→Jp b=true→Ka (JG [Jh a,Jh b])=true:=fun a b h1 h2=> (cY (n:=1) (aZ (bQ h1) (aZ (bQ h2) dW))).shp (by decide)
    rw [if_pos (beq_self_eq_true _)]
    refine⟨l2 _ _ nok hw2,l2 _ _ cok hw,?_⟩
    have ee:(JG [Jh nm,Jh wd2]).eqv (JG [Jh c.nm,Jh wd])=(nm==c.nm && wd2==wd):=by simp [JD,Ln,vR]
    have eh:fj c.nm wd (De.oth (Jc "happens") d nm [.str wd2])=(nm==c.nm && wd2==wd):=by
     unfold fj fz ju
     simp only [beq_self_eq_true,K8]
    rw [ee,←eh]
    split
    ·rename_i h2;exact h1 h2
    ·rename_i h2;exact h0 (Bool.not_eq_true _▸h2)
   ·rw [bS e,if_neg Jk]
    exact h0 (by unfold fj fz;simp only [bS e,MD])
 ·rw [Jf]
  have:=J4 (fj c.nm wd) xs
  omega
 ·have em:(xs.filter (fj c.nm wd)).map (fun x=> Jg x.d)=((xs.filter (fj c.nm wd)).map fun x=> x.d).map Jg:=by rw [JH];rfl
  rw [em]
  refine dh (fun z=> decide (z≤n)) (fun z=> .int z) (fun x hx R S h=> ?_) q
  walk_at "rz"
  simpa using h
theorem Iy(T:Txt K mg t):aK P w K mg base CX0 4 t.a_x40 t.d_x40 ["_law_deeds_here","_law_parts_here","_law_name","_law_day_here","_law_coming"] (bo K Ip):=by
 have G_x32:=Il (P:=P) (w:=w) (base:=base) T
 refine T.F_x40.okD tG (fun ds Q h=> ?_) (fun cdv A outer s H O ds Q E hr h=> ?_)
 ·obtain⟨xs,c,wo,kd,si,k,u,n,rfl,_⟩:=h;rfl
 ·obtain⟨xs,c,wo,kd,si,k,u,n,rfl,g,hc,hsi,hu,q⟩:=h
  refine'⟨_,?body,?read⟩
  case body=>
   refine' au ?s1 ?r1
   case s1=> exact(bL (i:=5) tG.nd rfl (by walk_at "o") (fe (cM (aa (dv 4) aj))))
   case' r1=> refine' au ?s3 ?r3
   case s3=>
    refine' bt ?c4 ?a4 br
    case c4=> exact(aI (kJ hr.units) kL (df (aq aE aF (df (aq aE aF (df (dv 1)) (df ag))) (df ag))) (df aS) (ay _))
    case' a4=> refine' au ?s5 ?r5
    case s5=> exact(ik (i:=5) tG.nd rfl (by walk_at "o") (sX rfl Bo (df (dv 0)) aY cy (by decide) (fun _ _ _ _=> (aU (i:=0) Bo.nd rfl (by walk_at "o"))) (fun _ _ _ _=> (dj (PW.pt (dn (aI (cB hr) cC (df (aq aE aF (df (dv 0)) (df ag))) (df aS) (ay _)) (dR (aI (cz hr.units) cA (df (uV (df (dv 0)) (eR ag) ji)) (df (bJ (aa (dv 1) (aa (aq aE aF (df (aq aE aF (df (dv 2)) (df ag))) (df ag)) aj)))) (ay _))))))) (fun _ _ _ _=> (aq aE aF (df (dv 0)) (df ag)))))
    case' r5=> refine' aA ?s7
    case s7=> exact(ik (i:=5) tG.nd rfl (by walk_at "o") (nv rfl Bp (df (dv 5)) aY cy (by decide) (fun _ _ _ _=> (aU (i:=0) Bp.nd rfl (by walk_at "o"))) (fun _ _ _ _=> (dj (aI fH dJ (df (dv 0)) (df (dv 1)) (ay _)))) (fun _ _ _ _=> (dv 0))))
   case' r3=> refine' au ?s9 ?r9
   case s9=>
    refine' bt ?c10 ?a10 br
    case c10=> exact(aI (cz hr.units) cA (df (dv 5)) (df (fe (cM aj))) (ay _))
    case a10=> refine' aA (aO eY)
   case' r9=> refine' aA ?s13
   case' s13=> generalize hG14:N8 _ _ _ _=eg14
   refine' aO ?e14
   case' e14=> subst hG14
   exact(PE.imp (ax G_x32 (hr.mono (by decide)) rfl T.m_x32 T.F_x32.kp T.b_x32 .nil av (aa (aq bN cj (df (fe (cM (aa (PE.imp (bX (FU rfl) rfl T.n_min LQ (aW (df (dv 5)) bp)) (bP FV)) (aa (PE.imp (bX (Fq rfl) rfl T.n_max Li (aW (df (dv 5)) bp)) (bP Fs)) aj))))) (df (PE.imp (eD pE rfl T.n_int mq (aW (df (eI (cB hr) cC (df (aq aE aF (df (aq aE aF (df (dv 1)) (df ag))) (df ag))) (df aS) (ay _))) bp)) (bP pX)))) (aa (aq aE aF (df (dv 1)) (df ag)) (aa (aq aE aF (df (dv 1)) (df ag)) aj)))) aC)
  case read=>
  clear hr T G_x32
  have q:Q (bT ((oR (bu xs c) n si).map fun b=> jv b k u)):=q
  simp only [Pt.enc]
  cases si with
  | com=>
   simp only [cv.enc]
   walk_at "rz"
   refine⟨by decide+kernel,by decide+kernel,v8 hu (ns:=[c.d]) (ob:=some c.d) (fun M M1 h1 _ h2 _=> ?_) (fun z=> by cases z) q⟩
   rw [JV] at h1 h2
   subst h1 h2
   exact⟨c.d,by rw [if_neg (by decide+kernel)];exact dU,rfl,(g.d0 _ (tK.mp hc)).1⟩
  | fst wd=>
   simp only [cv.enc]
   walk_at "rz"
   refine⟨by decide+kernel,by decide+kernel,?_⟩
   rw [if_pos (by decide+kernel)]
   refine⟨by rw [Jf];have:=g.gx.ln;omega,Bw g hc hsi (v8 hu (ob:=(gf (bu xs c) wd n).head?) (fun M M1 h1 h2 _ _=> ⟨M,?_,?_,?_⟩) (fun z=> ?_) q)⟩
   ·rw [if_neg (by decide+kernel)];exact dU
   ·exact Iu (Bt g c wd n) (tV g c wd n) h1 h2
   ·exact Bv g h1
   ·have p:=tV g c wd n
    rw [z] at p
    rw [p.eq_nil];rfl
  | lst wd=>
   simp only [cv.enc]
   walk_at "rz"
   refine⟨by decide+kernel,by decide+kernel,?_⟩
   rw [if_pos (by decide+kernel)]
   refine⟨by rw [Jf];have:=g.gx.ln;omega,Bw g hc hsi (Ir hu (ob:=(gf (bu xs c) wd n).getLast?) (fun M1 h1 h2=> ⟨?_,?_⟩) (fun z=> ?_) q)⟩
   ·exact Iw (Bt g c wd n) (tV g c wd n) h1 h2
   ·exact Bv g h1
   ·have p:=tV g c wd n
    rw [z] at p
    rw [p.eq_nil];rfl
end
end K16
open PySem L2
local macro_rules | `(tactic| walk_at "rz") => do let a ← rzT "fb Jj Kc JC Kw Ll Lm Jx K1 Kx"; let b ← rzT "↓sN ↓sO ↓sP ↓sQ ↓sR ↓sJ ↓rO ↓rP ↓rQ ↓rR ↓rS ↓rT ↓rV ↓rW ↓rX ↓rY ↓rZ ↓sd ↓se ↓sf ↓sg ↓sj ↓sk ↓sq ↓sr ↓su ↓sv ↓sA ↓sC ↓sE ↓sF ↓sG ↓sH ↓sI fP mD mF mE kC mG mH mL jJ dH mr dC cQ dI mS kK mT mU fQ m7 m6 dL kD kq jd gv eJ kr mv mw my mz mB mC jg qG qH qI qJ qK qL qM qN qO qP qQ qR qS qT qU qV qW qX qY qZ q5 rf rg rh rj rn rp rq rz rA rB rC rD rE rF rG rH rJ rK rL rM rN mV m8 kU kM kN mX mY mZ m4 m5 kQ m9 nc ic mM mN mO mP kX nJ qF nA nE jl nG nF ny nM nO nN nP nQ nS jm nT nU nV nW nX n8 n9 jS oj om og oh oi oo oq ou ow ox oB oC oF oE oI lz oJ oK oM oH vC qg qv qw qx qy qz qA qB qC qD ne_eq qo qp qr qt qu qi qj qm jK jL mQ jh mK mJ mI ib fb dS jz j9 i9 Jj Kc JC Kw Jx K1 Kx JX Ll Lm Mu Mv Mw K9 KS LN LH LI KL exists_eq_left' exists_eq_left exists_and_left exists_and_right LW LX Sl.v.injEq Sl.o.injEq Sl.k.injEq Ld Mg KP KQ LM J3 and_true true_and Mx Mp exists_const decide_eq_true_eq My Mz Mi Mj Lp decide_eq_false_iff_not and_assoc or_true true_or ↓reduceIte if_true if_false KC LJ not_true_eq_false not_false_eq_true MR MF ite_true ite_false eq_self exists_eq reduceCtorEq false_and and_false or_false false_or exists_false KU L8 jE MS Nf KI Ng MT LZ K8 L0 dU cW jM ij ng gF gG nj beq_self_eq_true fq pY nh cV sizeLine_eq"; `(tactic| ((try $a:tactic); $b:tactic))
namespace K16
theorem Bx:bH (ah fg) ["_law_deeds_here","_law_rows","_law_web_here","_law_name","_law_some","_law_ahead"] ["_law_deed_here"] 1 [] {kind:=Jt,names:=[(Je ".0",PySem.NameKind.local),(Je "_law_deed_here",PySem.NameKind.local)],isGenerator:=false,isCoroutine:=false,more:=[]:JU}:=⟨rfl,by decide+kernel,by decide+kernel,by decide+kernel,rfl,by decide+kernel,by decide+kernel,by decide+kernel,rfl⟩
theorem By:bH (ah fg) ["_law_deeds_here","_law_rows","_law_web_here","_law_name","_law_some","_law_ahead"] ["_law_one","_law_rows"] 1 [1] {kind:=Jt,names:=[ (Je ".0",PySem.NameKind.local),(Je "_law_one",PySem.NameKind.local),(Je "_law_rows",Ju)],isGenerator:=false,isCoroutine:=false,more:=[]:JU}:=⟨rfl,by decide+kernel,by decide+kernel,by decide+kernel,rfl,by decide+kernel,by decide+kernel,by decide+kernel,rfl⟩
theorem Bz:bH (ah fg) ["_law_deeds_here","_law_rows","_law_web_here","_law_name","_law_some","_law_ahead"] ["_law_one","_law_name","_law_rows"] 1 [3,1] {kind:=Jt,names:=[ (Je ".0",PySem.NameKind.local),(Je "_law_one",PySem.NameKind.local),(Je "_law_name",Ju),(Je "_law_rows",Ju)],isGenerator:=false,isCoroutine:=false,more:=[]:JU}:=⟨rfl,by decide+kernel,by decide+kernel,by decide+kernel,rfl,by decide+kernel,by decide+kernel,by decide+kernel,rfl⟩
theorem v9:bH (ah fg) ["_law_deeds_here","_law_rows","_law_web_here","_law_name","_law_some","_law_ahead"] ["_law_day_here","_law_one"] 2 [] {kind:=Jt,names:=[ (Je ".0",PySem.NameKind.local),(Je "_law_day_here",PySem.NameKind.local),(Je "_law_one",PySem.NameKind.local)],isGenerator:=false,isCoroutine:=false,more:=[]:JU}:=⟨rfl,by decide+kernel,by decide+kernel,by decide+kernel,rfl,by decide+kernel,by decide+kernel,by decide+kernel,rfl⟩
theorem kw_keep_gone:(Jc "keep"==Jc "gone")=false:=by decide+kernel
theorem kw_keep_while:(Jc "keep"==Jc "while")=false:=by decide+kernel
theorem kw_keep_follow:(Jc "keep"==Jc "follow")=false:=by decide+kernel
theorem kw_keep_leave:(Jc "keep"==Jc "leave")=false:=by decide+kernel
theorem kw_gone_keep:(Jc "gone"==Jc "keep")=false:=by decide+kernel
theorem kw_gone_while:(Jc "gone"==Jc "while")=false:=by decide+kernel
theorem kw_gone_follow:(Jc "gone"==Jc "follow")=false:=by decide+kernel
theorem kw_gone_leave:(Jc "gone"==Jc "leave")=false:=by decide+kernel
theorem kw_while_keep:(Jc "while"==Jc "keep")=false:=by decide+kernel
theorem kw_while_gone:(Jc "while"==Jc "gone")=false:=by decide+kernel
theorem kw_while_follow:(Jc "while"==Jc "follow")=false:=by decide+kernel
theorem kw_follow_keep:(Jc "follow"==Jc "keep")=false:=by decide+kernel
theorem kw_follow_gone:(Jc "follow"==Jc "gone")=false:=by decide+kernel
theorem kw_follow_while:(Jc "follow"==Jc "while")=false:=by decide+kernel
theorem kw_leave_keep:(Jc "leave"==Jc "keep")=false:=by decide+kernel
theorem kw_leave_gone:(Jc "leave"==Jc "gone")=false:=by decide+kernel
theorem kw_leave_while:(Jc "leave"==Jc "while")=false:=by decide+kernel
theorem kw_leave_follow:(Jc "leave"==Jc "follow")=false:=by decide+kernel
def W5(w:Str):Prop:=w=Jc "keep"∨w=Jc "gone"∨w=Jc "while"∨w=Jc "follow"∨w=Jc "leave"
def R5(xs:List De):Prop:=∀d nm(pt:Pt),De.oth (Jc "rule") d nm [pt.enc]∈xs→W5 pt.wd
section
variable {P:Program} {w:World} {K:Jd} {mg:Str→Option Value} {base:Heap} {t:cJ}
def tW(ps:List Pp)(p:Pp):PyData:= .tuple [.int p.d,.str p.kd,.list (((cR ps p).map (·.nm)).map .str)]
def Iz(ps:List Pp):PyData:=dO (ps.map (·.nm)) (ps.map (tW ps))
def IA:List PyData→(PyData→Prop)→Prop:=fun ds Q=> ∃xs:List De,ds=[.tuple (xs.map De.enc)]∧jw xs∧Q (Iz (bb xs))
theorem wa(f:De→PyData):∀xs:List De,(xs.filter (eL fun _=> true)).map f=(bb xs).map fun p=> f (.pap p)
 | []=> rfl
 | .pap p::xs=> by
  rw [Ki,if_pos (show eL (fun _=> true) (De.pap p)=true from rfl),Jj,wa f xs];rfl
 | .oth w d nm r::xs=> by
  rw [Ki,if_neg (by simp [eL])]
  exact wa f xs
theorem BA{kd:List (ai×PyData)}{k:ai}{d:PyData}(h:k ∉ kd.map (·.1)):dM kd k d=kd++[(k,d)]:=by
 unfold dM
 rw [if_neg]
 rw [LU]
 rintro⟨p,hp,e⟩
 exact h (Jw.mpr ⟨p,hp,of_decide_eq_true e⟩)
theorem BB:∀(kd acc:List (ai×PyData)),((acc++kd).map (·.1)).Nodup→kd.foldl (fun a p=> dM a p.1 p.2) acc=acc++kd
 | [],acc,_=> by simp
 | p::kd,acc,nd=> by
  have e:acc++p::kd=(acc++[p])++kd:=by simp
  rw [Lg,BA,BB kd (acc++[(p.1,p.2)]),e]
  ·rw [←e];exact nd
  ·intro h
   rw [J6,Oe] at nd
   exact nd.2.2 p.1 h p.1 (by simp) rfl
theorem IB{ss:List Str}(h:ss.Nodup):(ss.map (Ke:Str→ai)).Nodup:=by
 rw [LY,Kf]
 exact h.imp fun z e=> z (Nt e)
theorem tX{f:Pp→PyData}:∀{ps:List Pp}{p:Pp},(ps.map (·.nm)).Nodup→p∈ps→ck (ps.map (·.nm)) (ps.map f) p.nm=some (f p)
 | x::ps,p,nd,h=> by
  rw [Jj,Jj]
  unfold ck
  rw [Jj,KA] at nd
  rcases Jy.mp h with e | e
  ·rw [e,if_pos rfl]
  ·rw [if_neg (fun z=> nd.1 (by rw [z];exact Jw.mpr ⟨p,e,rfl⟩))]
   exact tX nd.2 e
theorem BC{f:Pp→PyData}:∀{ps:List Pp}{z:Str},z ∉ ps.map (·.nm)→ck (ps.map (·.nm)) (ps.map f) z=none
 | [],z,_=> rfl
 | x::ps,z,h=> by
  rw [Jj,Jj]
  unfold ck
  rw [Jj,Jy,not_or] at h
  rw [if_neg (fun e=> h.1 e.symm)]
  exact BC h.2
def tY(ps:List Pp)(z:Str):Int:=((ps.find? fun p=> decide (p.nm=z)).map (·.d)).getD 0
theorem wb{ps:List Pp}(nd:(ps.map (·.nm)).Nodup){p:Pp}(h:p∈ps):tY ps p.nm=p.d:=by
 unfold tY
 cases hf:ps.find? (fun q=> decide (q.nm=p.nm)) with
 | none=> exact absurd (MI.mp hf p h) (by simp)
 | some q=>
  have e:q.nm=p.nm:=by simpa using Nq hf
  rw [Aq nd (Lr hf) h e];rfl
def iW(ps:List Pp)(c:Pp):List (Int×Str):=(c.ms.filter fun z=> decide (z∈ps.map (·.nm))).map fun z=> (tY ps z,z)
theorem BD{ps:List Pp}{c:Pp}(h:c.ms.Nodup):(iW ps c).Nodup:=by
 unfold iW
 rw [LY,Kf]
 exact(h.sublist KN).imp fun z e=> z (congrArg OX e)
theorem zL{ps:List Pp}(nd:(ps.map (·.nm)).Nodup){c:Pp}{hs:List (Int×Str)}(h1:hs.Perm (iW ps c))(h2:hs.Pairwise fun a b=> aL a b=true)(nz:(iW ps c).Nodup):hs.filter (fun z=> aL z c.key)=(cR ps c).map Pp.key:=by
 have p1:(hs.filter fun z=> aL z c.key).Pairwise fun a b=> aL a b=true:=h2.sublist KN
 have p2:((cR ps c).map Pp.key).Pairwise fun a b=> aL a b=true:=by
  rw [Kf]
  unfold cR
  exact(oO nd).sublist KN
 have n1:(hs.filter fun z=> aL z c.key).Nodup:=(h1.nodup_iff.mpr nz).sublist KN
 have n2:((cR ps c).map Pp.key).Nodup:=p2.imp fun{a b} h e=> by rw [e,Am] at h;cases h
 refine lI (fun a b h=> tI h) ((MU n1 n2).mpr fun z=> ?_) p1 p2
 rw [JK,h1.mem_iff,Jw]
 unfold iW cR
 constructor
 ·rintro⟨hz,hl⟩
  obtain⟨y,hy,rfl⟩:=Jw.mp hz
  obtain⟨hy1,hy2⟩:=JK.mp hy
  obtain⟨m,hm,rfl⟩:=Jw.mp (of_decide_eq_true hy2)
  rw [wb nd hm] at hl⊢
  refine⟨m,JK.mpr ⟨tJ.mpr hm,?_⟩,rfl⟩
  unfold oP
  rw [NJ.mpr hy1,K8]
  exact hl
 ·rintro⟨m,hm,rfl⟩
  obtain⟨hm1,hm2⟩:=JK.mp hm
  unfold oP at hm2
  rw [Kh] at hm2
  have hm1:=tJ.mp hm1
  refine⟨Jw.mpr ⟨m.nm,JK.mpr ⟨NJ.mp hm2.1,decide_eq_true (Jw.mpr ⟨m,hm1,rfl⟩)⟩,?_⟩,hm2.2⟩
  rw [wb nd hm1];rfl
theorem jw.nd{xs:List De}(h:jw xs){p:Pp}(hp:p∈bb xs):p.ms.Nodup:=((h.1 _ (tK.mp hp)).pp p rfl).2.2.2
theorem BE(T:Txt K mg t):aK P w K mg base CX0 1 t.a_x38 t.d_x38 ["_law_deeds_here"] (bo K IA):=by
 refine T.F_x38.okD lH (fun ds Q h=> ?_) (fun cdv A outer s H O ds Q E hr h=> ?_)
 ·obtain⟨xs,rfl,_⟩:=h;rfl
 ·obtain⟨xs,rfl,gl,q⟩:=h
  refine'⟨_,?body,?read⟩
  case body=>
   refine' au ?s1 ?r1
   case s1=> exact(kZ (i:=1) lH.nd rfl (by walk_at "o") (Gm rfl rfl T.n_dict (aW (df (fe (mR rfl Bx (df (dv 0)) aY cy (by decide) (fun _ _ _ _=> (aU (i:=0) Bx.nd rfl (by walk_at "o"))) (fun _ _ _ _=> (dj (aI (cB hr) cC (df (aq aE aF (df (dv 0)) (df ag))) (df aS) (ay _)))) (fun _ _ _ _=> (bJ (aa (aq aE aF (df (dv 0)) (df ag)) (aa (dv 0) aj))))))) bp)))
   case' r1=> refine' au ?s3 ?r3
   case s3=> exact(kZ (i:=2) lH.nd rfl (by walk_at "o") sL)
   case' r3=> refine' au ?s5 ?r5
   case s5=>
    refine' vf 1 ?z6
    case' z6=> refine' Gv Kd rfl (dv 1) ?a7 aY ?b7
    case a7=> exact(aU (i:=3) lH.nd rfl (by walk_at "o"))
    case' b7=> refine' au ?s8 ?r8
    case s8=>
     refine' bL (i:=4) lH.nd rfl (by walk_at "o") ?e9 (hs:=il)
     case e9=> exact(fe (zx rfl T.n_sorted Kz (aW (df (fe (mR rfl By (df (aq aE aF (df (jT hr.units (dv 1) (dv 3) (fun _ _=> rfl))) (df ag))) aY cy (by decide) (fun _ _ _ _=> (aU (i:=0) By.nd rfl (by walk_at "o"))) (fun _ _ _ _=> (dj (zR hr.units (dv 1) (dv 0)))) (fun _ _ _ _=> (bJ (aa (aq aE aF (df (jT hr.units (dv 1) (dv 0) (fun _ _=> rfl))) (df ag)) (aa (dv 0) aj))))))) bp)))
    case' r8=> refine' au ?s11 ?r11
    case s11=> exact(ik (i:=5) lH.nd rfl (by walk_at "o") (nv rfl Bz (df (dv 4)) aY cy (by decide) (fun _ _ _ _=> (aU (i:=0) Bz.nd rfl (by walk_at "o"))) (fun _ _ _ _=> (dj (aI (zA hr.units0) zB (df (dv 0)) (df (bJ (aa (aq aE aF (df (jT hr.units (dv 2) (dv 1) (fun _ _=> rfl))) (df ag)) (aa (dv 1) aj)))) (ay _)))) (fun _ _ _ _=> (dv 0))))
    case' r11=> refine' aA ?s13
    case s13=> exact(sM (i:=2) hr.units (pv 2) (dv 3) (bJ (aa (aq aE aF (df (jT hr.units (dv 1) (dv 3) (fun _ _=> rfl))) (df ag)) (aa (aq aE aF (df (jT hr.units (dv 1) (dv 3) (fun _ _=> rfl))) (df ag)) (aa (fe (gB rfl v9 (df (dv 5)) (jI (d4 aY (d4 aY jH))) zD (by decide) (fun _ _ _ _=> (i7 (n:=2) rfl (dF (aU (i:=0) v9.nd rfl (by walk_at "o")) (dF (aU (i:=1) v9.nd rfl (by walk_at "o")) i6)))) (fun _ _ _ _=> jj) (fun _ _ _ _=> (dv 1)))) aj)))))
   case' r5=> refine' aA ?s15
   case' s15=> refine' vf 2 ?z16
   case z16=> exact(aO (dv 2))
  case read=>
  clear hr T
  walk_at "rz"
  have g:=gl.good
  have ln:=g.gx.ln
  have gp:=g.gx.gp
  refine⟨by rw [Jf];omega,dh (eL fun _=> true) (fun x=> .tuple [.str x.nm,x.enc]) (fun x hx R S h=> ?_) ?_⟩
  ·cases x with
   | pap p=>
    simp only [De.enc,Pp.enc] at h⊢
    walk_at "rz"
    exact h
   | oth wo d nm l=>
    simp only [De.enc] at h⊢
    walk_at "rz"
    rw [bS (g.gx.np _ _ _ _ hx),if_neg Jk]
    rw [if_neg (by simp [eL])] at h
    exact h
  ·rw [wa]
   have mnd:∀p∈bb xs,p.ms.Nodup:=fun p hp=> gl.nd hp
   generalize bb xs=ps at gp q mnd⊢
   have kn:((ps.map fun p:Pp=> ((Ke p.nm:ai),p.enc)).map (·.1)).Nodup:=by
    rw [JH]
    have:=IB gp.nd
    rw [JH] at this;exact this
   have ef:=BB (ps.map fun p:Pp=> ((Ke p.nm:ai),p.enc)) [] (by rw [Kx];exact kn)
   rw [Kx] at ef
   refine⟨ps.map fun p=> (.inr p.nm,p.enc),by rw [JH];rfl,ps.map (·.nm),by rw [ef,JH,JH];rfl,ps.map (·.nm),⟨_,rfl⟩,?_⟩
   rw [ef]
   have ed:JF (fun x=> x.snd) (ps.map fun p:Pp=> ((Ke p.nm:ai),p.enc))=ps.map Pp.enc:=by rw [JH];rfl
   rw [ed]
   refine⟨fun i δ=> ∃o3 o4 o5,δ=[some (Sl.v (JG (JF De.enc xs))),some (Sl.v (dO (ps.map (·.nm)) (ps.map Pp.enc))),some (Sl.k ((ps.take i).map fun p=> (.inr p.nm,tW ps p))),o3,o4,o5],⟨_,_,_,rfl⟩,?_,?_⟩
   ·rintro i z δ hz ⟨o3,o4,o5,rfl⟩
    rw [JB,JB] at hz
    cases hz':ps[i]? with
    | none=> rw [hz'] at hz;cases hz
    | some p=>
     rw [hz'] at hz;cases hz
     have hp:=JO hz'
     have ap:=tX (f:=Pp.enc) gp.nd hp
     walk_at "rz"
     have ml:=(gp.ms p hp).2
     refine⟨_,_,rfl,_,ap,_,rfl,_,ng,_,rfl,by rw [Jf];omega,dh (fun z=> decide (z∈ps.map (·.nm))) (fun z=> cq (tY ps z,z)) (fun z hz R S h=> ?_) ?_⟩
     ·walk_at "rz"
      refine⟨_,_,rfl,?_⟩
      by_cases hm:z∈ps.map (·.nm)
      ·rw [if_pos (decide_eq_true hm)] at h
       obtain⟨m,hm1,rfl⟩:=Jw.mp hm
       have am:=tX (f:=Pp.enc) gp.nd hm1
       rw [am,if_pos (by rfl)]
       rw [wb gp.nd hm1] at h
       exact⟨_,_,rfl,_,am,_,rfl,_,cW,h⟩
      ·rw [if_neg (by simpa using hm)] at h
       rw [BC hm,if_neg (by simp)]
       exact h
     ·refine⟨iW ps p,by unfold iW;rw [JH];rfl,?_,BD (mnd p hp),fun hs h1 h2=> ?_⟩
      ·unfold iW
       rw [Jf]
       have:=J4 (fun z=> decide (z∈ps.map (·.nm))) p.ms
       omega
      ·have hl:hs.length≤50:=by
        rw [h1.length_eq]
        unfold iW
        rw [Jf]
        have:=J4 (fun z=> decide (z∈ps.map (·.nm))) p.ms
        omega
       refine⟨by rw [Jf];omega,dh (fun z=> aL z p.key) cq (fun z hz R S h=> ?_) ?_⟩
       ·walk_at "rz"
        refine⟨_,_,rfl,_,ap,_,rfl,_,cW,z,rfl,p.key,rfl,h⟩
       ·rw [zL gp.nd h1 h2 (BD (mnd p hp))]
        refine⟨_,_,rfl,_,ap,_,rfl,_,cW,_,_,rfl,_,ap,_,rfl,_,ij,?_⟩
        have mkl:=tM (c:=p) gp
        have pl:=gp.ln
        refine⟨by rw [Jf,Jf];omega,dh (fun _=> true) (fun z:Int×Str=> .str z.2) (fun z hz R S h=> ?_) ?_⟩
        ·simp only [cq]
         walk_at "rz"
         rw [if_pos rfl] at h
         exact h
        ·rw [tL,JH]
         refine⟨by rw [Jf,J8];omega,?_,_,rfl⟩
         have tk:ps.take (i+1)=ps.take i++[p]:=by rw [Kk,hz'];rfl
         rw [tk,J6,BA]
         ·congr 2
          show(_,_)=(_,_)
          unfold tW
          rw [JH];rfl
         ·rw [JH]
          intro hin
          obtain⟨m,hm,e⟩:=Jw.mp hin
          have e:m.nm=p.nm:=Nt e
          have nd:=gp.nd
          obtain⟨li,ei⟩:=Jr.mp hz'
          rw [LY,Kf] at nd
          obtain⟨j,hj,ej⟩:=MA hm
          rw [J8] at hj
          rw [List.getElem_take] at ej
          have:=K4.mp nd j i (by omega) li (by omega)
          rw [ej,ei] at this
          exact this e
   ·rintro δ ⟨o3,o4,o5,rfl⟩
    walk_at "rz"
    refine⟨ps.map (·.nm),?_,?_⟩
    ·rw [Jf,Jf,JQ (Jm _),JH,JH];rfl
    ·rw [Jf,Jf,JQ (Jm _),JH];exact q
end
end K16
open PySem L2
local macro_rules | `(tactic| walk_at "rzk") => rzT "↓sN ↓sO ↓sP ↓sQ ↓sR ↓sJ ↓rO ↓rP ↓rQ ↓rR ↓rS ↓rT ↓rV ↓rW ↓rX ↓rY ↓rZ ↓sd ↓se ↓sf ↓sg ↓sj ↓sk ↓sq ↓sr ↓su ↓sv ↓sA ↓sC ↓sE ↓sF ↓sG ↓sH ↓sI fP mD mF mE kC mG mH mL jJ dH mr dC cQ dI mS kK mT mU fQ m7 m6 dL kD kq jd gv eJ kr mv mw my mz mB mC jg qG qH qI qJ qK qL qM qN qO qP qQ qR qS qT qU qV qW qX qY qZ q5 rf rg rh rj rn rp rq rz rA rB rC rD rE rF rG rH rJ rK rL rM rN mV m8 kU kM kN mX mY mZ m4 m5 kQ m9 nc ic mM mN mO mP kX nJ qF nA nE jl nG nF ny nM nO nN nP nQ nS jm nT nU nV nW nX n8 n9 jS oj om og oh oi oo oq ou ow ox oB oC oF oE oI lz oJ oK oM oH vC qg qv qw qx qy qz qA qB qC qD ne_eq qo qp qr qt qu qi qj qm jK jL mQ jh mK mJ mI ib fb dS jz j9 i9 Jj Kc JC Kw Jx K1 Kx JX Ll Lm Mu Mv Mw K9 KS LN LH LI KL exists_eq_left' exists_eq_left exists_and_left exists_and_right LW LX Sl.v.injEq Sl.o.injEq Sl.k.injEq Ld Mg KP KQ LM J3 and_true true_and Mx Mp exists_const decide_eq_true_eq My Mz Mi Mj Lp decide_eq_false_iff_not and_assoc or_true true_or ↓reduceIte if_true if_false KC LJ not_true_eq_false not_false_eq_true MR MF ite_true ite_false eq_self exists_eq reduceCtorEq false_and and_false or_false false_or exists_false KU L8 jE MS Nf KI Ng MT LZ K8 L0 dU cW jM ij ng gF gG nj beq_self_eq_true fq pY nh cV sizeLine_eq K16.kw_keep_gone K16.kw_keep_while K16.kw_keep_follow K16.kw_keep_leave K16.kw_gone_keep K16.kw_gone_while K16.kw_gone_follow K16.kw_gone_leave K16.kw_while_keep K16.kw_while_gone K16.kw_while_follow K16.kw_follow_keep K16.kw_follow_gone K16.kw_follow_while K16.kw_leave_keep K16.kw_leave_gone K16.kw_leave_while K16.kw_leave_follow"
namespace K16
theorem BF:bH (ah fZ) ["_law_deeds_here","_law_day_here","_law_name","_law_gone","_law_coming","_law_kind","_law_elders","_law_away","_law_here","_law_stay","_law_leave","_law_deed_here","_law_word","_law_till"] ["_law_one","_law_gone","_law_day_here"] 1 [3,1] {kind:=Jt,names:=[ (Je ".0",PySem.NameKind.local),(Je "_law_one",PySem.NameKind.local),(Je "_law_day_here",Ju),(Je "_law_gone",Ju)],isGenerator:=false,isCoroutine:=false,more:=[]:JU}:=⟨rfl,by decide+kernel,by decide+kernel,by decide+kernel,rfl,by decide+kernel,by decide+kernel,by decide+kernel,rfl⟩
theorem BG:bH (ah fZ) ["_law_deeds_here","_law_day_here","_law_name","_law_gone","_law_coming","_law_kind","_law_elders","_law_away","_law_here","_law_stay","_law_leave","_law_deed_here","_law_word","_law_till"] ["_law_one","_law_away"] 1 [7] {kind:=Jt,names:=[ (Je ".0",PySem.NameKind.local),(Je "_law_one",PySem.NameKind.local),(Je "_law_away",Ju)],isGenerator:=false,isCoroutine:=false,more:=[]:JU}:=⟨rfl,by decide+kernel,by decide+kernel,by decide+kernel,rfl,by decide+kernel,by decide+kernel,by decide+kernel,rfl⟩
theorem cE{a b c:DS}{E:jc}{δ:Dl}(h:∀R,R=fP b c→a {E with nx:=fun δ'=> R E δ'} δ):fP a (fP b c) E δ:=h _ rfl
theorem iX{a b:DS}{E:jc}{δ:Dl}(h:∀R,R=b→a {E with nx:=fun δ'=> R E δ'} δ):fP a b E δ:=h _ rfl
section
theorem BH{r:Rp}{n:Int}(L M:List (Str×Pt)):cD r n (L++M)=cD r n L++cD r n M:=by
 unfold cD
 split
 ·rfl
 ·rw [List.filter_append]
theorem IC{r:Rp}{n:Int}{g:Gn}(L M:List (Str×Pt)):dP r n g (L++M)=dP r n g L++dP r n g M:=by unfold dP;rw [BH,L3]
theorem ID{r:Rp}{n:Int}{g:Gn}(L M:List (Str×Pt)):dQ r n g (L++M)=dQ r n g L++dQ r n g M:=by unfold dQ;rw [BH,L3]
theorem BI{r:Rp}{n:Int}{z:Str×Pt}(h:r.c.d≤n)(hk:z.2.kd=r.c.kd):cD r n [z]=[z]:=by
 unfold cD
 rw [if_neg (by omega),Ki,if_pos (by rw [hk];exact beq_self_eq_true _)];rfl
theorem BJ{r:Rp}{n:Int}{z:Str×Pt}(h:¬(r.c.d≤n∧z.2.kd=r.c.kd)):cD r n [z]=[]:=by
 unfold cD
 split
 ·rfl
 ·rename_i h1
  rw [Ki,if_neg (fun e=> h ⟨by omega,eq_of_beq e⟩)];rfl
theorem wc{r:Rp}{n:Int}{g:Gn}{nm w kd:Str}:(iT r n g (nm,.two w kd)).map bf=if w=Jc "while" then((eM r n g).head?.map fun m=> JG [.str nm,.str m]).toList else []:=by
 show(((if w=Jc "while" then(eM r n g).head?.map Jh else none:Option PyData).map fun b=> (nm,b)).toList).map bf=_
 split
 ·cases (eM r n g).head? <;> rfl
 ·rfl
theorem we{r:Rp}{n:Int}{g:Gn}{nm w kd:Str}:(iU r n g (nm,.two w kd)).map bf=if w=Jc "follow" then((eN r n g).head?.map fun m=> JG [.str nm,.str m]).toList else []:=by
 show(((if w=Jc "follow" then(eN r n g).head?.map Jh else none:Option PyData).map fun b=> (nm,b)).toList).map bf=_
 split
 ·cases (eN r n g).head? <;> rfl
 ·rfl
theorem BK{r:Rp}{n:Int}{g:Gn}{nm w kd:Str}{s:cv}{k:Int}{u:Str}:(iT r n g (nm,.five w kd s k u)).map bf=if w=Jc "keep"∧cS n (bU r n (.five w kd s k u))=true then [JG [.str nm,bT (bU r n (.five w kd s k u))]] else []:=by
 show(((if w=Jc "keep"∧cS n (bU r n (.five w kd s k u))=true then some (bT (bU r n (.five w kd s k u))) else none:Option PyData).map fun b=> (nm,b)).toList).map bf=_
 split <;> rfl
theorem BL{r:Rp}{n:Int}{g:Gn}{nm w kd:Str}{s:cv}{k:Int}{u:Str}:(iU r n g (nm,.five w kd s k u)).map bf=if w=Jc "gone"∧cS n (bU r n (.five w kd s k u))=false then [JG [.str nm,bT (bU r n (.five w kd s k u))]] else []:=by
 show(((if w=Jc "gone"∧cS n (bU r n (.five w kd s k u))=false then some (bT (bU r n (.five w kd s k u))) else none:Option PyData).map fun b=> (nm,b)).toList).map bf=_
 split <;> rfl
theorem IE{r:Rp}{n:Int}{g:Gn}{nm kd:Str}{s:cv}{k:Int}{u:Str}:(iT r n g (nm,.five (Jc "keep") kd s k u)).map bf=if cS n (bU r n (.five (Jc "keep") kd s k u))=true then [JG [.str nm,bT (bU r n (.five (Jc "keep") kd s k u))]] else []:=by
 rw [BK]
 by_cases h:cS n (bU r n (.five (Jc "keep") kd s k u))=true
 ·rw [if_pos ⟨rfl,h⟩,if_pos h]
 ·rw [if_neg fun z=> h z.2,if_neg h]
theorem IF{r:Rp}{n:Int}{g:Gn}{nm kd:Str}{s:cv}{k:Int}{u:Str}:(iU r n g (nm,.five (Jc "keep") kd s k u)).map bf=[]:=by
 rw [BL,if_neg fun z=> absurd z.1 (by decide+kernel)]
theorem IG{r:Rp}{n:Int}{g:Gn}{nm kd:Str}{s:cv}{k:Int}{u:Str}:(iT r n g (nm,.five (Jc "gone") kd s k u)).map bf=[]:=by
 rw [BK,if_neg fun z=> absurd z.1 (by decide+kernel)]
theorem IH{r:Rp}{n:Int}{g:Gn}{nm kd:Str}{s:cv}{k:Int}{u:Str}:(iU r n g (nm,.five (Jc "gone") kd s k u)).map bf=if cS n (bU r n (.five (Jc "gone") kd s k u))=false then [JG [.str nm,bT (bU r n (.five (Jc "gone") kd s k u))]] else []:=by
 rw [BL]
 by_cases h:cS n (bU r n (.five (Jc "gone") kd s k u))=false
 ·rw [if_pos ⟨rfl,h⟩,if_pos h]
 ·rw [if_neg fun z=> h z.2,if_neg h]
theorem BM{l:List Str}(hl:∀m∈l,Jp m=true){A:List PyData}{nm:Str}(ha:A.length≤41){C:List PyData→Prop}(q:C (A++(l.head?.map fun m=> JG [.str nm,.str m]).toList)):
  Ka (J0 (l.map fun m=> Jh m))=true∧Ka (J0 [])=true∧if (J0 (l.map fun m=> Jh m)).eqv (J0 [])=false then ∃x,atI (l.map fun m=> Jh m) 0=some x∧A.length < 16777216∧C (A++[JG [Jh nm,x]]) else C A:=by
 refine⟨(Bu (n:=1) fun d hd=> by obtain⟨m,hm,rfl⟩:=Jw.mp hd;exact bQ (hl m hm)).shp (by decide),by decide+kernel,?_⟩
 cases l with
 | nil=>
  rw [if_neg (by simp [JD,Ln])]
  simpa using q
 | cons m l=>
  rw [if_pos (by simp [JD,Ln])]
  exact⟨_,dU,by omega,q⟩
theorem BN{r:Rp}{n:Int}{g:Gn}(L:List (Str×Pt)):(dP r n g L).length≤L.length:=by
 unfold dP
 refine JL (tP (fun z=> vQ _) _) ?_
 unfold cD
 split
 ·simp
 ·exact J4 _ _
theorem BO{r:Rp}{n:Int}{g:Gn}(L:List (Str×Pt)):(dQ r n g L).length≤L.length:=by
 unfold dQ
 refine JL (tP (fun z=> vQ _) _) ?_
 unfold cD
 split
 ·simp
 ·exact J4 _ _
end
section
variable {P:Program} {w:World} {K:Jd} {mg:Str→Option Value} {base:Heap} {t:cJ}
noncomputable def tZ(xs:List De)(n:Int)(c:Pp)(g:Gn)(S G:List PyData)(o11 o12 o13:Option Sl):Dl:=[some (Sl.v (JG (JF De.enc xs))),some (Sl.v (Jg n)),some (Sl.v (Jh c.nm)),some (Sl.v g.enc),some (Sl.v (Jg c.d)),some (Sl.v (Jh c.kd)),some (Sl.v (J0 (JF Jh (JF (fun x=> x.nm) (cR (bb xs) c))))),some (Sl.v (J0 ((eN (bu xs c) n g).map fun m=> Jh m))),some (Sl.v (J0 ((eM (bu xs c) n g).map fun m=> Jh m))),some (Sl.o S),some (Sl.o G),o11,o12,o13]
def II:List PyData→(PyData→Prop)→Prop:=fun ds Q=> ∃(xs:List De)(n:Int)(c:Pp)(g:Gn),ds=[.tuple (xs.map De.enc),.int n,.str c.nm,g.enc]∧jw xs∧R5 xs∧c∈bb xs∧Q (.tuple [.tuple ((tQ xs n c g).map bf),.tuple ((tR xs n c g).map bf)])
set_option maxHeartbeats 0 in
theorem IJ(T:Txt K mg t):aK P w K mg base CX0 5 t.a_x41 t.d_x41 ["_law_deeds_here","_law_day_here","_law_name","_law_gone"] (bo K II):=by
 have G_x38:=BE (P:=P) (w:=w) (base:=base) T
 have G_x39:=Io (P:=P) (w:=w) (base:=base) T
 have G_x40:=Iy (P:=P) (w:=w) (base:=base) T
 refine T.F_x41.okD g4 (fun ds Q h=> ?_) (fun cdv A outer s H O ds Q E hr h=> ?_)
 ·obtain⟨xs,n,c,g,rfl,_⟩:=h;rfl
 ·obtain⟨xs,n,c,g,rfl,gl,r5,hc,q⟩:=h
  refine'⟨_,?body,?read⟩
  case body=>
   refine' au ?s1 ?r1
   case s1=> exact(uK (jT hr.units (PE.imp (ax G_x38 (hr.mono (by decide)) rfl T.m_x38 T.F_x38.kp T.b_x38 .nil av (aa (dv 0) aj)) aC) (dv 2) (fun _ _=> rfl)) (i7 (n:=3) rfl (dF (aU (i:=4) g4.nd rfl (by walk_at "o")) (dF (aU (i:=5) g4.nd rfl (by walk_at "o")) (dF (aU (i:=6) g4.nd rfl (by walk_at "o")) i6)))) (jI (d4 aY (d4 aY (d4 aY jH)))))
   case' r1=> refine' au ?s3 ?r3
   case s3=> exact(bL (i:=7) g4.nd rfl (by walk_at "o") (fe (gB rfl BF (df (dv 6)) aY cy (by decide) (fun _ _ _ _=> (aU (i:=0) BF.nd rfl (by walk_at "o"))) (fun _ _ _ _=> (dj (PW.pt (dn (zR hr.units (dv 1) (dv 0)) (dR (aI fH dJ (df (jT hr.units (dv 1) (dv 0) (fun _ _=> rfl))) (df (dv 2)) (ay _))))))) (fun _ _ _ _=> (dv 0)))))
   case' r3=> refine' au ?s5 ?r5
   case s5=> exact(ik (i:=8) g4.nd rfl (by walk_at "o") (nv rfl BG (df (dv 6)) aY cy (by decide) (fun _ _ _ _=> (aU (i:=0) BG.nd rfl (by walk_at "o"))) (fun _ _ _ _=> (dj (aI (yS hr) nB (df (dv 0)) (df (dv 1)) rfl))) (fun _ _ _ _=> (dv 0))))
   case' r5=> refine' au ?s7 ?r7
   case s7=> exact(GB (i:=9) (j:=10) rfl g4.nd rfl rfl (by decide) rfl rfl (by rfl))
   case' r7=> refine' au ?s9 ?r9
   case s9=>
    refine' kH Kd rfl (PE.imp (ax G_x39 (hr.mono (by decide)) rfl T.m_x39 T.F_x39.kp T.b_x39 .nil av (aa (dv 0) (aa (dv 1) (aa aS (aa aS aj))))) aC) ?a10 aY ?b10
    case a10=> exact(aU (i:=11) g4.nd rfl (by walk_at "o"))
    case' b10=> refine' aA ?s11
    case' s11=> refine' bt ?c12 ?a12 br
    case c12=> exact(PW.pt (dn (aI fH dJ (df (dv 4)) (df (dv 1)) (ay _)) (dR (aI (cz hr.units) cA (df (aq aE aF (df (aq aE aF (df (dv 11)) (df ag))) (df ag))) (df (dv 5)) (ay _)))))
    case' a12=> refine' au ?s13 ?r13
    case s13=> exact(kE (i:=12) (j:=13) rfl g4.nd rfl rfl (by decide) rfl rfl (aa (aq aE aF (df (aq aE aF (df (dv 11)) (df ag))) (df ag)) (aa eY aj)) (by rfl))
    case' r13=> refine' au ?s15 ?r15
    case s15=>
     refine' bt ?c16 ?a16 br
     case c16=> exact(aI (uX hr) uY (df (dv 12)) (df (bJ (aa aS (aa aS aj)))) rfl)
     case' a16=> refine' aA ?s17
     case' s17=> refine' bL (i:=13) g4.nd rfl (by walk_at "o") ?e18 (hs:=il)
     case e18=> exact(PE.imp (ax G_x40 (hr.mono (by decide)) rfl T.m_x40 T.F_x40.kp T.b_x40 .nil av (aa (dv 0) (aa (aq aE aF (df (dv 11)) (df ag)) (aa (dv 2) (aa (dv 1) (aa (dv 4) aj)))))) aC)
    case' r15=> refine' au ?s20 ?r20
    case s20=>
     refine' bt ?c21 ?a21 br
     case c21=> exact(PW.pt (dn (aI (cB hr) cC (df (dv 12)) (df aS) (ay _)) (dR (PW.pt (jf (aI ke la (df (dv 13)) (df eY) (ay _)) (je (aI kc dJ (df (dv 13)) (df (dv 1)) (ay _))))))))
     case' a21=> refine' aA ?s22
     case' s22=> refine' hZ (i:=9) (pv 9) ?e23
     case e23=> exact(bJ (aa (aq aE aF (df (dv 11)) (df ag)) (aa (dv 13) aj)))
    case' r20=> refine' au ?s25 ?r25
    case s25=>
     refine' bt ?c26 ?a26 br
     case c26=> exact(PW.pt (dn (aI (cB hr) cC (df (dv 12)) (df aS) (ay _)) (dn (aI uv u7 (df (dv 13)) (df eY) (ay _)) (dR (aI fH dJ (df (dv 13)) (df (dv 1)) (ay _))))))
     case' a26=> refine' aA ?s27
     case' s27=> refine' hZ (i:=10) (pv 10) ?e28
     case e28=> exact(bJ (aa (aq aE aF (df (dv 11)) (df ag)) (aa (dv 13) aj)))
    case' r25=> refine' au ?s30 ?r30
    case s30=>
     refine' bt ?c31 ?a31 br
     case c31=> exact(PW.pt (dn (aI (cB hr) cC (df (dv 12)) (df aS) (ay _)) (dR (aI (kJ hr.units) kL (df (dv 8)) (df (fe (cM aj))) (ay _)))))
     case' a31=> refine' aA ?s32
     case' s32=> refine' hZ (i:=9) (pv 9) ?e33
     case' e33=> refine' bJ ?t34
     case' t34=> refine' aa ?u35 ?w35
     case u35=> exact(aq aE aF (df (dv 11)) (df ag))
     case' w35=> refine' aa ?u37 aj
     case u37=> exact(aq bN cj (df (dv 8)) (df ag))
    case' r30=> refine' aA ?s40
    case' s40=> refine' bt ?c41 ?a41 br
    case c41=> exact(PW.pt (dn (aI (cB hr) cC (df (dv 12)) (df aS) (ay _)) (dR (aI (kJ hr.units) kL (df (dv 7)) (df (fe (cM aj))) (ay _)))))
    case' a41=> refine' aA ?s42
    case' s42=> refine' hZ (i:=10) (pv 10) ?e43
    case' e43=> refine' bJ ?t44
    case' t44=> refine' aa ?u45 ?w45
    case u45=> exact(aq aE aF (df (dv 11)) (df ag))
    case' w45=> refine' aa ?u47 aj
    case u47=> exact(aq bN cj (df (dv 7)) (df ag))
   case' r9=> refine' aA ?s50
   case' s50=> refine' aO ?e51
   case' e51=> refine' bJ ?t52
   case' t52=> refine' aa ?u53 ?w53
   case u53=> exact(PE.imp (eD hW rfl T.n_tuple fL (aW (dw 9) bp)) (bP ig))
   case' w53=> refine' aa ?u55 aj
   case u55=> exact(PE.imp (eD hW rfl T.n_tuple fL (aW (dw 10) bp)) (bP ig))
  case read=>
  clear hr T G_x38 G_x39 G_x40
  have gd:=gl.good
  walk_at "rz"
  have aw:=tX (f:=tW (bb xs)) gd.gx.gp.nd hc
  refine⟨xs,rfl,gl,_,_,rfl,_,aw,_,rfl,rfl,_,_,rfl,_,_,rfl,_,_,rfl,rfl,?_⟩
  have mkl:=tM (c:=c) gd.gx.gp
  have tok:∀m∈(cR (bb xs) c).map (·.nm),Jp m=true:=fun m hm=> by
   obtain⟨p,hp,rfl⟩:=Jw.mp hm
   exact gd.gx.gp.nm p (tJ.mp (JK.mp hp).1)
  have lm:(JF Jh (JF (fun x=> x.nm) (cR (bb xs) c))).length≤16777216:=by rw [Jf,Jf];omega
  refine⟨_,rfl,lm,dh (fun m=> g.has n m) (fun m=> .str m) (fun m hm R S h=> ?_) ?_⟩
  ·simp only [Gn.enc]
   walk_at "rz"
   refine⟨_,_,rfl,?_⟩
   rw [tO]
   have eh:g.has n m=match jX g.ks g.gs m with | some d=> decide (d≤n) | none=> false:=rfl
   rw [eh] at h
   cases ha:jX g.ks g.gs m with
   | none=>
    rw [ha] at h
    rw [if_neg (by simp)]
    rw [if_neg (by simp)] at h
    exact h
   | some d=>
    rw [ha] at h
    rw [if_pos (by rfl)]
    refine⟨_,_,rfl,.int d,by rw [tO,ha];rfl,_,rfl,?_⟩
    simpa using h
  ·refine⟨_,rfl,lm,dh (fun m=> !g.has n m) (fun m=> .str m) (fun m hm R S h=> ?_) ?_⟩
   ·walk_at "rz"
    have e1:((JF (fun m=> Jh m) (Oh (fun m=> g.has n m) (JF (fun x=> x.nm) (cR (bb xs) c)))).any fun d=> d.eqv (Jh m))=g.has n m:=by
     rw [show(fun m=> Jh m)=Jh from rfl,AI]
     cases hh:g.has n m with
     | true=> exact decide_eq_true (JK.mpr ⟨hm,hh⟩)
     | false=> exact decide_eq_false fun z=> by rw [(JK.mp z).2] at hh;cases hh
    refine⟨cO.mpr (tok m hm),?_,?_⟩
    ·exact Ay fun z hz=> tok z (JK.mp hz).1
    ·rw [e1]
     simpa using h
   ·refine⟨xs,n,rfl,gd,fun L hL h41 hR=> ⟨_,rfl,?_⟩⟩
    have ok:=vS gd hR h41
    have er:(bu xs c).ts=(cR (bb xs) c).map (·.nm):=rfl
    have ea:((cR (bb xs) c).map (·.nm)).filter (fun m=> g.has n m)=eN (bu xs c) n g:=rfl
    have el:((cR (bb xs) c).map (·.nm)).filter (fun m=> !g.has n m)=eM (bu xs c) n g:=rfl
    rw [ea,el]
    have q:Q (.tuple [.tuple ((dP (bu xs c) n g (bR xs n)).map bf),.tuple ((dQ (bu xs c) n g (bR xs n)).map bf)]):=q
    have lok:∀m∈eM (bu xs c) n g,Jp m=true:=fun m hm=> tok m (JK.mp hm).1
    have aok:∀m∈eN (bu xs c) n g,Jp m=true:=fun m hm=> tok m (JK.mp hm).1
    obtain⟨SA,sa0,sas,sal,sae⟩:∃SA:Nat→List PyData,SA 0=[]∧(∀i z,(bR xs n)[i]?=some z→SA (i+1)=SA i++(dP (bu xs c) n g [z]).map bf)∧(∀i,(SA i).length≤41)∧SA (bR xs n).length=(dP (bu xs c) n g (bR xs n)).map bf:=by
     refine⟨fun i=> (dP (bu xs c) n g ((bR xs n).take i)).map bf,?_,fun i z hz=> ?_,fun i=> ?_,by show JF bf _=_;rw [JQ (Jm _)]⟩
     ·show JF bf _=_
      rw [ME];unfold dP cD;split <;> rfl
     ·show JF bf _=JF bf _++_
      rw [Kk,hz,IC,J6];rfl
     ·show(JF bf _).length≤41
      have:=BN (r:=bu xs c) (n:=n) (g:=g) ((bR xs n).take i)
      rw [J8] at this
      rw [Jf];omega
    obtain⟨GA,ga0,gas,gal,gae⟩:∃GA:Nat→List PyData,GA 0=[]∧(∀i z,(bR xs n)[i]?=some z→GA (i+1)=GA i++(dQ (bu xs c) n g [z]).map bf)∧(∀i,(GA i).length≤41)∧GA (bR xs n).length=(dQ (bu xs c) n g (bR xs n)).map bf:=by
     refine⟨fun i=> (dQ (bu xs c) n g ((bR xs n).take i)).map bf,?_,fun i z hz=> ?_,fun i=> ?_,by show JF bf _=_;rw [JQ (Jm _)]⟩
     ·show JF bf _=_
      rw [ME];unfold dQ cD;split <;> rfl
     ·show JF bf _=JF bf _++_
      rw [Kk,hz,ID,J6];rfl
     ·show(JF bf _).length≤41
      have:=BO (r:=bu xs c) (n:=n) (g:=g) ((bR xs n).take i)
      rw [J8] at this
      rw [Jf];omega
    refine⟨fun i δ=> ∃o11 o12 o13:Option Sl,δ=tZ xs n c g (SA i) (GA i) o11 o12 o13,⟨_,_,_,by rw [sa0,ga0];rfl⟩,?_,?_⟩
    ·rintro i z δ hz ⟨o11,o12,o13,rfl⟩
     rw [JB] at hz
     cases hz':L[i]? with
     | none=> rw [hz'] at hz;cases hz
     | some y=>
      rw [hz'] at hz;cases hz
      obtain⟨dd,nm,pt⟩:=y
      have hr':(bR xs n)[i]?=some (nm,pt):=by rw [←hL,JB,hz'];rfl
      have xo:=ok.2 _ (JO hr')
      have sl:=sal i
      have gl2:=gal i
      have sas:=sas i _ hr'
      have gas:=gas i _ hr'
      simp only [oW]
      have w5:W5 pt.wd:=by
       obtain⟨d,_,hm,_⟩:=(hR.2 _).mp (JO hr')
       exact r5 _ _ _ hm
      have kok:Jp pt.kd=true:=Pt.kdOk xo
      have cok:=gd.gx.gp.kd c hc
      have e0:¬(c.d≤n∧pt.kd=c.kd)→SA i=SA (i+1)∧GA i=GA (i+1):=fun h=> by
       have e1:dP (bu xs c) n g [(nm,pt)]=[]:=by unfold dP;rw [BJ (r:=bu xs c) h];rfl
       have e2:dQ (bu xs c) n g [(nm,pt)]=[]:=by unfold dQ;rw [BJ (r:=bu xs c) h];rfl
       rw [sas,gas,e1,e2];simp
      have e1:c.d≤n∧pt.kd=c.kd→SA (i+1)=SA i++(iT (bu xs c) n g (nm,pt)).map bf∧GA (i+1)=GA i++(iU (bu xs c) n g (nm,pt)).map bf:=fun h=> by
       have e1:dP (bu xs c) n g [(nm,pt)]=iT (bu xs c) n g (nm,pt):=by unfold dP;rw [BI h.1 h.2];simp
       have e2:dQ (bu xs c) n g [(nm,pt)]=iU (bu xs c) n g (nm,pt):=by unfold dQ;rw [BI h.1 h.2];simp
       rw [sas,gas,e1,e2];exact⟨rfl,rfl⟩
      clear sas gas
      generalize hE:jc.mk _ _ _ _=EE
      have hnx:∀o11 o12 o13,EE.nx (tZ xs n c g (SA (i+1)) (GA (i+1)) o11 o12 o13):=fun o11 o12 o13=> by subst hE;exact⟨o11,o12,o13,rfl⟩
      clear hE
      simp only [tZ] at hnx⊢
      generalize SA (i+1)=SA1 at*
      generalize GA (i+1)=GA1 at*
      generalize SA i=SA0 at*
      generalize GA i=GA0 at*
      cases pt with
      | two w2 kd=>
       simp only [Pt.enc]
       generalize hB:fP (jJ 12 13 _) _=TB
       walk_at "rz"
       by_cases h1:c.d≤n
       ·rw [if_pos h1]
        refine⟨cO.mpr kok,cO.mpr cok,?_⟩
        by_cases hk:kd=c.kd
        ·obtain⟨rfl,rfl⟩:=e1 ⟨h1,hk⟩
         rw [if_pos (by rw [hk];exact beq_self_eq_true _)]
         subst hB
         have w5:W5 w2:=w5
         rcases w5 with e | e | e | e | e
         ·exact absurd (.inl e) xo.1
         ·exact absurd (.inr e) xo.1
         ·subst e
          rw [wc,we,if_pos rfl,if_neg (by decide+kernel),JX] at hnx
          refine cE fun R hR=> ?_;walk_at "rzk";subst hR
          refine cE fun R hR=> ?_;walk_at "rzk";subst hR
          refine cE fun R hR=> ?_;walk_at "rzk";subst hR
          refine cE fun R hR=> ?_;walk_at "rzk";subst hR
          refine iX fun R hR=> ?_
          walk_at "rzk"
          refine BM lok sl (C:=fun Z=> R EE [_,_,_,_,_,_,_,_,_,some (Sl.o Z),_,_,_,_]) ?_
          subst hR
          walk_at "rzk"
          exact hnx _ _ _
         ·subst e
          rw [wc,we,if_neg (by decide+kernel),if_pos rfl,JX] at hnx
          refine cE fun R hR=> ?_;walk_at "rzk";subst hR
          refine cE fun R hR=> ?_;walk_at "rzk";subst hR
          refine cE fun R hR=> ?_;walk_at "rzk";subst hR
          refine cE fun R hR=> ?_;walk_at "rzk";subst hR
          refine iX fun R hR=> ?_
          walk_at "rzk"
          subst hR
          walk_at "rzk"
          exact BM aok gl2 (C:=fun Z=> EE.nx [_,_,_,_,_,_,_,_,_,_,some (Sl.o Z),_,_,_]) (hnx _ _ _)
         ·subst e
          rw [wc,we,if_neg (by decide+kernel),if_neg (by decide+kernel),JX,JX] at hnx
          refine cE fun R hR=> ?_;walk_at "rzk";subst hR
          refine cE fun R hR=> ?_;walk_at "rzk";subst hR
          refine cE fun R hR=> ?_;walk_at "rzk";subst hR
          refine cE fun R hR=> ?_;walk_at "rzk";subst hR
          refine iX fun R hR=> ?_
          walk_at "rzk"
          subst hR
          walk_at "rzk"
          exact hnx _ _ _
        ·obtain⟨rfl,rfl⟩:=e0 fun z=> hk z.2
         rw [bS hk,if_neg Jk]
         exact hnx _ _ _
       ·obtain⟨rfl,rfl⟩:=e0 fun z=> h1 z.1
        rw [if_neg h1]
        exact hnx _ _ _
      | five w2 kd si k u=>
       simp only [Pt.enc]
       generalize hB:fP (jJ 12 13 _) _=TB
       walk_at "rz"
       by_cases h1:c.d≤n
       ·rw [if_pos h1]
        refine⟨cO.mpr kok,cO.mpr cok,?_⟩
        by_cases hk:kd=c.kd
        ·obtain⟨rfl,rfl⟩:=e1 ⟨h1,hk⟩
         rw [if_pos (by rw [hk];exact beq_self_eq_true _)]
         subst hB
         rcases xo.1 with e | e
         ·have e:w2=Jc "keep":=e
          subst e
          rw [IE,IF,JX] at hnx
          refine cE fun R hR=> ?_;walk_at "rzk";subst hR
          refine cE fun R hR=> ?_
          walk_at "rzk"
          refine⟨xs,c,_,kd,si,k,u,n,rfl,gd,hc,xo.2.2.1,xo.2.2.2.2.2,?_⟩
          subst hR
          generalize bU (bu xs c) n (Pt.five (Jc "keep") kd si k u)=ob at hnx⊢
          cases ob with
          | none=>
           simp only [bT]
           refine cE fun R hR=> ?_
           walk_at "rzk"
           simp only [cH,↓reduceIte]
           refine⟨by omega,?_⟩
           subst hR
           refine cE fun R hR=> ?_;walk_at "rzk";subst hR
           refine iX fun R hR=> ?_;walk_at "rzk";subst hR
           walk_at "rzk"
           exact hnx _ _ _
          | some d=>
           simp only [bT]
           refine cE fun R hR=> ?_
           walk_at "rzk"
           simp only [cH,KC,↓reduceIte]
           by_cases hd:n < d
           ·rw [if_pos (show cS n (some d)=true from decide_eq_true hd)] at hnx
            rw [if_pos hd]
            refine⟨by omega,?_⟩
            subst hR
            refine cE fun R hR=> ?_;walk_at "rzk";subst hR
            refine iX fun R hR=> ?_;walk_at "rzk";subst hR
            walk_at "rzk"
            exact hnx _ _ _
           ·rw [if_neg (show ¬cS n (some d)=true from fun z=> hd (of_decide_eq_true z)),JX] at hnx
            rw [if_neg hd]
            subst hR
            refine cE fun R hR=> ?_;walk_at "rzk";subst hR
            refine iX fun R hR=> ?_;walk_at "rzk";subst hR
            walk_at "rzk"
            exact hnx _ _ _
         ·have e:w2=Jc "gone":=e
          subst e
          rw [IG,IH,JX] at hnx
          refine cE fun R hR=> ?_;walk_at "rzk";subst hR
          refine cE fun R hR=> ?_
          walk_at "rzk"
          refine⟨xs,c,_,kd,si,k,u,n,rfl,gd,hc,xo.2.2.1,xo.2.2.2.2.2,?_⟩
          subst hR
          generalize bU (bu xs c) n (Pt.five (Jc "gone") kd si k u)=ob at hnx⊢
          refine cE fun R hR=> ?_;walk_at "rzk";subst hR
          cases ob with
          | none=>
           rw [if_neg (by simp [cS]),JX] at hnx
           simp only [bT]
           refine cE fun R hR=> ?_
           walk_at "rzk"
           simp only [cH,LJ,↓reduceIte]
           subst hR
           refine iX fun R hR=> ?_;walk_at "rzk";subst hR
           walk_at "rzk"
           exact hnx _ _ _
          | some d=>
           simp only [bT]
           refine cE fun R hR=> ?_
           walk_at "rzk"
           simp only [cH,↓reduceIte]
           by_cases hd:d≤n
           ·rw [if_pos (show cS n (some d)=false from decide_eq_false (by omega))] at hnx
            rw [if_pos hd]
            refine⟨by omega,?_⟩
            subst hR
            refine iX fun R hR=> ?_;walk_at "rzk";subst hR
            walk_at "rzk"
            exact hnx _ _ _
           ·rw [if_neg (show ¬cS n (some d)=false from fun z=> of_decide_eq_false z (by omega)),JX] at hnx
            rw [if_neg hd]
            subst hR
            refine iX fun R hR=> ?_;walk_at "rzk";subst hR
            walk_at "rzk"
            exact hnx _ _ _
        ·obtain⟨rfl,rfl⟩:=e0 fun z=> hk z.2
         rw [bS hk,if_neg Jk]
         exact hnx _ _ _
       ·obtain⟨rfl,rfl⟩:=e0 fun z=> h1 z.1
        rw [if_neg h1]
        exact hnx _ _ _
    ·rintro δ ⟨o11,o12,o13,rfl⟩
     simp only [tZ]
     walk_at "rz"
     have e:(L.map oW).length=(bR xs n).length:=by rw [←hL,Jf,Jf]
     rw [e,sae,gae]
     first | exact q | exact⟨_,.inl rfl,_,.inl rfl,q⟩ | (trace_state;skip)
end
end K16
open PySem L2
namespace K16
theorem BP:bH (ah gZ) ["_law_told","_law_due"] ["_law_k","_law_told","_law_due"] 1 [0,1] {kind:=Jt,names:=[ (Je ".0",PySem.NameKind.local),(Je "_law_k",PySem.NameKind.local),(Je "_law_same",J7),(Je "_law_due",Ju),(Je "_law_told",Ju)],isGenerator:=false,isCoroutine:=false,more:=[]:JU}:=⟨rfl,by decide+kernel,by decide+kernel,by decide+kernel,rfl,by decide+kernel,by decide+kernel,by decide+kernel,rfl⟩
section
variable {P:Program} {w:World} {K:Jd} {mg:Str→Option Value} {base:Heap} {t:cJ}
theorem IK{k:Nat}{f:Addr}{fd:FuncData}{ps:List Str}:aK P w K mg base CX0 k f fd ps (bo K fun _ _=> False):=⟨fun vs H Q E uu60=> by obtain⟨_,_,_,_,_,h,_⟩:=uu60;exact h.elim,fun _ _ _ _ _ _ _ _ _ _ _ _ _ uu61=> by obtain⟨_,_,_,_,_,h,_⟩:=uu61;exact h.elim⟩
def iY(F:List PyData→(PyData→Prop)→Prop):List PyData→(PyData→Prop)→Prop:=fun ds Q=> ∃x,ds=[x,x]∧(x= .none∨(∃i,x= .int i)∨(∃s,x= .str s∧Jp s=true)∨(∃b,x= .bool b)∨∃xs,x= .tuple xs∧xs.length≤1000∧∀y∈xs,∀R:PyData→Prop,R (.bool true)→F [y,y] R)∧Q (.bool true)
theorem t5{d:Nat}{F:List PyData→(PyData→Prop)→Prop}(T:Txt K mg t)(G_x42:aK P w K mg base CX0 d t.a_x42 t.d_x42 ["_law_told","_law_due"] (bo K F)):
  aK P w K mg base CX0 (d+1) t.a_x42 t.d_x42 ["_law_told","_law_due"] (bo K (iY F)):=by
 refine T.F_x42.okD GR (fun ds Q h=> ?_) (fun cdv A outer s H O ds Q E hr h=> ?_)
 ·obtain⟨x,rfl,_⟩:=h;rfl
 ·obtain⟨x,rfl,hx,q⟩:=h
  refine'⟨_,?body,?read⟩
  case body=>
   refine' au ?s1 ?r1
   case s1=>
    refine' bt ?c2 ?a2 br
    case c2=> exact(gw (jr (K':=K) (T:="tuple") rfl rfl T.n_isinstance jb (df (dv 1)) (i4 (v:= .ty "tuple") rfl T.n_tuple fL rfl)))
    case' a2=> refine' au ?s3 ?r3
    case s3=>
     refine' bt ?c4 ?a4 br
     case c4=> exact(PW.pt (jf (ku (gw (jr (K':=K) (T:="tuple") rfl rfl T.n_isinstance jb (df (dv 0)) (i4 (v:= .ty "tuple") rfl T.n_tuple fL rfl)))) (je (aI (kJ hr.units) kL (df (PE.imp (bX fk rfl T.n_len Kv (aW (df (dv 0)) bp)) (bP gE))) (df (PE.imp (bX fk rfl T.n_len Kv (aW (df (dv 1)) bp)) (bP gE))) (ay _)))))
     case a4=> refine' aA (aO jF)
    case' r3=> refine' aA ?s7
    case' s7=> refine' aO ?e8
    case e8=> exact(PE.imp (bX (D2 rfl) rfl T.n_all D4 (aW (df (fe (uM rfl BP rfl T.n_range (aW (df (PE.imp (bX fk rfl T.n_len Kv (aW (df (dv 1)) bp)) (bP gE))) bp) aY cy (by decide) (fun _ _ _ _=> (aU (i:=0) BP.nd rfl (by walk_at "o"))) (fun _ _ _ _=> jj) (fun _ _ _ _=> (PE.imp (ax G_x42 (hr.mono (Jm _)) rfl T.m_x42 T.F_x42.kp T.b_x42 .nil av (aa (aq aE aF (df (dv 1)) (df (dv 0))) (aa (aq aE aF (df (dv 2)) (df (dv 0))) aj))) aC))))) bp)) (bP yx))
   case' r1=> refine' au ?s10 ?r10
   case s10=>
    refine' bt ?c11 ?a11 br
    case c11=> exact(aI ke la (df (dv 1)) (df eY) (ay _))
    case' a11=> refine' aA ?s12
    case s12=> exact(aO (eI ke la (df (dv 0)) (df eY) (ay _)))
   case' r10=> refine' au ?s14 ?r14
   case s14=>
    refine' bt ?c15 ?a15 br
    case c15=> exact(gw (jr (K':=K) (T:="str") rfl rfl T.n_isinstance jb (df (dv 1)) (i4 (v:= .ty "str") rfl T.n_str yg rfl)))
    case' a15=> refine' aA ?s16
    case' s16=> refine' aO ?e17
    case e17=> exact(kA (jr (K':=K) (T:="str") rfl rfl T.n_isinstance jb (df (dv 0)) (i4 (v:= .ty "str") rfl T.n_str yg rfl)) (kz (eI (cz hr.units) cA (df (dv 0)) (df (dv 1)) (ay _))))
   case' r14=> refine' au ?s19 ?r19
   case s19=>
    refine' bt ?c20 ?a20 br
    case c20=> exact(gw (jr (K':=K) (T:="bool") rfl rfl T.n_isinstance jb (df (dv 1)) (i4 (v:= .ty "bool") rfl T.n_bool uH rfl)))
    case' a20=> refine' aA ?s21
    case' s21=> refine' aO ?e22
    case e22=> exact(kA (jr (K':=K) (T:="bool") rfl rfl T.n_isinstance jb (df (dv 0)) (i4 (v:= .ty "bool") rfl T.n_bool uH rfl)) (kz (eI (cz hr.units) cA (df (dv 0)) (df (dv 1)) (ay _))))
   case' r19=> refine' aA ?s24
   case' s24=> refine' aO ?e25
   case e25=> exact(kA (jr (K':=K) (T:="int") rfl rfl T.n_isinstance jb (df (dv 0)) (i4 (v:= .ty "int") rfl T.n_int mq rfl)) (kA (Ea (jr (K':=K) (T:="bool") rfl rfl T.n_isinstance jb (df (dv 0)) (i4 (v:= .ty "bool") rfl T.n_bool uH rfl))) (kz (eI (cz hr.units) cA (df (dv 0)) (df (dv 1)) (ay _)))))
  case read=>
  clear hr T G_x42
  rcases hx with rfl | ⟨i,rfl⟩ | ⟨s,rfl,hs⟩ | ⟨b,rfl⟩ | ⟨xs,rfl,hl,hF⟩ <;> walk_at "rz" <;> simp only [Fc,Fb,E9,E8]
  ·simpa [kY,cH,nI,nH,gG,Ka,JN,K7] using q
  ·simpa [kY,qh,cH,nI,nH,gG,Ka,JN,K7] using q
  ·simpa [kY,qh,cH,nI,nH,gF,hs,Ka,JN,K7] using q
  ·simpa [kY,qh,cH,nI,nH,nj,Ka,JN,K7] using q
  ·simp only [kY]
   walk_at "rz"
   refine⟨by simp,by simp,by omega,by omega,Fe (p:=fun b=> Q (.bool b)) (fun _=> true) (fun x hx R hR=> ?_) ?_⟩
   ·obtain⟨i,hi⟩:=Lu hx
    obtain⟨hlt,rfl⟩:=jO hi
    have hj:i < xs.length:=by omega
    have ha:atI xs (0+(i:Int))=some xs[i]:=by rw [OY];exact fJ (by simp [hj])
    walk_at "rz"
    exact⟨xs[i],ha,xs[i],ha,hF _ (KH hj) R hR⟩
   ·have e:∀l:List PyData,((l.map fun _=> true).all id)=true:=fun l=> by rw [List.all_map];exact Lc.mpr fun _ _=> rfl
    rw [e];exact q
def jZ(x:PyData):Prop:=x= .none∨(∃i,x= .int i)∨(∃s,x= .str s∧Jp s=true)∨(∃b,x= .bool b)
theorem jZ.sm{x:PyData}{F:List PyData→(PyData→Prop)→Prop}(h:jZ x){R:PyData→Prop}(r:R (.bool true)):iY F [x,x] R:=⟨x,rfl,by
 rcases h with h | h | h | h
 ·exact .inl h
 ·exact .inr (.inl h)
 ·exact .inr (.inr (.inl h))
 ·exact .inr (.inr (.inr (.inl h))),r⟩
def BQ:=iY fun _ _=> False
theorem IL(T:Txt K mg t):aK P w K mg base CX0 9 t.a_x42 t.d_x42 ["_law_told","_law_due"] (bo K (iY (iY (iY BQ)))):=t5 T (t5 T (t5 T (t5 T (d:=5) IK)))
theorem wg{F:List PyData→(PyData→Prop)→Prop}{xs:List PyData}(hl:xs.length≤1000)(h:∀y∈xs,∀R:PyData→Prop,R (.bool true)→F [y,y] R){R:PyData→Prop}(r:R (.bool true)):iY F [.tuple xs,.tuple xs] R:=⟨_,rfl,.inr (.inr (.inr (.inr ⟨xs,rfl,hl,h⟩))),r⟩
def wj(cs:List (Str×PyData)):Prop:=cs.length≤41∧∀z∈cs,Jp z.1=true∧jZ z.2
theorem BR{cs:List (Str×PyData)}(h:wj cs){R:PyData→Prop}(r:R (.bool true)):iY (iY BQ) [.tuple (cs.map bf),.tuple (cs.map bf)] R:=by
 refine wg (by rw [Jf];have:=h.1;omega) (fun y hy R r=> ?_) r
 obtain⟨z,hz,rfl⟩:=Jw.mp hy
 obtain⟨h1,h2⟩:=h.2 z hz
 refine wg (by simp) (fun y hy R r=> ?_) r
 simp only [Jy,Ks,or_false] at hy
 rcases hy with e | e <;> subst e
 ·exact jZ.sm (.inr (.inr (.inl ⟨_,rfl,h1⟩))) r
 ·exact h2.sm r
theorem BS(o:Option Int):jZ (bT o):=by cases o with | none=> exact .inl rfl | some i=> exact .inr (.inl ⟨i,rfl⟩)
theorem IM{r:Rp}{n:Int}{g:Gn}{pt:Pt}{b:PyData}(ro:fB r)(h:oT r n g pt=some b):jZ b:=by
 cases pt with
 | two w kd=>
  have h:(if w=Jc "while" then(eM r n g).head?.map Jh else none)=some b:=h
  split at h
  ·cases hl:(eM r n g).head? with
   | none=> rw [hl] at h;cases h
   | some m=>
    rw [hl] at h;cases h
    have hm:m∈eM r n g:=NK hl
    exact .inr (.inr (.inl ⟨m,rfl,ro.2.2.2 m (JK.mp hm).1⟩))
  ·cases h
 | five w kd s k u=>
  have h:(if w=Jc "keep"∧cS n (bU r n (.five w kd s k u))=true then some (bT (bU r n (.five w kd s k u))) else none)=some b:=h
  split at h
  ·cases h;exact BS _
  ·cases h
theorem IP{r:Rp}{n:Int}{g:Gn}{pt:Pt}{b:PyData}(ro:fB r)(h:oU r n g pt=some b):jZ b:=by
 cases pt with
 | two w kd=>
  have h:(if w=Jc "follow" then(eN r n g).head?.map Jh else none)=some b:=h
  split at h
  ·cases hl:(eN r n g).head? with
   | none=> rw [hl] at h;cases h
   | some m=>
    rw [hl] at h;cases h
    have hm:m∈eN r n g:=NK hl
    exact .inr (.inr (.inl ⟨m,rfl,ro.2.2.2 m (JK.mp hm).1⟩))
  ·cases h
 | five w kd s k u=>
  have h:(if w=Jc "gone"∧cS n (bU r n (.five w kd s k u))=false then some (bT (bU r n (.five w kd s k u))) else none)=some b:=h
  split at h
  ·cases h;exact BS _
  ·cases h
theorem BU{r:Rp}{n:Int}{L:List (Str×Pt)}{z:Str×Pt}(h:z∈cD r n L):z∈L:=by
 unfold cD at h
 split at h
 ·cases h
 ·exact(JK.mp h).1
theorem BV{xs:List De}{n:Int}(g:dD xs)(h:fA xs n (bR xs n)):∀z∈bR xs n,Jp z.1=true:=fun z hz=> by
 obtain⟨d,_,hm,_⟩:=(h.2 z).mp hz
 exact g.gx.nm _ hm
theorem IQ{xs:List De}{n:Int}{c:Pp}{g:Gn}(gd:dD xs)(h:fA xs n (bR xs n))(hl:(bR xs n).length≤41)(ro:fB (bu xs c)):wj (tQ xs n c g):=by
 refine⟨JL (BN _) hl,fun z hz=> ?_⟩
 unfold tQ dP at hz
 obtain⟨y,hy,hz⟩:=Ow.mp hz
 unfold iT at hz
 cases hb:oT (bu xs c) n g y.2 with
 | none=> rw [hb] at hz;cases hz
 | some b=>
  rw [hb] at hz
  have e:z=(y.1,b):=by simpa using hz
  rw [e]
  exact⟨BV gd h y (BU hy),IM ro hb⟩
theorem IS{xs:List De}{n:Int}{c:Pp}{g:Gn}(gd:dD xs)(h:fA xs n (bR xs n))(hl:(bR xs n).length≤41)(ro:fB (bu xs c)):wj (tR xs n c g):=by
 refine⟨JL (BO _) hl,fun z hz=> ?_⟩
 unfold tR dQ at hz
 obtain⟨y,hy,hz⟩:=Ow.mp hz
 unfold iU at hz
 cases hb:oU (bu xs c) n g y.2 with
 | none=> rw [hb] at hz;cases hz
 | some b=>
  rw [hb] at hz
  have e:z=(y.1,b):=by simpa using hz
  rw [e]
  exact⟨BV gd h y (BU hy),IP ro hb⟩
def IT:List PyData→(PyData→Prop)→Prop:=fun ds Q=> ∃(xs:List De)(n:Int)(g:Gn),ds=[.tuple (xs.map De.enc),.int n,g.enc]∧jw xs∧R5 xs∧Q (.bool true)
theorem IU(T:Txt K mg t):aK P w K mg base CX0 10 t.a_x43 t.d_x43 ["_law_deeds_here","_law_day_here","_law_gone"] (bo K IT):=by
 have G_x38:=BE (P:=P) (w:=w) (base:=base) T
 have G_x41:=IJ (P:=P) (w:=w) (base:=base) T
 have G_x42:=IL (P:=P) (w:=w) (base:=base) T
 have G_x23:=HK (P:=P) (w:=w) (base:=base) T
 have G_x24:=HL (P:=P) (w:=w) (base:=base) T
 refine T.F_x43.okD oN (fun ds Q h=> ?_) (fun cdv A outer s H O ds Q E hr h=> ?_)
 ·obtain⟨xs,n,g,rfl,_⟩:=h;rfl
 ·obtain⟨xs,n,g,rfl,gl,r5,q⟩:=h
  refine'⟨_,?body,?read⟩
  case body=>
   refine' au ?s1 ?r1
   case s1=>
    refine' kH Kd rfl (fe (Gq rfl rfl T.n_sorted Kz (PE.imp (ax G_x38 (hr.mono (by decide)) rfl T.m_x38 T.F_x38.kp T.b_x38 .nil av (aa (dv 0) aj)) aC))) ?a2 aY ?b2
    case a2=> exact(aU (i:=3) oN.nd rfl (by walk_at "o"))
    case' b2=> refine' au ?s3 ?r3
    case s3=> exact(bL (i:=4) oN.nd rfl (by walk_at "o") (PE.imp (ax G_x41 (hr.mono (by decide)) rfl T.m_x41 T.F_x41.kp T.b_x41 .nil av (aa (dv 0) (aa (dv 1) (aa (dv 3) (aa (dv 2) aj))))) aC))
    case' r3=> refine' au ?s5 ?r5
    case s5=> exact(bL (i:=5) oN.nd rfl (by walk_at "o") (PE.imp (eD Gw rfl T.n_dict yh (aW (df (dv 2)) bp)) (bP Gx)))
    case' r5=> refine' au ?s7 ?r7
    case s7=>
     refine' bL (i:=6) oN.nd rfl (by walk_at "o") ?e8 (hs:=za)
     case' e8=> refine' bJ ?t9
     case' t9=> refine' aa ?u10 ?w10
     case u10=> exact(PE.imp (ax G_x23 (hr.mono (by decide)) rfl T.m_x23 T.F_x23.kp T.b_x23 .nil av (aa (dv 0) (aa (dv 1) (aa (dv 3) (aa (dv 5) aj))))) aC)
     case' w10=> refine' aa ?u12 aj
     case u12=> exact(PE.imp (ax G_x24 (hr.mono (by decide)) rfl T.m_x24 T.F_x24.kp T.b_x24 .nil av (aa (dv 0) (aa (dv 1) (aa (dv 3) (aa (dv 5) aj))))) aC)
    case' r7=> refine' aA ?s15
    case' s15=> refine' bt ?c16 ?a16 br
    case c16=> exact(PW.pt (jf (ku (gw (PE.imp (ax G_x42 (hr.mono (Jm _)) rfl T.m_x42 T.F_x42.kp T.b_x42 .nil av (aa (dv 6) (aa (dv 4) aj))) aC))) (je (aI (Gy hr.units) Gz (df (dv 5)) (df (dv 2)) (ay _)))))
    case a16=> refine' aA (aO jF)
   case r1=> refine' aA (aO jF)
  case read=>
  clear hr T G_x38 G_x41 G_x42 G_x23 G_x24
  have gd:=gl.good
  walk_at "rz"
  have pl:=gd.gx.gp.ln
  refine⟨xs,rfl,gl,(bb xs).map (·.nm),⟨_,rfl⟩,by rw [Jf];omega,?_⟩
  have sp:=fc ((bb xs).map (·.nm))
  refine⟨fun i δ=> ∃o3 o4 o5 o6:Option Sl,δ=[some (Sl.v (JG (JF De.enc xs))),some (Sl.v (Jg n)),some (Sl.v g.enc),o3,o4,o5,o6],⟨_,_,_,_,rfl⟩,?_,?_⟩
  ·rintro i z δ hz ⟨o3,o4,o5,o6,rfl⟩
   obtain⟨nm,hnm,rfl⟩:=Jw.mp (JO hz)
   obtain⟨p,hp,rfl⟩:=Jw.mp (sp.mem_iff.mp hnm)
   clear hz hnm
   walk_at "rz"
   refine⟨xs,n,p,g,rfl,gl,r5,hp,g.ks,g.gs.map .int,rfl,xs,n,p,g,rfl,gd,hp,fun h1 h2 h3=> ⟨xs,n,p,g,rfl,gd,hp,fun _ _ _=> ?_⟩⟩
   refine wg (by simp) (fun y hy R r=> ?_) ⟨true,rfl,?_⟩
   ·simp only [Jy,Ks,or_false] at hy
    rcases hy with e | e <;> subst e
    ·exact BR (IQ gd h1 h2 h3) r
    ·exact BR (IS gd h1 h2 h3) r
   ·rw [if_neg (by decide)]
    exact⟨g.ks,g.gs,rfl,rfl,_,rfl⟩
  ·rintro δ ⟨o3,o4,o5,o6,rfl⟩
   walk_at "rz"
   exact q
end
end K16
open PySem L2
namespace K16
section
variable {P:Program} {w:World} {K:Jd} {mg:Str→Option Value} {base:Heap} {t:cJ}
def F_x44:List PyData→(PyData→Prop)→Prop:=fun ds Q=> ∃ns:List Int,ds=[eQ (ns.map .int)]∧ns.length≤63∧(∀z∈ns,Ky z≤1048576)∧Q (.bool true)
def sp_law(K:Jd):Sp:=bo K F_x44
theorem start_law{K:Jd}{H:Hp}{a:Addr}{ns:List Int}(hl:ns.length≤63)(hb:∀z∈ns,Ky z≤1048576)(hS:aP K H a (ns.map V.int)):sp_law K [.ref a] H (fun v _=> v= .bl true) fun _ _ _=> False:=
 ⟨fun _=> False,[eQ (ns.map .int)],fun d=> d= .bool true,fun _ z=> z.elim,.cons (.scr (by
  rcases hS with h | h
  ·exact .inl ⟨h,fun z=> z⟩
  ·exact .inr (.inr h)) (ak.ints ns)) .nil,⟨ns,rfl,hl,hb,rfl⟩,fun d v H' e _ r=> by subst e;cases r;rfl⟩
def j2:List Str:=["while","follow","while","follow","keep","end"]
theorem IV:∀m∈j2,Jp m=true∧m≠Jc "paper":=by
 intro z hz
 have a:j2.all (fun z=> Jp z && decide (z≠Jc "paper"))=true:=by decide+kernel
 have:=Lc.mp a z hz
 simp only [Kh,decide_eq_true_eq] at this
 exact this
theorem IW:∀m∈j2,m ∉ lP→W5 m:=by
 intro z hz hn
 have a:j2.all (fun z=> decide (z∈lP) || decide (z=Jc "keep"∨z=Jc "gone"∨z=Jc "while"∨z=Jc "follow"∨z=Jc "leave"))=true:=by decide+kernel
 have:=Lc.mp a z hz
 simp only [LG,decide_eq_true_eq] at this
 exact this.resolve_left hn
def iZ(g:List (Str×Int)):List (ai×PyData):=g.map fun p=> (.inr p.1,.int p.2)
theorem IX(g:List (Str×Int)):(iZ g).length=g.length:=Jf ..
theorem IY(g:List (Str×Int))(z:Str)(d:Int):∃g',dM (iZ g) (.inr z) (.int d)=iZ g'∧g'.length≤g.length+1:=by
 unfold dM
 split
 ·refine⟨g.map fun p=> if p.1=z then(p.1,d) else p,?_,by rw [Jf];omega⟩
  unfold iZ
  rw [JH,JH]
  refine MB fun p _=> ?_
  show(if (Ke p.1:ai)= .inr z then _ else _)=_
  by_cases h:p.1=z
  ·rw [if_pos (by rw [h])];show _=(Ke (if p.1=z then(p.1,d) else p).1,Jg (if p.1=z then(p.1,d) else p).2);rw [if_pos h]
  ·rw [if_neg (fun e=> h (Nt e))];show _=(Ke (if p.1=z then(p.1,d) else p).1,Jg (if p.1=z then(p.1,d) else p).2);rw [if_neg h]
 ·exact⟨g++[(z,d)],by unfold iZ;rw [J6];rfl,by simp⟩
theorem ok_law(T:Txt K mg t):aK P w K mg base CX0 11 t.a_x44 t.d_x44 ["_law_script"] (sp_law K):=by
 have G_x37:=Ij (P:=P) (w:=w) (base:=base) T
 have G_x26:=A8 (P:=P) (w:=w) (base:=base) T
 have G_x25:=Bc (P:=P) (w:=w) (base:=base) T
 have G_x27:=lO (P:=P) (w:=w) (base:=base) T
 have G_x43:=IU (P:=P) (w:=w) (base:=base) T
 refine T.F_x44.okD gb (fun ds Q h=> ?_) (fun cdv A outer s H O ds Q E hr h=> ?_)
 ·obtain⟨ns,rfl,_⟩:=h;rfl
 ·obtain⟨ns,rfl,hl,hb,q⟩:=h
  refine'⟨_,?body,?read⟩
  case body=>
   refine' au ?s1 ?r1
   case s1=>
    generalize hE2_0:OJ _ _=ee2_0
    exact bL (i:=1) gb.nd rfl (by walk_at "o") (fe (uR (ds:=[.str "while",.str "follow",.str "while",.str "follow",.str "keep",.str "end"]) (by first | (subst hE2_0;rfl)))) (hs:=EM (ds:=[.str "while",.str "follow",.str "while",.str "follow",.str "keep",.str "end"]) (by first | (subst hE2_0;rfl)))
   case' r1=> refine' au ?s3 ?r3
   case s3=> exact(uK (PE.imp (ax G_x37 (hr.mono (by decide)) rfl T.m_x37 T.F_x37.kp T.b_x37 .nil av (aa (dv 0) (aa (dv 1) (aa ag aj)))) aC) (i7 (n:=3) rfl (dF (aU (i:=2) gb.nd rfl (by walk_at "o")) (dF (aU (i:=3) gb.nd rfl (by walk_at "o")) (dF (aU (i:=4) gb.nd rfl (by walk_at "o")) i6)))) (jI (d4 aY (d4 aY (d4 aY jH)))))
   case' r3=> refine' au ?s5 ?r5
   case s5=>
    refine' Ec Kd rfl rfl T.n_range (aa ag (aa (PE.imp (bX (pC rfl) rfl T.n_max Li (aW (df ag) (aW (df (PE.imp (bX (uw rfl) rfl T.n_min LQ (aW (df (PE.imp (bX fk rfl T.n_len Kv (aW (df (dv 0)) bp)) (bP yw))) (aW (df ag) bp))) (bP kO))) bp))) (bP kO)) aj)) ?a6 aY ?b6
    case a6=> exact(aU (i:=5) gb.nd rfl (by walk_at "o"))
    case' b6=> refine' au ?s7 ?r7
    case s7=> exact(bL (i:=6) gb.nd rfl (by walk_at "o") (PE.imp (ax G_x26 (hr.mono (by decide)) rfl T.m_x26 T.F_x26.kp T.b_x26 .nil av (aa (PE.imp (ax G_x25 (hr.mono (by decide)) rfl T.m_x25 T.F_x25.kp T.b_x25 .nil av (aa (dv 0) (aa (dv 5) aj))) aC) aj)) aC))
    case' r7=> refine' au ?s9 ?r9
    case s9=>
     generalize hG10:N8 _ _ _ _=eg10
     refine' bL (i:=7) gb.nd rfl (by walk_at "o") ?e10 (hs:=by subst hG10;exact il)
     case' e10=> subst hG10
     exact(PE.imp (bX (pC rfl) rfl T.n_max Li (aW (df ag) (aW (df (aM bw bF (df (aq aE aF (df (aq aE aF (df (dv 2)) (df (PE.imp (ax G_x27 (hr.mono (by decide)) rfl T.m_x27 T.F_x27.kp T.b_x27 .nil av (aa (dv 6) (aa (PE.imp (bX fk rfl T.n_len Kv (aW (df (dv 2)) bp)) (bP gE)) aj))) aC)))) (df ag))) (df (aq bN cj (df (fe (cM (aa ag (aa ag (aa (qE ag) (aa ag aj))))))) (df (PE.imp (ax G_x27 (hr.mono (by decide)) rfl T.m_x27 T.F_x27.kp T.b_x27 .nil av (aa (dv 6) (aa ag aj))) aC)))))) bp))) (bP kO))
    case' r9=> refine' au ?s12 ?r12
    case s12=> exact(kZ (i:=8) gb.nd rfl (by walk_at "o") sL)
    case' r12=> refine' au ?s14 ?r14
    case s14=>
     refine' kH Kd rfl (dv 3) ?a15 aY ?b15
     case a15=> exact(aU (i:=9) gb.nd rfl (by walk_at "o"))
     case' b15=> refine' au ?s16 ?r16
     case s16=> exact(bL (i:=10) gb.nd rfl (by walk_at "o") (PE.imp (ax G_x27 (hr.mono (by decide)) rfl T.m_x27 T.F_x27.kp T.b_x27 .nil av (aa (dv 6) (aa ag aj))) aC))
     case' r16=> refine' aA ?s18
     case' s18=> refine' bt ?c19 ?a19 br
     case c19=> exact(aI kc dJ (df (dv 10)) (df ag) (ay _))
     case' a19=> refine' aA ?s20
     case s20=> exact(sM (i:=8) hr.units (pv 8) (dv 9) (PE.imp (bX (pC rfl) rfl T.n_max Li (aW (df ag) (aW (df (aM bw bF (df (dv 7)) (df (aq bN cj (df (fe (cM (aa (qE ag) (aa ag (aa ag (aa (qE ag) (aa ag aj)))))))) (df (aM cK bF (df (dv 10)) (df ag))))))) bp))) (bP kO)))
    case' r14=> refine' aA ?s22
    case' s22=> refine' vf 8 ?z23
    case' z23=> refine' bt ?c24 ?a24 br
    case c24=> exact(ku (gw (PE.imp (ax G_x43 (hr.mono (by decide)) rfl T.m_x43 T.F_x43.kp T.b_x43 .nil av (aa (dv 2) (aa (dv 7) (aa (dv 8) aj)))) aC)))
    case a24=> refine' aA (aO jF)
   case r5=> refine' aA (aO jF)
  case read=>
  clear G_x37 G_x26 G_x25 G_x27 G_x43 hr T
  walk_at "rz"
  refine⟨ns,j2,10,rfl,by decide,by decide,IV,by decide,by decide,fun xs nms far gl rm x0 nl nok=> ?_⟩
  refine⟨_,rfl,rfl,_,_,rfl,_,_,rfl,_,_,rfl,rfl,_,rfl,?_⟩
  rw [Jf]
  have hM:∃m:Int,(if (if 38 < (ns.length:Int) then 38 else(ns.length:Int)) > 32 then if 38 < (ns.length:Int) then 38 else(ns.length:Int) else 32)=m∧32≤m∧m≤38:=⟨_,rfl,by split <;> split <;> omega,by split <;> split <;> omega⟩
  obtain⟨m,em,m0,m1⟩:=hM
  rw [em]
  clear em
  have gd:=gl.good
  have ln:=gd.gx.ln
  have r5:R5 xs:=fun d nm pt h=> IW _ (rm _ h d nm pt rfl).1 (rm _ h d nm pt rfl).2
  refine⟨by omega,by omega,fun i δ=> ∃o5 o6 o7 o8 o9 o10:Option Sl,δ=[some (Sl.v (eQ (ns.map .int))),some (Sl.v (.list (j2.map .str))),some (Sl.v (.tuple (xs.map De.enc))),some (Sl.v (.list (nms.map .str))),some (Sl.v (.int far)),o5,o6,o7,o8,o9,o10],⟨_,_,_,_,_,_,rfl⟩,?_,?_⟩
  ·rintro i z δ hz ⟨o5,o6,o7,o8,o9,o10,rfl⟩
   obtain⟨hi,rfl⟩:=jO hz
   clear hz
   walk_at "rz"
   have xl:0 < xs.length:=NW.mpr x0
   refine⟨ns,_,rfl,by omega,by omega,fun c=> ⟨c,rfl,_,rfl,by rw [Jf];omega,by rw [Jf];omega,fun v v0 v1=> ?_⟩⟩
   rw [Jf] at v1
   obtain⟨j,rfl⟩:=KR v0
   have hj:j < xs.length:=by omega
   have ej:∃rx,xs[j].enc= .tuple (.str xs[j].w:: .int xs[j].d:: .str xs[j].nm::rx):=by cases xs[j] <;> exact⟨_,rfl⟩
   obtain⟨rx,ej⟩:=ej
   refine⟨_,rfl,_,fJ (by simp [hj];exact ej),_,rfl,_,cW,4,rfl,by decide,by decide,fun u u0 u1=> ⟨_,rfl,?_⟩⟩
   obtain⟨e,ee⟩:∃e:Int,atI [Jg 0,Jg 1,Jg (-1),Jg 7] u=some (.int e):=by
    have:u=0∨u=1∨u=2∨u=3:=by omega
    rcases this with h | h | h | h <;> subst h <;> exact⟨_,rfl⟩
   refine⟨_,ee,_,rfl,_,rfl,?_⟩
   generalize (if xs[j].d+e > 0 then xs[j].d+e else 0)=n
   refine⟨fun i2 δ=> ∃(g:List (Str×Int))(o9 o10:Option Sl),g.length≤i2∧δ=[some (Sl.v (eQ (ns.map .int))),some (Sl.v (.list (j2.map .str))),some (Sl.v (.tuple (xs.map De.enc))),some (Sl.v (.list (nms.map .str))),some (Sl.v (.int far)),some (Sl.v (Jg (30+(i:Int)))),some (Sl.v fm),some (Sl.v (.int n)),some (Sl.k (iZ g)),o9,o10],⟨[],_,_,by simp,rfl⟩,?_,?_⟩
   ·rintro i2 z δ hz ⟨g,o9,o10,gl2,rfl⟩
    rw [JB] at hz
    cases hz':nms[i2]? with
    | none=> rw [hz'] at hz;cases hz
    | some nm=>
     rw [hz'] at hz;cases hz
     have i8:i2 < 8:=by rw [←nl];exact(Jr.mp hz').1
     walk_at "rz"
     refine⟨7,rfl,by decide,by decide,fun y y0 y1=> ⟨_,rfl,?_⟩⟩
     split
     ·rename_i hy
      obtain⟨e2,ee2⟩:∃e:Int,atI [Jg (-1),Jg 0,Jg 1,Jg (-9),Jg 30] (y - 2)=some (.int e):=by
       have:y=2∨y=3∨y=4∨y=5∨y=6:=by omega
       rcases this with h | h | h | h | h <;> subst h <;> exact⟨_,rfl⟩
      obtain⟨g',eg,lg⟩:=IY g nm (if n+e2 > 0 then n+e2 else 0)
      refine⟨_,rfl,_,ee2,_,rfl,by rw [IX];omega,g',by omega,eg,_,rfl⟩
     ·exact⟨g,by omega,rfl,_,rfl⟩
   ·rintro δ ⟨g,o9,o10,_,rfl⟩
    walk_at "rz"
    obtain⟨G,eG⟩:∃G:Gn,dO (g.map (·.1)) (JF (fun x=> x.snd) (iZ g))=G.enc:=⟨⟨g.map (·.1),g.map (·.2)⟩,by unfold iZ Gn.enc;rw [JH,JH];rfl⟩
    refine⟨g.map (·.1),by unfold iZ;rw [JH,JH];rfl,?_⟩
    rw [eG]
    refine⟨xs,n,G,rfl,gl,r5,true,rfl,?_⟩
    rw [if_neg (by decide)]
    first | exact⟨_,rfl⟩ | exact⟨⟨_,rfl⟩,⟨_,rfl⟩⟩ | trace_state
  ·rintro δ ⟨o5,o6,o7,o8,o9,o10,rfl⟩
   walk_at "rz"
   exact q
end
end K16
def PySem.W.Fast.tw10261648434908772765:=0
def PySem.W.Fast.tw10724047756898261250:=0
def PySem.W.Fast.tw12136183618109380536:=0
def PySem.W.Fast.tw15623775820686351893:=0
def PySem.W.Fast.tw4089053802468473761:=0
def PySem.W.Fast.tw14461636113976393209:=0
def PySem.W.Fast.tw10208150706433848025:=0
def PySem.W.Fast.tw13334207373276796668:=0
def PySem.W.Fast.tw3643855917757902600:=0
def PySem.W.Fast.tw10134134356663400553:=0
def PySem.W.Fast.tw8879474652300752324:=0
def PySem.W.Fast.tw16570483180071586269:=0
def PySem.W.Fast.tw2294641747574978784:=0
def PySem.W.Fast.tw14178935620120054812:=0
def PySem.W.Fast.tw4131884260631101073:=0
def PySem.W.Fast.tw4405057736182026018:=0
def PySem.W.Fast.tw13208790190778164832:=0
def PySem.W.Fast.tw4169700941425604450:=0
def PySem.W.Fast.tw3892998147675491361:=0
def PySem.W.Fast.tw13307679977977240945:=0
def PySem.W.Fast.tw18376141882358813041:=0
def PySem.W.Fast.tw1543180483982962662:=0
def PySem.W.Fast.tw11791455731167663530:=0
def PySem.W.Fast.tw1459407164564093049:=0
def PySem.W.Fast.tw5232997532393400602:=0
def PySem.W.Fast.tw2578565769854876589:=0
def PySem.W.Fast.tw9244616072362193918:=0
def PySem.W.Fast.tw38958501803896723:=0
def PySem.W.Fast.tw267563089604185018:=0
def PySem.W.Fast.tw16138079509714569666:=0
def PySem.W.Fast.tw15272218229620200641:=0
def PySem.W.Fast.tw2471109319714061249:=0
def PySem.W.Fast.tw8202166809726564904:=0
def PySem.W.Fast.tw12813142148146132877:=0
def PySem.W.Fast.tw2507290175167404632:=0
def PySem.W.Fast.tw1804062627341528218:=0
def PySem.W.Fast.tw13035461630824622657:=0
def PySem.W.Fast.tw13462389835984493239:=0
def PySem.W.Fast.tw16445005174526017885:=0
def PySem.W.Fast.tw8037658500039848168:=0
def PySem.W.Fast.tw13916578207218293992:=0
def PySem.W.Fast.tw10408276371566269336:=0
def PySem.W.Fast.tw16367144950485769827:=0
def PySem.W.Fast.tw11226939108856397709:=0
def PySem.W.Fast.tw8745803718702291789:=0
def PySem.W.Fast.tw16473726375499907877:=0
def PySem.W.Fast.tw15828034231246129225:=0
def PySem.W.Fast.tw10420781809895870925:=0
def PySem.W.Fast.tw1718718464999386995:=0
def PySem.W.Fast.tw5568542019047937067:=0
def PySem.W.Fast.tw13224238283514792754:=0
def PySem.W.Fast.tw4930934948101798061:=0
def PySem.W.Fast.tw17131241624465335830:=0
def PySem.W.Fast.tw15371894209965878953:=0
def PySem.W.Fast.tw4137845023008739592:=0
def PySem.W.Fast.tw18300250646523162640:=0
def PySem.W.Fast.tw1141432257057595199:=0
def PySem.W.Fast.tw3441177000993172539:=0
def PySem.W.Fast.tw16397698228645637042:=0
def PySem.W.Fast.tw10720332199855756559:=0
def PySem.W.Fast.tw4026240061849141625:=0
def PySem.W.Fast.tw11889930054832746902:=0
def PySem.W.Fast.tw2658001811915401810:=0
def PySem.W.Fast.tw17208077760304243017:=0
def PySem.W.Fast.tw6827847588567787278:=0
def PySem.W.Fast.tw17410437846219213410:=0
def PySem.W.Fast.tw12111010484122825853:=0
def PySem.W.Fast.tw8626235378358254246:=0
def PySem.W.Fast.tw9304774967338077598:=0
def PySem.W.Fast.tw12083498935720565753:=0
def PySem.W.Fast.tw3669640344871947998:=0
def PySem.W.Fast.tw8923697636568393689:=0
def PySem.W.Fast.tw13755866803161409724:=0
def PySem.W.Fast.tw5416360109834274664:=0
def PySem.W.Fast.tw12976222867092260474:=0
def PySem.W.Fast.tw13757679000320392175:=0
def PySem.W.Fast.tw2287786542925671180:=0
def PySem.W.Fast.tw17775836047024330506:=0
def PySem.W.Fast.tw10939224131756699683:=0
def PySem.W.Fast.tw16538732698231953156:=0
def PySem.W.Fast.tw13842073931016305796:=0
def PySem.W.Fast.tw11095378154218686422:=0
def PySem.W.Fast.tw18225647526960735996:=0
def PySem.W.Fast.tw17036513964402927464:=0
def PySem.W.Fast.tw207002235209508001:=0
def PySem.W.Fast.tw9318643823480614648:=0
def PySem.W.Fast.tw5999926995276375929:=0
def PySem.W.Fast.tw16659393039122451830:=0
def PySem.W.Fast.tw15142268904999816968:=0
def PySem.W.Fast.tw4075623326435699246:=0
def PySem.W.Fast.tw7412119169188417408:=0
def PySem.W.Fast.tw2259674931474773441:=0
def PySem.W.Fast.tw2444877830629545069:=0
def PySem.W.Fast.tw4252487201283585751:=0
def PySem.W.Fast.tw12453831867506782097:=0
def PySem.W.Fast.tw126014599547263534:=0
def PySem.W.Fast.tw3380327654119049745:=0
def PySem.W.Fast.tw13382538376757462286:=0
def PySem.W.Fast.tw8852412303922935296:=0
def PySem.W.Fast.tw17580967636968556921:=0
def PySem.W.Fast.tw2706544695379912073:=0
def PySem.W.Fast.tw15136002241707405539:=0
def PySem.W.Fast.tw5353261476718528587:=0
def PySem.W.Fast.tw3437767561674666866:=0
def PySem.W.Fast.tw18287397610759762309:=0
def PySem.W.Fast.tw13823988882941560060:=0
def PySem.W.Fast.tw3038114381073162582:=0
def PySem.W.Fast.tw5193192607025597166:=0
def PySem.W.Fast.tw9962036945476589903:=0
def PySem.W.Fast.tw6834151787572698673:=0
def PySem.W.Fast.tw4508151806252170865:=0
def PySem.W.Fast.tw1898131962025872544:=0
def PySem.W.Fast.tw2452591891140706691:=0
def PySem.W.Fast.tw4095215762895829930:=0
def PySem.W.Fast.tw11677282726911370631:=0
def PySem.W.Fast.tw4352209704662984849:=0
def PySem.W.Fast.tw11907596566855070345:=0
def PySem.W.Fast.tw6576048081961580817:=0
def PySem.W.Fast.tw8882919269573510294:=0
def PySem.W.Fast.tw9759540631185128433:=0
def PySem.W.Fast.tw12184406946033310040:=0
def PySem.W.Fast.tw16826040522714981702:=0
def PySem.W.Fast.tw14521948770510282924:=0
def PySem.W.Fast.tw15715480552416763957:=0
def PySem.W.Fast.tw4222965016120796508:=0
def PySem.W.Fast.tw12129920293552141977:=0
def PySem.W.Fast.tw11536141191996192762:=0
def PySem.W.Fast.tw18431815259086856107:=0
def PySem.W.Fast.tw7037317714864594517:=0
def PySem.W.Fast.tw16276823680031025499:=0
def PySem.W.Fast.tw13841225536590175757:=0
def PySem.W.Fast.tw5078939781456214352:=0
def PySem.W.Fast.tw753157735258495043:=0
def PySem.W.Fast.tw3586286680123524539:=0
def PySem.W.Fast.tw6921684079353086652:=0
def PySem.W.Fast.tw14903591108913459585:=0
def PySem.W.Fast.tw3101411301555675036:=0
def PySem.W.Fast.tw11546778817377391271:=0
def PySem.W.Fast.tw17000253901755357984:=0
def PySem.W.Fast.tw17863540488267130326:=0
def PySem.W.Fast.tw11656422588306127810:=0
def PySem.W.Fast.tw9622291342028274000:=0
def PySem.W.Fast.tw50221553448992621:=0
def PySem.W.Fast.tw1441181869399542807:=0
def PySem.W.Fast.tw12322164428659566340:=0
def PySem.W.Fast.tw9352318178016824125:=0
def PySem.W.Fast.tw16567939250318017745:=0
def PySem.W.Fast.tw12989262632815845837:=0
def PySem.W.Fast.tw3913160038465479421:=0
def PySem.W.Fast.tw3379316476865750406:=0
def PySem.W.Fast.tw12881999731521236598:=0
def PySem.W.Fast.tw1216752575358285269:=0
def PySem.W.Fast.tw16891246809884428450:=0
def PySem.W.Fast.tw16660799583971996669:=0
def PySem.W.Fast.tw15054736573956132137:=0
def PySem.W.Fast.tw5948038409084132640:=0
def PySem.W.Fast.tw13200168619174772140:=0
def PySem.W.Fast.tw10473350861279274378:=0
def PySem.W.Fast.tw3549440048583133959:=0
def PySem.W.Fast.tw11261896255459144631:=0
def PySem.W.Fast.tw17901580901390634902:=0
def PySem.W.Fast.tw16984899175397400451:=0
def PySem.W.Fast.tw5379950133186141979:=0
def PySem.W.Fast.tw9727880445194951453:=0
def PySem.W.Fast.tw11743870544676860602:=0
def PySem.W.Fast.tw11057154089064386069:=0
def PySem.W.Fast.tw13343100743698497162:=0
def PySem.W.Fast.tw3682208324810763422:=0
def PySem.W.Fast.tw1907971477392760284:=0
def PySem.W.Fast.tw15460935632939872666:=0
def PySem.W.Fast.tw12663311521991433242:=0
def PySem.W.Fast.tw5129096693982794720:=0
def PySem.W.Fast.tw9137217946102063040:=0
def PySem.W.Fast.tw12641323954863135360:=0
def PySem.W.Fast.tw8367768933247871938:=0
def PySem.W.Fast.tw6079533457269237288:=0
def PySem.W.Fast.tw6606046758517514650:=0
def PySem.W.Fast.tw9282516860134957096:=0
def PySem.W.Fast.tw14467429741516935145:=0
def PySem.W.Fast.tw10038646143986153146:=0
def PySem.W.Fast.tw9478384331919333930:=0
def PySem.W.Fast.tw17255459113414582374:=0
def PySem.W.Fast.tw11831858075833888638:=0
def PySem.W.Fast.tw8933929293020523906:=0
def PySem.W.Fast.tw16203862020948059126:=0
def PySem.W.Fast.tw7905927911473864232:=0
def PySem.W.Fast.tw15656096946704640609:=0
def PySem.W.Fast.tw15455780077880132358:=0
def PySem.W.Fast.tw6171735441656465371:=0
def PySem.W.Fast.tw125077035260251909:=0
def PySem.W.Fast.tw13224540281845062584:=0
def PySem.W.Fast.tw6925875351538005078:=0
def PySem.W.Fast.tw6787047176016002527:=0
def PySem.W.Fast.tw5986904994995156208:=0
def PySem.W.Fast.tw8167473701553996277:=0
def PySem.W.Fast.tw5725727975912658821:=0
def PySem.W.Fast.tw10456746727719964893:=0
def PySem.W.Fast.tw2741248176358310708:=0
def PySem.W.Fast.tw1593957675617311262:=0
def PySem.W.Fast.tw4505367457388162994:=0
def PySem.W.Fast.tw6560385278627124618:=0
def PySem.W.Fast.tw3283736190297409437:=0
def PySem.W.Fast.tw12624386594776901223:=0
def PySem.W.Fast.tw8428967999534120854:=0
def PySem.W.Fast.tw4595549610639234022:=0
def PySem.W.Fast.tw114655161540849710:=0
def PySem.W.Fast.tw10444805139239165108:=0
def PySem.W.Fast.tw7919705228558655963:=0
def PySem.W.Fast.tw17925484906420141784:=0
def PySem.W.Fast.tw13516118042690670579:=0
def PySem.W.Fast.tw16047999501142337747:=0
def PySem.W.Fast.tw750403043864423391:=0
def PySem.W.Fast.tw17857087165341845789:=0
def PySem.W.Fast.tw10258351845844204631:=0
def PySem.W.Fast.tw17645542468437251157:=0
def PySem.W.Fast.tw6930203039848855697:=0
def PySem.W.Fast.tw9661681803877378111:=0
def PySem.W.Fast.tw15275930049920156683:=0
def PySem.W.Fast.tw13603041571423444128:=0
def PySem.W.Fast.tw9655249318223709135:=0
def PySem.W.Fast.tw9613307614644836815:=0
def PySem.W.Fast.tw9263355850322446952:=0
def PySem.W.Fast.tw9175345705628876489:=0
def PySem.W.Fast.tw907475484377057737:=0
def PySem.W.Fast.tw7859279632349015945:=0
def PySem.W.Fast.tw7708019704243255297:=0
def PySem.W.Fast.tw7434949030690291471:=0
def PySem.W.Fast.tw731361265396879880:=0
def PySem.W.Fast.tw7311965751307357403:=0
def PySem.W.Fast.tw7238723781637408289:=0
def PySem.W.Fast.tw6462817778704422328:=0
def PySem.W.Fast.tw622592708149021416:=0
def PySem.W.Fast.tw6207503869742929126:=0
def PySem.W.Fast.tw602440376938950637:=0
def PySem.W.Fast.tw5985898497105235349:=0
def PySem.W.Fast.tw5966511406950710171:=0
def PySem.W.Fast.tw5112896350759950425:=0
def PySem.W.Fast.tw4937636125966525872:=0
def PySem.W.Fast.tw4344849570580640699:=0
def PySem.W.Fast.tw4158756687028811628:=0
def PySem.W.Fast.tw3901915263090039603:=0
def PySem.W.Fast.tw3750307290320033064:=0
def PySem.W.Fast.tw3117182035734234519:=0
def PySem.W.Fast.tw2642664779467148123:=0
def PySem.W.Fast.tw2618139470520625120:=0
def PySem.W.Fast.tw2430812272254592975:=0
def PySem.W.Fast.tw2415090486341316014:=0
def PySem.W.Fast.tw227516725571340089:=0
def PySem.W.Fast.tw214265020537035052:=0
def PySem.W.Fast.tw2129898325392566335:=0
def PySem.W.Fast.tw2032293937739237569:=0
def PySem.W.Fast.tw18357910094434408371:=0
def PySem.W.Fast.tw18313901170313012238:=0
def PySem.W.Fast.tw18287755654468235019:=0
def PySem.W.Fast.tw18125797271263048449:=0
def PySem.W.Fast.tw18089850790088140807:=0
def PySem.W.Fast.tw178985224562554284:=0
def PySem.W.Fast.tw17875390541027821048:=0
def PySem.W.Fast.tw17784303790456239126:=0
def PySem.W.Fast.tw17445376333526012839:=0
def PySem.W.Fast.tw17426194135471798919:=0
def PySem.W.Fast.tw1738087198175621488:=0
def PySem.W.Fast.tw16801830048764982357:=0
def PySem.W.Fast.tw16742341852383113028:=0
def PySem.W.Fast.tw16464417025314181296:=0
def PySem.W.Fast.tw15945397618032466778:=0
def PySem.W.Fast.tw15842374741566623217:=0
def PySem.W.Fast.tw15626255005648317788:=0
def PySem.W.Fast.tw14515141130165234969:=0
def PySem.W.Fast.tw14408572454162433811:=0
def PySem.W.Fast.tw14048125267210618868:=0
def PySem.W.Fast.tw13834883928443054358:=0
def PySem.W.Fast.tw13812111258306075345:=0
def PySem.W.Fast.tw13789944303634343888:=0
def PySem.W.Fast.tw13649755141714360457:=0
def PySem.W.Fast.tw13576911628359948011:=0
def PySem.W.Fast.tw13381021550696135417:=0
def PySem.W.Fast.tw1307030535798453299:=0
def PySem.W.Fast.tw13011616272498158826:=0
def PySem.W.Fast.tw12992152673754945053:=0
def PySem.W.Fast.tw12870368222512958405:=0
def PySem.W.Fast.tw12782986870768711027:=0
def PySem.W.Fast.tw126854823453801933:=0
def PySem.W.Fast.tw12634847954091896200:=0
def PySem.W.Fast.tw12600851333897264648:=0
def PySem.W.Fast.tw11959756065681041911:=0
def PySem.W.Fast.tw11572254690968560505:=0
def PySem.W.Fast.tw11476736151774318222:=0
def PySem.W.Fast.tw1139790850129142358:=0
def PySem.W.Fast.tw11360717182214275612:=0
def PySem.W.Fast.tw11336858668095689250:=0
def PySem.W.Fast.tw11274724860436951324:=0
def PySem.W.Fast.tw11164208524569893113:=0
def PySem.W.Fast.tw1097013080441646224:=0
def PySem.W.Fast.tw10346368868919264810:=0
open PySem PySem.W PyProof.Rows
set_option maxRecDepth 100000 in
set_option maxHeartbeats 0 in
theorem PySem.Challenge.cw_goneday_k16_by_makers_holds : PySem.Challenge.rw_goneday_k16_by_makers.Holds := by
 w_on;o_law;k_head;(case hw=> w_witness2)
 k_fill
 refine L2.walk_ofBK (l:=PySem.Challenge.rw_goneday_k16_by_makers) (n:=63) (k:=11) (x:="_law_script") (CX:=L2.CX0) (sp:=K16.sp_law) rfl (by decide) rfl ⟨rfl,by decide,by decide⟩ (fun w h Y=> PySem.W.kIn_of Y) ?F ?S ?C
 case F=>
  intro w mg fa h KX G hmg
  have T:∃t,K16.Txt (L2.KOf KX) mg t:=by
   dsimp only [L2.KOf]
   refine' K16.txt_mk KX G ?a0 ?l0 ?c0 ?k0 ?a1 ?l1 ?c1 ?k1 ?a2 ?l2 ?c2 ?k2 ?a3 ?l3 ?c3 ?k3 ?a4 ?l4 ?c4 ?k4 ?a5 ?l5 ?c5 ?k5 ?a6 ?l6 ?c6 ?k6 ?a7 ?l7 ?c7 ?k7 ?a8 ?i8 ?l8 ?c8 ?k8 ?a9 ?l9 ?c9 ?k9 ?a10 ?l10 ?c10 ?k10 ?a11 ?l11 ?c11 ?k11 ?a12 ?l12 ?c12 ?k12 ?a13 ?l13 ?c13 ?k13 ?a14 ?l14 ?c14 ?k14 ?a15 ?l15 ?c15 ?k15 ?a16 ?l16 ?c16 ?k16 ?a17 ?l17 ?c17 ?k17 ?a18 ?l18 ?c18 ?k18 ?a19 ?l19 ?c19 ?k19 ?a20 ?l20 ?c20 ?k20 ?a21 ?l21 ?c21 ?k21 ?a22 ?l22 ?c22 ?k22 ?a23 ?l23 ?c23 ?k23 ?a24 ?l24 ?c24 ?k24 ?a25 ?l25 ?c25 ?k25 ?a26 ?l26 ?c26 ?k26 ?a27 ?l27 ?c27 ?k27 ?a28 ?l28 ?c28 ?k28 ?a29 ?l29 ?c29 ?k29 ?a30 ?l30 ?c30 ?k30 ?a31 ?l31 ?c31 ?k31 ?a32 ?l32 ?c32 ?k32 ?a33 ?l33 ?c33 ?k33 ?a34 ?l34 ?c34 ?k34 ?a35 ?l35 ?c35 ?k35 ?a36 ?l36 ?c36 ?k36 ?a37 ?l37 ?c37 ?k37 ?a38 ?l38 ?c38 ?k38 ?a39 ?l39 ?c39 ?k39 ?a40 ?l40 ?c40 ?k40 ?a41 ?l41 ?c41 ?k41 ?a42 ?l42 ?c42 ?k42 ?a43 ?l43 ?c43 ?k43 ?a44 ?l44 ?c44 ?k44 ?x_MONTH_DAYS ?y_MONTH_DAYS ?z_MONTH_DAYS ?w_MONTH_DAYS ?x_FIRST_YEAR ?r_FIRST_YEAR ?x_ROUND_DAYS ?r_ROUND_DAYS ?x_ROUND_YEARS ?r_ROUND_YEARS ?x_NoPaper ?x_Paper ?pg_Paper ?hd_Paper ?po_Paper ?sa_Paper ?mk_Paper ?kc_Paper ?na_Paper_name ?na_Paper_coming ?na_Paper_kind ?na_Paper_makers ?na_Paper_happenings ?n_abs ?n_all ?n_any ?n_bool ?n_dict ?n_divmod ?n_int ?n_isinstance ?n_len ?n_max ?n_min ?n_range ?n_sorted ?n_str ?n_sum ?n_tuple
   (case a0=> k_is)
   (case l0=> k_is)
   (case c0=> k_is)
   (case k0=> k_is)
   (case a1=> k_is)
   (case l1=> k_is)
   (case c1=> k_is)
   (case k1=> k_is)
   (case a2=> k_is)
   (case l2=> k_is)
   (case c2=> k_is)
   (case k2=> k_is)
   (case a3=> k_is)
   (case l3=> k_is)
   (case c3=> k_is)
   (case k3=> k_is)
   (case a4=> k_is)
   (case l4=> k_is)
   (case c4=> k_is)
   (case k4=> k_is)
   (case a5=> k_is)
   (case l5=> k_is)
   (case c5=> k_is)
   (case k5=> k_is)
   (case a6=> k_is)
   (case l6=> k_is)
   (case c6=> k_is)
   (case k6=> k_is)
   (case a7=> k_is)
   (case l7=> k_is)
   (case c7=> k_is)
   (case k7=> k_is)
   (case a9=> k_is)
   (case l9=> k_is)
   (case c9=> k_is)
   (case k9=> k_is)
   (case a10=> k_is)
   (case l10=> k_is)
   (case c10=> k_is)
   (case k10=> k_is)
   (case a11=> k_is)
   (case l11=> k_is)
   (case c11=> k_is)
   (case k11=> k_is)
   (case a12=> k_is)
   (case l12=> k_is)
   (case c12=> k_is)
   (case k12=> k_is)
   (case a13=> k_is)
   (case l13=> k_is)
   (case c13=> k_is)
   (case k13=> k_is)
   (case a14=> k_is)
   (case l14=> k_is)
   (case c14=> k_is)
   (case k14=> k_is)
   (case a15=> k_is)
   (case l15=> k_is)
   (case c15=> k_is)
   (case k15=> k_is)
   (case a16=> k_is)
   (case l16=> k_is)
   (case c16=> k_is)
   (case k16=> k_is)
   (case a17=> k_is)
   (case l17=> k_is)
   (case c17=> k_is)
   (case k17=> k_is)
   (case a18=> k_is)
   (case l18=> k_is)
   (case c18=> k_is)
   (case k18=> k_is)
   (case a19=> k_is)
   (case l19=> k_is)
   (case c19=> k_is)
   (case k19=> k_is)
   (case a20=> k_is)
   (case l20=> k_is)
   (case c20=> k_is)
   (case k20=> k_is)
   (case a21=> k_is)
   (case l21=> k_is)
   (case c21=> k_is)
   (case k21=> k_is)
   (case a22=> k_is)
   (case l22=> k_is)
   (case c22=> k_is)
   (case k22=> k_is)
   (case a23=> k_is)
   (case l23=> k_is)
   (case c23=> k_is)
   (case k23=> k_is)
   (case a24=> k_is)
   (case l24=> k_is)
   (case c24=> k_is)
   (case k24=> k_is)
   (case a25=> k_is)
   (case l25=> k_is)
   (case c25=> k_is)
   (case k25=> k_is)
   (case a26=> k_is)
   (case l26=> k_is)
   (case c26=> k_is)
   (case k26=> k_is)
   (case a27=> k_is)
   (case l27=> k_is)
   (case c27=> k_is)
   (case k27=> k_is)
   (case a28=> k_is)
   (case l28=> k_is)
   (case c28=> k_is)
   (case k28=> k_is)
   (case a29=> k_is)
   (case l29=> k_is)
   (case c29=> k_is)
   (case k29=> k_is)
   (case a30=> k_is)
   (case l30=> k_is)
   (case c30=> k_is)
   (case k30=> k_is)
   (case a31=> k_is)
   (case l31=> k_is)
   (case c31=> k_is)
   (case k31=> k_is)
   (case a32=> k_is)
   (case l32=> k_is)
   (case c32=> k_is)
   (case k32=> k_is)
   (case a33=> k_is)
   (case l33=> k_is)
   (case c33=> k_is)
   (case k33=> k_is)
   (case a34=> k_is)
   (case l34=> k_is)
   (case c34=> k_is)
   (case k34=> k_is)
   (case a35=> k_is)
   (case l35=> k_is)
   (case c35=> k_is)
   (case k35=> k_is)
   (case a36=> k_is)
   (case l36=> k_is)
   (case c36=> k_is)
   (case k36=> k_is)
   (case a37=> k_is)
   (case l37=> k_is)
   (case c37=> k_is)
   (case k37=> k_is)
   (case a38=> k_is)
   (case l38=> k_is)
   (case c38=> k_is)
   (case k38=> k_is)
   (case a39=> k_is)
   (case l39=> k_is)
   (case c39=> k_is)
   (case k39=> k_is)
   (case a40=> k_is)
   (case l40=> k_is)
   (case c40=> k_is)
   (case k40=> k_is)
   (case a41=> k_is)
   (case l41=> k_is)
   (case c41=> k_is)
   (case k41=> k_is)
   (case a42=> k_is)
   (case l42=> k_is)
   (case c42=> k_is)
   (case k42=> k_is)
   (case a43=> k_is)
   (case l43=> k_is)
   (case c43=> k_is)
   (case k43=> k_is)
   (case a44=> k_is)
   (case l44=> k_is)
   (case c44=> k_is)
   (case k44=> k_is)
   (case x_MONTH_DAYS=> k_is)
   (case y_MONTH_DAYS=> k_is)
   (case z_MONTH_DAYS=> first | (repeat (first | exact .nil | refine .cons ⟨_,rfl⟩ ?_)))
   (case w_MONTH_DAYS=> decide)
   (case x_FIRST_YEAR=> k_is)
   (case r_FIRST_YEAR=> exact⟨_,rfl⟩)
   (case x_ROUND_DAYS=> k_is)
   (case r_ROUND_DAYS=> exact⟨_,rfl⟩)
   (case x_ROUND_YEARS=> k_is)
   (case r_ROUND_YEARS=> exact⟨_,rfl⟩)
   (case x_NoPaper=> k_is)
   (case x_Paper=> k_is)
   (case pg_Paper=> k_is)
   (case hd_Paper=> k_is)
   (case po_Paper=> k_is)
   (case sa_Paper=> k_is)
   (case mk_Paper=> k_is)
   (case kc_Paper=> k_is)
   (case na_Paper_name=> k_is)
   (case na_Paper_coming=> k_is)
   (case na_Paper_kind=> k_is)
   (case na_Paper_makers=> k_is)
   (case na_Paper_happenings=> k_is)
   (case n_abs=> k_is)
   (case n_all=> k_is)
   (case n_any=> k_is)
   (case n_bool=> k_is)
   (case n_dict=> k_is)
   (case n_divmod=> k_is)
   (case n_int=> k_is)
   (case n_isinstance=> k_is)
   (case n_len=> k_is)
   (case n_max=> k_is)
   (case n_min=> k_is)
   (case n_range=> k_is)
   (case n_sorted=> k_is)
   (case n_str=> k_is)
   (case n_sum=> k_is)
   (case n_tuple=> k_is)
   (case a8=> k_is)
   (case i8=> k_is)
   (case l8=> k_is)
   (case c8=> k_is)
   (case k8=> k_is)
  obtain⟨t,T⟩:=T
  have e0:=hmg.symm.trans T.m_x44
  cases e0
  exact⟨t.d_x44,T.bt_x44,fun base kb nb=> K16.ok_law T⟩
 case S=> exact fun K H a ns hl hb hO hS=> K16.start_law hl hb hS
 case C=> exact fun _ _ _ _ z=> z
