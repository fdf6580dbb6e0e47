import PyProof.Rows.All
import Wide.All
import OpenK.AllK
import Wide.FinOn
import Lean
import PyProof.EqAt
import PyProof.EqKinds
import PyProof.TupleCall
import KE.KUnpack
import PyProof.StrWalks
import PyProof.Rows.SortStr
import PyProof.FactsAll.dict_1
import PyProof.FactsAll.subtypes_3
import PyProof.FactsAll.subtypes_4
import PyProof.StrLawsIn
import PyProof.ListMulRoad
import PyProof.FactsAll.tuple
import PyProof.FactsAll.str
import KE.KIntText
import PyProof.StrBlockH
import PyProof.Rows.FStr
import PyProof.StrLawsTight
import KE.KDictSum
import PyProof.StrBlock2
import PyProof.Rows.SetFrom
import KE.KSortTup
import KE.KSortKey
import PyProof.Rows.CallKwBuiltin
import PyProof.Rows.Range3
import PyProof.ListRange
import PyProof.EnumFor
import PyProof.Rows.EnumRows
import PyProof.ZipIter
import PyProof.AutoSeq1
import PySem.Challenge.RW_goneday_k18_whole_each_rule_by_itself
open PySem.Str renaming ofString→Ka,ofString→Kc
open PySem.W renaming Frag→Kb,fnOf→Ke,nsIn→Kl,keepIn→Kn,codeIn→Kp,mg_of→Kq,mg_none_of→Lg,findIn→Lu,emptyDict→LL,instObj→L9,hasDictIn→Nr,plainGet→NG,methodObj→N7,plainOver→N8,takerIn→OF,makesIn→OG,cellsFrom_some→ON,lookIn→OQ,callWith_K→Po,handedIn→P0,OpenLaw→Qb,WalkO→Ql,isFn→Qy
open List renaming length_map→Kd,map_cons→Kj,size_toArray→Kt,getElem?_eq_some_iff→Ku,length_cons→Kw,replicate→Kx,mem_map→Ky,mem_cons→Kz,mem_filter→KA,getElem?_eq_getElem→KI,mem_append→KL,map→KO,mem_singleton→KP,getElem?_map→KQ,length_append→KR,getElem?_set_ne→KU,mem_of_getElem?→KW,map_map→KY,map_append→KZ,mem_cons_of_mem→K1,filter_cons→K2,mem_cons_self→K3,mem_append_right→K7,length_filter_le→K8,getElem?_set_self→Lb,take_of_length_le→Lc,length_take→Lk,lookup_cons→Lm,not_mem_nil→Ln,range→Lp,pairwise_cons→Lr,take_succ→Lv,map_nil→Ly,pairwise_map→LD,flatMap_cons→LF,append_nil→LH,nil_append→LI,filter_sublist→LN,find?_cons→LO,getElem?_eq_none→LP,filter_filter→LR,any_cons→LS,foldl_cons→LX,replicate_succ→LY,getElem?_append_right→L0,getD_eq_getElem?_getD→L1,getElem_mem→L3,length_replicate→L4,getElem?_append_left→L7,length_nil→Mb,nodup_cons→Mc,getElem?_cons_succ→Mf,filterMap_cons→Mg,flatMap_append→Mi,filter_eq_nil_iff→Mn,flatten_cons→Ms,pairwise_iff_getElem→Mw,mem_of_mem_take→Mx,getElem?_of_mem→My,all_eq_true→MB,ext_getElem→MC,getElem?_replicate→ME,mem_filterMap→MI,foldl→MK,filter_append→MP,flatMap_singleton→MR,length_range→MS,length_singleton→MT,any_eq_true→MZ,cons_append→M4,lookup→M6,mem_range→Nk,getElem?_set_self'→Np,getElem?_cons_zero→Nq,append_assoc→Nt,map_take→NA,getElem_inj→NF,length_drop→NH,filterMap_append→NJ,mem_append_left→NK,eq_nil_of_length_eq_zero→NO,filter_eq_self→NQ,set_cons_zero→NV,set_cons_succ→NW,set_comm→NZ,length_eraseIdx_of_lt→N5,nodup_append→Ob,getElem?_nil→Oe,drop_eq_getElem_cons→Og,mem_of_find?_eq_some→Oh,mem_flatMap→Ox,of_mem_zip→OH,range_succ→OI,length→OO,drop_of_length_le→OP,contains_iff_mem→OY,Nodup→O6,mem_of_mem_drop→O7,getElem_of_mem→Pe,map_congr_left→Pf,length_pos_iff→Ph,filterMap_map→Pq,toArray→Pu,mem_replicate→PK,not_lt→PY,filter→PZ,le_antisymm→P4,map_snd_zip→P7,forIn_cons→P9,any_append→Qg,take_zero→Qh,lt_trans→Qo,sum_cons→Qq,map_drop→Qr,all_cons→Qt,Pairwise→Qv,any_map→QA,all_nil→QB,any_nil→QC,flatMap→QD,all_map→QE
open PySem.PyData renaming str→Kf,int→Kh,strOk→Kr,eqv→KC,tuple→KH,canLay0→K4,list→Li,canLayAll0→Lo,bool→Lq,eqvAll→MG,depth→MU,none→M8,depthAll→Nb
open PySem.Heap renaming get?_push_of_some→Kg,lt_size→Kv,get?_push_size→KD,get?_update_self→LG,get?_update_other→LZ,SameBut→Ma,size_push→NS,get?_update_ne→Pg,get?_push_ne→PL,ExtBut→QO
open Bool renaming false_ne_true→Ki,and_eq_true→Lf,false_eq_true→L6,true_and→MF,eq_iff_iff→MJ,or_eq_true→MN,false_or→M5,not_eq_true'→Nu,or_false→Nz,false_and→NR,and_comm→Pc,true_eq_false→PH,not_false→Qi,not_true→Qs,and_true→Qu
open Nat renaming le_refl→Kk,ne_of_lt→KN,le_trans→KS,lt_of_lt_of_le→K9,zero_le→Lj,lt_succ_of_lt→LM,lt_succ_self→Mj,lt_or_ge→Mo,lt_irrefl→Mq,le_of_lt→Mz,le_succ→M7,reduceAdd→NB,reduceSub→NC,ne_of_gt→NL,le_of_not_lt→Oo,add_zero→Px,zero_add→Py,sub_self→Pz,reduceLT→PB,lt_trichotomy→PX,min_le_right→P1,reduceLeDiff→P8,le_of_eq→Qx
open PySem renaming Spec→Km,Scope→K0,boot_len→Lw,mem_of_lookup→Mh,Within→Pk,Fin→Pw,call→Qa
open PySem.ScopeKind renaming function→Ko
open PySem.NameKind renaming free→Ks,globalImplicit→Ld,free→Ll,cell→N4
open Array renaming length_toList→KJ,getD_eq_getD_getElem?→LA,getElem?_eq_getElem→Nd,getD→Nm,getElem?_eq_none→Ny,getElem?_toList→NI,perm_iff_toList_perm→N6,toList_inj→Ot,mem_toList_iff→OZ,toArray_toList→O5,toList_push→PN,toList_map→P5,toList_zip→P6,toList→Qw
open Option.some renaming inj→K5,injEq→Nv
open PySem.Value renaming ref→K6,str→Me,none→Mm,bool→Mt,int→MH,type→MY,isStrOf→O8,isStrOf_shape→Pd,isInt→QF,bytes→QH,float→QI
open PySem.Heap.SameBut renaming update→La
open PySem.Obj renaming mapSeq→Le,data_mapFields→LQ,isFreed_of_fields→MV,cls_mapFields→Oc,putSet→Oi,mapFields→Qn
open PySem.SeqAt renaming canLay_of_shaped→Lh,shaped→LK
open PySem.PassesOwn renaming never→Lx
open Sum renaming inr→Lz,inl→Ol
open List.cons renaming injEq→LB,inj→ND
open PySem.Builtin.Int renaming intBits→LC
open False renaming elim→LJ
open True renaming intro→LU
open Int renaming eq_ofNat_of_zero_le→LV,toNat_natCast→LW,fdiv_eq_ediv_of_nonneg→N0,fmod_eq_emod_of_nonneg→N1,reduceNeg→Pa,reducePow→Pb,reduceLT→PD,reduceLE→PF,emod_lt_of_pos→PJ,lt_trichotomy→PR,emod_nonneg→Qf,le_refl→QM
open PySem.F renaming slot_dict_get→L5,entry_dict_get→MQ,args_tuple_add_2→Nh,entry_tuple_add→Nn,slot_tuple_add→Nw,plain_extend_loop→Oj,slot_list_insert→Ou,plainAttrs_list→Oy,args_dict_get_2→Oz,args_dict_get_3→OA,plainAttrs_dict→OB,plain_list_iadd→OC,type_dict_get→OS,plain_set_new→OT,slot_set_iter→OU
open PyProof.Rows renaming slot_tuple_getitem→L8,boot_sorted→Md,boot_max→MW,callWith_type1→MX,bubble→NP,boot_sum→OV,boot_min→OW
open PySem.SetTable renaming grown→Ml,below→Nl,sizeAbove→Pr,layClean→PM,relaid→Qe,laid→Qm
open PyProof.Rows.F renaming plain_set_update_loop→Mp,entry_set_update_loop→Nj
open PySem.Builtin.List renaming listFitsIndex→Mr,listTooLong→Ni,listLengthHint→NT,listExtendWith→NU,listSameRef→Oq,listUpdate→OD
open PySem.Builtin.Slice renaming slicePlaces→Mu,sliceAdjust→M9,sliceApplied→N2
open PySem.Around renaming under_plainId→Mv,under→Pm
open PySem.Builtin.Tuple renaming tupleExact→MA,tupleItemsOf→N3
open PySem.PyData.str renaming injEq→MD
open PySem.W.WData renaming int→ML,weightAll→Na,list→Of,layableAll→P2,weight→Qz
open ForInStep renaming yield→MM
open PySem.PyData.tuple renaming injEq→MO
open PySem.PyData.int renaming injEq→M3
open PySem.Calls renaming call_function_entry→Nc,spliced_cons→Ng,callWith_builtin→Nx,evalArgs_plain→NM,Name_function_global→NY,spliced_nil→N9
open PySem.W.KasT renaming kasWp_bind→Nf
open Or renaming inr→NN,inl→OR
open PySem.Paired renaming length→NX,snoc→QL
open Option renaming isSome_map→Oa,getD_none→Om,join_some→Ov,join_none→Ow,map_some→OJ,map_none→OL,bind→QN
open PySem.PyData.list renaming injEq→Od
open PyProof.Rows.IsTup renaming new→OE
open PyProof renaming noPylong_small→OM
open PySem.Expr renaming Subscript→OX,Call→Qj,List→Qk
open PySem.SeqAt.RcAt renaming tuple_str→O3
open PySem.SeqAt.EqAt renaming str_tuple→O4,str_int→Pj
open Function renaming comp→O9
open PySem.Flow renaming next→Pl
open PySem.Code renaming isFrame→Pn,frames→QK
open PySem.SetTable.below renaming go→PQ
open PySem.PyData.bool renaming injEq→PV
open PySem.Walks renaming list→Qc
open Prod.mk renaming injEq→Qp
open Sum.inr renaming inj→QG
open PySem.CmpOp renaming NotIn→QJ
set_option Elab.async false
set_option linter.all false
set_option maxRecDepth 100000
namespace L2
open PySem PySem.Spec PyProof.Rows
abbrev ak:=Sum Int Str
def kG:ak→Value→Bool
  | .inl k,v=> QF k v
  | .inr x,v=> O8 x v
def Cs(w:World):ak→Int
  | .inl k=> hashInt k
  | .inr x=> hashStr w x
theorem gG:∀{k:ak}{v:Value},kG k v=true→(∃i t,k=Ol i∧v=MH i t)∨(∃x t,k=Lz x∧v=Me x t)
  | .inl i,v,h=> by
    obtain⟨t,e⟩:=Value.isInt_shape (k:=i) (v:=v) h
    exact .inl ⟨i,t,rfl,e⟩
  | .inr x,v,h=> by
    obtain⟨t,e⟩:=Pd (x:=x) (v:=v) h
    exact .inr ⟨x,t,rfl,e⟩
theorem Ct(i:Int)(t:Tok):kG (.inl i) (.int i t)=true:=by simp [kG,QF]
theorem Cu(x:Str)(t:Tok):kG (.inr x) (.str x t)=true:=by simp [kG,O8]
theorem Cv(a b:Int):decide ((Ol a:ak)=Ol b)=(a==b):=by
  by_cases e:a=b
  · subst e;simp
  · have h:¬(Ol a:ak)=Ol b:=fun q=> e (Ol.inj q)
    rw [decide_eq_false h]
    exact(beq_eq_false_iff_ne.mpr e).symm
theorem Cw(a b:Str):decide ((Lz a:ak)=Lz b)=decide (a=b):=by
  by_cases e:a=b
  · subst e;simp
  · have h:¬(Lz a:ak)=Lz b:=fun q=> e (QG q)
    rw [decide_eq_false h,decide_eq_false e]
theorem Cy(a:Int)(b:Str):decide ((Ol a:ak)=Lz b)=false:=decide_eq_false (fun q=> nomatch q)
theorem Cz(a:Str)(b:Int):decide ((Lz a:ak)=Ol b)=false:=decide_eq_false (fun q=> nomatch q)
def cR(prog:Program)(w:World):PySem.KeyKind prog w ak where
  is:=kG
  hash:=Cs w
  inj:=fun v a b ha hb=> by
    rcases gG ha with⟨i,t,rfl,rfl⟩ | ⟨x,t,rfl,rfl⟩
    · rcases gG hb with⟨j,u,rfl,e⟩ | ⟨y,u,rfl,e⟩
      · injection e with e1 _;rw [e1]
      · exact nomatch e
    · rcases gG hb with⟨j,u,rfl,e⟩ | ⟨y,u,rfl,e⟩
      · exact nomatch e
      · injection e with e1 _;rw [e1]
  byValue:=fun k v h=> by
    rcases gG h with⟨i,t,rfl,rfl⟩ | ⟨x,t,rfl,rfl⟩ <;> rfl
  pyHash:=fun hv h=> by
    rcases gG hv with⟨i,t,rfl,rfl⟩ | ⟨x,t,rfl,rfl⟩
    · exact wpAny_pyHash_int h
    · exact wpAny_pyHash_str h
  eqBool:=fun hu hv h=> by
    rcases gG hu with⟨i,t,rfl,rfl⟩ | ⟨x,t,rfl,rfl⟩
    · rcases gG hv with⟨j,u,rfl,rfl⟩ | ⟨y,u,rfl,rfl⟩
      · rw [Cv] at h;exact wpAny_eqBool_int h
      · rw [Cy] at h;exact SeqAt.EqAt.int_str i t y u _ _ _ _ h
    · rcases gG hv with⟨j,u,rfl,rfl⟩ | ⟨y,u,rfl,rfl⟩
      · rw [Cz] at h;exact Pj x t j u _ _ _ _ h
      · rw [Cw] at h;exact wpAny_eqBool_str h
  «strs»:=fun k x t v h=> by
    rcases gG h with⟨i,u,rfl,e⟩ | ⟨y,u,rfl,e⟩
    · exact nomatch e
    · injection e with e1 _
      subst e1
      cases v <;> rfl
theorem CA(prog:Program)(w:World)(i:Int)(t:Tok):(cR prog w).is (.inl i) (.int i t)=true:=Ct i t
theorem CB(prog:Program)(w:World)(x:Str)(t:Tok):(cR prog w).is (.inr x) (.str x t)=true:=Cu x t
end L2
namespace L2
open PySem PySem.Spec PyProof.Rows
inductive V where
  | non | bl (b:Bool) | int (i:Int) | str (x:Str) | byt (b:Array UInt8) | flt (b:UInt64) | ref (a:Addr) | ty (n:String)
  deriving DecidableEq
def aE:V→Value→Prop
  | .non,u=> u=Mm
  | .bl b,u=> u=Mt b
  | .int i,u=> ∃t,u=MH i t
  | .str x,u=> ∃t,u=Me x t
  | .byt b,u=> ∃t,u=QH b t
  | .flt b,u=> ∃t,u=QI b t
  | .ref a,u=> u=K6 a
  | .ty n,u=> u=MY n
abbrev aF:List V→List Value→Prop:=Paired aE
theorem aF.length{xs:List V}{us:List Value}(r:aF xs us):xs.length=us.length:=NX r
theorem aF.get:∀{xs:List V}{us:List Value}{i:Nat}{x:V},aF xs us→xs[i]?=some x→∃u,us[i]?=some u∧aE x u
  | _,_,_,_,.nil,e=> by simp at e
  | _,_,0,_,.cons r _,e=> by simp at e;subst e;exact⟨_,rfl,r⟩
  | _,_,i+1,x,.cons _ t,e=> by
    obtain⟨u,h1,h2⟩:=aF.get (i:=i) (x:=x) t (by simpa using e)
    exact⟨u,by simpa using h1,h2⟩
theorem aF.set{x:V}{u:Value}(r:aE x u):∀{xs:List V}{us:List Value}(i:Nat),aF xs us→aF (xs.set i x) (us.set i u)
  | _,_,_,.nil=> .nil
  | _,_,0,.cons _ t=> .cons r t
  | _,_,i+1,.cons q t=> .cons q (aF.set r i t)
theorem aF.append:∀{xs ys:List V}{us ws:List Value},aF xs us→aF ys ws→aF (xs++ys) (us++ws)
  | _,_,_,_,.nil,s=> s
  | _,_,_,_,.cons r t,s=> .cons r (aF.append t s)
theorem aF.take:∀{xs:List V}{us:List Value}(n:Nat),aF xs us→aF (xs.take n) (us.take n)
  | _,_,0,_=> .nil
  | _,_,_+1,.nil=> .nil
  | _,_,n+1,.cons r t=> .cons r (aF.take n t)
theorem aF.drop:∀{xs:List V}{us:List Value}(n:Nat),aF xs us→aF (xs.drop n) (us.drop n)
  | _,_,0,r=> r
  | _,_,_+1,.nil=> .nil
  | _,_,n+1,.cons _ t=> aF.drop n t
def eF:Option V→Option Value→Prop
  | some v,some u=> aE v u
  | none,none=> True
  | _,_=> False
def KV{κ:Type}:List (κ×V)→List (κ×Value)→Prop:=Paired fun(p:κ×V) (q:κ×Value)=> p.1=q.1∧aE p.2 q.2
def kV:ak→V
  | .inl i=> .int i
  | .inr x=> .str x
inductive HO where
  | lst (xs:List V)
  | tup (xs:List V)
  | dK (kvs:List (ak×V)) | dT (kvs:List (List ak×V))
  | set (S:Int→Bool) (n:Nat)
  | ins (C dx:Addr) (fs:List (Str×V))
  | own (x:Addr)
  | xd (fs:List (Str×V))
  | met (f x:Addr)
  | rng (lo hi:Int)
  | frz (o:Obj) (u:HO)
  | tbl (ps:Array Value)
  | ext (φ:Heap→Prop)
abbrev Hp:=Addr→Option HO
def au(H:Hp)(a:Addr)(o:HO):Hp:=fun b=> if b=a then some o else H b
theorem bu{H:Hp}{a:Addr}{o:HO}:au H a o a=some o:=by unfold au;rw [if_pos rfl]
theorem aJ{H:Hp}{a b:Addr}{o:HO}(h:b≠a):au H a o b=H b:=by unfold au;rw [if_neg h]
theorem CC{H:Hp}{a b:Addr}{o u:HO}(h:H a=some o)(h':H b=some u)(d:o≠u):a≠b:=by
  intro e;subst e;rw [h] at h';exact d (K5 h')
theorem cZ{H:Hp}{a b:Addr}{o:HO}(h:H a=some o)(h':H b=none):a≠b:=by
  intro e;subst e;rw [h] at h';cases h'
section
variable (P:Program) (w:World)
def cg(H:Hp)(h:Heap)(a:Addr):HO→Prop
  | .lst xs=> xs.length≤sizeLine∧∃(its:List Value)(n:Nat),aF xs its∧h.get? a=some {cls:= .type "list",data:= .seq its.toArray n}
  | .tup xs=> xs.length≤sizeLine∧∃its:List Value,aF xs its∧IsTup h a its.toArray
  | .dK kvs=> kvs.length≤sizeLine∧(a==sysModules)=false∧∃vs,KV kvs vs∧h.DictOf (cR P w) a vs
  | .dT kvs=> kvs.length≤sizeLine∧(a==sysModules)=false∧∃xs:List (List ak×Addr×Value),
      Paired (fun(p:List ak×V) (q:List ak×Addr×Value)=> p.1=q.1∧H q.2.1=some (.tup (p.1.map kV))∧aE p.2 q.2.2) kvs xs∧
      ∃o es ep,h.get? a=some o∧o.ExactDict∧o.data= .dict es ep∧es.toList=xs.map (entryOfKey (tupleKind (cR P w)))∧(xs.map (·.1)).Nodup
  | .set S n=> h.SetOf (intKind P w) a S n
  | .ins C dx fs=> H dx=some (.own a)∧fs.length≤1000∧dx≠a∧h.get? a=some (L9 C dx)∧
      ∃mA,h.Ns1 dx mA∧(∀f,eF (fs.lookup f) (mA f))∧Pk mA (fs.map (·.1))
  | .own _=> ∃o,h.get? a=some o
  | .xd fs=> ∃mA,h.Ns1 a mA∧∀f,eF (fs.lookup f) (mA f)
  | .rng lo hi=> ∃t u v,h.get? a=some {cls:= .type "range",data:= .fields #[.int lo t,.int hi u,.int 1 v]}
  | .frz o u=> h.get? a=some o∧cg H h a u
  | .tbl ps=> h.get? a=some {cls:= .none,data:= .fields ps}
  | .met f x=> h.get? a=some (N7 (.ref f) (.ref x))
  | .ext φ=> φ h∧(∃o,h.get? a=some o)∧∀h1 h2:Heap,φ h1→(∀o,h1.get? a=some o→h2.get? a=some o)→φ h2
def bT(H:Hp)(h:Heap):Prop:=∀a o,H a=some o→cg P w H h a o
end
section
variable {P:Program} {w:World} {H H':Hp} {h h':Heap} {a:Addr} {o:HO}
theorem cg.lt(x:cg P w H h a o):a < h.objs.size:=by
  cases o with
  | lst xs=> obtain⟨_,_,_,_,e⟩:=x;exact Kv e
  | tup xs=> obtain⟨_,_,_,p⟩:=x;exact p.lt
  | dK kvs=> obtain⟨_,_,_,_,o,_,_,e,_⟩:=x;exact Kv e
  | dT kvs=> obtain⟨_,_,_,_,o,_,_,e,_⟩:=x;exact Kv e
  | set S n=> obtain⟨o,_,_,_,e,_⟩:=x;exact Kv e
  | ins C dx fs=> obtain⟨_,_,_,e,_⟩:=x;exact Kv e
  | own y=> obtain⟨_,e⟩:=x;exact Kv e
  | xd fs=> obtain⟨_,⟨_,_,_,e,_⟩,_⟩:=x;exact Kv e
  | rng lo hi=> obtain⟨_,_,_,e⟩:=x;exact Kv e
  | frz ob u=> obtain⟨e,_⟩:=x;exact Kv e
  | tbl ps=> exact Kv (show h.get? a=some _ from x)
  | met f y=> exact Kv (show h.get? a=some _ from x)
  | ext φ=> obtain⟨_,⟨_,e⟩,_⟩:=x;exact Kv e
theorem Paired.mapP{α β:Type}{F G:α→β→Prop}:∀{l₁:List α}{l₂:List β},Paired F l₁ l₂→(∀a b,F a b→G a b)→Paired G l₁ l₂
  | _,_,.nil,_=> .nil
  | _,_,.cons r t,f=> .cons (f _ _ r) (Paired.mapP t f)
theorem cg.stay(x:cg P w H h a o)(k:∀b u,(b=a∨H b=some (.own a))→h.get? b=some u→h'.get? b=some u)
    (ho:∀b,H b=some (.own a)→H' b=some (.own a))(ht:∀b xs,H b=some (.tup xs)→H' b=some (.tup xs)):cg P w H' h' a o:=by
  induction o with
  | lst xs=> obtain⟨z,its,n,r,e⟩:=x;exact⟨z,its,n,r,k _ _ (.inl rfl) e⟩
  | tup xs=> obtain⟨z,its,r,ob,e,c⟩:=x;exact⟨z,its,r,ob,k _ _ (.inl rfl) e,c⟩
  | dK kvs=> obtain⟨z,y,vs,r,ob,es,ep,e,c⟩:=x;exact⟨z,y,vs,r,ob,es,ep,k _ _ (.inl rfl) e,c⟩
  | dT kvs=>
    obtain⟨z,y,xs,r,ob,es,ep,e,c⟩:=x
    exact⟨z,y,xs,Paired.mapP r fun p q z=> ⟨z.1,ht _ _ z.2.1,z.2.2⟩,ob,es,ep,k _ _ (.inl rfl) e,c⟩
  | set S n=> obtain⟨ob,es,ep,t,e,c⟩:=x;exact⟨ob,es,ep,t,k _ _ (.inl rfl) e,c⟩
  | ins C dx fs=>
    obtain⟨d,z,ne,e,mA,⟨od,es,ep,e2,c⟩,r⟩:=x
    exact⟨ho _ d,z,ne,k _ _ (.inl rfl) e,mA,⟨od,es,ep,k _ _ (.inr d) e2,c⟩,r⟩
  | own y=> obtain⟨ob,e⟩:=x;exact⟨ob,k _ _ (.inl rfl) e⟩
  | xd fs=> obtain⟨mA,⟨od,es,ep,e,c⟩,r⟩:=x;exact⟨mA,⟨od,es,ep,k _ _ (.inl rfl) e,c⟩,r⟩
  | rng lo hi=> obtain⟨t,u,v,e⟩:=x;exact⟨t,u,v,k _ _ (.inl rfl) e⟩
  | frz ob u ih=> obtain⟨e,q⟩:=x;exact⟨k _ _ (.inl rfl) e,ih q⟩
  | tbl ps=>
    have e:h.get? a=some {cls:= .none,data:= .fields ps}:=x
    show h'.get? a=some {cls:= .none,data:= .fields ps}
    exact k a _ (.inl rfl) e
  | met f y=>
    have e:h.get? a=some (N7 (.ref f) (.ref y)):=x
    show h'.get? a=some (N7 (.ref f) (.ref y))
    exact k a _ (.inl rfl) e
  | ext φ=> obtain⟨p,⟨o,e⟩,st⟩:=x;exact⟨st _ _ p fun o q=> k _ _ (.inl rfl) q,⟨o,k _ _ (.inl rfl) e⟩,st⟩
theorem bT.lt(x:bT P w H h)(e:H a=some o):a < h.objs.size:=(x a o e).lt
theorem bT.fresh(x:bT P w H h)(e:h.objs.size≤a):H a=none:=by
  cases q:H a with
  | none=> rfl
  | some u=> exact absurd (K9 (x.lt q) e) (Mq _)
theorem bT.kept(x:bT P w H h)(k:∀b u,h.get? b=some u→h'.get? b=some u):bT P w H h':=fun a o e=>
  (x a o e).stay (fun b u _ q=> k b u q) (fun _ q=> q) fun _ _ q=> q
theorem bT.laid(x:bT P w H h)(k:∀b u,h.get? b=some u→h'.get? b=some u)(hp:h.objs.size≤a)(new:cg P w (au H a o) h' a o):bT P w (au H a o) h':=fun b u e=> by
  have hn:=x.fresh hp
  by_cases hb:b=a
  · subst hb;rw [bu] at e;cases e;exact new
  · rw [aJ hb] at e
    exact(x b u e).stay (fun c v _ q=> k c v q) (fun c q=> by rw [aJ (cZ q hn)];exact q) fun c xs q=> by rw [aJ (cZ q hn)];exact q
end
def Rd(H:Hp)(a:Addr)(u:HO):Prop:=H a=some u∨∃o,H a=some (.frz o u)
theorem Rd.ok{P:Program}{w:World}{H:Hp}{h:Heap}{a:Addr}{u:HO}(r:Rd H a u)(x:bT P w H h):cg P w H h a u:=by
  rcases r with r | ⟨o,r⟩
  · exact x a u r
  · obtain⟨_,q⟩:=x a _ r
    exact q
def kH:Option HO→Prop
  | some (.lst _)=> True
  | some (.dK _)=> True
  | some (.dT _)=> True
  | some (.set _ _)=> True
  | some (.ins _ _ _)=> True
  | some (.ext _)=> True
  | _=> False
section
variable {P:Program} {w:World} {H:Hp} {h h':Heap} {x e:Addr} {o':HO}
theorem bT.write(ok:bT P w H h)(mu:kH (H x))(he:e=x∨H e=some (.own x))(k:∀b u,b≠e→h.get? b=some u→h'.get? b=some u)(heo:∃u,h'.get? e=some u)
    (new:cg P w (au H x o') h' x o'):bT P w (au H x o') h':=fun b u q=> by
  have nown:∀c y,H c=some (.own y)→c≠x:=fun c y r z=> by subst z;rw [r] at mu;exact mu
  have ntup:∀c xs,H c=some (.tup xs)→c≠x:=fun c xs r z=> by subst z;rw [r] at mu;exact mu
  by_cases hb:b=x
  · subst hb;rw [bu] at q;cases q;exact new
  · rw [aJ hb] at q
    by_cases hbe:b=e
    · have q':H b=some (.own x):=by
        rcases he with z | z
        · exact absurd (hbe.trans z) hb
        · rw [hbe];exact z
      rw [q] at q';cases q'
      obtain⟨v,hv⟩:=heo
      exact⟨v,by rw [hbe];exact hv⟩
    · refine(ok b u q).stay (fun c v hc r=> k c v ?_ r) (fun c r=> by rw [aJ (nown c b r)];exact r) fun c xs r=> by rw [aJ (ntup c xs r)];exact r
      rcases hc with rfl | hc
      · exact hbe
      · rintro rfl
        rcases he with z | z
        · exact nown c b hc z
        · rw [hc] at z;cases z;exact hb rfl
end
structure Un (fs ex:List Addr) (H H':Hp) (h h':Heap):Prop where
  keep:∀b o,h.get? b=some o→H b=none→b ∉ fs→b ∉ ex→h'.get? b=some o
  slot:∀b o,h.get? b=some o→H b=none→b∈fs→b ∉ ex→∃sl,h'.get? b=some {o with slots:=sl}
  free:∀b o,h.get? b=some o→H b=none→b ∉ ex→H' b=none
  there:∀b o,h.get? b=some o→b ∉ ex→∃o',h'.get? b=some o'
  tups:∀b xs,H b=some (.tup xs)→H' b=some (.tup xs)
  frzs:∀b o u,H b=some (.frz o u)→H' b=some (.frz o u)
  tbls:∀b ps,H b=some (.tbl ps)→∃more,H' b=some (.tbl (ps++more))
section
variable {fs fs' ex ex':List Addr} {H H1 H2:Hp} {h h1 h2 h':Heap} {a x e:Addr} {o:HO}
theorem Un.any(u:Un fs ex H H1 h h1){b:Addr}{ob:Obj}(q:h.get? b=some ob)(n:H b=none)(hx:b ∉ ex):∃sl,h1.get? b=some {ob with slots:=sl}:=by
  by_cases hb:b∈fs
  · exact u.slot b ob q n hb hx
  · exact⟨ob.slots,u.keep b ob q n hb hx⟩
theorem Un.kept(k:∀b u,h.get? b=some u→h'.get? b=some u):Un fs ex H H h h':=
  ⟨fun b ob q _ _ _=> k b ob q,fun b ob q _ _ _=> ⟨ob.slots,k b ob q⟩,fun _ _ _ n _=> n,fun b ob q _=> ⟨ob,k b ob q⟩,fun _ _ q=> q,fun _ _ _ q=> q,fun _ ps q=> ⟨#[],by rw [q];simp⟩⟩
theorem Un.refl:Un fs ex H H h h:=Un.kept fun _ _ q=> q
theorem Un.laid(k:∀b u,h.get? b=some u→h'.get? b=some u)(hp:h.objs.size≤a)(hn:H a=none):Un fs ex H (au H a o) h h' where
  keep:=fun b u q _ _ _=> k b u q
  slot:=fun b u q _ _ _=> ⟨u.slots,k b u q⟩
  free:=fun b u q n _=> by rw [aJ (KN (K9 (Kv q) hp))];exact n
  there:=fun b u q _=> ⟨u,k b u q⟩
  tups:=fun b xs q=> by rw [aJ (cZ q hn)];exact q
  frzs:=fun b u xs q=> by rw [aJ (cZ q hn)];exact q
  tbls:=fun b ps q=> ⟨#[],by rw [aJ (cZ q hn),q];simp⟩
theorem Un.write(mu:kH (H x))(he:e=x∨H e=some (.own x))(k:∀b u,b≠e→h.get? b=some u→h'.get? b=some u)(heo:∃u,h'.get? e=some u):Un fs ex H (au H x o) h h':=by
  have hx:∀b,H b=none→b≠x:=fun b n z=> by subst z;rw [n] at mu;exact mu
  have hb:∀b,H b=none→b≠e:=fun b n z=> by
    subst z
    rcases he with r | r
    · exact hx b n r
    · rw [n] at r;cases r
  have hm:∀b u,H b=some u→¬kH (some u)→b≠x:=fun b u q nm z=> by subst z;rw [q] at mu;exact nm mu
  refine⟨fun b u q n _ _=> k b u (hb b n) q,fun b u q n _ _=> ⟨u.slots,k b u (hb b n) q⟩,fun b u q n _=> by rw [aJ (hx b n)];exact n,fun b u q _=> ?_,
    fun b xs q=> by rw [aJ (hm b _ q fun z=> z)];exact q,fun b u xs q=> by rw [aJ (hm b _ q fun z=> z)];exact q,fun b ps q=> ⟨#[],by rw [aJ (hm b _ q fun z=> z),q];simp⟩⟩
  by_cases hbe:b=e
  · subst hbe;exact heo
  · exact⟨u,k b u hbe q⟩
end
def trk(h:Heap)(H:Hp):List Addr:=(Lp h.objs.size).filter fun a=> (H a).isSome
def iz(h:Heap)(H:Hp):Heap:=PySem.W.hideAll h (trk h H)
theorem CD(h:Heap)(H:Hp):(iz h H).objs.size=h.objs.size:=PySem.W.hideAll_size _ _
theorem CF{h:Heap}{H:Hp}{b:Addr}{o:Obj}(e:h.get? b=some o)(n:H b=none):(iz h H).get? b=some o:=
  PySem.W.hideAll_get _ e fun hm=> by
    have q:(H b).isSome=true:=(KA.mp hm).2
    rw [n] at q;simp at q
theorem CG{h:Heap}{H:Hp}{b:Addr}{o:Obj}(e:(iz h H).get? b=some o):h.get? b=some o∧H b=none:=by
  have e':h.get? b=some o:=PySem.W.of_hideAll (trk h H) e
  refine⟨e',?_⟩
  cases q:H b with
  | none=> rfl
  | some x=>
    have hm:b∈trk h H:=KA.mpr ⟨Nk.mpr (Kv e'),by simp [q]⟩
    have z:(iz h H).get? b=none:=PySem.W.hideAll_none (trk h H) hm
    rw [z] at e;cases e
def CH(g h:Heap)(L:Addr):List (Addr×Obj):=(Lp h.objs.size).filterMap fun a=> if a=L∨(g.get? a).isSome=true then none else(h.get? a).map fun o=> (a,o)
def rest(g h:Heap)(L d:Addr):List (Addr×Obj):=(CH g h L).filter fun p=> decide (p.1≠d)
end L2
namespace L2
open PySem PySem.Spec PyProof.Rows
structure Mod (K:Kb) (mg:Str→Option Value) (base:Heap):Prop where
  kin:K.In base
  glob:base.Ns mainGlobals mg
  blt:∃mb,base.Ns builtinsNs mb∧∀x:Str,x≠"__name__"→mb x=bootBuiltins x
  nolimit:base.NoLimit
structure Cx where
  prog:Program
  w:World
  K:Kb
  mg:Str→Option Value
  base:Heap
  A:Around
  N:List Str
  s₀:Shared
  H₀:Hp
  env:Env
  outer:List Env
  stack:List Env
  ex:List Addr
  fn:Str→Bool
  calm:Bool
  pn:List (Addr×Obj)
  xe:Value→Shared→Prop
def fm(l:List Env):List Addr:=l.filterMap (·.frame)
abbrev Cx.fs(X:Cx):List Addr:=fm X.outer
def lW(sc:Scope)(x:Str):Prop:=sc.names.lookup x=some .local∨sc.names.lookup x=some .cell∨sc.names.lookup x=some .free
def gH(sc:Scope)(x:Str):Prop:=sc.names.lookup x=some .local∨sc.names.lookup x=some .cell
def CI(env:Env)(h:Heap)(m:Str→Option Value)(x:Str)(u:Value):Prop:=
  (env.kindOf x=some .local∧m x=some u)∨((env.kindOf x=some .cell∨env.kindOf x=some .free)∧∃c,env.cells.lookup x=some c∧h.IsCell c (some u))
structure Cx.Ok (X:Cx):Prop where
  mod:Mod X.K X.mg X.base
  kind:X.env.scope.kind= .function
  glob:X.env.globals=mainGlobals
  blt:X.env.builtins=builtinsNs
  above:X.s₀.heap.objs.size≤X.env.locals
  inj:∀x y c,X.env.cells.lookup x=some c→X.env.cells.lookup y=some c→x=y
  has:∀x,(X.env.kindOf x=some .cell∨X.env.kindOf x=some .free)→∃c,X.env.cells.lookup x=some c
  cab:∀x c,X.fn x=true→X.env.cells.lookup x=some c→X.s₀.heap.objs.size≤c
  hd:X.calm=true→X.A.handled=none
  frames:X.A.frames=some X.stack
  stk:X.stack=X.outer∨(X.stack=X.env::X.outer∧X.env.frame=some X.env.locals)
  exf:∀b∈X.ex,b≠X.env.locals∧∀x c,X.env.cells.lookup x=some c→c≠b
  bs:∀b o,X.base.get? b=some o→X.s₀.heap.get? b=some o∧X.H₀ b=none
  bsz:X.base.objs.size≤X.s₀.heap.objs.size
  noex:∀b o,X.base.get? b=some o→b ∉ X.ex
  exfs:∀b∈X.ex,b ∉ X.fs
  funs:X.s₀.heap.FunFrames X.base X.outer
  frf:∀b∈X.fs,X.H₀ b=none
structure af (X:Cx) (pins:List (Addr×Obj)) (σ:List (Option V)) (H:Hp) (s:Shared):Prop where
  ok:X.Ok
  os:s.os=X.s₀.os
  bare:AllBare s.gens
  base:Un X.fs X.ex X.H₀ H X.s₀.heap s.heap
  loc:∃m,s.heap.Ns X.env.locals m∧∀(i:Nat)(x:Str)(v:V),X.N[i]?=some x→σ[i]?=some (some v)→lW X.env.scope x→∃u,aE v u∧CI X.env s.heap m x u
  cell:∀x c,X.env.cells.lookup x=some c→∃v,s.heap.IsCell c v
  free:H X.env.locals=none
  freeC:∀x c,X.env.cells.lookup x=some c→H c=none
  pin:∀p∈X.pn++pins,s.heap.get? p.1=some p.2∧H p.1=none∧p.1≠X.env.locals∧p.1 ∉ X.fs∧∀v,p.2.data≠ .cell v
  hok:bT X.prog X.w H s.heap
  len:σ.length=X.N.length
section
variable {X:Cx} {pins:List (Addr×Obj)} {σ:List (Option V)} {H H':Hp} {s:Shared} {h':Heap}
theorem Cx.Ok.nofr(ok:X.Ok){b:Addr}{o:Obj}(e:X.base.get? b=some o):b ∉ X.fs:=fun hb=> by
  have:=(ok.funs.mem hb).1
  rw [e] at this;cases this
theorem af.bs(I:af X pins σ H s):∀b o,X.base.get? b=some o→s.heap.get? b=some o∧H b=none:=fun b o e=>
  ⟨I.base.keep b o (I.ok.bs b o e).1 (I.ok.bs b o e).2 (I.ok.nofr e) (I.ok.noex b o e),I.base.free b o (I.ok.bs b o e).1 (I.ok.bs b o e).2 (I.ok.noex b o e)⟩
theorem af.bk(I:af X pins σ H s):∀b o,X.base.get? b=some o→s.heap.get? b=some o:=fun b o e=> (I.bs b o e).1
theorem af.mod(I:af X pins σ H s):Mod X.K X.mg X.base:=I.ok.mod
theorem af.kIn(I:af X pins σ H s):X.K.In s.heap:=I.ok.mod.kin.keeps I.bk
theorem af.fr(I:af X pins σ H s):∃m,Fr X.base X.env.locals s.heap m:=
  let ⟨m,hn,_⟩:=I.loc
  ⟨m,hn,I.bk,KS I.ok.bsz I.ok.above⟩
theorem af.lt(I:af X pins σ H s):X.env.locals < s.heap.objs.size:=let ⟨_,hn,_⟩:=I.loc;hn.lt
theorem af.sz(I:af X pins σ H s):X.s₀.heap.objs.size≤s.heap.objs.size:=KS I.ok.above (Mz I.lt)
theorem af.nofs(I:af X pins σ H s){a:Addr}(h:s.heap.objs.size≤a):a ∉ X.fs:=fun hb=> by
  obtain⟨_,o,ho,_⟩:=I.ok.funs.mem hb
  exact absurd (K9 (Kv ho) (KS I.sz h)) (Mq _)
theorem af.cne(I:af X pins σ H s):∀x c,X.env.cells.lookup x=some c→c≠X.env.locals:=fun x c e z=> by
  obtain⟨v,o,ho,hd⟩:=I.cell x c e
  obtain⟨m,⟨o',es,ep,ho',hd',_⟩,_⟩:=I.loc
  rw [z,ho'] at ho;cases ho;rw [hd'] at hd;cases hd
theorem af.funs(I:af X pins σ H s):s.heap.FunFrames X.base X.outer:=by
  have all:∀(l:List Env),(∀b∈fm l,b∈X.fs)→X.s₀.heap.FunFrames X.base l→s.heap.FunFrames X.base l:=by
    intro l
    induction l with
    | nil=> intro _ _;trivial
    | cons env r ih=>
      intro hs hl
      obtain⟨hk,⟨L,o,hf,hn,ho,hd⟩,hr⟩:=hl
      have hL:L∈X.fs:=hs L (by unfold fm;rw [Mg,hf];exact K3)
      obtain⟨sl,e⟩:=I.base.slot L o ho (I.ok.frf L hL) hL fun z=> I.ok.exfs L z hL
      exact⟨hk,⟨L,_,hf,hn,e,hd⟩,ih (fun b hb=> hs b (by unfold fm;rw [Mg,hf];exact K1 _ hb)) hr⟩
  exact all X.outer (fun _ hb=> hb) I.ok.funs
theorem af.stack(I:af X pins σ H s):s.heap.FunFrames X.base X.stack:=by
  rcases I.ok.stk with e | ⟨e,hf⟩
  · rw [e];exact I.funs
  · rw [e]
    obtain⟨m,hn,_⟩:=I.loc
    refine .cons (by rw [I.ok.kind];decide) hf hn ?_ I.funs
    exact Heap.get?_none_of_le (KS I.ok.bsz I.ok.above)
theorem af.stkSub(I:af X pins σ H s):∀b∈fm X.stack,b∈X.env.locals::X.fs:=fun b hb=> by
  rcases I.ok.stk with e | ⟨e,hf⟩
  · rw [e] at hb;exact K1 _ hb
  · rw [e] at hb
    unfold fm at hb
    rw [Mg,hf] at hb
    exact hb
theorem af.stkFree(I:af X pins σ H s):∀b∈fm X.stack,H b=none:=fun b hb=> by
  rcases Kz.mp (I.stkSub b hb) with e | hb
  · rw [e];exact I.free
  · obtain⟨_,o,ho,_⟩:=I.ok.funs.mem hb
    exact I.base.free b o ho (I.ok.frf b hb) fun z=> I.ok.exfs b z hb
theorem af.step{g':Array GenState}{t':Nat}{d':Drawn}{ch:List Addr}(I:af X pins σ H s)
    (hch:∀b∈ch,(b∈X.ex∨X.s₀.heap.objs.size≤b)∧b≠X.env.locals∧(∀x c,X.env.cells.lookup x=some c→c≠b)∧∀p∈X.pn++pins,p.1≠b)
    (keep:∀b o,b≠X.env.locals→b ∉ X.fs→b ∉ ch→s.heap.get? b=some o→H b=none→h'.get? b=some o)
    (slot:∀b o,b≠X.env.locals→b∈X.fs→b ∉ ch→s.heap.get? b=some o→H b=none→∃sl,h'.get? b=some {o with slots:=sl})(free:∀b o,b ∉ ch→s.heap.get? b=some o→H b=none→H' b=none)
    (there:∀b o,b ∉ ch→s.heap.get? b=some o→∃o',h'.get? b=some o')
    (tups:∀b xs,H b=some (.tup xs)→H' b=some (.tup xs))(frzs:∀b o u,H b=some (.frz o u)→H' b=some (.frz o u))(tbls:∀b ps,H b=some (.tbl ps)→∃more,H' b=some (.tbl (ps++more)))
    (ns:∀m,s.heap.Ns X.env.locals m→h'.Ns X.env.locals m)(hok:bT X.prog X.w H' h')(hg:AllBare g'):
    af X pins σ H' {s with heap:=h',gens:=g',drawn:=d',toks:=t'}:=by
  have neL:∀b o,X.s₀.heap.get? b=some o→b≠X.env.locals:=fun b o e=> KN (K9 (Kv e) I.ok.above)
  have neC:∀b o,X.s₀.heap.get? b=some o→b ∉ X.ex→b ∉ ch:=fun b o e hx hb=> by
    rcases(hch b hb).1 with z | z
    · exact hx z
    · exact absurd (K9 (Kv e) z) (Mq _)
  have cellK:∀x c,X.env.cells.lookup x=some c→∀v,s.heap.IsCell c v→h'.IsCell c v:=fun x c e v uu1=> by
    obtain⟨o,ho,hd⟩:=uu1
    have nch:c ∉ ch:=fun z=> (hch c z).2.2.1 x c e rfl
    by_cases hc:c∈X.fs
    · obtain⟨sl,q⟩:=slot c o (I.cne x c e) hc nch ho (I.freeC x c e)
      exact⟨_,q,hd⟩
    · exact⟨o,keep c o (I.cne x c e) hc nch ho (I.freeC x c e),hd⟩
  refine⟨I.ok,I.os,hg,⟨fun b o e n hb hx=> ?_,fun b o e n hb hx=> ?_,fun b o e n hx=> ?_,fun b o e hx=> ?_,fun b xs e=> tups b xs (I.base.tups b xs e),fun b o xs e=> frzs b o xs (I.base.frzs b o xs e),fun b ps e=> ?_⟩,?_,fun x c e=> ?_,?_,fun x c e=> ?_,fun p hp=> ?_,hok,I.len⟩
  · exact keep b o (neL b o e) hb (neC b o e hx) (I.base.keep b o e n hb hx) (I.base.free b o e n hx)
  · obtain⟨sl,e1⟩:=I.base.slot b o e n hb hx
    obtain⟨sl',e2⟩:=slot b _ (neL b o e) hb (neC b o e hx) e1 (I.base.free b o e n hx)
    exact⟨sl',e2⟩
  · obtain⟨o',e1⟩:=I.base.there b o e hx
    exact free b o' (neC b o e hx) e1 (I.base.free b o e n hx)
  · obtain⟨o',e1⟩:=I.base.there b o e hx
    exact there b o' (neC b o e hx) e1
  · obtain⟨m1,e1⟩:=I.base.tbls b ps e
    obtain⟨m2,e2⟩:=tbls b _ e1
    exact⟨m1++m2,by rw [e2,Array.append_assoc]⟩
  · obtain⟨m,hn,hl⟩:=I.loc
    refine⟨m,ns m hn,fun i x v e1 e2 e3=> ?_⟩
    obtain⟨u,r,l⟩:=hl i x v e1 e2 e3
    refine⟨u,r,?_⟩
    rcases l with l | ⟨k,c,e,z⟩
    · exact .inl l
    · exact .inr ⟨k,c,e,cellK x c e _ z⟩
  · obtain⟨v,z⟩:=I.cell x c e
    exact⟨v,cellK x c e v z⟩
  · obtain⟨m,⟨o,_,_,ho,_⟩,_⟩:=I.loc
    exact free _ o (fun z=> (hch _ z).2.1 rfl) ho I.free
  · obtain⟨v,o,ho,hd⟩:=I.cell x c e
    exact free c o (fun z=> (hch c z).2.2.1 x c e rfl) ho (I.freeC x c e)
  · obtain⟨e,n,ne,nf,d⟩:=I.pin p hp
    have nch:p.1 ∉ ch:=fun z=> (hch p.1 z).2.2.2 p hp rfl
    exact⟨keep p.1 p.2 ne nf nch e n,free p.1 p.2 nch e n,ne,nf,d⟩
theorem af.un{t':Nat}(I:af X pins σ H s)(u:Un X.fs [] H H' s.heap h')(hok:bT X.prog X.w H' h'):af X pins σ H' {s with heap:=h',toks:=t'}:=by
  obtain⟨m,⟨o,es,ep,ho,r⟩,_⟩:=id I.loc
  obtain⟨sl,hL⟩:=u.any ho I.free (by simp)
  exact I.step (g':=s.gens) (d':=s.drawn) (ch:=[]) (fun _ z=> nomatch z) (fun b o _ hb _ e n=> u.keep b o e n hb (by simp)) (fun b o _ hb _ e n=> u.slot b o e n hb (by simp)) (fun b o _ e n=> u.free b o e n (by simp)) (fun b o _ e=> u.there b o e (by simp)) u.tups u.frzs u.tbls (fun m' hm=> by
    obtain⟨o',es',ep',ho',r'⟩:=hm
    rw [ho] at ho';cases ho'
    exact⟨_,es',ep',hL,r'⟩) hok I.bare
theorem af.call{g':Array GenState}{t':Nat}{d':Drawn}{ch:List Addr}(I:af X pins σ H s)(u:Un (fm X.stack) ch H H' s.heap h')(hok:bT X.prog X.w H' h')(hg:AllBare g')
    (hch:∀b∈ch,(b∈X.ex∨X.s₀.heap.objs.size≤b)∧b≠X.env.locals∧(∀x c,X.env.cells.lookup x=some c→c≠b)∧∀p∈X.pn++pins,p.1≠b):
    af X pins σ H' {s with heap:=h',gens:=g',drawn:=d',toks:=t'}:=by
  obtain⟨m,⟨o,es,ep,ho,r⟩,_⟩:=id I.loc
  obtain⟨sl,hL⟩:=u.any ho I.free fun z=> (hch _ z).2.1 rfl
  exact I.step (ch:=ch) hch (fun b o hL hb hc e n=> u.keep b o e n (fun z=> (Kz.mp (I.stkSub b z)).elim hL hb) hc) (fun b o _ _ hc e n=> u.any e n hc) (fun b o hc e n=> u.free b o e n hc) (fun b o hc e=> u.there b o e hc) u.tups u.frzs u.tbls (fun m' hm=> by
    obtain⟨o',es',ep',ho',r'⟩:=hm
    rw [ho] at ho';cases ho'
    exact⟨_,es',ep',hL,r'⟩) hok hg
theorem af.turned{t':Nat}{it:Addr}(I:af X pins σ H s)(k:∀b o,b≠it→s.heap.get? b=some o→h'.get? b=some o)(hn:H it=none)(hL:it≠X.env.locals)
    (h1:it∈X.ex∨X.s₀.heap.objs.size≤it)(h2:∀x c,X.env.cells.lookup x=some c→c≠it)(h3:∀p∈X.pn++pins,p.1≠it):af X pins σ H {s with heap:=h',toks:=t'}:=by
  have nit:∀b u,H b=some u→b≠it:=fun b u e z=> by rw [z,hn] at e;cases e
  refine I.step (g':=s.gens) (d':=s.drawn) (ch:=[it]) (fun b hb=> ?_) (fun b o _ _ hc e _=> k b o (fun z=> hc (by simp [z])) e) (fun b o _ _ hc e _=> ⟨o.slots,k b o (fun z=> hc (by simp [z])) e⟩) (fun _ _ _ _ n=> n)
    (fun b o hc e=> ⟨o,k b o (fun z=> hc (by simp [z])) e⟩) (fun _ _ e=> e) (fun _ _ _ e=> e) (fun b ps e=> ⟨#[],by rw [e];simp⟩) (fun m hm=> ?_) (fun b u e=> ?_) I.bare
  · have e:b=it:=by simpa using hb
    subst e
    exact⟨h1,hL,h2,h3⟩
  · obtain⟨o,es,ep,ho,r⟩:=hm
    exact⟨o,es,ep,k _ o (Ne.symm hL) ho,r⟩
  · refine(I.hok b u e).stay (fun c v hc q=> k c v ?_ q) (fun _ q=> q) fun _ _ q=> q
    rcases hc with z | z
    · rw [z];exact nit b u e
    · exact nit c _ z
theorem af.tok(I:af X pins σ H s)(t:Nat):af X pins σ H {s with toks:=t}:=I.un (h':=s.heap) (t':=t) Un.refl I.hok
theorem af.kept{t':Nat}(I:af X pins σ H s)(k:∀b u,s.heap.get? b=some u→h'.get? b=some u):af X pins σ H {s with heap:=h',toks:=t'}:=I.un (Un.kept k) (I.hok.kept k)
theorem af.laid{a:Addr}{o:HO}{t':Nat}(I:af X pins σ H s)(k:∀b u,s.heap.get? b=some u→h'.get? b=some u)(hp:s.heap.objs.size≤a)(new:cg X.prog X.w (au H a o) h' a o):
    af X pins σ (au H a o) {s with heap:=h',toks:=t'}:=I.un (Un.laid k hp (I.hok.fresh hp)) (I.hok.laid k hp new)
theorem af.write{x e:Addr}{o:HO}{t':Nat}(I:af X pins σ H s)(mu:kH (H x))(he:e=x∨H e=some (.own x))(k:∀b u,b≠e→s.heap.get? b=some u→h'.get? b=some u)(heo:∃u,h'.get? e=some u)
    (new:cg X.prog X.w (au H x o) h' x o):af X pins σ (au H x o) {s with heap:=h',toks:=t'}:=I.un (Un.write mu he k heo) (I.hok.write mu he k heo new)
theorem af.weak{σ':List (Option V)}(I:af X pins σ H s)(hl:σ'.length=σ.length)(w:∀(i:Nat) v,σ'[i]?=some (some v)→σ[i]?=some (some v)):af X pins σ' H s:=
  ⟨I.ok,I.os,I.bare,I.base,let ⟨m,hn,hl'⟩:=I.loc;⟨m,hn,fun i x v e1 e2 e3=> hl' i x v e1 (w i v e2) e3⟩,I.cell,I.free,I.freeC,I.pin,I.hok,hl.trans I.len⟩
theorem af.pins_of{pins':List (Addr×Obj)}(I:af X pins σ H s)(h:∀p∈pins',s.heap.get? p.1=some p.2∧H p.1=none∧p.1≠X.env.locals∧p.1 ∉ X.fs∧∀v,p.2.data≠ .cell v):af X pins' σ H s:=
  ⟨I.ok,I.os,I.bare,I.base,I.loc,I.cell,I.free,I.freeC,fun p hp=> (KL.mp hp).elim (fun z=> I.pin p (NK _ z)) (h p),I.hok,I.len⟩
theorem uU{N:List Str}(hN:N.Nodup){i j:Nat}{x:Str}(a:N[i]?=some x)(b:N[j]?=some x):i=j:=by
  obtain⟨h1,e1⟩:=Ku.mp a
  obtain⟨h2,e2⟩:=Ku.mp b
  exact(NF hN).mp (e1.trans e2.symm)
theorem uV{M:Model}{A:Around}{E:Value→Shared→Prop}{i:Nat}{x:Str}{v:V}{u:Value}{Q:Unit→Shared→Prop}(I:af X pins σ H s)(hN:X.N.Nodup)(hi:X.N[i]?=some x)(hx:gH X.env.scope x)(r:aE v u)
    (h:∀s',af X pins (σ.set i (some v)) H s'→(∃a,Ma a s.heap s'.heap∧(a=X.env.locals∨X.env.cells.lookup x=some a))→Q () s')(hf:X.fn x=true∨X.env.scope.names.lookup x=some .local:=by first | exact .inl rfl | exact .inr rfl | assumption):wpAny M A (storeName X.env x u) Q E s:=by
  obtain⟨m,hn,hl⟩:=id I.loc
  have hcls:(X.env.scope.kind== .class || (X.env.scope.kind== .module && X.env.locals !=X.env.globals))=false:=by rw [I.ok.kind];rfl
  have hiσ:i < σ.length:=by rw [I.len];exact(Ku.mp hi).1
  have cne:=I.cne
  have tracked:∀{a:Addr}{h':Heap},(∃o,s.heap.get? a=some o∧H a=none)→Ma a s.heap h'→bT X.prog X.w H h':=fun{a h'} ha hs b ob e=> by
    obtain⟨_,_,hfree⟩:=ha
    refine(I.hok b ob e).stay (fun c w' hc q=> (hs.2 c ?_).trans q) (fun _ q=> q) fun _ _ q=> q
    rintro rfl
    rcases hc with rfl | hc
    · rw [hfree] at e;cases e
    · rw [hfree] at hc;cases hc
  rcases hx with hk | hk
  · refine wpAny_storeName_local hk hn (fun h' hn' hs=> ?_) hcls
    obtain⟨oL,_,_,hoL,_⟩:=id hn
    refine h _ ⟨I.ok,I.os,I.bare,⟨fun b o e n hb hx=> ?_,fun b o e n hb hx=> ?_,I.base.free,fun b o e hx=> ?_,I.base.tups,I.base.frzs,I.base.tbls⟩,⟨_,hn',fun j y v' e1 e2 e3=> ?_⟩,fun y c e=> ?_,I.free,I.freeC,fun p hp=> ?_,tracked ⟨oL,hoL,I.free⟩ hs,by simpa using I.len⟩ ⟨_,hs,.inl rfl⟩
    · exact(hs.2 b (KN (K9 (Kv e) I.ok.above))).trans (I.base.keep b o e n hb hx)
    · obtain⟨sl,e1⟩:=I.base.slot b o e n hb hx
      exact⟨sl,(hs.2 b (KN (K9 (Kv e) I.ok.above))).trans e1⟩
    · obtain⟨o',e1⟩:=I.base.there b o e hx
      exact⟨o',(hs.2 b (KN (K9 (Kv e) I.ok.above))).trans e1⟩
    · by_cases hj:j=i
      · subst hj
        rw [hi] at e1;cases e1
        rw [Lb hiσ] at e2
        cases e2
        exact⟨u,r,.inl ⟨hk,by simp⟩⟩
      · rw [KU (Ne.symm hj)] at e2
        obtain⟨u',r',q⟩:=hl j y v' e1 e2 e3
        refine⟨u',r',?_⟩
        rcases q with⟨k,e⟩ | ⟨k,c,e,z⟩
        · refine .inl ⟨k,?_⟩
          have:y≠x:=fun e=> hj (uU hN e1 (e▸hi))
          simp [this,e]
        · exact .inr ⟨k,c,e,z.sameBut hs (cne y c e)⟩
    · obtain⟨w',z⟩:=I.cell y c e
      exact⟨w',z.sameBut hs (cne y c e)⟩
    · obtain⟨e,n,ne,nf,d⟩:=I.pin p hp
      exact⟨(hs.2 p.1 ne).trans e,n,ne,nf,d⟩
  · have hfn:X.fn x=true:=by
      rcases hf with z | z
      · exact z
      · rw [z] at hk;cases hk
    obtain⟨c,hc⟩:=I.ok.has x (.inl hk)
    obtain⟨w',z⟩:=I.cell x c hc
    refine wpAny_storeName_cell I.ok.kind hk hc z (fun h' hc' hs=> ?_)
    obtain⟨oc,hoc,hocd⟩:=id z
    refine h {s with heap:=h'} ⟨I.ok,I.os,I.bare,⟨fun b o e n hb hx=> ?_,fun b o e n hb hx=> ?_,I.base.free,fun b o e hx=> ?_,I.base.tups,I.base.frzs,I.base.tbls⟩,⟨m,hn.sameBut hs (Ne.symm (cne x c hc)),fun j y v' e1 e2 e3=> ?_⟩,fun y c' e=> ?_,I.free,I.freeC,fun p hp=> ?_,tracked ⟨oc,hoc,I.freeC x c hc⟩ hs,by simpa using I.len⟩ ⟨c,hs,.inr hc⟩
    · exact(hs.2 b (KN (K9 (Kv e) (I.ok.cab x c hfn hc)))).trans (I.base.keep b o e n hb hx)
    · obtain⟨sl,e1⟩:=I.base.slot b o e n hb hx
      exact⟨sl,(hs.2 b (KN (K9 (Kv e) (I.ok.cab x c hfn hc)))).trans e1⟩
    · obtain⟨o',e1⟩:=I.base.there b o e hx
      exact⟨o',(hs.2 b (KN (K9 (Kv e) (I.ok.cab x c hfn hc)))).trans e1⟩
    · by_cases hj:j=i
      · subst hj
        rw [hi] at e1;cases e1
        rw [Lb hiσ] at e2
        cases e2
        exact⟨u,r,.inr ⟨.inl hk,c,hc,hc'⟩⟩
      · rw [KU (Ne.symm hj)] at e2
        obtain⟨u',r',q⟩:=hl j y v' e1 e2 e3
        refine⟨u',r',?_⟩
        rcases q with q | ⟨k,c',e,z'⟩
        · exact .inl q
        · refine .inr ⟨k,c',e,z'.sameBut hs ?_⟩
          rintro rfl
          exact hj (uU hN e1 (I.ok.inj _ _ _ e hc▸hi))
    · by_cases hcc:c'=c
      · subst hcc;exact⟨_,hc'⟩
      · obtain⟨w2,z2⟩:=I.cell y c' e
        exact⟨w2,z2.sameBut hs hcc⟩
    · obtain⟨e,n,ne,nf,d⟩:=I.pin p hp
      refine⟨(hs.2 p.1 ?_).trans e,n,ne,nf,d⟩
      intro q
      rw [q,hoc] at e
      have q':oc=p.2:=K5 e
      exact d w' (by rw [←q'];exact hocd)
theorem j2{M:Model}{A:Around}{E:Value→Shared→Prop}{i:Nat}{x:Str}{v:V}{u:Value}{Q:Unit→Shared→Prop}(I:af X pins σ H s)(hN:X.N.Nodup)(hi:X.N[i]?=some x)(hx:gH X.env.scope x)(r:aE v u)
    (h:∀s',af X pins (σ.set i (some v)) H s'→Q () s')(hf:X.fn x=true∨X.env.scope.names.lookup x=some .local:=by first | exact .inl rfl | exact .inr rfl | assumption):wpAny M A (storeName X.env x u) Q E s:=
  uV I hN hi hx r (fun s' I' _=> h s' I') hf
theorem af.call'{s':Shared}{ch:List Addr}(I:af X pins σ H s)(ho:s'.os=s.os)(u:Un (fm X.stack) ch H H' s.heap s'.heap)(hok:bT X.prog X.w H' s'.heap)(hg:AllBare s'.gens)
    (hch:∀b∈ch,(b∈X.ex∨X.s₀.heap.objs.size≤b)∧b≠X.env.locals∧(∀x c,X.env.cells.lookup x=some c→c≠b)∧∀p∈X.pn++pins,p.1≠b):af X pins σ H' s':=by
  obtain⟨h',g',d',t',o'⟩:=s'
  have e:o'=s.os:=ho
  subst e
  exact I.call (g':=g') (t':=t') (d':=d') u hok hg hch
end
abbrev XK:=Value→Option Addr→Hp→Prop
abbrev St:=List (Option V)
abbrev VK:=V→Hp→Prop
abbrev TE:=St→Hp→VK→Prop
abbrev TT:=St→Hp→(Bool→Hp→Prop)→Prop
abbrev TA:=St→Hp→(List V→Hp→Prop)→Prop
structure ju where
  nx:St→Hp→Prop
  rt:VK
  bk:St→Hp→Prop:=fun _ _=> False
  ct:St→Hp→Prop:=fun _ _=> False
abbrev TS:=ju→St→Hp→Prop
def EP(X:Cx)(pins:List (Addr×Obj))(σ:St)(Q:VK)(u:Value)(s':Shared):Prop:=∃v H',af X pins σ H' s'∧aE v u∧Q v H'
def TP(X:Cx)(pins:List (Addr×Obj))(σ:St)(Q:Bool→Hp→Prop)(b:Bool)(s':Shared):Prop:=∃H',af X pins σ H' s'∧Q b H'
def AP(X:Cx)(pins:List (Addr×Obj))(σ:St)(Q:List V→Hp→Prop)(us:List Value)(s':Shared):Prop:=∃vs H',af X pins σ H' s'∧aF vs us∧Q vs H'
def SP(X:Cx)(pins:List (Addr×Obj))(D:ju)(f:Flow)(s':Shared):Prop:=
  match f with
  | .next=> ∃σ' H',af X pins σ' H' s'∧D.nx σ' H'
  | .brk=> ∃σ' H',af X pins σ' H' s'∧D.bk σ' H'
  | .cont=> ∃σ' H',af X pins σ' H' s'∧D.ct σ' H'
  | .ret u=> ∃v σ' H',af X pins σ' H' s'∧aE v u∧D.rt v H'
def PE(X:Cx)(e:Expr)(t:TE):Prop:=
  ∀(pins:List (Addr×Obj))(s:Shared)(σ:St)(H:Hp)(Q:VK),af X pins σ H s→t σ H Q→wpAny (model X.prog X.w) X.A (eval e X.env) (EP X pins σ Q) X.xe s
def PT(X:Cx)(e:Expr)(t:TT):Prop:=
  ∀(pins:List (Addr×Obj))(s:Shared)(σ:St)(H:Hp)(Q:Bool→Hp→Prop),af X pins σ H s→t σ H Q→wpAny (model X.prog X.w) X.A (isTrue e X.env (eval e X.env)) (TP X pins σ Q) X.xe s
def PW(X:Cx)(e:Expr)(t:TT):Prop:=
  ∀(whole:Sem Value)(pins:List (Addr×Obj))(s:Shared)(σ:St)(H:Hp)(Q:Bool→Hp→Prop),af X pins σ H s→t σ H Q→wpAny (model X.prog X.w) X.A (isTrue e X.env whole) (TP X pins σ Q) X.xe s
theorem PW.pt{X:Cx}{e:Expr}{t:TT}(h:PW X e t):PT X e t:=h _
def PA(X:Cx)(es:List Expr)(t:TA):Prop:=
  ∀(pos:Pos)(pins:List (Addr×Obj))(s:Shared)(σ:St)(H:Hp)(Q:List V→Hp→Prop),af X pins σ H s→t σ H Q→wpAny (model X.prog X.w) X.A (spliced (backTo pos (starEach es X.env))) (AP X pins σ Q) X.xe s
def PS(X:Cx)(st:Stmt)(t:TS):Prop:=
  ∀(pins:List (Addr×Obj))(s:Shared)(σ:St)(H:Hp)(D:ju),af X pins σ H s→t D σ H→wpAny (model X.prog X.w) X.A (exec st X.env) (SP X pins D) X.xe s
def bQ(X:Cx)(st:List Stmt)(t:TS):Prop:=
  ∀(pins:List (Addr×Obj))(s:Shared)(σ:St)(H:Hp)(D:ju),af X pins σ H s→t D σ H→wpAny (model X.prog X.w) X.A (execs st X.env) (SP X pins D) X.xe s
theorem aB{α:Type}{t:Sem α}{Q Q':α→Shared→Prop}{M:Model}{A:Around}{E:Value→Shared→Prop}{s:Shared}(h:wpAny M A t Q E s)(hQ:∀a s,Q a s→Q' a s):wpAny M A t Q' E s:=wpAny_mono h hQ fun _ _ x=> x
end L2
namespace L2
open PySem PySem.Spec PyProof.Rows
section
variable {X:Cx}
theorem J4{a b:Expr}{ta tb:TE}(ha:PE X a ta)(hb:PE X b tb){pins:List (Addr×Obj)}{s:Shared}{σ:St}{H:Hp}{R:V→V→Hp→Prop}(I:af X pins σ H s)(h:ta σ H fun x H1=> tb σ H1 fun y H2=> R x y H2)
    {α:Type}{Q:α→Shared→Prop}{f:Value→Value→Sem α}
    (hf:∀v u s2 x y H2,af X pins σ H2 s2→aE x v→aE y u→R x y H2→wpAny (model X.prog X.w) X.A (f v u) Q X.xe s2):
    wpAny (model X.prog X.w) X.A (eval a X.env) (fun v s₁=> wpAny (model X.prog X.w) X.A (eval b X.env) (fun u s₂=> wpAny (model X.prog X.w) X.A (f v u) Q X.xe s₂) X.xe s₁) X.xe s:=by
  refine aB (ha pins s σ H _ I h) fun v s1 ⟨x,H1,I1,r1,q1⟩=> ?_
  refine aB (hb pins s1 σ H1 _ I1 q1) fun u s2 ⟨y,H2,I2,r2,q2⟩=> ?_
  exact hf v u s2 x y H2 I2 r1 r2 q2
def eX(i:Nat):TE:=fun σ H Q=> ∃v,σ[i]?=some (some v)∧Q v H
def tC(v:V):TE:=fun _ H Q=> Q v H
theorem pZ{i:Nat}{x:Str}{pos:Pos}(hN:X.N[i]?=some x)(hv:lW X.env.scope x)(hd:(x==("__debug__":Str))=false:=by decide)(hcd:(x==("__classdict__":Str))=false:=by decide):PE X (.Name x pos) (eX i):=by
  intro pins s σ H Q I h
  obtain⟨v,e,h⟩:=h
  obtain⟨m,hn,hl⟩:=I.loc
  obtain⟨u,r,l⟩:=hl i x v hN e hv
  have fin:EP X pins σ Q u s:=⟨v,H,I,r,h⟩
  rcases l with⟨hk,hm⟩ | ⟨hk,c,hc,hcell⟩
  · exact wpAny_Name (wpAny_loadName_local I.ok.kind hk hn hm fin) hd
  · rcases hk with hk | hk
    · exact wpAny_Name (wpAny_loadName_cell I.ok.kind hk hc hcell fin) hd
    · exact wpAny_Name (wpAny_loadName_free I.ok.kind hk hc hcell fin hcd) hd
theorem bb{i j pos}:PE X (.Constant (.int i) j pos) (tC (.int i)):=fun _ _ _ H _ I h=> wpAny_Constant_int ⟨.int i,H,I.tok _,⟨_,rfl⟩,h⟩
theorem CJ{b j pos}:PE X (.Constant (.bool b) j pos) (tC (.bl b)):=fun _ _ _ H _ I h=> Constant_bool ⟨.bl b,H,I,rfl,h⟩
theorem CK{j pos}:PE X (.Constant .none j pos) (tC .non):=fun _ _ _ H _ I h=> Constant_none ⟨.non,H,I,rfl,h⟩
theorem p5{x j pos}:PE X (.Constant (.str x) j pos) (tC (.str x)):=fun _ _ _ H _ I h=> Calls.Constant_str ⟨.str x,H,I.tok _,⟨_,rfl⟩,h⟩
def Gl(X:Cx)(x:Str):Prop:=X.env.kindOf x=some .globalImplicit
theorem nJ{E:Value→Shared→Prop}{pins:List (Addr×Obj)}{s:Shared}{σ:St}{H:Hp}{x:Str}{u:Value}{pos:Pos}{Q:Value→Shared→Prop}(I:af X pins σ H s)(hg:Gl X x)(hm:X.mg x=some u)(h:Q u s)
    (hd:(x==("__debug__":Str))=false:=by decide):wpAny (model X.prog X.w) X.A (eval (.Name x pos) X.env) Q E s:=
  NY I.ok.kind hg (Calls.loadGlobal_global (by rw [I.ok.glob];exact I.mod.glob.keeps I.bk) hm h) hd
theorem lX{E:Value→Shared→Prop}{pins:List (Addr×Obj)}{s:Shared}{σ:St}{H:Hp}{x:Str}{u:Value}{pos:Pos}{Q:Value→Shared→Prop}(I:af X pins σ H s)(hg:Gl X x)(hm:X.mg x=none)(hv:bootBuiltins x=some u)(h:Q u s)
    (hn:x≠"__name__":=by decide)(hd:(x==("__debug__":Str))=false:=by decide):wpAny (model X.prog X.w) X.A (eval (.Name x pos) X.env) Q E s:=by
  obtain⟨mb,h1,h2⟩:=I.mod.blt
  exact NY I.ok.kind hg (Calls.loadGlobal_builtin (by rw [I.ok.glob];exact I.mod.glob.keeps I.bk) hm (by rw [I.ok.blt];exact h1.keeps I.bk) ((h2 x hn).trans hv) h) hd
theorem kI{x:Str}{v:V}{u:Value}{pos:Pos}(hg:Gl X x)(hm:X.mg x=some u)(r:aE v u)(hd:(x==("__debug__":Str))=false:=by decide):PE X (.Name x pos) (tC v):=
  fun _ _ _ H _ I h=> nJ I hg hm ⟨v,H,I,r,h⟩ hd
variable {a b:Expr} {ta tb:TE} {pos:Pos}
def PC(X:Cx)(op:CmpOp)(a b:Expr)(t:TE):Prop:=
  ∀(pins:List (Addr×Obj))(s:Shared)(σ:St)(H:Hp)(Q:VK),af X pins σ H s→t σ H Q→
    wpAny (model X.prog X.w) X.A (eval a X.env) (fun v s₁=> wpAny (model X.prog X.w) X.A (eval b X.env) (fun u s₂=> wpAny (model X.prog X.w) X.A (compareOp op v u) (EP X pins σ Q) X.xe s₂) X.xe s₁) X.xe s
theorem CL(b:Expr){op:CmpOp}(h:op≠ .In)(h2:op≠ .NotIn):behindInMarks op b=false:=by
  have e1:(op==CmpOp.In)=false:=by cases op <;> first | rfl | exact absurd rfl h
  have e2:(op==QJ)=false:=by cases op <;> first | rfl | exact absurd rfl h2
  cases b <;> simp [behindInMarks,e1,e2]
def tB(t:TE):TT:=fun σ H Q=> t σ H fun x H1=> ∃c,x= .bl c∧Q c H1
theorem uW{op:CmpOp}{t:TE}(h:PC X op a b t)(h1:behindInMarks op b=false:=by first | exact CL _ (by decide) (by decide) | rfl):PT X (.Compare a [op] [b] pos) (tB t):=by
  intro pins s σ H Q I hw
  refine wpAny_isTrue_Compare1 (aB (h pins s σ H _ I hw) fun v s1 h1=> aB h1 fun u s2 h2=> aB h2 fun c s3 ⟨x,H1,I1,r1,q1⟩=> ?_) h1
  obtain⟨d,rfl,q⟩:=q1
  cases r1
  exact wpAny_truthy_bool ⟨H1,I1,q⟩
theorem uX{e:Expr}{t:TE}(h:PE X e t)(he:∀whole,isTrue e X.env whole=(do let v←whole;standAt e.pos;holding [v] (truthy v)):=by intro _;rfl):PT X e (tB t):=by
  intro pins s σ H Q I hw
  refine isTrue_plain (aB (h pins s σ H _ I hw) fun v s1 ⟨x,H1,I1,r1,q1⟩=> ?_) (he _)
  obtain⟨d,rfl,q⟩:=q1
  cases r1
  exact wpAny_truthy_bool ⟨H1,I1,q⟩
variable {tA tB':TT} {rest:List Expr}
def uY(t u:TT):TT:=fun σ H Q=> t σ H fun c H1=> if c=true then u σ H1 Q else Q false H1
def uZ(t u:TT):TT:=fun σ H Q=> t σ H fun c H1=> if c=true then Q true H1 else u σ H1 Q
def u5(t:TT):TT:=fun σ H Q=> t σ H fun c H1=> Q (!c) H1
theorem u7(ha:PT X a tA):PW X (.BoolOp .And [a] pos) tA:=by
  intro wh pins s σ H Q I h
  refine isTrue_and (aB (ha pins s σ H Q I h) fun c s1 e=> ?_)
  cases c with
  | true=> exact isTrue_and_nil e
  | false=> exact e
theorem u9(ha:PT X a tA):PW X (.BoolOp .Or [a] pos) tA:=by
  intro wh pins s σ H Q I h
  refine isTrue_or (aB (ha pins s σ H Q I h) fun c s1 e=> ?_)
  cases c with
  | false=> exact isTrue_or_nil e
  | true=> exact e
theorem va(ha:PT X a tA)(hb:PW X (.BoolOp .And (b::rest) pos) tB'):PW X (.BoolOp .And (a::b::rest) pos) (uY tA tB'):=by
  intro wh pins s σ H Q I h
  refine isTrue_and (aB (ha pins s σ H _ I h) fun c s1 ⟨H1,I1,q1⟩=> ?_)
  cases c with
  | true=> exact hb wh pins s1 σ H1 Q I1 q1
  | false=> exact⟨H1,I1,q1⟩
theorem vb(ha:PT X a tA)(hb:PW X (.BoolOp .Or (b::rest) pos) tB'):PW X (.BoolOp .Or (a::b::rest) pos) (uZ tA tB'):=by
  intro wh pins s σ H Q I h
  refine isTrue_or (aB (ha pins s σ H _ I h) fun c s1 ⟨H1,I1,q1⟩=> ?_)
  cases c with
  | true=> exact⟨H1,I1,q1⟩
  | false=> exact hb wh pins s1 σ H1 Q I1 q1
theorem CM(ha:PT X a tA):PT X (.UnaryOp .Not a pos) (u5 tA):=by
  intro pins s σ H Q I h
  exact isTrue_not (ha pins s σ H (fun c H1=> Q (!c) H1) I h)
def vc(ta tb:TE):TE:=fun σ H Q=> ta σ H fun x H1=> ∃c,x= .bl c∧if c=true then tb σ H1 Q else Q (.bl false) H1
def vd(ta tb:TE):TE:=fun σ H Q=> ta σ H fun x H1=> ∃c,x= .bl c∧if c=true then Q (.bl true) H1 else tb σ H1 Q
theorem p6{op}{t:TE}(h:PE X a t):PE X (.BoolOp op [a] pos) t:=fun pins s σ H Q I hw=> BoolOp_one (h pins s σ H Q I hw)
theorem ve(ha:PE X a ta)(hb:PE X (.BoolOp .And (b::rest) pos) tb):PE X (.BoolOp .And (a::b::rest) pos) (vc ta tb):=by
  intro pins s σ H Q I h
  refine BoolOp_and (aB (ha pins s σ H _ I h) fun v s1 ⟨x,H1,I1,r1,q1⟩=> ?_)
  obtain⟨c,rfl,q1⟩:=q1
  cases r1
  refine wpAny_truthy_bool ?_
  cases c with
  | true=> exact hb pins s1 σ H1 Q I1 q1
  | false=> exact⟨.bl false,H1,I1,rfl,q1⟩
theorem vf(ha:PE X a ta)(hb:PE X (.BoolOp .Or (b::rest) pos) tb):PE X (.BoolOp .Or (a::b::rest) pos) (vd ta tb):=by
  intro pins s σ H Q I h
  refine BoolOp_or (aB (ha pins s σ H _ I h) fun v s1 ⟨x,H1,I1,r1,q1⟩=> ?_)
  obtain⟨c,rfl,q1⟩:=q1
  cases r1
  refine wpAny_truthy_bool ?_
  cases c with
  | false=> exact hb pins s1 σ H1 Q I1 q1
  | true=> exact⟨.bl true,H1,I1,rfl,q1⟩
def vg(t:TT)(ta tb:TE):TE:=fun σ H Q=> t σ H fun c H1=> if c=true then ta σ H1 Q else tb σ H1 Q
theorem vh{c:Expr}(hc:PT X c tA)(ha:PE X a ta)(hb:PE X b tb):PE X (.IfExp c a b pos) (vg tA ta tb):=by
  intro pins s σ H Q I h
  refine wpAny_IfExp (aB (hc pins s σ H _ I h) fun d s1 ⟨H1,I1,q1⟩=> ?_)
  cases d with
  | true=> exact ha pins s1 σ H1 Q I1 q1
  | false=> exact hb pins s1 σ H1 Q I1 q1
end
end L2
namespace L2
open PySem PySem.Spec PyProof.Rows
def aX(K:Kb)(H:Hp)(a:Addr)(xs:List V):Prop:=
  Rd H a (.lst xs)∨
    ∃(o:Obj)(its:Array Value)(n:Nat),K.lookup a=some o∧o.cls= .type "list"∧o.dict=none∧o.data= .seq its n∧its.size≤sizeLine∧aF xs its.toList
def bw(K:Kb)(H:Hp)(a:Addr)(xs:List V):Prop:=
  Rd H a (.tup xs)∨
    ∃(o:Obj)(its:Array Value)(n:Nat),K.lookup a=some o∧o.cls= .type "tuple"∧o.data= .seq its n∧its.size≤sizeLine∧aF xs its.toList
def CN:Value→Option V
  | .none=> some .non
  | .bool b=> some (.bl b)
  | .int i _=> some (.int i)
  | .str x _=> some (.str x)
  | .bytes b _=> some (.byt b)
  | .float b _=> some (.flt b)
  | .ref a=> some (.ref a)
  | .type n=> some (.ty n)
  | _=> none
theorem aE.abs{x:V}{u:Value}(r:aE x u):CN u=some x:=by
  cases x with
  | non=> cases r;rfl
  | bl _=> cases r;rfl
  | int _=> obtain⟨t,rfl⟩:=r;rfl
  | str _=> obtain⟨t,rfl⟩:=r;rfl
  | byt _=> obtain⟨t,rfl⟩:=r;rfl
  | flt _=> obtain⟨t,rfl⟩:=r;rfl
  | ref _=> cases r;rfl
  | ty _=> cases r;rfl
theorem aE.inj{x y:V}{u:Value}(r:aE x u)(q:aE y u):x=y:=K5 (r.abs.symm.trans q.abs)
theorem aF.inj:∀{xs ys:List V}{us:List Value},aF xs us→aF ys us→xs=ys
  | _,_,_,.nil,.nil=> rfl
  | _,_,_,.cons r t,.cons r' t'=> by rw [r.inj r',aF.inj t t']
section
variable {X:Cx} {pins:List (Addr×Obj)} {σ:St} {H:Hp} {s:Shared} {a:Addr} {xs ys:List V}
theorem aX.of{K:Kb}(h:H a=some (.lst xs)):aX K H a xs:= .inl (.inl h)
theorem bw.of{K:Kb}(h:H a=some (.tup xs)):bw K H a xs:= .inl (.inl h)
theorem af.list(I:af X pins σ H s)(h:aX X.K H a xs):∃its:List Value,aF xs its∧PlainL s.heap a its.toArray∧xs.length≤sizeLine:=by
  rcases h with h | ⟨o,its,n,hk,hc,hd,hs,hz,r⟩
  · obtain⟨z,its,n,r,e⟩:=h.ok I.hok
    exact⟨its,r,⟨_,n,e,rfl,rfl,rfl⟩,z⟩
  · refine⟨its.toList,r,⟨o,n,I.kIn a o hk,hc,hd,by simpa using hs⟩,?_⟩
    have e:=r.length
    simp only [KJ] at e
    omega
theorem af.tuple(I:af X pins σ H s)(h:bw X.K H a xs):∃its:List Value,aF xs its∧IsTup s.heap a its.toArray∧xs.length≤sizeLine:=by
  rcases h with h | ⟨o,its,n,hk,hc,hs,hz,r⟩
  · obtain⟨z,its,r,p⟩:=h.ok I.hok
    exact⟨its,r,p,z⟩
  · refine⟨its.toList,r,⟨o,I.kIn a o hk,hc,n,by simpa using hs⟩,?_⟩
    have e:=r.length
    simp only [KJ] at e
    omega
theorem af.list_inj(I:af X pins σ H s)(h:aX X.K H a xs)(h':aX X.K H a ys):xs=ys:=by
  obtain⟨its,r,⟨o,n,e,_,_,d⟩,_⟩:=I.list h
  obtain⟨its',r',⟨o',n',e',_,_,d'⟩,_⟩:=I.list h'
  rw [e] at e';cases e'
  rw [d] at d'
  injection d' with d1 _
  have:its=its':=by simpa using congrArg Qw d1
  subst this
  exact r.inj r'
theorem af.tuple_inj(I:af X pins σ H s)(h:bw X.K H a xs)(h':bw X.K H a ys):xs=ys:=by
  obtain⟨its,r,⟨o,e,_,n,d⟩,_⟩:=I.tuple h
  obtain⟨its',r',⟨o',e',_,n',d'⟩,_⟩:=I.tuple h'
  rw [e] at e';cases e'
  rw [d] at d'
  injection d' with d1 _
  have:its=its':=by simpa using congrArg Qw d1
  subst this
  exact r.inj r'
end
abbrev Cx.wish(X:Cx)(E:Value→Shared→Prop):Cx:={X with xe:=E}
abbrev Cx.nox(X:Cx):Cx:=X.wish fun _ _=> False
theorem Cx.Ok.wish{X:Cx}(ok:X.Ok)(E:Value→Shared→Prop):(X.wish E).Ok:=
  ⟨ok.mod,ok.kind,ok.glob,ok.blt,ok.above,ok.inj,ok.has,ok.cab,ok.hd,ok.frames,ok.stk,ok.exf,ok.bs,ok.bsz,ok.noex,ok.exfs,ok.funs,ok.frf⟩
theorem Cx.Ok.unwish{X:Cx}{E:Value→Shared→Prop}(ok:(X.wish E).Ok):X.Ok:=
  ⟨ok.mod,ok.kind,ok.glob,ok.blt,ok.above,ok.inj,ok.has,ok.cab,ok.hd,ok.frames,ok.stk,ok.exf,ok.bs,ok.bsz,ok.noex,ok.exfs,ok.funs,ok.frf⟩
section
variable {X:Cx} {pins:List (Addr×Obj)} {σ:St} {H:Hp} {s:Shared} {E:Value→Shared→Prop}
theorem af.wish(I:af X pins σ H s)(E:Value→Shared→Prop):af (X.wish E) pins σ H s:=⟨I.ok.wish E,I.os,I.bare,I.base,I.loc,I.cell,I.free,I.freeC,I.pin,I.hok,I.len⟩
theorem af.unwish(I:af (X.wish E) pins σ H s):af X pins σ H s:=⟨I.ok.unwish,I.os,I.bare,I.base,I.loc,I.cell,I.free,I.freeC,I.pin,I.hok,I.len⟩
theorem SP.unwish{D:ju}{f:Flow}{s':Shared}(h:SP (X.wish E) pins D f s'):SP X pins D f s':=by
  cases f with
  | next=> obtain⟨σ',H',I,q⟩:=h;exact⟨σ',H',I.unwish,q⟩
  | brk=> obtain⟨σ',H',I,q⟩:=h;exact⟨σ',H',I.unwish,q⟩
  | cont=> obtain⟨σ',H',I,q⟩:=h;exact⟨σ',H',I.unwish,q⟩
  | ret u=> obtain⟨v,σ',H',I,r,q⟩:=h;exact⟨v,σ',H',I.unwish,r,q⟩
theorem bQ.nox{st:List Stmt}{t:TS}(h:bQ X.nox st t):bQ X st t:=fun pins s σ H D I hw=>
  wpAny_mono (h pins s σ H D (I.wish _) hw) (fun _ _ q=> q.unwish) fun _ _ z=> LJ z
end
section
variable {X:Cx} {st:Stmt} {rest:List Stmt} {t u:TS} {e:Expr} {te:TE} {pos:Pos}
def vi:TS:=fun D σ H=> D.nx σ H
def vj(t u:TS):TS:=fun D σ H=> t {D with nx:=u D} σ H
theorem j3:bQ X [] vi:=fun _ _ σ H _ I h=> wpAny_execs_nil ⟨σ,H,I,h⟩
theorem cA(h1:PS X st t)(h2:bQ X rest u):bQ X (st::rest) (vj t u):=by
  intro pins s σ H D I h
  refine wpAny_execs_cons (aB (h1 pins s σ H {D with nx:=u D} I h) fun f s1 q=> ?_)
  cases f with
  | next=>
    obtain⟨σ',H',I',q⟩:=q
    exact h2 pins s1 σ' H' D I' q
  | ret v=> exact q
  | brk=> exact q
  | cont=> exact q
theorem dN(h1:PS X st t):bQ X [st] t:=by
  intro pins s σ H D I h
  refine wpAny_execs_cons (aB (h1 pins s σ H D I h) fun f s1 q=> ?_)
  cases f with
  | next=> exact wpAny_execs_nil q
  | ret v=> exact q
  | brk=> exact q
  | cont=> exact q
theorem af.quiet{pins:List (Addr×Obj)}{σ:St}{H:Hp}{s:Shared}(I:af X pins σ H s):interactive X.env=false:=by simp [interactive,I.ok.kind]
def vk(te:TE):TS:=fun D σ H=> te σ H fun _ H1=> D.nx σ H1
theorem vo(he:PE X e te)(hs:swapsWith e none pos.line X.env=pure false:=by rfl):PS X (.Expr e pos) (vk te):=by
  intro pins s σ H D I h
  exact wpAny_Expr_any (aB (he pins s σ H _ I h) fun v s1 uu11=> by obtain⟨x,H1,I1,r1,q1⟩:=uu11;exact⟨σ,H1,I1,q1⟩) I.quiet hs
def vp(te:TE):TS:=fun D σ H=> te σ H D.rt
theorem d9(he:PE X e te):PS X (.Return (some e) pos) (vp te):=by
  intro pins s σ H D I h
  exact wpAny_Return_some (aB (he pins s σ H _ I h) fun v s1 uu12=> by obtain⟨x,H1,I1,r1,q1⟩:=uu12;exact⟨x,σ,H1,I1,r1,q1⟩)
def vq(c:TT)(t u:TS):TS:=fun D σ H=> c σ H fun b H1=> if b=true then t D σ H1 else u D σ H1
theorem j4{c:Expr}{a b:List Stmt}{tc:TT}(hc:PT X c tc)(ha:bQ X a t)(hb:bQ X b u):PS X (.If c a b pos) (vq tc t u):=by
  intro pins s σ H D I h
  refine wpAny_If (aB (hc pins s σ H _ I h) fun d s1 ⟨H1,I1,q1⟩=> ?_)
  cases d with
  | true=> exact ha pins s1 σ H1 D I1 q1
  | false=> exact hb pins s1 σ H1 D I1 q1
def CO:TS:=fun _ _ _=> False
theorem CP:PS X st CO:=fun _ _ _ _ _ _ h=> h.elim
end
abbrev TG:=V→St→Hp→(St→Hp→Prop)→Prop
abbrev gI:=List V→St→Hp→(St→Hp→Prop)→Prop
def PG(X:Cx)(target:Expr)(t:TG):Prop:=
  ∀(pins:List (Addr×Obj))(s:Shared)(σ:St)(H:Hp)(v:V)(u:Value)(Q:St→Hp→Prop),af X pins σ H s→aE v u→t v σ H Q→
    wpAny (model X.prog X.w) X.A (assign target X.env u) (fun _ s'=> ∃σ' H',af X pins σ' H' s'∧Q σ' H') X.xe s
def nK(X:Cx)(ts:List Expr)(t:gI):Prop:=
  ∀(pins:List (Addr×Obj))(s:Shared)(σ:St)(H:Hp)(vs:List V)(us:List Value)(Q:St→Hp→Prop),af X pins σ H s→aF vs us→t vs σ H Q→
    wpAny (model X.prog X.w) X.A (assignInOrder ((assignEach ts X.env).map (·.2)) us) (fun _ s'=> ∃σ' H',af X pins σ' H' s'∧Q σ' H') X.xe s
abbrev p7:=V→V→V→Hp→(Hp→Prop)→Prop
def vt(X:Cx)(t:p7):Prop:=
  ∀(pins:List (Addr×Obj))(s:Shared)(σ:St)(H:Hp)(o i v:V)(ov iv u:Value)(Q:Hp→Prop),af X pins σ H s→aE o ov→aE i iv→aE v u→t o i v H Q→
    wpAny (model X.prog X.w) X.A (setItem ov iv u) (fun _ s'=> ∃H',af X pins σ H' s'∧Q H') X.xe s
section
variable {X:Cx} {pos:Pos}
def gJ(i:Nat):TG:=fun v σ H Q=> Q (σ.set i (some v)) H
theorem aS{i:Nat}{x:Str}(hN:X.N.Nodup)(hi:X.N[i]?=some x)(hx:gH X.env.scope x)(hf:X.fn x=true∨X.env.scope.names.lookup x=some .local:=by first | exact .inl rfl | exact .inr rfl | assumption):PG X (.Name x pos) (gJ i):=by
  intro pins s σ H v u Q I r h
  exact wpAny_assign_Name (j2 I hN hi hx r (fun s' I'=> ⟨_,H,I',h⟩) hf)
def nL:gI:=fun vs σ H Q=> vs=[]∧Q σ H
def lY(t:TG)(u:gI):gI:=fun vs σ H Q=> ∃v r,vs=v::r∧t v σ H fun σ' H'=> u r σ' H' Q
theorem fF:nK X [] nL:=by
  intro pins s σ H vs us Q I r h
  obtain⟨e,h⟩:=h
  subst e
  cases r
  exact assignInOrder_nil ⟨σ,H,I,h⟩
theorem cx{e:Expr}{es:List Expr}{t:TG}{u:gI}(h1:PG X e t)(h2:nK X es u)
    (hs:(assignEach (e::es) X.env).map (·.2)=assign e X.env::(assignEach es X.env).map (·.2):=by rfl):nK X (e::es) (lY t u):=by
  intro pins s σ H vs us Q I r h
  obtain⟨v,vr,e1,h⟩:=h
  subst e1
  cases r with
  | cons r rr=>
    rw [hs]
    refine assignInOrder_cons (aB (h1 pins s σ H _ _ _ I r h) fun _ s1 ⟨σ1,H1,I1,q1⟩=> ?_)
    exact h2 pins s1 σ1 H1 _ _ Q I1 rr q1
def nM(K:Kb)(n:Nat)(t:gI):TG:=fun v σ H Q=> ∃a xs,v= .ref a∧bw K H a xs∧xs.length=n∧t xs σ H Q
theorem fG{es:List Expr}{k:Nat}{t:gI}{n:Nat}(hc:X.calm=true)(h:nK X es t)
    (hn:(assignEach es X.env).length=n:=by rfl)(hst:(assignEach es X.env).findIdx? (·.1)=none:=by rfl):PG X (.Tuple es k pos) (nM X.K n t):=by
  intro pins s σ H v u Q I r hw
  obtain⟨a,xs,e1,hq,hl,hw⟩:=hw
  subst e1
  cases r
  obtain⟨its,rv,ht,hz⟩:=I.tuple hq
  refine assign_Tuple_tuple (I.ok.hd hc) ht (by simp [hn,←hl,rv.length]) hst fun h' hx=> ?_
  have I1:af X pins σ H {s with heap:=h'}:=I.kept (t':=s.toks) fun b o e=> hx b o (KN (Kv e)) e
  exact h pins _ σ H xs _ Q I1 (by simpa using rv) hw
def vv(to ti:TE)(t:p7):TG:=fun v σ H Q=> to σ H fun o H1=> ti σ H1 fun i H2=> t o i v H2 fun H3=> Q σ H3
theorem p8{o i:Expr}{to ti:TE}{t:p7}(ho:PE X o to)(hi:PE X i ti)(hs:vt X t)
    (ha:∀v,assign (.Subscript o i pos) X.env v=(do
      let ov←holding [v] (eval o X.env)
      let iv←holding [v,ov] (eval i X.env)
      standAt pos
      holding [v,ov,iv] (setItem ov iv v)
      release [v,ov,iv] []):=by intro _;rfl):PG X (.Subscript o i pos) (vv to ti t):=by
  intro pins s σ H v u Q I r h
  rw [ha]
  refine wpAny_bind (wpAny_holding (aB (ho pins s σ H _ I h) fun ov s1 ⟨x,H1,I1,r1,q1⟩=> ?_))
  refine wpAny_bind (wpAny_holding (aB (hi pins s1 σ H1 _ I1 q1) fun iv s2 ⟨y,H2,I2,r2,q2⟩=> ?_))
  refine wpAny_bind (wpAny_standAt (wpAny_bind (wpAny_holding (aB (hs pins s2 σ H2 x y v ov iv u _ I2 r1 r2 r q2) fun _ s3 ⟨H3,I3,q3⟩=> ?_))))
  exact wpAny_release ⟨σ,H3,I3,q3⟩
def lZ(te:TE)(g:TG):TS:=fun D σ H=> te σ H fun x H1=> g x σ H1 D.nx
theorem nN{tg e:Expr}{te:TE}{g:TG}(he:PE X e te)(hg:PG X tg g)(hs:swapsWithSole [tg] e pos.line X.env=pure false:=by rfl)(hw:swappedStores [tg] e X.env=pure none:=by rfl)
    (h1:(assignEach [tg] X.env).map (·.2)=[assign tg X.env]:=by rfl):PS X (.Assign [tg] e pos) (lZ te g):=by
  intro pins s σ H D I h
  refine wpAny_Assign_stores (aB (he pins s σ H _ I h) fun v s1 ⟨x,H1,I1,r1,q1⟩=> ?_) hs hw
  rw [h1]
  exact aB (hg pins s1 σ H1 x v _ I1 r1 q1) fun _ s2 q=> q
theorem dq{i:Nat}{x:Str}{e:Expr}{te:TE}{pos':Pos}(hN:X.N.Nodup)(hi:X.N[i]?=some x)(hx:gH X.env.scope x)(he:PE X e te)(hs:swapsWith e (some (.Name x pos')) pos.line X.env=pure false:=by rfl)(hf:X.fn x=true∨X.env.scope.names.lookup x=some .local:=by first | exact .inl rfl | exact .inr rfl | assumption):
    PS X (.Assign [.Name x pos'] e pos) (lZ te (gJ i)):=by
  intro pins s σ H D I h
  refine wpAny_Assign_Name (aB (he pins s σ H _ I h) fun v s1 ⟨y,H1,I1,r1,q1⟩=> ?_) hs
  exact j2 I1 hN hi hx r1 (fun s2 I2=> ⟨_,H1,I2,q1⟩) hf
def vw(i j:Nat)(ta:TA):TS:=fun D σ H=> ta σ H fun vs H1=> ∃v w,vs=[v,w]∧D.nx ((σ.set i (some v)).set j (some w)) H1
theorem CQ{i j:Nat}{x y:Str}{a b:Expr}{ta:TA}{px py pt:Pos}{kt k2 pt2}(hc:X.calm=true)(hN:X.N.Nodup)(hi:X.N[i]?=some x)(hj:X.N[j]?=some y)(hij:i≠j)
    (hx:X.env.scope.names.lookup x=some .local)(hy:X.env.scope.names.lookup y=some .local)(ha:PA X [a,b] ta)
    (hw:swappedStores [.Tuple [.Name x px,.Name y py] kt pt] (.Tuple [a,b] k2 pt2) X.env=pure (some [x,y]))
    (hs:swapsWithSole [.Tuple [.Name x px,.Name y py] kt pt] (.Tuple [a,b] k2 pt2) pos.line X.env=pure false:=by rfl):
    PS X (.Assign [.Tuple [.Name x px,.Name y py] kt pt] (.Tuple [a,b] k2 pt2) pos) (vw i j ta):=by
  intro pins s σ H D I h
  rw [exec_Assign_arm]
  refine wpAny_bind (wpAny_standAt ?_)
  rw [hs]
  refine wpAny_bind (wpAny_pure ?_)
  rw [if_neg (by decide)]
  refine wpAny_bind (Tuple_ (aB (ha _ pins s σ H _ I h) fun us s1 ⟨vs,H1,I1,r1,q1⟩=> ?_))
  obtain⟨v,w,e1,q1⟩:=q1
  subst e1
  obtain⟨u1,u2,rfl,rv,rw'⟩:∃u1 u2,us=[u1,u2]∧aE v u1∧aE w u2:=by
    cases r1 with
    | cons p q=>
      cases q with
      | cons p' q'=>
        cases q'
        exact⟨_,_,rfl,p,p'⟩
  refine wpAny_newObj_type ?_ (by show 2≤sizeLine;decide)
  have I2:af X pins σ H1 {s1 with heap:=s1.heap.push {cls:= .type "tuple",data:= .seq [u1,u2].toArray}}:=I1.kept (t':=s1.toks) fun b o e=> Kg _ e
  rw [hw]
  refine wpAny_bind (wpAny_pure ?_)
  show wpAny (model X.prog X.w) X.A (do rule "assign.swapped-stores";let items←unpackItems (.ref s1.heap.objs.size) 2 none;assignInOrder [fun v=> bindName X.env y v,fun v=> bindName X.env x v] items.reverse;pure Pl) _ _ _
  refine wpAny_bind (wpAny_rule (wpAny_bind (unpackItems_tuple (items:=#[u1,u2]) (I.ok.hd hc) (OE s1.heap _) fun h' hx'=> ?_)))
  have I3:=I2.kept (h':=h') (t':=s1.toks) fun b o e=> hx' b o (KN (Kv e)) e
  show wpAny _ _ (assignInOrder [fun v=> bindName X.env y v,fun v=> bindName X.env x v] [u2,u1] >>=fun _=> pure Pl) _ _ _
  refine wpAny_bind (assignInOrder_cons (wpAny_bindName (j2 I3 hN hj (.inl hy) rw' (fun s2 I4=> ?_) (.inr hy))))
  refine assignInOrder_cons (wpAny_bindName (j2 I4 hN hi (.inl hx) rv (fun s3 I5=> assignInOrder_nil (wpAny_pure ?_)) (.inr hx)))
  rw [NZ _ _ (Ne.symm hij)] at I5
  exact⟨_,H1,I5,q1⟩
end
section
variable {X:Cx} {pos:Pos}
def CS(c:TT)(tb:TS):TS:=fun D σ H=> ∃W:Nat→St→Hp→Prop,(∃m,W m σ H)∧∀m σ H,W m σ H→
  c σ H fun b H1=> if b=true then ∃N:St→Hp→Prop,(∀σ' H',N σ' H'→∃m',m' < m∧W m' σ' H')∧tb {D with nx:=N,ct:=N,bk:=D.nx} σ H1 else D.nx σ H1
theorem CT{c:Expr}{body:List Stmt}{tc:TT}{tb:TS}(hp:PassesOwn (model X.prog X.w) X.A X.env X.xe)(hc:PT X c tc)(hb:bQ X body tb):PS X (.While c body [] pos) (CS tc tb):=by
  intro pins s σ H D I h
  obtain⟨W,⟨m0,w0⟩,turn⟩:=h
  refine wpAny_While (codeAny_whileLoop (fun n s'=> ∃σ' H',af X pins σ' H' s'∧W n σ' H') ?_ m0 ⟨σ,H,I,w0⟩)
  rintro n s1 ⟨σ1,H1,I1,w1⟩
  refine wpAny_passesOwn hp (aB (hc pins s1 σ1 H1 _ I1 (turn n σ1 H1 w1)) fun b s2 ⟨H2,I2,q2⟩=> ?_)
  cases b with
  | true=>
    obtain⟨N,hN,q2⟩:=q2
    rw [if_pos rfl]
    refine wpAny_passesOwn hp (aB (hb pins s2 σ1 H2 _ I2 q2) fun f s3 q3=> ?_)
    cases f with
    | next=>
      obtain⟨σ3,H3,I3,n3⟩:=q3
      obtain⟨m',hm,w3⟩:=hN σ3 H3 n3
      exact⟨m',hm,σ3,H3,I3,w3⟩
    | cont=>
      obtain⟨σ3,H3,I3,n3⟩:=q3
      obtain⟨m',hm,w3⟩:=hN σ3 H3 n3
      exact⟨m',hm,σ3,H3,I3,w3⟩
    | brk=> exact q3
    | ret v=> exact q3
  | false=>
    rw [if_neg Ki]
    exact wpAny_execs_nil ⟨σ1,H2,I2,q2⟩
end
structure It where
  go:Nat→Hp→Prop
  yld:Nat→Hp→V→Hp→Prop
  stop:Nat→Hp→Prop
def fP(X:Cx)(pins:List (Addr×Obj))(H:Hp)(b:Addr):Prop:=
  H b=none∧b≠X.env.locals∧b ∉ X.fs∧(b∈X.ex∨X.s₀.heap.objs.size≤b)∧(∀x c,X.env.cells.lookup x=some c→c≠b)∧∀p∈X.pn++pins,p.1≠b
theorem af.fpOk{X:Cx}{pins:List (Addr×Obj)}{σ:St}{H H':Hp}{s:Shared}{b:Addr}(I:af X pins σ H s)(hb:s.heap.objs.size≤b)(hn:H' b=none):fP X pins H' b:=by
  refine⟨hn,NL (K9 I.lt hb),I.nofs hb,.inr (KS I.sz hb),fun x c e z=> ?_,fun p hp z=> ?_⟩
  · obtain⟨v,q⟩:=I.cell x c e
    exact absurd (K9 q.lt (by rw [z];exact hb)) (Mq _)
  · exact absurd (K9 (Kv (I.pin p hp).1) (by rw [z];exact hb)) (Mq _)
structure nO (P:Program) (w:World) (K:Kb) (tg:Expr) (J:It) (fp:List Addr) (it:Addr) (tn:Nat→Heap→Prop):Prop where
  mem:it∈fp
  obj:∀i h,tn i h→∀b∈fp,∃o,h.get? b=some o∧∀v,o.data≠ .cell v
  keep:∀i h h',tn i h→(∀b∈fp,∀o,h.get? b=some o→h'.get? b=some o)→tn i h'
  item:∀(X:Cx),X.prog=P→X.w=w→X.K=K→X.calm=true→∀(i:Nat)(pins:List (Addr×Obj))(s:Shared)(σ:St)(H:Hp)(E:Value→Shared→Prop),af X pins σ H s→(∀b∈fp,fP X pins H b)→tn i s.heap→J.go i H→
    wpAny (model P w) X.A (pyNext (.ref it)) (fun r s1=> ∃u,r=some u∧
      wpAny (model P w) X.A (letOwnedTupleGo tg (.ref it) u) (fun _ s2=> ∃x H',af X pins σ H' s2∧aE x u∧J.yld i H x H'∧tn (i+1) s2.heap∧∀b∈fp,H' b=none) E s1) E s
  done:∀(X:Cx),X.prog=P→X.w=w→X.K=K→X.calm=true→∀(i:Nat)(pins:List (Addr×Obj))(s:Shared)(σ:St)(H:Hp)(E:Value→Shared→Prop),af X pins σ H s→(∀b∈fp,fP X pins H b)→tn i s.heap→J.stop i H→
    wpAny (model P w) X.A (pyNext (.ref it)) (fun r s1=> r=none∧af X pins σ H s1) E s
  self:∀(A:Around)(i:Nat)(s:Shared)(Q:Value→Shared→Prop)(E:Value→Shared→Prop),tn i s.heap→Q (.ref it) s→wpAny (model P w) A (pyIter (.ref it)) Q E s
abbrev TI:=St→Hp→(It→Hp→Prop)→Prop
def vz(X:Cx)(pins:List (Addr×Obj))(σ:St)(tg:Expr)(R:It→Hp→Prop)(itv:Value)(s2:Shared):Prop:=
  ∃(it:Addr)(fp:List Addr)(tn:Nat→Heap→Prop)(J:It)(H':Hp),itv= .ref it∧af X pins σ H' s2∧nO X.prog X.w X.K tg J fp it tn∧tn 0 s2.heap∧(∀b∈fp,fP X pins H' b)∧R J H'
def PI(X:Cx)(tg iter:Expr)(wi:TI):Prop:=
  ∀(pins:List (Addr×Obj))(s:Shared)(σ:St)(H:Hp)(R:It→Hp→Prop),af X pins σ H s→wi σ H R→
    wpAny (model X.prog X.w) X.A (eval iter X.env) (fun v s1=> wpAny (model X.prog X.w) X.A (pyIter v) (vz X pins σ tg R) X.xe s1) X.xe s
theorem p9{M:Model}{A:Around}{E:Value→Shared→Prop}{s:Shared}{tg:Expr}{it:Addr}{u:Value}{o:Obj}{n:String}{vs:Array Value}{Q:Unit→Shared→Prop}(ho:s.heap.get? it=some o)(hc:o.cls= .type n)(hd:o.data= .fields vs)
    (hn:["enumerate","zip","dict_itemiterator","dict_reverseitemiterator","odict_iterator","itertools.zip_longest","itertools.pairwise"].contains n=false)(hQ:Q () s):wpAny M A (letOwnedTupleGo tg (.ref it) u) Q E s:=by
  unfold letOwnedTupleGo
  cases tg <;> first
    | exact wpAny_pure hQ
    | (cases u <;> first
        | exact wpAny_pure hQ
        | (refine wpAny_bind (wpAny_load ho ?_)
           rw [hc,hd]
           show wpAny M A (if (["enumerate","zip","dict_itemiterator","dict_reverseitemiterator","odict_iterator","itertools.zip_longest","itertools.pairwise"].contains n && vs[0]?==some (rawInt _))=true then _ else _) Q E s
           rw [if_neg (by intro h;rw [hn,NR] at h;cases h)]
           exact wpAny_pure hQ))
def mf(K:Kb)(a:Addr):It:=
  ⟨fun i H=> ∃xs x,aX K H a xs∧xs[i]?=some x,fun i H x H'=> H'=H∧∀xs,aX K H a xs→xs[i]?=some x,fun i H=> ∃xs,aX K H a xs∧xs.length≤i⟩
def mh(K:Kb)(a:Addr):It:=
  ⟨fun i H=> ∃xs x,bw K H a xs∧xs[i]?=some x,fun i H x H'=> H'=H∧∀xs,bw K H a xs→xs[i]?=some x,fun i H=> ∃xs,bw K H a xs∧xs.length≤i⟩
def gK(lo:Int)(n:Nat):It:=⟨fun i _=> i < n,fun i H x H'=> H'=H∧x= .int (lo+i),fun i _=> n≤i⟩
theorem CU{P:Program}{w:World}{K:Kb}{tg:Expr}(a it:Addr):nO P w K tg (mf K a) [it] it (fun i h=> h.IsListIter it a i) where
  mem:=by simp
  obj:=fun i h st b hb=> by
    have e:b=it:=by simpa using hb
    subst e
    obtain⟨o,e,c,d⟩:=st
    exact⟨o,e,fun v z=> by rw [d] at z;cases z⟩
  keep:=fun i h h' st k=> st.at fun o e=> k it (by simp) o e
  item:=by
    intro X hP hw hK hc i pins s σ H E I hf st hg
    subst hP hw hK
    obtain⟨xs,x,hq,hx⟩:=hg
    obtain⟨its,rv,p,hz⟩:=I.list hq
    obtain⟨u,hu,ru⟩:=rv.get hx
    obtain⟨f0,f1,f2,f3,f4,f5⟩:=hf it (by simp)
    refine wpAny_pyNext_list_item st p.isList (x:=u) (by simpa using hu) fun h' st' sb=> ?_
    have I1:af X pins σ H {s with heap:=h'}:=I.turned (t':=s.toks) (fun b o hb e=> (sb.2 b hb).trans e) f0 f1 f3 f4 f5
    obtain⟨o,e,c,d⟩:=id st'
    exact⟨u,rfl,p9 (s:={s with heap:=h'}) e c d (by decide) ⟨x,H,I1,ru,⟨rfl,fun ys hy=> by rw [I.list_inj hy hq];exact hx⟩,st',fun b hb=> (hf b hb).1⟩⟩
  done:=by
    intro X hP hw hK hc i pins s σ H E I hf st hg
    subst hP hw hK
    obtain⟨xs,hq,hx⟩:=hg
    obtain⟨its,rv,p,hz⟩:=I.list hq
    obtain⟨f0,f1,f2,f3,f4,f5⟩:=hf it (by simp)
    have hl:=rv.length
    exact wpAny_pyNext_list_end (I.ok.hd hc) st p.isList (by simp;omega) fun h' eb=> ⟨rfl,I.turned (t':=s.toks) (fun b o hb e=> eb b o hb e) f0 f1 f3 f4 f5⟩
  self:=fun _ _ _ _ _ st h=> wpAny_pyIter_listiter st h
theorem CV{P:Program}{w:World}{K:Kb}{tg:Expr}(a it:Addr):nO P w K tg (mh K a) [it] it (fun i h=> h.IsTupleIter it a i) where
  mem:=by simp
  obj:=fun i h st b hb=> by
    have e:b=it:=by simpa using hb
    subst e
    obtain⟨o,e,c,d⟩:=st
    exact⟨o,e,fun v z=> by rw [d] at z;cases z⟩
  keep:=fun i h h' st k=> st.at fun o e=> k it (by simp) o e
  item:=by
    intro X hP hw hK hc i pins s σ H E I hf st hg
    subst hP hw hK
    obtain⟨xs,x,hq,hx⟩:=hg
    obtain⟨its,rv,p,hz⟩:=I.tuple hq
    obtain⟨u,hu,ru⟩:=rv.get hx
    obtain⟨f0,f1,f2,f3,f4,f5⟩:=hf it (by simp)
    refine wpAny_pyNext_tuple_item st (show s.heap.IsTuple a its.toArray from p) (x:=u) (by simpa using hu) fun h' st' sb=> ?_
    have I1:af X pins σ H {s with heap:=h'}:=I.turned (t':=s.toks) (fun b o hb e=> (sb.2 b hb).trans e) f0 f1 f3 f4 f5
    obtain⟨o,e,c,d⟩:=id st'
    exact⟨u,rfl,p9 (s:={s with heap:=h'}) e c d (by decide) ⟨x,H,I1,ru,⟨rfl,fun ys hy=> by rw [I.tuple_inj hy hq];exact hx⟩,st',fun b hb=> (hf b hb).1⟩⟩
  done:=by
    intro X hP hw hK hc i pins s σ H E I hf st hg
    subst hP hw hK
    obtain⟨xs,hq,hx⟩:=hg
    obtain⟨its,rv,p,hz⟩:=I.tuple hq
    obtain⟨f0,f1,f2,f3,f4,f5⟩:=hf it (by simp)
    have hl:=rv.length
    exact wpAny_pyNext_tuple_end (I.ok.hd hc) st (show s.heap.IsTuple a its.toArray from p) (by simp;omega) fun h' eb=> ⟨rfl,I.turned (t':=s.toks) (fun b o hb e=> eb b o hb e) f0 f1 f3 f4 f5⟩
  self:=fun _ _ _ _ _ st h=> wpAny_pyIter_tupleiter st h
theorem CW{P:Program}{w:World}{K:Kb}{tg:Expr}(it:Addr)(lo:Int)(n:Nat):nO P w K tg (gK lo n) [it] it (fun i h=> IsRangeIter h it (lo+(i:Nat)*1) ((n:Int) - (i:Nat)) 1) where
  mem:=by simp
  obj:=fun i h st b hb=> by
    have e:b=it:=by simpa using hb
    subst e
    exact⟨_,st,fun v z=> by
      have z':Data.fields _=Data.cell v:=z
      cases z'⟩
  keep:=fun i h h' st k=> k it (by simp) _ st
  item:=by
    intro X hP hw hK hc i pins s σ H E I hf st hg
    subst hP hw hK
    obtain⟨f0,f1,f2,f3,f4,f5⟩:=hf it (by simp)
    have W:=Walks.range (prog:=X.prog) (w:=X.w) (I.ok.hd hc) it lo 1 n
    refine W.item i s _ _ hg st fun v h' tk hv st' kk=> ?_
    obtain⟨t,rfl⟩:=hv
    have I1:af X pins σ H {s with heap:=h',toks:=tk}:=I.turned (fun b o hb e=> kk b o (by simpa using hb) e) f0 f1 f3 f4 f5
    refine⟨_,rfl,p9 (s:={s with heap:=h',toks:=tk}) (n:="range_iterator") st' rfl rfl (by decide) ⟨.int (lo+i),H,I1,⟨t,?_⟩,⟨rfl,rfl⟩,st',fun b hb=> (hf b hb).1⟩⟩
    rw [Int.mul_one]
  done:=by
    intro X hP hw hK hc i pins s σ H E I hf st hg
    subst hP hw hK
    obtain⟨f0,f1,f2,f3,f4,f5⟩:=hf it (by simp)
    exact wpAny_pyNext_range_end (I.ok.hd hc) st (by have:n≤i:=hg;omega) fun h' eb=> ⟨rfl,I.turned (t':=s.toks) (fun b o hb e=> eb b o hb e) f0 f1 f3 f4 f5⟩
  self:=fun _ _ _ _ _ st h=> wpAny_pyIter_rangeiter st h
end L2
namespace L2
open PySem PySem.Spec PyProof.Rows
section
variable {X:Cx} {tg:Expr}
def qa(K:Kb)(tl:TE):TI:=fun σ H R=> tl σ H fun x H1=> ∃a,x= .ref a∧(∃xs,aX K H1 a xs)∧R (mf K a) H1
def qc(K:Kb)(tl:TE):TI:=fun σ H R=> tl σ H fun x H1=> ∃a,x= .ref a∧(∃xs,bw K H1 a xs)∧R (mh K a) H1
theorem qf{l:Expr}{tl:TE}(hl:PE X l tl):PI X tg l (qa X.K tl):=by
  intro pins s σ H R I h
  refine aB (hl pins s σ H _ I h) fun v s1 ⟨x,H1,I1,r1,q1⟩=> ?_
  obtain⟨a,e,⟨xs,hq⟩,q⟩:=q1
  subst e
  cases r1
  obtain⟨its,rv,p,hz⟩:=I1.list hq
  refine wpAny_pyIter_list p.isList ?_
  refine⟨s1.heap.objs.size,[s1.heap.objs.size],_,_,H1,rfl,I1.kept (t':=s1.toks) fun b o e=> Kg _ e,CU a _,⟨_,KD _ rfl,rfl,rfl⟩,fun b hb=> ?_,q⟩
  have e:b=s1.heap.objs.size:=by simpa using hb
  subst e
  exact I1.fpOk (Kk _) (I1.hok.fresh (Kk _))
theorem qg{l:Expr}{tl:TE}(hl:PE X l tl):PI X tg l (qc X.K tl):=by
  intro pins s σ H R I h
  refine aB (hl pins s σ H _ I h) fun v s1 ⟨x,H1,I1,r1,q1⟩=> ?_
  obtain⟨a,e,⟨xs,hq⟩,q⟩:=q1
  subst e
  cases r1
  obtain⟨its,rv,p,hz⟩:=I1.tuple hq
  refine wpAny_pyIter_tuple (show s1.heap.IsTuple a its.toArray from p) ?_
  refine⟨s1.heap.objs.size,[s1.heap.objs.size],_,_,H1,rfl,I1.kept (t':=s1.toks) fun b o e=> Kg _ e,CV a _,⟨_,KD _ rfl,rfl,rfl⟩,fun b hb=> ?_,q⟩
  have e:b=s1.heap.objs.size:=by simpa using hb
  subst e
  exact I1.fpOk (Kk _) (I1.hok.fresh (Kk _))
theorem vA{pins:List (Addr×Obj)}{σ:St}{H:Hp}{s:Shared}{R:It→Hp→Prop}{E:Value→Shared→Prop}{lo hi:Int}{t u v:Tok}{tk:Nat}(I:af X pins σ H s)(h1:-(2 ^ 62)≤lo)(h2:lo < 2 ^ 62)(h3:-(2 ^ 62)≤hi)(h4:hi < 2 ^ 62)
    (q:R (gK lo (hi - lo).toNat) H):wpAny (model X.prog X.w) X.A (pyIter (.ref s.heap.objs.size)) (vz X pins σ tg R) E {s with heap:=s.heap.push {cls:= .type "range",data:= .fields #[.int lo t,.int hi u,.int 1 v]},toks:=tk}:=by
  refine wpAny_pyIter_range (IsRange.new ..) (small_one h1 h2 h3 h4) ?_
  have I1:af X pins σ H {s with heap:=s.heap.push {cls:= .type "range",data:= .fields #[.int lo t,.int hi u,.int 1 v]},toks:=tk}:=I.kept fun b o e=> Kg _ e
  refine⟨(s.heap.push {cls:= .type "range",data:= .fields #[.int lo t,.int hi u,.int 1 v]}).objs.size,[(s.heap.push {cls:= .type "range",data:= .fields #[.int lo t,.int hi u,.int 1 v]}).objs.size],_,_,H,rfl,
    I1.kept (t':=tk) fun b o e=> Kg _ e,CW _ lo (hi - lo).toNat,?_,fun b hb=> ?_,q⟩
  · have e1:lo+((0:Nat):Int)*1=lo:=by simp
    have e2:(((hi - lo).toNat:Nat):Int) - ((0:Nat):Int)=Builtin.Range.rangeSize lo hi 1:=by rw [rangeSize_one];split <;> omega
    show IsRangeIter _ _ (lo+((0:Nat):Int)*1) ((((hi - lo).toNat:Nat):Int) - ((0:Nat):Int)) 1
    rw [e1,e2]
    exact KD _ rfl
  · have e:b=(s.heap.push {cls:= .type "range",data:= .fields #[.int lo t,.int hi u,.int 1 v]}).objs.size:=by simpa using hb
    subst e
    exact I1.fpOk (Kk _) (I1.hok.fresh (Kk _))
def qh(ta:TA):TI:=fun σ H R=> ta σ H fun vs H1=> ∃j:Int,vs=[.int j]∧-(2 ^ 62)≤j∧j < 2 ^ 62∧R (gK 0 j.toNat) H1
def qi(ta:TA):TI:=fun σ H R=> ta σ H fun vs H1=> ∃i j:Int,vs=[.int i,.int j]∧(-(2 ^ 62)≤i∧i < 2 ^ 62∧-(2 ^ 62)≤j∧j < 2 ^ 62)∧R (gK i (j - i).toNat) H1
theorem vB{a:Expr}{ta:TA}{p pos:Pos}(hg:Gl X "range")(hm:X.mg "range"=none)(ha:PA X [a] ta)(hs:starEach [a] X.env=[(false,eval a X.env)]:=by rfl):PI X tg (.Call (.Name "range" p) [a] [] pos) (qh ta):=by
  intro pins s σ H R I h
  refine Call_ (lX I hg hm boot_range (MX (aB (ha pos pins s σ H _ I h) fun us s1 ⟨vs,H1,I1,r1,q1⟩=> ?_) hs rfl))
  obtain⟨j,e,q1,q2,q⟩:=q1
  subst e
  cases r1 with
  | cons r rr=>
    cases rr
    obtain⟨t,rfl⟩:=r
    exact call_range_1 (vA I1 (by omega) (by omega) q1 q2 (by simpa using q))
theorem qj{a b:Expr}{ta:TA}{p pos:Pos}(hg:Gl X "range")(hm:X.mg "range"=none)(ha:PA X [a,b] ta)(hs:starEach [a,b] X.env=[(false,eval a X.env),(false,eval b X.env)]:=by rfl)(hs2:starEach [b] X.env=[(false,eval b X.env)]:=by rfl):
    PI X tg (.Call (.Name "range" p) [a,b] [] pos) (qi ta):=by
  intro pins s σ H R I h
  refine Call_ (lX I hg hm boot_range (MX (aB (ha pos pins s σ H _ I h) fun us s1 ⟨vs,H1,I1,r1,q1⟩=> ?_) (by rw [hs,hs2]) (by rw [hs2];rfl)))
  obtain⟨i,j,e,⟨q1,q2,q3,q4⟩,q⟩:=q1
  subst e
  cases r1 with
  | cons r rr=>
    cases rr with
    | cons r' rr=>
      cases rr
      obtain⟨t,rfl⟩:=r
      obtain⟨t',rfl⟩:=r'
      exact call_range_2 (vA I1 q1 q2 q3 q4 q)
def mi(wi:TI)(g:TG)(tb:TS):TS:=fun D σ H=> wi σ H fun J H1=> ∃W:Nat→Nat→St→Hp→Prop,(∃m,W 0 m σ H1)∧∀i m σ H,W i m σ H→
  (J.stop i H∧D.nx σ H)∨(J.go i H∧∃N:St→Hp→Prop,(∀σ' H',N σ' H'→∃m',m' < m∧W (i+1) m' σ' H')∧∀x H',J.yld i H x H'→g x σ H' fun σ2 H2=> tb {D with nx:=N,ct:=N,bk:=D.nx} σ2 H2)
def mj(fp:List Addr)(h:Heap):List (Addr×Obj):=fp.filterMap fun b=> (h.get? b).map fun o=> (b,o)
theorem nP{fp:List Addr}{h:Heap}{b:Addr}{o:Obj}(hb:b∈fp)(e:h.get? b=some o):(b,o)∈mj fp h:=MI.mpr ⟨b,hb,by rw [e];rfl⟩
theorem CY{fp:List Addr}{h:Heap}{p:Addr×Obj}(hp:p∈mj fp h):p.1∈fp∧h.get? p.1=some p.2:=by
  obtain⟨b,hb,e⟩:=MI.mp hp
  cases q:h.get? b with
  | none=> rw [q] at e;cases e
  | some o=>
    rw [q] at e
    have e':(b,o)=p:=K5 e
    subst e'
    exact⟨hb,q⟩
theorem af.pinned{pins:List (Addr×Obj)}{σ:St}{H:Hp}{s:Shared}{fp:List Addr}(I:af X pins σ H s)(hf:∀b∈fp,fP X pins H b)(ho:∀b∈fp,∃o,s.heap.get? b=some o∧∀v,o.data≠ .cell v):af X (pins++mj fp s.heap) σ H s:=
  I.pins_of fun p hp=> (KL.mp hp).elim (fun z=> I.pin p (K7 _ z)) fun z=> by
    obtain⟨hb,e⟩:=CY z
    obtain⟨f0,f1,f2,_⟩:=hf p.1 hb
    obtain⟨o,e',d⟩:=ho p.1 hb
    rw [e] at e';cases e'
    exact⟨e,f0,f1,f2,d⟩
theorem af.unpinned{pins pl:List (Addr×Obj)}{σ:St}{H:Hp}{s:Shared}(I:af X (pins++pl) σ H s):af X pins σ H s:=I.pins_of fun p hp=> I.pin p (K7 _ (NK _ hp))
theorem nQ{iter:Expr}{body:List Stmt}{wi:TI}{g:TG}{tb:TS}{pos:Pos}(hp:PassesOwn (model X.prog X.w) X.A X.env X.xe)(hc:X.calm=true)(hi:PI X tg iter wi)(hg:PG X tg g)(hb:bQ X body tb)
    (hs:∀x,foldedSetIterable iter X.env x=pure x:=by intro _;rfl):PS X (.For tg iter body [] pos) (mi wi g tb):=by
  intro pins s σ H D I h
  refine wpAny_For (aB (hi pins s σ H _ I h) fun v s1 h1=> aB h1 fun itv s2 h2=> ?_) hs
  obtain⟨it,fp,tn,J,H2,e,I2,T,st2,f2,W,⟨m0,w0⟩,turn⟩:=h2
  subst e
  have stat:∀{H':Hp},(∀b∈fp,H' b=none)→∀b∈fp,fP X pins H' b:=fun hn b hb=> ⟨hn b hb,(f2 b hb).2⟩
  refine codeAny_forLoop_any (fun n s'=> ∃i σ' H',af X pins σ' H' s'∧tn i s'.heap∧(∀b∈fp,H' b=none)∧W i n σ' H') ?_ m0 ⟨0,σ,H2,I2,st2,fun b hb=> (f2 b hb).1,w0⟩
  rintro n s3 ⟨i,σ3,H3,I3,st3,fr3,w3⟩
  rcases turn i n σ3 H3 w3 with⟨stop,qn⟩ | ⟨go,N,hN,step⟩
  · refine wpAny_passesOwn hp (aB (T.done X rfl rfl rfl hc i pins s3 σ3 H3 X.xe I3 (stat fr3) st3 stop) fun r s4 ⟨hr,I4⟩=> ?_)
    subst hr
    exact wpAny_execs_nil ⟨σ3,H3,I4,qn⟩
  · refine wpAny_passesOwn hp (aB (T.item X rfl rfl rfl hc i pins s3 σ3 H3 X.xe I3 (stat fr3) st3 go) fun r s4 ⟨u,hr,h4⟩=> ?_)
    subst hr
    refine wpAny_passesOwn hp (aB h4 fun _ s5 ⟨x,H5,I5,r5,y5,st5,fr5⟩=> ?_)
    have I5':=I5.pinned (stat fr5) (T.obj _ _ st5)
    refine wpAny_passesOwn hp (aB (hg _ s5 σ3 H5 x u _ I5' r5 (step x H5 y5)) fun _ s6 ⟨σ6,H6,I6,q6⟩=> ?_)
    refine wpAny_passesOwn hp (aB (hb _ s6 σ6 H6 _ I6 q6) fun f s7 q7=> ?_)
    have again:∀{σ7:St}{H7:Hp},af X (pins++mj fp s5.heap) σ7 H7 s7→N σ7 H7→∃m,m < n∧∃i σ' H',af X pins σ' H' s7∧tn i s7.heap∧(∀b∈fp,H' b=none)∧W i m σ' H':=fun{σ7 H7} I7 n7=> by
      obtain⟨m',hm,w7⟩:=hN σ7 H7 n7
      refine⟨m',hm,i+1,σ7,H7,I7.unpinned,T.keep _ _ _ st5 fun b hb o e=> (I7.pin (b,o) (K7 _ (K7 _ (nP hb e)))).1,fun b hb=> ?_,w7⟩
      obtain⟨o,e,d⟩:=T.obj _ _ st5 b hb
      exact(I7.pin (b,o) (K7 _ (K7 _ (nP hb e)))).2.1
    cases f with
    | next=> obtain⟨σ7,H7,I7,n7⟩:=q7;exact again I7 n7
    | cont=> obtain⟨σ7,H7,I7,n7⟩:=q7;exact again I7 n7
    | brk=> obtain⟨σ7,H7,I7,q7⟩:=q7;exact⟨σ7,H7,I7.unpinned,q7⟩
    | ret v=> obtain⟨x7,σ7,H7,I7,r7,q7⟩:=q7;exact⟨x7,σ7,H7,I7.unpinned,r7,q7⟩
end
end L2
namespace L2
open PySem PySem.Spec PyProof.Rows
abbrev R2:=V→V→Hp→VK→Prop
def bS(X:Cx)(f:Value→Value→Sem Value)(r:R2):Prop:=
  ∀(pins:List (Addr×Obj))(s:Shared)(σ:St)(H:Hp)(x y:V)(v u:Value)(Q:VK),af X pins σ H s→aE x v→aE y u→r x y H Q→
    wpAny (model X.prog X.w) X.A (f v u) (EP X pins σ Q) X.xe s
def qm(X:Cx)(f:Value→Sem Value)(r:V→Hp→VK→Prop):Prop:=
  ∀(pins:List (Addr×Obj))(s:Shared)(σ:St)(H:Hp)(x:V)(v:Value)(Q:VK),af X pins σ H s→aE x v→r x H Q→
    wpAny (model X.prog X.w) X.A (f v) (EP X pins σ Q) X.xe s
def dO(X:Cx)(f:Value)(r:List V→Hp→VK→Prop):Prop:=
  ∀(pins:List (Addr×Obj))(s:Shared)(σ:St)(H:Hp)(xs:List V)(us:List Value)(Q:VK),af X pins σ H s→aF xs us→r xs H Q→
    wpAny (model X.prog X.w) X.A (call f us) (EP X pins σ Q) X.xe s
def CZ(X:Cx)(r:V→Hp→(Bool→Hp→Prop)→Prop):Prop:=
  ∀(pins:List (Addr×Obj))(s:Shared)(σ:St)(H:Hp)(x:V)(v:Value)(Q:Bool→Hp→Prop),af X pins σ H s→aE x v→r x H Q→
    wpAny (model X.prog X.w) X.A (truthy v) (TP X pins σ Q) X.xe s
def kJ(r:R2)(ta tb:TE):TE:=fun σ H Q=> ta σ H fun x H1=> tb σ H1 fun y H2=> r x y H2 Q
def vC(r:V→Hp→VK→Prop)(ta:TE):TE:=fun σ H Q=> ta σ H fun x H1=> r x H1 Q
def rI(C:Int→Int→Prop)(g:Int→Int→V):R2:=fun x y H Q=> ∃i j,x= .int i∧y= .int j∧C i j∧Q (g i j) H
def fQ(g:Int→Int→V):R2:=fun x y H Q=> ∃i j,x= .int i∧y= .int j∧Q (g i j) H
def rU(g:Int→V):V→Hp→VK→Prop:=fun x H Q=> ∃i,x= .int i∧Q (g i) H
section
variable {X:Cx} {a b c:Expr} {ta tb tc:TE} {pos:Pos}
theorem qo(ha:PE X a ta)(hb:PE X b tb){pins:List (Addr×Obj)}{s:Shared}{σ:St}{H:Hp}{R:V→V→Hp→Prop}(I:af X pins σ H s)
    (h:ta σ H fun x H1=> tb σ H1 fun y H2=> R x y H2){Q:Value→Shared→Prop}{f:Value→Value→Sem Value}
    (hf:∀v u s2 x y H2,af X pins σ H2 s2→aE x v→aE y u→R x y H2→wpAny (model X.prog X.w) X.A (f v u) Q X.xe s2):
    wpAny (model X.prog X.w) X.A (eval a X.env) (fun v s₁=> wpAny (model X.prog X.w) X.A (eval b X.env) (fun u s₂=> wpAny (model X.prog X.w) X.A (f v u) Q X.xe s₂) X.xe s₁) X.xe s:=by
  refine aB (ha pins s σ H _ I h) fun v s1 ⟨x,H1,I1,r1,q1⟩=> ?_
  refine aB (hb pins s1 σ H1 _ I1 q1) fun u s2 ⟨y,H2,I2,r2,q2⟩=> ?_
  exact hf v u s2 x y H2 I2 r1 r2 q2
theorem bh{op:Operator}{r:R2}(ho:bS X (binaryOp op) r)(ha:PE X a ta)(hb:PE X b tb):PE X (.BinOp a op b pos) (kJ r ta tb):=by
  intro pins s σ H Q I h
  exact wpAny_BinOp (qo ha hb I h fun v u s2 x y H2 I2 rx ry q=> ho pins s2 σ H2 x y v u Q I2 rx ry q)
theorem C0{op:UnaryOp}{r:V→Hp→VK→Prop}(ho:qm X (unaryOp op) r)(ha:PE X a ta):PE X (.UnaryOp op a pos) (vC r ta):=by
  intro pins s σ H Q I h
  exact UnaryOp_ (aB (ha pins s σ H _ I h) fun v s1 uu32=> by obtain⟨x,H1,I1,r1,q1⟩:=uu32;exact ho pins s1 σ H1 x v Q I1 r1 q1)
theorem nR{f:Value→Value→Sem Value}{C:Int→Int→Prop}{g:Int→Int→Int}
    (rule:∀(i j:Int) (t u:Tok) (s:Shared) (Q:Value→Shared→Prop) (E:Value→Shared→Prop),C i j→Q (.int (g i j) s.toks) {s with toks:=s.toks+1}→wpAny (model X.prog X.w) X.A (f (.int i t) (.int j u)) Q E s):
    bS X f (rI C fun i j=> .int (g i j)):=by
  intro pins s σ H x y v u Q I rx ry h
  obtain⟨i,j,rfl,rfl,hc,q⟩:=h
  obtain⟨t,rfl⟩:=rx
  obtain⟨t',rfl⟩:=ry
  exact rule i j t t' s _ _ hc ⟨.int (g i j),H,I.tok _,⟨_,rfl⟩,q⟩
theorem vD{f:Value→Value→Sem Value}{g:Int→Int→Int}
    (rule:∀(i j:Int) (t u:Tok) (s:Shared) (Q:Value→Shared→Prop) (E:Value→Shared→Prop),Q (.int (g i j) s.toks) {s with toks:=s.toks+1}→wpAny (model X.prog X.w) X.A (f (.int i t) (.int j u)) Q E s):
    bS X f (fQ fun i j=> .int (g i j)):=by
  intro pins s σ H x y v u Q I rx ry h
  obtain⟨i,j,rfl,rfl,q⟩:=h
  obtain⟨t,rfl⟩:=rx
  obtain⟨t',rfl⟩:=ry
  exact rule i j t t' s _ _ ⟨.int (g i j),H,I.tok _,⟨_,rfl⟩,q⟩
theorem nS{f:Value→Value→Sem Value}{g:Int→Int→Bool}
    (rule:∀(i j:Int) (t u:Tok) (s:Shared) (Q:Value→Shared→Prop) (E:Value→Shared→Prop),Q (.bool (g i j)) s→wpAny (model X.prog X.w) X.A (f (.int i t) (.int j u)) Q E s):
    bS X f (fQ fun i j=> .bl (g i j)):=by
  intro pins s σ H x y v u Q I rx ry h
  obtain⟨i,j,rfl,rfl,q⟩:=h
  obtain⟨t,rfl⟩:=rx
  obtain⟨t',rfl⟩:=ry
  exact rule i j t t' s _ _ ⟨.bl (g i j),H,I,rfl,q⟩
def mm(i j:Int):Prop:=0 < j∧j < 1073741824
def nT(i j:Int):Prop:=0≤j∧j≤1000000∧i.natAbs < 2 ^ 64
def kK(i j:Int):Prop:=(-(2 ^ 64) < i∧i < 2 ^ 64)∨(-(2 ^ 64) < j∧j < 2 ^ 64)
theorem kK.ok{i j:Int}(h:kK i j):IntMulOk i j:=by
  rcases h with⟨h1,h2⟩ | ⟨h1,h2⟩
  · exact .of_left (intBits_le_64 h1 h2)
  · exact .of_right (intBits_le_64 h1 h2)
theorem bI:bS X (binaryOp .Add) (fQ fun i j=> .int (i+j)):=vD fun _ _ _ _ _ _ _ q=> add_int q
theorem dz:bS X (binaryOp .Sub) (fQ fun i j=> .int (i - j)):=vD fun _ _ _ _ _ _ _ q=> sub_int q
theorem eY:bS X (binaryOp .Mult) (rI kK fun i j=> .int (i*j)):=nR fun _ _ _ _ _ _ _ hc q=> mul_int q hc.ok
theorem iA:bS X (binaryOp .FloorDiv) (rI mm fun i j=> .int (i / j)):=nR fun i j _ _ _ _ _ hc q=> by
  have h1:(0:Int) < j:=hc.1
  have h2:j < 1073741824:=hc.2
  exact floordiv_int (by omega) (by rw [N0 i (by omega)];exact q) (.inl (OM (by omega)))
theorem eJ:bS X (binaryOp .Mod) (rI (fun _ j=> 0 < j) fun i j=> .int (i % j)):=nR fun i j _ _ _ _ _ hc q=> by
  have h1:(0:Int) < j:=hc
  exact mod_int' (by omega) (by rw [N1 i (by omega)];exact q)
theorem C1:bS X (binaryOp .Pow) (rI nT fun i j=> .int (i ^ j.toNat)):=nR fun _ _ _ _ _ _ _ hc q=> pow_int_small hc.1 hc.2.1 hc.2.2 q
theorem C2{f:Value→Sem Value}{g:Int→Int}
    (rule:∀(i:Int) (t:Tok) (s:Shared) (Q:Value→Shared→Prop) (E:Value→Shared→Prop),Q (.int (g i) s.toks) {s with toks:=s.toks+1}→wpAny (model X.prog X.w) X.A (f (.int i t)) Q E s):
    qm X f (rU fun i=> .int (g i)):=by
  intro pins s σ H x v Q I rx h
  obtain⟨i,rfl,q⟩:=h
  obtain⟨t,rfl⟩:=rx
  exact rule i t s _ _ ⟨.int (g i),H,I.tok _,⟨_,rfl⟩,q⟩
theorem C3:qm X (unaryOp .USub) (rU fun i=> .int (-i)):=C2 fun _ _ _ _ _ q=> neg_int q
end
def qp:V→V→Bool
  | .non,.non=> true | .non,.int _=> true | .int _,.non=> true | .non,.bl _=> true | .bl _,.non=> true | .non,.str _=> true | .str _,.non=> true
  | .int _,.int _=> true | .bl _,.bl _=> true | .str _,.str _=> true | .byt _,.byt _=> true
  | .int _,.str _=> true | .str _,.int _=> true | .bl _,.str _=> true | .str _,.bl _=> true
  | _,_=> false
def vE:R2:=fun x y H Q=> qp x y=true∧Q (.bl (decide (x=y))) H
def vF:R2:=fun x y H Q=> qp x y=true∧Q (.bl (!decide (x=y))) H
theorem vG{i j:Int}:decide (V.int i=V.int j)=(i==j):=by
  rw [MJ]
  simp
theorem vH{i j:Bool}:decide (V.bl i=V.bl j)=(i==j):=by
  rw [MJ]
  simp
theorem vI{i j:Str}:decide (V.str i=V.str j)=(i==j):=by
  rw [MJ]
  simp
theorem vJ{i j:Array UInt8}:decide (V.byt i=V.byt j)=(i.toList==j.toList):=by
  rw [MJ]
  cases i
  cases j
  simp
section
variable {X:Cx} {a b c:Expr} {ta tb tc:TE} {pos:Pos}
theorem bE{pins:List (Addr×Obj)}{σ:St}{H:Hp}{s:Shared}{Q:VK}{k k':Bool}(I:af X pins σ H s)(q:Q (.bl k) H)(e:k=k'):EP X pins σ Q (.bool k') s:=by
  subst e
  exact⟨.bl k,H,I,rfl,q⟩
theorem mn:bS X (compareOp .Eq) vE:=by
  intro pins s σ H x y v u Q I rx ry h
  obtain⟨hs,q⟩:=h
  cases x with
  | non=>
    cases rx
    cases y with
    | non=> cases ry;exact PySem.EqNone.eq_none_none (bE I q (by simp))
    | bl j=> cases ry;exact PySem.EqNone.eq_none_bool (bE I q (by simp))
    | int j=> obtain⟨t',rfl⟩:=ry;exact PySem.EqNone.eq_none_int (bE I q (by simp))
    | str j=> obtain⟨t',rfl⟩:=ry;exact PySem.EqNone.eq_none_str (bE I q (by simp))
    | _=> exact absurd (show false=true from hs) Ki
  | bl i=>
    cases rx
    cases y with
    | non=> cases ry;exact PySem.EqNone.eq_bool_none (bE I q (by simp))
    | bl j=> cases ry;exact eq_bool (bE I q vH)
    | str j=> obtain⟨t',rfl⟩:=ry;exact PySem.EqMixed.eq_bool_str (bE I q (by simp))
    | _=> exact absurd (show false=true from hs) Ki
  | int i=>
    obtain⟨t,rfl⟩:=rx
    cases y with
    | non=> cases ry;exact PySem.EqNone.eq_int_none (bE I q (by simp))
    | int j=> obtain⟨t',rfl⟩:=ry;exact eq_int (bE I q vG)
    | str j=> obtain⟨t',rfl⟩:=ry;exact PySem.EqMixed.eq_int_str (bE I q (by simp))
    | _=> exact absurd (show false=true from hs) Ki
  | str i=>
    obtain⟨t,rfl⟩:=rx
    cases y with
    | non=> cases ry;exact PySem.EqNone.eq_str_none (bE I q (by simp))
    | bl j=> cases ry;exact PySem.EqMixed.eq_str_bool (bE I q (by simp))
    | int j=> obtain⟨t',rfl⟩:=ry;exact PySem.EqMixed.eq_str_int (bE I q (by simp))
    | str j=> obtain⟨t',rfl⟩:=ry;exact eq_str (bE I q vI)
    | _=> exact absurd (show false=true from hs) Ki
  | byt i=>
    obtain⟨t,rfl⟩:=rx
    cases y with
    | byt j=> obtain⟨t',rfl⟩:=ry;exact PySem.W.eq_bytes (bE I q vJ)
    | _=> exact absurd (show false=true from hs) Ki
  | _=> cases y <;> exact absurd (show false=true from hs) Ki
theorem C4:bS X (compareOp .NotEq) vF:=by
  intro pins s σ H x y v u Q I rx ry h
  obtain⟨hs,q⟩:=h
  cases x with
  | non=>
    cases rx
    cases y with
    | non=> cases ry;exact PySem.EqNone.ne_none_none (bE I q (by simp))
    | bl j=> cases ry;exact PySem.EqNone.ne_none_bool (bE I q (by simp))
    | int j=> obtain⟨t',rfl⟩:=ry;exact PySem.EqNone.ne_none_int (bE I q (by simp))
    | str j=> obtain⟨t',rfl⟩:=ry;exact PySem.EqNone.ne_none_str (bE I q (by simp))
    | _=> exact absurd (show false=true from hs) Ki
  | bl i=>
    cases rx
    cases y with
    | non=> cases ry;exact PySem.EqNone.ne_bool_none (bE I q (by simp))
    | bl j=> cases ry;exact ne_bool (bE I q (congrArg not vH))
    | str j=> obtain⟨t',rfl⟩:=ry;exact PySem.EqMixed.ne_bool_str (bE I q (by simp))
    | _=> exact absurd (show false=true from hs) Ki
  | int i=>
    obtain⟨t,rfl⟩:=rx
    cases y with
    | non=> cases ry;exact PySem.EqNone.ne_int_none (bE I q (by simp))
    | int j=> obtain⟨t',rfl⟩:=ry;exact ne_int (bE I q (congrArg not vG))
    | str j=> obtain⟨t',rfl⟩:=ry;exact PySem.EqMixed.ne_int_str (bE I q (by simp))
    | _=> exact absurd (show false=true from hs) Ki
  | str i=>
    obtain⟨t,rfl⟩:=rx
    cases y with
    | non=> cases ry;exact PySem.EqNone.ne_str_none (bE I q (by simp))
    | bl j=> cases ry;exact PySem.EqMixed.ne_str_bool (bE I q (by simp))
    | int j=> obtain⟨t',rfl⟩:=ry;exact PySem.EqMixed.ne_str_int (bE I q (by simp))
    | str j=> obtain⟨t',rfl⟩:=ry;exact ne_str (bE I q (congrArg not vI))
    | _=> exact absurd (show false=true from hs) Ki
  | byt i=>
    obtain⟨t,rfl⟩:=rx
    cases y with
    | byt j=> obtain⟨t',rfl⟩:=ry;exact PySem.W.ne_bytes (bE I q (congrArg not vJ))
    | _=> exact absurd (show false=true from hs) Ki
  | _=> cases y <;> exact absurd (show false=true from hs) Ki
theorem qr:bS X (compareOp .Lt) (fQ fun i j=> .bl (decide (i < j))):=nS fun _ _ _ _ _ _ _ q=> lt_int q
theorem j5:bS X (compareOp .LtE) (fQ fun i j=> .bl (decide (i≤j))):=nS fun _ _ _ _ _ _ _ q=> le_int q
theorem gL:bS X (compareOp .Gt) (fQ fun i j=> .bl (decide (j < i))):=nS fun _ _ _ _ _ _ _ q=> gt_int q
theorem vK:bS X (compareOp .GtE) (fQ fun i j=> .bl (decide (j≤i))):=nS fun _ _ _ _ _ _ _ q=> ge_int q
theorem qt:bS X (compareOp .Is) (fun x y H Q=> y= .non∧Q (.bl (decide (x= .non))) H):=by
  intro pins s σ H x y v u Q I rx ry h
  obtain⟨rfl,q⟩:=h
  cases ry
  refine is_none_gen (bE I q ?_)
  cases x <;> first
    | (cases rx;rfl)
    | (obtain⟨t,rfl⟩:=rx;rfl)
theorem vL:bS X (compareOp .IsNot) (fun x y H Q=> y= .non∧Q (.bl (!decide (x= .non))) H):=by
  intro pins s σ H x y v u Q I rx ry h
  obtain⟨rfl,q⟩:=h
  cases ry
  refine isnot_none_gen (bE I q ?_)
  cases x <;> first
    | (cases rx;rfl)
    | (obtain⟨t,rfl⟩:=rx;rfl)
theorem aD(b:Expr){op:CmpOp}(h:op≠ .In:=by decide)(h2:op≠ .NotIn:=by decide):behindInMarks op b=false:=by
  have e1:(op==CmpOp.In)=false:=by cases op <;> first | rfl | exact absurd rfl h
  have e2:(op==QJ)=false:=by cases op <;> first | rfl | exact absurd rfl h2
  cases b <;> simp [behindInMarks,e1,e2]
theorem nU{op:CmpOp}{r:R2}(ho:bS X (compareOp op) r)(ha:PE X a ta)(hb:PE X b tb)(hm:behindInMarks op b=false):PE X (.Compare a [op] [b] pos) (kJ r ta tb):=by
  intro pins s σ H Q I h
  exact wpAny_Compare1 (qo ha hb I h fun v u s2 x y H2 I2 rx ry q=> ho pins s2 σ H2 x y v u Q I2 rx ry q) hm
def vM(t:TE):TT:=fun σ H Q=> t σ H fun x H'=> ∃k,x= .bl k∧Q k H'
theorem gM{op:CmpOp}{r:R2}(ho:bS X (compareOp op) r)(ha:PE X a ta)(hb:PE X b tb)(hm:behindInMarks op b=false):PT X (.Compare a [op] [b] pos) (vM (kJ r ta tb)):=by
  intro pins s σ H Q I h
  refine wpAny_isTrue_Compare1 (aB (ha pins s σ H _ I h) fun v s1 ⟨x,H1,I1,r1,q1⟩=> aB (hb pins s1 σ H1 _ I1 q1) fun u s2 ⟨y,H2,I2,r2,q2⟩=>
    aB (ho pins s2 σ H2 x y v u _ I2 r1 r2 q2) fun c s3 ⟨z,H3,I3,r3,k,e,q3⟩=> ?_) hm
  subst e
  cases r3
  exact wpAny_truthy_bool ⟨H3,I3,q3⟩
def vN(K:Kb)(x:V)(H:Hp)(k:Bool):Prop:=
  match x with
  | .non=> k=false
  | .bl b=> k=b
  | .int i=> k=(i !=0)
  | .str y=> y.length≤sizeLine∧k=((y.length:Int) !=0)
  | .byt y=> y.size≤sizeLine∧k=((y.size:Int) !=0)
  | .ref p=> (∃xs,aX K H p xs∧k=!xs.isEmpty)∨(∃xs,bw K H p xs∧k=!xs.isEmpty)∨∃kvs,H p=some (.dK kvs)∧k=!kvs.isEmpty
  | _=> False
theorem C5{κ:Type}{kvs:List (κ×V)}{vs:List (κ×Value)}(r:KV kvs vs):(!vs.isEmpty)=!kvs.isEmpty:=by
  cases r <;> rfl
theorem vO{xs:List V}{its:List Value}(r:aF xs its):(!its.toArray.isEmpty)=!xs.isEmpty:=by
  cases r <;> simp
theorem j6:(sizeLine:Nat) < 2 ^ 63:=by rw [sizeLine_eq];decide
theorem C6:CZ X (fun x H Q=> ∃k,vN X.K x H k∧Q k H):=by
  intro pins s σ H x v Q I rx h
  obtain⟨k,e,q⟩:=h
  have hl:=j6
  have hs:sizeLine=16777216:=sizeLine_eq
  cases x with
  | non=>
    cases rx
    have e':k=false:=e
    subst e'
    exact truthy_none ⟨H,I,q⟩
  | bl b=>
    cases rx
    have e':k=b:=e
    subst e'
    exact wpAny_truthy_bool ⟨H,I,q⟩
  | int i=>
    obtain⟨t,rfl⟩:=rx
    have e':k=(i !=0):=e
    subst e'
    exact PySem.P.truthy_int ⟨H,I,q⟩
  | str y=>
    obtain⟨t,rfl⟩:=rx
    obtain⟨hy,e'⟩:y.length≤sizeLine∧k=((y.length:Int) !=0):=e
    subst e'
    exact PySem.P.truthy_str (by omega) ⟨H,I.tok _,q⟩
  | byt y=>
    obtain⟨t,rfl⟩:=rx
    obtain⟨hy,e'⟩:y.size≤sizeLine∧k=((y.size:Int) !=0):=e
    subst e'
    exact PySem.W.truthy_bytes (by omega) ⟨H,I.tok _,q⟩
  | ref p=>
    cases rx
    have e':(∃xs,aX X.K H p xs∧k=!xs.isEmpty)∨(∃xs,bw X.K H p xs∧k=!xs.isEmpty)∨∃kvs,H p=some (.dK kvs)∧k=!kvs.isEmpty:=e
    rcases e' with⟨xs,hx,e'⟩ | ⟨xs,hx,e'⟩ | ⟨kvs,hx,e'⟩
    · subst e'
      obtain⟨its,r,pl,hz⟩:=I.list hx
      have hlen:=r.length
      exact wpAny_truthy_list pl.isList (by simp only [Kt];omega) ⟨H,I.tok _,by rw [vO r];exact q⟩
    · subst e'
      obtain⟨its,r,pl,hz⟩:=I.tuple hx
      have hlen:=r.length
      exact truthy_tuple pl (by simp only [Kt];omega) ⟨H,I.tok _,by rw [vO r];exact q⟩
    · subst e'
      obtain⟨hz,hS,vs,r,m⟩:kvs.length≤sizeLine∧(p==sysModules)=false∧∃vs,KV kvs vs∧s.heap.DictOf (cR X.prog X.w) p vs:=I.hok p _ hx
      have hlen:kvs.length=vs.length:=NX r
      exact wpAny_truthy_dict hS m (by omega) ⟨H,I.tok _,by rw [C5 r];exact q⟩
  | _=> exact(show False from e).elim
theorem C7(ha:PE X a ta)(he:∀whole,isTrue a X.env whole=(do let v←whole;standAt a.pos;holding [v] (truthy v))):
    PT X a (fun σ H Q=> ta σ H fun x H'=> ∃k,vN X.K x H' k∧Q k H'):=by
  intro pins s σ H Q I h
  exact isTrue_plain (aB (ha pins s σ H _ I h) fun v s1 uu36=> by obtain⟨x,H1,I1,r1,q1⟩:=uu36;exact C6 pins s1 σ H1 x v Q I1 r1 q1) (he _)
theorem vP:bS X (binaryOp .Add) (fun x y H Q=> ∃i j,x= .str i∧y= .str j∧i.length+j.length≤sizeLine∧Q (.str (i++j)) H):=by
  intro pins s σ H x y v u Q I rx ry h
  obtain⟨i,j,rfl,rfl,hz,q⟩:=h
  obtain⟨t,rfl⟩:=rx
  obtain⟨t',rfl⟩:=ry
  exact add_str (fun t' tk=> ⟨.str (i++j),H,I.tok _,⟨_,rfl⟩,q⟩) hz
theorem dY{x:V}{us:List Value}(r:aF [x] us):∃u,us=[u]∧aE x u:=by
  cases r with
  | cons r1 r2=> cases r2;exact⟨_,rfl,r1⟩
theorem qu{x y:V}{us:List Value}(r:aF [x,y] us):∃u w',us=[u,w']∧aE x u∧aE y w':=by
  cases r with
  | cons r1 r2=>
    cases r2 with
    | cons r3 r4=> cases r4;exact⟨_,_,rfl,r1,r3⟩
theorem C8:dO X (.builtin "abs") (fun xs H Q=> ∃i,xs=[.int i]∧Q (.int (if i < 0 then -i else i)) H):=by
  intro pins s σ H xs us Q I r h
  obtain⟨i,rfl,q⟩:=h
  obtain⟨u,rfl,t,rfl⟩:=dY r
  exact call_abs_int fun u tk=> ⟨.int (if i < 0 then -i else i),H,I.tok _,⟨_,rfl⟩,q⟩
theorem nV(hc:X.calm=true):dO X (.builtin "max") (fun xs H Q=> ∃i j,xs=[.int i,.int j]∧Q (.int (if j > i then j else i)) H):=by
  intro pins s σ H xs us Q I r h
  obtain⟨i,j,rfl,q⟩:=h
  obtain⟨u,w',rfl,⟨t,rfl⟩,⟨t',rfl⟩⟩:=qu r
  refine max_two_ints (I.ok.hd hc) fun h' tk k=> ⟨_,H,I.kept k,?_,q⟩
  by_cases hj:j > i
  · rw [if_pos hj,if_pos hj];exact⟨_,rfl⟩
  · rw [if_neg hj,if_neg hj];exact⟨_,rfl⟩
theorem vQ(hc:X.calm=true):dO X (.builtin "min") (fun xs H Q=> ∃i j,xs=[.int i,.int j]∧Q (.int (if j < i then j else i)) H):=by
  intro pins s σ H xs us Q I r h
  obtain⟨i,j,rfl,q⟩:=h
  obtain⟨u,w',rfl,⟨t,rfl⟩,⟨t',rfl⟩⟩:=qu r
  refine min_two_ints (I.ok.hd hc) fun h' tk k=> ⟨_,H,I.kept k,?_,q⟩
  by_cases hj:j < i
  · rw [if_pos hj,if_pos hj];exact⟨_,rfl⟩
  · rw [if_neg hj,if_neg hj];exact⟨_,rfl⟩
theorem qv:dO X (.type "int") (fun xs H Q=> (∃i,xs=[.int i]∧Q (.int i) H)∨∃k,xs=[.bl k]∧Q (.int (if k then 1 else 0)) H):=by
  intro pins s σ H xs us Q I r h
  rcases h with⟨i,rfl,q⟩ | ⟨k,rfl,q⟩
  · obtain⟨u,rfl,t,rfl⟩:=dY r
    exact call_int_int ⟨.int i,H,I,⟨_,rfl⟩,q⟩
  · obtain⟨u,rfl,r1⟩:=dY r
    cases r1
    exact call_int_bool ⟨.int (if k then 1 else 0),H,I.tok _,⟨_,rfl⟩,q⟩
theorem C9:dO X (.builtin "divmod") (fun xs H Q=> ∃i j,xs=[.int i,.int j]∧mm i j∧∀p,H p=none→Q (.ref p) (au H p (.tup [.int (i / j),.int (i % j)]))):=by
  intro pins s σ H xs us Q I r h
  obtain⟨i,j,rfl,⟨h1,h2⟩,q⟩:=h
  obtain⟨u,w',rfl,⟨t,rfl⟩,⟨t',rfl⟩⟩:=qu r
  refine divmod_int (by omega) ?_ (.inl (OM (by omega)))
  rw [N0 i (by omega),N1 i (by omega)]
  have hn:H s.heap.objs.size=none:=I.hok.fresh (Kk _)
  refine⟨.ref s.heap.objs.size,_,?_,rfl,q _ hn⟩
  refine I.laid (fun b o e=> Kg _ e) (Kk _) ⟨by simp only [Kw,Mb];rw [sizeLine_eq];decide,[.int (i / j) s.toks,.int (i % j) (s.toks+1)],.cons ⟨_,rfl⟩ (.cons ⟨_,rfl⟩ .nil),?_⟩
  exact⟨_,KD s.heap rfl,rfl,0,rfl⟩
end
end L2
namespace L2
open PySem PySem.Spec PyProof.Rows
structure kL (h:Heap) (x dx C:Addr) (mA:Str→Option Value):Prop where
  obj:h.get? x=some (L9 C dx)
  ns:h.Ns1 dx mA
  ne:dx≠x
theorem Dc{h:Heap}{dx:Addr}{mA:Str→Option Value}(n:h.Ns1 dx mA):∃od,h.get? dx=some od∧∀name,OQ name od=some (mA name):=by
  obtain⟨o,es,ep,ho,hd,hk,_,hm⟩:=n
  refine⟨o,ho,fun name=> ?_⟩
  have e:=hm name
  unfold nsFind findBy at e
  rw [←Array.find?_toList] at e
  unfold OQ
  rw [hd]
  dsimp only
  split
  · rename_i y q
    rw [q] at e
    exact congrArg some e
  · rename_i q
    rw [q] at e
    have a:es.toList.any (·.refKey)=false:=by
      rw [List.any_eq_false]
      intro y hy
      obtain⟨z,t,hkey⟩:=hk y (OZ.mp hy)
      simp [DictEntry.refKey,hkey]
    have a':¬es.toList.any (·.refKey)=true:=by rw [a];exact Ki
    rw [if_neg a']
    exact congrArg some e
theorem kL.look{h:Heap}{x dx C:Addr}{mA:Str→Option Value}(I:kL h x dx C mA):∃od,PySem.W.InstAt h x (L9 C dx) C (some od)∧∀name,OQ name od=some (mA name):=
  let ⟨od,ho,hl⟩:=Dc I.ns
  ⟨od,⟨I.obj,rfl,rfl,ho⟩,hl⟩
section
variable {prog:Program} {w:World} {A:Around} {E:Value→Shared→Prop} {s:Shared} {K:Kb} {x dx C f:Addr} {mA:Str→Option Value} {name:Str} {v:Value}
theorem Dd{expr:Bool}{Q:Value→Shared→Prop}(X:K.In s.heap)(I:kL s.heap x dx C mA)(hg:NG K C name=true)(hh:Nr K C=true)
    (ha:Lu K (.ref C) name=some none)(hv:mA name=some v)(hv':P0 v=true)(h:Q v {s with toks:=s.toks+1}):
    wpAny (model prog w) A (getAttr (.ref x) name expr) Q E s:=by
  obtain⟨od,J,hl⟩:=I.look
  exact PySem.W.get_value X J (PySem.W.plainGet_of hg).1 (PySem.W.findObj_own hh ha rfl (by rw [hl,hv])) hv' h
theorem Df{ns:List Str}{Q:Unit→Shared→Prop}(X:K.In s.heap)(I:kL s.heap x dx C mA)
    (hs:Lu K (.ref C) "__setattr__"=some (some (.builtin "object.__setattr__")))(hp:N8 K C=true)(ht:OF K C name=some none)(hh:Nr K C=true)
    (hw:Pk mA ns)(hsz:ns.length≤sizeLine)
    (h:∀h',kL h' x dx C (fun y=> if y=name then some v else mA y)→Ma dx s.heap h'→Q () {s with heap:=h',toks:=s.toks+2}):
    wpAny (model prog w) A (setAttr (.ref x) name v) Q E s:=by
  obtain⟨od,J,hl⟩:=I.look
  refine PySem.W.set_plain X J hs (PySem.W.osa_open (s:={s with toks:=s.toks+1}) (r:=none) X J hp ht fun b=> ?_)
  obtain⟨cd,hc,hd'⟩:=PySem.W.any_some hh
  have hx:s.heap.get? x=some ⟨.ref C,some dx,.plain,#[]⟩:=I.obj
  refine wpAny_bind (wpAny_pure (wpAny_bind (wpAny_bind (wpAny_loadPart hx (wpAny_bind (PySem.W.Looks.here (s:={s with toks:=s.toks+1}) (PySem.W.looks_clsIn X hc) ?_))))))
  rw [hd']
  refine wpAny_pure (a:=some dx) (wpAny_bind (wpAny_pure (wpAny_bind ?_)))
  refine wpAny_nsSet1 (s:={s with toks:=s.toks+1}) I.ns fun h' hn2 hs2=> ?_
  obtain⟨oD,esD,epD,hoD,hdD,hcD⟩:=hn2.count (Pk.cons name v hw)
  refine wpAny_bind (wpAny_lookBehind hoD (by rw [hdD];exact pastItsLine_dict (KS hcD (by rw [Kw];omega))) ?_)
  exact wpAny_pure (h _ ⟨(hs2.2 _ (Ne.symm I.ne)).trans I.obj,hn2,I.ne⟩ hs2)
theorem Dg{R:Result→Shared→Prop}{vs:List Value}{kw:List (Str×Value)}(X:K.In s.heap)(hm:OG K C=true)
    (hi:Lu K (.ref C) "__init__"=some (some (.ref f)))(hf:PySem.W.typeIn K (.ref f)=some (.type "function"))
    (h:codeAny (model prog w) (A.under (.builtin "type.__call__" ⟨.ref C::vs,kw⟩)) (.call (.ref f) ⟨.ref (s.heap.objs.size+1)::vs,kw⟩) (PySem.W.InitBack (s.heap.objs.size+1) R)
      {s with heap:=(s.heap.push LL).push (L9 C s.heap.objs.size)}):
    codeAny (model prog w) A (.call (.ref C) ⟨vs,kw⟩) R s:=by
  obtain⟨hh,g,d,t,os⟩:=s
  exact PySem.W.make_core (PySem.W.makes_of X hm) (PySem.W.looks_findIn X hi) (fun self=> PySem.W.bind_fn X self hf) (.inl rfl) h
end
def dP(f:Str)(v:V):List (Str×V)→List (Str×V)
  | []=> [(f,v)]
  | (g,x)::r=> if g=f then(g,v)::r else(g,x)::dP f v r
theorem vR(f g:Str)(v:V):∀fs:List (Str×V),(dP f v fs).lookup g=if g=f then some v else fs.lookup g
  | []=> by
    show M6 g [(f,v)]=_
    by_cases h:g=f
    · have hb:(g==f)=true:=beq_iff_eq.mpr h
      simp only [M6,hb,if_pos h]
    · have hb:(g==f)=false:=beq_eq_false_iff_ne.mpr h
      simp only [M6,hb,if_neg h]
  | (k,x)::r=> by
    have ih:=vR f g v r
    rw [show dP f v ((k,x)::r)=(if k=f then(k,v)::r else(k,x)::dP f v r) from rfl]
    by_cases hk:k=f
    · rw [if_pos hk]
      by_cases h:g=k
      · have hb:(g==k)=true:=beq_iff_eq.mpr h
        simp only [M6,hb,if_pos (h.trans hk)]
      · have hb:(g==k)=false:=beq_eq_false_iff_ne.mpr h
        simp only [M6,hb,if_neg (fun e:g=f=> h (e.trans hk.symm))]
    · rw [if_neg hk]
      by_cases h:g=k
      · have hb:(g==k)=true:=beq_iff_eq.mpr h
        simp only [M6,hb,if_neg (fun e:g=f=> hk (h.symm.trans e))]
      · have hb:(g==k)=false:=beq_eq_false_iff_ne.mpr h
        simp only [M6,hb]
        exact ih
theorem qw(f:Str)(v:V):∀fs:List (Str×V),f∈(dP f v fs).map (·.1)∧∀g,g∈fs.map (·.1)→g∈(dP f v fs).map (·.1)
  | []=> ⟨by simp [dP],fun g h=> by simp at h⟩
  | (k,x)::r=> by
    obtain⟨i1,i2⟩:=qw f v r
    rw [show dP f v ((k,x)::r)=(if k=f then(k,v)::r else(k,x)::dP f v r) from rfl]
    by_cases hk:k=f
    · rw [if_pos hk]
      subst hk
      exact⟨by simp,fun g h=> by simpa using h⟩
    · rw [if_neg hk]
      refine⟨?_,fun g h=> ?_⟩
      · rw [Kj]
        exact K1 _ i1
      · rw [Kj] at h⊢
        rcases Kz.mp h with e | e
        · exact Kz.mpr (.inl e)
        · exact K1 _ (i2 g e)
theorem vS(f:Str)(v:V):∀fs:List (Str×V),(dP f v fs).length≤fs.length+1
  | []=> by simp [dP]
  | (k,x)::r=> by
    have ih:=vS f v r
    rw [show dP f v ((k,x)::r)=(if k=f then(k,v)::r else(k,x)::dP f v r) from rfl]
    by_cases hk:k=f
    · rw [if_pos hk,Kw,Kw];omega
    · rw [if_neg hk,Kw,Kw];omega
theorem eF.some_of{v:V}{o:Option Value}(r:eF (some v) o):∃u,o=some u∧aE v u:=by
  cases o with
  | none=> exact(show False from r).elim
  | some u=> exact⟨u,rfl,r⟩
theorem Dh{v:V}{u:Value}(r:aE v u):P0 u=true:=by
  cases v with
  | non=> cases (show u=Mm from r);rfl
  | bl b=> cases (show u=Mt b from r);rfl
  | int i=> obtain⟨t,e⟩:=(show ∃t,u=MH i t from r);cases e;rfl
  | str x=> obtain⟨t,e⟩:=(show ∃t,u=Me x t from r);cases e;rfl
  | byt b=> obtain⟨t,e⟩:=(show ∃t,u=QH b t from r);cases e;rfl
  | flt b=> obtain⟨t,e⟩:=(show ∃t,u=QI b t from r);cases e;rfl
  | ref a=> cases (show u=K6 a from r);rfl
  | ty n=> cases (show u=MY n from r);rfl
section
variable {P:Program} {w:World} {H H':Hp} {h h':Heap} {a C dx:Addr} {fs fs':List (Str×V)}
theorem vT(hok:bT P w H h)(e:H a=some (.ins C dx fs)):∃mA,kL h a dx C mA∧(∀f,eF (fs.lookup f) (mA f))∧Pk mA (fs.map (·.1))∧fs.length≤1000∧H dx=some (.own a):=by
  obtain⟨d,z,ne,ob,mA,n,r,q⟩:=(show cg P w H h a (.ins C dx fs) from hok a _ e)
  exact⟨mA,⟨ob,n,ne⟩,r,q,z,d⟩
end
structure iB (K:Kb) (C:Addr):Prop where
  pg:NG K C Str.empty=true
  hd:Nr K C=true
  po:N8 K C=true
  sa:Lu K (.ref C) "__setattr__"=some (some (.builtin "object.__setattr__"))
theorem iB.get{K:Kb}{C:Addr}(c:iB K C)(f:Str):NG K C f=true:=c.pg
def fo(K:Kb)(C:Addr)(f:Str):Prop:=Lu K (.ref C) f=some none
theorem fo.taker{K:Kb}{C:Addr}{f:Str}(n:fo K C f):OF K C f=some none:=by
  unfold OF
  rw [show Lu K (.ref C) f=some none from n]
  rfl
section
variable {X:Cx} {pins:List (Addr×Obj)} {σ:St} {H:Hp} {s:Shared} {a C dx:Addr} {fs:List (Str×V)} {f:Str} {v:V} {A:Around} {E:Value→Shared→Prop}
theorem Di{b:Bool}{Q:Value→Shared→Prop}(I:af X pins σ H s)(e:H a=some (.ins C dx fs))(c:iB X.K C)(n:fo X.K C f)(l:fs.lookup f=some v)
    (h:∀u s',af X pins σ H s'→aE v u→Q u s'):wpAny (model X.prog X.w) A (getAttr (.ref a) f b) Q E s:=by
  obtain⟨mA,O,r,_,_,_⟩:=vT I.hok e
  obtain⟨u,hu,ru⟩:=eF.some_of (v:=v) (o:=mA f) (by rw [←l];exact r f)
  exact Dd I.kIn O (c.get f) c.hd n hu (Dh ru) (h u _ (I.tok _) ru)
theorem Dj{y:V}{u:Value}{Q:Unit→Shared→Prop}(I:af X pins σ H s)(e:H a=some (.ins C dx fs))(c:iB X.K C)(n:fo X.K C f)(hl:fs.length < 1000)(ry:aE y u)
    (h:∀s',af X pins σ (au H a (.ins C dx (dP f y fs))) s'→Q () s'):wpAny (model X.prog X.w) A (setAttr (.ref a) f u) Q E s:=by
  obtain⟨mA,O,r,wi,_,ho⟩:=vT I.hok e
  have hz:(fs.map (·.1)).length≤sizeLine:=by rw [Kd,sizeLine_eq];omega
  refine Df I.kIn O c.sa c.po n.taker c.hd wi hz fun h' O' sb=> h _ ?_
  have hd:∃o,h'.get? dx=some o:=let ⟨o,_,_,e',_⟩:=O'.ns;⟨o,e'⟩
  refine I.write (x:=a) (e:=dx) (by rw [e];exact LU) (.inr ho) (fun b q hb z=> (sb.2 b hb).trans z) hd ?_
  refine⟨by rw [aJ O.ne];exact ho,?_,O.ne,O'.obj,_,O'.ns,fun g=> ?_,fun g hg=> ?_⟩
  · have:=vS f y fs;omega
  · show eF ((dP f y fs).lookup g) (if g=f then some u else mA g)
    rw [vR]
    by_cases q:g=f
    · rw [if_pos q,if_pos q];exact ry
    · rw [if_neg q,if_neg q];exact r g
  · by_cases q:g=f
    · rw [q];exact(qw f y fs).1
    · refine(qw f y fs).2 g (wi g fun z=> hg ?_)
      show(if g=f then some u else mA g)=none
      rw [if_neg q];exact z
theorem af.made(I:af X pins σ H s):af X pins σ (au (au H s.heap.objs.size (.own (s.heap.objs.size+1))) (s.heap.objs.size+1) (.ins C s.heap.objs.size []))
    {s with heap:=(s.heap.push LL).push (L9 C s.heap.objs.size)}:=by
  have e1:(s.heap.push LL).get? s.heap.objs.size=some LL:=KD s.heap rfl
  have e2:((s.heap.push LL).push (L9 C s.heap.objs.size)).get? (s.heap.objs.size+1)=some (L9 C s.heap.objs.size):=by
    have:=KD (s.heap.push LL) (o:=L9 C s.heap.objs.size) rfl
    rwa [NS] at this
  have e3:(s.heap.push LL).Ns s.heap.objs.size (fun _=> none):=⟨LL,#[],_,e1,rfl,(fun e he=> absurd he (by simp)),fun _=> rfl⟩
  have I1:=I.laid (a:=s.heap.objs.size) (o:= .own (s.heap.objs.size+1)) (h':=s.heap.push LL) (t':=s.toks) (fun b u q=> Kg _ q) (Kk _) ⟨_,e1⟩
  refine I1.laid (a:=s.heap.objs.size+1) (o:= .ins C s.heap.objs.size []) (t':=s.toks) (fun b u q=> Kg _ q) (Qx (NS _ _)) ?_
  have ne:s.heap.objs.size≠s.heap.objs.size+1:=KN (Mj _)
  refine⟨by rw [aJ ne,bu],Lj _,ne,e2,fun _=> none,(Heap.Ns1.of_empty e3).at fun o q=> Kg _ q,fun _=> LU,fun y hy=> absurd rfl hy⟩
theorem Dk{prog:Program}{w:World}{env:Env}{e:Expr}{f:Str}{pos:Pos}{s:Shared}{Q:Value→Shared→Prop}(hb:attributeBase e f env (eval e env)=eval e env)
    (h:wpAny (model prog w) A (eval e env) (fun o s₁=> wpAny (model prog w) A (getAttr o f true) Q E s₁) E s):wpAny (model prog w) A (eval (.Attribute e f pos) env) Q E s:=
  Attribute_any_ h (by rw [arm_eval_Attribute,hb])
end
def Dm(K:Kb)(ta:TE)(f:Str):TE:=fun σ H Q=> ta σ H fun x H1=> ∃a C dx fs v,x= .ref a∧H1 a=some (.ins C dx fs)∧iB K C∧fo K C f∧fs.lookup f=some v∧Q v H1
def Dp(K:Kb)(ta tv:TE)(f:Str):TS:=fun D σ H=> tv σ H fun y H1=> ta σ H1 fun x H2=> ∃a C dx fs,x= .ref a∧H2 a=some (.ins C dx fs)∧iB K C∧fo K C f∧fs.length < 1000∧
  D.nx σ (au H2 a (.ins C dx (dP f y fs)))
section
variable {X:Cx} {o e value:Expr} {f:Str} {pos pos' tpos:Pos} {ta tv:TE}
theorem Dq(he:PE X e ta)(hb:attributeBase e f X.env (eval e X.env)=eval e X.env):PE X (.Attribute e f pos) (Dm X.K ta f):=by
  intro pins s σ H Q I h
  refine Dk hb (aB (he pins s σ H _ I h) fun u s1 ⟨x,H1,I1,rx,a,C,dx,fs,v,ex,ea,c,n,l,q⟩=> ?_)
  subst ex
  obtain rfl:u=K6 a:=rx
  exact Di I1 ea c n l fun u' s2 I2 ru=> ⟨v,H1,I2,ru,q⟩
theorem Dr(ha:PE X o ta)(hv:PE X value tv)(hs:swapsWith value (some (.Attribute o f pos')) pos.line X.env=pure false):PS X (.Assign [.Attribute o f pos'] value pos) (Dp X.K ta tv f):=by
  intro pins s σ H D I h
  refine plainObj_wpAny_Assign_Attribute (aB (hv pins s σ H _ I h) fun u s1 ⟨y,H1,I1,ry,q⟩=> aB (ha pins s1 σ H1 _ I1 q) fun ov s2 ⟨x,H2,I2,rx,a,C,dx,fs,ex,ea,c,n,l,q2⟩=> ?_) hs
  subst ex
  obtain rfl:ov=K6 a:=rx
  exact Dj I2 ea c n l ry fun s3 I3=> ⟨σ,_,I3,q2⟩
end
section
variable {X:Cx} {pins:List (Addr×Obj)} {σ:St} {H:Hp} {s:Shared} {A:Around} {E:Value→Shared→Prop} {Q:Value→Shared→Prop} {c:Value} {b:Bool}
end
end L2
namespace L2
open PySem PySem.Spec PyProof.Rows
structure bB (k:Nat) (A:Around):Prop where
  hd:A.handled=none
  dp:A.depth+3*k+5 < recursionLimit
  un:A.units+16*k+200 < cLine
theorem bB.mono{j k:Nat}{A:Around}(r:bB k A)(h:j≤k):bB j A:=⟨r.hd,by have:=r.dp;omega,by have:=r.un;omega⟩
theorem bB.deeper{k:Nat}{A:Around}(r:bB (k+1) A)(env:Env):bB k (A.deeper env):=
  ⟨r.hd,by have:=r.dp;show A.depth+1+3*k+5 < _;omega,by have:=r.un;show A.units+3+16*k+200 < _;omega⟩
theorem bB.in1{k:Nat}{A:Around}(r:bB (k+1) A):bB k A.in1:=
  ⟨r.hd,by have:=r.dp;show A.depth+3*k+5 < _;omega,by have:=r.un;show A.units+1+16*k+200 < _;omega⟩
theorem Ds{A:Around}{C:Addr}{us:List Value}{kw:List (Str×Value)}:(A.under (.builtin "type.__call__" ⟨.ref C::us,kw⟩)).depth=A.depth+1:=by
  first | rfl | simp [Pm,Code.weight,Code.isCreation,Code.isGuard,Code.isCaller,QK,Pn,guardIds]
theorem Du{A:Around}{C:Addr}{us:List Value}{kw:List (Str×Value)}:(A.under (.builtin "type.__call__" ⟨.ref C::us,kw⟩)).units=A.units+1:=by
  first | rfl | simp [Pm,Code.cUnits,QK,Pn]
theorem bB.make{k:Nat}{A:Around}(r:bB (k+1) A)(C:Addr)(us:List Value)(kw:List (Str×Value)):bB k (A.under (.builtin "type.__call__" ⟨.ref C::us,kw⟩)):=
  ⟨r.hd,by have:=r.dp;rw [Ds];omega,by have:=r.un;rw [Du];omega⟩
theorem bB.depth{k:Nat}{A:Around}(r:bB k A):A.depth < recursionLimit:=by have:=r.dp;omega
theorem bB.units{k:Nat}{A:Around}(r:bB k A):A.units+64 < cLine:=by have:=r.un;omega
theorem bB.units0{k:Nat}{A:Around}(r:bB k A):A.units < cLine:=by have:=r.un;omega
def vU:TA:=fun _ H Q=> Q [] H
def vV(ta:TE)(tr:TA):TA:=fun σ H Q=> ta σ H fun x H1=> tr σ H1 fun xs H2=> Q (x::xs) H2
section
variable {X:Cx} {e:Expr} {es:List Expr} {te:TE} {t:TA} {pos:Pos}
theorem cm:PA X [] vU:=fun _ _ _ _ H Q I h=> N9 ⟨[],H,I,.nil,h⟩
theorem bC(ha:PE X e te)(hr:PA X es t)(hs:starEach (e::es) X.env=(false,eval e X.env)::starEach es X.env:=by rfl):PA X (e::es) (vV te t):=by
  intro pos pins s σ H Q I h
  rw [hs]
  show wpAny _ _ (spliced ((false,eval e X.env)::backTo pos (starEach es X.env))) _ _ s
  refine Ng (aB (ha pins s σ H _ I h) fun u s1 ⟨x,H1,I1,r1,q1⟩=> ?_)
  exact aB (hr pos pins s1 σ H1 _ I1 q1) fun us s2 uu41=> by obtain⟨xs,H2,I2,r2,q2⟩:=uu41;exact⟨x::xs,H2,I2,.cons r1 r2,q2⟩
def vW(t:TA):TE:=fun σ H Q=> t σ H fun xs H1=> xs.length≤sizeLine∧∀p,H1 p=none→Q (.ref p) (au H1 p (.tup xs))
def vX(t:TA):TE:=fun σ H Q=> t σ H fun xs H1=> xs.length≤sizeLine∧∀p,H1 p=none→Q (.ref p) (au H1 p (.lst xs))
theorem vY{x1}(h:PA X es t):PE X (.Tuple es x1 pos) (vW t):=by
  intro pins s σ H Q I hq
  refine wpAny_Tuple_spliced (aB (h pos pins s σ H _ I hq) fun us s1 ⟨xs,H1,I1,r,z,q⟩=> ⟨by rw [←r.length];exact z,?_⟩)
  have hf:H1 s1.heap.objs.size=none:=I1.hok.fresh (Kk _)
  refine⟨.ref s1.heap.objs.size,au H1 s1.heap.objs.size (.tup xs),I1.laid (t':=s1.toks) (fun b u e=> Kg _ e) (Kk _) ?_,rfl,q _ hf⟩
  exact⟨z,us,r,⟨_,KD _ rfl,rfl,_,rfl⟩⟩
theorem vZ(h:PA X es t):PE X (.List es pos) (vX t):=by
  intro pins s σ H Q I hq
  refine wpAny_List_spliced (aB (h pos pins s σ H _ I hq) fun us s1 ⟨xs,H1,I1,r,z,q⟩=> ⟨by rw [←r.length];exact z,?_⟩)
  have hf:H1 s1.heap.objs.size=none:=I1.hok.fresh (Kk _)
  refine⟨.ref s1.heap.objs.size,au H1 s1.heap.objs.size (.lst xs),I1.laid (t':=s1.toks) (fun b u e=> Kg _ e) (Kk _) ?_,rfl,q _ hf⟩
  exact⟨z,us,0,r,KD _ rfl⟩
end
abbrev Sp:=List V→Hp→VK→XK→Prop
abbrev eL:=List Env→Hp→Shared→XK→Value→Shared→Prop
structure gN (P:Program) (w:World) (K:Kb) (mg:Str→Option Value) (base:Heap) (A:Around) (outer:List Env) (s:Shared) (H:Hp):Prop where
  frames:A.frames=some outer
  mod:Mod K mg base
  bs:∀b o,base.get? b=some o→s.heap.get? b=some o∧H b=none
  bsz:base.objs.size≤s.heap.objs.size
  funs:s.heap.FunFrames base outer
  frf:∀b∈fm outer,H b=none
  hok:bT P w H s.heap
  bare:AllBare s.gens
def CE(outer:List Env)(P:Program)(w:World)(H:Hp)(s:Shared)(Q:VK)(u:Value)(s':Shared):Prop:=
  ∃v H',s'.os=s.os∧AllBare s'.gens∧Un (fm outer) [] H H' s.heap s'.heap∧bT P w H' s'.heap∧aE v u∧Q v H'
def CR(CX:eL)(outer:List Env)(P:Program)(w:World)(H:Hp)(s:Shared)(Q:VK)(E:XK)(r:Result)(s':Shared):Prop:=
  match r with
  | .ok (.ret u)=> CE outer P w H s Q u s'
  | .ok _=> False
  | .error e=> CX outer H s E e s'
structure aL (P:Program) (w:World) (K:Kb) (mg:Str→Option Value) (base:Heap) (CX:eL) (k:Nat) (f:Addr) (fd:FuncData) (ps:List Str) (sp:Sp):Prop where
  len:∀vs H Q E,sp vs H Q E→vs.length=ps.length
  run:∀(A:Around)(outer:List Env)(s:Shared)(H:Hp)(args:Args)(us:List Value)(vs:List V)(Q:VK)(E:XK),bB k A→gN P w K mg base A outer s H→BindsTo s fd args (ps.zip us)→aF vs us→sp vs H Q E→
    codeAny (model P w) A (.call (.ref f) args) (CR CX outer P w H s Q E) s
theorem aL.imp{P:Program}{w:World}{K:Kb}{mg:Str→Option Value}{base:Heap}{CX:eL}{k:Nat}{f:Addr}{fd:FuncData}{ps:List Str}{sp sp':Sp}(F:aL P w K mg base CX k f fd ps sp)
    (h:∀vs H Q E,sp' vs H Q E→sp vs H Q E):aL P w K mg base CX k f fd ps sp':=
  ⟨fun vs H Q E q=> F.len vs H Q E (h _ _ _ _ q),fun A outer s H args us vs Q E hr he hb hv hs=> F.run A outer s H args us vs Q E hr he hb hv (h _ _ _ _ hs)⟩
theorem gN.make{P:Program}{w:World}{K:Kb}{mg:Str→Option Value}{base:Heap}{A:Around}{outer:List Env}{s:Shared}{H:Hp}(e:gN P w K mg base A outer s H)(C:Addr)(us:List Value)(kw:List (Str×Value)):
    gN P w K mg base (A.under (.builtin "type.__call__" ⟨.ref C::us,kw⟩)) outer s H:=⟨by first | exact e.frames | (simpa [Pm,Code.envs,Pn,pushEnvs] using e.frames),e.mod,e.bs,e.bsz,e.funs,e.frf,e.hok,e.bare⟩
theorem gN.in1{P:Program}{w:World}{K:Kb}{mg:Str→Option Value}{base:Heap}{A:Around}{outer:List Env}{s:Shared}{H:Hp}(e:gN P w K mg base A outer s H):
    gN P w K mg base A.in1 outer s H:=⟨e.frames,e.mod,e.bs,e.bsz,e.funs,e.frf,e.hok,e.bare⟩
section
variable {X:Cx} {pins:List (Addr×Obj)} {σ:St} {H:Hp} {s s':Shared}
theorem af.env0(I:af X pins σ H s):gN X.prog X.w X.K X.mg X.base X.A X.stack s H:=
  ⟨I.ok.frames,I.ok.mod,I.bs,KS I.ok.bsz I.sz,I.stack,I.stkFree,I.hok,I.bare⟩
theorem af.after{Q:VK}{u:Value}(I:af X pins σ H s)(h:CE X.stack X.prog X.w H s Q u s'):EP X pins σ Q u s':=by
  obtain⟨v,H',os,bare,un,hok,r,q⟩:=h
  obtain⟨hh,g,d,t,os'⟩:=s'
  obtain rfl:os'=s.os:=os
  exact⟨v,H',I.call (h':=hh) (g':=g) (d':=d) (t':=t) (ch:=[]) un hok bare (fun b z=> absurd z (by simp)),r,q⟩
end
def qx(sp:Sp)(dvs:List V)(E:XK)(t:TA):TE:=fun σ H Q=> t σ H fun vs H1=> sp (vs++dvs) H1 Q E
def v5(C:Addr)(sp:Sp)(dvs:List V)(E:XK)(t:TA):TE:=fun σ H Q=> t σ H fun vs H1=> ∀x dx,H1 x=none→H1 dx=none→dx≠x→
  sp (.ref x::(vs++dvs)) (au (au H1 dx (.own x)) x (.ins C dx [])) (fun v H2=> v= .non∧Q (.ref x) H2) E
def aQ(K:Kb)(fd:FuncData)(ps:List Str)(ds:List Value):Prop:=
  ∀(s:Shared)(us:List Value),K.In s.heap→(us++ds).length=ps.length→BindsTo s fd ⟨us,[]⟩ (ps.zip (us++ds))
theorem aQ.all{K:Kb}{fd:FuncData}{ps:List Str}(h:∀us:List Value,us.length=ps.length→bindArgs fd ⟨us,[]⟩=pure (ps.zip us)):aQ K fd ps []:=fun s us _ hl=> by
  rw [LH] at hl⊢
  exact .of_eq (h us hl)
def mq(CX:eL)(X:Cx)(E:XK):Prop:=∀(pins:List (Addr×Obj))(σ:St)(H:Hp)(s:Shared)(e:Value)(s':Shared),af X pins σ H s→CX X.stack H s E e s'→X.xe e s'
section
variable {X:Cx} {CX:eL} {k:Nat} {f C:Addr} {fd:FuncData} {ps:List Str} {sp:Sp} {dvs:List V} {ds:List Value} {E:XK} {x m:Str} {p pos apos:Pos} {e o:Expr} {es:List Expr} {ta:TE} {t:TA}
theorem Dv{pins:List (Addr×Obj)}{σ:St}{H:Hp}{s:Shared}{Q:VK}{us:List Value}{vs:List V}(F:aL X.prog X.w X.K X.mg X.base CX k f fd ps sp)(hr:bB k X.A)(hb:aQ X.K fd ps ds)(hd:aF dvs ds)(hx:mq CX X E)
    (I:af X pins σ H s)(r:aF vs us)(h:sp (vs++dvs) H Q E):wpAny (model X.prog X.w) X.A (call (.ref f) us) (EP X pins σ Q) X.xe s:=by
  have r2:aF (vs++dvs) (us++ds):=r.append hd
  have hl:(us++ds).length=ps.length:=by rw [←r2.length];exact F.len _ _ _ _ h
  refine wpAny_call (codeAny_mono (F.run X.A X.stack s H ⟨us,[]⟩ (us++ds) (vs++dvs) Q E hr I.env0 (hb s us I.kIn hl) r2 h) fun r s' hq=> ?_)
  cases r with
  | error e=> exact hx pins σ H s e s' I hq
  | ok fl=>
    cases fl with
    | ret u=> exact I.after hq
    | next=> exact LJ hq
    | brk=> exact LJ hq
    | cont=> exact LJ hq
theorem aq(F:aL X.prog X.w X.K X.mg X.base CX k f fd ps sp)(hr:bB k X.A)(hg:Gl X x)(hm:X.mg x=some (.ref f))(hk:Kn X.K (.ref f)=true)(hb:aQ X.K fd ps ds)(hd:aF dvs ds)(hx:mq CX X E)
    (ha:PA X (e::es) t)(hdb:(x==("__debug__":Str))=false:=by decide)(he:starEach (e::es) X.env=(false,eval e X.env)::starEach es X.env:=by rfl)(hpl:(backTo pos (starEach es X.env)).any (·.1)=false:=by rfl):
    PE X (.Call (.Name x p) (e::es) [] pos) (qx sp dvs E t):=by
  intro pins s σ H Q I h
  refine wpAny_Call_Name_kw (nJ I hg hm ?_ hdb)
  refine Po (h₀:=X.base) I.ok.mod.kin hk (aB (ha pos pins s σ H _ I h) fun us s1 ⟨vs,H1,I1,r,q⟩=> ⟨I1.kIn,?_⟩) he hpl
  exact Dv F hr hb hd hx I1 r q
structure Mk (K:Kb) (C f:Addr):Prop where
  makes:OG K C=true
  init:Lu K (.ref C) "__init__"=some (some (.ref f))
  fn:Qy K (.ref f)=true
  kp:Kn K (.ref C)=true
theorem Dw{pins:List (Addr×Obj)}{σ:St}{H:Hp}{s:Shared}{Q:VK}{us:List Value}{vs:List V}(M:Mk X.K C f)(F:aL X.prog X.w X.K X.mg X.base CX k f fd ps sp)(hr:bB (k+1) X.A)(hb:aQ X.K fd ps ds)(hd:aF dvs ds)
    (hx:mq CX X E)(I:af X pins σ H s)(r:aF vs us)
    (h:∀x dx,H x=none→H dx=none→dx≠x→sp (.ref x::(vs++dvs)) (au (au H dx (.own x)) x (.ins C dx [])) (fun v H2=> v= .non∧Q (.ref x) H2) E):
    wpAny (model X.prog X.w) X.A (call (.ref C) us) (EP X pins σ Q) X.xe s:=by
  have hq:=h (s.heap.objs.size+1) s.heap.objs.size (I.hok.fresh (M7 _)) (I.hok.fresh (Kk _)) (KN (Mj _))
  have I2:=af.made (C:=C) I
  have r2:aF (V.ref (s.heap.objs.size+1)::(vs++dvs)) (K6 (s.heap.objs.size+1)::(us++ds)):= .cons rfl (r.append hd)
  have hl:(K6 (s.heap.objs.size+1)::us++ds).length=ps.length:=by
    have e:=r2.length
    rw [F.len _ _ _ _ hq] at e
    exact e.symm
  refine wpAny_call (Dg (f:=f) I.kIn M.makes M.init (beq_iff_eq.mp M.fn) (codeAny_mono (F.run _ X.stack _ _ ⟨K6 (s.heap.objs.size+1)::us,[]⟩ (K6 (s.heap.objs.size+1)::(us++ds)) _ _ E (hr.make C us [])
    (I2.env0.make C us []) (hb _ (K6 (s.heap.objs.size+1)::us) I2.kIn hl) r2 hq) fun r s' hq'=> ?_))
  cases r with
  | error e=> exact hx pins σ _ _ e s' I2 hq'
  | ok fl=>
    cases fl with
    | ret u=>
      obtain⟨v,H',I3,rv,ev,q3⟩:=I2.after hq'
      subst ev
      exact⟨rv,⟨V.ref (s.heap.objs.size+1),H',I3,rfl,q3⟩⟩
    | next=> exact LJ hq'
    | brk=> exact LJ hq'
    | cont=> exact LJ hq'
theorem qy(M:Mk X.K C f)(F:aL X.prog X.w X.K X.mg X.base CX k f fd ps sp)(hr:bB (k+1) X.A)(hg:Gl X x)(hm:X.mg x=some (.ref C))(hb:aQ X.K fd ps ds)(hd:aF dvs ds)(hx:mq CX X E)
    (ha:PA X (e::es) t)(hdb:(x==("__debug__":Str))=false:=by decide)(he:starEach (e::es) X.env=(false,eval e X.env)::starEach es X.env:=by rfl)(hpl:(backTo pos (starEach es X.env)).any (·.1)=false:=by rfl):
    PE X (.Call (.Name x p) (e::es) [] pos) (v5 C sp dvs E t):=by
  intro pins s σ H Q I h
  refine wpAny_Call_Name_kw (nJ I hg hm ?_ hdb)
  refine Po (h₀:=X.base) I.ok.mod.kin M.kp (aB (ha pos pins s σ H _ I h) fun us s1 ⟨vs,H1,I1,r,q⟩=> ⟨I1.kIn,?_⟩) he hpl
  exact Dw M F hr hb hd hx I1 r q
end
section
variable {X:Cx} {CX:eL} {k:Nat} {f C:Addr} {fd:FuncData} {ps ks:List Str} {sp:Sp} {E:XK} {x m:Str} {p pos apos kpos:Pos} {e o:Expr} {es:List Expr} {kws:List Keyword} {te ta:TE} {t tk:TA} {nm:Option Str}
variable {g:List Value→List Value→List Value} {gV:List V→List V→List V}
end
structure aY (N P:List Str) (sc:Scope):Prop where
  kind:sc.kind= .function
  co:sc.isCoroutine=false
  gen:sc.isGenerator=false
  nd:N.Nodup
  pre:N.take P.length=P
  par:∀x∈P,sc.names.lookup x=some .local∨sc.names.lookup x=some .cell
  nofree:∀y∈sc.names,y.2≠ .free
theorem v7{kindOf:Str→Option NameKind}{x:Str}:∀{binds:List (Str×Value)}{m:Str→Option Value},(∀v,(x,v)∉ binds)→bindL kindOf binds m x=m x
  | [],_,_=> rfl
  | (n,v)::r,m,h=> by
    unfold bindL
    rw [v7 fun w hw=> h w (K1 _ hw)]
    split
    · have:x≠n:=by rintro rfl;exact h v K3
      simp [this]
    · rfl
theorem v8{kindOf:Str→Option NameKind}{x:Str}:∀{binds:List (Str×Value)}{m:Str→Option Value},(∀v,(x,v)∉ binds)→bindC kindOf binds m x=m x
  | [],_,_=> rfl
  | (n,v)::r,m,h=> by
    unfold bindC
    rw [v8 fun w hw=> h w (K1 _ hw)]
    split
    · rfl
    · have:x≠n:=by rintro rfl;exact h v K3
      simp [this]
theorem v9{kindOf:Str→Option NameKind}{x:Str}{v:Value}:∀{P:List Str}{vs:List Value}{i:Nat}{m:Str→Option Value},P.Nodup→P[i]?=some x→vs[i]?=some v→kindOf x=some .local→
    bindL kindOf (P.zip vs) m x=some v
  | [],_,_,_,_,h,_,_=> by simp at h
  | _::_,[],_,_,_,_,h,_=> by simp at h
  | p::P,w::vs,0,m,nd,h1,h2,hk=> by
    simp at h1 h2;subst h1;subst h2
    show bindL kindOf ((p,w)::P.zip vs) m p=_
    unfold bindL
    rw [v7 fun v hv=> (Mc.mp nd).1 (OH hv).1,if_pos hk]
    simp
  | p::P,w::vs,i+1,m,nd,h1,h2,hk=> by
    show bindL kindOf ((p,w)::P.zip vs) m x=_
    unfold bindL
    exact v9 (i:=i) (Mc.mp nd).2 (by simpa using h1) (by simpa using h2) hk
theorem wa{kindOf:Str→Option NameKind}{x:Str}{v:Value}:∀{P:List Str}{vs:List Value}{i:Nat}{m:Str→Option Value},P.Nodup→P[i]?=some x→vs[i]?=some v→kindOf x≠some .local→
    bindC kindOf (P.zip vs) m x=some v
  | [],_,_,_,_,h,_,_=> by simp at h
  | _::_,[],_,_,_,_,h,_=> by simp at h
  | p::P,w::vs,0,m,nd,h1,h2,hk=> by
    simp at h1 h2;subst h1;subst h2
    show bindC kindOf ((p,w)::P.zip vs) m p=_
    unfold bindC
    rw [v8 fun v hv=> (Mc.mp nd).1 (OH hv).1,if_neg hk]
    simp
  | p::P,w::vs,i+1,m,nd,h1,h2,hk=> by
    show bindC kindOf ((p,w)::P.zip vs) m x=_
    unfold bindC
    exact wa (i:=i) (Mc.mp nd).2 (by simpa using h1) (by simpa using h2) hk
def start(N:List Str)(vs:List V):St:=vs.map some++Kx (N.length - vs.length) none
def iC(CX:eL)(P:Program)(w:World)(K:Kb)(mg:Str→Option Value)(base:Heap)(N:List Str)(qual:Str)(scope:Scope)(f:Addr)(cd:Value)(A:Around)(outer:List Env)(s:Shared)(H:Hp)(E:XK):Cx where
  prog:=P
  w:=w
  K:=K
  mg:=mg
  base:=base
  A:=A.deeper (envOfC qual scope s.heap.objs.size f cd)
  N:=N
  s₀:=s
  H₀:=H
  env:=envOfC qual scope s.heap.objs.size f cd
  outer:=outer
  stack:=envOfC qual scope s.heap.objs.size f cd::outer
  ex:=[]
  calm:=true
  fn:=fun _=> true
  pn:=[]
  xe:=fun e s'=> wpAny (model P w) (A.deeper (envOfC qual scope s.heap.objs.size f cd)) (leaving (envOfC qual scope s.heap.objs.size f cd) e) (fun _ s''=> CX outer H s E e s'') (fun e' s''=> CX outer H s E e' s'') s'
theorem wb{sc:Scope}{n:Nat}{x:Str}(h:sc.names.lookup x=some .cell):∃c,(cellsFrom n sc.names []).lookup x=some c:=by
  have q:=ON sc.names n [] (.inl h)
  exact Option.isSome_iff_exists.mp q
theorem Dx{CX:eL}{P:Program}{w:World}{K:Kb}{mg:Str→Option Value}{base:Heap}{N ps:List Str}{qual:Str}{scope:Scope}{f:Addr}{cd:Value}{A:Around}{outer:List Env}{s s1:Shared}{H:Hp}{E:XK}{us:List Value}{vs:List V}
    (S:aY N ps scope)(hd:A.handled=none)(e0:gN P w K mg base A outer s H)(hl:vs.length=ps.length)(r:aF vs us)
    (x:InCallC s s.heap.objs.size (bindL (envOfC qual scope s.heap.objs.size f cd).kindOf (ps.zip us) fun _=> none) (cellsFrom (s.heap.objs.size+1) scope.names []) (bindC (envOfC qual scope s.heap.objs.size f cd).kindOf (ps.zip us) fun _=> none) s1):
    af (iC CX P w K mg base N qual scope f cd A outer s H E) [] (start N vs) H s1:=by
  have hpl:ps.length≤N.length:=by have:=congrArg OO S.pre;rw [Lk] at this;omega
  obtain⟨h1,tk,rfl,hk⟩:=x.done
  have noA:∀b:Addr,b ∉ (iC CX P w K mg base N qual scope f cd A outer s H E).ex:=fun b z=> absurd (show b∈([]:List Addr) from z) (by simp)
  refine⟨⟨e0.mod,S.kind,rfl,rfl,Kk _,fun y z c h1 h2=> ?_,fun y hy=> ?_,fun y c _ h=> ?_,fun _=> hd,Around.frames_deeper e0.frames,.inr ⟨rfl,rfl⟩,fun b z=> absurd z (noA b),e0.bs,e0.bsz,fun b _ _=> noA b,fun b z=> absurd z (noA b),e0.funs,e0.frf⟩,
    rfl,e0.bare,Un.kept hk,⟨_,x.toInCall.ns,fun i y v h1 h2 h3=> ?_⟩,fun y c h=> ⟨_,x.cell y c h⟩,e0.hok.fresh (Kk _),fun y c h=> ?_,fun p hp=> absurd (show p∈([]:List (Addr×Obj)) from hp) (by simp),e0.hok.kept hk,?_⟩
  · exact name_of_addr x.apart (Mh h1) (Mh h2)
  · have hy:scope.names.lookup y=some .cell∨scope.names.lookup y=some .free:=hy
    rcases hy with hy | hy
    · exact wb hy
    · exact absurd rfl (S.nofree _ (Mh hy))
  · exact Mz (x.above y c (Mh h))
  · have hi:i < vs.length:=by
      unfold start at h2
      by_cases hi:i < vs.length
      · exact hi
      · rw [L0 (by simpa using hi)] at h2
        rw [ME] at h2
        split at h2 <;> cases h2
    have ha:vs[i]?=some v:=by
      unfold start at h2
      rw [L7 (by simpa using hi),KQ] at h2
      cases e:vs[i]? with
      | none=> rw [e] at h2;cases h2
      | some a=> rw [e] at h2;cases h2;rfl
    obtain⟨u,hu,rv⟩:=r.get ha
    have hp:ps[i]?=some y:=by
      rw [←S.pre,List.getElem?_take_of_lt (by omega)];exact h1
    have ndP:ps.Nodup:=by rw [←S.pre];exact S.nd.sublist (List.take_sublist _ _)
    refine⟨u,rv,?_⟩
    rcases S.par y (KW hp) with k | k
    · exact .inl ⟨k,v9 ndP hp hu k⟩
    · obtain⟨c,e⟩:=wb (n:=s.heap.objs.size+1) k
      refine .inr ⟨.inl k,c,e,?_⟩
      have q:=x.cell y c e
      rw [wa ndP hp hu (by show scope.names.lookup y≠_;rw [k];decide)] at q
      exact q
  · exact e0.hok.fresh (Mz (x.above y c (Mh h)))
  · unfold start
    show _=N.length
    rw [KR,Kd,L4]
    omega
theorem Dy{CX:eL}{P:Program}{w:World}{K:Kb}{mg:Str→Option Value}{base:Heap}{k:Nat}{f:Addr}{name qual:Str}{params:Arguments}{body:List Stmt}{scope:Scope}{dV kV doc pm cdv ct oc:Value}{an od:Option Addr}
    {osl:Array (Option Value)}{N ps:List Str}{sp:Sp}(lk:K.lookup f=some ⟨oc,od,.func (Ke name qual params body scope dV kV doc pm an cdv ct),osl⟩)(hcd:Kp K cdv qual=true)(S:aY N ps scope)
    (len:∀vs H Q E,sp vs H Q E→vs.length=ps.length)
    (hbody:∀(A:Around) (outer:List Env) (s:Shared) (H:Hp) (vs:List V) (Q:VK) (E:XK),bB k (A.deeper (envOfC qual scope s.heap.objs.size f cdv))→sp vs H Q E→
      ∃t,bQ (iC CX P w K mg base N qual scope f cdv A outer s H E) body t∧t {nx:=fun _ H'=> Q .non H',rt:=Q} (start N vs) H):
    aL P w K mg base CX (k+1) f (Ke name qual params body scope dV kV doc pm an cdv ct) ps sp:=by
  refine⟨len,fun A outer s H args us vs Q E hr e0 hb r hsp=> ?_⟩
  have hl:=len _ _ _ _ hsp
  have KX:K.In s.heap:=e0.mod.kin.keeps fun b o e=> (e0.bs b o e).1
  have lim:s.heap.NoLimit:=e0.mod.nolimit.keeps fun b o e=> (e0.bs b o e).1
  have hkind:∀y∈ps.zip us,scope.names.lookup y.1=some .local∨(scope.names.lookup y.1=some .cell∧((cellsFrom (s.heap.objs.size+1) scope.names []).lookup y.1).isSome=true):=fun uu46 hy=> by
    obtain⟨n,v⟩:=uu46
    rcases S.par n (OH hy).1 with q | q
    · exact .inl q
    · exact .inr ⟨q,ON _ _ _ (.inl q)⟩
  refine codeAny_call_function hr.depth (KX _ _ lk) rfl S.co S.gen rfl (PySem.W.codeRec_of KX hcd) (hb _ _ _ _ ?_)
  refine wpAny_newFunctionEnv_cells S.kind hkind fun env he s1 x=> ?_
  subst he
  refine⟨lim.keeps x.toInCall.keep,codeAny_func ?_⟩
  obtain⟨t,ht,hq⟩:=hbody A outer s H vs Q E (hr.deeper _) hsp
  have I:af (iC CX P w K mg base N qual scope f cdv A outer s H E) [] (start N vs) H s1:=Dx S hr.hd e0 hl r x
  refine wpAny_mono (ht [] s1 (start N vs) H _ I hq) (fun fl s' hs=> ?_) fun e s' hs=> hs
  have fin:∀{σ':St}{H':Hp}{v:V}{u:Value},af (iC CX P w K mg base N qual scope f cdv A outer s H E) [] σ' H' s'→aE v u→Q v H'→CE outer P w H s Q u s':=
    fun{σ' H' v u} J rv q=> ⟨v,H',J.os,J.bare,J.base,J.hok,rv,q⟩
  cases fl with
  | ret u=>
    obtain⟨v,σ',H',J,rv,q⟩:=hs
    exact fin J rv q
  | next=>
    obtain⟨σ',H',J,q⟩:=hs
    exact fin (v:=V.non) (u:=Mm) J rfl q
  | brk=>
    obtain⟨_,_,_,q⟩:=hs
    exact LJ q
  | cont=>
    obtain⟨_,_,_,q⟩:=hs
    exact LJ q
end L2
namespace L2
open PySem PySem.Spec PyProof.Rows
section
variable {X:Cx} {x:Str} {p pos:Pos} {e:Expr} {es:List Expr} {t:TA} {id T:String} {r:List V→Hp→VK→Prop}
def nW(r:List V→Hp→VK→Prop)(t:TA):TE:=fun σ H Q=> t σ H fun vs H1=> r vs H1 Q
theorem bW(hc:dO X (.builtin id) r)(hg:Gl X x)(hm:X.mg x=none)(hv:bootBuiltins x=some (.builtin id))(ha:PA X (e::es) t)(hn:x≠"__name__":=by decide)(hdb:(x==("__debug__":Str))=false:=by decide)
    (he:starEach (e::es) X.env=(false,eval e X.env)::starEach es X.env:=by rfl)(hpl:(backTo pos (starEach es X.env)).any (·.1)=false:=by rfl):PE X (.Call (.Name x p) (e::es) [] pos) (nW r t):=by
  intro pins s σ H Q I h
  refine wpAny_Call_Name_kw (lX I hg hm hv ?_ hn hdb)
  exact PyProof.Rows.callWith_builtin1 (aB (ha pos pins s σ H _ I h) fun us s1 uu47=> by obtain⟨vs,H1,I1,r1,q1⟩:=uu47;exact hc pins s1 σ H1 vs us Q I1 r1 q1) he hpl
theorem eM(hc:dO X (.type T) r)(hg:Gl X x)(hm:X.mg x=none)(hv:bootBuiltins x=some (.type T))(ha:PA X (e::es) t)(hn:x≠"__name__":=by decide)(hdb:(x==("__debug__":Str))=false:=by decide)
    (he:starEach (e::es) X.env=(false,eval e X.env)::starEach es X.env:=by rfl)(hpl:(backTo pos (starEach es X.env)).any (·.1)=false:=by rfl):PE X (.Call (.Name x p) (e::es) [] pos) (nW r t):=by
  intro pins s σ H Q I h
  refine wpAny_Call_Name_kw (lX I hg hm hv ?_ hn hdb)
  exact MX (aB (ha pos pins s σ H _ I h) fun us s1 uu48=> by obtain⟨vs,H1,I1,r1,q1⟩:=uu48;exact hc pins s1 σ H1 vs us Q I1 r1 q1) he hpl
end
end L2
namespace HT
open PySem PyProof.Rows
theorem eqAt_int(A:Around)(s:Shared)(a:Int)(t:Tok)(c:Int)(u:Tok):∃e,SeqAt.EqAt A s (.int a t) (.int c u) e∧(e=true↔a=c):=
  ⟨(a==c),SeqAt.EqAt.int_int a t c u,by simp⟩
theorem rcLt_int(A:Around)(s:Shared)(a:Int)(t:Tok)(c:Int)(u:Tok)(prog:Program)(w:World)(E:Value→Shared→Prop)(Q:Value→Shared→Prop)(h:Q (.bool (decide (a < c))) s):
    wpAny (model prog w) A (richCompare .Lt (.int a t) (.int c u)) Q E s:=
  (PyProof.Rows.lt_int h:wpAny (model prog w) A (compareOp .Lt (.int a t) (.int c u)) Q E s)
section
open PySem.SeqAt
open PySem.AutoSeq1 (wpAny_loadPart')
open PySem.MeetsSeq PySem.MeetsSeq2 PySem.MeetsSeq3
end
section
variable {prog:Program} {w:World} {A:Around} {E:Value→Shared→Prop} {s:Shared}
theorem cat_tup{t b:Addr}{vs ws:List Value}{Q:Value→Shared→Prop}(ht:IsTup s.heap t vs.toArray)(hb:IsTup s.heap b ws.toArray)(hv:vs≠[])
    (h1:ws=[]→Q (.ref t) s)(h2:ws≠[]→Q (.ref s.heap.objs.size) {s with heap:=s.heap.push {cls:= .type "tuple",data:= .seq (vs++ws).toArray}})
    (hsz:vs.length+ws.length≤sizeLine):wpAny (model prog w) A (binaryOp .Add (.ref t) (.ref b)) Q E s:=by
  obtain⟨⟨cls,dd,data,sl⟩,ho,hc,n,hd⟩:=id ht
  obtain⟨⟨cls2,dd2,data2,sl2⟩,ho2,hc2,n2,hd2⟩:=id hb
  simp only at hc hd hc2 hd2
  subst hc hd hc2 hd2
  have e:vs.toArray++ws.toArray=(vs++ws).toArray:=by simp
  by_cases hw:ws=[]
  · exact concat_meets ⟨_,ho,rfl⟩ ⟨_,ho2,rfl⟩ noFill_tuple_add seq_tuple_add Nw Nn (Nh _ _)
      (tuple_addW1 t b vs.toArray ws.toArray n n2 dd dd2 sl sl2 (by simpa using hv) (by simp [hw])) ⟨ho,ho2,h1 hw⟩
  · refine concat_meets ⟨_,ho,rfl⟩ ⟨_,ho2,rfl⟩ noFill_tuple_add seq_tuple_add Nw Nn (Nh _ _)
      (tuple_addW2 t b vs.toArray ws.toArray n n2 dd dd2 sl sl2 (by simpa using hv) (by simpa using hw) (by rw [Kt,Kt];exact hsz)) ⟨ho,ho2,?_⟩
    rw [e]
    exact h2 hw
def sIx(n d:Nat):Option Int→Nat
  | none=> d
  | some v=> if v < 0 then(v+(n:Int)).toNat else min v.toNat n
theorem nX(n d:Nat):sIx n d none=d:=rfl
theorem sIx_nat(n d k:Nat):sIx n d (some (k:Int))=min k n:=by
  show(if (k:Int) < 0 then((k:Int)+(n:Int)).toNat else min (k:Int).toNat n)=min k n
  rw [if_neg (by omega),LW]
theorem Dz(n d:Nat)(hd:d≤n)(o:Option Int):sIx n d o≤n:=by
  cases o with
  | none=> exact hd
  | some v=>
    show(if v < 0 then(v+(n:Int)).toNat else min v.toNat n)≤n
    by_cases hv:v < 0
    · rw [if_pos hv];omega
    · rw [if_neg hv];exact P1 _ _
theorem wc(v:Int)(n d:Nat):(if v < 0 then max (v+(n:Int)) 0 else min v (n:Int))=((sIx n d (some v):Nat):Int):=by
  show(if v < 0 then max (v+(n:Int)) 0 else min v (n:Int))=(((if v < 0 then(v+(n:Int)).toNat else min v.toNat n):Nat):Int)
  by_cases hv:v < 0
  · simp only [if_pos hv];omega
  · simp only [if_neg hv];omega
theorem DC(lo hi:Option Int)(n:Nat):M9 lo hi 1 (n:Int)=(((sIx n 0 lo:Nat):Int),((sIx n n hi:Nat):Int)):=by
  have h1:¬((1:Int) < 0):=by omega
  unfold M9
  simp only [h1,if_false]
  refine Prod.ext ?_ ?_
  · cases lo with
    | none=> rfl
    | some v=> exact wc v n 0
  · cases hi with
    | none=> rfl
    | some v=> exact wc v n n
theorem DD(i j:Nat):Mu (i:Int) (j:Int) 1=j - i:=by
  unfold Mu
  have h1:(1:Int) > 0:=by omega
  simp only [h1,if_true,Int.ediv_one]
  split <;> omega
theorem we{v:Value}{o:Option Int}{Q:Option Int→Shared→Prop}(p:IsPart v o)(h:Q o s):wpAny (model prog w) A (Builtin.Slice.slicePartIndex v) Q E s:=by
  cases p with
  | none=> exact slicePart_none h
  | int i t=> exact slicePart_int h
theorem sliceApplied_gen{sl:Addr}{vl vu:Value}{lo hi:Option Int}{n:Nat}{Q:Int×Int×Nat→Shared→Prop}(hs:s.heap.IsSliceOf sl vl vu .none)(pl:IsPart vl lo)(pu:IsPart vu hi)
    (h:Q (((sIx n 0 lo:Nat):Int),1,sIx n n hi - sIx n 0 lo) s):wpAny (model prog w) A (N2 (.ref sl) (pure (n:Int))) Q E s:=by
  obtain⟨os,hos,hcs,hds⟩:=id hs
  unfold N2 Builtin.Slice.sliceFields
  refine wpAny_bind (wpAny_bind (wpAny_field hos hds (x:=vl) rfl (wpAny_bind (wpAny_field hos hds (x:=vu) rfl (wpAny_bind (wpAny_field hos hds (x:= .none) rfl (wpAny_pure ?_)))))))
  refine wpAny_bind (slicePart_none ?_)
  show wpAny _ _ (if ((1:Int)==0)=true then _ else _) _ _ s
  rw [if_neg (by decide)]
  refine wpAny_bind (we pl (wpAny_bind (we pu (wpAny_bind (wpAny_pure ?_)))))
  show wpAny _ _ (match M9 lo hi 1 (n:Int) with | (lo,hi)=> pure (lo,(1:Int),Mu lo hi 1)) _ _ s
  rw [DC lo hi n]
  show wpAny _ _ (pure (((sIx n 0 lo:Nat):Int),(1:Int),Mu ((sIx n 0 lo:Nat):Int) ((sIx n n hi:Nat):Int) 1)) _ _ s
  rw [DD]
  exact wpAny_pure h
theorem DH(xs:Array Value)(i k:Nat):((Lp k).filterMap fun(m:Nat)=> xs[((i:Int)+(m:Int)*1).toNat]?).toArray=((xs.toList.drop i).take k).toArray:=by
  have e:(fun(m:Nat)=> xs[((i:Int)+(m:Int)*1).toNat]?)=fun m=> xs[i+m]?:=by
    funext m
    have:((i:Int)+(m:Int)*1).toNat=i+m:=by omega
    rw [this]
  rw [e]
  have:=pick_run xs i k
  rw [Pq] at this
  have e2:((fun x=> xs[x]?)∘ fun x=> i+x)=fun m=> xs[i+m]?:=rfl
  rw [e2] at this
  rw [this]
theorem getItem_tuple_cut{t sl:Addr}{items:Array Value}{vl vu:Value}{lo hi:Option Int}{Q:Value→Shared→Prop}(ht:IsTup s.heap t items)(hs:s.heap.IsSliceOf sl vl vu .none)(pl:IsPart vl lo)(pu:IsPart vu hi)
    (hw:¬(sIx items.size 0 lo=0∧sIx items.size items.size hi=items.size))
    (h:Q (.ref s.heap.objs.size) {s with heap:=s.heap.push {cls:= .type "tuple",data:= .seq ((items.toList.drop (sIx items.size 0 lo)).take (sIx items.size items.size hi - sIx items.size 0 lo)).toArray}})
    (hsz:items.size≤sizeLine):wpAny (model prog w) A (getItem (.ref t) (.ref sl)) Q E s:=by
  have htake:sizeOk (.seq ((items.toList.drop (sIx items.size 0 lo)).take (sIx items.size items.size hi - sIx items.size 0 lo)).toArray):=by
    show((items.toList.drop (sIx items.size 0 lo)).take (sIx items.size items.size hi - sIx items.size 0 lo)).toArray.size≤sizeLine
    rw [Kt,Lk,NH,KJ]
    omega
  have hj:sIx items.size items.size hi≤items.size:=Dz _ _ (Kk _) hi
  obtain⟨os,hos,hcs,hds⟩:=id hs
  have hTs:s.TypeIs (.ref sl) "slice":=⟨os,hos,hcs⟩
  unfold getItem
  try with_reducible refine wpAny_holding ?_
  first | refine wpAny_bind (wpAny_pure ?_) | skip
  refine wpAny_bind (wpAny_sequenceKey ht.typeIs (by decide) ?_)
  refine wpAny_bind (wpAny_callSpecial?_slot (name:=Ka "__getitem__") ht.typeIs L8
    (wpAny_call_entry L8 ht.typeIs entry_tuple_getitem ?_ (args_tuple_getitem _ _)))
  show wpAny _ _ (N3 (.ref t) >>=_) _ _ s
  refine wpAny_bind (tupleItemsOf_ ht ?_)
  refine wpAny_bind (wpAny_typeOf hTs ?_)
  rw [if_pos (by decide)]
  refine wpAny_bind (sliceApplied_gen hs pl pu ?_)
  have hno:¬((((sIx items.size 0 lo:Nat):Int)==0 && (1:Int)==1 && (sIx items.size items.size hi - sIx items.size 0 lo)==items.size)=true):=by
    intro q
    rw [Lf,Lf] at q
    have q1:((sIx items.size 0 lo:Nat):Int)=0:=eq_of_beq q.1.1
    have q2:sIx items.size items.size hi - sIx items.size 0 lo=items.size:=eq_of_beq q.2
    exact hw ⟨by omega,by omega⟩
  show wpAny _ _ (if (((sIx items.size 0 lo:Nat):Int)==0 && (1:Int)==1 && (sIx items.size items.size hi - sIx items.size 0 lo)==items.size)=true then _ else _) _ _ s
  rw [if_neg hno,DH]
  first
    | exact wpAny_bind (m:=MA _) (wpAny_newObj_type (wpAny_pure ⟨_,rfl,wpAny_pure h⟩) htake)
    | exact wpAny_bind (m:=MA _) (wpAny_newObj_type (wpAny_bind (wpAny_pure (wpAny_pure ⟨_,rfl,wpAny_pure h⟩))) htake)
    | exact wpAny_bind (wpAny_bind (m:=MA _) (wpAny_newObj_type (wpAny_pure (wpAny_pure ⟨_,rfl,wpAny_pure h⟩)) htake))
    | exact wpAny_bind (wpAny_bind (m:=MA _) (wpAny_newObj_type (wpAny_pure ⟨_,rfl,wpAny_pure h⟩) htake))
end
end HT
namespace L2
open PySem PySem.Spec PyProof.Rows
abbrev TO:=St→Hp→(Option Int→Hp→Prop)→Prop
def PO(X:Cx)(e:Option Expr)(t:TO):Prop:=
  ∀(pins:List (Addr×Obj))(s:Shared)(σ:St)(H:Hp)(Q:Option Int→Hp→Prop),af X pins σ H s→t σ H Q→
    wpAny (model X.prog X.w) X.A (evalPart e X.env) (fun u s'=> ∃o H',af X pins σ H' s'∧IsPart u o∧Q o H') X.xe s
def DI:TO:=fun _ H Q=> Q none H
def DJ(t:TE):TO:=fun σ H Q=> t σ H fun x H1=> ∃i,x= .int i∧Q (some i) H1
theorem DK{ns:List Int}:∀{us:List Value},aF (ns.map V.int) us→IntsAre us ns:=by
  induction ns with
  | nil=> intro us r;rw [Ly] at r;cases r;exact .nil
  | cons n ns ih=>
    intro us r
    rw [Kj] at r
    cases r with
    | cons r1 r2=>
      obtain⟨t,e⟩:=r1
      subst e
      exact .cons n t (ih r2)
section
variable {X:Cx} {e:Expr} {te:TE} {lo hi:Option Expr} {tl th:TO} {pos p2:Pos}
theorem DL:PO X none DI:=by
  intro pins s σ H Q I h
  rw [evalPart_none]
  exact wpAny_pure ⟨none,H,I,.none,h⟩
theorem DM(h:PE X e te):PO X (some e) (DJ te):=by
  intro pins s σ H Q I hw
  rw [evalPart_some]
  refine aB (h pins s σ H _ I hw) fun u s1 ⟨x,H1,I1,r1,q1⟩=> ?_
  obtain⟨i,rfl,q⟩:=q1
  obtain⟨t,rfl⟩:=r1
  exact⟨some i,H1,I1,.int i t,q⟩
def mr(X:Cx)(r:V→Option Int→Option Int→Hp→VK→Prop):Prop:=
  ∀(pins:List (Addr×Obj))(s:Shared)(σ:St)(H:Hp)(x:V)(v vl vu:Value)(lo hi:Option Int)(sl:Addr)(Q:VK),af X pins σ H s→aE x v→s.heap.IsSliceOf sl vl vu .none→IsPart vl lo→IsPart vu hi→r x lo hi H Q→
    ∃T id,typeLookup (.type T) "__getitem__"=pure (some (.builtin id))∧s.TypeIs v T∧wpAny (model X.prog X.w) X.A (getItem v (.ref sl)) (EP X pins σ Q) X.xe s
def DN(r:V→Option Int→Option Int→Hp→VK→Prop)(te:TE)(tl th:TO):TE:=fun σ H Q=> te σ H fun x H1=> tl σ H1 fun l H2=> th σ H2 fun u H3=> r x l u H3 Q
theorem nY{r:V→Option Int→Option Int→Hp→VK→Prop}(hr:mr X r)(he:PE X e te)(hl:PO X lo tl)(hu:PO X hi th):PE X (.Subscript e (.Slice lo hi none p2) pos) (DN r te tl th):=by
  intro pins s σ H Q I h
  refine Subscript_ (aB (he pins s σ H _ I h) fun v s1 ⟨x,H1,I1,r1,q1⟩=> ?_)
  refine wpAny_Slice (aB (hl pins s1 σ H1 _ I1 q1) fun vl s2 ⟨l,H2,I2,pl,q2⟩=> aB (hu pins s2 σ H2 _ I2 q2) fun vu s3 ⟨u,H3,I3,pu,q3⟩=> ?_)
  rw [evalPart_none]
  refine wpAny_pure ?_
  have I4:af X pins σ H3 {s3 with heap:=s3.heap.push {cls:= .type "slice",data:= .fields #[vl,vu,.none]}}:=I3.kept (t':=s3.toks) fun b ob q=> Kg _ q
  obtain⟨T,id,hT,ht,hg⟩:=hr pins {s3 with heap:=s3.heap.push {cls:= .type "slice",data:= .fields #[vl,vu,.none]}} σ H3 x v vl vu l u s3.heap.objs.size Q I4 r1 (Heap.IsSliceOf.new ..) pl pu q3
  show wpAny (model X.prog X.w) X.A (subscriptTail e (.Slice lo hi none p2) v (.ref s3.heap.objs.size)) (EP X pins σ Q) X.xe {s3 with heap:=s3.heap.push {cls:= .type "slice",data:= .fields #[vl,vu,.none]}}
  exact tail_any (ops:=[.ref s3.heap.objs.size,v]) ht hT hg (by with_unfolding_all rfl)
def iD(xs:List V)(lo hi:Option Int):List V:=(xs.drop (HT.sIx xs.length 0 lo)).take (HT.sIx xs.length xs.length hi - HT.sIx xs.length 0 lo)
theorem wg(xs:List V)(lo hi:Option Int):(iD xs lo hi).length≤xs.length:=by
  unfold iD
  rw [Lk,NH]
  omega
def DP(K:Kb):V→Option Int→Option Int→Hp→VK→Prop:=fun x lo hi H Q=> ∃a xs,x= .ref a∧bw K H a xs∧
  ¬(HT.sIx xs.length 0 lo=0∧HT.sIx xs.length xs.length hi=xs.length)∧∀p,H p=none→Q (.ref p) (au H p (.tup (iD xs lo hi)))
theorem DQ:mr X (DP X.K):=by
  intro pins s σ H x v vl vu lo hi sl Q I rx hs pl pu h
  obtain⟨a,xs,rfl,hx,hw,q⟩:=h
  cases rx
  obtain⟨its,r,ht,hz⟩:=I.tuple hx
  have hlen:its.toArray.size=xs.length:=by rw [Kt];exact r.length.symm
  refine⟨"tuple",_,L8.lookup,ht.typeIs,?_⟩
  refine HT.getItem_tuple_cut ht hs pl pu (by rw [hlen];exact hw) ?_ (by rw [hlen];exact hz)
  rw [hlen]
  refine⟨.ref s.heap.objs.size,_,I.laid (t':=s.toks) (o:= .tup (iD xs lo hi)) (fun b ob q=> Kg _ q) (Kk _) ?_,rfl,q _ (I.hok.fresh (Kk _))⟩
  exact⟨KS (wg xs lo hi) hz,_,(r.drop (HT.sIx xs.length 0 lo)).take (HT.sIx xs.length xs.length hi - HT.sIx xs.length 0 lo),OE _ _⟩
def qz(K:Kb):R2:=fun x y H Q=> ∃a b xs ys,x= .ref a∧y= .ref b∧bw K H a xs∧bw K H b ys∧xs≠[]∧xs.length+ys.length≤sizeLine∧
  (ys=[]→Q (.ref a) H)∧(ys≠[]→∀p,H p=none→Q (.ref p) (au H p (.tup (xs++ys))))
theorem aF.nil_iff{xs:List V}{us:List Value}(r:aF xs us):us=[]↔xs=[]:=by
  cases r with
  | nil=> simp
  | cons _ _=> simp
theorem DR:bS X (binaryOp .Add) (qz X.K):=by
  intro pins s σ H x y v u Q I rx ry h
  obtain⟨a,b,xs,ys,rfl,rfl,ha,hb,hx,hz,q1,q2⟩:=h
  cases rx
  cases ry
  obtain⟨its,r1,p1,_⟩:=I.tuple ha
  obtain⟨its2,r2,p2,_⟩:=I.tuple hb
  refine HT.cat_tup p1 p2 (fun z=> hx (r1.nil_iff.mp z)) (fun z=> ⟨.ref a,H,I,rfl,q1 (r2.nil_iff.mp z)⟩) (fun z=> ?_) (by rw [←r1.length,←r2.length];exact hz)
  refine⟨.ref s.heap.objs.size,_,I.laid (t':=s.toks) (o:= .tup (xs++ys)) (fun b ob q=> Kg _ q) (Kk _) ?_,rfl,q2 (fun w=> z (r2.nil_iff.mpr w)) _ (I.hok.fresh (Kk _))⟩
  exact⟨by rw [KR];exact hz,_,r1.append r2,OE _ _⟩
end
end L2
namespace L2
open PySem PySem.Spec PyProof.Rows
def fR(n:Nat)(i:Int):Option Nat:=if 0≤i then(if i < n then some i.toNat else none) else if -(n:Int)≤i then some (i+n).toNat else none
def atI{α:Type}(xs:List α)(i:Int):Option α:=(fR xs.length i).bind fun j=> xs[j]?
theorem wj{n:Nat}{i:Int}{j:Nat}(h:fR n i=some j):seqIndex? i n=some j∧j < n∧-(n:Int)≤i∧i < n:=by
  unfold fR at h
  by_cases h0:0≤i
  · rw [if_pos h0] at h
    by_cases h1:i < n
    · rw [if_pos h1] at h
      have e:i.toNat=j:=K5 h
      exact⟨by rw [seqIndex_of h0 h1,e],by omega,by omega,h1⟩
    · rw [if_neg h1] at h;cases h
  · rw [if_neg h0] at h
    by_cases h1:-(n:Int)≤i
    · rw [if_pos h1] at h
      have e:(i+n).toNat=j:=K5 h
      exact⟨by rw [seqIndex_neg (by omega) h1,e],by omega,h1,by omega⟩
    · rw [if_neg h1] at h;cases h
theorem qA{α:Type}{xs:List α}{i:Int}{v:α}(h:atI xs i=some v):∃j,seqIndex? i xs.length=some j∧xs[j]?=some v∧j < xs.length∧-(xs.length:Int)≤i∧i < xs.length:=by
  unfold atI at h
  cases e:fR xs.length i with
  | none=> rw [e] at h;cases h
  | some j=>
    rw [e] at h
    obtain⟨h1,h2,h3,h4⟩:=wj e
    exact⟨j,h1,h,h2,h3,h4⟩
theorem gO{α:Type}{xs:List α}{j:Nat}{v:α}(h:xs[j]?=some v):atI xs (j:Int)=some v:=by
  have hj:j < xs.length:=(Ku.mp h).1
  have e:fR xs.length (j:Int)=some j:=by
    unfold fR
    rw [if_pos (by omega),if_pos (by omega)];simp
  unfold atI;rw [e];exact h
theorem wk{α:Type}(xs:List α)(v:α):atI (xs++[v]) (-1)=some v:=by
  have hl:(xs++[v]).length=xs.length+1:=by simp
  have e:fR (xs++[v]).length (-1)=some xs.length:=by
    unfold fR
    rw [hl,if_neg (by decide),if_pos (by omega)]
    congr 1
    omega
  unfold atI
  rw [e]
  show(xs++[v])[xs.length]?=some v
  simp
def DU(b:Expr):Prop:=∀o i,subscripted b false o i=operate [o,i] (getItem o i)
def mv(X:Cx)(r:R2):Prop:=
  ∀(value slice:Expr)(pins:List (Addr×Obj))(s:Shared)(σ:St)(H:Hp)(x y:V)(v u:Value)(Q:VK),af X pins σ H s→aE x v→aE y u→r x y H Q→
    subscripted slice false v u=operate [v,u] (getItem v u)→wpAny (model X.prog X.w) X.A (subscriptTail value slice v u) (EP X pins σ Q) X.xe s
def wq(X:Cx)(id:String)(r:V→List V→Hp→VK→Prop):Prop:=
  ∀(pins:List (Addr×Obj))(s:Shared)(σ:St)(H:Hp)(x:V)(xs:List V)(v:Value)(us:List Value)(Q:VK),af X pins σ H s→aE x v→aF xs us→r x xs H Q→
    wpAny (model X.prog X.w) X.A (call (.builtin id) (v::us)) (EP X pins σ Q) X.xe s
section
variable {X:Cx} {a b:Expr} {ta tb:TE} {pos:Pos}
theorem fS{r:R2}(hr:mv X r)(ha:PE X a ta)(hb:PE X b tb)(hs:DU b):PE X (.Subscript a b pos) (kJ r ta tb):=by
  intro pins s σ H Q I h
  exact Subscript_ (qo ha hb I h fun v u s2 x y H2 I2 rx ry q=> hr a b pins s2 σ H2 x y v u Q I2 rx ry q (hs _ _))
def nZ(K:Kb):R2:=fun x y H Q=> ∃p xs i v,x= .ref p∧y= .int i∧aX K H p xs∧atI xs i=some v∧Q v H
def n4(K:Kb):R2:=fun x y H Q=> ∃p xs i v,x= .ref p∧y= .int i∧bw K H p xs∧atI xs i=some v∧Q v H
def wt:R2:=fun x y H Q=> ∃z i c,x= .str z∧y= .int i∧z.length≤sizeLine∧atI z.cps.toList i=some c∧Q (.str ⟨#[c]⟩) H
theorem bO:mv X (nZ X.K):=by
  intro value slice pins s σ H x y v u Q I rx ry h hs
  obtain⟨p,xs,i,z,rfl,rfl,hq,he,q⟩:=h
  cases rx
  obtain⟨t,rfl⟩:=ry
  obtain⟨its,r,pl,hz⟩:=I.list hq
  obtain⟨j,h1,h2,h3,h4,h5⟩:=qA he
  obtain⟨w,ew,rw'⟩:=r.get h2
  have hl:=r.length
  have hn:=j6
  have fin:EP X pins σ Q w s:=⟨z,H,I,rw',q⟩
  by_cases h0:0≤i
  · have hj:i.toNat=j:=by
      rw [seqIndex_of h0 h5] at h1
      exact K5 h1
    exact item_listR pl.isList h0 (by omega) (by rw [hj];simpa using ew) fin hs
  · have hj:(i+(its.toArray.size:Int)).toNat=j:=by
      rw [seqIndex_neg (by omega) h4] at h1
      rw [Kt,←hl]
      exact K5 h1
    exact subscriptTail_builtinR (x:=w) pl.isList.typeIs slot_list_getitem.lookup
      (wpAny_getItem_list_neg (Q:=fun r s'=> r=w∧EP X pins σ Q r s') pl.isList (by omega) (by rw [Kt] <;> omega) (by omega) (by rw [hj];simpa using ew) ⟨rfl,fin⟩) hs
theorem aH:mv X (n4 X.K):=by
  intro value slice pins s σ H x y v u Q I rx ry h hs
  obtain⟨p,xs,i,z,rfl,rfl,hq,he,q⟩:=h
  cases rx
  obtain⟨t,rfl⟩:=ry
  obtain⟨its,r,pl,hz⟩:=I.tuple hq
  obtain⟨j,h1,h2,h3,h4,h5⟩:=qA he
  obtain⟨w,ew,rw'⟩:=r.get h2
  have hl:=r.length
  have hn:=j6
  have fin:EP X pins σ Q w s:=⟨z,H,I,rw',q⟩
  exact subscriptTail_builtinR (x:=w) pl.typeIs slot_tuple_getitem.lookup
    (getItem_tuple (j:=j) (Q:=fun r s'=> r=w∧EP X pins σ Q r s') pl (by omega) (by omega) (by rw [Kt,←hl];exact h1) (by simpa using ew) ⟨rfl,fin⟩) hs
theorem wu:mv X wt:=by
  intro value slice pins s σ H x y v u Q I rx ry h hs
  obtain⟨z,i,c,rfl,rfl,hz,he,q⟩:=h
  obtain⟨t,rfl⟩:=rx
  obtain⟨t',rfl⟩:=ry
  obtain⟨j,h1,h2,h3,h4,h5⟩:=qA he
  have hl:z.cps.toList.length=z.length:=by simp [Str.length]
  rw [hl] at h1 h4 h5
  have hn:=j6
  exact tail_any (typeIs_str s z t) slot_str_getitem.lookup (getItem_str (c:=c) (by
    have e1:decide (i < -(2 ^ 63:Int))=false:=decide_eq_false (by omega)
    have e2:decide (i ≥ 2 ^ 63)=false:=decide_eq_false (by omega)
    rw [e1,e2,Nz]) (by rw [h1];simpa using h2) ⟨.str ⟨#[c]⟩,H,I.tok _,⟨_,rfl⟩,q⟩) hs
theorem DV(its:List Value)(n j:Nat)(u:Value):Le (·.setIfInBounds j u) {cls:= .type "list",data:= .seq its.toArray n}={cls:= .type "list",data:= .seq (its.set j u).toArray n}:=by
  simp [Le]
theorem af.lst{pins:List (Addr×Obj)}{σ:St}{H:Hp}{s:Shared}{p:Addr}{xs:List V}(I:af X pins σ H s)(h:H p=some (.lst xs)):
    ∃(its:List Value)(n:Nat),aF xs its∧s.heap.get? p=some {cls:= .type "list",data:= .seq its.toArray n}∧xs.length≤sizeLine:=by
  obtain⟨z,its,n,r,e⟩:=I.hok p _ h
  exact⟨its,n,r,e,z⟩
theorem af.lstUpd{pins:List (Addr×Obj)}{σ:St}{H:Hp}{s:Shared}{p:Addr}{xs ys:List V}{its its':List Value}{n n':Nat}{f:Obj→Obj}(I:af X pins σ H s)(h:H p=some (.lst xs))
    (ho:s.heap.get? p=some {cls:= .type "list",data:= .seq its.toArray n})(hf:f {cls:= .type "list",data:= .seq its.toArray n}={cls:= .type "list",data:= .seq its'.toArray n'})(r:aF ys its')(hz:ys.length≤sizeLine)(t:Nat):
    af X pins σ (au H p (.lst ys)) {s with heap:=s.heap.update p f,toks:=t}:=by
  have e:(s.heap.update p f).get? p=some {cls:= .type "list",data:= .seq its'.toArray n'}:=by
    rw [LG f ho (by rw [hf] <;> rfl),hf]
  refine I.write (x:=p) (e:=p) (by rw [h];trivial) (.inl rfl) (fun b u hb q=> (LZ _ _ (Ne.symm hb)).trans q) ⟨_,e⟩ ?_
  exact⟨hz,its',n',r,e⟩
def DW:V→V→V→Hp→(Hp→Prop)→Prop:=fun o i v H Q=> ∃p xs k j,o= .ref p∧i= .int k∧H p=some (.lst xs)∧fR xs.length k=some j∧Q (au H p (.lst (xs.set j v)))
theorem qB:vt X DW:=by
  intro pins s σ H o i v ov iv u Q I ro ri rv h
  obtain⟨p,xs,k,j,rfl,rfl,hp,hj,q⟩:=h
  cases ro
  obtain⟨t,rfl⟩:=ri
  obtain⟨its,n,r,ho,hz⟩:=I.lst hp
  obtain⟨h1,h2,h3,h4⟩:=wj hj
  have hl:=r.length
  have hn:=j6
  have I':af X pins σ (au H p (.lst (xs.set j v))) {s with heap:=s.heap.update p (Le (·.setIfInBounds j u))}:=
    I.lstUpd hp ho (DV its n j u) (r.set rv j) (by rw [List.length_set];exact hz) s.toks
  by_cases h0:0≤k
  · have hk:k.toNat=j:=by
      rw [seqIndex_of h0 h4] at h1
      exact K5 h1
    exact PySem.W.ki_setAt ho h0 (by omega) (by rw [Kt,←hl];exact h4) (by rw [hk];exact⟨_,I',q⟩)
  · have hk:(k+(its.toArray.size:Int)).toNat=j:=by
      rw [seqIndex_neg (by omega) h3] at h1
      rw [Kt,←hl]
      exact K5 h1
    exact PySem.W.ki_setBack ho (by omega) (by rw [Kt,←hl];exact h3) (by omega) (by rw [hk];exact⟨_,I',q⟩)
theorem DX(lo hi:Option Int)(n:Nat):(sliceBounds lo hi none n).1=((HT.sIx n 0 lo:Nat):Int)∧(sliceBounds lo hi none n).2.1=((HT.sIx n n hi:Nat):Int)∧(sliceBounds lo hi none n).2.2=1:=by
  refine⟨?_,?_,rfl⟩
  · cases lo with
    | none=> simp [sliceBounds,HT.sIx]
    | some i=>
      simp only [sliceBounds,HT.sIx,Om,show(1:Int) > 0 by decide,if_true]
      by_cases h:i < 0
      · simp only [h,if_true] <;> omega
      · simp only [h,if_false] <;> omega
  · cases hi with
    | none=> simp [sliceBounds,HT.sIx]
    | some i=>
      simp only [sliceBounds,HT.sIx,Om,show(1:Int) > 0 by decide,if_true]
      by_cases h:i < 0
      · simp only [h,if_true] <;> omega
      · simp only [h,if_false] <;> omega
theorem DY(its:List Value)(lo hi:Option Int):slicePick its.toArray lo hi none=((its.drop (HT.sIx its.length 0 lo)).take (HT.sIx its.length its.length hi - HT.sIx its.length 0 lo)).toArray:=by
  obtain⟨h1,h2,h3⟩:=DX lo hi its.toArray.size
  unfold slicePick
  rw [h1,h2,h3]
  simp only [sliceRange_one,pick_run,Kt] <;> rfl
def DZ(K:Kb):V→Option Int→Option Int→Hp→VK→Prop:=fun x lo hi H Q=> ∃a xs,x= .ref a∧aX K H a xs∧∀p,H p=none→Q (.ref p) (au H p (.lst (iD xs lo hi)))
theorem wx:mr X (DZ X.K):=by
  intro pins s σ H x v vl vu lo hi sl Q I rx hs pl pu h
  obtain⟨a,xs,rfl,hx,q⟩:=h
  cases rx
  obtain⟨its,r,ht,hz⟩:=I.list hx
  have hlen:=r.length
  refine⟨"list",_,slot_list_getitem.lookup,ht.isList.typeIs,?_⟩
  refine wpAny_getItem_list_slice ht.isList hs pl pu .none (by simp) ?_ (by rw [Kt] <;> omega)
  rw [DY,←hlen]
  refine⟨.ref s.heap.objs.size,_,I.laid (t':=s.toks) (o:= .lst (iD xs lo hi)) (fun b ob q=> Kg _ q) (Kk _) ?_,rfl,q _ (I.hok.fresh (Kk _))⟩
  exact⟨KS (wg xs lo hi) hz,_,0,(r.drop (HT.sIx xs.length 0 lo)).take (HT.sIx xs.length xs.length hi - HT.sIx xs.length 0 lo),KD _ rfl⟩
theorem fq:dO X (.builtin "len") (fun xs H Q=> ∃p ys,xs=[.ref p]∧(aX X.K H p ys∨bw X.K H p ys)∧Q (.int ys.length) H):=by
  intro pins s σ H xs us Q I r h
  obtain⟨p,ys,rfl,hq,q⟩:=h
  obtain⟨u,rfl,rx⟩:=dY r
  cases rx
  have hn:=j6
  rcases hq with hq | hq
  · obtain⟨its,r',pl,hz⟩:=I.list hq
    have hlen:=r'.length
    exact Calls.call_len_list pl.isList (by simp only [Kt] <;> omega) ⟨.int ys.length,H,I.tok _,⟨s.toks+1,by rw [Kt,hlen]⟩,q⟩
  · obtain⟨its,r',pl,hz⟩:=I.tuple hq
    have hlen:=r'.length
    exact len_tuple pl (by simp only [Kt] <;> omega) ⟨.int ys.length,H,I.tok _,⟨s.toks+1,by rw [Kt,hlen]⟩,q⟩
theorem D1:dO X (.builtin "len") (fun xs H Q=> ∃z,xs=[.str z]∧z.length≤sizeLine∧Q (.int z.length) H):=by
  intro pins s σ H xs us Q I r h
  obtain⟨z,rfl,hz,q⟩:=h
  obtain⟨u,rfl,t,rfl⟩:=dY r
  have hn:=j6
  exact len_str (by omega) ⟨.int z.length,H,I.tok _,⟨_,rfl⟩,q⟩
theorem fT:dO X (.type "tuple") (fun xs H Q=> ∃p ys,xs=[.ref p]∧((aX X.K H p ys∧∀l,H l=none→Q (.ref l) (au H l (.tup ys)))∨(bw X.K H p ys∧Q (.ref p) H))):=by
  intro pins s σ H xs us Q I r h
  obtain⟨p,ys,rfl,h⟩:=h
  obtain⟨u,rfl,rx⟩:=dY r
  cases rx
  rcases h with⟨hq,q⟩ | ⟨hq,q⟩
  · obtain⟨its,r',pl,hz⟩:=I.list hq
    have hlen:=r'.length
    refine call_tuple_list pl.isList (fun h' kp=> ?_) (by simp only [Kt] <;> omega)
    have I1:af X pins σ H {s with heap:=h'}:=I.kept (t':=s.toks) kp
    have I2:af X pins σ (au H h'.objs.size (.tup ys)) {s with heap:=h'.push {cls:= .type "tuple",data:= .seq its.toArray}}:=
      I1.laid (t':=s.toks) (fun b o e=> Kg _ e) (Kk _) (show cg X.prog X.w _ _ _ (.tup ys) from⟨hz,its,r',OE _ _⟩)
    exact⟨.ref h'.objs.size,_,I2,rfl,q _ (I1.hok.fresh (Kk _))⟩
  · obtain⟨its,r',pl,hz⟩:=I.tuple hq
    exact call_tuple_same pl ⟨.ref p,H,I,rfl,q⟩
def wy(K:Kb)(T:String)(x:V)(H:Hp):Prop:=match x with
  | .str _=> T="str"
  | .int _=> T="int"
  | .ref p=> (T="list"∧∃xs,aX K H p xs)∨(T="tuple"∧∃o,K.lookup p=some o∧o.cls= .type "tuple"∧o.dict=none)∨
      (T="dict"∧((∃kvs,H p=some (.dK kvs))∨∃kvs,H p=some (.dT kvs)))∨(T="set"∧∃S n,H p=some (.set S n))
  | _=> False
theorem D2{pins:List (Addr×Obj)}{σ:St}{H:Hp}{s:Shared}{T:String}{x:V}{v:Value}(I:af X pins σ H s)(r:aE x v)(ty:wy X.K T x H):
    s.TypeIs v T∧∀a,v= .ref a→∃ob,s.heap.get? a=some ob∧ob.dict=none:=by
  cases x with
  | str z=>
    obtain⟨t,rfl⟩:=r
    cases (show T="str" from ty)
    exact⟨typeIs_str s z t,fun _ e=> nomatch e⟩
  | int i=>
    obtain⟨t,rfl⟩:=r
    cases (show T="int" from ty)
    exact⟨typeIs_int s i t,fun _ e=> nomatch e⟩
  | ref p=>
    cases r
    rcases ty with⟨rfl,xs,hq⟩ | ⟨rfl,o,hk,hc,hd⟩ | ⟨rfl,hk⟩ | ⟨rfl,S,n,hk⟩
    · obtain⟨its,_,pl,_⟩:=I.list hq
      refine⟨pl.isList.typeIs,fun a e=> ?_⟩
      cases e
      obtain⟨o,n,e,c,hd,_⟩:=pl
      exact⟨o,e,hd⟩
    · refine⟨⟨o,I.kIn p o hk,hc⟩,fun a e=> ?_⟩
      cases e
      exact⟨o,I.kIn _ o hk,hd⟩
    · have z:∃o,s.heap.get? p=some o∧o.ExactDict:=by
        rcases hk with⟨kvs,hk⟩ | ⟨kvs,hk⟩
        · obtain⟨_,_,_,_,o,_,_,e,ex,_⟩:=I.hok p _ hk
          exact⟨o,e,ex⟩
        · obtain⟨_,_,_,_,o,_,_,e,ex,_⟩:=I.hok p _ hk
          exact⟨o,e,ex⟩
      obtain⟨o,e,ex⟩:=z
      refine⟨⟨o,e,ex.1⟩,fun a e2=> ?_⟩
      cases e2
      exact⟨o,e,ex.2.1⟩
    · obtain⟨o,_,_,_,e,ex,_⟩:=I.hok p _ hk
      refine⟨⟨o,e,ex.1⟩,fun a e2=> ?_⟩
      cases e2
      exact⟨o,e,ex.2.1⟩
  | _=> exact LJ ty
def D3(K:Kb)(T:String)(r:V→List V→Hp→VK→Prop)(to:TE)(t:TA):TE:=fun σ H Q=> to σ H fun x H1=> wy K T x H1∧t σ H1 fun xs H2=> r x xs H2 Q
variable {o e:Expr} {es:List Expr} {to:TE} {t:TA} {name:Str} {apos cpos:Pos} {T id:String} {r:V→List V→Hp→VK→Prop}
theorem qC(pa:PlainAttrs T)(slot:Slot T name id)(hty:typeOf (.builtin id)=pure (.type "method_descriptor"))(hm:wq X id r)(ho:PE X o to)(ha:PA X (e::es) t)
    (hbase:attributeBase o name X.env (eval o X.env)=eval o X.env:=by rfl)
    (hfew:((backTo cpos (starEach (e::es) X.env)).all (fun x=> !x.1) && (backToKw cpos (keywordEach [] X.env)).all (fun x=> x.1.isSome)
      && decide ((e::es).length+([]:List Keyword).length+(if ([]:List Keyword).isEmpty then 0 else 1) < 30))=true:=by rfl)
    (hline:(apos.endLine==cpos.line)=true:=by rfl)(hs:starEach (e::es) X.env=(false,eval e X.env)::starEach es X.env:=by rfl)(hplain:(backTo cpos (starEach es X.env)).any (·.1)=false:=by rfl):
    PE X (.Call (.Attribute o name apos) (e::es) [] cpos) (D3 X.K T r to t):=by
  intro pins s σ H Q I h
  refine wpAny_Call_method_late hbase hfew hline rfl (aB (ho pins s σ H _ I h) fun v s1 ⟨x,H1,I1,r1,ty,q1⟩=> ?_)
  obtain⟨h1,h2⟩:=D2 I1 r1 ty
  refine⟨T,id,pa,slot,hty,h1,h2,?_⟩
  have hA:=ha cpos pins s1 σ H1 _ I1 q1
  rw [hs] at hA⊢
  refine Nx (by show(false || (backTo cpos (starEach es X.env)).any (·.1))=false;rw [hplain] <;> rfl) (NM ?_)
  exact aB hA fun us s2 uu54=> by obtain⟨vs,H2,I2,r2,q2⟩:=uu54;exact hm pins s2 σ H2 x vs v us Q I2 r1 r2 q2
end
end L2
namespace L2
open PySem PySem.Spec PyProof.Rows
def wz(X:Cx)(id:String)(r:V→List V→Hp→VK→Prop):Prop:=
  ∀(pins:List (Addr×Obj))(s:Shared)(σ:St)(H:Hp)(x:V)(xs:List V)(v:Value)(us:List Value)(Q:VK),af X pins σ H s→aE x v→aF xs us→r x xs H Q→
    wpAny (model X.prog X.w) X.A (call (.builtin id) (v::us)) (EP X pins σ Q) X.xe s
theorem aF.one:∀{x:V}{us:List Value},aF [x] us→∃u,us=[u]∧aE x u
  | _,_,.cons r .nil=> ⟨_,rfl,r⟩
theorem aF.rep{xs:List V}{us:List Value}(h:aF xs us):∀k:Nat,aF (Kx k xs).flatten (Kx k us).flatten
  | 0=> .nil
  | k+1=> by
    rw [LY,LY,Ms,Ms]
    exact aF.append h (aF.rep h k)
theorem wA(its:List Value):∀(k:Nat)(acc:List Value),
    MK (fun x1 x2=> x1++x2) acc.toArray (Kx k its.toArray)=(acc++(Kx k its).flatten).toArray
  | 0,acc=> by simp
  | k+1,acc=> by
    have e:acc.toArray++its.toArray=(acc++its).toArray:=by simp
    have e2:(acc++its)++(Kx k its).flatten=acc++(Kx (k+1) its).flatten:=by
      rw [LY,Ms,Nt]
    rw [←e2,←wA its k (acc++its),←e,LY,LX]
section
variable {X:Cx} {pins:List (Addr×Obj)} {σ:St} {H:Hp} {s:Shared} {l b:Addr} {xs ys zs:List V}
theorem af.lset{its its':List Value}{n:Nat}{f:Array Value→Array Value}{t':Nat}(I:af X pins σ H s)(hH:H l=some (.lst xs))
    (e:s.heap.get? l=some {cls:= .type "list",data:= .seq its.toArray n})(hf:f its.toArray=its'.toArray)(hv:aF ys its')(hz:ys.length≤sizeLine):
    af X pins σ (au H l (.lst ys)) {s with heap:=s.heap.update l (Le f),toks:=t'}:=by
  have q:=PySem.IsL.update e f
  rw [hf] at q
  refine I.write (x:=l) (e:=l) (by rw [hH];exact trivial) (.inl rfl) (fun b' u hb hu=> (LZ s.heap (Le f) (Ne.symm hb)).trans hu) ⟨_,q⟩ ?_
  exact⟨hz,its',_,hv,q⟩
theorem af.lnew{its:List Value}{t':Nat}(I:af X pins σ H s)(hv:aF ys its)(hz:ys.length≤sizeLine):
    af X pins σ (au H s.heap.objs.size (.lst ys)) {s with heap:=s.heap.push {cls:= .type "list",data:= .seq its.toArray},toks:=t'}:=
  I.laid (fun _ _ q=> Kg _ q) (Kk _) ⟨hz,its,0,hv,KD _ rfl⟩
theorem af.fresh(I:af X pins σ H s):H s.heap.objs.size=none:=I.hok.fresh (Kk _)
theorem af.lstM(I:af X pins σ H s)(hH:H l=some (.lst xs)):xs.length≤sizeLine∧∃(its:List Value)(n:Nat),aF xs its∧xs.length=its.length∧s.heap.get? l=some {cls:= .type "list",data:= .seq its.toArray n}:=by
  obtain⟨z,its,n,r,e⟩:=I.hok l _ hH
  exact⟨z,its,n,r,r.length,e⟩
theorem D4{n:Nat}(h:n≤sizeLine):Ni n=false:=by
  unfold Ni
  exact decide_eq_false (by omega)
end
section
variable {X:Cx}
def D5:V→List V→Hp→VK→Prop:=fun x vs H Q=> ∃l xs y,x= .ref l∧vs=[y]∧H l=some (.lst xs)∧xs.length < sizeLine∧Q .non (au H l (.lst (xs++[y])))
theorem wB:wz X "list.append" D5:=by
  intro pins s σ H x vs v us Q I rx rv h
  obtain⟨l,xs,y,rfl,rfl,hH,hz,q⟩:=h
  cases rx
  obtain⟨u,rfl,ru⟩:=rv.one
  obtain⟨z,its,n,r,hl,e⟩:=I.lstM hH
  refine call_meets F.slot_list_append ⟨_,e,rfl⟩ F.entry_list_append (F.args_list_append_2 _ _) (PySem.list_append l its.toArray n u (by rw [Kt];omega)) ⟨e,?_⟩
  refine⟨.non,_,I.lset (its':=its++[u]) hH e (by simp) (r.append (.cons ru .nil)) ?_,rfl,q⟩
  rw [KR,MT]
  omega
def D6:R2:=fun x y H Q=> ∃l k xs,x= .ref l∧y= .int k∧H l=some (.lst xs)∧-(2 ^ 63)≤k∧k < 2 ^ 63∧xs.length*k.toNat≤sizeLine∧
  ∀p,H p=none→Q (.ref p) (au H p (.lst (Kx k.toNat xs).flatten))
theorem D7{α:Type}(xs:List α)(k:Nat):(Kx k xs).flatten.length=k*xs.length:=by
  induction k with
  | zero=> simp
  | succ k ih=> rw [LY,Ms,KR,ih,Nat.succ_mul,Nat.add_comm]
theorem D8:bS X (binaryOp .Mult) D6:=by
  intro pins s σ H x y v u Q I rx ry h
  obtain⟨l,k,xs,rfl,rfl,hH,h1,h2,hz,q⟩:=h
  cases rx
  obtain⟨t,rfl⟩:=ry
  obtain⟨z,its,n,r,hl,e⟩:=I.lstM hH
  have hlen:its.toArray.size*k.toNat≤sizeLine:=by rw [Kt,←hl];exact hz
  have hcap:¬its.toArray.size*k.toNat > (2 ^ 63 - 1)/ 8:=by
    have:(sizeLine:Nat)≤(2 ^ 63 - 1)/ 8:=by decide
    omega
  have hfit:¬(!Mr k)=true:=by
    rw [fitsIndex_both h1 h2]
    exact Ki
  have hlong:¬Ni (its.toArray.size*k.toNat)=true:=by
    rw [D4 hlen]
    exact Ki
  have hnew:MK (fun x1 x2=> x1++x2) #[] (Kx (if its.toArray.isEmpty=true then 0 else k.toNat) its.toArray)=(Kx k.toNat its).flatten.toArray:=by
    have f0:∀m:Nat,MK (fun x1 x2=> x1++x2) #[] (Kx m its.toArray)=(Kx m its).flatten.toArray:=fun m=> by
      have:=wA its m []
      rw [LI] at this
      exact this
    rw [f0]
    cases its with
    | nil=> simp
    | cons a r'=> rw [if_neg (by simp)]
  refine wpAny_binaryOp_repeat_ref (T:="list") (U:="int") (by decide) ⟨_,e,rfl⟩ (fun s'=> typeIs_int s' k t) noFill_list_mul F.fills_int_mul F.slot_int_rmul repeat_list F.slot_int_index.lookup
    (call_meets F.slot_int_rmul (typeIs_int s k t) F.entry_int_rmul (F.args_int_rmul_2 _ _) (int___rmul___int_list k t l its.toArray n)
      ⟨e,rfl,⟨_,e,rfl⟩,call_meets F.slot_list_mul ⟨_,e,rfl⟩ F.entry_list_mul (F.args_list_mul_2 _ _) (AutoListH.list___mul___list_int_3 l its.toArray n k t hfit hcap hlong) ⟨e,?_⟩⟩)
  rw [hnew]
  exact⟨.ref _,_,I.lnew (t':=s.toks) (r.rep k.toNat) (by rw [D7,Nat.mul_comm];exact hz),rfl,q _ I.fresh⟩
end
section
variable {prog:Program} {w:World} {A:Around} {E:Value→Shared→Prop} {s:Shared}
end
section
variable {X:Cx}
end
end L2
namespace Att
open PySem PySem.W PySem.Calls PyProof.Rows
theorem D9{P:Params}{h:Heap}:∀(ns:List Int)(vs:List Value),WellAll P h vs (ns.map ML)→IntsAre vs ns:=by
  intro ns
  induction ns with
  | nil=>
    intro vs w
    rw [Ly] at w
    cases w
    exact .nil
  | cons n ns ih=>
    intro vs w
    rw [Kj] at w
    cases w with
    | cons a b=>
      cases a
      exact .cons _ _ (ih _ b)
theorem Ea{l:OpenLaw}{n:Nat}(hn:l.most=some n){P:Params}{h:Heap}{args:List WData}{vals:List Value}
    (hpre:l.row.toRowW.claim.pre args=true)(hwl:WellAll P h vals args):
    ∃a vs ns,vals=[K6 a]∧args=[Of (ns.map ML)]∧h.get? a=some {cls:= .type "list",data:= .seq vs.toArray}∧IntsAre vs ns∧ns.length≤n:=by
  have hsh:WShape.hasAll [] args [.list .int]=true:=(pre_splitW hpre).1
  have hc:l.pre.holds [] {args:=args}=true:=(pre_splitW hpre).2
  obtain⟨d,r,rfl,h1,h2⟩:=hasAllW_cons hsh
  obtain rfl:=hasAllW_nil h2
  obtain⟨xs,rfl,h3⟩:=hasW_list h1
  obtain⟨ns,rfl⟩:=items_int h3
  have hlen:ns.length≤n:=by
    unfold OpenLaw.pre at hc
    have h4:(WTm.not (.lt (.lit (.int (n:Int))) (.len (.arg 0)))).holds [] {args:=[.list (ns.map .int)]}=true:=by
      have h4:=(holds_andW hc).1
      rw [hn] at h4
      exact h4
    have h5:=condW_of h4 (w_not (w_lt w_lit (w_len_list (w_arg rfl))))
    rw [Kd] at h5
    refine Oo fun q=> ?_
    have q':(n:Int) < ((ns.length:Nat):Int):=by omega
    first
      | (rw [decide_eq_true q'] at h5;exact absurd h5 (by decide))
      | (simp at h5;omega)
  cases hwl with
  | cons w1 w2=>
    cases w2
    cases w1 with
    | list ho hall=> exact⟨_,_,ns,rfl,rfl,ho,D9 ns _ hall,hlen⟩
theorem Eb(l:OpenLaw)(args:List WData):l.row.toRowW.claim.post args (.bool true) args=true:=
  postW_of (r:=l.row.toRowW) (X:=(true==true))
    (show WShape.has [] (.bool true) .bool=true by first | rfl | decide | simp [WShape.has,WShape.arms,WShape.armsAll])
    (show(WTm.eq .res (.lit (.bool true))).value [] {args:=args,res:=some (.bool true),after:=args}=some (.bool (true==true)) from w_eq_bool (w_res rfl) w_lit) rfl
section
variable {prog:Program} {w:World} {A:Around} {E:Value→Shared→Prop} {s:Shared} {K:Frag}
end
end Att
namespace L2
open PySem PySem.Spec PyProof.Rows
theorem wC:∀{vs:List Value}{ns:List Int},IntsAre vs ns→aF (ns.map V.int) vs
  | _,_,.nil=> .nil
  | _,_,.cons n t h=> .cons ⟨t,rfl⟩ (wC h)
def n5(H:Hp):Prop:=∀b,H b=none∨∃o xs,H b=some (.frz o (.lst xs))
theorem Ec{P:Program}{w:World}{K:Kb}{mg mb:Str→Option Value}{CX:eL}{k:Nat}{fa a:Addr}{fd:FuncData}{x:Str}{sp:Sp}{s₁:Shared}{vs:List Value}{ns:List Int}
    (KX:K.In s₁.heap)(hns:s₁.heap.Ns mainGlobals mg)(hb:s₁.heap.Ns builtinsNs mb)(hbb:∀x:Str,x≠"__name__"→mb x=bootBuiltins x)(hlim:s₁.heap.NoLimit)(hg:s₁.gens=#[])
    (ha:s₁.heap.get? a=some {cls:= .type "list",data:= .seq vs.toArray})(hi:IntsAre vs ns)(hl:ns.length≤sizeLine)(hr:bB k callerA)
    (F:∀base:Heap,K.In base→base.Ns mainGlobals mg→aL P w K mg base CX k fa fd [x] sp)(hbind:∀(s:Shared) (u:Value),BindsTo s fd ⟨[u],[]⟩ [(x,u)])
    (hsp:∀H:Hp,n5 H→aX K H a (ns.map V.int)→sp [.ref a] H (fun v _=> v= .bl true) fun _ _ _=> False)
    (hCX:∀H e s',CX [] H s₁ (fun _ _ _=> False) e s'→False):
    codeAny (model P w) callerA (.call (.ref fa) ⟨[.ref a],[]⟩) (fun r s'=> r= .ok (.ret (.bool true))∧OldK s₁.heap s'.heap∧s'.os=s₁.os∧AllBare s'.gens) s₁:=by
  have rv:=wC hi
  have lenV:=hi.length
  have core:∀H:Hp,n5 H→aX K H a (ns.map V.int)→bT P w H s₁.heap→(∀b,H b≠none→b=a)→(H a≠none→K.lookup a=none)→
      codeAny (model P w) callerA (.call (.ref fa) ⟨[.ref a],[]⟩) (fun r s'=> r= .ok (.ret (.bool true))∧OldK s₁.heap s'.heap∧s'.os=s₁.os∧AllBare s'.gens) s₁:=by
    intro H hO hS hok hA hK
    have base_of:∀{b:Addr}{o:Obj},s₁.heap.get? b=some o→H b=none→(iz s₁.heap H).get? b=some o:=fun e n=> CF e n
    have noA:∀{b:Addr}{o:Obj}{es:Array DictEntry}{ep:Nat},s₁.heap.get? b=some o→o.data= .dict es ep→H b=none:=fun{b o es ep} e d=> by
      cases q:H b with
      | none=> rfl
      | some u=>
        have e':b=a:=hA b (by rw [q];simp)
        subst e'
        rw [ha] at e;cases e
        have d':Data.seq vs.toArray _=Data.dict es ep:=d
        cases d'
    have nsK:∀{b:Addr}{m:Str→Option Value},s₁.heap.Ns b m→(iz s₁.heap H).Ns b m:=fun{b m} ⟨o,es,ep,e,d,r⟩=> ⟨o,es,ep,base_of e (noA e d),d,r⟩
    have hKb:K.In (iz s₁.heap H):=fun b o e=> base_of (KX b o e) (by
      cases q:H b with
      | none=> rfl
      | some u=>
        have e':b=a:=hA b (by rw [q];simp)
        subst e'
        rw [hK (by rw [q];simp)] at e;cases e)
    have hM:Mod K mg (iz s₁.heap H):=⟨hKb,nsK hns,⟨mb,nsK hb,hbb⟩,let ⟨mc,h1,h2⟩:=hlim;⟨mc,nsK h1,h2⟩⟩
    have e0:gN P w K mg (iz s₁.heap H) callerA [] s₁ H:=⟨rfl,hM,fun b o e=> CG e,Qx (CD _ _),trivial,fun b hb=> absurd (show b∈([]:List Addr) from hb) (by simp),hok,.of_eq hg⟩
    refine codeAny_mono ((F _ hKb (nsK hns)).run callerA [] s₁ H ⟨[.ref a],[]⟩ [.ref a] [.ref a] _ _ hr e0 (hbind s₁ (.ref a)) (.cons rfl .nil) (hsp H hO hS)) fun r s' h=> ?_
    cases r with
    | error e=> exact(hCX H e s' h).elim
    | ok fl=>
      cases fl with
      | next=> exact LJ h
      | brk=> exact LJ h
      | cont=> exact LJ h
      | ret u=>
        obtain⟨v,H',os,bare,un,hok',r',q⟩:=h
        have q':v= .bl true:=q
        subst q'
        obtain rfl:u=Mt true:=r'
        refine⟨rfl,OldK.of_keep fun b o e=> ?_,os,bare⟩
        cases q:H b with
        | none=> exact un.keep b o e q (by intro z;exact absurd (show b∈([]:List Addr) from z) (by simp)) (by simp)
        | some u=>
          rcases hO b with z | ⟨ob,xs,z⟩
          · rw [q] at z;cases z
          · have z2:=un.frzs b ob _ z
            obtain⟨e1,_⟩:=hok b _ z
            obtain⟨e2,_⟩:=hok' b _ z2
            rw [e] at e1;cases e1
            exact e2
  cases hk:K.lookup a with
  | some o=>
    have e:=KX a o hk
    rw [ha] at e
    cases e
    refine core (fun _=> none) (fun _=> .inl rfl) (.inr ⟨_,vs.toArray,_,hk,rfl,rfl,rfl,by rw [Kt,lenV];exact hl,by simpa using rv⟩) (fun b u z=> by have z':(none:Option HO)=some u:=z;cases z') (fun b z=> absurd rfl z) fun z=> absurd rfl z
  | none=>
    refine core (fun b=> if b=a then some (.frz {cls:= .type "list",data:= .seq vs.toArray} (.lst (ns.map V.int))) else none) (fun b=> ?_) (.inl (.inr ⟨{cls:= .type "list",data:= .seq vs.toArray},if_pos rfl⟩)) (fun b u z=> ?_) (fun b z=> ?_) fun _=> hk
    · by_cases hb:b=a
      · exact .inr ⟨_,_,if_pos hb⟩
      · exact .inl (if_neg hb)
    · by_cases hb:b=a
      · have z':=(if_pos hb).symm.trans z
        cases z'
        subst hb
        exact⟨ha,by rw [Kd];exact hl,vs,_,rv,ha⟩
      · have z':=(if_neg hb).symm.trans z
        cases z'
    · by_cases hb:b=a
      · exact hb
      · exact absurd (if_neg hb) z
end L2
namespace L2
open PySem PySem.Spec PyProof.Rows
abbrev KOf{K:Kb}{h:Heap}(_:K.In h):Kb:=K
end L2
namespace L2
open PySem PySem.Spec PyProof.Rows
def inClass(s:Stmt)(j:Nat):Stmt:=match s with
  | .ClassDef _ _ _ body _ _ _ _ _ _ _=> body.getD j (.Pass ⟨0,0,0,0⟩)
  | _=> .Pass ⟨0,0,0,0⟩
def ay(s:Stmt):Arguments:=match s with
  | .FunctionDef _ a _ _ _ _ _ _ _ _=> a
  | _=> {posonlyargs:=[],args:=[],vararg:=none,kwonlyargs:=[],kw_defaults:=[],kwarg:=none,defaults:=[]}
def ax(s:Stmt):List Stmt:=match s with
  | .FunctionDef _ _ b _ _ _ _ _ _ _=> b
  | _=> []
def ah(s:Stmt):Scope:=match s with
  | .FunctionDef _ _ _ _ _ _ sc _ _ _=> sc
  | _=> {kind:= .function,names:=[],isGenerator:=false,isCoroutine:=false}
abbrev CX0:eL:=fun _ _ _ _ _ _=> False
abbrev E0:XK:=fun _ _ _=> False
theorem ao{X:Cx}:mq CX0 X E0:=fun _ _ _ _ _ _ _ h=> h.elim
structure aT (K:Kb) (x qual:Str) (st:Stmt) (f:Addr) (fd:FuncData):Prop where
  ex:∃(oc:Value)(od:Option Addr)(kV doc pm:Value)(an:Option Addr)(cdv ct:Value)(osl:Array (Option Value)),
    fd=Ke x qual (ay st) (ax st) (ah st) .none kV doc pm an cdv ct∧K.lookup f=some ⟨oc,od,.func fd,osl⟩∧Kp K cdv qual=true
  kp:Kn K (.ref f)=true
section
variable {P:Program} {w:World} {K:Kb} {mg:Str→Option Value} {base:Heap}
theorem aT.ok{x qual:Str}{st:Stmt}{f:Addr}{fd:FuncData}{N ps:List Str}{k:Nat}{sp:Sp}(F:aT K x qual st f fd)(S:aY N ps (ah st))(len:∀vs H Q E,sp vs H Q E→vs.length=ps.length)
    (hbody:∀(cdv:Value) (A:Around) (outer:List Env) (s:Shared) (H:Hp) (vs:List V) (Q:VK) (E:XK),bB k (A.deeper (envOfC qual (ah st) s.heap.objs.size f cdv))→sp vs H Q E→
      ∃t,bQ (iC CX0 P w K mg base N qual (ah st) f cdv A outer s H E).nox (ax st) t∧t {nx:=fun _ H'=> Q .non H',rt:=Q} (start N vs) H):aL P w K mg base CX0 (k+1) f fd ps sp:=by
  obtain⟨oc,od,kV,doc,pm,an,cdv,ct,osl,rfl,lk,hcd⟩:=F.ex
  refine Dy lk hcd S len fun A outer s H vs Q E hr hsp=> ?_
  obtain⟨t,h,q⟩:=hbody cdv A outer s H vs Q E hr hsp
  exact⟨t,h.nox,q⟩
theorem aT.binds{x qual:Str}{st:Stmt}{f:Addr}{fd:FuncData}{ps:List Str}(F:aT K x qual st f fd)
    (h:∀(kV doc pm:Value) (an:Option Addr) (cdv ct:Value) (us:List Value),us.length=ps.length→bindArgs (Ke x qual (ay st) (ax st) (ah st) .none kV doc pm an cdv ct) ⟨us,[]⟩=pure (ps.zip us)):aQ K fd ps []:=by
  obtain⟨oc,od,kV,doc,pm,an,cdv,ct,osl,rfl,lk,hcd⟩:=F.ex
  exact .all (h kV doc pm an cdv ct)
theorem bj{x qual:Str}{st:Stmt}{f:Addr}{oc:Value}{od an:Option Addr}{osl:Array (Option Value)}{kV doc pm cdv ct:Value}(l:K.lookup f=some ⟨oc,od,.func (Ke x qual (ay st) (ax st) (ah st) .none kV doc pm an cdv ct),osl⟩)
    (c:Kp K cdv qual=true)(k:Kn K (.ref f)=true):aT K x qual st f (Ke x qual (ay st) (ax st) (ah st) .none kV doc pm an cdv ct):=⟨⟨oc,od,kV,doc,pm,an,cdv,ct,osl,rfl,l,c⟩,k⟩
end
section
variable {X:Cx}
theorem pv(i:Nat){x:Str}{pos:Pos}(hN:X.N[i]?=some x:=by rfl)(hv:lW X.env.scope x:=by first | exact OR rfl | exact NN (OR rfl) | exact NN (NN rfl))(hd:(x==("__debug__":Str))=false:=by decide)
    (hcd:(x==("__classdict__":Str))=false:=by decide):PE X (.Name x pos) (eX i):=pZ hN hv hd hcd
end
def ar(H H':Hp):Prop:=∀b o,H b=some o→H' b=some o
theorem ar.refl(H:Hp):ar H H:=fun _ _ h=> h
theorem ar.trans{H H1 H2:Hp}(a:ar H H1)(b:ar H1 H2):ar H H2:=fun c o h=> b c o (a c o h)
end L2
namespace L2
open PySem PySem.Spec PyProof.Rows
def eh(env:Env)(names:List (Str×NameKind))(cs:List (Str×Addr)):List (Str×Addr):=
 names.foldl (fun cs p=> if (p.2==Ll)=true then(p.1,(env.cells.lookup p.1).getD 0)::cs else cs) cs
theorem wD{scope:Scope}{env:Env}(h:∀y∈scope.names,y.2= .free→∃c,env.cells.lookup y.1=some c):closureFor scope env=pure (eh env scope.names []):=by
 unfold closureFor
 have key:∀(l:List (Str×NameKind))(cs:List (Str×Addr)),(∀y∈l,y.2= .free→∃c,env.cells.lookup y.1=some c)→
   (forIn l cs fun(x:Str×NameKind) (r:List (Str×Addr))=> (if (x.2==Ll)=true then do let a←cellOf env x.1;pure (MM ((x.1,a)::r)) else pure (MM r):Sem (ForInStep (List (Str×Addr)))))=pure (eh env l cs):=by
  intro l
  induction l with
  | nil=> intro cs _;rfl
  | cons p r ih=>
   intro cs hl
   rw [P9]
   by_cases hk:(p.2==Ll)=true
   ·obtain⟨c,hc⟩:=hl p K3 (by simpa using hk)
    rw [if_pos hk]
    have e:cellOf env p.1=pure c:=by unfold cellOf;rw [hc]
    rw [e]
    simp only [pure_bind]
    rw [ih _ fun y hy=> hl y (K1 _ hy)]
    unfold eh
    rw [LX,if_pos hk,hc]
    rfl
   ·rw [if_neg hk]
    simp only [pure_bind]
    rw [ih _ fun y hy=> hl y (K1 _ hy)]
    unfold eh
    rw [LX,if_neg hk]
 have:=key scope.names [] h
 simp only [bind_pure]
 exact this
theorem n8{env:Env}:∀(l:List (Str×NameKind))(cs:List (Str×Addr)){x:Str}{c:Addr},(∀y∈l,y.2= .free→∃c,env.cells.lookup y.1=some c)→(∀y d,cs.lookup y=some d→env.cells.lookup y=some d)→
  (eh env l cs).lookup x=some c→env.cells.lookup x=some c
 | [],cs,x,c,_,hc,h=> hc x c h
 | p::r,cs,x,c,hl,hc,h=> by
  unfold eh at h
  rw [LX] at h
  by_cases hk:(p.2==Ll)=true
  ·rw [if_pos hk] at h
   refine n8 r _ (fun y hy=> hl y (K1 _ hy)) (fun y d e=> ?_) h
   obtain⟨a,ha⟩:=hl p K3 (by simpa using hk)
   rw [Lm] at e
   cases hx:y==p.1 with
   | true=>
    rw [hx] at e
    have hy:y=p.1:=by simpa using hx
    rw [ha] at e
    cases e
    rw [hy];exact ha
   | false=> rw [hx] at e;exact hc y d e
  ·rw [if_neg hk] at h
   exact n8 r cs (fun y hy=> hl y (K1 _ hy)) hc h
theorem qD{env:Env}:∀(l:List (Str×NameKind))(cs:List (Str×Addr)){x:Str},(∃c,cs.lookup x=some c)→∃c,(eh env l cs).lookup x=some c
 | [],cs,x,h=> h
 | p::r,cs,x,⟨c,h⟩=> by
  unfold eh
  rw [LX]
  by_cases hk:(p.2==Ll)=true
  ·rw [if_pos hk]
   refine qD r _ ?_
   rw [Lm]
   cases hx:x==p.1 with
   | true=> exact⟨_,rfl⟩
   | false=> exact⟨c,h⟩
  ·rw [if_neg hk];exact qD r cs ⟨c,h⟩
theorem qE{env:Env}:∀(l:List (Str×NameKind))(cs:List (Str×Addr)){x:Str},(x,Ll)∈l→∃c,(eh env l cs).lookup x=some c
 | [],_,_,h=> by simp at h
 | p::r,cs,x,h=> by
  unfold eh
  rw [LX]
  rcases Kz.mp h with e | e
  ·subst e
   rw [if_pos (by rfl)]
   exact qD r _ ⟨(env.cells.lookup x).getD 0,by rw [Lm];simp⟩
  ·exact qE r _ e
theorem Ed{env:Env}{scope:Scope}{x:Str}(h:(relabel scope env).names.lookup x=some .cell∨(relabel scope env).names.lookup x=some .free)(hc:∀y∈scope.names,y.2≠ .cell):(x,Ll)∈scope.names:=by
 have key:∀(l:List (Str×NameKind)),(∀y∈l,y.2≠ .cell)→
   ((l.map fun(n,k)=> if (k==Ll && env.scope.kind== .function && env.kindOf n==some .cell) then(n,N4) else(n,k)).lookup x=some .cell∨
   (l.map fun(n,k)=> if (k==Ll && env.scope.kind== .function && env.kindOf n==some .cell) then(n,N4) else(n,k)).lookup x=some .free)→(x,Ll)∈l:=by
  intro l
  induction l with
  | nil=> intro _ h;simp at h
  | cons p r ih=>
   obtain⟨n,k⟩:=p
   intro hl h
   rw [Kj] at h
   have hk:k≠ .cell:=hl (n,k) K3
   by_cases hx:x=n
   ·subst hx
    by_cases hq:(k==Ll && env.scope.kind== .function && env.kindOf x==some .cell)=true
    ·have:k= .free:=by simp only [Lf,beq_iff_eq] at hq;exact hq.1.1
     subst this;exact K3
    ·simp only [if_neg hq,Lm,beq_self_eq_true] at h
     rcases h with h | h
     ·exact absurd (K5 h) hk
     ·have e:=K5 h;subst e;exact K3
   ·have hb:(x==n)=false:=by simpa using hx
    refine K1 _ (ih (fun y hy=> hl y (K1 _ hy)) ?_)
    by_cases hq:(k==Ll && env.scope.kind== .function && env.kindOf n==some .cell)=true
    ·simpa only [if_pos hq,Lm,hb] using h
    ·simpa only [if_neg hq,Lm,hb] using h
 exact key scope.names hc h
theorem Ee{env:Env}{scope:Scope}{x:Str}(h:scope.names.lookup x=some .free):(relabel scope env).names.lookup x=some .cell∨(relabel scope env).names.lookup x=some .free:=by
 have key:∀(l:List (Str×NameKind)),l.lookup x=some .free→
   ((l.map fun(n,k)=> if (k==Ll && env.scope.kind== .function && env.kindOf n==some .cell) then(n,N4) else(n,k)).lookup x=some .cell∨
   (l.map fun(n,k)=> if (k==Ll && env.scope.kind== .function && env.kindOf n==some .cell) then(n,N4) else(n,k)).lookup x=some .free):=by
  intro l
  induction l with
  | nil=> intro h;simp at h
  | cons p r ih=>
   obtain⟨n,k⟩:=p
   intro h
   rw [Kj]
   by_cases hx:x=n
   ·subst hx
    rw [Lm,beq_self_eq_true] at h
    have e:k= .free:=K5 h
    by_cases hq:(k==Ll && env.scope.kind== .function && env.kindOf x==some .cell)=true
    ·left;simp only [if_pos hq,Lm,beq_self_eq_true]
    ·right;simp only [if_neg hq,Lm,beq_self_eq_true];rw [e]
   ·have hb:(x==n)=false:=by simpa using hx
    rw [Lm,hb] at h
    by_cases hq:(k==Ll && env.scope.kind== .function && env.kindOf n==some .cell)=true
    ·simpa only [if_pos hq,Lm,hb] using ih h
    ·simpa only [if_neg hq,Lm,hb] using ih h
 exact key scope.names h
structure bz (sc:Scope) (N N':List Str) (k:Nat) (fr:List Nat) (scope:Scope):Prop where
 kind:scope.kind= .function
 cell:∀y∈scope.names,y.2≠ .cell
 names:∀y∈scope.names,y.2= .local→scope.names.lookup y.1=some .local
 nd:N'.Nodup
 slot:fr.map (fun j=> N[j]?)=(N'.drop k).map some
 frees:∀x∈N'.drop k,scope.names.lookup x=some .free
 outer:∀y∈scope.names,y.2= .free→sc.names.lookup y.1=some .cell∨sc.names.lookup y.1=some .free
 outer':∀x∈N'.drop k,sc.names.lookup x=some .cell∨sc.names.lookup x=some .free
 len:N'.length=k+fr.length
def bF(X:Cx)(scope:Scope)(N':List Str)(fp:List Addr)(C:Addr)(s:Shared)(H:Hp):Cx where
 prog:=X.prog
 w:=X.w
 K:=X.K
 mg:=X.mg
 base:=X.base
 A:=X.A
 N:=N'
 s₀:=s
 H₀:=H
 env:=compEnvC scope (eh X.env scope.names []) C X.env
 outer:=X.stack
 stack:=X.stack
 ex:=fp
 fn:=fun _=> false
 calm:=X.calm
 pn:=[]
 xe:=fun _ _=> False
def bM(k:Nat)(fr:List Nat)(σ:St):St:=Kx k none++fr.map fun j=> (σ[j]?).join
def j7(σ σ':St):Prop:=σ.length=σ'.length∧∀(i:Nat) v,σ[i]?=some (some v)→σ'[i]?=some (some v)
section
variable {X:Cx} {pins:List (Addr×Obj)} {σ:St} {H:Hp} {s:Shared} {scope:Scope} {N':List Str} {k:Nat} {fr:List Nat} {fp:List Addr}
theorem Ef(S:bz X.env.scope X.N N' k fr scope)(I:af X pins σ H s)(hf:∀b∈fp,fP X pins H b)(hlt:∀b∈fp,b < s.heap.objs.size):
  (bF X scope N' fp s.heap.objs.size s H).Ok:=by
 have hcell:∀y∈scope.names,y.2= .free→∃c,X.env.cells.lookup y.1=some c:=fun y hy e=> I.ok.has y.1 (S.outer y hy e)
 have hcl:∀x c,(eh X.env scope.names []).lookup x=some c→X.env.cells.lookup x=some c:=fun x c e=> n8 scope.names [] hcell (fun _ _ z=> by simp at z) e
 refine⟨I.ok.mod,S.kind,I.ok.glob,I.ok.blt,Kk _,fun x y c h1 h2=> I.ok.inj x y c (hcl x c h1) (hcl y c h2),fun x hx=> qE _ _ (Ed hx S.cell),fun x c h=> absurd h (by simp [bF]),I.ok.hd,I.ok.frames,.inl rfl,fun b hb=> ⟨KN (hlt b hb),fun x c e=> (hf b hb).2.2.2.2.1 x c (hcl x c e)⟩,
  I.bs,KS I.ok.bsz I.sz,fun b o e hb=> ?_,fun b hb hb'=> ?_,I.stack,I.stkFree⟩
 ·rcases(hf b hb).2.2.2.1 with z | z
  ·exact I.ok.noex b o e z
  ·exact absurd (K9 (Kv e) (KS I.ok.bsz z)) (Mq _)
 ·rcases Kz.mp (I.stkSub b hb') with z | z
  ·exact(hf b hb).2.1 z
  ·exact(hf b hb).2.2.1 z
theorem Eg(S:bz X.env.scope X.N N' k fr scope)(I:af X pins σ H s)(hf:∀b∈fp,fP X pins H b)(hlt:∀b∈fp,b < s.heap.objs.size){h':Heap}{t':Nat}
  (hn:h'.Ns s.heap.objs.size (fun _=> none))(hk:∀b o,s.heap.get? b=some o→h'.get? b=some o):
  af (bF X scope N' fp s.heap.objs.size s H) [] (bM k fr σ) H {s with heap:=h',toks:=t'}:=by
 have hcell:∀y∈scope.names,y.2= .free→∃c,X.env.cells.lookup y.1=some c:=fun y hy e=> I.ok.has y.1 (S.outer y hy e)
 have hcl:∀x c,(eh X.env scope.names []).lookup x=some c→X.env.cells.lookup x=some c:=fun x c e=> n8 scope.names [] hcell (fun _ _ z=> by simp at z) e
 refine⟨Ef S I hf hlt,rfl,I.bare,Un.kept hk,⟨_,hn,fun i x v h1 h2 h3=> ?_⟩,fun x c e=> ?_,I.hok.fresh (Kk _),fun x c e=> I.freeC x c (hcl x c e),fun p hp=> absurd hp (by simp [bF]),I.hok.kept hk,?_⟩
 ·have hi:k≤i:=by
   rcases Mo i k with z | z
   ·exfalso
    unfold bM at h2
    rw [L7 (by simpa using z),ME,if_pos z] at h2
    cases h2
   ·exact z
  have h2':(fr.map fun j=> (σ[j]?).join)[i - k]?=some (some v):=by
   unfold bM at h2
   rw [L0 (by simpa using hi)] at h2
   simpa using h2
  have h1':(N'.drop k)[i - k]?=some x:=by
   rw [List.getElem?_drop,Nat.add_sub_cancel' hi];exact h1
  have hmem:x∈N'.drop k:=KW h1'
  have e2:(fr.map fun j=> X.N[j]?)[i - k]?=some (some x):=by
   rw [S.slot,KQ,h1'];rfl
  obtain⟨j,hj,ej⟩:∃j,fr[i - k]?=some j∧X.N[j]?=some x:=by
   rw [KQ] at e2
   cases e:fr[i - k]? with
   | none=> rw [e] at e2;cases e2
   | some j=> rw [e] at e2;exact⟨j,rfl,K5 e2⟩
  have hv:σ[j]?=some (some v):=by
   rw [KQ,hj] at h2'
   have h3':(σ[j]?).join=some v:=K5 h2'
   cases e:σ[j]? with
   | none=> rw [e] at h3';cases h3'
   | some o=> rw [e] at h3';rw [show o=some v from h3']
  obtain⟨m,hn0,hl⟩:=I.loc
  have ho:=S.outer' x hmem
  obtain⟨u,ru,lk⟩:=hl j x v ej hv (.inr ho)
  refine⟨u,ru,.inr ⟨Ee (S.frees x hmem),?_⟩⟩
  rcases lk with⟨z,_⟩ | ⟨_,c,hc,hx⟩
  ·exfalso
   rcases ho with ho | ho
   ·exact absurd (z.symm.trans ho) (by simp)
   ·exact absurd (z.symm.trans ho) (by simp)
  ·obtain⟨c',hc'⟩:=qE (env:=X.env) scope.names [] (Mh (S.frees x hmem))
   have:=hcl x c' hc'
   rw [hc] at this;cases this
   obtain⟨o,ho,hd⟩:=hx
   exact⟨c,hc',o,hk c o ho,hd⟩
 ·obtain⟨v,o,ho,hd⟩:=I.cell x c (hcl x c e)
  exact⟨v,o,hk c o ho,hd⟩
 ·unfold bM
  show _=N'.length
  rw [KR,L4,Kd,S.len]
end
end L2
namespace L2
open PySem PySem.Spec PyProof.Rows
section
variable {prog:Program} {w:World} {A:Around} {E:Value→Shared→Prop} {R:Result→Shared→Prop} {s:Shared}
theorem Eh{elt target iter:Expr}{ifs:List Expr}{scope:Scope}{pos:Pos}{it acc:Value}{env:Env}(I:Nat→Shared→Prop)
  (turn:∀n s,I n s→wpAny (model prog w) A (pyNext it) (fun r s₁=> match r with
   | none=> R (.ok .next) s₁
   | some v=> wpAny (model prog w) A (letOwnedTupleGo target it v) (fun _ s₁'=> wpAny (model prog w) A (assign target env v) (fun _ s₂=>
     wpAny (model prog w) A (forIn ifs true fun c r=> if r=true then do let ok←isTrue c env (eval c env);pure (MM ok) else pure (MM r)) (fun ok s₃=>
      if ok=true then wpAny (model prog w) A (eval elt env) (fun x s₄=>
       wpAny (model prog w) A (call (.builtin "list.append") [acc,x]) (fun _ s₅=> ∃m,m < n∧I m s₅) (fun _ _=> False) s₄) (fun _ _=> False) s₃
      else ∃m,m < n∧I m s₃) (fun _ _=> False) s₂) (fun _ _=> False) s₁') (fun _ _=> False) s₁) (fun _ _=> False) s)
  (n:Nat)(h:I n s):
  codeAny (model prog w) A (.compLoop (.ListComp elt [⟨target,iter,ifs,0⟩] scope pos) 0 it acc env) R s:=by
 refine codeAny_loop rfl I (fun n s hI=> ?_) n h
 show wpAny _ A ((compTurn (.ListComp elt [⟨target,iter,ifs,0⟩] scope pos) 0 it acc env).onRaise (fun x=> do noteFrame x env;theTreesLotGoes x)) _ _ s
 refine wpAny_noted ?_
 rw [compTurn_list]
 refine wpAny_bind (wpAny_standAt (wpAny_bind (wpAny_mono (turn n s hI) (fun r s₁ h₁=> ?_) fun _ _ h'=> h'.elim)))
 cases r with
 | none=> exact wpAny_pure h₁
 | some v=>
  refine wpAny_bind (wpAny_mono h₁ (fun _ s₁' h₁'=> ?_) fun _ _ h'=> h'.elim)
  refine wpAny_bind (wpAny_mono h₁' (fun _ s₂ h₂=> wpAny_bind (wpAny_mono h₂ (fun ok s₃ h₃=> ?_) fun _ _ h'=> h'.elim)) fun _ _ h'=> h'.elim)
  cases ok with
  | false=> exact wpAny_pure ⟨rfl,h₃⟩
  | true=>
   exact wpAny_bind (wpAny_bind (wpAny_mono h₃ (fun x s₄ h₄=> wpAny_bind (wpAny_mono h₄ (fun _ s₅ h₅=> wpAny_pure (wpAny_pure ⟨rfl,h₅⟩)) fun _ _ h'=> h'.elim)) fun _ _ h'=> h'.elim))
end
def eN(X:Cx)(ifs:List Expr)(t:TT):Prop:=
 ∀(pins:List (Addr×Obj))(s:Shared)(σ:St)(H:Hp)(Q:Bool→Hp→Prop),af X pins σ H s→t σ H Q→
  wpAny (model X.prog X.w) X.A (forIn ifs true fun c r=> if r=true then do let ok←isTrue c X.env (eval c X.env);pure (MM ok) else pure (MM r)) (TP X pins σ Q) X.xe s
def wF:TT:=fun _ H Q=> Q true H
theorem wG{X:Cx}:eN X [] wF:=fun pins s σ H Q I h=> wpAny_tests_nil ⟨H,I,h⟩
theorem dA{X:Cx}{c:Expr}{t:TT}(h:PT X c t):eN X [c] t:=fun pins s σ H Q I hq=> wpAny_tests_one (h pins s σ H Q I hq)
theorem bT.but{P:Program}{w:World}{H:Hp}{h h':Heap}{C:Addr}(x:bT P w H h)(hC:H C=none)(k:∀b o,b≠C→h.get? b=some o→h'.get? b=some o):bT P w H h':=fun a o e=> by
 refine(x a o e).stay (fun b u hb q=> k b u ?_ q) (fun _ q=> q) fun _ _ q=> q
 intro z
 subst z
 rcases hb with z | z
 ·rw [←z,hC] at e;cases e
 ·rw [hC] at z;cases z
def jv(wi:TI)(g:TG)(tc:TT)(te:TE)(k:Nat)(fr:List Nat):TE:=fun σ H Q=> wi σ H fun J H1=> ∀D,H1 D=none→∃W:Nat→Nat→Hp→Prop,(∃m,W 0 m (au H1 D (.lst [])))∧∀i m H,W i m H→
 (J.stop i H∧Q (.ref D) H)∨(J.go i H∧∀x H',J.yld i H x H'→g x (bM k fr σ) H' fun σ2 H2=> j7 (bM k fr σ) σ2∧tc σ2 H2 fun ok H3=>
  if ok=true then te σ2 H3 fun y H4=> ∃ys,H4 D=some (.lst ys)∧ys.length < sizeLine∧∃m',m' < m∧W (i+1) m' (au H4 D (.lst (ys++[y])))
  else ∃m',m' < m∧W (i+1) m' H3)
section
variable {X:Cx} {tg iter elt:Expr} {ifs:List Expr} {scope:Scope} {N':List Str} {k:Nat} {fr:List Nat} {wi:TI} {g:TG} {tc:TT} {te:TE} {pos:Pos}
theorem wH{use:Option (Value→Sem Unit)}{Q':Value→Shared→Prop}{pins:List (Addr×Obj)}{s:Shared}{σ:St}{H:Hp}{Q:VK}(hc:X.calm=true)(S:bz X.env.scope X.N N' k fr scope)(hi:PI X tg iter wi)
  (hg:∀fp C s H,PG (bF X scope N' fp C s H) tg g)(hf:∀fp C s H,eN (bF X scope N' fp C s H) ifs tc)(he:∀fp C s H,PE (bF X scope N' fp C s H) elt te)
  (I:af X pins σ H s)(h:jv wi g tc te k fr σ H Q)
  (hQ:∀D C s' H',C≠X.env.locals→af X pins σ H' s'→(∀h',Ma C s'.heap h'→af X pins σ H' {s' with heap:=h'})→Q (.ref D) H'→(∃m,s'.heap.Ns C m)→X.env.locals < C→H' C=none∧(∀x c,X.env.cells.lookup x=some c→c≠C)∧(∀p∈X.pn++pins,p.1≠C)→compPost (model X.prog X.w) X.A X.xe use Q' (.ref D) C (.ok .next) s'):
  wpAny (model X.prog X.w) X.A (eval iter X.env) (fun x s₁=> wpAny (model X.prog X.w) X.A (pyIter x) (fun it s₂=> wpAny (model X.prog X.w) X.A (newList []) (fun acc s₃=>
   wpAny (model X.prog X.w) X.A (newFunctionEnv scope X.env.globals (eh X.env scope.names []) [] X.env.qual none .none (some X.env)) (fun cenv s₄=>
    codeAny (model X.prog X.w) X.A (.compStart (.ListComp elt [⟨tg,iter,ifs,0⟩] scope pos) 0 it acc {cenv with scope:=relabel scope X.env}) (compPost (model X.prog X.w) X.A X.xe use Q' acc cenv.locals) s₄) X.xe s₃) X.xe s₂) X.xe s₁) X.xe s:=by
 refine aB (hi pins s σ H _ I h) fun v s1 h1=> aB h1 fun itv s2 h2=> ?_
 obtain⟨it,fp,tn,J,H2,e,I2,T,st2,f2,wW⟩:=h2
 subst e
 refine wpAny_newObj_type ?_
 have hD0:H2 s2.heap.objs.size=none:=I2.hok.fresh (Kk _)
 obtain⟨W,⟨m0,w0⟩,turn⟩:=wW _ hD0
 generalize hD:s2.heap.objs.size=D at*
 have I3:af X pins σ (au H2 D (.lst [])) {s2 with heap:=s2.heap.push {cls:= .type "list",dict:=none,data:= .seq ([]:List Value).toArray}}:=by
  have:=I2.lnew (ys:=[]) (its:=[]) (t':=s2.toks) .nil (Lj _)
  rw [hD] at this
  exact this
 generalize hs3:({s2 with heap:=s2.heap.push {cls:= .type "list",dict:=none,data:= .seq ([]:List Value).toArray}}:Shared)=s3 at*
 have up23:∀b o,s2.heap.get? b=some o→s3.heap.get? b=some o:=fun b o e=> by rw [←hs3];exact Kg _ e
 have fpD:∀b∈fp,b≠D:=fun b hb z=> by
  obtain⟨o,ho,_⟩:=T.obj _ _ st2 b hb
  have:=Kv ho
  rw [hD,z] at this
  exact Mq _ this
 have f3:∀b∈fp,fP X pins (au H2 D (.lst [])) b:=fun b hb=> ⟨by rw [aJ (fpD b hb)];exact(f2 b hb).1,(f2 b hb).2⟩
 have st3:tn 0 s3.heap:=T.keep _ _ _ st2 fun b hb o e=> up23 b o e
 have lt3:∀b∈fp,b < s3.heap.objs.size:=fun b hb=> by obtain⟨o,ho,_⟩:=T.obj _ _ st3 b hb;exact Kv ho
 refine wpAny_newFunctionEnv S.cell (by intro y hy;simp at hy) (fun h₁ hns₁ hsb₁=> ?_) S.kind
 have up34:∀b o,s3.heap.get? b=some o→h₁.get? b=some o:=fun b o e=> hsb₁.extBut b o (KN (Kv e)) (Kg _ e)
 have I4:=Eg (t':=s3.toks+([]:List (Str×Value)).length) S I3 f3 lt3 hns₁ up34
 have st4:tn 0 h₁:=T.keep _ _ _ st3 fun b hb o e=> up34 b o e
 generalize hX':bF X scope N' fp s3.heap.objs.size s3 (au H2 D (.lst []))=X' at*
 have hg':PG X' tg g:=by rw [←hX'];exact hg _ _ _ _
 have hf':eN X' ifs tc:=by rw [←hX'];exact hf _ _ _ _
 have he':PE X' elt te:=by rw [←hX'];exact he _ _ _ _
 have eP:X'.prog=X.prog:=by rw [←hX'];rfl
 have eW:X'.w=X.w:=by rw [←hX'];rfl
 have eK:X'.K=X.K:=by rw [←hX'];rfl
 have eA:X'.A=X.A:=by rw [←hX'];rfl
 have eC:X'.calm=true:=by rw [←hX'];exact hc
 have eE:X'.xe=fun _ _=> False:=by rw [←hX'];rfl
 have eEnv:X'.env=compEnvC scope (eh X.env scope.names []) s3.heap.objs.size X.env:=by rw [←hX'];rfl
 have fpx:∀{H':Hp},(∀b∈fp,H' b=none)→∀b∈fp,fP X' [] H' b:=fun{H'} hn b hb=> by
  refine⟨hn b hb,?_,?_,.inl ?_,?_,?_⟩
  ·rw [eEnv];exact KN (lt3 b hb)
  ·have:=I4.ok.exfs b (by rw [←hX'];exact hb);exact this
  ·rw [←hX'];exact hb
  ·have:=I4.ok.exf b (by rw [←hX'];exact hb);exact this.2
  ·intro p hp;rw [←hX'] at hp;simp [bF] at hp
 have fin:∀(s':Shared)(H':Hp)(σ':St),af X' [] σ' H' s'→Q (.ref D) H'→compPost (model X.prog X.w) X.A X.xe use Q' (.ref D) s3.heap.objs.size (.ok .next) s':=fun s' H' σ' J q=> by
  have un:Un (fm X.stack) fp (au H2 D (.lst [])) H' s3.heap s'.heap:=by have:=J.base;rw [←hX'] at this;exact this
  have jos:s'.os=s3.os:=by have:=J.os;rw [←hX'] at this;exact this
  have hC:H' s3.heap.objs.size=none:=by have:=J.free;rw [eEnv] at this;exact this
  have hok':bT X.prog X.w H' s'.heap:=by have:=J.hok;rw [eP,eW] at this;exact this
  have gS:∀h',Ma s3.heap.objs.size s'.heap h'→af X pins σ H' {s' with heap:=h'}:=fun h' hs'=> by
   have un':Un (fm X.stack) fp (au H2 D (.lst [])) H' s3.heap h':=
    ⟨fun b o e n h1 h2=> hs'.extBut b o (KN (Kv e)) (un.keep b o e n h1 h2),fun b o e n h1 h2=> by
     obtain⟨sl,z⟩:=un.slot b o e n h1 h2
     exact⟨sl,hs'.extBut b _ (KN (Kv e)) z⟩,un.free,fun b o e h2=> by
     obtain⟨o',z⟩:=un.there b o e h2
     exact⟨o',hs'.extBut b o' (KN (Kv e)) z⟩,un.tups,un.frzs,un.tbls⟩
   exact af.call' (s':={s' with heap:=h'}) I3 jos un' (hok'.but hC hs'.extBut) J.bare fun b hb=> ⟨(f3 b hb).2.2.2.1,(f3 b hb).2.1,(f3 b hb).2.2.2.2.1,(f3 b hb).2.2.2.2.2⟩
  have nsC:∃m,s'.heap.Ns s3.heap.objs.size m:=by
   obtain⟨m,hn,_⟩:=J.loc
   rw [eEnv] at hn
   exact⟨m,hn⟩
  exact hQ D s3.heap.objs.size s' H' (NL I3.lt) (gS s'.heap (.refl ..)) gS q nsC I3.lt
   ⟨hC,fun x c e=> by obtain⟨v,o,ho,_⟩:=I3.cell x c e;exact KN (Kv ho),fun p hp=> KN (Kv (I3.pin p hp).1)⟩
 have loop:∀s4:Shared,s4=({s3 with heap:=h₁,toks:=s3.toks+([]:List (Str×Value)).length}:Shared)→
   codeAny (model X.prog X.w) X.A (.compLoop (.ListComp elt [⟨tg,iter,ifs,0⟩] scope pos) 0 (.ref it) (.ref D) X'.env) (compPost (model X.prog X.w) X.A X.xe use Q' (.ref D) s3.heap.objs.size) s4:=by
  rintro s4 rfl
  refine Eh (fun n s'=> ∃i H',af X' [] (bM k fr σ) H' s'∧tn i s'.heap∧(∀b∈fp,H' b=none)∧W i n H') ?_ m0 ⟨0,_,I4,st4,fun b hb=> (f3 b hb).1,w0⟩
  rintro n s5 ⟨i,H5,I5,st5,fr5,w5⟩
  rcases turn i n H5 w5 with⟨stop,qn⟩ | ⟨go,step⟩
  ·have:=T.done X' eP eW eK eC i [] s5 _ H5 (fun _ _=> False) I5 (fpx fr5) st5 stop
   rw [eA] at this
   refine aB this fun r s6 ⟨hr,I6⟩=> ?_
   subst hr
   exact fin s6 H5 _ I6 qn
  ·have:=T.item X' eP eW eK eC i [] s5 _ H5 (fun _ _=> False) I5 (fpx fr5) st5 go
   rw [eA] at this
   refine aB this fun r s6 ⟨u,hr,h6⟩=> ?_
   subst hr
   refine aB h6 fun _ s7 ⟨x,H7,I7,r7,y7,st7,fr7⟩=> ?_
   have I7':=I7.pinned (fpx fr7) (T.obj _ _ st7)
   have h8:=hg' _ s7 _ H7 x u _ I7' r7 (step x H7 y7)
   rw [eP,eW,eA,eE] at h8
   refine aB h8 fun _ s8 ⟨σ8,H8,I8,kp,q8⟩=> ?_
   have h9:=hf' _ s8 σ8 H8 _ I8 q8
   rw [eP,eW,eA,eE] at h9
   have again:∀{s9:Shared}{H9:Hp}{n':Nat},af X' ([]++mj fp s7.heap) σ8 H9 s9→n' < n→W (i+1) n' H9→∃m,m < n∧∃i H',af X' [] (bM k fr σ) H' s9∧tn i s9.heap∧(∀b∈fp,H' b=none)∧W i m H':=fun{s9 H9 n'} I9 hn' w9=> by
    refine⟨n',hn',i+1,H9,I9.unpinned.weak kp.1 kp.2,T.keep _ _ _ st7 fun b hb o e=> (I9.pin (b,o) (K7 _ (K7 _ (nP hb e)))).1,fun b hb=> ?_,w9⟩
    obtain⟨o,e,d⟩:=T.obj _ _ st7 b hb
    exact(I9.pin (b,o) (K7 _ (K7 _ (nP hb e)))).2.1
   refine aB h9 fun ok s9 ⟨H9,I9,q9⟩=> ?_
   cases ok with
   | false=>
    rw [if_neg Ki] at q9
    obtain⟨m',hm',w9⟩:=q9
    rw [if_neg Ki]
    exact again I9 hm' w9
   | true=>
    rw [if_pos rfl] at q9
    rw [if_pos rfl]
    have h10:=he' _ s9 σ8 H9 _ I9 q9
    rw [eP,eW,eA,eE] at h10
    refine aB h10 fun y s10 ⟨yv,H10,I10,r10,ys,hys,hz,m',hm',w10⟩=> ?_
    have h11:=wB (X:=X') _ s10 σ8 H10 (.ref D) [yv] (.ref D) [y] (fun _ H'=> W (i+1) m' H') I10 rfl (.cons r10 .nil) ⟨D,ys,yv,rfl,rfl,hys,hz,w10⟩
    rw [eP,eW,eA,eE] at h11
    exact aB h11 fun _ s11 uu61=> by obtain⟨_,H11,I11,_,q11⟩:=uu61;exact again I11 hm' q11
 have hE:({newEnv scope s3.heap.objs.size X.env.globals (eh X.env scope.names []) X.env.qual none .none (some X.env) builtinsNs with scope:=relabel scope X.env}:Env)=X'.env:=by
  rw [eEnv];rfl
 have goal:=codeAny_compStart_list (elt:=elt) (target:=tg) (iter:=iter) (ifs:=ifs) (rest:=[]) (scope:=scope) (pos:=pos) (loop _ rfl) (T.self X.A 0 _ _ _ st4 (loop _ rfl))
 rw [←hE] at goal
 exact goal
theorem mw(hc:X.calm=true)(S:bz X.env.scope X.N N' k fr scope)(hi:PI X tg iter wi)
  (hg:∀fp C s H,PG (bF X scope N' fp C s H) tg g)(hf:∀fp C s H,eN (bF X scope N' fp C s H) ifs tc)(he:∀fp C s H,PE (bF X scope N' fp C s H) elt te)
  (hs:∀x,foldedSetIterable iter X.env x=pure x:=by intro _;rfl):PE X (.ListComp elt [⟨tg,iter,ifs,0⟩] scope pos) (jv wi g tc te k fr):=by
 intro pins s σ H Q I h
 have hcell:∀y∈scope.names,y.2= .free→∃c,X.env.cells.lookup y.1=some c:=fun y hy e=> I.ok.has y.1 (S.outer y hy e)
 rw [eval_ListComp]
 refine wpAny_comprehension_free (use:=none) rfl hs (wD hcell) S.kind S.names (wH hc S hi hg hf he I h ?_)
 intro D C s' H' hC J gS q ns hlt _
 obtain⟨m,hn⟩:=ns
 exact⟨m,hn,fun h' hs'=> ⟨.ref D,H',gS h' hs',rfl,q⟩⟩
theorem Ei{i:Nat}{x:Str}{pos' spos:Pos}(hN:X.N.Nodup)(hxi:X.N[i]?=some x)(hx:gH X.env.scope x)(hc:X.calm=true)(S:bz X.env.scope X.N N' k fr scope)(hi:PI X tg iter wi)
  (hg:∀fp C s H,PG (bF X scope N' fp C s H) tg g)(hf:∀fp C s H,eN (bF X scope N' fp C s H) ifs tc)(he:∀fp C s H,PE (bF X scope N' fp C s H) elt te)
  (hsw:swapsWith (.ListComp elt [⟨tg,iter,ifs,0⟩] scope pos) (some (.Name x pos')) spos.line X.env=pure true)
  (hs:∀x,foldedSetIterable iter X.env x=pure x:=by intro _;rfl)(hfn:X.fn x=true∨X.env.scope.names.lookup x=some .local:=by first | exact .inl rfl | exact .inr rfl | assumption):
  PS X (.Assign [.Name x pos'] (.ListComp elt [⟨tg,iter,ifs,0⟩] scope pos) spos) (lZ (jv wi g tc te k fr) (gJ i)):=by
 intro pins s σ H D I h
 have hcell:∀y∈scope.names,y.2= .free→∃c,X.env.cells.lookup y.1=some c:=fun y hy e=> I.ok.has y.1 (S.outer y hy e)
 rw [exec_Assign_Name_used _ _ _ _ hsw]
 refine wpAny_bind (wpAny_standAt (wpAny_bind ?_))
 show wpAny _ X.A (do let _←comprehension (.ListComp elt [⟨tg,iter,ifs,0⟩] scope pos) scope X.env _ (newList []) false (eval iter X.env) (some (assign (.Name x pos') X.env))) _ _ s
 refine wpAny_bind (wpAny_mono (wpAny_comprehension_free (use:=some (assign (.Name x pos') X.env)) (Q:=fun _ s'=> ∃σ' H',af X pins σ' H' s'∧D.nx σ' H') rfl hs (wD hcell) S.kind S.names (wH hc S hi hg hf he I h ?_)) (fun _ s' hq=> wpAny_pure (wpAny_pure hq)) fun _ _ e=> e)
 intro D' C s' H' hC J gS q ns hlt ⟨c1,c2,c3⟩
 obtain⟨m,hn⟩:=ns
 show wpAny _ X.A (assign (.Name x pos') X.env (.ref D')) _ _ _
 refine wpAny_assign_Name (uV J hN hxi hx (v:= .ref D') rfl (fun s2 J2 sb=> ?_) hfn)
 obtain⟨a,sb,ha⟩:=sb
 have hCa:C≠a:=by
  rcases ha with z | z
  ·rw [z];exact hC
  ·exact Ne.symm (c2 _ _ z)
 refine⟨m,hn.sameBut sb hCa,fun h3 hs3=> ⟨_,H',?_,q⟩⟩
 exact J2.turned (t':=s2.toks) hs3.extBut c1 hC (.inr (KS J.ok.above (Mz hlt))) c2 c3
end
end L2
namespace L2
open PySem PySem.Spec PyProof.Rows
section
variable {X:Cx}
theorem wI(hc:X.calm=true):dO X (.builtin "sum") (fun xs H Q=> ∃(a:Addr)(ns:List Int),xs=[.ref a]∧aX X.K H a (ns.map V.int)∧Q (.int ns.sum) H):=by
 intro pins s σ H xs us Q I r h
 obtain⟨a,ns,rfl,hl,q⟩:=h
 obtain⟨u,rfl,rx⟩:=dY r
 cases rx
 obtain⟨its,rv,p,hz⟩:=I.list hl
 have hi:IntsAre its ns:=DK rv
 have hall:AllInts its.toArray:=hi.allInts
 obtain⟨ys,hys⟩:=hall.items
 have hn:numsOf its.toArray.toList=ns:=by rw [show its.toArray.toList=its from rfl,hi.numsOf]
 rw [hys,nums_intItems] at hn
 have hl':=p.isList
 rw [hys] at hl'
 refine sum_intListG (I.ok.hd hc) hl' fun h' tk t' hk=> ?_
 refine⟨.int ns.sum,H,I.kept hk,⟨t',?_⟩,q⟩
 rw [preSum_eq,Lc (by simp),hn]
end
end L2
namespace Att
open PySem PySem.W PySem.Calls PyProof.Rows
theorem Ej{ns:List Int}(h:P2 [Of (ns.map ML)]=true):∀n∈ns,LC n≤1048576:=by
 have h1:(Of (ns.map ML)).layable=true:=by simpa [P2] using h
 have h2:(Of (ns.map ML)).weight≤1048576:=(PySem.W.layableW_iff.mp h1).2.2
 have key:∀l:List Int,∀n∈l,LC n≤Na (l.map ML):=by
  intro l
  induction l with
  | nil=> intro n hn;simp at hn
  | cons x r ih=>
   intro n hn
   have e:Na ((x::r).map ML)=LC x+1+Na (r.map ML):=by
    rw [Kj,Na,Qz];rfl
   rw [e]
   rcases Kz.mp hn with z | z
   ·subst z;omega
   ·have:=ih n z;omega
 intro n hn
 have e:(Of (ns.map ML)).weight=Na (ns.map ML):=by rw [Qz]
 rw [e] at h2
 exact KS (key ns n hn) h2
theorem attach_callB{l:OpenLaw}{n:Nat}{q:Program}{loose:List Str}{XP:(Str→Option Value)→Heap→Prop}{YP:World→Heap→Prop}{d:DefRec}
  (hn:l.most=some n)(hdf:d.params.defaults=[])
  (call:∀(w:World) (s₀ s₁:Shared) (mg mb:Str→Option Value) (fa:Addr) (o:Obj) (pm cd doc:Value) (a:Addr) (vs:List Value) (ns:List Int),
   Ground q loose [] XP w s₀ mg mb s₁.heap→YP w s₁.heap→
   s₁.heap.get? fa=some o→o.data= .func (docDef d.name d.params d.body d.scope pm cd doc)→s₁.heap.CodeRec cd d.name→mg d.name=some (.ref fa)→
   s₁.heap.get? a=some {cls:= .type "list",data:= .seq vs.toArray}→IntsAre vs ns→ns.length≤n→(∀z∈ns,LC z≤1048576)→s₁.gens=#[]→
   codeAny (model l.prog w) callerA (.call (.ref fa) ⟨[.ref a],[]⟩) (fun r s'=> r= .ok (.ret (.bool true))∧OldK s₁.heap s'.heap∧s'.os=s₁.os∧AllBare s'.gens) s₁):
  WalkO q loose XP YP l.row.toRowW d [] (fun f vs=> Qa f vs):=by
 intro w s₀ s₁ mg mb G Y fa o pm cd doc dV kV ho hd hcd hD hmg hg args vals as hpre hlay hrd hwl hlo
 obtain rfl:dV= .none:=Dflts.none hD hdf
 obtain rfl:kV= .none:=Dflts.noKw hD
 obtain⟨a,vs,ns,rfl,rfl,hobj,hints,hlen⟩:=Ea hn hpre hwl
 have hb:∀z∈ns,LC z≤1048576:=Ej hlay
 refine enter_call (codeAny_mono (call w s₀ s₁ mg mb fa o pm cd doc a vs ns G Y ho (fd_plain hd) hcd hmg hobj hints hlen hb hg) fun r s' hq=> ?_)
 obtain⟨rfl,h2,h3,h4⟩:=hq
 exact⟨.inl ⟨.bool true,.bool true,[],rfl,fun _=> rfl,.bool true,Eb l _,fun _=> ⟨Qv.nil,fun _ hm=> (nomatch hm)⟩⟩,h2,h3,h4⟩
end Att
namespace L2
open PySem PySem.Spec PyProof.Rows
theorem Ek{l:Qb}{n k:Nat}{q:Program}{loose:List Str}{XP:(Str→Option Value)→Heap→Prop}{YP:World→Heap→Prop}{d:DefRec}{K:Params→Kb}{CX:World→eL}{sp:World→Sp}{x:Str}
  (hn:l.most=some n)(hn2:n≤sizeLine)(hdf:d.params.defaults=[])(hr:bB k callerA)
  (hY:∀(w:World) (h:Heap),YP w h→(K w.params).In h)
  (F:∀(w:World) (mg:Str→Option Value) (fa:Addr) (h:Heap),(K w.params).In h→h.Ns mainGlobals mg→mg d.name=some (.ref fa)→
   ∃fd:FuncData,(∀(s:Shared) (u:Value),BindsTo s fd ⟨[u],[]⟩ [(x,u)])∧
    ∀base:Heap,(K w.params).In base→base.Ns mainGlobals mg→aL l.prog w (K w.params) mg base (CX w) k fa fd [x] (sp w))
  (hsp:∀(w:World) (H:Hp) (a:Addr) (ns:List Int),ns.length≤n→(∀z∈ns,LC z≤1048576)→n5 H→aX (K w.params) H a (ns.map V.int)→sp w [.ref a] H (fun v _=> v= .bl true) fun _ _ _=> False)
  (hCX:∀(w:World) (H:Hp) (s:Shared) (e:Value) (s':Shared),CX w [] H s (fun _ _ _=> False) e s'→False):
  Ql q loose XP YP l.row.toRowW d [] (fun f vs=> Qa f vs):=by
 refine Att.attach_callB hn hdf fun w s₀ s₁ mg mb fa o pm cd doc a vs ns G Y ho hd hcd hmg hobj hints hlen hb hg=> ?_
 have KX:=hY w _ Y
 obtain⟨fd,hbi,hF⟩:=F w mg fa _ KX G.T.g hmg
 exact Ec KX G.T.g G.T.b G.T.builtins G.T.nolimit hg hobj hints (KS hlen hn2) hr hF hbi (fun H hO hS=> hsp w H a ns hlen hb hO hS) fun H e s'=> hCX w H s₁ e s'
theorem walk_ofBK{l:Qb}{n k:Nat}{q:Program}{loose:List Str}{XP:(Str→Option Value)→Heap→Prop}{YP:World→Heap→Prop}{d:DefRec}{K:Params→Kb}{CX:eL}{sp:Kb→Sp}{x:Str}
  (hn:l.most=some n)(hn2:n≤sizeLine)(hdf:d.params.defaults=[])(hr:bB k callerA)
  (hY:∀(w:World) (h:Heap),YP w h→(K w.params).In h)
  (F:∀(w:World) (mg:Str→Option Value) (fa:Addr) (h:Heap),(K w.params).In h→h.Ns mainGlobals mg→mg d.name=some (.ref fa)→
   ∃fd:FuncData,(∀(s:Shared) (u:Value),BindsTo s fd ⟨[u],[]⟩ [(x,u)])∧
    ∀base:Heap,(K w.params).In base→base.Ns mainGlobals mg→aL l.prog w (K w.params) mg base CX k fa fd [x] (sp (K w.params)))
  (hsp:∀(K:Kb) (H:Hp) (a:Addr) (ns:List Int),ns.length≤n→(∀z∈ns,LC z≤1048576)→n5 H→aX K H a (ns.map V.int)→sp K [.ref a] H (fun v _=> v= .bl true) fun _ _ _=> False)
  (hCX:∀(H:Hp) (s:Shared) (e:Value) (s':Shared),CX [] H s (fun _ _ _=> False) e s'→False):
  Ql q loose XP YP l.row.toRowW d [] (fun f vs=> Qa f vs):=
 Ek (K:=K) (CX:=fun _=> CX) (sp:=fun w=> sp (K w.params)) hn hn2 hdf hr hY F (fun w H a ns h1 hb h2 h3=> hsp (K w.params) H a ns h1 hb h2 h3) fun _ H s e s'=> hCX H s e s'
def kM(p:Addr)(H H':Hp):Prop:=∀b o,H b=some o→b≠p→H' b=some o
theorem ar.new{H:Hp}{p:Addr}{o:HO}(h:H p=none):ar H (au H p o):=fun b u e=> by rw [aJ (cZ e h)];exact e
end L2
namespace L2
open PySem PySem.Spec PyProof.Rows
def FR(J:It)(g:TG)(tb:TS)(D:ju)(σ:St)(H1:Hp):Prop:=∃W:Nat→Nat→St→Hp→Prop,(∃m,W 0 m σ H1)∧∀i m σ H,W i m σ H→
 (J.stop i H∧D.nx σ H)∨(J.go i H∧∃N:St→Hp→Prop,(∀σ' H',N σ' H'→∃m',m' < m∧W (i+1) m' σ' H')∧∀x H',J.yld i H x H'→g x σ H' fun σ2 H2=> tb {D with nx:=N,ct:=N,bk:=D.nx} σ2 H2)
theorem El{ta:TA}{g:TG}{tb:TS}:mi (qh ta) g tb=fun D σ H=> ta σ H fun vs H1=> ∃j:Int,vs=[.int j]∧-(2 ^ 62)≤j∧j < 2 ^ 62∧FR (gK 0 j.toNat) g tb D σ H1:=rfl
theorem Em{ta:TA}{g:TG}{tb:TS}:mi (qi ta) g tb=fun D σ H=> ta σ H fun vs H1=> ∃i j:Int,vs=[.int i,.int j]∧(-(2 ^ 62)≤i∧i < 2 ^ 62∧-(2 ^ 62)≤j∧j < 2 ^ 62)∧FR (gK i (j - i).toNat) g tb D σ H1:=rfl
theorem En{K:Kb}{tl:TE}{g:TG}{tb:TS}:mi (qa K tl) g tb=fun D σ H=> tl σ H fun x H1=> ∃a,x= .ref a∧(∃xs,aX K H1 a xs)∧FR (mf K a) g tb D σ H1:=rfl
theorem Eo{K:Kb}{tl:TE}{g:TG}{tb:TS}:mi (qc K tl) g tb=fun D σ H=> tl σ H fun x H1=> ∃a,x= .ref a∧(∃xs,bw K H1 a xs)∧FR (mh K a) g tb D σ H1:=rfl
def j9(J:It)(g:TG)(tc:TT)(te:TE)(k:Nat)(fr:List Nat)(σ:St)(H1:Hp)(Q:VK):Prop:=∀D,H1 D=none→∃W:Nat→Nat→Hp→Prop,(∃m,W 0 m (au H1 D (.lst [])))∧∀i m H,W i m H→
 (J.stop i H∧Q (.ref D) H)∨(J.go i H∧∀x H',J.yld i H x H'→g x (bM k fr σ) H' fun σ2 H2=> j7 (bM k fr σ) σ2∧tc σ2 H2 fun ok H3=>
  if ok=true then te σ2 H3 fun y H4=> ∃ys,H4 D=some (.lst ys)∧ys.length < sizeLine∧∃m',m' < m∧W (i+1) m' (au H4 D (.lst (ys++[y])))
  else ∃m',m' < m∧W (i+1) m' H3)
theorem Ep{ta:TA}{g:TG}{tc:TT}{te:TE}{k:Nat}{fr:List Nat}:jv (qh ta) g tc te k fr=fun σ H Q=> ta σ H fun vs H1=> ∃j:Int,vs=[.int j]∧-(2 ^ 62)≤j∧j < 2 ^ 62∧j9 (gK 0 j.toNat) g tc te k fr σ H1 Q:=rfl
theorem Er{ta:TA}{g:TG}{tc:TT}{te:TE}{k:Nat}{fr:List Nat}:jv (qi ta) g tc te k fr=fun σ H Q=> ta σ H fun vs H1=> ∃i j:Int,vs=[.int i,.int j]∧(-(2 ^ 62)≤i∧i < 2 ^ 62∧-(2 ^ 62)≤j∧j < 2 ^ 62)∧j9 (gK i (j - i).toNat) g tc te k fr σ H1 Q:=rfl
theorem Es{K:Kb}{tl:TE}{g:TG}{tc:TT}{te:TE}{k:Nat}{fr:List Nat}:jv (qa K tl) g tc te k fr=fun σ H Q=> tl σ H fun x H1=> ∃a,x= .ref a∧(∃xs,aX K H1 a xs)∧j9 (mf K a) g tc te k fr σ H1 Q:=rfl
theorem Et{K:Kb}{tl:TE}{g:TG}{tc:TT}{te:TE}{k:Nat}{fr:List Nat}:jv (qc K tl) g tc te k fr=fun σ H Q=> tl σ H fun x H1=> ∃a,x= .ref a∧(∃xs,bw K H1 a xs)∧j9 (mh K a) g tc te k fr σ H1 Q:=rfl
theorem wJ{fr:List Nat}{σ:St}{v:Option V}:j7 (bM 1 fr σ) ((bM 1 fr σ).set 0 v):=by
 refine⟨by simp,fun i w h=> ?_⟩
 cases i with
 | zero=> simp [bM,Kx] at h
 | succ i=> simpa [bM,Kx] using h
theorem Eu{lo:Int}{n:Nat}{te:TE}{fr:List Nat}{σ:St}{H:Hp}{Q:VK}(f:Nat→V)(hn:n≤1000000)
  (ht:∀(i:Nat) (H':Hp) (R:VK),i < n→ar H H'→(∀H'',ar H' H''→R (f i) H'')→te ((bM 1 fr σ).set 0 (some (.int (lo+i)))) H' R)
  (hq:∀D H',H D=none→ar H H'→H' D=some (.lst ((Lp n).map f))→Q (.ref D) H'):j9 (gK lo n) (gJ 0) wF te 1 fr σ H Q:=by
 intro D hD
 refine⟨fun i m H'=> m=n - i∧i≤n∧ar H H'∧H' D=some (.lst ((Lp i).map f)),⟨n,by simp,Lj _,ar.new hD,by rw [bu];rfl⟩,?_⟩
 rintro i m H1 ⟨rfl,hi,s1,e1⟩
 by_cases hlt:i < n
 ·refine .inr ⟨hlt,fun x H' y=> ?_⟩
  obtain⟨e,y⟩:=y
  subst e y
  refine⟨wJ,?_⟩
  show te _ _ _
  refine ht i H' _ hlt s1 fun H2 s2=> ?_
  refine⟨_,s2 D _ e1,?_,n - (i+1),by omega,rfl,hlt,?_,?_⟩
  ·rw [Kd,MS,sizeLine_eq];omega
  ·exact fun b o h=> by rw [aJ (cZ h hD)];exact s2 b o (s1 b o h)
  ·rw [bu,OI,KZ];rfl
 ·have e:i=n:=by omega
  subst e
  exact .inl ⟨Kk _,hq D H1 hD s1 e1⟩
theorem cxK{CX:eL}{P:Program}{w:World}{K:Kb}{mg:Str→Option Value}{base:Heap}{N:List Str}{qual:Str}{scope:Scope}{f:Addr}{cd:Value}{A:Around}{outer:List Env}{s:Shared}{H:Hp}{E:XK}:(iC CX P w K mg base N qual scope f cd A outer s H E).K=K:=rfl
theorem cmK{X:Cx}{scope:Scope}{N':List Str}{fp:List Addr}{C:Addr}{s:Shared}{H:Hp}:(bF X scope N' fp C s H).K=X.K:=rfl
theorem kN{K:Kb}{p:Addr}{xs:List V}{i:Int}{v:V}{H:Hp}{Q:VK}(h:aX K H p xs)(hv:atI xs i=some v)(q:Q v H):nZ K (.ref p) (.int i) H Q:=⟨p,xs,i,v,rfl,rfl,h,hv,q⟩
theorem kO{K:Kb}{p:Addr}{xs:List V}{i:Int}{v:V}{H:Hp}{Q:VK}(h:bw K H p xs)(hv:atI xs i=some v)(q:Q v H):n4 K (.ref p) (.int i) H Q:=⟨p,xs,i,v,rfl,rfl,h,hv,q⟩
theorem wK{a b:Int}:(if b < a then b else a)=min a b:=by
 by_cases h:b < a
 ·rw [if_pos h];omega
 ·rw [if_neg h];omega
theorem Ew:bootBuiltins "divmod"=some (.builtin "divmod"):=by decide+kernel
theorem qF:bootBuiltins "int"=some (.type "int"):=by decide+kernel
theorem fU:bootBuiltins "tuple"=some (.type "tuple"):=by decide+kernel
end L2
namespace L2
open PySem PySem.Spec PyProof.Rows PySem.W
section
variable {P:Program} {w:World} {K:Kb} {mg:Str→Option Value} {base:Heap} {N:List Str} {qual:Str} {scope:Scope} {f:Addr} {cd:Value} {A:Around} {outer:List Env} {s:Shared} {H:Hp} {E:XK}
end
section
variable {X:Cx}
end
section
variable {P:Program} {w:World} {K:Kb} {mg:Str→Option Value} {base:Heap}
end
end L2
namespace L2
open PySem PySem.Spec PyProof.Rows PySem.W
section
variable {M:Model} {A:Around} {E:Value→Shared→Prop}
variable {nm q:Str} {C N:Addr} {bs bm:List Value} {hdct:Bool} {sn:List Str} {sub:List Value} {ab:Bool} {col:Option Bool} {dd:Option Addr} {k0 k1 k2 k3 k5:Option Value} {newId:String}
variable {nm' q':Str} {C' N':Addr} {bs' bm':List Value} {hdct':Bool} {sn':List Str} {sub':List Value} {ab':Bool} {col':Option Bool} {dd':Option Addr} {k0' k1' k2' k3' k5':Option Value} {newId':String}
end
section
variable {X:Cx} {pins:List (Addr×Obj)} {σ:St} {H:Hp} {s:Shared}
end
end L2
namespace L2
open PySem PySem.Spec PyProof.Rows PySem.W
section
variable {X:Cx} {pins:List (Addr×Obj)} {σ:St} {H:Hp} {s:Shared}
end
section
variable {X:Cx} {CX:eL} {k:Nat} {f C C':Addr} {fd:FuncData} {ps:List Str} {sp:Sp} {x c n:Str} {p cp ep np hp tp:Pos} {a:Expr} {as:List Expr} {b₀:Stmt} {suite:List Stmt} {t:TA} {i:Nat} {ts:TS}
end
end L2
namespace L2
open PySem PySem.Spec PyProof.Rows
section
variable {X:Cx}
theorem wL{bs:List Bool}{its:List Value}(r:aF (bs.map V.bl) its):its=bs.map Mt:=by
 induction bs generalizing its with
 | nil=> cases r;rfl
 | cons b bs ih=>
  rw [Kj] at r
  cases r with
  | cons r1 r2=>
   rw [Kj,←ih r2]
   exact congrArg (·::_) r1
theorem Ey(bs:List Bool)(f:Nat→Bool)(h:∀i,i < bs.length→f i=bs.getD i true):(Lp bs.length).all f=bs.all id:=by
 rw [MJ,MB,MB]
 constructor
 ·intro z b hb
  obtain⟨i,hi,e⟩:=Pe hb
  have:=z i (Nk.mpr hi)
  rw [h i hi,L1,KI hi] at this
  rw [←e];exact this
 ·intro z i hi
  have hi:=Nk.mp hi
  rw [h i hi,L1,KI hi]
  exact z _ (L3 hi)
theorem Ez(bs:List Bool)(f:Nat→Bool)(h:∀i,i < bs.length→f i=bs.getD i true):(Lp bs.length).any f=bs.any id:=by
 rw [MJ,MZ,MZ]
 constructor
 ·rintro⟨i,hi,z⟩
  have hi:=Nk.mp hi
  rw [h i hi,L1,KI hi] at z
  exact⟨_,L3 hi,z⟩
 ·rintro⟨b,hb,z⟩
  obtain⟨i,hi,e⟩:=Pe hb
  refine⟨i,Nk.mpr hi,?_⟩
  rw [h i hi,L1,KI hi]
  show bs[i]=true
  rw [e];exact z
theorem wM{bs:List Bool}{i:Nat}{v:Value}(h:(bs.map Mt).toArray[i]?=some v):v= .bool (bs.getD i true):=by
 have h':(bs.map Mt)[i]?=some v:=by simpa using h
 rw [KQ] at h'
 cases e:bs[i]? with
 | none=> rw [e] at h';cases h'
 | some b=>
  rw [e] at h'
  rw [L1,e]
  exact(K5 h').symm
theorem wN{prog:Program}{w:World}{A:Around}{E:Value→Shared→Prop}{s:Shared}{l:Addr}{items:Array Value}{Q:Value→Shared→Prop}(hl:s.heap.IsList l items)
  (h:∀s₂:Shared,s₂={s with heap:=s.heap.push {cls:= .type "list_iterator",data:= .fields #[.ref l,.int 0 0]}}→
   (s₂.heap.IsListIter s.heap.objs.size l 0∧s₂.heap.IsList l items)→l≠s.heap.objs.size→Q (.ref s.heap.objs.size) s₂):wpAny (model prog w) A (pyIter (.ref l)) Q E s:=by
 have hlt:l < s.heap.objs.size:=by obtain⟨_,e,_⟩:=hl;exact Kv e
 exact wpAny_pyIter_list hl (h _ rfl ⟨⟨_,KD _ rfl,rfl,rfl⟩,hl.push _⟩ (KN hlt))
theorem wO(hc:X.calm=true):dO X (.builtin "all") (fun xs H Q=> ∃(a:Addr)(bs:List Bool),xs=[.ref a]∧aX X.K H a (bs.map V.bl)∧Q (.bl (bs.all id)) H):=by
 intro pins s σ H xs us Q I r h
 obtain⟨a,bs,rfl,hl,q⟩:=h
 obtain⟨u,rfl,rx⟩:=dY r
 cases rx
 obtain⟨its,rv,p,hz⟩:=I.list hl
 have hi:=wL rv
 subst hi
 refine call_all_walk (wN p.isList fun s₂ e st hlI=> ?_)
 subst e
 refine⟨_,_,_,_,_,_,fun i=> bs.getD i true,rfl,Qc (A:=X.A.in1) (I.ok.hd hc) _ a hlI _,st,fun i v s' Q' E' hP hq=> by rw [wM hP];exact wpAny_truthy_bool hq,fun h' tk hk=> ?_⟩
 have e:=Ey bs (fun i=> bs.getD i true) fun _ _=> rfl
 have e2:(KO Mt bs).toArray.size=bs.length:=by simp
 rw [e2,e]
 exact⟨.bl (bs.all id),H,I.kept (old_kept hk),rfl,q⟩
theorem wQ(hc:X.calm=true):dO X (.builtin "any") (fun xs H Q=> ∃(a:Addr)(bs:List Bool),xs=[.ref a]∧aX X.K H a (bs.map V.bl)∧Q (.bl (bs.any id)) H):=by
 intro pins s σ H xs us Q I r h
 obtain⟨a,bs,rfl,hl,q⟩:=h
 obtain⟨u,rfl,rx⟩:=dY r
 cases rx
 obtain⟨its,rv,p,hz⟩:=I.list hl
 have hi:=wL rv
 subst hi
 refine call_any_walk (wN p.isList fun s₂ e st hlI=> ?_)
 subst e
 refine⟨_,_,_,_,_,_,fun i=> bs.getD i true,rfl,Qc (A:=X.A.in1) (I.ok.hd hc) _ a hlI _,st,fun i v s' Q' E' hP hq=> by rw [wM hP];exact wpAny_truthy_bool hq,fun h' tk hk=> ?_⟩
 have e:=Ez bs (fun i=> bs.getD i true) fun _ _=> rfl
 have e2:(KO Mt bs).toArray.size=bs.length:=by simp
 rw [e2,e]
 exact⟨.bl (bs.any id),H,I.kept (old_kept hk),rfl,q⟩
end
end L2
namespace L2
open PySem PySem.Spec PyProof.Rows PySem.W PySem.Calls PySem.Builtin.ObjectAttr PySem.Builtin PySem.Builtin.Getset_descriptor
section
variable {prog:Program} {w:World} {A:Around} {E:Value→Shared→Prop} {s:Shared} {K:Kb} {x C:Addr}
end
section
variable {X:Cx}
end
end L2
namespace L2
open PySem PySem.Spec PyProof.Rows PySem.W
section
variable {X:Cx} {pins:List (Addr×Obj)} {σ:St} {H:Hp} {s:Shared}
end
section
variable {X:Cx}
abbrev dQ(d:PyData):Prop:=LK d=true
end
theorem wR:bootBuiltins "all"=some (.builtin "all"):=by decide+kernel
theorem wU:bootBuiltins "any"=some (.builtin "any"):=by decide+kernel
end L2
namespace L2
open PySem PySem.Spec PyProof.Rows PySem.W
def EA(p:Addr)(h:Heap):Prop:=∃(n:Int)(t:Tok)(k:Nat),h.get? p=some {cls:= .type "list",data:= .seq #[.int n t] k}
abbrev EB(p:Addr):HO:= .ext (EA p)
abbrev qG:PyData:= .dict [(.none,.none)]
def EC(p:Addr)(h:Heap):Prop:=∃(a b c:Int)(t u v:Tok)(k:Nat),h.get? p=some {cls:= .type "list",data:= .seq #[.int a t,.int b u,.int c v] k}
abbrev fV(p:Addr):HO:= .ext (EC p)
abbrev ft:PyData:= .dict [(.none,.bool true)]
abbrev eO(ds:List PyData):PyData:= .dict [(.none,.list ds)]
abbrev kc(C:Addr)(kp ds:List PyData):PyData:= .dict [(.none,.tuple [.int (C:Int),.list kp,.list ds])]
abbrev wV(kp ds:List PyData):PyData:= .dict [(.bool true,.tuple [.list kp,.list ds])]
abbrev Ex:=Addr→Prop
abbrev n9:Hp:=fun _=> none
mutual
inductive Dt (K:Kb) (H:Hp) (O:Ex):V→PyData→Prop
 | non:Dt K H O .non .none
 | bl (b:Bool):Dt K H O (.bl b) (.bool b)
 | int (i:Int):Dt K H O (.int i) (.int i)
 | str (x:Str):Dt K H O (.str x) (.str x)
 | tup {a:Addr} {xs:List V} {ds:List PyData}:Rd H a (.tup xs)→¬O a→aj K H O xs ds→Dt K H O (.ref a) (.tuple ds)
 | tupK {a:Addr} {xs:List V} {ds:List PyData}:bw K n9 a xs→aj K H O xs ds→Dt K H O (.ref a) (.tuple ds)
 | lst {a:Addr} {xs:List V} {ds:List PyData}:Rd H a (.lst xs)→¬O a→aj K H O xs ds→Dt K H O (.ref a) (.list ds)
 | pack {p:Addr}:H p=some (EB p)→¬O p→Dt K H O (.ref p) qG
 | purse {p:Addr}:H p=some (fV p)→¬O p→Dt K H O (.ref p) ft
 | dct0 {a:Addr}:H a=some (.dK [])→¬O a→Dt K H O (.ref a) (.dict [])
 | obj {a C dx:Addr} {fs:List (Str×V)} {kp ds:List PyData}:H a=some (.ins C dx fs)→kp=fs.map (fun p=> Kf p.1)→¬O a→aj K H O (fs.map (·.2)) ds→Dt K H O (.ref a) (kc C kp ds)
 | dic {a:Addr} {kv:List (ak×V)} {ks:List Str} {kp ds:List PyData}:H a=some (.dK kv)→kv.map (·.1)=ks.map Lz→kp=ks.map Kf→¬O a→aj K H O (kv.map (·.2)) ds→Dt K H O (.ref a) (wV kp ds)
 | scr {a:Addr} {xs:List V} {ds:List PyData}:(Rd H a (.lst xs)∧¬O a)∨aX K n9 a xs→aj K H O xs ds→Dt K H O (.ref a) (eO ds)
inductive aj (K:Kb) (H:Hp) (O:Ex):List V→List PyData→Prop
 | nil:aj K H O [] []
 | cons {v:V} {d:PyData} {vs:List V} {ds:List PyData}:Dt K H O v d→aj K H O vs ds→aj K H O (v::vs) (d::ds)
end
theorem Rd.same{H H':Hp}{a:Addr}{u:HO}(s:∀o,H a=some o→H' a=some o)(h:Rd H a u):Rd H' a u:=by
 rcases h with h | ⟨o,h⟩
 ·exact .inl (s _ h)
 ·exact .inr ⟨o,s _ h⟩
theorem Rd.trk{H:Hp}{a:Addr}{u:HO}(h:Rd H a u):H a≠none:=by
 rcases h with h | ⟨o,h⟩ <;> rw [h] <;> exact fun z=> nomatch z
section
variable {K:Kb}
structure br (H H':Hp) (O O':Ex):Prop where
 keep:∀b o,H b=some o→¬O b→H' b=some o
 out:∀b,H b≠none→¬O b→¬O' b
mutual
theorem Dt.step{H H':Hp}{O O':Ex}(S:br H H' O O'):∀{v:V}{d:PyData},Dt K H O v d→Dt K H' O' v d
 | _,_,.non=> .non
 | _,_,.bl b=> .bl b
 | _,_,.int i=> .int i
 | _,_,.str x=> .str x
 | _,_,.tup h n r=> .tup (h.same fun o e=> S.keep _ o e n) (S.out _ h.trk n) (aj.step S r)
 | _,_,.tupK h r=> .tupK h (aj.step S r)
 | _,_,.lst h n r=> .lst (h.same fun o e=> S.keep _ o e n) (S.out _ h.trk n) (aj.step S r)
 | _,_,.pack h n=> .pack (S.keep _ _ h n) (S.out _ (by rw [h];exact fun z=> nomatch z) n)
 | _,_,.purse h n=> .purse (S.keep _ _ h n) (S.out _ (by rw [h];exact fun z=> nomatch z) n)
 | _,_,.dct0 h n=> .dct0 (S.keep _ _ h n) (S.out _ (by rw [h];exact fun z=> nomatch z) n)
 | _,_,.obj h e n r=> .obj (S.keep _ _ h n) e (S.out _ (by rw [h];exact fun z=> nomatch z) n) (aj.step S r)
 | _,_,.dic h e1 e2 n r=> .dic (S.keep _ _ h n) e1 e2 (S.out _ (by rw [h];exact fun z=> nomatch z) n) (aj.step S r)
 | _,_,.scr h r=> .scr (h.imp (fun h=> ⟨h.1.same fun o e=> S.keep _ o e h.2,S.out _ h.1.trk h.2⟩) id) (aj.step S r)
theorem aj.step{H H':Hp}{O O':Ex}(S:br H H' O O'):∀{vs:List V}{ds:List PyData},aj K H O vs ds→aj K H' O' vs ds
 | _,_,.nil=> .nil
 | _,_,.cons h r=> .cons (Dt.step S h) (aj.step S r)
end
theorem br.same{H H':Hp}{O:Ex}(s:ar H H'):br H H' O O:=⟨fun b o e _=> s b o e,fun _ _ n=> n⟩
theorem Dt.mono{H H':Hp}{O:Ex}{v:V}{d:PyData}(s:ar H H')(h:Dt K H O v d):Dt K H' O v d:=h.step (.same s)
theorem aj.mono{H H':Hp}{O:Ex}{v:List V}{d:List PyData}(s:ar H H')(h:aj K H O v d):aj K H' O v d:=h.step (.same s)
theorem aj.length{H:Hp}{O:Ex}:∀{vs:List V}{ds:List PyData},aj K H O vs ds→vs.length=ds.length
 | _,_,.nil=> rfl
 | _,_,.cons _ r=> by rw [Kw,Kw,aj.length r]
theorem aj.get{H:Hp}{O:Ex}:∀{vs:List V}{ds:List PyData}{i:Nat}{v:V},aj K H O vs ds→vs[i]?=some v→∃d,ds[i]?=some d∧Dt K H O v d
 | _,_,_,_,.nil,e=> by simp at e
 | _,_,0,_,.cons h _,e=> by simp at e;subst e;exact⟨_,rfl,h⟩
 | _,_,i+1,_,.cons _ r,e=> by simpa using aj.get (i:=i) r (by simpa using e)
theorem aj.getD{H:Hp}{O:Ex}:∀{vs:List V}{ds:List PyData}{i:Nat}{d:PyData},aj K H O vs ds→ds[i]?=some d→∃v,vs[i]?=some v∧Dt K H O v d
 | _,_,_,_,.nil,e=> by simp at e
 | _,_,0,_,.cons h _,e=> by simp at e;subst e;exact⟨_,rfl,h⟩
 | _,_,i+1,_,.cons _ r,e=> by simpa using aj.getD (i:=i) r (by simpa using e)
theorem aj.append{H:Hp}{O:Ex}:∀{vs ws:List V}{ds es:List PyData},aj K H O vs ds→aj K H O ws es→aj K H O (vs++ws) (ds++es)
 | _,_,_,_,.nil,s=> s
 | _,_,_,_,.cons h r,s=> .cons h (aj.append r s)
theorem aj.take{H:Hp}{O:Ex}:∀{vs:List V}{ds:List PyData}(n:Nat),aj K H O vs ds→aj K H O (vs.take n) (ds.take n)
 | _,_,0,_=> .nil
 | _,_,_+1,.nil=> .nil
 | _,_,n+1,.cons h r=> .cons h (aj.take n r)
theorem aj.drop{H:Hp}{O:Ex}:∀{vs:List V}{ds:List PyData}(n:Nat),aj K H O vs ds→aj K H O (vs.drop n) (ds.drop n)
 | _,_,0,r=> r
 | _,_,_+1,.nil=> .nil
 | _,_,n+1,.cons _ r=> aj.drop n r
theorem aj.ints{H:Hp}{O:Ex}:∀(ns:List Int),aj K H O (ns.map V.int) (ns.map Kh)
 | []=> .nil
 | n::r=> .cons (.int n) (aj.ints r)
inductive Sh (K:Kb) (H:Hp) (O:Ex):V→PyData→Prop
 | dt {v:V} {d:PyData}:Dt K H O v d→Sh K H O v d
 | own {l:Addr} {vs:List V} {ds:List PyData}:H l=some (.lst vs)→aj K H O vs ds→Sh K H O (.ref l) (.list ds)
theorem Sh.mono{H H':Hp}{O:Ex}{v:V}{d:PyData}(s:ar H H'):Sh K H O v d→Sh K H' O v d
 | .dt h=> .dt (h.mono s)
 | .own h r=> .own (s _ _ h) (r.mono s)
theorem Dt.all{H:Hp}{O:Ex}{v:V}{d:PyData}(h:Dt K H O v d):Dt K H (fun _=> False) v d:=h.step ⟨fun _ _ e _=> e,fun _ _ _ z=> z⟩
theorem aj.all{H:Hp}{O:Ex}{v:List V}{d:List PyData}(h:aj K H O v d):aj K H (fun _=> False) v d:=h.step ⟨fun _ _ e _=> e,fun _ _ _ z=> z⟩
theorem Sh.all{H:Hp}{O:Ex}{v:V}{d:PyData}:Sh K H O v d→Dt K H (fun _=> False) v d
 | .dt h=> h.all
 | .own h r=> .lst (.inl h) (fun z=> z) r.all
theorem bw.of0{H:Hp}{a:Addr}{xs:List V}(h:bw K n9 a xs):bw K H a xs:=by
 rcases h with(h | ⟨o,h⟩) | h
 ·cases h
 ·cases h
 ·exact .inr h
theorem aX.of0{H:Hp}{a:Addr}{xs:List V}(h:aX K n9 a xs):aX K H a xs:=by
 rcases h with(h | ⟨o,h⟩) | h
 ·cases h
 ·cases h
 ·exact .inr h
theorem Sh.tup{H:Hp}{O:Ex}{v:V}{ds:List PyData}(h:Sh K H O v (.tuple ds)):∃a xs,v= .ref a∧bw K H a xs∧aj K H O xs ds:=by
 cases h with
 | dt h=>
  cases h with
  | tup h _ r=> exact⟨_,_,rfl,.inl h,r⟩
  | tupK h r=> exact⟨_,_,rfl,h.of0,r⟩
theorem Sh.lstR{H:Hp}{O:Ex}{v:V}{ds:List PyData}(h:Sh K H O v (.list ds)):∃a xs,v= .ref a∧Rd H a (.lst xs)∧aj K H O xs ds:=by
 cases h with
 | dt h=>
  cases h with
  | lst h _ r=> exact⟨_,_,rfl,h,r⟩
 | own h r=> exact⟨_,_,rfl,.inl h,r⟩
theorem Sh.lst{H:Hp}{O:Ex}{v:V}{ds:List PyData}(h:Sh K H O v (.list ds)):∃a xs,v= .ref a∧aX K H a xs∧aj K H O xs ds:=by
 obtain⟨a,xs,e,h,r⟩:=h.lstR
 exact⟨a,xs,e,.inl h,r⟩
theorem Sh.scr{H:Hp}{O:Ex}{v:V}{ds:List PyData}(h:Sh K H O v (eO ds)):∃a xs,v= .ref a∧aX K H a xs∧aj K H O xs ds:=by
 cases h with
 | dt h=>
  cases h with
  | scr h r=>
   rcases h with h | h
   ·exact⟨_,_,rfl,.inl h.1,r⟩
   ·exact⟨_,_,rfl,h.of0,r⟩
theorem Sh.int{H:Hp}{O:Ex}{v:V}{i:Int}(h:Sh K H O v (.int i)):v= .int i:=by cases h with | dt h=> cases h;rfl
theorem Sh.bl{H:Hp}{O:Ex}{v:V}{i:Bool}(h:Sh K H O v (.bool i)):v= .bl i:=by cases h with | dt h=> cases h;rfl
theorem Sh.str{H:Hp}{O:Ex}{v:V}{i:Str}(h:Sh K H O v (.str i)):v= .str i:=by cases h with | dt h=> cases h;rfl
theorem Sh.non{H:Hp}{O:Ex}{v:V}(h:Sh K H O v .none):v= .non:=by cases h with | dt h=> cases h;rfl
def my:PyData→Bool
 | .none | .bool _ | .int _ | .str _=> true
 | _=> false
end
section
variable {X:Cx} {pins:List (Addr×Obj)} {σ:St} {H:Hp} {s:Shared}
mutual
theorem fW(I:af X pins σ H s){O:Ex}:∀{v:V}{d:PyData}{u:Value},Dt X.K H O v d→d.canLay0=true→aE v u→∃as,Reads s.heap u d as
 | _,_,_,.non,_,r=> by cases r;exact⟨_,Reads.none⟩
 | _,_,_,.bl b,_,r=> by cases r;exact⟨_,Reads.bool b⟩
 | _,_,_,.int i,_,r=> by obtain⟨t,rfl⟩:=r;exact⟨_,Reads.int i t⟩
 | _,_,_,.str x,_,r=> by obtain⟨t,rfl⟩:=r;exact⟨_,Reads.str x t⟩
 | _,_,_,.tup h _ hs,c,r=> by
  cases r
  obtain⟨its,rv,⟨o,e,c',n,dd⟩,_⟩:=I.tuple (.inl h)
  obtain⟨as,q⟩:=oe I hs (by simpa [K4] using c) rv
  exact⟨as,reads_tuple_at e c' dd (by simpa using q)⟩
 | _,_,_,.tupK h hs,c,r=> by
  cases r
  obtain⟨its,rv,⟨o,e,c',n,dd⟩,_⟩:=I.tuple h.of0
  obtain⟨as,q⟩:=oe I hs (by simpa [K4] using c) rv
  exact⟨as,reads_tuple_at e c' dd (by simpa using q)⟩
 | _,_,_,.lst h _ hs,c,r=> by
  cases r
  obtain⟨its,rv,⟨o,n,e,c',_,dd⟩,_⟩:=I.list (.inl h)
  obtain⟨as,q⟩:=oe I hs (by simpa [K4] using c) rv
  exact⟨_,reads_list_at e c' dd (by simpa using q)⟩
 | _,_,_,.pack _ _,c,_=> by simp [K4] at c
 | _,_,_,.purse _ _,c,_=> by simp [K4] at c
 | _,_,_,.dct0 _ _,c,_=> by simp [K4] at c
 | _,_,_,.obj _ _ _ _,c,_=> by simp [K4] at c
 | _,_,_,.dic _ _ _ _ _,c,_=> by simp [K4] at c
 | _,_,_,.scr _ _,c,_=> by simp [K4] at c
theorem oe(I:af X pins σ H s){O:Ex}:∀{vs:List V}{ds:List PyData}{us:List Value},aj X.K H O vs ds→Lo ds=true→aF vs us→∃as,ReadsAll s.heap us ds as
 | _,_,_,.nil,_,r=> by cases r;exact⟨_,ReadsAll.nil⟩
 | _,_,_,.cons h hs,c,r=> by
  rw [Lo,Lf] at c
  cases r with
  | cons r1 r2=>
   obtain⟨as,q⟩:=fW I h c.1 r1
   obtain⟨bs,p⟩:=oe I hs c.2 r2
   exact⟨_,ReadsAll.cons q p⟩
end
end
end L2
namespace L2
open PySem PySem.Spec PyProof.Rows PySem.W
inductive Sl where
 | v (d:PyData)
 | o (ds:List PyData)
 | k (kd:List (ak×PyData))
 | i (l C:Addr) (fd:List (Str×PyData))
abbrev Dl:=List (Option Sl)
inductive bA (K:Kb) (H:Hp) (O:Ex):List (ak×V)→List (ak×PyData)→Prop
 | nil:bA K H O [] []
 | cons {k:ak} {v:V} {d:PyData} {r:List (ak×V)} {s:List (ak×PyData)}:Dt K H O v d→bA K H O r s→bA K H O ((k,v)::r) ((k,d)::s)
theorem bA.step{K:Kb}{H H':Hp}{O O':Ex}(S:br H H' O O'){r:List (ak×V)}{s:List (ak×PyData)}(h:bA K H O r s):bA K H' O' r s:=by
 induction h with
 | nil=> exact .nil
 | cons a _ ih=> exact .cons (a.step S) ih
theorem bA.mono{K:Kb}{H H':Hp}{O:Ex}(S:ar H H'){r:List (ak×V)}{s:List (ak×PyData)}(h:bA K H O r s):bA K H' O r s:=h.step (.same S)
def kP(K:Kb)(H:Hp)(O:Ex)(fs:List (Str×V))(fd:List (Str×PyData)):Prop:=fs.map (·.1)=fd.map (·.1)∧aj K H O (fs.map (·.2)) (fd.map (·.2))
def Sl.own:Sl→Prop
 | .v _=> False
 | _=> True
def iE(K:Kb)(H:Hp)(O0 O:Ex)(x:Option V):Option Sl→Prop
 | none=> True
 | some (.v d)=> ∃v,x=some v∧Dt K H O v d
 | some (.o ds)=> ∃l vs,x=some (.ref l)∧O l∧¬O0 l∧H l=some (.lst vs)∧aj K H O vs ds
 | some (.k kd)=> ∃l kv,x=some (.ref l)∧O l∧¬O0 l∧H l=some (.dK kv)∧bA K H O kv kd
 | some (.i l C fd)=> ∃dx fs,x=some (.ref l)∧O l∧¬O0 l∧H l=some (.ins C dx fs)∧kP K H O fs fd
structure Wd (K:Kb) (H0:Hp) (O0:Ex) (H:Hp) (O:Ex) (σ:St) (δ:Dl):Prop where
 same:ar H0 H
 sub:∀l,O0 l→O l
 new:∀l,O l→O0 l∨H0 l=none
 trk:∀l,O l→H l≠none
 len:σ.length=δ.length
 sl:∀(i:Nat) y,δ[i]?=some y→iE K H O0 O ((σ[i]?).join) y
 dis:∀(i j:Nat) y z l,δ[i]?=some (some y)→y.own→δ[j]?=some (some z)→z.own→σ[i]?=some (some (.ref l))→σ[j]?=some (some (.ref l))→i=j
section
variable {K:Kb} {H0 H H':Hp} {O0 O:Ex} {σ:St} {δ:Dl}
theorem iE.mono{x:Option V}{y:Option Sl}(s:ar H H')(h:iE K H O0 O x y):iE K H' O0 O x y:=by
 match y,h with
 | none,_=> exact LU
 | some (.v d),⟨v,e,r⟩=> exact⟨v,e,r.mono s⟩
 | some (.o ds),⟨l,vs,e,a,b,c,r⟩=> exact⟨l,vs,e,a,b,s _ _ c,r.mono s⟩
 | some (.k ds),⟨l,vs,e,a,b,c,r⟩=> exact⟨l,vs,e,a,b,s _ _ c,r.mono s⟩
 | some (.i l C ds),⟨dx,vs,e,a,b,c,r1,r2⟩=> exact⟨dx,vs,e,a,b,s _ _ c,r1,r2.mono s⟩
theorem iE.go{O':Ex}{x:Option V}{y:Option Sl}(h:iE K H O0 O x y)(S:br H H' O O')(kp:∀l o,y.any (fun z=> match z with | .v _=> false | _=> true)=true→x=some (.ref l)→O l→¬O0 l→H l=some o→O' l∧H' l=some o):iE K H' O0 O' x y:=by
 match y,h with
 | none,_=> exact LU
 | some (.v d),⟨v,e,r⟩=> exact⟨v,e,r.step S⟩
 | some (.o ds),⟨l,vs,e,a,b,c,r⟩=> exact⟨l,vs,e,(kp l _ rfl e a b c).1,b,(kp l _ rfl e a b c).2,r.step S⟩
 | some (.k ds),⟨l,vs,e,a,b,c,r⟩=> exact⟨l,vs,e,(kp l _ rfl e a b c).1,b,(kp l _ rfl e a b c).2,r.step S⟩
 | some (.i l C ds),⟨dx,vs,e,a,b,c,r1,r2⟩=> exact⟨dx,vs,e,(kp l _ rfl e a b c).1,b,(kp l _ rfl e a b c).2,r1,r2.step S⟩
theorem Wd.mono(s:ar H H')(w:Wd K H0 O0 H O σ δ):Wd K H0 O0 H' O σ δ:=
 ⟨w.same.trans s,w.sub,w.new,fun l h z=> (by
  cases e:H l with
  | none=> exact w.trk l h e
  | some o=> rw [s _ _ e] at z;cases z),w.len,fun i y e=> (w.sl i y e).mono s,w.dis⟩
theorem kQ{i:Nat}{v:V}(h:(σ[i]?).join=some v):σ[i]?=some (some v):=by
 cases q:σ[i]? with
 | none=> rw [q] at h;cases h
 | some o=> rw [q] at h;rw [show o=some v from h]
theorem Wd.val(w:Wd K H0 O0 H O σ δ){i:Nat}{d:PyData}(e:δ[i]?=some (some (.v d))):∃v,σ[i]?=some (some v)∧Dt K H O v d:=by
 obtain⟨v,h,r⟩:=w.sl i _ e
 exact⟨v,kQ h,r⟩
theorem Wd.own(w:Wd K H0 O0 H O σ δ){i:Nat}{ds:List PyData}(e:δ[i]?=some (some (.o ds))):∃l vs,σ[i]?=some (some (.ref l))∧O l∧¬O0 l∧H l=some (.lst vs)∧aj K H O vs ds:=by
 obtain⟨l,vs,h,r⟩:=w.sl i _ e
 exact⟨l,vs,kQ h,r⟩
theorem Wd.ownK(w:Wd K H0 O0 H O σ δ){i:Nat}{kd:List (ak×PyData)}(e:δ[i]?=some (some (.k kd))):∃l kv,σ[i]?=some (some (.ref l))∧O l∧¬O0 l∧H l=some (.dK kv)∧bA K H O kv kd:=by
 obtain⟨l,vs,h,r⟩:=w.sl i _ e
 exact⟨l,vs,kQ h,r⟩
theorem Wd.ownI(w:Wd K H0 O0 H O σ δ){i:Nat}{l C:Addr}{fd:List (Str×PyData)}(e:δ[i]?=some (some (.i l C fd))):∃dx fs,σ[i]?=some (some (.ref l))∧O l∧¬O0 l∧H l=some (.ins C dx fs)∧kP K H O fs fd:=by
 obtain⟨dx,vs,h,r⟩:=w.sl i _ e
 exact⟨dx,vs,kQ h,r⟩
theorem Wd.adr(w:Wd K H0 O0 H O σ δ){i:Nat}{y:Sl}(e:δ[i]?=some (some y))(h:y.own):∃l,σ[i]?=some (some (.ref l))∧O l∧¬O0 l:=by
 match y,h,e with
 | .o ds,_,e=> obtain⟨l,vs,a,b,c,_⟩:=w.own e;exact⟨l,a,b,c⟩
 | .k ds,_,e=> obtain⟨l,vs,a,b,c,_⟩:=w.ownK e;exact⟨l,a,b,c⟩
 | .i l C ds,_,e=> obtain⟨dx,vs,a,b,c,_⟩:=w.ownI e;exact⟨l,a,b,c⟩
theorem Wd.set(w:Wd K H0 O0 H O σ δ){i:Nat}{v:V}{d:PyData}(h:Dt K H O v d):Wd K H0 O0 H O (σ.set i (some v)) (δ.set i (some (.v d))):=by
 refine⟨w.same,w.sub,w.new,w.trk,by simp [w.len],fun j y e=> ?_,fun j k y z l e1 y1 e2 z2 e3 e4=> ?_⟩
 ·by_cases hj:j=i
  ·subst hj
   have hl:j < δ.length:=by
    have:=(Ku.mp e).1;simpa using this
   rw [Lb hl] at e
   cases e
   rw [Lb (by rw [w.len];exact hl)]
   exact⟨v,rfl,h⟩
  ·rw [KU (Ne.symm hj)] at e⊢
   exact w.sl j y e
 ·have ne:∀{j:Nat}{y:Sl},(δ.set i (some (.v d)))[j]?=some (some y)→y.own→j≠i:=fun{j y} e ho z=> by
   subst z
   by_cases hl:j < δ.length
   ·rw [Lb hl] at e;cases e;exact ho
   ·rw [LP (by simpa using hl)] at e;cases e
  have n1:=ne e1 y1;have n2:=ne e2 z2
  rw [KU (Ne.symm n1)] at e1 e3
  rw [KU (Ne.symm n2)] at e2 e4
  exact w.dis j k y z l e1 y1 e2 z2 e3 e4
theorem Wd.setY(w:Wd K H0 O0 H O σ δ){i:Nat}{p:Addr}{ho:HO}{y0:Sl}(hy:y0.own)(hp:H p=none)(h:∀O',br H (au H p ho) O O'→O' p→¬O0 p→iE K (au H p ho) O0 O' (some (.ref p)) (some y0)):
  Wd K H0 O0 (au H p ho) (fun l=> O l∨l=p) (σ.set i (some (.ref p))) (δ.set i (some y0)):=by
 have sm:ar H (au H p ho):=ar.new hp
 have np:∀l,O l→l≠p:=fun l hl z=> w.trk l hl (by rw [z];exact hp)
 have p0:H0 p=none:=by
  cases e:H0 p with
  | none=> rfl
  | some o=> rw [w.same _ _ e] at hp;cases hp
 have S:br H (au H p ho) O (fun l=> O l∨l=p):=⟨fun b o e _=> sm b o e,fun b hb hn z=> z.elim hn fun q=> hb (by rw [q];exact hp)⟩
 have n0:¬O0 p:=fun z=> np p (w.sub p z) rfl
 refine⟨w.same.trans sm,fun l z=> .inl (w.sub l z),fun l z=> z.elim (w.new l) fun q=> .inr (by rw [q];exact p0),fun l z=> ?_,by simp [w.len],fun j y e=> ?_,fun j k y z l e1 y1 e2 z2 e3 e4=> ?_⟩
 ·by_cases q:l=p
  ·rw [q,bu];exact fun z=> nomatch z
  ·rw [aJ q];exact w.trk l (z.resolve_right q)
 ·by_cases hj:j=i
  ·subst hj
   have hl:j < δ.length:=by
    have:=(Ku.mp e).1;simpa using this
   rw [Lb hl] at e
   cases e
   rw [Lb (by rw [w.len];exact hl)]
   exact h _ S (.inr rfl) n0
  ·rw [KU (Ne.symm hj)] at e⊢
   exact(w.sl j y e).go S fun l o _ _ a _ c=> ⟨.inl a,sm _ _ c⟩
 ·by_cases hj:j=i
  ·by_cases hk:k=i
   ·rw [hj,hk]
   ·exfalso
    rw [hj] at e1 e3
    have hl:i < σ.length:=by
     have:=(Ku.mp e3).1;simpa using this
    rw [Lb hl] at e3
    cases e3
    rw [KU (Ne.symm hk)] at e2 e4
    obtain⟨l',x1,x2,_⟩:=w.adr e2 z2
    rw [e4] at x1;cases x1
    exact np _ x2 rfl
  ·by_cases hk:k=i
   ·exfalso
    rw [hk] at e2 e4
    have hl:i < σ.length:=by
     have:=(Ku.mp e4).1;simpa using this
    rw [Lb hl] at e4
    cases e4
    rw [KU (Ne.symm hj)] at e1 e3
    obtain⟨l',x1,x2,_⟩:=w.adr e1 y1
    rw [e3] at x1;cases x1
    exact np _ x2 rfl
   ·rw [KU (Ne.symm hj)] at e1 e3
    rw [KU (Ne.symm hk)] at e2 e4
    exact w.dis j k _ _ l e1 y1 e2 z2 e3 e4
theorem Wd.setO(w:Wd K H0 O0 H O σ δ){i:Nat}{p:Addr}{vs:List V}{ds:List PyData}(hp:H p=none)(h:aj K H O vs ds):
  Wd K H0 O0 (au H p (.lst vs)) (fun l=> O l∨l=p) (σ.set i (some (.ref p))) (δ.set i (some (.o ds))):=
 w.setY trivial hp fun O' S a b=> ⟨p,vs,rfl,a,b,bu,h.step S⟩
theorem Wd.setK(w:Wd K H0 O0 H O σ δ){i:Nat}{p:Addr}{kv:List (ak×V)}{kd:List (ak×PyData)}(hp:H p=none)(h:bA K H O kv kd):
  Wd K H0 O0 (au H p (.dK kv)) (fun l=> O l∨l=p) (σ.set i (some (.ref p))) (δ.set i (some (.k kd))):=
 w.setY trivial hp fun O' S a b=> ⟨p,kv,rfl,a,b,bu,h.step S⟩
theorem Wd.putY(w:Wd K H0 O0 H O σ δ){i:Nat}{l:Addr}{ho:HO}{y0 y1:Sl}(h0:y0.own)(h1:y1.own)(e:δ[i]?=some (some y0))(hl:σ[i]?=some (some (.ref l)))(h:br H (au H l ho) O O→O l→¬O0 l→iE K (au H l ho) O0 O (some (.ref l)) (some y1)):
  Wd K H0 O0 (au H l ho) O σ (δ.set i (some y1)):=by
 obtain⟨l',x1,x2,x3⟩:=w.adr e h0
 rw [hl] at x1;cases x1
 have l0:H0 l=none:=(w.new l x2).resolve_left x3
 have S:br H (au H l ho) O O:=⟨fun b o q n=> by rw [aJ (fun z=> n (by rw [z];exact x2))];exact q,fun _ _ n=> n⟩
 have li:i < δ.length:=(Ku.mp e).1
 refine⟨fun b o q=> by rw [aJ (fun z=> by rw [z,l0] at q;cases q)];exact w.same b o q,w.sub,w.new,fun b z=> ?_,by simp [w.len],fun j y q=> ?_,fun j k y z b e1 y1' e2 z2 e3 e4=> ?_⟩
 ·by_cases q:b=l
  ·rw [q,bu];exact fun z=> nomatch z
  ·rw [aJ q];exact w.trk b z
 ·by_cases hj:j=i
  ·subst hj
   rw [Lb li] at q
   cases q
   rw [hl]
   exact h S x2 x3
  ·rw [KU (Ne.symm hj)] at q
   refine(w.sl j y q).go S fun b o ho' e' a1 a2 a3=> ⟨a1,?_⟩
   have nb:b≠l:=fun z=> by
    subst z
    match y,ho',q with
    | some z,ho',q=> exact hj (w.dis j i z y0 b q (by cases z <;> first | trivial | cases ho') e h0 (kQ e') hl)
   rw [aJ nb];exact a3
 ·have gS:∀{j:Nat}{y:Sl},(δ.set i (some y1))[j]?=some (some y)→y.own→∃y',δ[j]?=some (some y')∧y'.own:=fun{j y} q hq=> by
   by_cases hj:j=i
   ·subst hj;exact⟨_,e,h0⟩
   ·rw [KU (Ne.symm hj)] at q;exact⟨_,q,hq⟩
  obtain⟨_,q1,r1⟩:=gS e1 y1'
  obtain⟨_,q2,r2⟩:=gS e2 z2
  exact w.dis j k _ _ b q1 r1 q2 r2 e3 e4
theorem Wd.putO(w:Wd K H0 O0 H O σ δ){i:Nat}{l:Addr}{vs us:List V}{ds es:List PyData}(e:δ[i]?=some (some (.o ds)))(hl:σ[i]?=some (some (.ref l)))(h:aj K H O us es):
  Wd K H0 O0 (au H l (.lst us)) O σ (δ.set i (some (.o es))):=
 w.putY (y0:= .o ds) (y1:= .o es) trivial trivial e hl fun S a b=> ⟨l,us,rfl,a,b,bu,h.step S⟩
theorem Wd.putK(w:Wd K H0 O0 H O σ δ){i:Nat}{l:Addr}{kv:List (ak×V)}{kd kd':List (ak×PyData)}(e:δ[i]?=some (some (.k kd)))(hl:σ[i]?=some (some (.ref l)))(h:bA K H O kv kd'):
  Wd K H0 O0 (au H l (.dK kv)) O σ (δ.set i (some (.k kd'))):=
 w.putY (y0:= .k kd) (y1:= .k kd') trivial trivial e hl fun S a b=> ⟨l,kv,rfl,a,b,bu,h.step S⟩
end
abbrev DT:=Dl→(PyData→Prop)→Prop
abbrev DA:=Dl→(List PyData→Prop)→Prop
abbrev DB:=Dl→(Bool→Prop)→Prop
structure mz where
 nx:Dl→Prop
 rt:PyData→Prop
 bk:Dl→Prop:=fun _=> False
 ct:Dl→Prop:=fun _=> False
abbrev DS:=mz→Dl→Prop
section
variable (K:Kb) (H0:Hp) (O0:Ex)
def up(t:DT):TE:=fun σ H R=> ∃O δ Qd,Wd K H0 O0 H O σ δ∧t δ Qd∧∀d v H',Qd d→ar H H'→Dt K H' O v d→R v H'
def qH(t:DT):TE:=fun σ H R=> ∃O δ Qd,Wd K H0 O0 H O σ δ∧t δ Qd∧∀d v H',Qd d→ar H H'→Sh K H' O v d→R v H'
def fH(t:DA):TA:=fun σ H R=> ∃O δ Qd,Wd K H0 O0 H O σ δ∧t δ Qd∧∀ds vs H',Qd ds→ar H H'→aj K H' O vs ds→R vs H'
def cj(t:DB):TT:=fun σ H R=> ∃O δ Qd,Wd K H0 O0 H O σ δ∧t δ Qd∧∀b H',Qd b→ar H H'→R b H'
def bP(t:DS):TS:=fun D σ H=> ∃O δ E,Wd K H0 O0 H O σ δ∧t E δ∧(∀O' δ' σ' H',E.nx δ'→Wd K H0 O0 H' O' σ' δ'→br H H' O O'→D.nx σ' H')∧(∀d v H',E.rt d→ar H0 H'→Dt K H' O0 v d→D.rt v H')∧
 (∀O' δ' σ' H',E.bk δ'→Wd K H0 O0 H' O' σ' δ'→br H H' O O'→D.bk σ' H')∧(∀O' δ' σ' H',E.ct δ'→Wd K H0 O0 H' O' σ' δ'→br H H' O O'→D.ct σ' H')
end
theorem PE.imp{X:Cx}{e:Expr}{t u:TE}(h:PE X e t)(i:∀σ H Q,u σ H Q→t σ H Q):PE X e u:=fun pins s σ H Q I z=> h pins s σ H Q I (i σ H Q z)
theorem PT.imp{X:Cx}{e:Expr}{t u:TT}(h:PT X e t)(i:∀σ H Q,u σ H Q→t σ H Q):PT X e u:=fun pins s σ H Q I z=> h pins s σ H Q I (i σ H Q z)
theorem PW.imp{X:Cx}{e:Expr}{t u:TT}(h:PW X e t)(i:∀σ H Q,u σ H Q→t σ H Q):PW X e u:=fun wh pins s σ H Q I z=> h wh pins s σ H Q I (i σ H Q z)
theorem PA.imp{X:Cx}{e:List Expr}{t u:TA}(h:PA X e t)(i:∀σ H Q,u σ H Q→t σ H Q):PA X e u:=fun pos pins s σ H Q I z=> h pos pins s σ H Q I (i σ H Q z)
theorem PS.imp{X:Cx}{e:Stmt}{t u:TS}(h:PS X e t)(i:∀D σ H,u D σ H→t D σ H):PS X e u:=fun pins s σ H D I z=> h pins s σ H D I (i D σ H z)
theorem bQ.imp{X:Cx}{e:List Stmt}{t u:TS}(h:bQ X e t)(i:∀D σ H,u D σ H→t D σ H):bQ X e u:=fun pins s σ H D I z=> h pins s σ H D I (i D σ H z)
section
variable {X:Cx} {H0:Hp} {O0:Ex}
abbrev DE(X:Cx)(H0:Hp)(O0:Ex)(e:Expr)(t:DT):Prop:=PE X e (up X.K H0 O0 t)
abbrev DF(X:Cx)(H0:Hp)(O0:Ex)(e:Expr)(t:DT):Prop:=PE X e (qH X.K H0 O0 t)
theorem df{e:Expr}{t:DT}(h:DE X H0 O0 e t):DF X H0 O0 e t:=h.imp fun σ H Q uu62=> by obtain⟨O,δ,Qd,w,q,k⟩:=uu62;exact⟨O,δ,Qd,w,q,fun d v H' a b c=> k d v H' a b (.dt c)⟩
def cL(i:Nat):DT:=fun δ Q=> ∃d,δ[i]?=some (some (.v d))∧Q d
def qI(i:Nat):DT:=fun δ Q=> ∃ds,δ[i]?=some (some (.o ds))∧Q (.list ds)
def dC(d:PyData):DT:=fun _ Q=> Q d
theorem dv(i:Nat){x:Str}{pos:Pos}(hN:X.N[i]?=some x:=by rfl)(hv:lW X.env.scope x:=by first | exact OR rfl | exact NN (OR rfl) | exact NN (NN rfl))
  (hd:(x==("__debug__":Str))=false:=by decide)(hcd:(x==("__classdict__":Str))=false:=by decide):DE X H0 O0 (.Name x pos) (cL i):=
 (pZ hN hv hd hcd).imp fun σ H Q uu63=> by
  obtain⟨O,δ,Qd,w,⟨d,e,q⟩,k⟩:=uu63
  obtain⟨v,h,r⟩:=w.val e
  exact⟨v,h,k d v H q (ar.refl _) r⟩
theorem dw(i:Nat){x:Str}{pos:Pos}(hN:X.N[i]?=some x:=by rfl)(hv:lW X.env.scope x:=by first | exact OR rfl | exact NN (OR rfl) | exact NN (NN rfl))
  (hd:(x==("__debug__":Str))=false:=by decide)(hcd:(x==("__classdict__":Str))=false:=by decide):DF X H0 O0 (.Name x pos) (qI i):=
 (pZ hN hv hd hcd).imp fun σ H Q uu64=> by
  obtain⟨O,δ,Qd,w,⟨ds,e,q⟩,k⟩:=uu64
  obtain⟨l,vs,h,_,_,r,rs⟩:=w.own e
  exact⟨_,h,k _ _ H q (ar.refl _) (.own r rs)⟩
theorem dc{e:Expr}{v:V}{d:PyData}(h:PE X e (tC v))(r:∀H O,Dt X.K H O v d):DE X H0 O0 e (dC d):=h.imp fun σ H Q uu65=> by obtain⟨O,δ,Qd,w,q,k⟩:=uu65;exact k d v H q (ar.refl _) (r H O)
theorem ag{i j pos}:DE X H0 O0 (.Constant (.int i) j pos) (dC (.int i)):=dc bb fun _ _=> .int i
theorem fu{b j pos}:DE X H0 O0 (.Constant (.bool b) j pos) (dC (.bool b)):=dc CJ fun _ _=> .bl b
theorem ke{j pos}:DE X H0 O0 (.Constant .none j pos) (dC .none):=dc CK fun _ _=> .non
theorem aP{x j pos}:DE X H0 O0 (.Constant (.str x) j pos) (dC (.str x)):=dc p5 fun _ _=> .str x
def mB:DA:=fun _ Q=> Q []
def kR(t:DT)(u:DA):DA:=fun δ Q=> t δ fun d=> u δ fun ds=> Q (d::ds)
theorem ai:PA X [] (fH X.K H0 O0 mB):=cm.imp fun σ H Q uu66=> by obtain⟨O,δ,Qd,w,q,k⟩:=uu66;exact k [] [] H q (ar.refl _) .nil
theorem aa{e:Expr}{es:List Expr}{t:DT}{u:DA}(h:DE X H0 O0 e t)(hs:PA X es (fH X.K H0 O0 u))(he:starEach (e::es) X.env=(false,eval e X.env)::starEach es X.env:=by rfl):PA X (e::es) (fH X.K H0 O0 (kR t u)):=
 (bC h hs he).imp fun σ H Q uu67=> by obtain⟨O,δ,Qd,w,q,k⟩:=uu67;exact⟨O,δ,_,w,q,fun d v H1 q1 s1 r1=> ⟨O,δ,_,w.mono s1,q1,fun ds vs H2 q2 s2 r2=> k (d::ds) (v::vs) H2 q2 (s1.trans s2) (.cons (r1.mono s2) r2)⟩⟩
def qJ(t:DA):DT:=fun δ Q=> t δ fun ds=> ds.length≤sizeLine∧Q (.tuple ds)
theorem og{H:Hp}{O:Ex}{σ:St}{δ:Dl}{H1:Hp}{p:Addr}{K:Kb}(w:Wd K H0 O0 H O σ δ)(s:ar H H1)(hp:H1 p=none):¬O p:=fun z=> (w.mono s).trk p z hp
theorem bD{es:List Expr}{t:DA}{x1}{pos:Pos}(h:PA X es (fH X.K H0 O0 t)):DE X H0 O0 (.Tuple es x1 pos) (qJ t):=
 (vY h).imp fun σ H Q uu68=> by obtain⟨O,δ,Qd,w,q,k⟩:=uu68;exact⟨O,δ,_,w,q,fun ds vs H1 q1 s1 r1=> ⟨by rw [r1.length];exact q1.1,fun p hp=> k _ _ _ q1.2 (s1.trans (ar.new hp)) (.tup (.inl bu) (og w s1 hp) (r1.mono (ar.new hp)))⟩⟩
end
end L2
namespace L2
open PySem PySem.Spec PyProof.Rows PySem.W
theorem br.refl(H:Hp)(O:Ex):br H H O O:=⟨fun _ _ e _=> e,fun _ _ n=> n⟩
theorem br.trans{H H1 H2:Hp}{O O1 O2:Ex}(a:br H H1 O O1)(b:br H1 H2 O1 O2):br H H2 O O2:=by
 refine⟨fun c o e n=> ?_,fun c e n=> ?_⟩
 ·have h1:=a.keep c o e n
  exact b.keep c o h1 (a.out c (by rw [e];exact fun z=> nomatch z) n)
 ·cases q:H c with
  | none=> exact absurd q e
  | some o=> exact b.out c (by rw [a.keep c o q n];exact fun z=> nomatch z) (a.out c e n)
section
variable {X:Cx} {H0:Hp} {O0:Ex}
def cM(K:Kb)(r:R2)(rd:PyData→PyData→(PyData→Prop)→Prop):Prop:=
 ∀(H:Hp)(O:Ex)(x y:V)(dx dy:PyData)(Qd:PyData→Prop)(R:VK),(∀l,O l→H l≠none)→Sh K H O x dx→Sh K H O y dy→rd dx dy Qd→(∀d v H',Qd d→ar H H'→Dt K H' O v d→R v H')→r x y H R
def dB(rd:PyData→PyData→(PyData→Prop)→Prop)(ta tb:DT):DT:=fun δ Q=> ta δ fun x=> tb δ fun y=> rd x y Q
theorem oh{K:Kb}{r:R2}{rd:PyData→PyData→(PyData→Prop)→Prop}{ta tb:DT}(hd:cM K r rd):∀σ H Q,up K H0 O0 (dB rd ta tb) σ H Q→kJ r (qH K H0 O0 ta) (qH K H0 O0 tb) σ H Q:=
 fun σ H Q uu69=> by obtain⟨O,δ,Qd,w,q,k⟩:=uu69;exact⟨O,δ,_,w,q,fun x v H1 q1 s1 r1=> ⟨O,δ,_,w.mono s1,q1,fun y u H2 q2 s2 r2=> hd H2 O v u x y Qd _ (w.mono (s1.trans s2)).trk (r1.mono s2) r2 q2 fun d z H3 qd s3 r3=> k d z H3 qd (s1.trans (s2.trans s3)) r3⟩⟩
theorem aV{a b:Expr}{ta tb:DT}{op:Operator}{r:R2}{rd:PyData→PyData→(PyData→Prop)→Prop}{pos:Pos}(ho:bS X (binaryOp op) r)(hd:cM X.K r rd)(ha:DF X H0 O0 a ta)(hb:DF X H0 O0 b tb):DE X H0 O0 (.BinOp a op b pos) (dB rd ta tb):=(bh ho ha hb).imp (oh hd)
theorem dR{a b:Expr}{ta tb:DT}{op:CmpOp}{r:R2}{rd:PyData→PyData→(PyData→Prop)→Prop}{pos:Pos}(ho:bS X (compareOp op) r)(hd:cM X.K r rd)(ha:DF X H0 O0 a ta)(hb:DF X H0 O0 b tb)(hm:behindInMarks op b=false):DE X H0 O0 (.Compare a [op] [b] pos) (dB rd ta tb):=(nU ho ha hb hm).imp (oh hd)
def gQ(t:DT):DB:=fun δ Q=> t δ fun d=> ∃b,d= .bool b∧Q b
theorem aM{a b:Expr}{ta tb:DT}{op:CmpOp}{r:R2}{rd:PyData→PyData→(PyData→Prop)→Prop}{pos:Pos}(ho:bS X (compareOp op) r)(hd:cM X.K r rd)(ha:DF X H0 O0 a ta)(hb:DF X H0 O0 b tb)(hm:behindInMarks op b=false):PT X (.Compare a [op] [b] pos) (cj X.K H0 O0 (gQ (dB rd ta tb))):=
 (gM ho ha hb hm).imp fun σ H Q uu70=> by obtain⟨O,δ,Qd,w,q,k⟩:=uu70;exact oh hd σ H _ ⟨O,δ,_,w,q,fun d v H' uu71 s r=> by obtain⟨b,e,qb⟩:=uu71;subst e;cases r;exact⟨b,rfl,k b H' qb s⟩⟩
theorem iF{e:Expr}{t:DT}(h:DE X H0 O0 e t)(he:∀whole,isTrue e X.env whole=(do let v←whole;standAt e.pos;holding [v] (truthy v)):=by intro _;rfl):PT X e (cj X.K H0 O0 (gQ t)):=
 (uX h he).imp fun σ H Q uu72=> by obtain⟨O,δ,Qd,w,q,k⟩:=uu72;exact⟨O,δ,_,w,q,fun d v H' uu73 s r=> by obtain⟨b,e,qb⟩:=uu73;subst e;cases r;exact⟨b,rfl,k b H' qb s⟩⟩
def qK(t u:DB):DB:=fun δ Q=> t δ fun c=> if c=true then u δ Q else Q false
def qL(t u:DB):DB:=fun δ Q=> t δ fun c=> if c=true then Q true else u δ Q
def qM(t:DB):DB:=fun δ Q=> t δ fun c=> Q (!c)
theorem eZ{a:Expr}{t:DB}{pos:Pos}(h:PT X a (cj X.K H0 O0 t)):PW X (.BoolOp .And [a] pos) (cj X.K H0 O0 t):=u7 h
theorem jw{a:Expr}{t:DB}{pos:Pos}(h:PT X a (cj X.K H0 O0 t)):PW X (.BoolOp .Or [a] pos) (cj X.K H0 O0 t):=u9 h
theorem eQ{a b:Expr}{rest:List Expr}{t u:DB}{pos:Pos}(h:PT X a (cj X.K H0 O0 t))(hb:PW X (.BoolOp .And (b::rest) pos) (cj X.K H0 O0 u)):PW X (.BoolOp .And (a::b::rest) pos) (cj X.K H0 O0 (qK t u)):=
 (va h hb).imp fun σ H Q uu74=> by obtain⟨O,δ,Qd,w,q,k⟩:=uu74;exact⟨O,δ,_,w,q,fun c H1 q1 s1=> by
  cases c with
  | true=> exact⟨O,δ,_,w.mono s1,q1,fun b H2 q2 s2=> k b H2 q2 (s1.trans s2)⟩
  | false=> exact k false H1 q1 s1⟩
theorem iG{a b:Expr}{rest:List Expr}{t u:DB}{pos:Pos}(h:PT X a (cj X.K H0 O0 t))(hb:PW X (.BoolOp .Or (b::rest) pos) (cj X.K H0 O0 u)):PW X (.BoolOp .Or (a::b::rest) pos) (cj X.K H0 O0 (qL t u)):=
 (vb h hb).imp fun σ H Q uu75=> by obtain⟨O,δ,Qd,w,q,k⟩:=uu75;exact⟨O,δ,_,w,q,fun c H1 q1 s1=> by
  cases c with
  | false=> exact⟨O,δ,_,w.mono s1,q1,fun b H2 q2 s2=> k b H2 q2 (s1.trans s2)⟩
  | true=> exact k true H1 q1 s1⟩
theorem kg{a:Expr}{t:DB}{pos:Pos}(h:PT X a (cj X.K H0 O0 t)):PT X (.UnaryOp .Not a pos) (cj X.K H0 O0 (qM t)):=
 (CM h).imp fun σ H Q uu76=> by obtain⟨O,δ,Qd,w,q,k⟩:=uu76;exact⟨O,δ,_,w,q,fun c H1 q1 s1=> k (!c) H1 q1 s1⟩
def mC(t u:DT):DT:=fun δ Q=> t δ fun d=> ∃c,d= .bool c∧if c=true then u δ Q else Q (.bool false)
def qN(t u:DT):DT:=fun δ Q=> t δ fun d=> ∃c,d= .bool c∧if c=true then Q (.bool true) else u δ Q
theorem kh{op}{a:Expr}{t:DT}{pos:Pos}(h:DE X H0 O0 a t):DE X H0 O0 (.BoolOp op [a] pos) t:=p6 h
theorem mD{a b:Expr}{rest:List Expr}{t u:DT}{pos:Pos}(h:DE X H0 O0 a t)(hb:DE X H0 O0 (.BoolOp .And (b::rest) pos) u):DE X H0 O0 (.BoolOp .And (a::b::rest) pos) (mC t u):=
 (ve h hb).imp fun σ H Q ⟨O,δ,Qd,w,q,k⟩=> ⟨O,δ,_,w,q,fun d v H1 uu78 s1 r=> by
  obtain⟨c,e,q1⟩:=uu78
  subst e;cases r
  refine⟨c,rfl,?_⟩
  cases c with
  | true=> exact⟨O,δ,_,w.mono s1,q1,fun d v H2 q2 s2 r2=> k d v H2 q2 (s1.trans s2) r2⟩
  | false=> exact k _ _ H1 q1 s1 (.bl false)⟩
theorem wX{a b:Expr}{rest:List Expr}{t u:DT}{pos:Pos}(h:DE X H0 O0 a t)(hb:DE X H0 O0 (.BoolOp .Or (b::rest) pos) u):DE X H0 O0 (.BoolOp .Or (a::b::rest) pos) (qN t u):=
 (vf h hb).imp fun σ H Q ⟨O,δ,Qd,w,q,k⟩=> ⟨O,δ,_,w,q,fun d v H1 uu80 s1 r=> by
  obtain⟨c,e,q1⟩:=uu80
  subst e;cases r
  refine⟨c,rfl,?_⟩
  cases c with
  | false=> exact⟨O,δ,_,w.mono s1,q1,fun d v H2 q2 s2 r2=> k d v H2 q2 (s1.trans s2) r2⟩
  | true=> exact k _ _ H1 q1 s1 (.bl true)⟩
def qO(c:DB)(t u:DT):DT:=fun δ Q=> c δ fun b=> if b=true then t δ Q else u δ Q
theorem ED{c a b:Expr}{tc:DB}{t u:DT}{pos:Pos}(hc:PT X c (cj X.K H0 O0 tc))(ha:DE X H0 O0 a t)(hb:DE X H0 O0 b u):DE X H0 O0 (.IfExp c a b pos) (qO tc t u):=
 (vh hc ha hb).imp fun σ H Q uu81=> by obtain⟨O,δ,Qd,w,q,k⟩:=uu81;exact⟨O,δ,_,w,q,fun c H1 q1 s1=> by
  cases c with
  | true=> exact⟨O,δ,_,w.mono s1,q1,fun d v H2 q2 s2 r2=> k d v H2 q2 (s1.trans s2) r2⟩
  | false=> exact⟨O,δ,_,w.mono s1,q1,fun d v H2 q2 s2 r2=> k d v H2 q2 (s1.trans s2) r2⟩⟩
def bp(K:Kb)(F:List PyData→(PyData→Prop)→Prop):Sp:=fun vs H Q _=> ∃O ds Qd,(∀l,O l→H l≠none)∧aj K H O vs ds∧F ds Qd∧∀d v H',Qd d→ar H H'→Dt K H' O v d→Q v H'
def kT(F:List PyData→(PyData→Prop)→Prop)(t:DA):DT:=fun δ Q=> t δ fun ds=> F ds Q
theorem az{K:Kb}{F:List PyData→(PyData→Prop)→Prop}{t:DA}{E:XK}:∀σ H Q,up K H0 O0 (kT F t) σ H Q→qx (bp K F) [] E (fH K H0 O0 t) σ H Q:=
 fun σ H Q uu82=> by obtain⟨O,δ,Qd,w,q,k⟩:=uu82;exact⟨O,δ,_,w,q,fun ds vs H1 q1 s1 r1=> ⟨O,ds,Qd,(w.mono s1).trk,by rw [LH];exact r1,q1,fun d v H2 q2 s2 r2=> k d v H2 q2 (s1.trans s2) r2⟩⟩
inductive kU (K:Kb) (H:Hp) (O:Ex):List V→List PyData→Prop
 | nil:kU K H O [] []
 | cons {v:V} {d:PyData} {vs:List V} {ds:List PyData}:Sh K H O v d→kU K H O vs ds→kU K H O (v::vs) (d::ds)
def gR(K:Kb)(H0:Hp)(O0:Ex)(t:DA):TA:=fun σ H R=> ∃O δ Qd,Wd K H0 O0 H O σ δ∧t δ Qd∧∀ds vs H',Qd ds→ar H H'→kU K H' O vs ds→R vs H'
theorem bx:PA X [] (gR X.K H0 O0 mB):=cm.imp fun σ H Q uu83=> by obtain⟨O,δ,Qd,w,q,k⟩:=uu83;exact k [] [] H q (ar.refl _) .nil
theorem bg{e:Expr}{es:List Expr}{t:DT}{u:DA}(h:DF X H0 O0 e t)(hs:PA X es (gR X.K H0 O0 u))(he:starEach (e::es) X.env=(false,eval e X.env)::starEach es X.env:=by rfl):PA X (e::es) (gR X.K H0 O0 (kR t u)):=
 (bC h hs he).imp fun σ H Q uu84=> by obtain⟨O,δ,Qd,w,q,k⟩:=uu84;exact⟨O,δ,_,w,q,fun d v H1 q1 s1 r1=> ⟨O,δ,_,w.mono s1,q1,fun ds vs H2 q2 s2 r2=> k (d::ds) (v::vs) H2 q2 (s1.trans s2) (.cons (r1.mono s2) r2)⟩⟩
def iH(K:Kb)(r:List V→Hp→VK→Prop)(rd:List PyData→(PyData→Prop)→Prop):Prop:=
 ∀(H:Hp)(O:Ex)(xs:List V)(ds:List PyData)(Qd:PyData→Prop)(R:VK),(∀l,O l→H l≠none)→kU K H O xs ds→rd ds Qd→(∀d v H',Qd d→ar H H'→Dt K H' O v d→R v H')→r xs H R
theorem bN{K:Kb}{r:List V→Hp→VK→Prop}{rd:List PyData→(PyData→Prop)→Prop}{t:DA}(hd:iH K r rd):∀σ H Q,up K H0 O0 (kT rd t) σ H Q→nW r (gR K H0 O0 t) σ H Q:=
 fun σ H Q uu85=> by obtain⟨O,δ,Qd,w,q,k⟩:=uu85;exact⟨O,δ,_,w,q,fun ds vs H1 q1 s1 r1=> hd H1 O vs ds Qd _ (w.mono s1).trk r1 q1 fun d v H2 q2 s2 r2=> k d v H2 q2 (s1.trans s2) r2⟩
def qP(t u:DS):DS:=fun E δ=> t {E with nx:=u E} δ
theorem aA{st:Stmt}{rest:List Stmt}{t u:DS}(h:PS X st (bP X.K H0 O0 t))(h2:bQ X rest (bP X.K H0 O0 u)):bQ X (st::rest) (bP X.K H0 O0 (qP t u)):=
 (cA h h2).imp fun D σ H uu86=> by obtain⟨O,δ,E,w,q,k1,k2,k3,k4⟩:=uu86;exact⟨O,δ,_,w,q,fun O' δ' σ' H' z w' S=> ⟨O',δ',E,w',z,fun O2 δ2 σ2 H2 z2 w2 S2=> k1 O2 δ2 σ2 H2 z2 w2 (S.trans S2),k2,fun O2 δ2 σ2 H2 z2 w2 S2=> k3 O2 δ2 σ2 H2 z2 w2 (S.trans S2),fun O2 δ2 σ2 H2 z2 w2 S2=> k4 O2 δ2 σ2 H2 z2 w2 (S.trans S2)⟩,k2,k3,k4⟩
def qQ:DS:=fun E δ=> E.nx δ
theorem bJ:bQ X [] (bP X.K H0 O0 qQ):=j3.imp fun D σ H uu87=> by obtain⟨O,δ,E,w,q,k1,k2,k3,k4⟩:=uu87;exact k1 O δ σ H q w (br.refl _ _)
theorem aC{st:Stmt}{t:DS}(h:PS X st (bP X.K H0 O0 t)):bQ X [st] (bP X.K H0 O0 t):=dN h
def oi(i:Nat)(t:DT):DS:=fun E δ=> t δ fun d=> E.nx (δ.set i (some (.v d)))
theorem bG{i:Nat}{x:Str}{e:Expr}{t:DT}{pos pos':Pos}(hN:X.N.Nodup)(hi:X.N[i]?=some x)(hx:gH X.env.scope x)(he:DE X H0 O0 e t)(hs:swapsWith e (some (.Name x pos')) pos.line X.env=pure false:=by rfl)(hf:X.fn x=true∨X.env.scope.names.lookup x=some .local:=by first | exact .inl rfl | exact .inr rfl | assumption):
  PS X (.Assign [.Name x pos'] e pos) (bP X.K H0 O0 (oi i t)):=
 (dq hN hi hx he hs hf).imp fun D σ H uu88=> by obtain⟨O,δ,E,w,q,k1,k2,k3,k4⟩:=uu88;exact⟨O,δ,_,w,q,fun d v H1 q1 s1 r1=> k1 O _ _ H1 q1 ((w.mono s1).set r1) (.same s1)⟩
def qR(t:DT):DS:=fun E δ=> t δ E.rt
theorem gS{K:Kb}{H:Hp}{O:Ex}{σ:St}{δ:Dl}(w:Wd K H0 O0 H O σ δ):br H H O O0:=⟨fun _ _ e _=> e,fun b _ n z=> n (w.sub b z)⟩
theorem aN{e:Expr}{t:DT}{pos:Pos}(he:DE X H0 O0 e t):PS X (.Return (some e) pos) (bP X.K H0 O0 (qR t)):=
 (d9 he).imp fun D σ H uu89=> by obtain⟨O,δ,E,w,q,k1,k2,k3,k4⟩:=uu89;exact⟨O,δ,_,w,q,fun d v H1 q1 s1 r1=> k2 d v H1 q1 (w.same.trans s1) (r1.step (gS (w.mono s1)))⟩
def qS(c:DB)(t u:DS):DS:=fun E δ=> c δ fun b=> if b=true then t E δ else u E δ
theorem bH{c:Expr}{a b:List Stmt}{tc:DB}{t u:DS}{pos:Pos}(hc:PT X c (cj X.K H0 O0 tc))(ha:bQ X a (bP X.K H0 O0 t))(hb:bQ X b (bP X.K H0 O0 u)):PS X (.If c a b pos) (bP X.K H0 O0 (qS tc t u)):=
 (j4 hc ha hb).imp fun D σ H uu90=> by obtain⟨O,δ,E,w,q,k1,k2,k3,k4⟩:=uu90;exact⟨O,δ,_,w,q,fun c H1 q1 s1=> by
  have g:∀{t':DS},t' E δ→bP X.K H0 O0 t' D σ H1:=fun z=> ⟨O,δ,E,w.mono s1,z,fun O2 δ2 σ2 H2 z2 w2 S2=> k1 O2 δ2 σ2 H2 z2 w2 (br.trans (.same s1) S2),k2,fun O2 δ2 σ2 H2 z2 w2 S2=> k3 O2 δ2 σ2 H2 z2 w2 (br.trans (.same s1) S2),fun O2 δ2 σ2 H2 z2 w2 S2=> k4 O2 δ2 σ2 H2 z2 w2 (br.trans (.same s1) S2)⟩
  cases c with
  | true=> exact g q1
  | false=> exact g q1⟩
def oj(K:Kb)(H0:Hp)(O0:Ex)(t:DA):TE:=fun σ H R=> ∃O δ Qd,Wd K H0 O0 H O σ δ∧t δ Qd∧∀ds vs p H',Qd ds→ar H H'→H' p=none→aj K H' O vs ds→R (.ref p) (au H' p (.lst vs))
abbrev FE(X:Cx)(H0:Hp)(O0:Ex)(e:Expr)(t:DA):Prop:=PE X e (oj X.K H0 O0 t)
def dL(t:DA):DT:=fun δ Q=> t δ fun ds=> Q (.list ds)
theorem fe{e:Expr}{t:DA}(h:FE X H0 O0 e t):DE X H0 O0 e (dL t):=
 h.imp fun σ H Q uu91=> by obtain⟨O,δ,Qd,w,q,k⟩:=uu91;exact⟨O,δ,_,w,q,fun ds vs p H1 q1 s1 hp r1=> k _ _ _ q1 (s1.trans (ar.new hp)) (.lst (.inl bu) (og w s1 hp) (r1.mono (ar.new hp)))⟩
def om(t:DA):DA:=fun δ Q=> t δ fun ds=> ds.length≤sizeLine∧Q ds
theorem dh{es:List Expr}{t:DA}{pos:Pos}(h:PA X es (fH X.K H0 O0 t)):FE X H0 O0 (.List es pos) (om t):=
 (vZ h).imp fun σ H Q uu92=> by obtain⟨O,δ,Qd,w,q,k⟩:=uu92;exact⟨O,δ,_,w,q,fun ds vs H1 q1 s1 r1=> ⟨by rw [r1.length];exact q1.1,fun p hp=> k _ _ _ _ q1.2 s1 hp r1⟩⟩
def qT(i:Nat)(t:DA):DS:=fun E δ=> t δ fun ds=> E.nx (δ.set i (some (.o ds)))
theorem oo{i:Nat}{x:Str}{e:Expr}{t:DA}{pos pos':Pos}(hN:X.N.Nodup)(hi:X.N[i]?=some x)(hx:gH X.env.scope x)(he:FE X H0 O0 e t)(hs:swapsWith e (some (.Name x pos')) pos.line X.env=pure false:=by rfl)(hf:X.fn x=true∨X.env.scope.names.lookup x=some .local:=by first | exact .inl rfl | exact .inr rfl | assumption):
  PS X (.Assign [.Name x pos'] e pos) (bP X.K H0 O0 (qT i t)):=
 (dq hN hi hx he hs hf).imp fun D σ H ⟨O,δ,E,w,q,k1,k2,k3,k4⟩=> ⟨O,δ,_,w,q,fun ds vs p H1 q1 s1 hp r1=> k1 _ _ _ _ q1 ((w.mono s1).setO hp r1)
  ⟨fun b o e _=> (s1.trans (ar.new hp)) b o e,fun b e n z=> z.elim n fun y=> by
   cases q:H b with
   | none=> exact e q
   | some o=> have:=s1 _ _ q;rw [y,hp] at this;cases this⟩⟩
def qU(i:Nat)(t:DT):DS:=fun E δ=> ∃ds,δ[i]?=some (some (.o ds))∧t δ fun d=> ds.length < sizeLine∧E.nx (δ.set i (some (.o (ds++[d]))))
theorem mE{i:Nat}{o e:Expr}{t:DT}{apos cpos pos:Pos}(ho:PE X o (eX i))(he:DE X H0 O0 e t)(hbase:attributeBase o "append" X.env (eval o X.env)=eval o X.env:=by rfl)
  (hfew:((backTo cpos (starEach [e] X.env)).all (fun x=> !x.1) && (backToKw cpos (keywordEach [] X.env)).all (fun x=> x.1.isSome) && decide ([e].length+([]:List Keyword).length+(if ([]:List Keyword).isEmpty then 0 else 1) < 30))=true:=by rfl)
  (hline:(apos.endLine==cpos.line)=true:=by rfl)(hst:starEach [e] X.env=(false,eval e X.env)::starEach [] X.env:=by rfl)(hplain:(backTo cpos (starEach [] X.env)).any (·.1)=false:=by rfl)
  (hs:swapsWith (.Call (.Attribute o "append" apos) [e] [] cpos) none pos.line X.env=pure false:=by rfl):PS X (.Expr (.Call (.Attribute o "append" apos) [e] [] cpos) pos) (bP X.K H0 O0 (qU i t)):=
 (vo (qC Oy PySem.F.slot_list_append PySem.F.type_list_append wB ho (bC he cm hst) hbase hfew hline hst hplain) hs).imp fun D σ H uu94=> by
  obtain⟨O,δ,E,w,⟨ds,e,q⟩,k1,k2,k3,k4⟩:=uu94
  obtain⟨l,vs,h,a,b,c,r⟩:=w.own e
  refine⟨_,h,.inl ⟨rfl,_,aX.of c⟩,O,δ,_,w,q,fun d v H1 q1 s1 r1=> ?_⟩
  refine⟨l,vs,v,rfl,rfl,s1 _ _ c,by rw [r.length];exact q1.1,?_⟩
  exact k1 _ _ _ _ q1.2 ((w.mono s1).putO (vs:=vs) e h ((r.mono s1).append (.cons r1 .nil))) ⟨fun b' o' z n=> by rw [aJ (fun y=> n (by rw [y];exact a))];exact s1 _ _ z,fun _ _ n=> n⟩
end
end L2
namespace L2
open PySem PySem.Spec PyProof.Rows PySem.W
structure di (J:It) (P:Hp→Prop) (vs:List V):Prop where
 go:∀i H',P H'→i < vs.length→J.go i H'
 yl:∀i H' x H'',P H'→i < vs.length→J.yld i H' x H''→H''=H'∧vs[i]?=some x
 st:∀i H',P H'→vs.length≤i→J.stop i H'
def oq(H1:Hp)(a:Addr)(H':Hp):Prop:=∀o,H1 a=some o→H' a=some o
theorem aX.keep{K:Kb}{H H':Hp}{a:Addr}{xs:List V}(s:oq H a H')(h:aX K H a xs):aX K H' a xs:=by
 rcases h with(h | ⟨o,h⟩) | h
 ·exact .inl (.inl (s _ h))
 ·exact .inl (.inr ⟨o,s _ h⟩)
 ·exact .inr h
theorem bw.keep{K:Kb}{H H':Hp}{a:Addr}{xs:List V}(s:oq H a H')(h:bw K H a xs):bw K H' a xs:=by
 rcases h with(h | ⟨o,h⟩) | h
 ·exact .inl (.inl (s _ h))
 ·exact .inl (.inr ⟨o,s _ h⟩)
 ·exact .inr h
theorem di.list{K:Kb}{H:Hp}{a:Addr}{vs:List V}(h:aX K H a vs):di (mf K a) (oq H a) vs:=
 ⟨fun i H' s hi=> ⟨vs,vs[i],h.keep s,by simp [hi]⟩,fun i H' x H'' s _ y=> ⟨y.1,y.2 vs (h.keep s)⟩,fun i H' s hi=> ⟨vs,h.keep s,hi⟩⟩
theorem di.tup{K:Kb}{H:Hp}{a:Addr}{vs:List V}(h:bw K H a vs):di (mh K a) (oq H a) vs:=
 ⟨fun i H' s hi=> ⟨vs,vs[i],h.keep s,by simp [hi]⟩,fun i H' x H'' s _ y=> ⟨y.1,y.2 vs (h.keep s)⟩,fun i H' s hi=> ⟨vs,h.keep s,hi⟩⟩
def iI(lo:Int)(n:Nat):List PyData:=(Lp n).map fun(k:Nat)=> .int (lo+k)
theorem di.rng{lo:Int}{n:Nat}:di (gK lo n) (fun _=> True) ((Lp n).map fun(k:Nat)=> V.int (lo+k)):=by
 refine⟨fun i H' s hi=> (by simpa using hi:i < n),fun i H' x H'' s hi y=> ⟨y.1,?_⟩,fun i H' s hi=> (by simpa using hi:n≤i)⟩
 obtain⟨_,rfl⟩:=y
 have hn:i < n:=by simpa using hi
 simp [hn]
theorem aj.rng{K:Kb}{H:Hp}{O:Ex}{lo:Int}:∀(l:List Nat),aj K H O (l.map fun(k:Nat)=> V.int (lo+k)) (l.map fun(k:Nat)=> Kh (lo+k))
 | []=> .nil
 | n::r=> .cons (.int _) (aj.rng r)
abbrev DG:=PyData→Dl→(Dl→Prop)→Prop
def GD(K:Kb)(g:TG)(dg:DG):Prop:=∀(H0:Hp)(O0:Ex)(H:Hp)(O:Ex)(σ:St)(δ:Dl)(v:V)(x:PyData)(R:St→Hp→Prop)(Qd:Dl→Prop),Wd K H0 O0 H O σ δ→Dt K H O v x→dg x δ Qd→(∀δ' σ',Qd δ'→Wd K H0 O0 H O σ' δ'→R σ' H)→g v σ H R
def jx(i:Nat):DG:=fun x δ Q=> Q (δ.set i (some (.v x)))
theorem aU{K:Kb}{i:Nat}:GD K (gJ i) (jx i):=fun H0 O0 H O σ δ v x R Qd w r q k=> k _ _ q (w.set r)
abbrev ki:=List PyData→Dl→(Dl→Prop)→Prop
def ot(K:Kb)(g:gI)(dg:ki):Prop:=∀(H0:Hp)(O0:Ex)(H:Hp)(O:Ex)(σ:St)(δ:Dl)(vs:List V)(xs:List PyData)(R:St→Hp→Prop)(Qd:Dl→Prop),Wd K H0 O0 H O σ δ→aj K H O vs xs→dg xs δ Qd→(∀δ' σ',Qd δ'→Wd K H0 O0 H O σ' δ'→R σ' H)→g vs σ H R
def ou:ki:=fun xs δ Q=> xs=[]∧Q δ
def mF(t:DG)(u:ki):ki:=fun xs δ Q=> ∃x r,xs=x::r∧t x δ fun δ'=> u r δ' Q
theorem fX{K:Kb}:ot K nL ou:=fun H0 O0 H O σ δ vs xs R Qd w r uu95 k=> by obtain⟨e,q⟩:=uu95;subst e;cases r;exact⟨rfl,k _ _ q w⟩
theorem cE{K:Kb}{t:TG}{u:gI}{dt:DG}{du:ki}(h:GD K t dt)(h2:ot K u du):ot K (lY t u) (mF dt du):=fun H0 O0 H O σ δ vs xs R Qd w r uu96 k=> by
 obtain⟨x,rr,e,q⟩:=uu96
 subst e
 cases r with
 | cons r1 r2=> exact⟨_,_,rfl,h H0 O0 H O σ δ _ _ _ _ w r1 q fun δ' σ' q' w'=> h2 H0 O0 H O σ' δ' _ _ R Qd w' r2 q' k⟩
def ox(n:Nat)(t:ki):DG:=fun x δ Q=> ∃xs,x= .tuple xs∧xs.length=n∧t xs δ Q
theorem fY{K:Kb}{n:Nat}{t:gI}{dt:ki}(h:ot K t dt):GD K (nM K n t) (ox n dt):=fun H0 O0 H O σ δ v x R Qd w r uu0 k=> by
 obtain⟨xs,e,hl,q⟩:=uu0
 subst e
 obtain⟨a,vs,rfl,hs,rr⟩:=(Sh.dt r).tup
 exact⟨a,vs,rfl,hs,by rw [rr.length];exact hl,h H0 O0 H O σ δ _ _ R Qd w rr q k⟩
section
variable {X:Cx} {H0:Hp} {O0:Ex}
def qV(t:DT)(g:DG):DS:=fun E δ=> t δ fun d=> g d δ E.nx
theorem qW{tg e:Expr}{t:DT}{g:TG}{dg:DG}{pos:Pos}(he:DE X H0 O0 e t)(hg:PG X tg g)(gd:GD X.K g dg)(hs:swapsWithSole [tg] e pos.line X.env=pure false:=by rfl)(hw:swappedStores [tg] e X.env=pure none:=by rfl)
  (h1:(assignEach [tg] X.env).map (·.2)=[assign tg X.env]:=by rfl):PS X (.Assign [tg] e pos) (bP X.K H0 O0 (qV t dg)):=
 (nN he hg hs hw h1).imp fun D σ H uu1=> by obtain⟨O,δ,E,w,q,k1,k2,k3,k4⟩:=uu1;exact⟨O,δ,_,w,q,fun d v H1 q1 s1 r1=> gd H0 O0 H1 O σ δ v d _ _ (w.mono s1) r1 q1 fun δ' σ' q' w'=> k1 O δ' σ' H1 q' w' (.same s1)⟩
def qX(i j:Nat)(t:DA):DS:=fun E δ=> t δ fun ds=> ∃x y,ds=[x,y]∧E.nx ((δ.set i (some (.v x))).set j (some (.v y)))
theorem qY{i j:Nat}{x y:Str}{a b:Expr}{ta:DA}{px py pt pos:Pos}{kt k2 pt2}(hc:X.calm=true)(hN:X.N.Nodup)(hi:X.N[i]?=some x)(hj:X.N[j]?=some y)(hij:i≠j)
  (hx:X.env.scope.names.lookup x=some .local)(hy:X.env.scope.names.lookup y=some .local)(ha:PA X [a,b] (fH X.K H0 O0 ta))
  (hw:swappedStores [.Tuple [.Name x px,.Name y py] kt pt] (.Tuple [a,b] k2 pt2) X.env=pure (some [x,y]))
  (hs:swapsWithSole [.Tuple [.Name x px,.Name y py] kt pt] (.Tuple [a,b] k2 pt2) pos.line X.env=pure false:=by rfl):
  PS X (.Assign [.Tuple [.Name x px,.Name y py] kt pt] (.Tuple [a,b] k2 pt2) pos) (bP X.K H0 O0 (qX i j ta)):=
 (CQ hc hN hi hj hij hx hy ha hw hs).imp fun D σ H uu2=> by obtain⟨O,δ,E,w,q,k1,k2,k3,k4⟩:=uu2;exact⟨O,δ,_,w,q,fun ds vs H1 uu3 s1 r1=> by
  obtain⟨d1,d2,e,q1⟩:=uu3
  subst e
  cases r1 with
  | cons r1 r2=>
   cases r2 with
   | cons r2 r3=>
    cases r3
    exact⟨_,_,rfl,k1 _ _ _ _ q1 (((w.mono s1).set r1).set r2) (.same s1)⟩⟩
def kj(g:DG)(tb:DS)(E:mz):List PyData→Dl→Prop
 | [],δ=> E.nx δ
 | x::xs,δ=> g x δ fun δ2=> tb {E with nx:=kj g tb E xs,ct:=kj g tb E xs,bk:=E.nx} δ2
theorem J5{K:Kb}{J:It}{P:Hp→Prop}{vs:List V}{xs:List PyData}{g:TG}{dg:DG}{tb:DS}{D:ju}{E:mz}{σ:St}{H:Hp}{O:Ex}{δ:Dl}(S:di J P vs)(gd:GD K g dg)
  (hP:∀H' O',br H H' O O'→P H')(r:aj K H O vs xs)(w:Wd K H0 O0 H O σ δ)(q:kj dg tb E xs δ)
  (k1:∀O' δ' σ' H',E.nx δ'→Wd K H0 O0 H' O' σ' δ'→br H H' O O'→D.nx σ' H')(k2:∀d v H',E.rt d→ar H0 H'→Dt K H' O0 v d→D.rt v H'):FR J g (bP K H0 O0 tb) D σ H:=by
 refine⟨fun i m σ' H'=> ∃O' δ',m=vs.length - i∧i≤vs.length∧Wd K H0 O0 H' O' σ' δ'∧br H H' O O'∧kj dg tb E (xs.drop i) δ',⟨vs.length,O,δ,by simp,Lj _,w,br.refl _ _,by simpa using q⟩,?_⟩
 rintro i m σ1 H1 ⟨O1,δ1,rfl,hi,w1,S1,q1⟩
 by_cases hlt:i < vs.length
 ·refine .inr ⟨S.go i H1 (hP _ _ S1) hlt,fun σ' H'=> ∃O' δ',Wd K H0 O0 H' O' σ' δ'∧br H H' O O'∧kj dg tb E (xs.drop (i+1)) δ',fun σ' H' uu4=> by obtain⟨O',δ',w',S',q'⟩:=uu4;exact⟨vs.length - (i+1),by omega,O',δ',rfl,hlt,w',S',q'⟩,fun x H' y=> ?_⟩
  have yy:=S.yl i H1 x H' (hP _ _ S1) hlt y
  clear y
  obtain⟨e,y⟩:=yy
  subst e
  obtain⟨d,ed,rd⟩:=r.get y
  have hd:xs.drop i=d::xs.drop (i+1):=by
   rw [Og (h:=(Ku.mp ed).1),(Ku.mp ed).2]
  rw [hd] at q1
  refine gd H0 O0 _ O1 σ1 δ1 x d _ _ w1 (rd.step S1) q1 fun δ2 σ2 q2 w2=> ?_
  refine⟨O1,δ2,_,w2,q2,fun O' δ' σ' H' z w' S'=> ⟨O',δ',w',S1.trans S',z⟩,k2,fun O' δ' σ' H' z w' S'=> k1 O' δ' σ' H' z w' (S1.trans S'),fun O' δ' σ' H' z w' S'=> ⟨O',δ',w',S1.trans S',z⟩⟩
 ·have e:i=vs.length:=by omega
  subst e
  refine .inl ⟨S.st _ H1 (hP _ _ S1) (Kk _),?_⟩
  rw [r.length,OP (Kk _)] at q1
  exact k1 O1 δ1 σ1 H1 q1 w1 S1
def mG(g:DG)(tb:DS)(E:mz)(xs:List PyData)(δ:Dl):Prop:=∃I:Nat→Dl→Prop,I 0 δ∧(∀i x δ,xs[i]?=some x→I i δ→g x δ fun δ2=> tb {E with nx:=I (i+1),ct:=I (i+1),bk:=E.nx} δ2)∧∀δ,I xs.length δ→E.nx δ
theorem mH{K:Kb}{J:It}{P:Hp→Prop}{vs:List V}{xs:List PyData}{g:TG}{dg:DG}{tb:DS}{D:ju}{E:mz}{σ:St}{H:Hp}{O:Ex}{δ:Dl}(S:di J P vs)(gd:GD K g dg)
  (hP:∀H' O',br H H' O O'→P H')(r:aj K H O vs xs)(w:Wd K H0 O0 H O σ δ)(q:mG dg tb E xs δ)
  (k1:∀O' δ' σ' H',E.nx δ'→Wd K H0 O0 H' O' σ' δ'→br H H' O O'→D.nx σ' H')(k2:∀d v H',E.rt d→ar H0 H'→Dt K H' O0 v d→D.rt v H'):FR J g (bP K H0 O0 tb) D σ H:=by
 obtain⟨Iv,q0,qs,qe⟩:=q
 refine⟨fun i m σ' H'=> ∃O' δ',m=vs.length - i∧i≤vs.length∧Wd K H0 O0 H' O' σ' δ'∧br H H' O O'∧Iv i δ',⟨vs.length,O,δ,by simp,Lj _,w,br.refl _ _,q0⟩,?_⟩
 rintro i m σ1 H1 ⟨O1,δ1,rfl,hi,w1,S1,q1⟩
 by_cases hlt:i < vs.length
 ·refine .inr ⟨S.go i H1 (hP _ _ S1) hlt,fun σ' H'=> ∃O' δ',Wd K H0 O0 H' O' σ' δ'∧br H H' O O'∧Iv (i+1) δ',fun σ' H' uu5=> by obtain⟨O',δ',w',S',q'⟩:=uu5;exact⟨vs.length - (i+1),by omega,O',δ',rfl,hlt,w',S',q'⟩,fun x H' y=> ?_⟩
  have yy:=S.yl i H1 x H' (hP _ _ S1) hlt y
  clear y
  obtain⟨e,y⟩:=yy
  subst e
  obtain⟨d,ed,rd⟩:=r.get y
  refine gd H0 O0 _ O1 σ1 δ1 x d _ _ w1 (rd.step S1) (qs i d δ1 ed q1) fun δ2 σ2 q2 w2=> ?_
  refine⟨O1,δ2,_,w2,q2,fun O' δ' σ' H' z w' S'=> ⟨O',δ',w',S1.trans S',z⟩,k2,fun O' δ' σ' H' z w' S'=> k1 O' δ' σ' H' z w' (S1.trans S'),fun O' δ' σ' H' z w' S'=> ⟨O',δ',w',S1.trans S',z⟩⟩
 ·have e:i=vs.length:=by omega
  subst e
  refine .inl ⟨S.st _ H1 (hP _ _ S1) (Kk _),?_⟩
  rw [r.length] at q1
  exact k1 O1 δ1 σ1 H1 (qe δ1 q1) w1 S1
section
variable {tg iter:Expr} {body:List Stmt} {t:DT} {ta:DA} {g:TG} {dg:DG} {tb:DS} {pos p ps:Pos}
end
def qZ(t:DT)(g:DG)(tb:DS):DS:=fun E δ=> t δ fun d=> ∃xs,d= .list xs∧mG g tb E xs δ
def q5(t:DT)(g:DG)(tb:DS):DS:=fun E δ=> t δ fun d=> ∃xs,d= .tuple xs∧mG g tb E xs δ
def rg(t:DA)(g:DG)(tb:DS):DS:=fun E δ=> t δ fun ds=> ∃j:Int,ds=[.int j]∧-(2 ^ 62)≤j∧j < 2 ^ 62∧mG g tb E (iI 0 j.toNat) δ
def rh(t:DA)(g:DG)(tb:DS):DS:=fun E δ=> t δ fun ds=> ∃i j:Int,ds=[.int i,.int j]∧(-(2 ^ 62)≤i∧i < 2 ^ 62∧-(2 ^ 62)≤j∧j < 2 ^ 62)∧mG g tb E (iI i (j - i).toNat) δ
section
variable {tg iter:Expr} {body:List Stmt} {t:DT} {ta:DA} {g:TG} {dg:DG} {tb:DS} {pos p ps:Pos}
theorem mI(hp:PassesOwn (model X.prog X.w) X.A X.env X.xe)(hc:X.calm=true)(hi:DE X H0 O0 iter t)(hg:PG X tg g)(gd:GD X.K g dg)(hb:bQ X body (bP X.K H0 O0 tb))(hs:∀x,foldedSetIterable iter X.env x=pure x:=by intro _;rfl):
  PS X (.For tg iter body [] pos) (bP X.K H0 O0 (qZ t dg tb)):=
 (nQ hp hc (qf hi) hg hb hs).imp fun D σ H uu6=> by obtain⟨O,δ,E,w,q,k1,k2,k3,k4⟩:=uu6;exact⟨O,δ,_,w,q,fun d v H1 uu7 s1 r1=> by
  obtain⟨xs,e,q1⟩:=uu7
  subst e
  cases r1 with
  | lst h n r=>
   refine⟨_,rfl,⟨_,.inl h⟩,mH (di.list (.inl h)) gd (fun H' O' S o e=> S.keep _ _ e n) r (w.mono s1) q1 (fun O' δ' σ' H' z w' S=> k1 O' δ' σ' H' z w' (br.trans (.same s1) S)) k2⟩⟩
theorem oy(hp:PassesOwn (model X.prog X.w) X.A X.env X.xe)(hc:X.calm=true)(hi:DE X H0 O0 iter t)(hg:PG X tg g)(gd:GD X.K g dg)(hb:bQ X body (bP X.K H0 O0 tb))(hs:∀x,foldedSetIterable iter X.env x=pure x:=by intro _;rfl):
  PS X (.For tg iter body [] pos) (bP X.K H0 O0 (q5 t dg tb)):=
 (nQ hp hc (qg hi) hg hb hs).imp fun D σ H uu8=> by obtain⟨O,δ,E,w,q,k1,k2,k3,k4⟩:=uu8;exact⟨O,δ,_,w,q,fun d v H1 uu9 s1 r1=> by
  obtain⟨xs,e,q1⟩:=uu9
  subst e
  cases r1 with
  | tup h n r=>
   refine⟨_,rfl,⟨_,.inl h⟩,mH (di.tup (.inl h)) gd (fun H' O' S o e=> S.keep _ _ e n) r (w.mono s1) q1 (fun O' δ' σ' H' z w' S=> k1 O' δ' σ' H' z w' (br.trans (.same s1) S)) k2⟩
  | tupK h r=>
   refine⟨_,rfl,⟨_,h.of0⟩,mH (P:=fun _=> True) ⟨fun i H' _ hi=> ⟨_,_,h.of0,by simp [hi];rfl⟩,fun i H' x H'' _ _ y=> ⟨y.1,y.2 _ h.of0⟩,fun i H' _ hi=> ⟨_,h.of0,hi⟩⟩ gd (fun _ _ _=> trivial) r (w.mono s1) q1 (fun O' δ' σ' H' z w' S=> k1 O' δ' σ' H' z w' (br.trans (.same s1) S)) k2⟩⟩
theorem wY(hp:PassesOwn (model X.prog X.w) X.A X.env X.xe)(hc:X.calm=true){a:Expr}(hgl:Gl X "range")(hm:X.mg "range"=none)(ha:PA X [a] (fH X.K H0 O0 ta))(hg:PG X tg g)(gd:GD X.K g dg)(hb:bQ X body (bP X.K H0 O0 tb))
  (hst:starEach [a] X.env=[(false,eval a X.env)]:=by rfl)(hs:∀x,foldedSetIterable (.Call (.Name "range" p) [a] [] ps) X.env x=pure x:=by intro _;rfl):
  PS X (.For tg (.Call (.Name "range" p) [a] [] ps) body [] pos) (bP X.K H0 O0 (rg ta dg tb)):=
 (nQ hp hc (vB hgl hm ha hst) hg hb hs).imp fun D σ H uu10=> by obtain⟨O,δ,E,w,q,k1,k2,k3,k4⟩:=uu10;exact⟨O,δ,_,w,q,fun ds vs H1 uu11 s1 r1=> by
  obtain⟨j,e,b1,b2,q1⟩:=uu11
  subst e
  cases r1 with
  | cons r1 r2=>
   cases r2;cases r1
   exact⟨j,rfl,b1,b2,mH di.rng gd (fun _ _ _=> trivial) (aj.rng _) (w.mono s1) q1 (fun O' δ' σ' H' z w' S=> k1 O' δ' σ' H' z w' (br.trans (.same s1) S)) k2⟩⟩
theorem EE(hp:PassesOwn (model X.prog X.w) X.A X.env X.xe)(hc:X.calm=true){a b:Expr}(hgl:Gl X "range")(hm:X.mg "range"=none)(ha:PA X [a,b] (fH X.K H0 O0 ta))(hg:PG X tg g)(gd:GD X.K g dg)(hb:bQ X body (bP X.K H0 O0 tb))
  (hst:starEach [a,b] X.env=[(false,eval a X.env),(false,eval b X.env)]:=by rfl)(hst2:starEach [b] X.env=[(false,eval b X.env)]:=by rfl)(hs:∀x,foldedSetIterable (.Call (.Name "range" p) [a,b] [] ps) X.env x=pure x:=by intro _;rfl):
  PS X (.For tg (.Call (.Name "range" p) [a,b] [] ps) body [] pos) (bP X.K H0 O0 (rh ta dg tb)):=
 (nQ hp hc (qj hgl hm ha hst hst2) hg hb hs).imp fun D σ H uu12=> by obtain⟨O,δ,E,w,q,k1,k2,k3,k4⟩:=uu12;exact⟨O,δ,_,w,q,fun ds vs H1 uu13 s1 r1=> by
  obtain⟨i,j,e,b1,q1⟩:=uu13
  subst e
  cases r1 with
  | cons r1 r2=>
   cases r2 with
   | cons r2 r3=>
    cases r3;cases r1;cases r2
    exact⟨i,j,rfl,b1,mH di.rng gd (fun _ _ _=> trivial) (aj.rng _) (w.mono s1) q1 (fun O' δ' σ' H' z w' S=> k1 O' δ' σ' H' z w' (br.trans (.same s1) S)) k2⟩⟩
end
theorem Wd.letbe{K:Kb}{H:Hp}{O:Ex}{σ:St}{δ:Dl}(w:Wd K H0 O0 H O σ δ){i:Nat}{l:Addr}{y0:Sl}{d:PyData}(e:δ[i]?=some (some y0))(ho:y0.own)(h:σ[i]?=some (some (.ref l)))(hd:∀O',br H H O O'→¬O' l→Dt K H O' (.ref l) d):
  ∃O',Wd K H0 O0 H O' σ (δ.set i (some (.v d)))∧br H H O O':=by
 obtain⟨l',x1,a,b⟩:=w.adr e ho
 rw [h] at x1;cases x1
 have S:br H H O (fun x=> O x∧x≠l):=⟨fun _ _ z _=> z,fun _ _ n z=> n z.1⟩
 have li:i < δ.length:=(Ku.mp e).1
 have ne:∀{j:Nat}{y:Sl},(δ.set i (some (.v d)))[j]?=some (some y)→y.own→j≠i:=fun{j y} q hy z=> by
  subst z;rw [Lb li] at q;cases q;exact hy
 refine⟨_,⟨w.same,fun x z=> ⟨w.sub x z,fun y=> b (by rw [←y];exact z)⟩,fun x z=> w.new x z.1,fun x z=> w.trk x z.1,by simp [w.len],fun j y q=> ?_,fun j k y z l' e1 y1 e2 z2 e3 e4=> ?_⟩,S⟩
 ·by_cases hj:j=i
  ·subst hj
   rw [Lb li] at q
   cases q
   exact⟨.ref l,by rw [h];rfl,hd _ S (fun z=> z.2 rfl)⟩
  ·rw [KU (Ne.symm hj)] at q
   refine(w.sl j y q).go S fun b o ho' e' a1 a2 a3=> ⟨⟨a1,fun z=> ?_⟩,a3⟩
   subst z
   match y,ho',q with
   | some z,ho',q=> exact hj (w.dis j i z y0 _ q (by cases z <;> first | trivial | cases ho') e ho (kQ e') h)
 ·have n1:=ne e1 y1;have n2:=ne e2 z2
  rw [KU (Ne.symm n1)] at e1
  rw [KU (Ne.symm n2)] at e2
  exact w.dis j k _ _ l' e1 y1 e2 z2 e3 e4
def eR(k:Nat)(fr:List Nat)(δ:Dl):Dl:=Kx k none++fr.map fun j=> (δ[j]?).join
def oz(g:DG)(tc:DB)(te:DT)(δ0:Dl):List PyData→List PyData→(List PyData→Prop)→Prop
 | [],acc,Q=> Q acc
 | x::xs,acc,Q=> g x δ0 fun δ2=> tc δ2 fun ok=> if ok=true then te δ2 fun y=> oz g tc te δ0 xs (acc++[y]) Q else oz g tc te δ0 xs acc Q
theorem Wd.comp{K:Kb}{H:Hp}{O:Ex}{σ:St}{δ:Dl}(w:Wd K H0 O0 H O σ δ){k:Nat}{fr:List Nat}(hf:fr.Nodup):Wd K H0 O0 H O (bM k fr σ) (eR k fr δ):=by
 have at1:∀{α:Type}(l:List (Option α))(i:Nat),(Kx k none++fr.map fun j=> (l[j]?).join)[i]?=if i < k then some none else(fr[i - k]?).map fun j=> (l[j]?).join:=by
  intro α l i
  by_cases h:i < k
  ·rw [if_pos h,L7 (by simpa using h),ME,if_pos h]
  ·rw [if_neg h,L0 (by simpa using Oo h),KQ];simp
 have un:∀{α:Type}(l:List (Option α))(i:Nat)(x:α),(Kx k none++fr.map fun j=> (l[j]?).join)[i]?=some (some x)→∃j,fr[i - k]?=some j∧k≤i∧l[j]?=some (some x):=by
  intro α l i x h
  rw [at1] at h
  split at h
  ·cases h
  ·cases e:fr[i - k]? with
   | none=> rw [e] at h;cases h
   | some j=>
    rw [e] at h
    refine⟨j,rfl,by omega,?_⟩
    have h':(l[j]?).join=some x:=K5 h
    cases q:l[j]? with
    | none=> rw [q] at h';cases h'
    | some o=> rw [q] at h';rw [show o=some x from h']
 refine⟨w.same,w.sub,w.new,w.trk,by simp [bM,eR],fun i y e=> ?_,fun i j y z l e1 y1 e2 z2 e3 e4=> ?_⟩
 ·match y,e with
  | none,_=> exact LU
  | some x,e=>
   obtain⟨j,hj,hk,ej⟩:=un δ i x e
   have q:=w.sl j _ ej
   have e2:((bM k fr σ)[i]?).join=(σ[j]?).join:=by
    unfold bM;rw [at1,if_neg (by omega),hj];rfl
   rw [e2];exact q
 ·obtain⟨a,ha,ka,ea⟩:=un δ i _ e1
  obtain⟨b,hb,kb,eb⟩:=un δ j _ e2
  obtain⟨a',ha',_,ea'⟩:=un σ i _ e3
  obtain⟨b',hb',_,eb'⟩:=un σ j _ e4
  rw [ha] at ha';cases ha'
  rw [hb] at hb';cases hb'
  have:=w.dis a b y z l ea y1 eb z2 ea' eb'
  subst this
  have e5:=(List.getElem?_inj (l:=fr) (i:=i - k) (j:=j - k) (Ku.mp ha).1 hf).mp (by rw [ha,hb])
  omega
theorem J6{K:Kb}{J:It}{P:Hp→Prop}{vs:List V}{xs:List PyData}{g:TG}{dg:DG}{tc:TT}{dc:DB}{te:TE}{de:DT}{k:Nat}{fr:List Nat}{σ:St}{H:Hp}{O:Ex}{δ:Dl}{Qd:List PyData→Prop}{Q:VK}(S:di J P vs)(gd:GD K g dg)(hf:fr.Nodup)
  (hk:∀v:V,∀σ':St,∀H':Hp,∀R:St→Hp→Prop,g v (bM k fr σ) H' R→g v (bM k fr σ) H' fun σ2 H2=> j7 (bM k fr σ) σ2∧R σ2 H2)
  (hc:∀σ H Q,cj K H0 O0 dc σ H Q→tc σ H Q)(he:∀σ H Q,up K H0 O0 de σ H Q→te σ H Q)
  (hP:∀D H',H D=none→kM D H H'→P H')(r:aj K H O vs xs)(w:Wd K H0 O0 H O σ δ)(hz:vs.length≤sizeLine)(q:oz dg dc de (eR k fr δ) xs [] Qd)
  (k1:∀ds us p H',Qd ds→ar H H'→H' p=none→aj K H' O us ds→Q (.ref p) (au H' p (.lst us))):j9 J g tc te k fr σ H Q:=by
 intro D hD
 have w0:Wd K H0 O0 H O (bM k fr σ) (eR k fr δ):=w.comp hf
 have nD:¬O D:=fun z=> w.trk D z hD
 have D0:H0 D=none:=by
  cases e:H0 D with
  | none=> rfl
  | some o=> rw [w.same _ _ e] at hD;cases hD
 have ex:∀H',kM D H H'→H' D≠none→Wd K H0 O0 H' (fun a=> O a∨a=D) (bM k fr σ) (eR k fr δ):=fun H' s' hd=> by
  have S':br H H' O (fun a=> O a∨a=D):=⟨fun b o e _=> s' b o e (cZ e hD),fun b hb hn z=> z.elim hn fun q=> hb (by rw [q];exact hD)⟩
  refine⟨fun b o e=> s' b o (w.same b o e) (fun z=> by rw [z,D0] at e;cases e),fun l z=> .inl (w.sub l z),fun l z=> z.elim (w.new l) fun q=> .inr (by rw [q];exact D0),fun l z=> ?_,w0.len,fun j y e=> ?_,w0.dis⟩
  ·by_cases ql:l=D
   ·rw [ql];exact hd
   ·have hl:=w.trk l (z.resolve_right ql)
    cases e:H l with
    | none=> exact absurd e hl
    | some o=> rw [s' l o e ql];exact fun z=> nomatch z
  ·exact(w0.sl j y e).go S' fun l o _ _ a1 _ a3=> ⟨.inl a1,s' _ _ a3 (fun z=> nD (by rw [←z];exact a1))⟩
 refine⟨fun i m H'=> ∃acc ys,m=vs.length - i∧i≤vs.length∧kM D H H'∧H' D=some (.lst ys)∧ys.length≤i∧aj K H' (fun a=> O a∨a=D) ys acc∧oz dg dc de (eR k fr δ) (xs.drop i) acc Qd,⟨vs.length,[],[],by simp,Lj _,fun b o e n=> by rw [aJ n];exact e,bu,Lj _,.nil,by simpa using q⟩,?_⟩
 rintro i m H1 ⟨acc,ys,rfl,hi,s1,e1,hy,ra,q1⟩
 by_cases hlt:i < vs.length
 ·refine .inr ⟨S.go i H1 (hP D H1 hD s1) hlt,fun x H' y=> ?_⟩
  have yy:=S.yl i H1 x H' (hP D H1 hD s1) hlt y
  clear y
  obtain⟨e,y⟩:=yy
  subst e
  obtain⟨d,ed,rd⟩:=r.get y
  have hd:xs.drop i=d::xs.drop (i+1):=by
   rw [Og (h:=(Ku.mp ed).1),(Ku.mp ed).2]
  rw [hd] at q1
  have w1:=ex _ s1 (by rw [e1];exact fun z=> nomatch z)
  have S':br H H' O (fun a=> O a∨a=D):=⟨fun b o e _=> s1 b o e (cZ e hD),fun b hb hn z=> z.elim hn fun q=> hb (by rw [q];exact hD)⟩
  refine hk x σ _ _ (gd H0 O0 _ _ _ _ x d _ _ w1 (rd.step S') q1 fun δ2 σ2 q2 w2=> ?_)
  refine hc σ2 _ _ ⟨_,δ2,_,w2,q2,fun ok H3 q3 s3=> ?_⟩
  cases ok with
  | true=>
   rw [if_pos rfl]
   refine he σ2 H3 _ ⟨_,δ2,_,w2.mono s3,q3,fun d' v H4 q4 s4 r4=> ?_⟩
   have e4:=s4 _ _ (s3 _ _ e1)
   have sD:br H4 (au H4 D (.lst (ys++[v]))) (fun a=> O a∨a=D) (fun a=> O a∨a=D):=⟨fun b o e n=> by rw [aJ (fun z=> n (.inr z))];exact e,fun _ _ n=> n⟩
   refine⟨ys,e4,by omega,vs.length - (i+1),by omega,acc++[d'],ys++[v],rfl,hlt,fun b o e n=> by rw [aJ n];exact s4 _ _ (s3 _ _ (s1 b o e n)),bu,by simpa using hy,?_,q4⟩
   exact((ra.mono (s3.trans s4)).append (.cons r4 .nil)).step sD
  | false=>
   rw [if_neg (by decide)]
   exact⟨vs.length - (i+1),by omega,acc,ys,rfl,hlt,fun b o e n=> s3 _ _ (s1 b o e n),s3 _ _ e1,by omega,ra.mono s3,q3⟩
 ·have e:i=vs.length:=by omega
  subst e
  refine .inl ⟨S.st _ H1 (hP D H1 hD s1) (Kk _),?_⟩
  rw [r.length,OP (Kk _)] at q1
  have hrest:∃H2:Hp,H2 D=none∧ar H H2∧H1=au H2 D (.lst ys):=by
   refine⟨fun b=> if b=D then none else H1 b,by simp,fun b o e=> ?_,?_⟩
   ·have n:=cZ e hD
    show(if b=D then none else H1 b)=some o
    rw [if_neg n];exact s1 b o e n
   ·funext b
    by_cases z:b=D
    ·rw [z,bu];exact e1
    ·rw [aJ z];show H1 b=if b=D then none else H1 b;rw [if_neg z]
  obtain⟨H2,h2,s2,rfl⟩:=hrest
  refine k1 acc ys D H2 q1 s2 h2 (ra.step ⟨fun b o e n=> ?_,fun b _ n z=> n (.inl z)⟩)
  rw [aJ (fun z=> n (.inr z))] at e;exact e
def fw(g:DG)(tc:DB)(te:DT)(δ0:Dl)(xs:List PyData)(Q:List PyData→Prop):Prop:=∃I:Nat→List PyData→Prop,I 0 []∧(∀i x acc,xs[i]?=some x→I i acc→g x δ0 fun δ2=> tc δ2 fun ok=> if ok=true then te δ2 fun y=> I (i+1) (acc++[y]) else I (i+1) acc)∧∀acc,I xs.length acc→Q acc
theorem kW{K:Kb}{J:It}{P:Hp→Prop}{vs:List V}{xs:List PyData}{g:TG}{dg:DG}{tc:TT}{dc:DB}{te:TE}{de:DT}{k:Nat}{fr:List Nat}{σ:St}{H:Hp}{O:Ex}{δ:Dl}{Qd:List PyData→Prop}{Q:VK}(S:di J P vs)(gd:GD K g dg)(hf:fr.Nodup)
  (hk:∀v:V,∀σ':St,∀H':Hp,∀R:St→Hp→Prop,g v (bM k fr σ) H' R→g v (bM k fr σ) H' fun σ2 H2=> j7 (bM k fr σ) σ2∧R σ2 H2)
  (hc:∀σ H Q,cj K H0 O0 dc σ H Q→tc σ H Q)(he:∀σ H Q,up K H0 O0 de σ H Q→te σ H Q)
  (hP:∀D H',H D=none→kM D H H'→P H')(r:aj K H O vs xs)(w:Wd K H0 O0 H O σ δ)(hz:vs.length≤sizeLine)(q:fw dg dc de (eR k fr δ) xs Qd)
  (k1:∀ds us p H',Qd ds→ar H H'→H' p=none→aj K H' O us ds→Q (.ref p) (au H' p (.lst us))):j9 J g tc te k fr σ H Q:=by
 obtain⟨Iv,q0,qs,qe⟩:=q
 intro D hD
 have w0:Wd K H0 O0 H O (bM k fr σ) (eR k fr δ):=w.comp hf
 have nD:¬O D:=fun z=> w.trk D z hD
 have D0:H0 D=none:=by
  cases e:H0 D with
  | none=> rfl
  | some o=> rw [w.same _ _ e] at hD;cases hD
 have ex:∀H',kM D H H'→H' D≠none→Wd K H0 O0 H' (fun a=> O a∨a=D) (bM k fr σ) (eR k fr δ):=fun H' s' hd=> by
  have S':br H H' O (fun a=> O a∨a=D):=⟨fun b o e _=> s' b o e (cZ e hD),fun b hb hn z=> z.elim hn fun q=> hb (by rw [q];exact hD)⟩
  refine⟨fun b o e=> s' b o (w.same b o e) (fun z=> by rw [z,D0] at e;cases e),fun l z=> .inl (w.sub l z),fun l z=> z.elim (w.new l) fun q=> .inr (by rw [q];exact D0),fun l z=> ?_,w0.len,fun j y e=> ?_,w0.dis⟩
  ·by_cases ql:l=D
   ·rw [ql];exact hd
   ·have hl:=w.trk l (z.resolve_right ql)
    cases e:H l with
    | none=> exact absurd e hl
    | some o=> rw [s' l o e ql];exact fun z=> nomatch z
  ·exact(w0.sl j y e).go S' fun l o _ _ a1 _ a3=> ⟨.inl a1,s' _ _ a3 (fun z=> nD (by rw [←z];exact a1))⟩
 refine⟨fun i m H'=> ∃acc ys,m=vs.length - i∧i≤vs.length∧kM D H H'∧H' D=some (.lst ys)∧ys.length≤i∧aj K H' (fun a=> O a∨a=D) ys acc∧Iv i acc,⟨vs.length,[],[],by simp,Lj _,fun b o e n=> by rw [aJ n];exact e,bu,Lj _,.nil,q0⟩,?_⟩
 rintro i m H1 ⟨acc,ys,rfl,hi,s1,e1,hy,ra,q1⟩
 by_cases hlt:i < vs.length
 ·refine .inr ⟨S.go i H1 (hP D H1 hD s1) hlt,fun x H' y=> ?_⟩
  have yy:=S.yl i H1 x H' (hP D H1 hD s1) hlt y
  clear y
  obtain⟨e,y⟩:=yy
  subst e
  obtain⟨d,ed,rd⟩:=r.get y
  have w1:=ex _ s1 (by rw [e1];exact fun z=> nomatch z)
  have S':br H H' O (fun a=> O a∨a=D):=⟨fun b o e _=> s1 b o e (cZ e hD),fun b hb hn z=> z.elim hn fun q=> hb (by rw [q];exact hD)⟩
  refine hk x σ _ _ (gd H0 O0 _ _ _ _ x d _ _ w1 (rd.step S') (qs i d acc ed q1) fun δ2 σ2 q2 w2=> ?_)
  refine hc σ2 _ _ ⟨_,δ2,_,w2,q2,fun ok H3 q3 s3=> ?_⟩
  cases ok with
  | true=>
   rw [if_pos rfl]
   refine he σ2 H3 _ ⟨_,δ2,_,w2.mono s3,q3,fun d' v H4 q4 s4 r4=> ?_⟩
   have e4:=s4 _ _ (s3 _ _ e1)
   have sD:br H4 (au H4 D (.lst (ys++[v]))) (fun a=> O a∨a=D) (fun a=> O a∨a=D):=⟨fun b o e n=> by rw [aJ (fun z=> n (.inr z))];exact e,fun _ _ n=> n⟩
   refine⟨ys,e4,by omega,vs.length - (i+1),by omega,acc++[d'],ys++[v],rfl,hlt,fun b o e n=> by rw [aJ n];exact s4 _ _ (s3 _ _ (s1 b o e n)),bu,by simpa using hy,?_,q4⟩
   exact((ra.mono (s3.trans s4)).append (.cons r4 .nil)).step sD
  | false=>
   rw [if_neg (by decide)]
   exact⟨vs.length - (i+1),by omega,acc,ys,rfl,hlt,fun b o e n=> s3 _ _ (s1 b o e n),s3 _ _ e1,by omega,ra.mono s3,q3⟩
 ·have e:i=vs.length:=by omega
  subst e
  refine .inl ⟨S.st _ H1 (hP D H1 hD s1) (Kk _),?_⟩
  rw [r.length] at q1
  have hrest:∃H2:Hp,H2 D=none∧ar H H2∧H1=au H2 D (.lst ys):=by
   refine⟨fun b=> if b=D then none else H1 b,by simp,fun b o e=> ?_,?_⟩
   ·have n:=cZ e hD
    show(if b=D then none else H1 b)=some o
    rw [if_neg n];exact s1 b o e n
   ·funext b
    by_cases z:b=D
    ·rw [z,bu];exact e1
    ·rw [aJ z];show H1 b=if b=D then none else H1 b;rw [if_neg z]
  obtain⟨H2,h2,s2,rfl⟩:=hrest
  refine k1 acc ys D H2 (qe acc q1) s2 h2 (ra.step ⟨fun b o e n=> ?_,fun b _ n z=> n (.inl z)⟩)
  rw [aJ (fun z=> n (.inr z))] at e;exact e
def jy:DB:=fun _ Q=> Q true
def iJ(g:TG)(k:Nat):Prop:=∀(fr:List Nat)(σ:St)(v:V)(H':Hp)(R:St→Hp→Prop),g v (bM k fr σ) H' R→g v (bM k fr σ) H' fun σ2 H2=> j7 (bM k fr σ) σ2∧R σ2 H2
theorem cB:iJ (gJ 0) 1:=fun fr σ v H' R h=> ⟨wJ,h⟩
section
variable {tg iter elt:Expr} {ifs:List Expr} {scope:Scope} {N':List Str} {k:Nat} {fr:List Nat} {g:TG} {dg:DG} {t:DT} {ta:DA} {tc:DB} {te:DT} {pos p ps:Pos}
end
def mJ(t:DT)(g:DG)(tc:DB)(te:DT)(k:Nat)(fr:List Nat):DA:=fun δ Q=> t δ fun d=> ∃xs,d= .list xs∧xs.length≤sizeLine∧fw g tc te (eR k fr δ) xs Q
def mK(t:DT)(g:DG)(tc:DB)(te:DT)(k:Nat)(fr:List Nat):DA:=fun δ Q=> t δ fun d=> ∃xs,d= .tuple xs∧xs.length≤sizeLine∧fw g tc te (eR k fr δ) xs Q
def rj(ta:DA)(g:DG)(tc:DB)(te:DT)(k:Nat)(fr:List Nat):DA:=fun δ Q=> ta δ fun ds=> ∃j:Int,ds=[.int j]∧-(2 ^ 62)≤j∧j < sizeLine∧fw g tc te (eR k fr δ) (iI 0 j.toNat) Q
section
variable {tg iter elt:Expr} {ifs:List Expr} {scope:Scope} {N':List Str} {k:Nat} {fr:List Nat} {g:TG} {dg:DG} {t:DT} {ta:DA} {tc:DB} {te:DT} {pos p ps:Pos}
theorem gT(hc:X.calm=true)(S:bz X.env.scope X.N N' k fr scope)(hi:DF X H0 O0 iter t)(gd:GD X.K g dg)(hk:iJ g k)(hfr:fr.Nodup)
  (hg:∀fp C s H,PG (bF X scope N' fp C s H) tg g)(hf:∀fp C s H,eN (bF X scope N' fp C s H) ifs (cj X.K H0 O0 tc))(he:∀fp C s H,PE (bF X scope N' fp C s H) elt (up X.K H0 O0 te))
  (hs:∀x,foldedSetIterable iter X.env x=pure x:=by intro _;rfl):FE X H0 O0 (.ListComp elt [⟨tg,iter,ifs,0⟩] scope pos) (mJ t dg tc te k fr):=
 (mw hc S (qf hi) hg hf he hs).imp fun σ H Q uu14=> by obtain⟨O,δ,Qd,w,q,kk⟩:=uu14;exact⟨O,δ,_,w,q,fun d v H1 uu15 s1 r1=> by
  obtain⟨xs,e,hz,q1⟩:=uu15
  subst e
  obtain⟨a,vs,rfl,hq,rr⟩:=r1.lst
  refine⟨a,rfl,⟨_,hq⟩,fun D hD=> kW (di.list hq) gd hfr (fun v _ H' R h=> hk fr σ v H' R h) (fun _ _ _ z=> z) (fun _ _ _ z=> z) (fun D H' hD s' o e=> s' _ _ e (cZ e hD)) rr (w.mono s1) (by rw [rr.length];exact hz) q1 (fun ds us p H' z s' hp r'=> kk ds us p H' z (s1.trans s') hp r') D hD⟩⟩
theorem gU(hc:X.calm=true)(S:bz X.env.scope X.N N' k fr scope)(hi:DF X H0 O0 iter t)(gd:GD X.K g dg)(hk:iJ g k)(hfr:fr.Nodup)
  (hg:∀fp C s H,PG (bF X scope N' fp C s H) tg g)(hf:∀fp C s H,eN (bF X scope N' fp C s H) ifs (cj X.K H0 O0 tc))(he:∀fp C s H,PE (bF X scope N' fp C s H) elt (up X.K H0 O0 te))
  (hs:∀x,foldedSetIterable iter X.env x=pure x:=by intro _;rfl):FE X H0 O0 (.ListComp elt [⟨tg,iter,ifs,0⟩] scope pos) (mK t dg tc te k fr):=
 (mw hc S (qg hi) hg hf he hs).imp fun σ H Q uu16=> by obtain⟨O,δ,Qd,w,q,kk⟩:=uu16;exact⟨O,δ,_,w,q,fun d v H1 uu17 s1 r1=> by
  obtain⟨xs,e,hz,q1⟩:=uu17
  subst e
  obtain⟨a,vs,rfl,hq,rr⟩:=r1.tup
  refine⟨a,rfl,⟨_,hq⟩,fun D hD=> kW (di.tup hq) gd hfr (fun v _ H' R h=> hk fr σ v H' R h) (fun _ _ _ z=> z) (fun _ _ _ z=> z) (fun D H' hD s' o e=> s' _ _ e (cZ e hD)) rr (w.mono s1) (by rw [rr.length];exact hz) q1 (fun ds us p H' z s' hp r'=> kk ds us p H' z (s1.trans s') hp r') D hD⟩⟩
theorem wZ(hc:X.calm=true){a:Expr}(S:bz X.env.scope X.N N' k fr scope)(hgl:Gl X "range")(hm:X.mg "range"=none)(ha:PA X [a] (gR X.K H0 O0 ta))(gd:GD X.K g dg)(hk:iJ g k)(hfr:fr.Nodup)
  (hg:∀fp C s H,PG (bF X scope N' fp C s H) tg g)(hf:∀fp C s H,eN (bF X scope N' fp C s H) ifs (cj X.K H0 O0 tc))(he:∀fp C s H,PE (bF X scope N' fp C s H) elt (up X.K H0 O0 te))
  (hst:starEach [a] X.env=[(false,eval a X.env)]:=by rfl)(hs:∀x,foldedSetIterable (.Call (.Name "range" p) [a] [] ps) X.env x=pure x:=by intro _;rfl):
  FE X H0 O0 (.ListComp elt [⟨tg,(.Call (.Name "range" p) [a] [] ps),ifs,0⟩] scope pos) (rj ta dg tc te k fr):=
 (mw hc S (vB hgl hm ha hst) hg hf he hs).imp fun σ H Q uu18=> by obtain⟨O,δ,Qd,w,q,kk⟩:=uu18;exact⟨O,δ,_,w,q,fun ds vs H1 uu19 s1 r1=> by
  obtain⟨j,e,b1,b2,q1⟩:=uu19
  subst e
  cases r1 with
  | cons r1 r2=>
   cases r2
   cases r1.int
   have hb:(sizeLine:Int) < 2 ^ 62:=by decide
   exact⟨j,rfl,b1,by omega,fun D hD=> kW (P:=fun _=> True) di.rng gd hfr (fun v _ H' R h=> hk fr σ v H' R h) (fun _ _ _ z=> z) (fun _ _ _ z=> z) (fun _ _ _ _=> trivial) (aj.rng _) (w.mono s1) (by rw [Kd,MS];omega) q1 (fun ds us p H' z s' hp r'=> kk ds us p H' z (s1.trans s') hp r') D hD⟩⟩
end
end
end L2
namespace L2
open PySem PySem.Spec PyProof.Rows PySem.W
section
variable {K:Kb}
def dI(g:Int→Int→PyData):PyData→PyData→(PyData→Prop)→Prop:=fun x y Q=> ∃i j,x= .int i∧y= .int j∧Q (g i j)
def rn(C:Int→Int→Prop)(g:Int→Int→PyData):PyData→PyData→(PyData→Prop)→Prop:=fun x y Q=> ∃i j,x= .int i∧y= .int j∧C i j∧Q (g i j)
theorem bX{g:Int→Int→Int}:cM K (fQ fun i j=> .int (g i j)) (dI fun i j=> .int (g i j)):=fun H O x y dx dy Qd R _ hx hy uu20 k=> by
 obtain⟨i,j,e1,e2,q⟩:=uu20
 subst e1 e2;cases hx.int;cases hy.int;exact⟨i,j,rfl,rfl,k _ _ H q (ar.refl _) (.int _)⟩
theorem eo{g:Int→Int→Bool}:cM K (fQ fun i j=> .bl (g i j)) (dI fun i j=> .bool (g i j)):=fun H O x y dx dy Qd R _ hx hy uu21 k=> by
 obtain⟨i,j,e1,e2,q⟩:=uu21
 subst e1 e2;cases hx.int;cases hy.int;exact⟨i,j,rfl,rfl,k _ _ H q (ar.refl _) (.bl _)⟩
theorem dS{C:Int→Int→Prop}{g:Int→Int→Int}:cM K (rI C fun i j=> .int (g i j)) (rn C fun i j=> .int (g i j)):=fun H O x y dx dy Qd R _ hx hy uu22 k=> by
 obtain⟨i,j,e1,e2,c,q⟩:=uu22
 subst e1 e2;cases hx.int;cases hy.int;exact⟨i,j,rfl,rfl,c,k _ _ H q (ar.refl _) (.int _)⟩
def w6(K:Kb):R2:=fun x y H Q=> ∃O dx dy,Sh K H O x dx∧Sh K H O y dy∧dQ dx∧dQ dy∧Q (.bl (KC dx dy)) H
def w8(K:Kb):R2:=fun x y H Q=> ∃O dx dy,Sh K H O x dx∧Sh K H O y dy∧dQ dx∧dQ dy∧Q (.bl (!KC dx dy)) H
theorem cn{X:Cx}(hu:X.A.units+64 < cLine):bS X (compareOp .Eq) (w6 X.K):=by
 intro pins s σ H x y v u Q I rx ry h
 obtain⟨O,dx,dy,hx,hy,sx,sy,q⟩:=h
 obtain⟨as,ra⟩:=fW I hx.all (Lh sx) rx
 obtain⟨bs,rb⟩:=fW I hy.all (Lh sy) ry
 exact SeqAt.compareEq_shaped ra rb sx sy hu (bE I q rfl)
theorem iK{X:Cx}(hu:X.A.units+64 < cLine):bS X (compareOp .NotEq) (w8 X.K):=by
 intro pins s σ H x y v u Q I rx ry h
 obtain⟨O,dx,dy,hx,hy,sx,sy,q⟩:=h
 obtain⟨as,ra⟩:=fW I hx.all (Lh sx) rx
 obtain⟨bs,rb⟩:=fW I hy.all (Lh sy) ry
 exact SeqAt.compareNe_shaped ra rb sx sy hu (bE I q rfl)
def oA:PyData→PyData→(PyData→Prop)→Prop:=fun x y Q=> dQ x∧dQ y∧Q (.bool (KC x y))
def rA:PyData→PyData→(PyData→Prop)→Prop:=fun x y Q=> dQ x∧dQ y∧Q (.bool (!KC x y))
theorem cq:cM K (w6 K) oA:=fun H O x y dx dy Qd R _ hx hy uu23 k=> by obtain⟨a,b,q⟩:=uu23;exact⟨O,dx,dy,hx,hy,a,b,k _ _ H q (ar.refl _) (.bl _)⟩
theorem iL:cM K (w8 K) rA:=fun H O x y dx dy Qd R _ hx hy uu24 k=> by obtain⟨a,b,q⟩:=uu24;exact⟨O,dx,dy,hx,hy,a,b,k _ _ H q (ar.refl _) (.bl _)⟩
def rB:PyData→PyData→(PyData→Prop)→Prop:=fun x y Q=> ∃ds i d,x= .list ds∧y= .int i∧atI ds i=some d∧Q d
def mL:PyData→PyData→(PyData→Prop)→Prop:=fun x y Q=> ∃ds i d,x= .tuple ds∧y= .int i∧atI ds i=some d∧Q d
theorem aj.atI{H:Hp}{O:Ex}{vs:List V}{ds:List PyData}{i:Int}{d:PyData}(r:aj K H O vs ds)(e:L2.atI ds i=some d):∃v,L2.atI vs i=some v∧Dt K H O v d:=by
 unfold L2.atI at e⊢
 rw [r.length]
 cases q:fR ds.length i with
 | none=> rw [q] at e;cases e
 | some j=> rw [q] at e;exact r.getD e
theorem b8:cM K (nZ K) rB:=fun H O x y dx dy Qd R _ hx hy uu25 k=> by
 obtain⟨ds,i,d,e1,e2,e3,q⟩:=uu25
 subst e1 e2
 obtain⟨a,vs,rfl,hs,r⟩:=hx.lst
 cases hy.int
 obtain⟨v,hv,rv⟩:=r.atI e3
 exact⟨a,vs,i,v,rfl,rfl,hs,hv,k d v H q (ar.refl _) rv⟩
theorem aI:cM K (n4 K) mL:=fun H O x y dx dy Qd R _ hx hy uu26 k=> by
 obtain⟨ds,i,d,e1,e2,e3,q⟩:=uu26
 subst e1 e2
 obtain⟨a,vs,rfl,hs,r⟩:=hx.tup
 cases hy.int
 obtain⟨v,hv,rv⟩:=r.atI e3
 exact⟨a,vs,i,v,rfl,rfl,hs,hv,k d v H q (ar.refl _) rv⟩
end
section
variable {X:Cx} {H0:Hp} {O0:Ex}
def EF:R2:=fun x y H Q=> ∃l b xs zs,x= .ref l∧y= .ref b∧Rd H l (.lst xs)∧Rd H b (.lst zs)∧xs.length+zs.length≤sizeLine∧∀p,H p=none→Q (.ref p) (au H p (.lst (xs++zs)))
theorem EG:bS X (binaryOp .Add) EF:=by
 intro pins s σ H x y v u Q I rx ry h
 obtain⟨l,b,xs,zs,rfl,rfl,hH,hB,hz,q⟩:=h
 cases rx
 cases ry
 obtain⟨z,its,n,r,e⟩:=hH.ok I.hok
 obtain⟨z2,its2,n2,r2,e2⟩:=hB.ok I.hok
 have l1:=r.length
 have l2:=r2.length
 refine PySem.P.add_list e e2 ?_ (by rw [Kt,Kt];omega)
 have ea:its.toArray++its2.toArray=(its++its2).toArray:=by simp
 rw [ea]
 exact⟨.ref _,_,I.lnew (t':=s.toks) (r.append r2) (by rw [KR];omega),rfl,q _ I.fresh⟩
def rC(ta tb:DT):DA:=fun δ Q=> ta δ fun x=> tb δ fun y=> ∃xs ys,x= .list xs∧y= .list ys∧xs.length+ys.length≤sizeLine∧Q (xs++ys)
theorem rD{a b:Expr}{ta tb:DT}{pos:Pos}(ha:DF X H0 O0 a ta)(hb:DF X H0 O0 b tb):FE X H0 O0 (.BinOp a .Add b pos) (rC ta tb):=
 (bh EG ha hb).imp fun σ H Q uu27=> by obtain⟨O,δ,Qd,w,q,k⟩:=uu27;exact⟨O,δ,_,w,q,fun x v H1 q1 s1 r1=> ⟨O,δ,_,w.mono s1,q1,fun y u H2 uu28 s2 r2=> by
  obtain⟨xs,ys,e1,e2,hz,q2⟩:=uu28
  subst e1 e2
  obtain⟨a,vs,rfl,h1,d1⟩:=(r1.mono s2).lstR
  obtain⟨b,us,rfl,h2,d2⟩:=r2.lstR
  exact⟨a,b,vs,us,rfl,rfl,h1,h2,by rw [d1.length,d2.length];exact hz,fun p hp=> k _ _ _ _ q2 (s1.trans s2) hp (d1.append d2)⟩⟩⟩
def rE:PyData→PyData→(PyData→Prop)→Prop:=fun x y Q=> ∃xs ys,x= .tuple xs∧y= .tuple ys∧xs≠[]∧xs.length+ys.length≤sizeLine∧Q (.tuple (xs++ys))
theorem EH{K:Kb}:cM K (qz K) rE:=fun H O x y dx dy Qd R tr hx hy uu29 k=> by
 obtain⟨xs,ys,e1,e2,hn,hz,q⟩:=uu29
 subst e1 e2
 have hx0:=hx
 obtain⟨a,vs,rfl,h1,d1⟩:=hx.tup
 obtain⟨b,us,rfl,h2,d2⟩:=hy.tup
 refine⟨a,b,vs,us,rfl,rfl,h1,h2,fun z=> ?_,by rw [d1.length,d2.length];exact hz,fun z=> ?_,fun _ p hp=> ?_⟩
 ·subst z;cases d1;exact hn rfl
 ·subst z;cases d2
  rw [LH] at q
  cases hx0 with
  | dt hx0=> exact k _ _ H q (ar.refl _) hx0
 ·exact k _ _ _ q (ar.new hp) (.tup (.inl bu) (fun z=> tr p z hp) ((d1.append d2).mono (ar.new hp)))
def cf(xs:List PyData)(lo hi:Option Int):List PyData:=(xs.drop (HT.sIx xs.length 0 lo)).take (HT.sIx xs.length xs.length hi - HT.sIx xs.length 0 lo)
theorem aj.cut{K:Kb}{H:Hp}{O:Ex}{vs:List V}{ds:List PyData}(r:aj K H O vs ds)(lo hi:Option Int):aj K H O (iD vs lo hi) (cf ds lo hi):=by
 unfold iD cf;rw [r.length];exact(r.drop _).take _
abbrev DO:=Dl→(Option Int→Prop)→Prop
def gW(K:Kb)(H0:Hp)(O0:Ex)(t:DO):TO:=fun σ H R=> ∃O δ Qd,Wd K H0 O0 H O σ δ∧t δ Qd∧∀d H',Qd d→ar H H'→R d H'
def rF:DO:=fun _ Q=> Q none
def rG(t:DT):DO:=fun δ Q=> t δ fun d=> ∃i,d= .int i∧Q (some i)
theorem PO.imp{X:Cx}{e:Option Expr}{t u:TO}(h:PO X e t)(i:∀σ H Q,u σ H Q→t σ H Q):PO X e u:=fun pins s σ H Q I z=> h pins s σ H Q I (i σ H Q z)
theorem iM:PO X none (gW X.K H0 O0 rF):=DL.imp fun σ H Q uu30=> by obtain⟨O,δ,Qd,w,q,k⟩:=uu30;exact k none H q (ar.refl _)
theorem eT{e:Expr}{t:DT}(h:DE X H0 O0 e t):PO X (some e) (gW X.K H0 O0 (rG t)):=(DM h).imp fun σ H Q uu31=> by obtain⟨O,δ,Qd,w,q,k⟩:=uu31;exact⟨O,δ,_,w,q,fun d v H1 uu32 s1 r1=> by obtain⟨i,e,q1⟩:=uu32;subst e;cases r1;exact⟨i,rfl,k _ H1 q1 s1⟩⟩
def rH(t:DT)(tl th:DO):DA:=fun δ Q=> t δ fun d=> tl δ fun l=> th δ fun u=> ∃xs,d= .list xs∧Q (cf xs l u)
theorem mM{e:Expr}{lo hi:Option Expr}{t:DT}{tl th:DO}{pos p2:Pos}(h:DF X H0 O0 e t)(hl:PO X lo (gW X.K H0 O0 tl))(hu:PO X hi (gW X.K H0 O0 th)):FE X H0 O0 (.Subscript e (.Slice lo hi none p2) pos) (rH t tl th):=
 (nY wx h hl hu).imp fun σ H Q uu33=> by obtain⟨O,δ,Qd,w,q,k⟩:=uu33;exact⟨O,δ,_,w,q,fun d v H1 q1 s1 r1=> ⟨O,δ,_,w.mono s1,q1,fun l H2 q2 s2=> ⟨O,δ,_,w.mono (s1.trans s2),q2,fun u H3 uu34 s3=> by
  obtain⟨xs,e,q3⟩:=uu34
  subst e
  obtain⟨a,vs,rfl,h1,d1⟩:=(r1.mono (s2.trans s3)).lst
  exact⟨a,vs,rfl,h1,fun p hp=> k _ _ _ _ q3 (s1.trans (s2.trans s3)) hp (d1.cut l u)⟩⟩⟩⟩
theorem av{a b:Expr}{ta tb:DT}{r:R2}{rd:PyData→PyData→(PyData→Prop)→Prop}{pos:Pos}(ho:mv X r)(hd:cM X.K r rd)(ha:DF X H0 O0 a ta)(hb:DF X H0 O0 b tb)(hs:∀v u,subscripted b false v u=operate [v,u] (getItem v u):=by intro _ _;rfl):DE X H0 O0 (.Subscript a b pos) (dB rd ta tb):=(fS ho ha hb hs).imp (oh hd)
def rJ:List PyData→(PyData→Prop)→Prop:=fun ds Q=> ∃xs,(ds=[.list xs]∨ds=[.tuple xs])∧Q (.int xs.length)
def rK:List PyData→(PyData→Prop)→Prop:=fun ds Q=> ∃xs,ds=[eO xs]∧Q (.int xs.length)
theorem fZ{K:Kb}:iH K (fun xs H Q=> ∃p ys,xs=[.ref p]∧(aX K H p ys∨bw K H p ys)∧Q (.int ys.length) H) rJ:=fun H O xs ds Qd R _ hs uu35 k=> by
 obtain⟨ys,e,q⟩:=uu35
 rcases e with e | e <;> subst e
 ·cases hs with
  | cons h r=>
   cases r
   obtain⟨a,vs,rfl,h1,d1⟩:=h.lst
   exact⟨a,vs,rfl,.inl h1,by rw [d1.length];exact k _ _ H q (ar.refl _) (.int _)⟩
 ·cases hs with
  | cons h r=>
   cases r
   obtain⟨a,vs,rfl,h1,d1⟩:=h.tup
   exact⟨a,vs,rfl,.inr h1,by rw [d1.length];exact k _ _ H q (ar.refl _) (.int _)⟩
theorem xa{K:Kb}:iH K (fun xs H Q=> ∃p ys,xs=[.ref p]∧(aX K H p ys∨bw K H p ys)∧Q (.int ys.length) H) rK:=fun H O xs ds Qd R _ hs uu36 k=> by
 obtain⟨ys,e,q⟩:=uu36
 subst e
 cases hs with
 | cons h r=>
  cases r
  obtain⟨a,vs,rfl,h1,d1⟩:=h.scr
  exact⟨a,vs,rfl,.inl h1,by rw [d1.length];exact k _ _ H q (ar.refl _) (.int _)⟩
def rL:List PyData→(PyData→Prop)→Prop:=fun ds Q=> ∃xs,ds=[.list xs]∧Q (.tuple xs)
theorem gc{K:Kb}:iH K (fun xs H Q=> ∃p ys,xs=[.ref p]∧((aX K H p ys∧∀l,H l=none→Q (.ref l) (au H l (.tup ys)))∨(bw K H p ys∧Q (.ref p) H))) rL:=fun H O xs ds Qd R tr hs uu37 k=> by
 obtain⟨ys,e,q⟩:=uu37
 subst e
 cases hs with
 | cons h r=>
  cases r
  obtain⟨a,vs,rfl,h1,d1⟩:=h.lst
  exact⟨a,vs,rfl,.inl ⟨h1,fun l hl=> k _ _ _ q (ar.new hl) (.tup (.inl bu) (fun z=> tr l z hl) (d1.mono (ar.new hl)))⟩⟩
theorem aj.bools{K:Kb}{H:Hp}{O:Ex}:∀{bs:List Bool}{vs:List V},aj K H O vs (bs.map Lq)→vs=bs.map V.bl
 | [],_,r=> by rw [Ly] at r;cases r;rfl
 | b::bs,_,r=> by
  rw [Kj] at r
  cases r with
  | cons h r=> cases h;rw [Kj,aj.bools r]
def rM(g:List Bool→Bool):List PyData→(PyData→Prop)→Prop:=fun ds Q=> ∃bs:List Bool,ds=[.list (bs.map .bool)]∧Q (.bool (g bs))
theorem oB{K:Kb}{g:List Bool→Bool}:iH K (fun xs H Q=> ∃(a:Addr)(bs:List Bool),xs=[.ref a]∧aX K H a (bs.map V.bl)∧Q (.bl (g bs)) H) (rM g):=fun H O xs ds Qd R tr hs uu38 k=> by
 obtain⟨bs,e,q⟩:=uu38
 subst e
 cases hs with
 | cons h r=>
  cases r
  obtain⟨a,vs,rfl,h1,d1⟩:=h.lst
  cases d1.bools
  exact⟨a,bs,rfl,h1,k _ _ H q (ar.refl _) (.bl _)⟩
def rN(g:Int→Int→Int):List PyData→(PyData→Prop)→Prop:=fun ds Q=> ∃i j,ds=[.int i,.int j]∧Q (.int (g i j))
theorem mN{K:Kb}{g:Int→Int→Int}:iH K (fun xs H Q=> ∃i j,xs=[.int i,.int j]∧Q (.int (g i j)) H) (rN g):=fun H O xs ds Qd R tr hs uu39 k=> by
 obtain⟨i,j,e,q⟩:=uu39
 subst e
 cases hs with
 | cons h r=>
  cases r with
  | cons h2 r=>
   cases r;cases h.int;cases h2.int
   exact⟨i,j,rfl,k _ _ H q (ar.refl _) (.int _)⟩
end
section
variable {P:Program} {w:World} {K:Kb} {mg:Str→Option Value} {base:Heap}
def gY(N:List Str)(ds:List PyData):Dl:=ds.map (fun d=> some (.v d))++Kx (N.length - ds.length) none
theorem xb{H:Hp}{O:Ex}{N:List Str}{vs:List V}{ds:List PyData}(tr:∀l,O l→H l≠none)(r:aj K H O vs ds):Wd K H O H O (start N vs) (gY N ds):=by
 have hl:=r.length
 have at1:∀(i:Nat) y,(gY N ds)[i]?=some y→(∃d,ds[i]?=some d∧y=some (.v d))∨y=none:=fun i y e=> by
  unfold gY at e
  by_cases h:i < ds.length
  ·rw [L7 (by simpa using h),KQ] at e
   cases q:ds[i]? with
   | none=> rw [q] at e;cases e
   | some d=> rw [q] at e;exact .inl ⟨d,rfl,(K5 e).symm⟩
  ·rw [L0 (by simpa using Oo h),ME] at e
   split at e
   ·exact .inr (K5 e).symm
   ·cases e
 refine⟨ar.refl _,fun _ z=> z,fun _ z=> .inl z,tr,by simp [start,gY,hl],fun i y e=> ?_,fun i j ds' es l e1=> ?_⟩
 ·rcases at1 i y e with⟨d,hd,rfl⟩ | rfl
  ·obtain⟨v,hv,rv⟩:=r.getD hd
   refine⟨v,?_,rv⟩
   unfold start
   rw [L7 (by simpa using(Ku.mp hv).1),KQ,hv];rfl
  ·exact LU
 ·rcases at1 i _ e1 with⟨d,_,z⟩ | z
  ·cases z;intro h;exact h.elim
  ·cases z
theorem aT.okD{x qual:Str}{st:Stmt}{f:Addr}{fd:FuncData}{N ps:List Str}{k:Nat}{F:List PyData→(PyData→Prop)→Prop}(Fu:aT K x qual st f fd)(S:aY N ps (ah st))(len:∀ds Q,F ds Q→ds.length=ps.length)
  (hbody:∀(cdv:Value) (A:Around) (outer:List Env) (s:Shared) (H:Hp) (O:Ex) (ds:List PyData) (Q:PyData→Prop) (E:XK),bB k (A.deeper (envOfC qual (ah st) s.heap.objs.size f cdv))→F ds Q→
   ∃t,bQ (iC CX0 P w K mg base N qual (ah st) f cdv A outer s H E).nox (ax st) (bP K H O t)∧t {nx:=fun _=> Q .none,rt:=Q} (gY N ds)):aL P w K mg base CX0 (k+1) f fd ps (bp K F):=by
 refine Fu.ok S (fun vs H Q E h=> ?_) (fun cdv A outer s H vs Q E hr h=> ?_)
 ·obtain⟨O,ds,Qd,_,r,q,_⟩:=h
  rw [r.length];exact len _ _ q
 ·obtain⟨O,ds,Qd,tr,r,q,k⟩:=h
  obtain⟨t,ht,q'⟩:=hbody cdv A outer s H O ds Qd E hr q
  refine⟨_,ht,O,_,_,xb tr r,q',fun O' δ' σ' H' z w' S'=> ?_,fun d v H' z s' r'=> k d v H' z s' r',fun _ _ _ _ z=> z.elim,fun _ _ _ _ z=> z.elim⟩
  exact k _ _ _ z w'.same .non
end
end L2
namespace L2
open PySem PySem.Spec PyProof.Rows PySem.W
section
variable {X:Cx} {H0:Hp} {O0:Ex}
theorem gf:eN X [] (cj X.K H0 O0 jy):=fun pins s σ H Q I h=> by
 obtain⟨O,δ,Qd,w,q,k⟩:=h
 exact wG pins s σ H Q I (k true H q (ar.refl _))
def rO:PyData→PyData→(PyData→Prop)→Prop:=fun x y Q=> ∃i j,x= .str i∧y= .str j∧i.length+j.length≤sizeLine∧Q (.str (i++j))
theorem xc{K:Kb}:cM K (fun x y H Q=> ∃i j,x= .str i∧y= .str j∧i.length+j.length≤sizeLine∧Q (.str (i++j)) H) rO:=fun H O x y dx dy Qd R tr hx hy uu40 k=> by
 obtain⟨i,j,e1,e2,hz,q⟩:=uu40
 subst e1 e2;cases hx.str;cases hy.str;exact⟨i,j,rfl,rfl,hz,k _ _ H q (ar.refl _) (.str _)⟩
def rP:PyData→PyData→(PyData→Prop)→Prop:=fun x y Q=> ∃z i c,x= .str z∧y= .int i∧z.length≤sizeLine∧atI z.cps.toList i=some c∧Q (.str ⟨#[c]⟩)
theorem xf{K:Kb}:cM K wt rP:=fun H O x y dx dy Qd R tr hx hy uu41 k=> by
 obtain⟨z,i,c,e1,e2,hz,e3,q⟩:=uu41
 subst e1 e2;cases hx.str;cases hy.int;exact⟨z,i,c,rfl,rfl,hz,e3,k _ _ H q (ar.refl _) (.str _)⟩
def EI:V→Option Int→Option Int→Hp→VK→Prop:=fun x lo hi H Q=> ∃z,x= .str z∧z.length≤sizeLine∧Q (.str (Txt.slice z lo hi)) H
theorem EJ:mr X EI:=by
 intro pins s σ H x v vl vu lo hi sl Q I rx hs pl pu h
 obtain⟨z,rfl,hz,q⟩:=h
 obtain⟨t,rfl⟩:=rx
 have e1:∃l:Option (Int×Tok),vl=partValue l∧l.map (·.1)=lo:=by
  cases pl with
  | none=> exact⟨none,rfl,rfl⟩
  | int i t=> exact⟨some (i,t),rfl,rfl⟩
 have e2:∃l:Option (Int×Tok),vu=partValue l∧l.map (·.1)=hi:=by
  cases pu with
  | none=> exact⟨none,rfl,rfl⟩
  | int i t=> exact⟨some (i,t),rfl,rfl⟩
 obtain⟨l,rfl,rfl⟩:=e1
 obtain⟨u,rfl,rfl⟩:=e2
 refine⟨"str",_,F.slot_str_getitem.lookup,typeIs_str _ _ _,wpAny_getItem_str_slice (l:=l) (u:=u) (st:=none) hs rfl ?_⟩
 exact post_val_or_str ⟨KS (Txt.slice_le z _ _) hz,fun t' k=> ⟨.str (Txt.slice z (l.map (·.1)) (u.map (·.1))),H,I.tok _,⟨_,rfl⟩,q⟩⟩
def rQ(t:DT)(tl th:DO):DT:=fun δ Q=> t δ fun d=> tl δ fun l=> th δ fun u=> ∃z,d= .str z∧z.length≤sizeLine∧Q (.str (Txt.slice z l u))
theorem xh{e:Expr}{lo hi:Option Expr}{t:DT}{tl th:DO}{pos p2:Pos}(h:DF X H0 O0 e t)(hl:PO X lo (gW X.K H0 O0 tl))(hu:PO X hi (gW X.K H0 O0 th)):DE X H0 O0 (.Subscript e (.Slice lo hi none p2) pos) (rQ t tl th):=
 (nY EJ h hl hu).imp fun σ H Q uu42=> by obtain⟨O,δ,Qd,w,q,k⟩:=uu42;exact⟨O,δ,_,w,q,fun d v H1 q1 s1 r1=> ⟨O,δ,_,w.mono s1,q1,fun l H2 q2 s2=> ⟨O,δ,_,w.mono (s1.trans s2),q2,fun u H3 uu43 s3=> by
  obtain⟨z,e,hz,q3⟩:=uu43
  subst e
  cases r1.str
  exact⟨z,rfl,hz,k _ _ H3 q3 (s1.trans (s2.trans s3)) (.str _)⟩⟩⟩⟩
theorem EK{K:Kb}{H:Hp}{O:Ex}:∀{ys:List Str}{vs:List V}{us:List Value},aj K H O vs (ys.map Kf)→aF vs us→StrsAre us ys:=by
 intro ys
 induction ys with
 | nil=> intro vs us r rv;rw [Ly] at r;cases r;cases rv;exact .nil
 | cons y ys ih=>
  intro vs us r rv
  rw [Kj] at r
  cases r with
  | cons h r=>
   cases h
   cases rv with
   | cons r1 r2=>
    obtain⟨t,rfl⟩:=r1
    exact .cons y t (ih r r2)
theorem EL:wq X "str.join" (fun x xs H Q=> ∃(O:Ex)(z:Str)(a:V)(ys:List Str),x= .str z∧xs=[a]∧Sh X.K H O a (.list (ys.map .str))∧(ys.map (·.length)).sum+ys.length*z.length≤16777216∧Q (.str (Txt.join z ys)) H):=by
 intro pins s σ H x xs v us Q I rx rs h
 obtain⟨O,z,a,ys,rfl,rfl,ha,hz,q⟩:=h
 obtain⟨t,rfl⟩:=rx
 obtain⟨u,rfl,ru⟩:=dY rs
 obtain⟨l,vs,rfl,hl,dl⟩:=ha.lst
 cases ru
 obtain⟨its,rv,pl,_⟩:=I.list hl
 exact join_list pl.isList (by simpa using EK dl rv) hz fun t' k=> ⟨.str _,H,I.tok _,⟨_,rfl⟩,q⟩
def rR(to:DT)(t:DT):DT:=fun δ Q=> to δ fun x=> ∃z:Str,x= .str z∧t δ fun y=> ∃(ys:List Str),y= .list (ys.map .str)∧(ys.map (·.length)).sum+ys.length*z.length≤16777216∧Q (.str (Txt.join z ys))
theorem EM{o e:Expr}{to t:DT}{apos cpos:Pos}(ho:DE X H0 O0 o to)(ha:DF X H0 O0 e t)(hbase:attributeBase o "join" X.env (eval o X.env)=eval o X.env:=by rfl)
  (hfew:((backTo cpos (starEach [e] X.env)).all (fun x=> !x.1) && (backToKw cpos (keywordEach [] X.env)).all (fun x=> x.1.isSome) && decide ([e].length+([]:List Keyword).length+(if ([]:List Keyword).isEmpty then 0 else 1) < 30))=true:=by rfl)
  (hline:(apos.endLine==cpos.line)=true:=by rfl)(hst:starEach [e] X.env=(false,eval e X.env)::starEach [] X.env:=by rfl)(hplain:(backTo cpos (starEach [] X.env)).any (·.1)=false:=by rfl):
  DE X H0 O0 (.Call (.Attribute o "join" apos) [e] [] cpos) (rR to t):=
 (qC PySem.F.plainAttrs_str PySem.F.slot_str_join PySem.F.type_str_join EL ho (bC ha cm hst) hbase hfew hline hst hplain).imp fun σ H Q uu44=> by obtain⟨O,δ,Qd,w,q,k⟩:=uu44;exact⟨O,δ,_,w,q,fun x v H1 uu45 s1 r1=> by
  obtain⟨z,e,q1⟩:=uu45
  subst e
  cases r1
  exact⟨rfl,O,δ,_,w.mono s1,q1,fun y u H2 uu46 s2 r2=> by obtain⟨ys,e,hz,q2⟩:=uu46;subst e;exact⟨O,z,u,ys,rfl,rfl,r2,hz,k _ _ H2 q2 (s1.trans s2) (.str _)⟩⟩⟩
def rS:List PyData→(PyData→Prop)→Prop:=fun ds Q=> (∃i,ds=[.int i]∧Q (.int i))∨∃b,ds=[.bool b]∧Q (.int (if b then 1 else 0))
theorem rT{K:Kb}:iH K (fun xs H Q=> (∃i,xs=[.int i]∧Q (.int i) H)∨∃k,xs=[.bl k]∧Q (.int (if k then 1 else 0)) H) rS:=fun H O xs ds Qd R tr hs h k=> by
 rcases h with⟨i,e,q⟩ | ⟨b,e,q⟩ <;> subst e
 ·cases hs with
  | cons h r=> cases r;cases h.int;exact .inl ⟨i,rfl,k _ _ H q (ar.refl _) (.int _)⟩
 ·cases hs with
  | cons h r=> cases r;cases h.bl;exact .inr ⟨b,rfl,k _ _ H q (ar.refl _) (.int _)⟩
end
end L2
namespace L2
open PySem PySem.Spec PyProof.Rows PySem.W
section
variable {X:Cx} {pins:List (Addr×Obj)} {σ:St} {H:Hp} {s:Shared}
theorem af.swap{p:Addr}{o':HO}(I:af X pins σ H s)(mu:kH (H p))(new:cg X.prog X.w (au H p o') s.heap p o'):af X pins σ (au H p o') s:=by
 have hp:∃o,H p=some o:=by
  cases e:H p with
  | none=> rw [e] at mu;exact mu.elim
  | some o=> exact⟨o,rfl⟩
 obtain⟨o,ho⟩:=hp
 have nn:∀{b:Addr},H b=none→b≠p:=fun hb z=> by rw [z,ho] at hb;cases hb
 have nt:∀{b:Addr}{xs:List V},H b=some (.tup xs)→b≠p:=fun hb z=> by rw [z] at hb;rw [hb] at mu;exact mu
 have nw:∀{b y:Addr},H b=some (.own y)→b≠p:=fun hb z=> by rw [z] at hb;rw [hb] at mu;exact mu
 have nf:∀{b:Addr}{ob:Obj}{u:HO},H b=some (.frz ob u)→b≠p:=fun hb z=> by rw [z] at hb;rw [hb] at mu;exact mu
 have nb:∀{b:Addr}{ps:Array Value},H b=some (.tbl ps)→b≠p:=fun hb z=> by rw [z] at hb;rw [hb] at mu;exact mu
 have ub:=I.base
 refine⟨I.ok,I.os,I.bare,⟨ub.keep,ub.slot,fun b ob e n hx=> ?_,ub.there,fun b xs z=> ?_,fun b ob u z=> ?_,fun b ps z=> ?_⟩,I.loc,I.cell,?_,fun x c e=> ?_,fun q hq=> ?_,fun b u e=> ?_,I.len⟩
 ·have:=ub.free b ob e n hx;rw [aJ (nn this)];exact this
 ·have:=ub.tups b xs z;rw [aJ (nt this)];exact this
 ·have:=ub.frzs b ob u z;rw [aJ (nf this)];exact this
 ·obtain⟨m,this⟩:=ub.tbls b ps z;exact⟨m,by rw [aJ (nb this)];exact this⟩
 ·rw [aJ (nn I.free)];exact I.free
 ·have:=I.freeC x c e;rw [aJ (nn this)];exact this
 ·obtain⟨a,b,c⟩:=I.pin q hq
  exact⟨a,by rw [aJ (nn b)];exact b,c⟩
 ·by_cases hb:b=p
  ·subst hb;rw [bu] at e;cases e;exact new
  ·rw [aJ hb] at e
   exact(I.hok b u e).stay (fun _ _ _ q=> q) (fun c z=> by rw [aJ (nw z)];exact z) fun c xs z=> by rw [aJ (nt z)];exact z
theorem af.open3{p:Addr}(I:af X pins σ H s)(e:H p=some (fV p)):∃a b c,af X pins σ (au H p (.lst [.int a,.int b,.int c])) s:=by
 obtain⟨⟨a,b,c,t,u,v,k,h⟩,_,_⟩:=(show cg X.prog X.w H s.heap p (fV p) from I.hok p _ e)
 exact⟨a,b,c,I.swap (by rw [e];exact LU) ⟨(show 3≤sizeLine by decide),[.int a t,.int b u,.int c v],k,.cons ⟨t,rfl⟩ (.cons ⟨u,rfl⟩ (.cons ⟨v,rfl⟩ .nil)),h⟩⟩
theorem af.shut3{p:Addr}{a b c:Int}(I:af X pins σ H s)(e:H p=some (.lst [.int a,.int b,.int c])):af X pins σ (au H p (fV p)) s:=by
 obtain⟨_,its,k,r,h⟩:=(show cg X.prog X.w H s.heap p (.lst [.int a,.int b,.int c]) from I.hok p _ e)
 cases r with
 | cons r1 r2=>
  cases r2 with
  | cons r2 r3=>
   cases r3 with
   | cons r3 r4=>
    cases r4
    obtain⟨t,rfl⟩:=r1
    obtain⟨u,rfl⟩:=r2
    obtain⟨v,rfl⟩:=r3
    exact I.swap (by rw [e];exact LU) ⟨⟨a,b,c,t,u,v,k,h⟩,⟨_,h⟩,fun h1 h2 uu47 kk=> by obtain⟨a,b,c,t,u,v,k,z⟩:=uu47;exact⟨a,b,c,t,u,v,k,kk _ z⟩⟩
theorem bQ.purse{st:List Stmt}{t:TS}(h:bQ X st t):bQ X st (fun D σ H=> ∃p,H p=some (fV p)∧∀a b c,t {nx:=fun σ' H'=> ∃a b c,H' p=some (.lst [.int a,.int b,.int c])∧D.nx σ' (au H' p (fV p)),rt:=fun v H'=> ∃a b c,H' p=some (.lst [.int a,.int b,.int c])∧D.rt v (au H' p (fV p))} σ (au H p (.lst [.int a,.int b,.int c]))):=by
 intro pins s σ H D I ⟨p,e,q⟩
 obtain⟨a,b,c,I1⟩:=I.open3 e
 refine aB (h pins s σ _ _ I1 (q a b c)) fun f s1 z=> ?_
 cases f with
 | next=> obtain⟨σ',H',J,_,_,_,e',q'⟩:=z;exact⟨σ',_,J.shut3 e',q'⟩
 | ret u=> obtain⟨v,σ',H',J,r,_,_,_,e',q'⟩:=z;exact⟨v,σ',_,J.shut3 e',r,q'⟩
 | brk=> obtain⟨_,_,_,z⟩:=z;exact z.elim
 | cont=> obtain⟨_,_,_,z⟩:=z;exact z.elim
theorem bQ.newPurse{st:List Stmt}{t:TS}(h:bQ X st t):bQ X st (fun D σ H=> t {nx:=fun _ _=> False,rt:=fun v H'=> ∃p a b c,v= .ref p∧H' p=some (.lst [.int a,.int b,.int c])∧D.rt v (au H' p (fV p))} σ H):=by
 intro pins s σ H D I q
 refine aB (h pins s σ _ _ I q) fun f s1 z=> ?_
 cases f with
 | next=> obtain⟨_,_,_,z⟩:=z;exact z.elim
 | ret u=> obtain⟨v,σ',H',J,r,p,a,b,c,e,e',q'⟩:=z;subst e;exact⟨_,σ',_,J.shut3 e',r,q'⟩
 | brk=> obtain⟨_,_,_,z⟩:=z;exact z.elim
 | cont=> obtain⟨_,_,_,z⟩:=z;exact z.elim
end
def EN:List PyData→(PyData→Prop)→Prop:=fun ds Q=> ∃z:Int,ds=[qG,.int z]∧0 < z∧z≤1000000∧∀i:Int,0≤i→i < z→Q (.int i)
def rV:List PyData→(PyData→Prop)→Prop:=fun ds Q=> ∃z:Int,ds=[ft,.int z]∧0 < z∧z≤1000000∧∀i:Int,0≤i→i < z→Q (.int i)
theorem cT{α:Type}{a:α}{l:List α}:atI (a::l) 0=some a:=gO (j:=0) rfl
theorem cU{α:Type}{a b:α}{l:List α}:atI (a::b::l) 1=some b:=gO (j:=1) rfl
theorem mO{α:Type}{a b c:α}{l:List α}:atI (a::b::c::l) 2=some c:=gO (j:=2) rfl
theorem kl{α:Type}{a b c d:α}{l:List α}:atI (a::b::c::d::l) 3=some d:=gO (j:=3) rfl
theorem xi{α:Type}{a b c d e:α}{l:List α}:atI (a::b::c::d::e::l) 4=some e:=gO (j:=4) rfl
theorem gZ{i:Int}:dQ (.int i):=rfl
theorem mP{i:Bool}:dQ (.bool i):=rfl
theorem rW:dQ .none:=rfl
theorem jz{x y:Str}:KC (.str x) (.str y)=(x==y):=by simp [KC]
theorem kX{x y:Int}:KC (.int x) (.int y)=(x==y):=by simp [KC]
theorem xj{x y:Bool}:KC (.bool x) (.bool y)=(x==y):=by simp [KC]
theorem bR{x:Str}:dQ (.str x)↔Kr x=true:=by
 unfold dQ LK
 simp [K4,MU]
theorem nX{n d:Nat}:HT.sIx n d none=d:=rfl
theorem oC{n d:Nat}{i:Int}(h0:0≤i)(h1:i≤n):HT.sIx n d (some i)=i.toNat:=by
 obtain⟨j,rfl⟩:=LV h0
 rw [HT.sIx_nat,LW]
 omega
theorem km{xs:List PyData}{i:Int}(h0:0≤i)(h1:i≤xs.length):cf xs none (some i)=xs.take i.toNat:=by
 unfold cf;rw [nX,oC h0 h1];simp
theorem oE{xs:List PyData}{i:Int}(h0:0≤i)(h1:i≤xs.length):cf xs (some i) none=xs.drop i.toNat:=by
 unfold cf;rw [nX,oC h0 h1,Lc (by rw [NH];exact Kk _)]
theorem kY{lo:Int}{n i:Nat}{x:PyData}(h:(iI lo n)[i]?=some x):i < n∧x= .int (lo+i):=by
 unfold iI at h
 rw [KQ] at h
 by_cases hi:i < n
 ·rw [List.getElem?_range hi] at h;exact⟨hi,(K5 h).symm⟩
 ·rw [LP (by simpa using hi)] at h;cases h
theorem oF{lo:Int}{n:Nat}:(iI lo n).length=n:=by unfold iI;simp
end L2
namespace L2
open PySem PySem.Spec PyProof.Rows
section
variable {κ:Type} [DecidableEq κ]
def dZ(kvs:List (κ×V))(k:κ):Option V:=(kvs.find? fun kv=> decide (kv.1=k)).map (·.2)
def putK(kvs:List (κ×V))(k:κ)(v:V):List (κ×V):=
  if (kvs.any fun kv=> decide (kv.1=k))=true then kvs.map (fun kv=> if kv.1=k then(kv.1,v) else kv) else kvs++[(k,v)]
theorem mQ{p:κ×V}{r:List (κ×V)}{k:κ}(e:p.1=k):dZ (p::r) k=some p.2:=by simp [dZ,LO,e]
theorem kZ{p:κ×V}{r:List (κ×V)}{k:κ}(e:¬p.1=k):dZ (p::r) k=dZ r k:=by simp [dZ,LO,e]
theorem xk(k:κ):∀kvs:List (κ×V),(kvs.any fun kv=> decide (kv.1=k))=(dZ kvs k).isSome
  | []=> rfl
  | p::r=> by
    rw [LS]
    by_cases e:p.1=k
    · simp only [mQ e,decide_eq_true e,Bool.true_or,Option.isSome_some]
    · rw [kZ e,decide_eq_false e,M5];exact xk k r
theorem rX(kvs:List (κ×V))(k:κ)(v:V):(putK kvs k v).length≤kvs.length+1:=by
  unfold putK
  split
  · rw [Kd];omega
  · rw [KR,Kw,Mb];omega
theorem eF.isSome_eq{o:Option V}{u:Option Value}(r:eF o u):o.isSome=u.isSome:=by
  cases o with
  | none=> cases u with
    | none=> rfl
    | some _=> exact(show False from r).elim
  | some _=> cases u with
    | none=> exact(show False from r).elim
    | some _=> rfl
theorem eF.getD{o:Option V}{u:Option Value}{d:V}{d':Value}(r:eF o u)(rd:aE d d'):aE (o.getD d) (u.getD d'):=by
  cases o with
  | none=> cases u with
    | none=> exact rd
    | some _=> exact(show False from r).elim
  | some _=> cases u with
    | none=> exact(show False from r).elim
    | some _=> exact r
theorem KV.val{kvs:List (κ×V)}{vs:List (κ×Value)}(r:KV kvs vs)(k:κ):eF (dZ kvs k) (valueAt vs k):=by
  unfold KV at r
  induction r with
  | nil=> exact LU
  | @cons p q ps qs h t ih=>
    obtain⟨h1,h2⟩:=h
    by_cases e:p.1=k
    · have e':q.1=k:=h1.symm.trans e
      have b:valueAt (q::qs) k=some q.2:=by simp [valueAt,LO,e']
      rw [mQ e,b];exact h2
    · have e':¬q.1=k:=fun z=> e (h1.trans z)
      have b:valueAt (q::qs) k=valueAt qs k:=by simp [valueAt,LO,e']
      rw [kZ e,b];exact ih
theorem KV.any{kvs:List (κ×V)}{vs:List (κ×Value)}(r:KV kvs vs)(k:κ):(kvs.any fun kv=> decide (kv.1=k))=vs.any fun kv=> decide (kv.1=k):=by
  unfold KV at r
  induction r with
  | nil=> rfl
  | cons h t ih=> rw [LS,LS,ih,h.1]
theorem KV.repl{kvs:List (κ×V)}{vs:List (κ×Value)}(r:KV kvs vs)(k:κ){y:V}{u:Value}(ry:aE y u):
    KV (kvs.map fun kv=> if kv.1=k then(kv.1,y) else kv) (vs.map fun kv=> if kv.1=k then(kv.1,u) else kv):=by
  unfold KV at r⊢
  induction r with
  | nil=> exact .nil
  | @cons p q ps qs h t ih=>
    rw [Kj,Kj]
    refine .cons ?_ ih
    obtain⟨h1,h2⟩:=h
    by_cases e:p.1=k
    · rw [if_pos e,if_pos (h1.symm.trans e)];exact⟨h1,ry⟩
    · rw [if_neg e,if_neg (fun z=> e (h1.trans z))];exact⟨h1,h2⟩
theorem KV.put{kvs:List (κ×V)}{vs:List (κ×Value)}(r:KV kvs vs)(k:κ){y:V}{u:Value}(ry:aE y u):KV (putK kvs k y) (stored vs k u):=by
  unfold putK stored
  rw [r.any k]
  by_cases e:(vs.any fun kv=> decide (kv.1=k))=true
  · rw [if_pos e,if_pos e];exact r.repl k ry
  · rw [if_neg e,if_neg e];exact QL r ⟨rfl,ry⟩
theorem KV.keys{kvs:List (κ×V)}{vs:List (κ×Value)}(r:KV kvs vs):kvs.map (·.1)=vs.map (·.1):=by
  unfold KV at r
  induction r with
  | nil=> rfl
  | cons h t ih=> rw [Kj,Kj,ih,h.1]
theorem KV.length{kvs:List (κ×V)}{vs:List (κ×Value)}(r:KV kvs vs):kvs.length=vs.length:=NX r
end
theorem jA{P:Program}{w:World}{k:ak}{u:Value}(r:aE (kV k) u):(cR P w).is k u=true:=by
  cases k with
  | inl i=> obtain⟨t,e⟩:=(show ∃t,u=MH i t from r);subst e;exact CA P w i t
  | inr x=> obtain⟨t,e⟩:=(show ∃t,u=Me x t from r);subst e;exact CB P w x t
theorem xm{P:Program}{w:World}:∀{ks:List ak}{us:List Value},aF (ks.map kV) us→ItemsAre (cR P w) ks us
  | [],_,r=> by rw [Ly] at r;cases r;exact .nil
  | k::ks,_,r=> by
    rw [Kj] at r
    cases r with
    | cons h t=> exact .cons (jA h) (xm t)
abbrev KT(H:Hp):List (List ak×V)→List (List ak×Addr×Value)→Prop:=Paired fun p q=> p.1=q.1∧H q.2.1=some (.tup (p.1.map kV))∧aE p.2 q.2.2
theorem KT.val{H:Hp}{kvs:List (List ak×V)}{xs:List (List ak×Addr×Value)}(r:KT H kvs xs)(k:List ak):eF (dZ kvs k) ((atKey xs k).map (·.2)):=by
  induction r with
  | nil=> exact LU
  | @cons p q ps qs h t ih=>
    obtain⟨h1,_,h2⟩:=h
    by_cases e:p.1=k
    · have e':q.1=k:=h1.symm.trans e
      have b:atKey (q::qs) k=some q.2:=by simp [atKey,LO,e']
      rw [mQ e,b];exact h2
    · have e':¬q.1=k:=fun z=> e (h1.trans z)
      have b:atKey (q::qs) k=atKey qs k:=by simp [atKey,LO,e']
      rw [kZ e,b];exact ih
theorem KT.repl{H:Hp}{kvs:List (List ak×V)}{xs:List (List ak×Addr×Value)}(r:KT H kvs xs)(k:List ak){y:V}{u:Value}(ry:aE y u):
    KT H (kvs.map fun kv=> if kv.1=k then(kv.1,y) else kv) (xs.map (putAt k u)):=by
  induction r with
  | nil=> exact .nil
  | @cons p q ps qs h t ih=>
    rw [Kj,Kj]
    refine .cons ?_ ih
    obtain⟨h1,h2,h3⟩:=h
    unfold putAt
    by_cases e:p.1=k
    · rw [if_pos e,if_pos (h1.symm.trans e)];exact⟨h1,h2,ry⟩
    · rw [if_neg e,if_neg (fun z=> e (h1.trans z))];exact⟨h1,h2,h3⟩
theorem KT.put{H:Hp}{kvs:List (List ak×V)}{xs:List (List ak×Addr×Value)}(r:KT H kvs xs)(k:List ak){b:Addr}{y:V}{u:Value}(hb:H b=some (.tup (k.map kV)))(ry:aE y u):
    KT H (putK kvs k y) (storedH xs k b u):=by
  have e:(kvs.any fun kv=> decide (kv.1=k))=(atKey xs k).isSome:=by
    rw [xk,(r.val k).isSome_eq,Oa]
  unfold putK storedH
  rw [e]
  by_cases q:(atKey xs k).isSome=true
  · rw [if_pos q,if_pos q];exact r.repl k ry
  · rw [if_neg q,if_neg q];exact QL r ⟨rfl,hb,ry⟩
theorem KT.keeps{H H':Hp}{kvs:List (List ak×V)}{xs:List (List ak×Addr×Value)}(r:KT H kvs xs)(ht:∀b ys,H b=some (.tup ys)→H' b=some (.tup ys)):KT H' kvs xs:=
  Paired.mapP r fun _ _ z=> ⟨z.1,ht _ _ z.2.1,z.2.2⟩
section
variable {P:Program} {w:World} {H:Hp} {h:Heap} {a:Addr}
theorem xp{u:HO}(ok:bT P w H h)(e:Rd H a u):cg P w H h a u:=e.ok ok
theorem jB{kvs:List (ak×V)}(ok:bT P w H h)(e:Rd H a (.dK kvs)):kvs.length≤sizeLine∧(a==sysModules)=false∧∃vs,KV kvs vs∧h.DictOf (cR P w) a vs:=
  show cg P w H h a (.dK kvs) from xp ok e
theorem rY{kvs:List (ak×V)}(ok:bT P w H h)(e:H a=some (.dK kvs)):kvs.length≤sizeLine∧(a==sysModules)=false∧∃vs,KV kvs vs∧h.DictOf (cR P w) a vs:=jB ok (.inl e)
theorem kn{ks:List ak}(ok:bT P w H h)(e:H a=some (.tup (ks.map kV))):(tupleKind (cR P w)).is h ks a:=by
  obtain⟨_,its,r,o,h1,h2,n,h3⟩:=(show cg P w H h a (.tup (ks.map kV)) from ok a _ e)
  exact⟨o,its.toArray,n,h1,h2,h3,by simpa using xm r⟩
theorem jC{kvs:List (List ak×V)}(ok:bT P w H h)(e:Rd H a (.dT kvs)):kvs.length≤sizeLine∧(a==sysModules)=false∧
    ∃xs,KT H kvs xs∧h.DictOfH (tupleKind (cR P w)) a xs:=by
  obtain⟨z,y,xs,r,o,es,ep,h1,h2,h3,h4,h5⟩:=(show cg P w H h a (.dT kvs) from xp ok e)
  refine⟨z,y,xs,r,o,es,ep,h1,h2,h3,h4,fun x hx=> ?_,h5⟩
  have all:∀{l:List (List ak×V)}{m:List (List ak×Addr×Value)},KT H l m→∀x∈m,(tupleKind (cR P w)).is h x.1 x.2.1:=by
    intro l m q
    induction q with
    | nil=> intro x hx;exact nomatch hx
    | @cons p q ps qs hq t ih=>
      intro x hx
      rcases Kz.mp hx with e | hx
      · subst e
        exact kn ok (by rw [←hq.1];exact hq.2.1)
      · exact ih x hx
  exact all r x hx
theorem EO{kvs:List (List ak×V)}(ok:bT P w H h)(e:H a=some (.dT kvs)):kvs.length≤sizeLine∧(a==sysModules)=false∧
    ∃xs,KT H kvs xs∧h.DictOfH (tupleKind (cR P w)) a xs:=jC ok (.inl e)
end
def dD(H:Hp)(a:Addr)(y:V)(r:Option V):Prop:=
  (∃kvs k,Rd H a (.dK kvs)∧y=kV k∧r=dZ kvs k)∨∃kvs k b,Rd H a (.dT kvs)∧y= .ref b∧H b=some (.tup (k.map kV))∧r=dZ kvs k
def mR(H:Hp)(a:Addr)(y v:V)(H':Hp):Prop:=
  (∃kvs k,H a=some (.dK kvs)∧y=kV k∧kvs.length < sizeLine∧H'=au H a (.dK (putK kvs k v)))∨
  ∃kvs k b,H a=some (.dT kvs)∧y= .ref b∧H b=some (.tup (k.map kV))∧kvs.length < sizeLine∧H'=au H a (.dT (putK kvs k v))
theorem dD.k{H:Hp}{a:Addr}{kvs:List (ak×V)}{k:ak}(e:H a=some (.dK kvs)):dD H a (kV k) (dZ kvs k):= .inl ⟨kvs,k,.inl e,rfl,rfl⟩
theorem mR.k{H:Hp}{a:Addr}{kvs:List (ak×V)}{k:ak}{v:V}(e:H a=some (.dK kvs))(hl:kvs.length < sizeLine):mR H a (kV k) v (au H a (.dK (putK kvs k v))):= .inl ⟨kvs,k,e,rfl,hl,rfl⟩
section
variable {X:Cx} {pins:List (Addr×Obj)} {σ:St} {H:Hp} {s:Shared} {a:Addr} {y v:V} {u r:Value} {o:Option V} {A:Around} {E:Value→Shared→Prop}
theorem af.big(I:af X pins σ H s):sysModules < s.heap.objs.size:=by
  have h:mainGlobals < s.heap.objs.size:=(I.mod.glob.keeps I.bk).lt
  exact Nat.lt_trans (by decide) h
theorem ER{Q:Value→Shared→Prop}(hu:A.units+1 < cLine)(I:af X pins σ H s)(g:dD H a y (some v))(ry:aE y u)(h:∀w' s',af X pins σ H s'→aE v w'→Q w' s'):
    wpAny (model X.prog X.w) A (getItem (.ref a) u) Q E s:=by
  rcases g with⟨kvs,k,e,ey,l⟩ | ⟨kvs,k,b,e,ey,eb,l⟩
  · subst ey
    obtain⟨z,hd,vs,rel,dd⟩:=jB I.hok e
    obtain⟨w',hw,rw'⟩:=eF.some_of (v:=v) (o:=valueAt vs k) (by rw [l];exact rel.val k)
    exact wpAny_getItem_of (jA ry) dd.mapOf hw (h w' _ (I.tok _) rw')
  · subst ey
    cases (show u=K6 b from ry)
    obtain⟨z,hd,xs,rel,dd⟩:=jC I.hok e
    obtain⟨w',hw,rw'⟩:=eF.some_of (v:=v) (o:=(atKey xs k).map (·.2)) (by rw [l];exact rel.val k)
    obtain⟨p,hp,hp2⟩:=Option.map_eq_some_iff.mp hw
    refine wpAny_getItem_heap (tupleKind_room_in1 hu) (kn I.hok eb) dd hp ?_
    rw [hp2]
    exact h w' _ (I.tok _) rw'
theorem ES{Q:Value→Shared→Prop}(hu:A.units+1 < cLine)(I:af X pins σ H s)(g:dD H a y o)(ry:aE y u)(h:∀s',af X pins σ H s'→Q (.bool o.isSome) s'):
    wpAny (model X.prog X.w) A (compareOp .In u (.ref a)) Q E s:=by
  rcases g with⟨kvs,k,e,ey,l⟩ | ⟨kvs,k,b,e,ey,eb,l⟩
  · subst ey
    obtain⟨z,hd,vs,rel,dd⟩:=jB I.hok e
    refine wpAny_in_of (jA ry) hd dd.mapOf ?_
    rw [←(rel.val k).isSome_eq,←l]
    exact h _ (I.tok _)
  · subst ey
    cases (show u=K6 b from ry)
    obtain⟨z,hd,xs,rel,dd⟩:=jC I.hok e
    refine wpAny_in_heap (tupleKind_room_in1 hu) (kn I.hok eb) hd dd ?_
    have q:=(rel.val k).isSome_eq
    rw [Oa] at q
    rw [←q,←l]
    exact h _ (I.tok _)
theorem ET{Q:Value→Shared→Prop}(hu:A.units+1 < cLine)(I:af X pins σ H s)(g:dD H a y o)(ry:aE y u)(h:∀s',af X pins σ H s'→Q (.bool (!o.isSome)) s'):
    wpAny (model X.prog X.w) A (compareOp .NotIn u (.ref a)) Q E s:=by
  rcases g with⟨kvs,k,e,ey,l⟩ | ⟨kvs,k,b,e,ey,eb,l⟩
  · subst ey
    obtain⟨z,hd,vs,rel,dd⟩:=jB I.hok e
    refine wpAny_notIn_of (jA ry) hd dd.mapOf ?_
    rw [←(rel.val k).isSome_eq,←l]
    exact h _ (I.tok _)
  · subst ey
    cases (show u=K6 b from ry)
    obtain⟨z,hd,xs,rel,dd⟩:=jC I.hok e
    refine wpAny_notIn_heap (tupleKind_room_in1 hu) (kn I.hok eb) hd dd ?_
    have q:=(rel.val k).isSome_eq
    rw [Oa] at q
    rw [←q,←l]
    exact h _ (I.tok _)
theorem rZ{h':Heap}{t':Nat}{ob:HO}(I:af X pins σ H s)(mu:kH (H a))(hs:Ma a s.heap h')(he:∃q,h'.get? a=some q)(new:cg X.prog X.w (au H a ob) h' a ob):
    af X pins σ (au H a ob) {s with heap:=h',toks:=t'}:=
  I.write (x:=a) (e:=a) mu (.inl rfl) (fun b q hb z=> (hs.2 b hb).trans z) he new
theorem xt{P:Program}{w:World}{H':Hp}{h':Heap}{kvs:List (ak×V)}{vs:List (ak×Value)}(z:kvs.length≤sizeLine)(hd:(a==sysModules)=false)(rel:KV kvs vs)(dd:h'.DictOf (cR P w) a vs):
    cg P w H' h' a (.dK kvs):=⟨z,hd,vs,rel,dd⟩
theorem EU{H':Hp}{Q:Unit→Shared→Prop}(hu:A.units+1 < cLine)(I:af X pins σ H s)(g:mR H a y v H')(ry:aE y u)(rv:aE v r)(h:∀s',af X pins σ H' s'→Q () s'):
    wpAny (model X.prog X.w) A (setItem (.ref a) u r) Q E s:=by
  rcases g with⟨kvs,k,e,ey,l,eH⟩ | ⟨kvs,k,b,e,ey,eb,l,eH⟩
  · subst ey eH
    obtain⟨z,hd,vs,rel,dd⟩:=rY I.hok e
    have hz:vs.length≤sizeLine:=by rw [←rel.length];exact z
    have hl:(putK kvs k v).length≤sizeLine:=by have:=rX kvs k v;omega
    refine wpAny_setItem_pairs (hsz:=hz) (jA ry) dd fun h' dd' hs=> h _ ?_
    have he:∃q,h'.get? a=some q:=let ⟨q,_,_,hq,_⟩:=dd';⟨q,hq⟩
    exact rZ I (by rw [e];exact LU) hs he (xt hl hd (rel.put k rv) dd')
  · subst ey eH
    cases (show u=K6 b from ry)
    obtain⟨z,hd,xs,rel,dd⟩:=EO I.hok e
    have hz:xs.length≤sizeLine:=by rw [←NX rel];exact z
    have hl:(putK kvs k v).length≤sizeLine:=by have:=rX kvs k v;omega
    refine wpAny_setItem_heap (hsz:=hz) (tupleKind_room_in1 hu) (kn I.hok eb) dd fun h' dd' hs=> h _ ?_
    obtain⟨q,es,ep,hq,h2,h3,h4,_,h5⟩:=dd'
    refine rZ I (by rw [e];exact LU) hs ⟨q,hq⟩ ⟨hl,hd,_,(rel.put k eb rv).keeps fun c ys ec=> ?_,q,es,ep,hq,h2,h3,h4,h5⟩
    rw [aJ (CC ec e (fun z=> nomatch z))]
    exact ec
end
section
variable {X:Cx} {pins:List (Addr×Obj)} {σ:St} {H:Hp} {s:Shared} {a:Addr} {kvs:List (ak×V)} {k:ak} {u:Value} {A:Around} {E:Value→Shared→Prop}
end
def sd(i:Expr):Prop:=∀ov iv,subscripted i false ov iv=operate [ov,iv] (getItem ov iv)
theorem EV{prog:Program}{w:World}{A:Around}{E:Value→Shared→Prop}{s:Shared}{env:Env}{value slice:Expr}{pos:Pos}{T id:String}{Q:Value→Shared→Prop}
    (hl:typeLookup (.type T) "__getitem__"=pure (some (.builtin id)))(hs:sd slice)
    (h:wpAny (model prog w) A (eval value env) (fun o s₁=> wpAny (model prog w) A (eval slice env) (fun i s₂=> s₂.TypeIs o T∧wpAny (model prog w) A (getItem o i) Q E s₂) E s₁) E s):
    wpAny (model prog w) A (eval (.Subscript value slice pos) env) Q E s:=by
  refine Subscript_ (wpAny_mono h (fun o s₁ h₁=> wpAny_mono h₁ (fun i s₂ h₂=> ?_) fun _ _ x=> x) fun _ _ x=> x)
  obtain⟨hT,h₂⟩:=h₂
  unfold subscriptTail
  refine wpAny_bind ?_
  rw [getitemInPython_of_ne hT.not_modules]
  refine wpAny_bind (wpAny_specialOf hT hl ?_)
  have fin:wpAny (model prog w) A (subscripted slice false o i) (fun r s₃=> wpAny (model prog w) A (letTemporaryGo value o r >>=fun _=> pure r) Q E s₃) E s₂:=by
    rw [hs o i]
    exact wpAny_operating (wpAny_mono h₂ (fun r s₃ h₃=> wpAny_bind (wpAny_letTemporaryGo (wpAny_pure h₃))) fun _ _ x=> x)
  first
    | exact wpAny_pure (wpAny_bind fin)
    | exact wpAny_bind (wpAny_pure (wpAny_bind fin))
    | exact wpAny_bind fin
theorem EW{X:Cx}{pins:List (Addr×Obj)}{σ:St}{H:Hp}{s:Shared}{a:Addr}{y:V}{o:Option V}(I:af X pins σ H s)(g:dD H a y o):s.TypeIs (.ref a) "dict":=by
  rcases g with⟨kvs,k,e,_,_⟩ | ⟨kvs,k,b,e,_,_,_⟩
  · obtain⟨_,_,vs,_,dd⟩:=jB I.hok e
    exact dd.typeIs
  · obtain⟨_,_,xs,_,dd⟩:=jC I.hok e
    exact dd.typeIs
def EX(td ty:TE):TE:=fun σ H Q=> td σ H fun x H1=> ty σ H1 fun y H2=> ∃a v,x= .ref a∧dD H2 a y (some v)∧Q v H2
def EY(ty td:TE):TE:=fun σ H Q=> ty σ H fun y H1=> td σ H1 fun x H2=> ∃a o,x= .ref a∧dD H2 a y o∧Q (.bl o.isSome) H2
def EZ(ty td:TE):TE:=fun σ H Q=> ty σ H fun y H1=> td σ H1 fun x H2=> ∃a o,x= .ref a∧dD H2 a y o∧Q (.bl (!o.isSome)) H2
def E1(td ty tv:TE):TS:=fun D σ H=> tv σ H fun v H1=> td σ H1 fun x H2=> ty σ H2 fun y H3=> ∃a H4,x= .ref a∧mR H3 a y v H4∧D.nx σ H4
section
variable {X:Cx} {o i e value:Expr} {pos pos' tpos:Pos} {td ty tv:TE}
theorem E2(hu:X.A.units+1 < cLine)(ho:PE X o td)(hi:PE X i ty)(hs:sd i):PE X (.Subscript o i pos) (EX td ty):=by
  intro pins s σ H Q I h
  refine EV PySem.F.slot_dict_getitem.lookup hs (aB (ho pins s σ H _ I h) fun u s1 ⟨x,H1,I1,rx,q1⟩=> aB (hi pins s1 σ H1 _ I1 q1) fun iv s2 ⟨y,H2,I2,ry,a,v,ex,g,q2⟩=> ?_)
  subst ex
  obtain rfl:u=K6 a:=rx
  exact⟨EW I2 g,ER hu I2 g ry fun w' s3 I3 rw'=> ⟨v,H2,I3,rw',q2⟩⟩
theorem E3(hu:X.A.units+1 < cLine)(hi:PE X i ty)(ho:PE X o td):PC X .In i o (EY ty td):=by
  intro pins s σ H Q I h
  refine aB (hi pins s σ H _ I h) fun iv s1 ⟨y,H1,I1,ry,q1⟩=> aB (ho pins s1 σ H1 _ I1 q1) fun u s2 ⟨x,H2,I2,rx,a,ov,ex,g,q2⟩=> ?_
  subst ex
  obtain rfl:u=K6 a:=rx
  exact ES hu I2 g ry fun s3 I3=> ⟨.bl ov.isSome,H2,I3,rfl,q2⟩
theorem E4(hu:X.A.units+1 < cLine)(hi:PE X i ty)(ho:PE X o td):PC X .NotIn i o (EZ ty td):=by
  intro pins s σ H Q I h
  refine aB (hi pins s σ H _ I h) fun iv s1 ⟨y,H1,I1,ry,q1⟩=> aB (ho pins s1 σ H1 _ I1 q1) fun u s2 ⟨x,H2,I2,rx,a,ov,ex,g,q2⟩=> ?_
  subst ex
  obtain rfl:u=K6 a:=rx
  exact ET hu I2 g ry fun s3 I3=> ⟨.bl (!ov.isSome),H2,I3,rfl,q2⟩
theorem E5(hu:X.A.units+1 < cLine)(ho:PE X o td)(hi:PE X i ty)(hv:PE X value tv)(hs:swapsWith value (some (.Subscript o i pos')) pos.line X.env=pure false):
    PS X (.Assign [.Subscript o i pos'] value pos) (E1 td ty tv):=by
  intro pins s σ H D I h
  refine wpAny_Assign_Subscript (aB (hv pins s σ H _ I h) fun r s1 ⟨v,H1,I1,rv,q1⟩=> aB (ho pins s1 σ H1 _ I1 q1) fun u s2 ⟨x,H2,I2,rx,q2⟩=> aB (hi pins s2 σ H2 _ I2 q2) fun iv s3 ⟨y,H3,I3,ry,a,H4,ex,g,q3⟩=> ?_) hs
  subst ex
  obtain rfl:u=K6 a:=rx
  exact EU hu I3 g ry rv fun s4 I4=> ⟨σ,H4,I4,q3⟩
end
theorem xu{P:Program}{w:World}{H:Hp}(h:Heap)(hb:sysModules < h.objs.size):cg P w H (h.push {cls:= .type "dict",data:= .dict #[]}) h.objs.size (.dK []):=
  ⟨Lj _,beq_eq_false_iff_ne.mpr (Ne.symm (KN hb)),[],.nil,Heap.DictOf.new h⟩
def E6:TE:=fun _ H Q=> ∀p,H p=none→Q (.ref p) (au H p (.dK []))
section
variable {X:Cx} {pos:Pos}
theorem E7:PE X (.Dict [] [] pos) E6:=fun pins s σ H Q I h=>
  wpAny_Dict_empty ⟨.ref s.heap.objs.size,_,I.laid (a:=s.heap.objs.size) (o:= .dK []) (t':=s.toks) (fun _ _ q=> Kg _ q) (Kk _) (xu s.heap I.big),rfl,h _ (I.hok.fresh (Kk _))⟩
end
def oG:List (TE×TE)→St→Hp→(List (V×V)→Hp→Prop)→Prop
  | [],_,H,Q=> Q [] H
  | (tk,tv)::r,σ,H,Q=> tk σ H fun x H1=> tv σ H1 fun y H2=> oG r σ H2 fun ps H3=> Q ((x,y)::ps) H3
abbrev VV:List (V×V)→List (Value×Value)→Prop:=Paired fun p q=> aE p.1 q.1∧aE p.2 q.2
def mS(X:Cx)(pos:Pos)(keys:List (Option Expr))(values:List Expr)(trs:List (TE×TE)):Prop:=
  ∀(pins:List (Addr×Obj))(s:Shared)(σ:St)(H:Hp)(Q:List (V×V)→Hp→Prop),af X pins σ H s→oG trs σ H Q→
    wpAny (model X.prog X.w) X.A (evalPairs (pairTrees keys values X.env pos)) (fun vs s'=> ∃ps H',af X pins σ H' s'∧VV ps vs∧Q ps H') X.xe s
theorem E8{X:Cx}{pos:Pos}:mS X pos [] [] []:=fun pins s σ H Q I h=> pairTrees_nil_walk ⟨[],H,I,.nil,h⟩
theorem E9{X:Cx}{pos:Pos}{k v:Expr}{ks:List (Option Expr)}{vs:List Expr}{tk tv:TE}{trs:List (TE×TE)}(hk:PE X k tk)(hv:PE X v tv)(hr:mS X pos ks vs trs):
    mS X pos (some k::ks) (v::vs) ((tk,tv)::trs):=fun pins s σ H Q I h=>
  pairTrees_cons_walk (aB (hk pins s σ H _ I h) fun u s1 ⟨x,H1,I1,rx,q1⟩=> aB (hv pins s1 σ H1 _ I1 q1) fun w2 s2 ⟨y,H2,I2,ry,q2⟩=>
    aB (hr pins s2 σ H2 _ I2 q2) fun ws s3 uu59=> by obtain⟨ps,H3,I3,rel,q3⟩:=uu59;exact⟨(x,y)::ps,H3,I3,.cons ⟨rx,ry⟩ rel,q3⟩)
def jD(kvs more:List (ak×V)):List (ak×V):=more.foldl (fun acc kv=> putK acc kv.1 kv.2) kvs
theorem KV.merge:∀{more:List (ak×V)}{rs:List (ak×Value)}{kvs:List (ak×V)}{vs:List (ak×Value)},KV more rs→KV kvs vs→KV (jD kvs more) (merged vs rs):=by
  intro more rs kvs vs r
  unfold KV at r
  induction r generalizing kvs vs with
  | nil=> intro q;exact q
  | @cons p q ps qs h t ih=>
    intro r0
    have e:KV (putK kvs p.1 p.2) (stored vs q.1 q.2):=by
      have:=r0.put p.1 h.2
      rw [←h.1];exact this
    exact ih e
theorem xv:∀(more kvs:List (ak×V)),(jD kvs more).length≤kvs.length+more.length
  | [],kvs=> by show kvs.length≤kvs.length+0;omega
  | p::r,kvs=> by
    have h1:=xv r (putK kvs p.1 p.2)
    have h2:=rX kvs p.1 p.2
    show(jD (putK kvs p.1 p.2) r).length≤_
    rw [Kw];omega
theorem xw{P:Program}{w:World}:∀{kvs:List (ak×V)}{ws:List (Value×Value)},VV (kvs.map fun kv=> (kV kv.1,kv.2)) ws→∃rs,Carries (cR P w) ws rs∧KV kvs rs
  | [],_,r=> by rw [Ly] at r;cases r;exact⟨[],LU,.nil⟩
  | p::kvs,_,r=> by
    rw [Kj] at r
    cases r with
    | @cons a b as bs h t=>
      obtain⟨rs,c,q⟩:=xw (P:=P) (w:=w) t
      obtain⟨b1,b2⟩:=b
      exact⟨(p.1,b2)::rs,⟨jA h.1,rfl,c⟩,.cons ⟨rfl,h.2⟩ q⟩
def Fb(trs:List (TE×TE)):TE:=fun σ H Q=> ∀p,H p=none→oG trs σ (au H p (.dK [])) fun ps H2=> H2 p=some (.dK [])∧∃kvs:List (ak×V),ps=kvs.map (fun kv=> (kV kv.1,kv.2))∧kvs.length≤15∧Q (.ref p) (au H2 p (.dK (jD [] kvs)))
theorem Fc{X:Cx}{pos:Pos}{keys:List (Option Expr)}{values:List Expr}{trs:List (TE×TE)}(h:mS X pos keys values trs)(hall:keys.all (·.isSome)=true)(hl:keys.length=values.length)(h0:keys≠[])
    (h15:keys.length≤15):PE X (.Dict keys values pos) (Fb trs):=by
  intro pins s σ H Q I q
  have hn:=I.hok.fresh (Kk s.heap.objs.size)
  have I1:=I.laid (a:=s.heap.objs.size) (o:= .dK []) (h':=s.heap.push {cls:= .type "dict",data:= .dict #[]}) (t':=s.toks) (fun _ _ q=> Kg _ q) (Kk _) (xu s.heap I.big)
  refine wpAny_Dict_walk (knd:=cR X.prog X.w) hall hl h0 h15 (aB (h pins _ σ _ _ I1 (q _ hn)) fun ws s2 ⟨ps,H2,I2,rel,e,kvs,ep,lk,q2⟩=> ?_)
  subst ep
  obtain⟨rs,c,rk⟩:=xw (P:=X.prog) (w:=X.w) rel
  obtain⟨z,hd,vs0,r0,dd⟩:=rY I2.hok e
  cases r0
  refine⟨rs,c,dd,fun h' dd' hs=> ⟨.ref s.heap.objs.size,_,?_,rfl,q2⟩⟩
  have hz:(jD [] kvs).length≤sizeLine:=by
    have h1:=xv kvs []
    rw [Mb] at h1
    rw [sizeLine_eq];omega
  have he:∃q,h'.get? s.heap.objs.size=some q:=let ⟨q,_,_,hq,_⟩:=dd';⟨q,hq⟩
  exact rZ I2 (by rw [e];exact LU) hs he (xt hz hd (rk.merge .nil) dd')
structure M1 (X:Cx) (o:Expr) (m:Str) (apos:Pos) (e:Expr) (cpos:Pos):Prop where
  base:attributeBase o m X.env (eval o X.env)=eval o X.env
  few:((backTo cpos (starEach [e] X.env)).all (fun x=> !x.1) && (backToKw cpos (keywordEach [] X.env)).all (fun x=> x.1.isSome)
    && decide (([e]:List Expr).length+([]:List Keyword).length+(if ([]:List Keyword).isEmpty then 0 else 1) < 30))=true
  line:(apos.endLine==cpos.line)=true
  trees:backTo cpos (starEach [e] X.env)=[(false,eval e X.env)]
structure M2 (X:Cx) (o:Expr) (m:Str) (apos:Pos) (e f:Expr) (cpos:Pos):Prop where
  base:attributeBase o m X.env (eval o X.env)=eval o X.env
  few:((backTo cpos (starEach [e,f] X.env)).all (fun x=> !x.1) && (backToKw cpos (keywordEach [] X.env)).all (fun x=> x.1.isSome)
    && decide (([e,f]:List Expr).length+([]:List Keyword).length+(if ([]:List Keyword).isEmpty then 0 else 1) < 30))=true
  line:(apos.endLine==cpos.line)=true
  trees:backTo cpos (starEach [e,f] X.env)=[(false,eval e X.env),(false,eval f X.env)]
def se(H:Hp)(a:Addr):Prop:=(∃kvs,Rd H a (.dK kvs))∨∃kvs,Rd H a (.dT kvs)
theorem xx{X:Cx}{pins:List (Addr×Obj)}{σ:St}{H:Hp}{s:Shared}{a:Addr}(I:af X pins σ H s)(d:se H a):
    s.TypeIs (.ref a) "dict"∧(∀b,K6 a= .ref b→∃ob,s.heap.get? b=some ob∧ob.dict=none)∧(a==sysModules)=false:=by
  rcases d with⟨kvs,e⟩ | ⟨kvs,e⟩
  · obtain⟨_,hd,vs,_,dd⟩:=jB I.hok e
    refine⟨dd.typeIs,fun b q=> ?_,hd⟩
    cases q
    obtain⟨ob,_,_,h1,h2,_⟩:=dd
    exact⟨ob,h1,h2.2.1⟩
  · obtain⟨_,hd,xs,_,dd⟩:=jC I.hok e
    refine⟨dd.typeIs,fun b q=> ?_,hd⟩
    cases q
    obtain⟨ob,_,_,h1,h2,_⟩:=dd
    exact⟨ob,h1,h2.2.1⟩
section
variable {X:Cx} {pins:List (Addr×Obj)} {σ:St} {H:Hp} {s:Shared} {a:Addr} {y d:V} {u r:Value} {o:Option V} {A:Around} {E:Value→Shared→Prop}
theorem Fd{Q:Value→Shared→Prop}(hu:A.units+1 < cLine)(I:af X pins σ H s)(g:dD H a y o)(ry:aE y u)(h:∀w' s',af X pins σ H s'→aE (o.getD .non) w'→Q w' s'):
    wpAny (model X.prog X.w) A (call (.builtin "dict.get") [.ref a,u]) Q E s:=by
  rcases g with⟨kvs,k,e,ey,l⟩ | ⟨kvs,k,b,e,ey,eb,l⟩
  · subst ey
    obtain⟨z,hd,vs,rel,dd⟩:=jB I.hok e
    refine call_meetsIn L5 dd.typeIs MQ (Oz _ _) (meets_dict_get (cR X.prog X.w) a (jA ry) hd) ⟨_,dd.mapOf,h _ _ (I.tok _) ?_⟩
    rw [l]
    exact(rel.val k).getD rfl
  · subst ey
    cases (show u=K6 b from ry)
    obtain⟨z,hd,xs,rel,dd⟩:=jC I.hok e
    refine call_meetsIn L5 dd.typeIs MQ (Oz _ _) (meetsH_dict_get (tupleKind (cR X.prog X.w)) a b hd) ⟨tupleKind_room_in1 hu,k,xs,kn I.hok eb,dd,h _ _ (I.tok _) ?_⟩
    rw [l]
    exact(rel.val k).getD rfl
theorem Fe{Q:Value→Shared→Prop}(hu:A.units+1 < cLine)(I:af X pins σ H s)(g:dD H a y o)(ry:aE y u)(rd:aE d r)(h:∀w' s',af X pins σ H s'→aE (o.getD d) w'→Q w' s'):
    wpAny (model X.prog X.w) A (call (.builtin "dict.get") [.ref a,u,r]) Q E s:=by
  rcases g with⟨kvs,k,e,ey,l⟩ | ⟨kvs,k,b,e,ey,eb,l⟩
  · subst ey
    obtain⟨z,hd,vs,rel,dd⟩:=jB I.hok e
    refine call_meetsIn L5 dd.typeIs MQ (OA _ _ _) (meets_dict_get_default (cR X.prog X.w) a (jA ry) hd r) ⟨_,dd.mapOf,h _ _ (I.tok _) ?_⟩
    rw [l]
    exact(rel.val k).getD rd
  · subst ey
    cases (show u=K6 b from ry)
    obtain⟨z,hd,xs,rel,dd⟩:=jC I.hok e
    refine call_meetsIn L5 dd.typeIs MQ (OA _ _ _) (meetsH_dict_get_default (tupleKind (cR X.prog X.w)) a b hd r) ⟨tupleKind_room_in1 hu,k,xs,kn I.hok eb,dd,h _ _ (I.tok _) ?_⟩
    rw [l]
    exact(rel.val k).getD rd
end
def Ff(td ty:TE):TE:=fun σ H Q=> td σ H fun x H1=> ∃a,x= .ref a∧se H1 a∧ty σ H1 fun y H2=> ∃o,dD H2 a y o∧Q (o.getD .non) H2
def Fg(td ty tx:TE):TE:=fun σ H Q=> td σ H fun x H1=> ∃a,x= .ref a∧se H1 a∧ty σ H1 fun y H2=> tx σ H2 fun z H3=> ∃o,dD H3 a y o∧Q (o.getD z) H3
section
variable {X:Cx} {o e f:Expr} {apos cpos:Pos} {td ty tx:TE}
theorem xy(hu:X.A.units+1 < cLine)(ho:PE X o td)(he:PE X e ty)(m:M1 X o "get" apos e cpos):PE X (.Call (.Attribute o "get" apos) [e] [] cpos) (Ff td ty):=by
  intro pins s σ H Q I h
  refine wpAny_Call_method m.base m.few m.line OB L5 OS (aB (ho pins s σ H _ I h) fun u s1 ⟨x,H1,I1,rx,a,ex,d,q1⟩=> ?_)
  subst ex
  obtain rfl:u=K6 a:=rx
  obtain⟨t1,t2,_⟩:=xx I1 d
  refine⟨t1,t2,?_⟩
  rw [m.trees]
  refine Nx rfl (NM (Ng (aB (he pins s1 σ H1 _ I1 q1) fun iv s2 ⟨y,H2,I2,ry,ov,g,q2⟩=> N9 ?_)))
  exact Fd hu I2 g ry fun w' s3 I3 rw'=> ⟨_,H2,I3,rw',q2⟩
theorem Fh(hu:X.A.units+1 < cLine)(ho:PE X o td)(he:PE X e ty)(hf:PE X f tx)(m:M2 X o "get" apos e f cpos):PE X (.Call (.Attribute o "get" apos) [e,f] [] cpos) (Fg td ty tx):=by
  intro pins s σ H Q I h
  refine wpAny_Call_method m.base m.few m.line OB L5 OS (aB (ho pins s σ H _ I h) fun u s1 ⟨x,H1,I1,rx,a,ex,d,q1⟩=> ?_)
  subst ex
  obtain rfl:u=K6 a:=rx
  obtain⟨t1,t2,_⟩:=xx I1 d
  refine⟨t1,t2,?_⟩
  rw [m.trees]
  refine Nx rfl (NM (Ng (aB (he pins s1 σ H1 _ I1 q1) fun iv s2 ⟨y,H2,I2,ry,q2⟩=>
    Ng (aB (hf pins s2 σ H2 _ I2 q2) fun fv s3 ⟨z,H3,I3,rz,ov,g,q3⟩=> N9 ?_))))
  exact Fe hu I3 g ry rz fun w' s4 I4 rw'=> ⟨_,H3,I4,rw',q3⟩
end
section
variable {X:Cx} {pins:List (Addr×Obj)} {σ:St} {H:Hp} {s:Shared} {a:Addr} {kvs:List (ak×V)} {A:Around} {E:Value→Shared→Prop}
end
section
variable {X:Cx} {pins:List (Addr×Obj)} {σ:St} {H:Hp} {s:Shared} {a:Addr} {y:V} {u:Value} {A:Around} {E:Value→Shared→Prop}
end
end L2
namespace L2
open PySem PySem.Spec PyProof.Rows PySem.W
section
variable {X:Cx} {H0:Hp} {O0:Ex}
def litsOf:List Expr→Option (List PyData)
 | []=> some []
 | .Constant (.int i) _ _::r=> (litsOf r).map (.int i::·)
 | .Constant (.str x) _ _::r=> (litsOf r).map (.str x::·)
 | _::_=> none
def oH(ds:List PyData):DA:=fun _ Q=> Q ds
theorem kq:∀{es:List Expr}{ds:List PyData},litsOf es=some ds→PA X es (fH X.K H0 O0 (oH ds))
 | [],ds,h=> by cases h;exact ai
 | e::r,ds,h=> by
  cases e with
  | Constant c j p=>
   cases c with
   | int i=>
    have h':(litsOf r).map (.int i::·)=some ds:=h
    cases q:litsOf r with
    | none=> rw [q] at h';cases h'
    | some ms=> rw [q] at h';cases h';exact aa ag (kq q)
   | str x=>
    have h':(litsOf r).map (.str x::·)=some ds:=h
    cases q:litsOf r with
    | none=> rw [q] at h';cases h'
    | some ms=> rw [q] at h';cases h';exact aa aP (kq q)
   | _=> cases h
  | _=> cases h
def litsE:Expr→Option (List PyData)
 | .List es _=> litsOf es
 | _=> none
theorem sf{e:Expr}{ds:List PyData}(h:litsE e=some ds):FE X H0 O0 e (om (oH ds)):=by
 cases e with
 | List es p=> exact dh (kq h)
 | _=> cases h
theorem Fi{e:Expr}{ds:List PyData}{x:Option Expr}{n:Nat}{env:Env}(h:litsE e=some ds):swapsWith e x n env=pure false:=by
 cases e with
 | List es p=> rfl
 | _=> cases h
end
end L2
namespace L2
open PySem PySem.Spec PyProof.Rows PySem.W
structure cy (n:Nat) (x:Str):Prop where
 ok:Kr x=true
 le:x.length≤n
theorem kr{x:Str}:Kr x=true↔∀c∈x.cps.toList,c < 0x110000:=by
 unfold Kr
 rw [←Array.all_toList,MB]
 simp
theorem Fj(x y:Str):(x++y).cps=x.cps++y.cps:=rfl
theorem xA(x y:Str):(x++y).length=x.length+y.length:=by
 show(x.cps++y.cps).size=_
 rw [Array.size_append];rfl
theorem cy.append{a b:Nat}{x y:Str}(h:cy a x)(h':cy b y):cy (a+b) (x++y):=by
 refine⟨kr.mpr fun c hc=> ?_,by rw [xA];have:=h.le;have:=h'.le;omega⟩
 rw [Fj,Array.toList_append] at hc
 rcases KL.mp hc with z | z
 ·exact kr.mp h.ok c z
 ·exact kr.mp h'.ok c z
theorem cy.mono{a b:Nat}{x:Str}(h:cy a x)(hb:a≤b):cy b x:=⟨h.ok,KS h.le hb⟩
theorem cy.slice{a:Nat}{x:Str}(h:cy a x)(l u:Option Int):cy a (Txt.slice x l u):=by
 refine⟨kr.mpr fun c hc=> ?_,KS (Txt.slice_le x l u) h.le⟩
 unfold Txt.slice at hc
 split at hc
 ·exact kr.mp h.ok c hc
 ·simp only [MI] at hc
  obtain⟨i,_,hi⟩:=hc
  exact kr.mp h.ok c (by
   have:=Array.mem_of_getElem? hi
   simpa using this)
theorem cy.chr{c:Nat}(h:c < 0x110000):cy 1 ⟨#[c]⟩:=⟨kr.mpr fun d hd=> by
 have:d=c:=by simpa using hd
 rw [this];exact h,Kk _⟩
theorem cy.join:∀{ys:List Str},(∀y∈ys,cy 1 y)→cy ys.length (Txt.join "" ys):=by
 have key:∀ys:List Str,(∀y∈ys,cy 1 y)→cy ys.length (Str.join "" ys):=by
  intro ys
  induction ys with
  | nil=> intro _;exact⟨by decide+kernel,by decide+kernel⟩
  | cons y r ih=>
   intro h
   cases r with
   | nil=> exact h y (by simp)
   | cons z r=>
    have a:=h y (by simp)
    have b:=ih fun w hw=> h w (by simp [hw])
    have e:cy 0 ("":Str):=⟨by decide+kernel,by decide+kernel⟩
    have:=(a.append e).append b
    refine this.mono ?_
    simp only [Kw];omega
 intro ys h
 have e:Txt.join "" ys=Str.join "" ys:=StrLaws.glued_eq_join "" ys
 rw [e];exact key ys h
def lh:Str:="abcdefghijklmnopqrstuvwxyz"
theorem Fl:lh.cps.toList.length=26:=by decide+kernel
theorem Fm:∀c∈lh.cps.toList,c < 0x110000:=by decide+kernel
theorem xB{j:Int}(h0:0≤j)(h1:j < 26):∃c,atI lh.cps.toList j=some c∧lh.cps.toList[j.toNat]?=some c∧c < 0x110000:=by
 obtain⟨k,rfl⟩:=LV h0
 have hk:k < lh.cps.toList.length:=by rw [Fl];omega
 refine⟨lh.cps.toList[k],gO (by simp [hk]),by simp [hk],Fm _ (L3 hk)⟩
structure bU (n:Nat) (d:PyData):Prop where
 can:d.canLay0=true
 dep:d.depth≤n
theorem bU.shp{n:Nat}{d:PyData}(h:bU n d)(hn:n≤64):LK d=true:=by
 unfold LK;rw [h.can,decide_eq_true (KS h.dep hn)];rfl
theorem bU.mono{n m:Nat}{d:PyData}(h:bU n d)(hn:n≤m):bU m d:=⟨h.can,KS h.dep hn⟩
theorem oI{x:Str}(h:Kr x=true):bU 1 (.str x):=⟨by simpa [K4] using h,by simp [MU]⟩
theorem xC{i:Int}:bU 1 (.int i):=⟨by simp [K4],by simp [MU]⟩
theorem Fn{i:Bool}:bU 1 (.bool i):=⟨by simp [K4],by simp [MU]⟩
theorem oJ{n:Nat}:∀{ds:List PyData},(∀d∈ds,bU n d)→Lo ds=true∧Nb ds≤n
 | [],_=> ⟨by simp [Lo],by simp [Nb]⟩
 | d::r,h=> by
  obtain⟨a,b⟩:=oJ (ds:=r) fun e he=> h e (by simp [he])
  have c:=h d (by simp)
  refine⟨by rw [Lo,c.can,a];rfl,?_⟩
  rw [Nb]
  exact Nat.max_le.mpr ⟨c.dep,b⟩
theorem cF{n:Nat}{ds:List PyData}(h:∀d∈ds,bU n d):bU (n+1) (.tuple ds):=by
 obtain⟨a,b⟩:=oJ h
 refine⟨by simpa [K4] using a,?_⟩
 rw [MU];omega
end L2
namespace L2
open PySem PySem.Spec PyProof.Rows
section
variable {X:Cx} {pos:Pos}
end
def PU(X:Cx)(e:Expr)(te:TE):Prop:=∀(i:Nat)(x:Str)(pos' spos:Pos)(hN:X.N.Nodup)(hxi:X.N[i]?=some x)(hx:gH X.env.scope x)(hsw:swapsWith e (some (.Name x pos')) spos.line X.env=pure true)
 (hfn:X.fn x=true∨X.env.scope.names.lookup x=some .local),PS X (.Assign [.Name x pos'] e spos) (lZ te (gJ i))
theorem PU.imp{X:Cx}{e:Expr}{t u:TE}(h:PU X e t)(i:∀σ H Q,u σ H Q→t σ H Q):PU X e u:=fun i' x p1 p2 hN hxi hx hsw hfn=> (h i' x p1 p2 hN hxi hx hsw hfn).imp fun D σ H z=> i σ H _ z
section
variable {X:Cx} {H0:Hp} {O0:Ex}
section
variable {tg iter elt:Expr} {ifs:List Expr} {scope:Scope} {N':List Str} {k:Nat} {fr:List Nat} {g:TG} {dg:DG} {t:DT} {ta:DA} {tc:DB} {te:DT} {pos p ps:Pos}
theorem xD{wi:TI}{tc:TT}{te:TE}(hc:X.calm=true)(S:bz X.env.scope X.N N' k fr scope)(hi:PI X tg iter wi)
  (hg:∀fp C s H,PG (bF X scope N' fp C s H) tg g)(hf:∀fp C s H,eN (bF X scope N' fp C s H) ifs tc)(he:∀fp C s H,PE (bF X scope N' fp C s H) elt te)
  (hs:∀x,foldedSetIterable iter X.env x=pure x:=by intro _;rfl):PU X (.ListComp elt [⟨tg,iter,ifs,0⟩] scope pos) (jv wi g tc te k fr):=
 fun _ _ _ _ hN hxi hx hsw hfn=> Ei hN hxi hx hc S hi hg hf he hsw hs hfn
theorem xE(hc:X.calm=true)(S:bz X.env.scope X.N N' k fr scope)(hi:DF X H0 O0 iter t)(gd:GD X.K g dg)(hk:iJ g k)(hfr:fr.Nodup)
  (hg:∀fp C s H,PG (bF X scope N' fp C s H) tg g)(hf:∀fp C s H,eN (bF X scope N' fp C s H) ifs (cj X.K H0 O0 tc))(he:∀fp C s H,PE (bF X scope N' fp C s H) elt (up X.K H0 O0 te))
  (hs:∀x,foldedSetIterable iter X.env x=pure x:=by intro _;rfl):PU X (.ListComp elt [⟨tg,iter,ifs,0⟩] scope pos) (oj X.K H0 O0 (mJ t dg tc te k fr)):=
 (xD hc S (qf hi) hg hf he hs).imp fun σ H Q uu66=> by obtain⟨O,δ,Qd,w,q,kk⟩:=uu66;exact⟨O,δ,_,w,q,fun d v H1 uu67 s1 r1=> by
  obtain⟨xs,e,hz,q1⟩:=uu67
  subst e
  obtain⟨a,vs,rfl,hq,rr⟩:=r1.lst
  refine⟨a,rfl,⟨_,hq⟩,fun D hD=> kW (di.list hq) gd hfr (fun v _ H' R h=> hk fr σ v H' R h) (fun _ _ _ z=> z) (fun _ _ _ z=> z) (fun D H' hD s' o e=> s' _ _ e (cZ e hD)) rr (w.mono s1) (by rw [rr.length];exact hz) q1 (fun ds us p H' z s' hp r'=> kk ds us p H' z (s1.trans s') hp r') D hD⟩⟩
end
theorem jE{i:Nat}{x:Str}{e:Expr}{t:DA}{pos pos':Pos}(hN:X.N.Nodup)(hi:X.N[i]?=some x)(hx:gH X.env.scope x)(he:PU X e (oj X.K H0 O0 t))(hs:swapsWith e (some (.Name x pos')) pos.line X.env=pure true:=by rfl)(hf:X.fn x=true∨X.env.scope.names.lookup x=some .local:=by first | exact .inl rfl | exact .inr rfl | assumption):
  PS X (.Assign [.Name x pos'] e pos) (bP X.K H0 O0 (oi i (dL t))):=
 (he _ _ _ _ hN hi hx hs hf).imp fun D σ H ⟨O,δ,E,w,q,k1,k2,k3,k4⟩=> ⟨O,δ,_,w,q,fun ds vs p H1 q1 s1 hp r1=>
  k1 O _ _ _ q1 ((w.mono (s1.trans (ar.new hp))).set (.lst (.inl bu) (og w s1 hp) (r1.mono (ar.new hp)))) (.same (s1.trans (ar.new hp)))⟩
end
end L2
namespace L2
open PySem PySem.Spec PyProof.Rows PySem.W
section
variable {X:Cx} {H0:Hp} {O0:Ex}
def sg(ta:DA)(g:DG)(tc:DB)(te:DT)(k:Nat)(fr:List Nat):DA:=fun δ Q=> ta δ fun ds=> ∃i j:Int,ds=[.int i,.int j]∧-(2 ^ 62)≤i∧j - i < sizeLine∧i < 2 ^ 62∧-(2 ^ 62)≤j∧j < 2 ^ 62∧fw g tc te (eR k fr δ) (iI i (j - i).toNat) Q
section
variable {tg iter elt:Expr} {ifs:List Expr} {scope:Scope} {N':List Str} {k:Nat} {fr:List Nat} {g:TG} {dg:DG} {t:DT} {ta:DA} {tc:DB} {te:DT} {pos p ps:Pos}
theorem Fo(hc:X.calm=true){a b:Expr}(S:bz X.env.scope X.N N' k fr scope)(hgl:Gl X "range")(hm:X.mg "range"=none)(ha:PA X [a,b] (gR X.K H0 O0 ta))(gd:GD X.K g dg)(hk:iJ g k)(hfr:fr.Nodup)
  (hg:∀fp C s H,PG (bF X scope N' fp C s H) tg g)(hf:∀fp C s H,eN (bF X scope N' fp C s H) ifs (cj X.K H0 O0 tc))(he:∀fp C s H,PE (bF X scope N' fp C s H) elt (up X.K H0 O0 te))
  (hst:starEach [a,b] X.env=[(false,eval a X.env),(false,eval b X.env)]:=by rfl)(hst2:starEach [b] X.env=[(false,eval b X.env)]:=by rfl)(hs:∀x,foldedSetIterable (.Call (.Name "range" p) [a,b] [] ps) X.env x=pure x:=by intro _;rfl):
  FE X H0 O0 (.ListComp elt [⟨tg,(.Call (.Name "range" p) [a,b] [] ps),ifs,0⟩] scope pos) (sg ta dg tc te k fr):=
 (mw hc S (qj hgl hm ha hst hst2) hg hf he hs).imp fun σ H Q uu69=> by obtain⟨O,δ,Qd,w,q,kk⟩:=uu69;exact⟨O,δ,_,w,q,fun ds vs H1 uu70 s1 r1=> by
  obtain⟨i,j,e,b1,b2,b3,b4,b5,q1⟩:=uu70
  subst e
  cases r1 with
  | cons r1 r2=>
   cases r2 with
   | cons r2 r3=>
    cases r3
    cases r1.int
    cases r2.int
    exact⟨i,j,rfl,⟨b1,b3,b4,b5⟩,fun D hD=> kW (P:=fun _=> True) di.rng gd hfr (fun v _ H' R h=> hk fr σ v H' R h) (fun _ _ _ z=> z) (fun _ _ _ z=> z) (fun _ _ _ _=> trivial) (aj.rng _) (w.mono s1) (by rw [Kd,MS];omega) q1 (fun ds us p H' z s' hp r'=> kk ds us p H' z (s1.trans s') hp r') D hD⟩⟩
end
def sj(K:Kb)(neg:Bool):R2:=fun x y H Q=> ∃O dx ds dy,Sh K H O x dx∧Sh K H O y dy∧(dy= .list ds∨dy= .tuple ds)∧dQ dx∧Lo ds=true∧Q (.bl (if neg then !(ds.any fun d=> KC d dx) else ds.any fun d=> KC d dx)) H
theorem oK{A:Around}{k:Nat}{xs:List PyData}{d:PyData}(hd:dQ d)(hr:bB k A):A.units+1+min (Nb xs) d.depth < cLine:=by
 have:=SeqAt.depth_of_shaped hd
 have h1:min (Nb xs) d.depth≤d.depth:=P1 _ _
 have:=hr.un
 omega
theorem oM{k:Nat}(hr:bB k X.A):bS X (compareOp .In) (sj X.K false):=by
 intro pins s σ H x y v u Q I rx ry h
 obtain⟨O,dx,ds,dy,hx,hy,e,sx,sy,q⟩:=h
 obtain⟨as,ra⟩:=fW I hx.all (Lh sx) rx
 rcases e with e | e <;> subst e
 ·obtain⟨bs,rb⟩:=fW I hy.all (by simpa [K4] using sy) ry
  exact SeqAt.in_list_reads rb ra sy (Lh sx) (oK sx hr) (bE I q rfl)
 ·obtain⟨bs,rb⟩:=fW I hy.all (by simpa [K4] using sy) ry
  exact SeqAt.in_tuple_reads rb ra sy (Lh sx) (oK sx hr) (bE I q rfl)
theorem xF{k:Nat}(hr:bB k X.A):bS X (compareOp .NotIn) (sj X.K true):=by
 intro pins s σ H x y v u Q I rx ry h
 obtain⟨O,dx,ds,dy,hx,hy,e,sx,sy,q⟩:=h
 obtain⟨as,ra⟩:=fW I hx.all (Lh sx) rx
 rcases e with e | e <;> subst e
 ·obtain⟨bs,rb⟩:=fW I hy.all (by simpa [K4] using sy) ry
  exact SeqAt.notIn_list_reads rb ra sy (Lh sx) (oK sx hr) (bE I q rfl)
 ·obtain⟨bs,rb⟩:=fW I hy.all (by simpa [K4] using sy) ry
  exact SeqAt.notIn_tuple_reads rb ra sy (Lh sx) (oK sx hr) (bE I q rfl)
def mT(neg:Bool):PyData→PyData→(PyData→Prop)→Prop:=fun x y Q=> ∃ds,(y= .list ds∨y= .tuple ds)∧dQ x∧Lo ds=true∧Q (.bool (if neg then !(ds.any fun d=> KC d x) else ds.any fun d=> KC d x))
theorem lq{K:Kb}{neg:Bool}:cM K (sj K neg) (mT neg):=fun H O x y dx dy Qd R _ hx hy uu71 k=> by obtain⟨ds,e,a,b,q⟩:=uu71;exact⟨O,dx,ds,dy,hx,hy,e,a,b,k _ _ H q (ar.refl _) (.bl _)⟩
def sk:List PyData→(PyData→Prop)→Prop:=fun ds Q=> ∃z:Str,ds=[.str z]∧z.length≤sizeLine∧Q (.int z.length)
theorem Fp{K:Kb}:iH K (fun xs H Q=> ∃z,xs=[.str z]∧z.length≤sizeLine∧Q (.int z.length) H) sk:=fun H O xs ds Qd R _ hs uu72 k=> by
 obtain⟨z,e,hz,q⟩:=uu72
 subst e
 cases hs with
 | cons h r=> cases r;cases h.str;exact⟨z,rfl,hz,k _ _ H q (ar.refl _) (.int _)⟩
theorem Fq{prog:Program}{w:World}{A:Around}{E:Value→Shared→Prop}{s:Shared}{t sl:Addr}{items:Array Value}{vl vu:Value}{lo hi:Option Int}{Q:Value→Shared→Prop}(ht:IsTup s.heap t items)(hs:s.heap.IsSliceOf sl vl vu .none)(pl:IsPart vl lo)(pu:IsPart vu hi)
  (hw:HT.sIx items.size 0 lo=0∧HT.sIx items.size items.size hi=items.size)(h:Q (.ref t) s):wpAny (model prog w) A (getItem (.ref t) (.ref sl)) Q E s:=by
 obtain⟨os,hos,hcs,hds⟩:=id hs
 have hTs:s.TypeIs (.ref sl) "slice":=⟨os,hos,hcs⟩
 unfold getItem
 try with_reducible refine wpAny_holding ?_
 first | refine wpAny_bind (wpAny_pure ?_) | skip
 refine wpAny_bind (wpAny_sequenceKey ht.typeIs (by decide) ?_)
 refine wpAny_bind (wpAny_callSpecial?_slot (name:=Ka "__getitem__") ht.typeIs L8
  (wpAny_call_entry L8 ht.typeIs PyProof.Rows.entry_tuple_getitem ?_ (PyProof.Rows.args_tuple_getitem _ _)))
 show wpAny _ _ (N3 (.ref t) >>=_) _ _ s
 refine wpAny_bind (tupleItemsOf_ ht ?_)
 refine wpAny_bind (wpAny_typeOf hTs ?_)
 rw [if_pos (by decide)]
 refine wpAny_bind (HT.sliceApplied_gen hs pl pu ?_)
 show wpAny _ _ (if (((HT.sIx items.size 0 lo:Nat):Int)==0 && (1:Int)==1 && (HT.sIx items.size items.size hi - HT.sIx items.size 0 lo)==items.size)=true then _ else _) _ _ s
 rw [if_pos (by rw [hw.1,hw.2];simp)]
 unfold Builtin.Tuple.tupleIsExact
 refine wpAny_bind (wpAny_bind (wpAny_typeOf ht.typeIs (wpAny_pure ?_)))
 rw [if_pos (by decide)]
 exact wpAny_bind (wpAny_rule (wpAny_pure ⟨_,rfl,wpAny_pure h⟩))
def Fs(K:Kb):V→Option Int→Option Int→Hp→VK→Prop:=fun x lo hi H Q=> ∃a xs,x= .ref a∧bw K H a xs∧
 ((HT.sIx xs.length 0 lo=0∧HT.sIx xs.length xs.length hi=xs.length)→Q x H)∧(¬(HT.sIx xs.length 0 lo=0∧HT.sIx xs.length xs.length hi=xs.length)→∀p,H p=none→Q (.ref p) (au H p (.tup (iD xs lo hi))))
theorem Ft:mr X (Fs X.K):=by
 intro pins s σ H x v vl vu lo hi sl Q I rx hs pl pu h
 obtain⟨a,xs,rfl,hx,q1,q2⟩:=h
 by_cases hw:HT.sIx xs.length 0 lo=0∧HT.sIx xs.length xs.length hi=xs.length
 ·cases rx
  obtain⟨its,r,ht,hz⟩:=I.tuple hx
  have hlen:its.toArray.size=xs.length:=by rw [Kt];exact r.length.symm
  refine⟨"tuple",_,L8.lookup,ht.typeIs,?_⟩
  exact Fq ht hs pl pu (by rw [hlen];exact hw) ⟨.ref a,H,I,rfl,q1 hw⟩
 ·exact DQ pins s σ H _ v vl vu lo hi sl Q I rx hs pl pu ⟨a,xs,rfl,hx,hw,q2 hw⟩
theorem Fv{xs:List PyData}{l u:Option Int}(h:HT.sIx xs.length 0 l=0∧HT.sIx xs.length xs.length u=xs.length):cf xs l u=xs:=by
 unfold cf;rw [h.1,h.2];simp
def sq(t:DT)(tl th:DO):DT:=fun δ Q=> t δ fun d=> tl δ fun l=> th δ fun u=> ∃xs,d= .tuple xs∧Q (.tuple (cf xs l u))
theorem oN{e:Expr}{lo hi:Option Expr}{t:DT}{tl th:DO}{pos p2:Pos}(h:DF X H0 O0 e t)(hl:PO X lo (gW X.K H0 O0 tl))(hu:PO X hi (gW X.K H0 O0 th)):DE X H0 O0 (.Subscript e (.Slice lo hi none p2) pos) (sq t tl th):=
 (nY Ft h hl hu).imp fun σ H Q ⟨O,δ,Qd,w,q,k⟩=> ⟨O,δ,_,w,q,fun d v H1 q1 s1 r1=> ⟨O,δ,_,w.mono s1,q1,fun l H2 q2 s2=> ⟨O,δ,_,w.mono (s1.trans s2),q2,fun u H3 uu74 s3=> by
  obtain⟨xs,e,q3⟩:=uu74
  subst e
  have r3:=r1.mono (s2.trans s3)
  have r4:=r3
  obtain⟨a,vs,rfl,h1,d1⟩:=r4.tup
  refine⟨a,vs,rfl,h1,fun hw=> ?_,fun _ p hp=> k _ _ _ q3 (s1.trans (s2.trans (s3.trans (ar.new hp)))) (.tup (.inl bu) (og w (s1.trans (s2.trans s3)) hp) ((d1.cut l u).mono (ar.new hp)))⟩
  rw [d1.length] at hw
  rw [Fv hw] at q3
  cases r3 with
  | dt r3=> exact k _ _ _ q3 (s1.trans (s2.trans s3)) r3⟩⟩⟩
def cP(a b:Str):Bool:=decide (a.cps.toList≤b.cps.toList)
def cC(l:List Str):List Str:=l.mergeSort cP
theorem xG(a b c:Str)(h:cP a b=true)(h':cP b c=true):cP a c=true:=
 decide_eq_true (List.le_trans (of_decide_eq_true h) (of_decide_eq_true h'))
theorem Fw(a b:Str):(cP a b || cP b a)=true:=by
 rcases List.le_total a.cps.toList b.cps.toList with h | h
 ·unfold cP;rw [decide_eq_true h];rfl
 ·unfold cP;rw [decide_eq_true h,Bool.or_true]
theorem xH{a b:Str}(h:a.cps.toList=b.cps.toList):a=b:=by
 cases a;cases b;congr 1;exact Array.ext' h
theorem xI{a b:Str}(h:cP a b=true)(h':cP b a=true):a=b:=xH (P4 (of_decide_eq_true h) (of_decide_eq_true h'))
theorem fx(l:List Str):(cC l).Perm l:=List.mergeSort_perm l cP
theorem sr(l:List Str):(cC l).Pairwise fun a b=> cP a b=true:=List.pairwise_mergeSort xG Fw l
theorem su{l m:List Str}(h:m.Perm l)(p:m.Pairwise fun a b=> cP a b=true):m=cC l:=
 List.Perm.eq_of_pairwise (fun a b _ _ x y=> xI x y) p (sr l) (h.trans (fx l).symm)
theorem xJ:∀(p:Str)(l:List Str),risingS p l=true→(p::l).Pairwise fun a b=> cP a b=true
 | p,[],_=> by simp
 | p,x::r,h=> by
  rw [risingS,Lf,Nu,ltCps_eq,decide_eq_false_iff_not] at h
  have h1:cP p x=true:=decide_eq_true (PY.mp h.1)
  have h2:=xJ x r h.2
  rw [Lr]
  refine⟨fun y hy=> ?_,h2⟩
  rcases Kz.mp hy with z | z
  ·rw [z];exact h1
  ·exact xG p x y h1 ((Lr.mp h2).1 y z)
theorem sC:∀(l:List Str),sortedS l=true→l.Pairwise fun a b=> cP a b=true
 | [],_=> .nil
 | x::r,h=> xJ x r h
theorem sE:∀{ys:List Str}{us:List Value},aF (ys.map V.str) us→StrsAre us ys:=by
 intro ys
 induction ys with
 | nil=> intro us rv;cases rv;exact .nil
 | cons y ys ih=>
  intro us rv
  rw [Kj] at rv
  cases rv with
  | cons r1 r2=> obtain⟨t,rfl⟩:=r1;exact .cons y t (ih r2)
theorem oO:∀{ys:List Str}{us:List Value},StrsAre us ys→aF (ys.map V.str) us
 | _,_,.nil=> .nil
 | _,_,.cons y t r=> .cons ⟨t,rfl⟩ (oO r)
theorem Fx:dO X (.builtin "sorted") (fun xs H Q=> ∃p ss,xs=[.ref p]∧aX X.K H p (ss.map V.str)∧ss.length < 64∧∀l,H l=none→Q (.ref l) (au H l (.lst ((cC ss).map V.str)))):=by
 intro pins s σ H xs us Q I r h
 obtain⟨p,ss,rfl,hq,h64,q⟩:=h
 obtain⟨u,rfl,rx⟩:=dY r
 cases rx
 obtain⟨its,rv,pl,hz⟩:=I.list hq
 have hlen:=rv.length
 rw [Kd] at hlen
 refine sorted_strs pl.isList (sE rv) (by omega) fun out ss' a1 a2 a3=> ?_
 obtain⟨e,he⟩:=sortedAll_at s.heap its out
 have es:ss'=cC ss:=su a2 (sC _ a3)
 subst es
 have hl2:(cC ss).length=ss.length:=a2.length_eq
 refine⟨.ref _,_,I.laid (t':=s.toks) (o:= .lst ((cC ss).map V.str)) (fun b ob q=> sortedAll_old q) (M7 _) ?_,rfl,q _ (I.hok.fresh (M7 _))⟩
 refine⟨by rw [Kd,hl2];exact KS (Mz h64) (by decide),out.toList,e,oO a1,?_⟩
 rw [he]
theorem aj.strs{K:Kb}{H:Hp}{O:Ex}:∀{ss:List Str}{vs:List V},aj K H O vs (ss.map Kf)→vs=ss.map V.str
 | [],_,r=> by rw [Ly] at r;cases r;rfl
 | b::bs,_,r=> by
  rw [Kj] at r
  cases r with
  | cons h r=> cases h;rw [Kj,aj.strs r]
theorem aj.ofStrs{K:Kb}{H:Hp}{O:Ex}:∀(ss:List Str),aj K H O (ss.map V.str) (ss.map Kf)
 | []=> .nil
 | s::r=> .cons (.str s) (aj.ofStrs r)
def sF(t:DA):DA:=fun δ Q=> t δ fun ds=> ∃ss:List Str,ds=[.list (ss.map .str)]∧ss.length < 64∧Q ((cC ss).map .str)
theorem Fy{a:Expr}{t:DA}{np p:Pos}(hg:Gl X "sorted")(hm:X.mg "sorted"=none)(hv:bootBuiltins "sorted"=some (.builtin "sorted"))(ha:PA X [a] (gR X.K H0 O0 t))(he:starEach [a] X.env=(false,eval a X.env)::starEach [] X.env:=by rfl)(hpl:(backTo p (starEach [] X.env)).any (·.1)=false:=by rfl):FE X H0 O0 (.Call (.Name "sorted" np) [a] [] p) (sF t):=
 (bW Fx hg hm hv ha (he:=he) (hpl:=hpl)).imp fun σ H Q uu75=> by obtain⟨O,δ,Qd,w,q,k⟩:=uu75;exact⟨O,δ,_,w,q,fun ds vs H1 uu76 s1 r1=> by
  obtain⟨ss,e,h64,q1⟩:=uu76
  subst e
  cases r1 with
  | cons h r=>
   cases r
   obtain⟨a,us,rfl,h1,d1⟩:=h.lst
   cases d1.strs
   exact⟨a,ss,rfl,h1,h64,fun l hl=> k _ _ _ _ q1 s1 hl (aj.ofStrs _)⟩⟩
end
end L2
namespace PySem.SeqAt
open AutoSeq1 (wpAny_loadPart')
open MeetsSeq
theorem xK(l:Addr)(es:Array DictEntry)(n:Nat)(dd:Option Addr)(sl:Array (Option Value))(b:Str)(u:Tok):
  Meets (Builtin.«dict.__eq__» ⟨[.ref l,.str b u],[]⟩) (fun _ R s=> s.heap.get? l=some {cls:= .type "dict",dict:=dd,data:= .dict es n,slots:=sl}∧R (.ok (.ret .notImplemented)) s):=
 .of_wp fun prog w A R s h=> by obtain⟨hp,g,d,tk,os⟩:=s;obtain⟨hl,h⟩:=h;have f1:=F.sub_str_dict;wp_walk using wpAny_loadPart' hl;exact⟨_,rfl,h⟩
theorem xM(b:Str)(u:Tok)(l:Addr)(c:Value)(es:Array DictEntry)(n:Nat)(dd:Option Addr)(sl:Array (Option Value)):
  Meets (Builtin.«str.__eq__» ⟨[.str b u,.ref l],[]⟩) (fun _ R s=> s.heap.get? l=some {cls:=c,dict:=dd,data:= .dict es n,slots:=sl}∧R (.ok (.ret .notImplemented)) s):=
 .of_wp fun prog w A R s h=> by obtain⟨hp,g,d,tk,os⟩:=s;obtain⟨hl,h⟩:=h;wp_walk using wpAny_loadPart' hl,wpAny_load hl;exact⟨_,rfl,h⟩
section
variable {A:Around} {s:Shared}
theorem RcAt.dict_str{l:Addr}{es:Array DictEntry}{n:Nat}{o:Obj}(b:Str)(u:Tok)(ho:s.heap.get? l=some o)(hc:o.cls= .type "dict")(hd:o.data= .dict es n)(hu:A.units < cLine):RcAt A s (.ref l) (.str b u) false:=fun prog w E Q h=> by
 obtain⟨cls,dd,data,sl⟩:=o
 simp only at hc hd
 subst hc hd
 exact rc_eq_decline_or (k:=false) ⟨_,ho,rfl⟩ (typeIs_str s b u) (by decide) F.sub_str_dict F.slot_dict_eq F.slot_str_eq_refl
  (fun _ hq=> call_meets F.slot_dict_eq ⟨_,ho,rfl⟩ F.entry_dict_eq (F.args_dict_eq_2 _ _) (xK l es n dd sl b u) ⟨ho,hq⟩)
  (fun _ hq=> call_meets F.slot_str_eq_refl (typeIs_str s b u) F.entry_str_eq (F.args_str_eq_2 _ _) (xM b u l (.type "dict") es n dd sl) ⟨ho,hq⟩)
  (fun _ hq=> wpAny_of_eq (rfl:isSame (.ref l) (.str b u)=pure false) hq) (.inr hu) h
theorem RcAt.str_dict{l:Addr}{es:Array DictEntry}{n:Nat}{o:Obj}(b:Str)(u:Tok)(ho:s.heap.get? l=some o)(hc:o.cls= .type "dict")(hd:o.data= .dict es n)(hu:A.units < cLine):RcAt A s (.str b u) (.ref l) false:=fun prog w E Q h=> by
 obtain⟨cls,dd,data,sl⟩:=o
 simp only at hc hd
 subst hc hd
 exact rc_eq_decline_or (k:=false) (typeIs_str s b u) ⟨_,ho,rfl⟩ (by decide) F.sub_dict_str F.slot_str_eq F.slot_dict_eq_refl
  (fun _ hq=> call_meets F.slot_str_eq (typeIs_str s b u) F.entry_str_eq (F.args_str_eq_2 _ _) (xM b u l (.type "dict") es n dd sl) ⟨ho,hq⟩)
  (fun _ hq=> call_meets F.slot_dict_eq_refl ⟨_,ho,rfl⟩ F.entry_dict_eq (F.args_dict_eq_2 _ _) (xK l es n dd sl b u) ⟨ho,hq⟩)
  (fun _ hq=> wpAny_of_eq (rfl:isSame (.str b u) (.ref l)=pure false) hq) (.inr hu) h
theorem EqAt.str_dict{l:Addr}{es:Array DictEntry}{n:Nat}{o:Obj}(b:Str)(u:Tok)(ho:s.heap.get? l=some o)(hc:o.cls= .type "dict")(hd:o.data= .dict es n)(hu:A.units < cLine):EqAt A s (.str b u) (.ref l) false:=fun prog w E Q h=> by
 unfold eqBool
 refine wpAny_holding ?_
 refine wpAny_ite_split (fun hab=> absurd (eq_of_beq hab) nofun) (fun _=> ?_)
 exact wpAny_bind (RcAt.str_dict b u ho hc hd hu prog w E _ (wpAny_truthy_bool h))
end
end PySem.SeqAt
namespace L2
open PySem PySem.Spec PyProof.Rows PySem.W
section
variable {X:Cx} {pins:List (Addr×Obj)} {σ:St} {H:Hp} {s:Shared}
def dE:PyData→Bool
 | .dict [(.none,_)]=> false
 | _=> true
theorem Fz(I:af X pins σ H s){O:Ex}{v:V}{d:PyData}{u:Value}(h:Dt X.K H O v d)(ht:dE d=true)(r:aE v u)(y:Str)(t:Tok)(hu:X.A.units < cLine):SeqAt.RcAt X.A s u (.str y t) (KC d (.str y)):=by
 cases h with
 | non=> cases (show u=Mm from r);simpa [KC] using SeqAt.RcAt.none_str y t
 | bl b=> cases (show u=Mt b from r);simpa [KC] using SeqAt.RcAt.bool_str b y t
 | int i=> obtain⟨k,e⟩:=(show ∃t,u=MH i t from r);cases e;simpa [KC] using SeqAt.RcAt.int_str i k y t
 | str x=> obtain⟨k,e⟩:=(show ∃t,u=Me x t from r);cases e;simpa [KC] using SeqAt.RcAt.str_str x k y t
 | @tup a xs ds h n rr=>
  cases (show u=K6 a from r)
  obtain⟨its,rv,p,_⟩:=I.tuple (.inl h)
  simpa [KC] using O3 y t (show s.heap.IsTuple a its.toArray from p) hu
 | @tupK a xs ds h rr=>
  cases (show u=K6 a from r)
  obtain⟨its,rv,p,_⟩:=I.tuple h.of0
  simpa [KC] using O3 y t (show s.heap.IsTuple a its.toArray from p) hu
 | @lst a xs ds h n rr=>
  cases (show u=K6 a from r)
  obtain⟨its,rv,p,_⟩:=I.list (.inl h)
  simpa [KC] using SeqAt.RcAt.list_str y t p.isList hu
 | pack h n=> exact absurd ht (by simp [dE])
 | purse h n=> exact absurd ht (by simp [dE])
 | scr h r=> exact absurd ht (by simp [dE])
 | obj h e n r=> exact absurd ht (by simp [dE])
 | @dct0 a h n=>
  cases (show u=K6 a from r)
  obtain⟨_,_,_,_,o,es,ep,e,c,dd,_⟩:=(show cg X.prog X.w H s.heap a (.dK []) from I.hok a _ h)
  simpa [KC] using SeqAt.RcAt.dict_str y t e c.1 dd hu
 | @dic a kv ks kp ds h e1 e2 n rr=>
  cases (show u=K6 a from r)
  obtain⟨_,_,_,_,o,es,ep,e,c,dd,_⟩:=(show cg X.prog X.w H s.heap a (.dK kv) from I.hok a _ h)
  simpa [KC] using SeqAt.RcAt.dict_str y t e c.1 dd hu
theorem FA(I:af X pins σ H s){A:Around}{O:Ex}{v:V}{d:PyData}{u:Value}(h:Dt X.K H O v d)(ht:dE d=true)(r:aE v u)(y:Str)(t:Tok)(hu:A.units < cLine):SeqAt.EqAt A s (.str y t) u (KC (.str y) d):=by
 cases h with
 | non=> cases (show u=Mm from r);simpa [KC] using SeqAt.EqAt.str_none y t
 | bl b=> cases (show u=Mt b from r);simpa [KC] using SeqAt.EqAt.str_bool y t b
 | int i=> obtain⟨k,e⟩:=(show ∃t,u=MH i t from r);cases e;simpa [KC] using Pj y t i k
 | str x=> obtain⟨k,e⟩:=(show ∃t,u=Me x t from r);cases e;simpa [KC] using SeqAt.EqAt.str_str y t x k
 | @tup a xs ds h n rr=>
  cases (show u=K6 a from r)
  obtain⟨its,rv,p,_⟩:=I.tuple (.inl h)
  simpa [KC] using O4 y t (show s.heap.IsTuple a its.toArray from p) hu
 | @tupK a xs ds h rr=>
  cases (show u=K6 a from r)
  obtain⟨its,rv,p,_⟩:=I.tuple h.of0
  simpa [KC] using O4 y t (show s.heap.IsTuple a its.toArray from p) hu
 | @lst a xs ds h n rr=>
  cases (show u=K6 a from r)
  obtain⟨its,rv,p,_⟩:=I.list (.inl h)
  simpa [KC] using SeqAt.EqAt.str_list y t p.isList hu
 | pack h n=> exact absurd ht (by simp [dE])
 | purse h n=> exact absurd ht (by simp [dE])
 | scr h r=> exact absurd ht (by simp [dE])
 | obj h e n r=> exact absurd ht (by simp [dE])
 | @dct0 a h n=>
  cases (show u=K6 a from r)
  obtain⟨_,_,_,_,o,es,ep,e,c,dd,_⟩:=(show cg X.prog X.w H s.heap a (.dK []) from I.hok a _ h)
  simpa [KC] using SeqAt.EqAt.str_dict y t e c.1 dd hu
 | @dic a kv ks kp ds h e1 e2 n rr=>
  cases (show u=K6 a from r)
  obtain⟨_,_,_,_,o,es,ep,e,c,dd,_⟩:=(show cg X.prog X.w H s.heap a (.dK kv) from I.hok a _ h)
  simpa [KC] using SeqAt.EqAt.str_dict y t e c.1 dd hu
end
section
variable {X:Cx} {H0:Hp} {O0:Ex}
def xN(K:Kb):R2:=fun x y H Q=> ∃O dx z,Dt K H O x dx∧dE dx=true∧y= .str z∧Q (.bl (KC dx (.str z))) H
theorem dF{k:Nat}(hr:bB k X.A):bS X (compareOp .Eq) (xN X.K):=by
 intro pins s σ H x y v u Q I rx ry h
 obtain⟨O,dx,z,hx,ht,rfl,q⟩:=h
 obtain⟨t,rfl⟩:=ry
 have hc:compareOp .Eq v (.str z t)=richCompare .Eq v (.str z t):=rfl
 rw [hc]
 exact Fz I hx ht rx z t hr.units0 X.prog X.w X.xe _ (bE I q rfl)
def mU:PyData→PyData→(PyData→Prop)→Prop:=fun x y Q=> ∃z,y= .str z∧dE x=true∧Q (.bool (KC x (.str z)))
theorem dG{K:Kb}:cM K (xN K) mU:=fun H O x y dx dy Qd R _ hx hy uu77 k=> by
 obtain⟨z,e,ht,q⟩:=uu77
 subst e;cases hy.str;exact⟨_,dx,z,hx.all,ht,rfl,k _ _ H q (ar.refl _) (.bl _)⟩
theorem FC(dx:PyData){its:List Value}{zs:List Str}(hS:StrsAre its zs):its.any (fun y=> KC (.str (strOf y)) dx)=zs.any fun z=> KC (.str z) dx:=by
 induction hS with
 | nil=> rfl
 | cons y t r ih=> rw [LS,LS,ih];rfl
def xO(K:Kb):R2:=fun x y H Q=> ∃(O:Ex)(dx:PyData)(zs:List Str)(a:Addr),Dt K H O x dx∧dE dx=true∧y= .ref a∧bw K H a (zs.map V.str)∧Q (.bl (zs.any fun z=> KC (.str z) dx)) H
theorem mV{k:Nat}(hr:bB k X.A):bS X (compareOp .In) (xO X.K):=by
 intro pins s σ H x y v u Q I rx ry h
 obtain⟨O,dx,zs,a,hx,ht,rfl,ha,q⟩:=h
 cases ry
 obtain⟨its,rv,p,_⟩:=I.tuple ha
 have hS:=sE rv
 have hl:=FC dx hS
 refine SeqAt.in_tupleAt (fun y=> KC (.str (strOf y)) dx) (show s.heap.IsTuple a its.toArray from p) (fun y hy=> ?_) (by rw [List.any_toArray,hl];exact bE I q rfl)
 obtain⟨z,t,rfl⟩:=hS.all y (by simpa using hy)
 exact FA I hx ht rx z t (by show X.A.units+1 < cLine;have:=hr.un;omega)
def sG:PyData→PyData→(PyData→Prop)→Prop:=fun x y Q=> ∃zs:List Str,y= .tuple (zs.map .str)∧dE x=true∧Q (.bool (zs.any fun z=> KC (.str z) x))
theorem mW{K:Kb}:cM K (xO K) sG:=fun H O x y dx dy Qd R _ hx hy uu78 k=> by
 obtain⟨zs,e,ht,q⟩:=uu78
 subst e
 obtain⟨a,vs,rfl,hs,r⟩:=hy.tup
 cases r.strs
 exact⟨_,dx,zs,a,hx.all,ht,rfl,hs,k _ _ H q (ar.refl _) (.bl _)⟩
end
end L2
namespace L2
open PySem
theorem xP{z:Int}{Q:PyData→Prop}:EN [qG,.int z] Q↔(0 < z∧z≤1000000∧∀i:Int,0≤i→i < z→Q (.int i)):=by
 constructor
 ·rintro⟨z',e,a,b,c⟩
  simp only [LB,M3,and_true,true_and] at e
  subst e;exact⟨a,b,c⟩
 ·rintro⟨a,b,c⟩;exact⟨z,rfl,a,b,c⟩
end L2
namespace L2
open PySem PySem.Spec PyProof.Rows PySem.W
theorem xQ{g:DG}{te:DT}{δ0:Dl}{xs:List PyData}{Q:List PyData→Prop}(f:PyData→PyData)
  (h:∀x∈xs,∀R:PyData→Prop,R (f x)→g x δ0 fun δ2=> te δ2 R)(q:Q (xs.map f)):fw g jy te δ0 xs Q:=by
 refine⟨fun i acc=> acc=(xs.take i).map f,rfl,?_,?_⟩
 ·rintro i x acc hx rfl
  have:=h x (KW hx) (fun y=> (xs.take i).map f++[y]=(xs.take (i+1)).map f) (by rw [Lv,hx];simp)
  simpa [jy] using this
 ·rintro acc rfl
  rw [Lc (Kk _)];exact q
theorem FD{g:DG}{tc:DB}{te:DT}{δ0:Dl}{xs:List PyData}{Q:List PyData→Prop}(f:PyData→Option PyData)
  (h:∀x∈xs,∀(R:PyData→Prop) (S:Prop),(match f x with | some y=> R y | none=> S)→g x δ0 fun δ2=> tc δ2 fun ok=> if ok=true then te δ2 R else S)(q:Q (xs.filterMap f)):fw g tc te δ0 xs Q:=by
 refine⟨fun i acc=> acc=(xs.take i).filterMap f,rfl,?_,?_⟩
 ·rintro i x acc hx rfl
  refine h x (KW hx) (fun y=> (xs.take i).filterMap f++[y]=(xs.take (i+1)).filterMap f) ((xs.take i).filterMap f=(xs.take (i+1)).filterMap f) ?_
  rw [Lv,hx]
  cases e:f x with
  | none=> simp [e]
  | some y=> simp [e]
 ·rintro acc rfl
  rw [Lc (Kk _)];exact q
theorem xR{a:Str}{P:List Str→Prop}:(∃zs,[Kf a]=KO Kf zs∧P zs)↔P [a]:=by
 refine⟨fun⟨zs,e,h⟩=> ?_,fun h=> ⟨_,rfl,h⟩⟩
 match zs,e with
 | [x],e=> simp at e;rw [e];exact h
theorem xS{a b:Str}{P:List Str→Prop}:(∃zs,[Kf a,Kf b]=KO Kf zs∧P zs)↔P [a,b]:=by
 refine⟨fun⟨zs,e,h⟩=> ?_,fun h=> ⟨_,rfl,h⟩⟩
 match zs,e with
 | [x,y],e=> simp at e;rw [e.1,e.2];exact h
theorem xT{a b c:Str}{P:List Str→Prop}:(∃zs,[Kf a,Kf b,Kf c]=KO Kf zs∧P zs)↔P [a,b,c]:=by
 refine⟨fun⟨zs,e,h⟩=> ?_,fun h=> ⟨_,rfl,h⟩⟩
 match zs,e with
 | [x,y,z],e=> simp at e;rw [e.1,e.2.1,e.2.2];exact h
theorem xU{x:Str}:dE (.str x)=true:=rfl
theorem xV{x:Int}:dE (.int x)=true:=rfl
theorem xW{x:Bool}:dE (.bool x)=true:=rfl
theorem xX{x:List PyData}:dE (.tuple x)=true:=rfl
theorem xY{x:List PyData}:dE (.list x)=true:=rfl
end L2
namespace L2
open PySem PySem.Spec PyProof.Rows PySem.W
def units:List Str:=["days","months","years"]
theorem cV{n:Nat}:∀d∈([]:List PyData),bU n d:=fun d hd=> by simp at hd
theorem aR{n:Nat}{d:PyData}{r:List PyData}(h:bU n d)(hr:∀e∈r,bU n e):∀e∈d::r,bU n e:=fun e he=> by
 rcases Kz.mp he with z | z
 ·rw [z];exact h
 ·exact hr e z
theorem bK{n:Nat}{x:Str}(h:Kr x=true)(hn:1≤n:=by decide):bU n (.str x):=(oI h).mono hn
theorem gg{n:Nat}{x:Int}(hn:1≤n:=by decide):bU n (.int x):=xC.mono hn
theorem FF{n:Nat}{x:Bool}(hn:1≤n:=by decide):bU n (.bool x):=Fn.mono hn
theorem mX{n:Nat}{ms:List Str}(h:∀m∈ms,Kr m=true)(hn:1≤n:=by decide):∀d∈ms.map Kf,bU n d:=fun d hd=> by
 obtain⟨m,hm,rfl⟩:=Ky.mp hd
 exact(oI (h m hm)).mono hn
theorem xZ{a:PyData}{l:List PyData}:cf (a::l) (some 1) none=l:=by
 rw [oE (by decide) (by simp only [Kw];omega)];rfl
theorem x4{a b:PyData}{l:List PyData}:cf (a::b::l) (some 2) none=l:=by
 rw [oE (by decide) (by simp only [Kw];omega)];rfl
theorem x5{a b c:PyData}{l:List PyData}:cf (a::b::c::l) (some 3) none=l:=by
 rw [oE (by decide) (by simp only [Kw];omega)];rfl
theorem x6{a b c d:PyData}{l:List PyData}:cf (a::b::c::d::l) (some 4) none=l:=by
 rw [oE (by decide) (by simp only [Kw];omega)];rfl
theorem x8{a:PyData}{l:List PyData}:cf (a::l) none (some 1)=[a]:=by
 rw [km (by decide) (by simp only [Kw];omega)];rfl
theorem x9{a b:PyData}{l:List PyData}:cf (a::b::l) none (some 2)=[a,b]:=by
 rw [km (by decide) (by simp only [Kw];omega)];rfl
theorem ya{a b c:PyData}{l:List PyData}:cf (a::b::c::l) none (some 3)=[a,b,c]:=by
 rw [km (by decide) (by simp only [Kw];omega)];rfl
theorem yf{a b c d:PyData}{l:List PyData}:cf (a::b::c::d::l) none (some 4)=[a,b,c,d]:=by
 rw [km (by decide) (by simp only [Kw];omega)];rfl
theorem yg{a b c:PyData}{l:List PyData}:cf (a::b::c::l) (some 1) (some 3)=[b,c]:=by
 unfold cf
 rw [oC (by decide) (by simp only [Kw];omega),oC (by decide) (by simp only [Kw];omega)]
 rfl
end L2
namespace PySem
open Builtin
open AutoSeq1 (wpAny_loadPart')
end PySem
namespace L2
open PySem PySem.Spec PyProof.Rows PySem.W
section
variable {X:Cx} {H0:Hp} {O0:Ex}
def sH(t:DT):DT:=fun δ Q=> t δ fun d=> ∃i,d= .int i∧Q (.int (-i))
theorem sI{e:Expr}{t:DT}{pos:Pos}(h:DE X H0 O0 e t):DE X H0 O0 (.UnaryOp .USub e pos) (sH t):=
 (C0 C3 h).imp fun σ H Q uu82=> by obtain⟨O,δ,Qd,w,q,k⟩:=uu82;exact⟨O,δ,_,w,q,fun d v H1 uu83 s1 r1=> by obtain⟨i,e,q1⟩:=uu83;subst e;cases r1;exact⟨i,rfl,k _ _ H1 q1 s1 (.int _)⟩⟩
end
section
variable {X:Cx} {H0:Hp} {O0:Ex}
end
theorem yh{xs:List PyData}:cf xs none (some (-1))=xs.dropLast:=by
 unfold cf
 rw [nX]
 have e:HT.sIx xs.length xs.length (some (-1))=xs.length - 1:=by
  simp only [HT.sIx]
  rw [if_pos (by decide)];omega
 rw [e,List.drop_zero,Nat.sub_zero,List.dropLast_eq_take]
section
variable {x:Option Expr} {n:Nat} {env:Env}
theorem FG{a b c}:swapsWith (.Tuple a b c) x n env=pure false:=rfl
theorem mY{a b c d}:swapsWith (.BinOp a b c d) x n env=pure false:=rfl
theorem g0{a b c d}:swapsWith (.Call a b c d) x n env=pure false:=rfl
theorem ku{a b c}:swapsWith (.Subscript a b c) x n env=pure false:=rfl
theorem yi{a b c}:swapsWith (.Dict a b c) x n env=pure false:=rfl
end
end L2
namespace L2
open PySem PySem.Spec PyProof.Rows PySem.W
section
variable {X:Cx} {H0:Hp} {O0:Ex}
end
section
variable {P:Program} {w:World} {K:Kb} {mg:Str→Option Value} {base:Heap}
end
section
variable {X:Cx} {H0:Hp} {O0:Ex}
end
theorem yj:(Ka "paper"==Ka "happens")=false:=by decide+kernel
theorem yk:(Ka "paper"==Ka "rule")=false:=by decide+kernel
theorem ym:(Ka "paper"==Ka "end")=false:=by decide+kernel
theorem yq:(Ka "paper"==Ka "hold")=false:=by decide+kernel
theorem yt:(Ka "paper"==Ka "lift")=false:=by decide+kernel
theorem yu:(Ka "paper"==Ka "leave")=false:=by decide+kernel
theorem yw:(Ka "happens"==Ka "paper")=false:=by decide+kernel
theorem yx:(Ka "happens"==Ka "rule")=false:=by decide+kernel
theorem yz:(Ka "happens"==Ka "end")=false:=by decide+kernel
theorem yA:(Ka "happens"==Ka "hold")=false:=by decide+kernel
theorem yB:(Ka "happens"==Ka "lift")=false:=by decide+kernel
theorem yC:(Ka "happens"==Ka "leave")=false:=by decide+kernel
theorem yD:(Ka "rule"==Ka "paper")=false:=by decide+kernel
theorem yE:(Ka "rule"==Ka "happens")=false:=by decide+kernel
theorem yF:(Ka "rule"==Ka "end")=false:=by decide+kernel
theorem yG:(Ka "rule"==Ka "hold")=false:=by decide+kernel
theorem yH:(Ka "rule"==Ka "lift")=false:=by decide+kernel
theorem yI:(Ka "rule"==Ka "leave")=false:=by decide+kernel
theorem yJ:(Ka "end"==Ka "paper")=false:=by decide+kernel
theorem yK:(Ka "end"==Ka "happens")=false:=by decide+kernel
theorem yL:(Ka "end"==Ka "rule")=false:=by decide+kernel
theorem yM:(Ka "end"==Ka "hold")=false:=by decide+kernel
theorem yN:(Ka "end"==Ka "lift")=false:=by decide+kernel
theorem yO:(Ka "end"==Ka "leave")=false:=by decide+kernel
theorem yP:(Ka "hold"==Ka "paper")=false:=by decide+kernel
theorem yQ:(Ka "hold"==Ka "happens")=false:=by decide+kernel
theorem yR:(Ka "hold"==Ka "rule")=false:=by decide+kernel
theorem yS:(Ka "hold"==Ka "end")=false:=by decide+kernel
theorem yT:(Ka "hold"==Ka "lift")=false:=by decide+kernel
theorem yU:(Ka "hold"==Ka "leave")=false:=by decide+kernel
theorem yV:(Ka "lift"==Ka "paper")=false:=by decide+kernel
theorem yW:(Ka "lift"==Ka "happens")=false:=by decide+kernel
theorem yX:(Ka "lift"==Ka "rule")=false:=by decide+kernel
theorem yY:(Ka "lift"==Ka "end")=false:=by decide+kernel
theorem yZ:(Ka "lift"==Ka "hold")=false:=by decide+kernel
theorem y3:(Ka "lift"==Ka "leave")=false:=by decide+kernel
theorem y4:(Ka "leave"==Ka "paper")=false:=by decide+kernel
theorem y6:(Ka "leave"==Ka "happens")=false:=by decide+kernel
theorem y8:(Ka "leave"==Ka "rule")=false:=by decide+kernel
theorem y9:(Ka "leave"==Ka "end")=false:=by decide+kernel
theorem za:(Ka "leave"==Ka "hold")=false:=by decide+kernel
theorem zb:(Ka "leave"==Ka "lift")=false:=by decide+kernel
end L2
namespace L2
open PySem PySem.Spec PyProof.Rows PySem.W
section
variable {X:Cx} {H0:Hp} {O0:Ex}
end
section
variable {X:Cx} {H0:Hp} {O0:Ex}
end
end L2
namespace L2
open PySem PySem.Spec PyProof.Rows PySem.W
section
variable {X:Cx} {H0:Hp} {O0:Ex}
def sJ:DS:=fun _ _=> False
theorem FH{st:Stmt}:PS X st (bP X.K H0 O0 sJ):=CP.imp fun D σ H uu84=> by obtain⟨O,δ,E,w,q,_⟩:=uu84;exact q.elim
end
end L2
namespace L2
open PySem PySem.Spec PyProof.Rows PySem.W
section
variable {α:Type} {P:α→Prop}
theorem zc{a:PyData}{r:Dl}{P:PyData→Prop}:(∃d,(some (Sl.v a)::r)[0]?=some (some (Sl.v d))∧P d)=P a:=by simp
theorem zd{x:Option Sl}{r:Dl}{i:Nat}{P:PyData→Prop}:(∃d,(x::r)[i+1]?=some (some (Sl.v d))∧P d)=(∃d,r[i]?=some (some (Sl.v d))∧P d):=by simp
theorem ze{a:PyData}{l:Dl}{i:Nat}{P:PyData→Prop}:(∃d,(l.set i (some (Sl.v a)))[i]?=some (some (Sl.v d))∧P d)=(i < l.length∧P a):=by
 apply propext
 rw [Np]
 constructor
 ·rintro⟨d,e,p⟩
  by_cases h:i < l.length
  ·rw [KI h] at e;cases e;exact⟨h,p⟩
  ·rw [LP (by omega)] at e;cases e
 ·rintro⟨h,p⟩
  exact⟨a,by rw [KI h];rfl,p⟩
theorem zf{x:Option Sl}{l:Dl}{i j:Nat}{P:PyData→Prop}(h:i≠j):(∃d,(l.set i x)[j]?=some (some (Sl.v d))∧P d)=(∃d,l[j]?=some (some (Sl.v d))∧P d):=by rw [KU h]
theorem zg{a:List PyData}{r:Dl}{P:List PyData→Prop}:(∃d,(some (Sl.o a)::r)[0]?=some (some (Sl.o d))∧P d)=P a:=by simp
theorem zh{x:Option Sl}{r:Dl}{i:Nat}{P:List PyData→Prop}:(∃d,(x::r)[i+1]?=some (some (Sl.o d))∧P d)=(∃d,r[i]?=some (some (Sl.o d))∧P d):=by simp
theorem zj{a:List PyData}{l:Dl}{i:Nat}{P:List PyData→Prop}:(∃d,(l.set i (some (Sl.o a)))[i]?=some (some (Sl.o d))∧P d)=(i < l.length∧P a):=by
 apply propext
 rw [Np]
 constructor
 ·rintro⟨d,e,p⟩
  by_cases h:i < l.length
  ·rw [KI h] at e;cases e;exact⟨h,p⟩
  ·rw [LP (by omega)] at e;cases e
 ·rintro⟨h,p⟩
  exact⟨a,by rw [KI h];rfl,p⟩
theorem zk{x:Option Sl}{l:Dl}{i j:Nat}{P:List PyData→Prop}(h:i≠j):(∃d,(l.set i x)[j]?=some (some (Sl.o d))∧P d)=(∃d,l[j]?=some (some (Sl.o d))∧P d):=by rw [KU h]
theorem zl{a:Bool}{P:Bool→Prop}:(∃b,Lq a= .bool b∧P b)=P a:=by simp
theorem zm{a:Int}{P:Int→Prop}:(∃b,Kh a= .int b∧P b)=P a:=by simp
theorem zo{a:Str}{P:Str→Prop}:(∃b,Kf a= .str b∧P b)=P a:=by simp
theorem zp{a:List PyData}{P:List PyData→Prop}:(∃b,KH a= .tuple b∧P b)=P a:=by simp
theorem zq{a:List PyData}{P:List PyData→Prop}:(∃b,Li a= .list b∧P b)=P a:=by simp
theorem zr{a b:Int}{P:Int→Int→Prop}:(∃i j,Kh a= .int i∧Kh b= .int j∧P i j)=P a b:=by simp
theorem zt{a b:Str}{P:Str→Str→Prop}:(∃i j,Kf a= .str i∧Kf b= .str j∧P i j)=P a b:=by simp
theorem zu{a b:List PyData}{P:List PyData→List PyData→Prop}:(∃i j,KH a= .tuple i∧KH b= .tuple j∧P i j)=P a b:=by simp
theorem zv{a b:List PyData}{P:List PyData→List PyData→Prop}:(∃i j,Li a= .list i∧Li b= .list j∧P i j)=P a b:=by simp
theorem zw{a:PyData}{r:List PyData}{P:PyData→List PyData→Prop}:(∃x y,a::r=x::y∧P x y)=P a r:=propext ⟨fun uu85=> by obtain⟨_,_,e,p⟩:=uu85;cases e;exact p,fun p=> ⟨_,_,rfl,p⟩⟩
theorem zx{a b:PyData}{P:PyData→PyData→Prop}:(∃x y,[a,b]=[x,y]∧P x y)=P a b:=propext ⟨fun uu86=> by obtain⟨_,_,e,p⟩:=uu86;cases e;exact p,fun p=> ⟨_,_,rfl,p⟩⟩
theorem zy{a:PyData}{r:List PyData}{P:PyData→Prop}:(∃ds i d,KH (a::r)= .tuple ds∧Kh 0= .int i∧atI ds i=some d∧P d)=P a:=by simp [cT]
theorem zz{a b:PyData}{r:List PyData}{P:PyData→Prop}:(∃ds i d,KH (a::b::r)= .tuple ds∧Kh 1= .int i∧atI ds i=some d∧P d)=P b:=by simp [cU]
theorem zA{a b c:PyData}{r:List PyData}{P:PyData→Prop}:(∃ds i d,KH (a::b::c::r)= .tuple ds∧Kh 2= .int i∧atI ds i=some d∧P d)=P c:=by simp [mO]
theorem zB{a b c e:PyData}{r:List PyData}{P:PyData→Prop}:(∃ds i d,KH (a::b::c::e::r)= .tuple ds∧Kh 3= .int i∧atI ds i=some d∧P d)=P e:=by simp [kl]
theorem zC{a:PyData}{r:List PyData}{P:PyData→Prop}:(∃ds i d,Li (a::r)= .list ds∧Kh 0= .int i∧atI ds i=some d∧P d)=P a:=by simp [cT]
theorem zD{a b:PyData}{r:List PyData}{P:PyData→Prop}:(∃ds i d,Li (a::b::r)= .list ds∧Kh 1= .int i∧atI ds i=some d∧P d)=P b:=by simp [cU]
theorem zE{a b c:PyData}{r:List PyData}{P:PyData→Prop}:(∃ds i d,Li (a::b::c::r)= .list ds∧Kh 2= .int i∧atI ds i=some d∧P d)=P c:=by simp [mO]
theorem zF{xs:List PyData}{k:Int}{P:PyData→Prop}:(∃ds i d,KH xs= .tuple ds∧Kh k= .int i∧atI ds i=some d∧P d)=(∃d,atI xs k=some d∧P d):=by simp
theorem zG{xs:List PyData}{k:Int}{P:PyData→Prop}:(∃ds i d,Li xs= .list ds∧Kh k= .int i∧atI ds i=some d∧P d)=(∃d,atI xs k=some d∧P d):=by simp
end
end L2
namespace L2
open PySem PySem.Spec PyProof.Rows PySem.W
theorem zH{v:Str}{x:Option Sl}{l:Dl}{k:Nat}{Q:Bool→Prop}:gQ (dB mU (dB mL (cL 0) (dC (.int 0))) (dC (.str v))) (l.set (k+1) x) Q=gQ (dB mU (dB mL (cL 0) (dC (.int 0))) (dC (.str v))) l Q:=by
 simp only [gQ,dB,cL,dC,KU (show k+1≠0 by omega)]
end L2
namespace L2
open PySem PySem.Spec PyProof.Rows PySem.W
def iN:ak→PyData
 | .inl i=> .int i
 | .inr x=> .str x
def cH(kd:List (ak×PyData))(k:ak):Option PyData:=(kd.find? fun p=> decide (p.1=k)).map (·.2)
def eU(kd:List (ak×PyData))(k:ak)(d:PyData):List (ak×PyData):=if (kd.any fun p=> decide (p.1=k))=true then kd.map (fun p=> if p.1=k then(p.1,d) else p) else kd++[(k,d)]
section
variable {K:Kb} {H:Hp} {O:Ex}
theorem Dt.key{v:V}{k:ak}(h:Dt K H O v (iN k)):v=kV k:=by
 cases k with
 | inl i=> cases h;rfl
 | inr x=> cases h;rfl
theorem bA.val{kv:List (ak×V)}{kd:List (ak×PyData)}(h:bA K H O kv kd)(k:ak):(dZ kv k=none∧cH kd k=none)∨∃v d,dZ kv k=some v∧cH kd k=some d∧Dt K H O v d:=by
 induction h with
 | nil=> exact .inl ⟨rfl,rfl⟩
 | @cons j v d r s a _ ih=>
  by_cases e:j=k
  ·exact .inr ⟨v,d,mQ e,by simp [cH,LO,e],a⟩
  ·rw [kZ e,show cH ((j,d)::s) k=cH s k by simp [cH,LO,e]]
   exact ih
theorem bA.any{kv:List (ak×V)}{kd:List (ak×PyData)}(h:bA K H O kv kd)(k:ak):(kv.any fun p=> decide (p.1=k))=(kd.any fun p=> decide (p.1=k)):=by
 induction h with
 | nil=> rfl
 | cons a _ ih=> simp only [LS,ih]
theorem bA.length{kv:List (ak×V)}{kd:List (ak×PyData)}(h:bA K H O kv kd):kv.length=kd.length:=by
 induction h with
 | nil=> rfl
 | cons a _ ih=> simp only [Kw,ih]
theorem bA.append{kv kv':List (ak×V)}{kd kd':List (ak×PyData)}(h:bA K H O kv kd)(h':bA K H O kv' kd'):bA K H O (kv++kv') (kd++kd'):=by
 induction h with
 | nil=> exact h'
 | cons a _ ih=> exact .cons a ih
theorem bA.repl{kv:List (ak×V)}{kd:List (ak×PyData)}(h:bA K H O kv kd)(k:ak){v:V}{d:PyData}(hv:Dt K H O v d):bA K H O (kv.map fun p=> if p.1=k then(p.1,v) else p) (kd.map fun p=> if p.1=k then(p.1,d) else p):=by
 induction h with
 | nil=> exact .nil
 | @cons j u e r s a _ ih=>
  simp only [Kj]
  by_cases z:j=k
  ·rw [if_pos z,if_pos z];exact .cons hv ih
  ·rw [if_neg z,if_neg z];exact .cons a ih
theorem bA.put{kv:List (ak×V)}{kd:List (ak×PyData)}(h:bA K H O kv kd)(k:ak){v:V}{d:PyData}(hv:Dt K H O v d):bA K H O (putK kv k v) (eU kd k d):=by
 unfold putK eU
 rw [h.any k]
 split
 ·exact h.repl k hv
 ·exact h.append (.cons hv .nil)
end
section
variable {X:Cx} {H0:Hp} {O0:Ex}
abbrev lr:=Dl→(List (ak×PyData)→Prop)→Prop
def FI(K:Kb)(H0:Hp)(O0:Ex)(t:lr):TE:=fun σ H R=> ∃O δ Qd,Wd K H0 O0 H O σ δ∧t δ Qd∧∀kd kv p H',Qd kd→ar H H'→H' p=none→bA K H' O kv kd→R (.ref p) (au H' p (.dK kv))
abbrev KE(X:Cx)(H0:Hp)(O0:Ex)(e:Expr)(t:lr):Prop:=PE X e (FI X.K H0 O0 t)
def sL:lr:=fun _ Q=> Q []
theorem zI{pos:Pos}:KE X H0 O0 (.Dict [] [] pos) sL:=E7.imp fun σ H Q uu87=> by obtain⟨O,δ,Qd,w,q,k⟩:=uu87;exact fun p hp=> k [] [] p H q (ar.refl _) hp .nil
def sM(i:Nat)(t:lr):DS:=fun E δ=> t δ fun kd=> E.nx (δ.set i (some (.k kd)))
theorem oP{i:Nat}{x:Str}{e:Expr}{t:lr}{pos pos':Pos}(hN:X.N.Nodup)(hi:X.N[i]?=some x)(hx:gH X.env.scope x)(he:KE X H0 O0 e t)(hs:swapsWith e (some (.Name x pos')) pos.line X.env=pure false:=by rfl)(hf:X.fn x=true∨X.env.scope.names.lookup x=some .local:=by first | exact .inl rfl | exact .inr rfl | assumption):
  PS X (.Assign [.Name x pos'] e pos) (bP X.K H0 O0 (sM i t)):=
 (dq hN hi hx he hs hf).imp fun D σ H ⟨O,δ,E,w,q,k1,k2,k3,k4⟩=> ⟨O,δ,_,w,q,fun ds vs p H1 q1 s1 hp r1=> k1 _ _ _ _ q1 ((w.mono s1).setK hp r1)
  ⟨fun b o e _=> (s1.trans (ar.new hp)) b o e,fun b e n z=> z.elim n fun y=> by
   cases q:H b with
   | none=> exact e q
   | some o=> have:=s1 _ _ q;rw [y,hp] at this;cases this⟩⟩
def sN(i:Nat)(tk tv:DT):DS:=fun E δ=> tv δ fun d=> ∃kd,δ[i]?=some (some (.k kd))∧tk δ fun y=> ∃k,y=iN k∧kd.length < sizeLine∧E.nx (δ.set i (some (.k (eU kd k d))))
theorem zJ{i:Nat}{o e v:Expr}{tk tv:DT}{pos pos':Pos}(hu:X.A.units+64 < cLine)(ho:PE X o (eX i))(he:DE X H0 O0 e tk)(hv:DE X H0 O0 v tv)(hs:swapsWith v (some (.Subscript o e pos')) pos.line X.env=pure false:=by rfl):
  PS X (.Assign [.Subscript o e pos'] v pos) (bP X.K H0 O0 (sN i tk tv)):=
 (E5 (by omega) ho he hv hs).imp fun D σ H ⟨O,δ,E,w,q,k1,k2,k3,k4⟩=> ⟨O,δ,_,w,q,fun d u H1 uu90 s1 r1=> by
  obtain⟨kd,e,qk⟩:=uu90
  have w1:=w.mono s1
  obtain⟨l,kv,h,a,b,c,r⟩:=w1.ownK e
  refine⟨.ref l,h,O,δ,_,w1,qk,fun y uy H2 ⟨k,ek,hl,q2⟩ s2 r2=> ?_⟩
  subst ek
  obtain rfl:=r2.key
  refine⟨l,_,rfl,mR.k (s2 _ _ c) (by rw [r.length];exact hl),k1 _ _ _ _ q2 ((w1.mono s2).putK e h ((r.mono s2).put k (r1.mono s2))) ⟨fun b' o' z n=> ?_,fun _ _ n=> n⟩⟩
  rw [aJ (fun y=> n (by rw [y];exact a))];exact(s1.trans s2) _ _ z⟩
def sO(i:Nat)(tk:DT):DT:=fun δ Q=> ∃kd,δ[i]?=some (some (.k kd))∧tk δ fun y=> ∃k d,y=iN k∧cH kd k=some d∧Q d
theorem bA.got{K:Kb}{H:Hp}{O:Ex}{kv:List (ak×V)}{kd:List (ak×PyData)}(h:bA K H O kv kd){k:ak}{d:PyData}(e:cH kd k=some d):∃v,dZ kv k=some v∧Dt K H O v d:=by
 rcases h.val k with⟨_,z⟩ | ⟨v,d',a,b,c⟩
 ·rw [e] at z;cases z
 ·rw [e] at b;cases b;exact⟨v,a,c⟩
theorem bA.none{K:Kb}{H:Hp}{O:Ex}{kv:List (ak×V)}{kd:List (ak×PyData)}(h:bA K H O kv kd){k:ak}:(dZ kv k).isSome=(cH kd k).isSome:=by
 rcases h.val k with⟨y,z⟩ | ⟨v,d',a,b,c⟩
 ·rw [y,z];rfl
 ·rw [a,b];rfl
theorem sQ{i:Nat}{o e:Expr}{tk:DT}{pos:Pos}(hu:X.A.units+64 < cLine)(ho:PE X o (eX i))(he:DE X H0 O0 e tk)(hs:sd e):DE X H0 O0 (.Subscript o e pos) (sO i tk):=
 (E2 (by omega) ho he hs).imp fun σ H Q uu92=> by
  obtain⟨O,δ,Qd,w,⟨kd,e,q⟩,k⟩:=uu92
  obtain⟨l,kv,h,a,b,c,r⟩:=w.ownK e
  refine⟨.ref l,h,O,δ,_,w,q,fun y uy H2 ⟨ky,d,ek,ev,q2⟩ s2 r2=> ?_⟩
  subst ek
  obtain rfl:=r2.key
  obtain⟨v,hv,dv⟩:=r.got ev
  exact⟨l,v,rfl,by rw [←hv];exact dD.k (s2 _ _ c),k _ _ _ q2 s2 (dv.mono s2)⟩
def sR(i:Nat)(tk:DT):DT:=fun δ Q=> ∃kd,δ[i]?=some (some (.k kd))∧tk δ fun y=> ∃k,y=iN k∧Q ((cH kd k).getD .none)
theorem zK{i:Nat}{o e:Expr}{tk:DT}{apos cpos:Pos}(hu:X.A.units+64 < cLine)(ho:PE X o (eX i))(he:DE X H0 O0 e tk)(m:M1 X o "get" apos e cpos):DE X H0 O0 (.Call (.Attribute o "get" apos) [e] [] cpos) (sR i tk):=
 (xy (by omega) ho he m).imp fun σ H Q uu94=> by
  obtain⟨O,δ,Qd,w,⟨kd,e,q⟩,k⟩:=uu94
  obtain⟨l,kv,h,a,b,c,r⟩:=w.ownK e
  refine⟨.ref l,h,l,rfl,.inl ⟨kv,.inl c⟩,O,δ,_,w,q,fun y uy H2 ⟨ky,ek,q2⟩ s2 r2=> ?_⟩
  subst ek
  obtain rfl:=r2.key
  refine⟨_,dD.k (s2 _ _ c),k _ _ _ q2 s2 ?_⟩
  rcases r.val ky with⟨y,z⟩ | ⟨v,d',a',b',c'⟩
  ·rw [y,z];exact .non
  ·rw [a',b'];exact c'.mono s2
def lu(neg:Bool)(i:Nat)(tk:DT):DT:=fun δ Q=> tk δ fun y=> ∃k,y=iN k∧∃kd,δ[i]?=some (some (.k kd))∧Q (.bool (if neg then !(cH kd k).isSome else(cH kd k).isSome))
theorem FJ{i:Nat}{o e:Expr}{tk:DT}(hu:X.A.units+64 < cLine)(ho:PE X o (eX i))(he:DE X H0 O0 e tk):PC X .In e o (up X.K H0 O0 (lu false i tk)):=fun pins s σ H Q I ⟨O,δ,Qd,w,q,k⟩=>
 E3 (by omega) he ho pins s σ H Q I ⟨O,δ,_,w,q,fun y uy H2 uu0 s2 r2=> by
  obtain⟨ky,ek,kd,e,q2⟩:=uu0
  subst ek
  obtain rfl:=r2.key
  obtain⟨l,kv,h,a,b,c,r⟩:=(w.mono s2).ownK e
  exact⟨.ref l,h,l,_,rfl,dD.k c,by rw [r.none];exact k _ _ _ q2 s2 (.bl _)⟩⟩
theorem FK{i:Nat}{o e:Expr}{tk:DT}(hu:X.A.units+64 < cLine)(ho:PE X o (eX i))(he:DE X H0 O0 e tk):PC X .NotIn e o (up X.K H0 O0 (lu true i tk)):=fun pins s σ H Q I ⟨O,δ,Qd,w,q,k⟩=>
 E4 (by omega) he ho pins s σ H Q I ⟨O,δ,_,w,q,fun y uy H2 uu2 s2 r2=> by
  obtain⟨ky,ek,kd,e,q2⟩:=uu2
  subst ek
  obtain rfl:=r2.key
  obtain⟨l,kv,h,a,b,c,r⟩:=(w.mono s2).ownK e
  exact⟨.ref l,h,l,_,rfl,dD.k c,by rw [r.none];exact k _ _ _ q2 s2 (.bl _)⟩⟩
end
end L2
namespace L2
open PySem PySem.Spec PyProof.Rows PySem.W PySem.Calls
theorem FL{prog:Program}{w:World}{A:Around}{E:Value→Shared→Prop}{s:Shared}{T:String}{r d:Addr}{n:Nat}{P:Nat→Value→Prop}{OK:Heap→Prop}{ss:List Str}{Q:Value→Shared→Prop}
  (K:KdlSrc prog w T r d n P OK)(hh:A.handled=none)(hok:OK s.heap)(hn:n < 64)(hP:∀vs:List Value,vs.length=n→(∀j v,vs[j]?=some v→P j v)→StrsAre vs ss)
  (h:∀(h' h2:Heap) (tk:Nat) (out:Array Value) (e:Nat) (ss':List Str),(∀b o,s.heap.get? b=some o→h'.get? b=some o)→(∀b o,h'.get? b=some o→h2.get? b=some o)→h2.get? h'.objs.size=some (seqObj "list" out e)→StrsAre out.toList ss'→ss'.Perm ss→sortedS ss'=true→Q (.ref h'.objs.size) {s with heap:=h2,toks:=tk}):
  wpAny (model prog w) A (call (.builtin "sorted") [.ref r]) Q E s:=by
 refine Nc kind_sorted plain_sorted entry_sorted (args_sorted1 _) ?_
 unfold Builtin.«sorted»
 refine wpAny_bind (m:=checkCount "sorted" 1 1 _) (wpAny_pure ?_)
 refine wpAny_bind (kdu_collect (A:=A.in1) K hh hok (KS (Mz hn) (by decide)) fun h' tk acc hk hacc=> ?_)
 have hl:acc.toList.length=n:=by rw [KJ];exact hacc.1
 refine wpAny_bind (wpAny_newList ?_)
 have hS:=hP acc.toList hl (fun j v e=> hacc.2 j v (by rw [←NI];exact e))
 have hoL:(h'.push (seqObj "list" acc.toList.toArray 0)).get? h'.objs.size=some (seqObj "list" acc.toList.toArray 0):=KD _ rfl
 refine wpAny_bind (wpAny_holding (wpAny_call_entry slot_list_sort ⟨_,hoL,rfl⟩ entry_list_sort (list_sort_treeK (s:={s with heap:=h'.push (seqObj "list" acc.toList.toArray 0),toks:=tk}) strKind_oneLt hoL hS.keysOf (fun v₁ v₂ rest e=> keyKind_strs (by rw [←e];exact hS)) (by rw [hl];exact hn) fun st' a1 a2=> ⟨_,rfl,?_⟩) (args_list_sort _)))
 obtain⟨ss',h1,h2,h3⟩:=sorted_out_str hS a1 a2
 obtain⟨e,he⟩:=sortedHeap_at (n:=0) (vs:=acc.toList) (out:=(arrOf st').map (·.2)) hoL
 refine wpAny_pure ⟨_,rfl,h h' _ tk _ e ss' hk (fun b o q=> ?_) he h1 h2 h3⟩
 have hlt:b < h'.objs.size:=Kv q
 rw [sortedHeap_old (KN hlt) (by rw [size_push'];exact LM hlt),PL _ _ _ (KN hlt)]
 exact q
theorem zL{P:Program}{w:World}:∀{ss:List Str}{vs:List Value},vs.length=ss.length→(∀(j:Nat)(v:Value),vs[j]?=some v→∃x:Str,ss[j]?=some x∧(cR P w).is (.inr x) v=true)→StrsAre vs ss
 | [],[],_,_=> .nil
 | x::ss,v::vs,hl,h=> by
  obtain⟨y,e,k⟩:=h 0 v rfl
  cases e
  rcases gG (k:= .inr x) (v:=v) k with⟨i,t,e,_⟩ | ⟨z,t,e,ev⟩
  ·cases e
  ·cases e
   subst ev
   exact .cons x t (zL (by simpa using hl) fun j v e=> h (j+1) v e)
theorem FN{X:Cx}:dO X (.builtin "sorted") (fun xs H Q=> X.calm=true∧∃a kv ss,xs=[.ref a]∧H a=some (.dK kv)∧kv.map (·.1)=ss.map Lz∧ss.length < 64∧∀l,H l=none→Q (.ref l) (au H l (.lst ((cC ss).map V.str)))):=by
 intro pins s σ H xs us Q I r h
 obtain⟨hc,a,kv,ss,rfl,ha,hk,h64,q⟩:=h
 obtain⟨u,rfl,rx⟩:=dY r
 cases rx
 obtain⟨hz,lo,vs,rel,dd⟩:=rY I.hok ha
 obtain⟨ep,da⟩:=dd.dictAt
 have hlen:vs.length=ss.length:=by rw [←rel.length,←Kd (f:=(·.1)),hk,Kd]
 refine FL (ss:=ss) (kdl_dict (kvs:=vs) (ep:=ep) lo) (I.ok.hd hc) da (by omega) (fun us hl hp=> zL (P:=X.prog) (w:=X.w) (by omega) fun j v e=> ?_) fun h' h2 tk out e ss' k1 k2 lQ s1 s2 s3=> ?_
 ·obtain⟨k,x,ek,kk⟩:=hp j v e
  have e1:(vs.map (·.1))[j]?=some k:=by rw [KQ,ek];rfl
  rw [←rel.keys,hk,KQ] at e1
  cases es:ss[j]? with
  | none=> rw [es] at e1;cases e1
  | some y=> rw [es] at e1;cases e1;exact⟨y,rfl,kk⟩
 ·have es:ss'=cC ss:=su s2 (sC _ s3)
  subst es
  have hl2:(cC ss).length=ss.length:=s2.length_eq
  have I1:af X pins σ H {s with heap:=h',toks:=tk}:=I.kept (t':=tk) k1
  refine⟨.ref _,_,I1.laid (t':=tk) (o:= .lst ((cC ss).map V.str)) k2 (Kk _) ?_,rfl,q _ (I1.hok.fresh (Kk _))⟩
  refine⟨by rw [Kd,hl2];exact KS (Mz h64) (by decide),out.toList,e,oO s1,?_⟩
  rw [lQ]
theorem bA.keys{K:Kb}{H:Hp}{O:Ex}{kv:List (ak×V)}{kd:List (ak×PyData)}(h:bA K H O kv kd):kv.map (·.1)=kd.map (·.1):=by
 induction h with
 | nil=> rfl
 | cons a _ ih=> simp only [Kj,ih]
section
variable {X:Cx} {H0:Hp} {O0:Ex}
def sS(i:Nat):DA:=fun δ Q=> ∃kd,δ[i]?=some (some (.k kd))∧∃ss:List Str,kd.map (·.1)=ss.map Lz∧ss.length < 64∧Q ((cC ss).map .str)
theorem FO{i:Nat}{o:Expr}{np p:Pos}(hc:X.calm=true)(hg:Gl X "sorted")(hm:X.mg "sorted"=none)(hv:bootBuiltins "sorted"=some (.builtin "sorted"))(ho:PE X o (eX i))(he:starEach [o] X.env=(false,eval o X.env)::starEach [] X.env:=by rfl)(hpl:(backTo p (starEach [] X.env)).any (·.1)=false:=by rfl):
  FE X H0 O0 (.Call (.Name "sorted" np) [o] [] p) (sS i):=
 (bW FN hg hm hv (bC ho cm he) (he:=he) (hpl:=hpl)).imp fun σ H Q uu3=> by
  obtain⟨O,δ,Qd,w,⟨kd,e,ss,ek,h64,q⟩,k⟩:=uu3
  obtain⟨l,kv,h,a,b,c,r⟩:=w.ownK e
  exact⟨.ref l,h,hc,l,kv,ss,rfl,c,by rw [r.keys];exact ek,h64,fun p hp=> k _ _ _ _ q (ar.refl _) hp (aj.ofStrs _)⟩
theorem J7{i:Nat}{o e:Expr}{tk:DT}{pos:Pos}(hu:X.A.units+64 < cLine)(ho:PE X o (eX i))(he:DE X H0 O0 e tk)(hm:behindInMarks .In o=false:=by rfl):PT X (.Compare e [.In] [o] pos) (cj X.K H0 O0 (gQ (lu false i tk))):=
 (uW (FJ hu ho he) hm).imp fun σ H Q uu4=> by obtain⟨O,δ,Qd,w,q,k⟩:=uu4;exact⟨O,δ,_,w,q,fun d v H' uu5 s r=> by obtain⟨b,e,qb⟩:=uu5;subst e;cases r;exact⟨b,rfl,k b H' qb s⟩⟩
theorem FP{i:Nat}{o e:Expr}{tk:DT}{pos:Pos}(hu:X.A.units+64 < cLine)(ho:PE X o (eX i))(he:DE X H0 O0 e tk)(hm:behindInMarks .NotIn o=false:=by rfl):PT X (.Compare e [.NotIn] [o] pos) (cj X.K H0 O0 (gQ (lu true i tk))):=
 (uW (FK hu ho he) hm).imp fun σ H Q uu6=> by obtain⟨O,δ,Qd,w,q,k⟩:=uu6;exact⟨O,δ,_,w,q,fun d v H' uu7 s r=> by obtain⟨b,e,qb⟩:=uu7;subst e;cases r;exact⟨b,rfl,k b H' qb s⟩⟩
end
section
theorem zM{a:List (ak×PyData)}{r:Dl}{P:List (ak×PyData)→Prop}:(∃d,(some (Sl.k a)::r)[0]?=some (some (Sl.k d))∧P d)=P a:=by simp
theorem zN{x:Option Sl}{r:Dl}{i:Nat}{P:List (ak×PyData)→Prop}:(∃d,(x::r)[i+1]?=some (some (Sl.k d))∧P d)=(∃d,r[i]?=some (some (Sl.k d))∧P d):=by simp
theorem zO{a:List (ak×PyData)}{l:Dl}{i:Nat}{P:List (ak×PyData)→Prop}:(∃d,(l.set i (some (Sl.k a)))[i]?=some (some (Sl.k d))∧P d)=(i < l.length∧P a):=by
 apply propext
 rw [Np]
 constructor
 ·rintro⟨d,e,p⟩
  by_cases h:i < l.length
  ·rw [KI h] at e;cases e;exact⟨h,p⟩
  ·rw [LP (by omega)] at e;cases e
 ·rintro⟨h,p⟩
  exact⟨a,by rw [KI h];rfl,p⟩
theorem zP{x:Option Sl}{l:Dl}{i j:Nat}{P:List (ak×PyData)→Prop}(h:i≠j):(∃d,(l.set i x)[j]?=some (some (Sl.k d))∧P d)=(∃d,l[j]?=some (some (Sl.k d))∧P d):=by rw [KU h]
theorem zQ{x:Str}{P:ak→Prop}:(∃k,Kf x=iN k∧P k)=P (.inr x):=propext ⟨fun uu8=> by obtain⟨k,e,p⟩:=uu8;cases k with | inl i=> cases e | inr y=> cases e;exact p,fun p=> ⟨_,rfl,p⟩⟩
end
def eV:PyData→Bool
 | .none=> true
 | _=> false
def sT:PyData→PyData→(PyData→Prop)→Prop:=fun x y Q=> y= .none∧Q (.bool (eV x))
def sU:PyData→PyData→(PyData→Prop)→Prop:=fun x y Q=> y= .none∧Q (.bool (!eV x))
theorem Sh.isN{K:Kb}{H:Hp}{O:Ex}{x:V}{d:PyData}(h:Sh K H O x d):decide (x= .non)=eV d:=by
 cases h with
 | dt h=> cases h <;> simp [eV]
 | _=> simp [eV]
theorem sV{K:Kb}:cM K (fun x y H Q=> y= .non∧Q (.bl (decide (x= .non))) H) sT:=fun H O x y dx dy Qd R _ hx hy uu9 k=> by
 obtain⟨e,q⟩:=uu9
 subst e
 refine⟨hy.non,?_⟩
 rw [hx.isN];exact k _ _ H q (ar.refl _) (.bl _)
theorem zR{K:Kb}:cM K (fun x y H Q=> y= .non∧Q (.bl (!decide (x= .non))) H) sU:=fun H O x y dx dy Qd R _ hx hy uu10 k=> by
 obtain⟨e,q⟩:=uu10
 subst e
 refine⟨hy.non,?_⟩
 rw [hx.isN];exact k _ _ H q (ar.refl _) (.bl _)
def sW:PyData→PyData→(PyData→Prop)→Prop:=fun x y Q=> ∃ds i d,x=eO ds∧y= .int i∧atI ds i=some d∧Q d
theorem FQ{K:Kb}:cM K (nZ K) sW:=fun H O x y dx dy Qd R _ hx hy uu11 k=> by
 obtain⟨ds,i,d,e1,e2,e3,q⟩:=uu11
 subst e1 e2
 obtain⟨a,vs,rfl,hs,r⟩:=hx.scr
 cases hy.int
 obtain⟨v,hv,rv⟩:=r.atI e3
 exact⟨a,vs,i,v,rfl,rfl,hs,hv,k d v H q (ar.refl _) rv⟩
section
variable {X:Cx} {H0:Hp} {O0:Ex}
def sY(t:DT)(tl th:DO):DA:=fun δ Q=> t δ fun d=> tl δ fun l=> th δ fun u=> ∃xs,d=eO xs∧Q (cf xs l u)
theorem FT{e:Expr}{lo hi:Option Expr}{t:DT}{tl th:DO}{pos p2:Pos}(h:DF X H0 O0 e t)(hl:PO X lo (gW X.K H0 O0 tl))(hu:PO X hi (gW X.K H0 O0 th)):FE X H0 O0 (.Subscript e (.Slice lo hi none p2) pos) (sY t tl th):=
 (nY wx h hl hu).imp fun σ H Q uu12=> by obtain⟨O,δ,Qd,w,q,k⟩:=uu12;exact⟨O,δ,_,w,q,fun d v H1 q1 s1 r1=> ⟨O,δ,_,w.mono s1,q1,fun l H2 q2 s2=> ⟨O,δ,_,w.mono (s1.trans s2),q2,fun u H3 uu13 s3=> by
  obtain⟨xs,e,q3⟩:=uu13
  subst e
  obtain⟨a,vs,rfl,h1,d1⟩:=(r1.mono (s2.trans s3)).scr
  exact⟨a,vs,rfl,h1,fun p hp=> k _ _ _ _ q3 (s1.trans (s2.trans s3)) hp (d1.cut l u)⟩⟩⟩⟩
end
end L2
namespace L2
open PySem PySem.Spec PyProof.Rows PySem.W
structure Rw where
 w:Str
 n:Int
 nm:Str
 r:List PyData
def Rw.enc(x:Rw):PyData:= .tuple (.str x.w:: .int x.n:: .str x.nm::x.r)
def fy(ws:List Str)(day:Int)(x:Rw):Prop:=x.w∈ws∧x.n≤day
instance {ws:List Str} {day:Int} {x:Rw}:Decidable (fy ws day x):=by unfold fy;infer_instance
abbrev Ls:=List (Str×Rw)
def fI(L:Ls):List (ak×PyData):=L.map fun p=> (.inr p.1,p.2.enc)
def dH(L:Ls)(nm:Str):Option Rw:=(L.find? fun p=> decide (p.1=nm)).map (·.2)
def cI(L:Ls)(nm:Str)(x:Rw):Ls:=if (L.any fun p=> decide (p.1=nm))=true then L.map (fun p=> if p.1=nm then(p.1,x) else p) else L++[(nm,x)]
theorem mZ{a b:Str}:((Lz a:ak)=Lz b)↔a=b:=⟨fun h=> by cases h;rfl,fun h=> by rw [h]⟩
theorem sZ(nm:Str):∀L:Ls,cH (fI L) (.inr nm)=(dH L nm).map Rw.enc
 | []=> rfl
 | p::L=> by
  have ih:=sZ nm L
  unfold cH dH fI at*
  by_cases h:p.1=nm
  ·simp [LO,h]
  ·have h':¬((Lz p.1:ak)=Lz nm):=fun z=> h (mZ.mp z)
   simp only [Kj,LO,decide_eq_false h,decide_eq_false h']
   exact ih
theorem zS(L:Ls)(nm:Str)(x:Rw):eU (fI L) (.inr nm) x.enc=fI (cI L nm x):=by
 have ha:(fI L).any (fun p=> decide (p.1=(Lz nm:ak)))=L.any fun p=> decide (p.1=nm):=by
  unfold fI
  rw [QA]
  congr 1
  funext p
  simp only [O9,mZ]
 unfold eU cI
 rw [ha]
 split
 ·unfold fI
  rw [KY,KY]
  apply Pf
  intro p _
  simp only [O9,mZ]
  split <;> rfl
 ·unfold fI;simp
structure dU (ws:List Str) (day:Int) (xs:List Rw) (L:Ls):Prop where
 nd:(L.map (·.1)).Nodup
 it:∀p∈L,p.1=p.2.nm∧p.2∈xs∧fy ws day p.2∧∀y∈xs,fy ws day y→y.nm=p.1→y.n≤p.2.n
 al:∀y∈xs,fy ws day y→∃p∈L,p.1=y.nm
 le:L.length≤xs.length
theorem dU.nil(ws:List Str)(day:Int):dU ws day [] []:=⟨List.nodup_nil,(fun p h=> by cases h),(fun p h=> by cases h),Kk _⟩
theorem oQ{L:Ls}{nm:Str}{y:Rw}(h:dH L nm=some y):∃p∈L,p.1=nm∧p.2=y:=by
 unfold dH at h
 cases e:L.find? (fun p=> decide (p.1=nm)) with
 | none=> rw [e] at h;cases h
 | some p=>
  rw [e] at h;cases h
  exact⟨p,Oh e,by simpa using List.find?_some e,rfl⟩
theorem zT{L:Ls}{nm:Str}(h:dH L nm=none):∀p∈L,p.1≠nm:=by
 intro p hp e
 unfold dH at h
 rw [Option.map_eq_none_iff,List.find?_eq_none] at h
 exact h p hp (by simpa using e)
section
variable {ws:List Str} {day:Int} {xs:List Rw} {L:Ls} {x:Rw}
theorem dU.skip(h:dU ws day xs L)(hx:¬fy ws day x):dU ws day (xs++[x]) L:=by
 refine⟨h.nd,fun p hp=> ?_,fun y hy ho=> ?_,by have:=h.le;simp;omega⟩
 ·obtain⟨a,b,c,d⟩:=h.it p hp
  refine⟨a,by simp [b],c,fun y hy ho e=> ?_⟩
  rcases KL.mp hy with z | z
  ·exact d y z ho e
  ·rw [KP] at z;subst z;exact absurd ho hx
 ·rcases KL.mp hy with z | z
  ·exact h.al y z ho
  ·rw [KP] at z;subst z;exact absurd ho hx
theorem dU.keep(h:dU ws day xs L){y0:Rw}(hl:dH L x.nm=some y0)(hn:¬y0.n < x.n):dU ws day (xs++[x]) L:=by
 obtain⟨p0,hp0,e0,rfl⟩:=oQ hl
 have uq:∀p∈L,p.1=x.nm→p=p0:=fun p hp e=> by
  have nd:=h.nd
  clear h hl hn
  induction L with
  | nil=> cases hp
  | cons q L ih=>
   rw [Kj,Mc] at nd
   rcases Kz.mp hp with a | a <;> rcases Kz.mp hp0 with b | b
   ·rw [a,b]
   ·exact absurd (Ky.mpr ⟨p0,b,by rw [e0,←e,a]⟩) nd.1
   ·exact absurd (Ky.mpr ⟨p,a,by rw [e,←e0,b]⟩) nd.1
   ·exact ih b a nd.2
 refine⟨h.nd,fun p hp=> ?_,fun y hy ho=> ?_,by have:=h.le;simp;omega⟩
 ·obtain⟨a,b,c,d⟩:=h.it p hp
  refine⟨a,by simp [b],c,fun y hy ho e=> ?_⟩
  rcases KL.mp hy with z | z
  ·exact d y z ho e
  ·rw [KP] at z;subst z
   rw [uq p hp e.symm];omega
 ·rcases KL.mp hy with z | z
  ·exact h.al y z ho
  ·rw [KP] at z;subst z;exact⟨p0,hp0,e0⟩
theorem dU.put(h:dU ws day xs L)(ho:fy ws day x)(hl:∀y,dH L x.nm=some y→y.n < x.n):dU ws day (xs++[x]) (cI L x.nm x):=by
 unfold cI
 split
 ·rename_i ha
  obtain⟨p0,hp0,e0⟩:=MZ.mp ha
  have e0:p0.1=x.nm:=of_decide_eq_true e0
  have hmx:∀y∈xs,fy ws day y→y.nm=x.nm→y.n≤x.n:=fun y hy ho' e=> by
   cases hk:dH L x.nm with
   | none=> exact absurd e0 (zT hk p0 hp0)
   | some z=>
    obtain⟨p,hp,ep,rfl⟩:=oQ hk
    have:=(h.it p hp).2.2.2 y hy ho' (by rw [ep];exact e)
    have:=hl _ hk
    omega
  refine⟨?_,fun p hp=> ?_,fun y hy ho'=> ?_,by have:=h.le;simp;omega⟩
  ·rw [KY,show((fun p:Str×Rw=> p.1)∘ fun p=> if p.1=x.nm then(p.1,x) else p)=fun p=> p.1 by funext p;simp only [O9];split <;> rfl]
   exact h.nd
  ·obtain⟨q,hq,rfl⟩:=Ky.mp hp
   by_cases z:q.1=x.nm
   ·rw [if_pos z]
    refine⟨z,by simp,ho,fun y hy ho' e=> ?_⟩
    rcases KL.mp hy with m | m
    ·exact hmx y m ho' (by rw [e];exact z)
    ·rw [KP] at m;subst m;exact QM _
   ·rw [if_neg z]
    obtain⟨a,b,c,d⟩:=h.it q hq
    refine⟨a,by simp [b],c,fun y hy ho' e=> ?_⟩
    rcases KL.mp hy with m | m
    ·exact d y m ho' e
    ·rw [KP] at m;subst m;exact absurd e.symm z
  ·rcases KL.mp hy with m | m
   ·obtain⟨p,hp,e⟩:=h.al y m ho'
    refine⟨_,Ky.mpr ⟨p,hp,rfl⟩,?_⟩
    split <;> exact e
   ·rw [KP] at m;subst m
    refine⟨_,Ky.mpr ⟨p0,hp0,rfl⟩,?_⟩
    rw [if_pos e0];exact e0
 ·rename_i ha
  have hno:∀p∈L,p.1≠x.nm:=fun p hp e=> ha (MZ.mpr ⟨p,hp,decide_eq_true e⟩)
  refine⟨?_,fun p hp=> ?_,fun y hy ho'=> ?_,by have:=h.le;simp;omega⟩
  ·rw [KZ]
   refine Ob.mpr ⟨h.nd,by simp,fun a ha' b hb=> ?_⟩
   simp only [Kj,Ly,KP] at hb
   obtain⟨p,hp,rfl⟩:=Ky.mp ha'
   rw [hb];exact hno p hp
  ·rcases KL.mp hp with m | m
   ·obtain⟨a,b,c,d⟩:=h.it p m
    refine⟨a,by simp [b],c,fun y hy ho' e=> ?_⟩
    rcases KL.mp hy with z | z
    ·exact d y z ho' e
    ·rw [KP] at z;subst z;exact absurd e.symm (hno p m)
   ·rw [KP] at m;subst m
    refine⟨rfl,by simp,ho,fun y hy ho' e=> ?_⟩
    rcases KL.mp hy with z | z
    ·obtain⟨p,hp,e'⟩:=h.al y z ho'
     exact absurd (e'.trans e) (hno p hp)
    ·rw [KP] at z;subst z;exact QM _
  ·rcases KL.mp hy with m | m
   ·obtain⟨p,hp,e⟩:=h.al y m ho';exact⟨p,by simp [hp],e⟩
   ·rw [KP] at m;subst m;exact⟨(y.nm,y),by simp,rfl⟩
end
structure oR (ws:List Str) (day:Int) (xs res:List Rw):Prop where
 up:(res.map (·.nm)).Pairwise fun a b=> cP a b=true
 nd:(res.map (·.nm)).Nodup
 it:∀x∈res,x∈xs∧fy ws day x∧∀y∈xs,fy ws day y→y.nm=x.nm→y.n≤x.n
 al:∀y∈xs,fy ws day y→∃x∈res,x.nm=y.nm
 le:res.length≤xs.length
theorem tf{L:Ls}{nm:Str}(h:nm∈L.map (·.1)):∃x,dH L nm=some x:=by
 cases e:dH L nm with
 | some x=> exact⟨x,rfl⟩
 | none=>
  obtain⟨p,hp,e'⟩:=Ky.mp h
  exact absurd e' (zT e p hp)
def oT(L:Ls):List Rw:=(cC (L.map (·.1))).filterMap (dH L)
theorem FU{ws:List Str}{day:Int}{xs:List Rw}{L:Ls}(h:dU ws day xs L):(oT L).map (·.nm)=cC (L.map (·.1)):=by
 unfold oT
 have key:∀l:List Str,(∀a∈l,a∈L.map (·.1))→(l.filterMap (dH L)).map (·.nm)=l:=by
  intro l
  induction l with
  | nil=> intro _;rfl
  | cons a l ih=>
   intro hl
   obtain⟨x,hx⟩:=tf (hl a (by simp))
   obtain⟨p,hp,e,rfl⟩:=oQ hx
   rw [Mg,hx]
   show p.2.nm::_=_
   rw [ih fun b hb=> hl b (by simp [hb]),←(h.it p hp).1,e]
 exact key _ fun a ha=> (fx _).mem_iff.mp ha
theorem dU.res{ws:List Str}{day:Int}{xs:List Rw}{L:Ls}(h:dU ws day xs L):oR ws day xs (oT L):=by
 have hn:=FU h
 refine⟨by rw [hn];exact sr _,by rw [hn];exact(fx _).nodup_iff.mpr h.nd,fun x hx=> ?_,fun y hy ho=> ?_,by rw [←Kd (f:=fun x:Rw=> x.nm),hn,(fx _).length_eq,Kd];exact h.le⟩
 ·obtain⟨a,ha,e⟩:=MI.mp hx
  obtain⟨p,hp,e1,rfl⟩:=oQ e
  obtain⟨b1,b2,b3,b4⟩:=h.it p hp
  exact⟨b2,b3,fun y hy ho e=> b4 y hy ho (by rw [b1];exact e)⟩
 ·obtain⟨p,hp,e⟩:=h.al y hy ho
  have:p.1∈(oT L).map (·.nm):=by rw [hn];exact(fx _).mem_iff.mpr (Ky.mpr ⟨p,hp,rfl⟩)
  obtain⟨x,hx,e'⟩:=Ky.mp this
  exact⟨x,hx,e'.trans e⟩
end L2
namespace L2
open PySem PySem.Spec PyProof.Rows PySem.W PySem.Calls
theorem FV(t:SetTable)(n:Nat):(t.orStandIn n).led=t.led:=by unfold SetTable.orStandIn;split <;> rfl
theorem FW(t:SetTable)(es:Array (Int×Value))(h:Int)(x:Value):(layNew t es h x).2.1.led=t.led:=by
 unfold layNew
 split
 ·exact FV _ _
 ·rfl
theorem FX(t:SetTable)(es:Array (Int×Value))(n:Nat):(relayAll t es n).2.1.led=t.led:=by
 unfold relayAll Qe Qm
 cases PM (Pr n - 1) (es.map (·.1)) with
 | none=> rfl
 | some ow=> simp only [bind,QN,pure];split <;> rfl
theorem FY(t:SetTable)(es:Array (Int×Value))(n:Nat):(relayAll t es n).2.1.plain=true→t.plain=true:=by
 unfold relayAll Qe Qm
 cases PM (Pr n - 1) (es.map (·.1)) with
 | none=> intro e;cases e
 | some ow=>
  simp only [bind,QN,pure]
  split
  ·exact id
  ·intro e;cases e
abbrev fb(w:World):Bool:=w.params.followText "set-order"
structure FZ (P:Program) (w:World) (o:Obj) (ss:List Str):Prop where
 ex:o.ExactSet
 da:∃es ep t,o.data= .set es ep t∧ElemsOf (strKind P w) es.toList∧(∃ss',StrsAre (es.toList.map (·.2)) ss'∧ss'.Perm ss)∧es.size < scanBound∧t.fits es.size=true∧(fb w=true∨t.led=true)∧(es.size≠0→t.plain=false)
def cQ(P:Program)(w:World)(h:Heap)(a:Addr)(ss:List Str):Prop:=∃o,h.get? a=some o∧FZ P w o ss
theorem zU{k:Str}:∀{vs:List Value}{ss:List Str},StrsAre vs ss→((∃v∈vs,v.isStrOf k=true)↔k∈ss)
 | _,_,.nil=> by simp
 | _,_,.cons x t r=> by
  have ih:=zU (k:=k) r
  constructor
  ·rintro⟨v,hv,e⟩
   rcases Kz.mp hv with z | z
   ·subst z
    obtain⟨u,e'⟩:=Pd e
    cases e'
    exact K3
   ·exact K1 _ (ih.mp ⟨v,z,e⟩)
  ·intro hk
   rcases Kz.mp hk with z | z
   ·subst z;exact⟨_,K3,by simp [O8]⟩
   ·obtain⟨v,hv,e⟩:=ih.mpr z
    exact⟨v,K1 _ hv,e⟩
theorem oU{vs vs':List Value}(p:vs'.Perm vs):∀{ss:List Str},StrsAre vs ss→∃ss',StrsAre vs' ss'∧ss'.Perm ss:=by
 induction p with
 | nil=> intro ss h;exact⟨ss,h,.refl _⟩
 | cons x p ih=>
  intro ss h
  cases h with
  | cons y t r=> obtain⟨s1,a,b⟩:=ih r;exact⟨y::s1,.cons y t a,b.cons y⟩
 | swap x y l=>
  intro ss h
  cases h with
  | cons a t r=> cases r with | cons b u r=> exact⟨b::a::_,.cons b u (.cons a t r),.swap _ _ _⟩
 | trans p q ih1 ih2=>
  intro ss h
  obtain⟨s1,a,b⟩:=ih2 h
  obtain⟨s2,c,d⟩:=ih1 a
  exact⟨s2,c,d.trans b⟩
theorem zV{x:Str}{t:Tok}:∀{vs:List Value}{ss:List Str},StrsAre vs ss→StrsAre (vs++[.str x t]) (ss++[x])
 | _,_,.nil=> .cons x t .nil
 | _,_,.cons y u r=> .cons y u (zV r)
theorem m3:∀{vs:List Value}{ss:List Str},StrsAre vs ss→vs.length=ss.length
 | _,_,.nil=> rfl
 | _,_,.cons y u r=> by simp [m3 r]
def cN(ss:List Str)(x:Str):List Str:=if x∈ss then ss else ss++[x]
section
variable {P:Program} {w:World} {A:Around} {E:Value→Shared→Prop} {s:Shared}
theorem cQ.mk{h:Heap}{a:Addr}{o:Obj}{es es':Array (Int×Value)}{ep:Nat}{t t':SetTable}{ss:List Str}(o1:h.get? a=some o)(x1:o.ExactSet)(d1:o.data= .set es ep t)
  (el:ElemsOf (strKind P w) es'.toList)(sp:∃ss',StrsAre (es'.toList.map (·.2)) ss'∧ss'.Perm ss)(b1:es'.size < scanBound)(f1:t'.fits es'.size=true)(l1:fb w=true∨t'.led=true)(p1:es'.size≠0→t'.plain=false):
  (h.update a (Oi es' t')).get? a=some {o with data:= .set es' (ep+1) t'}∧cQ P w (h.update a (Oi es' t')) a ss:=by
 have g:(h.update a (Oi es' t')).get? a=some {o with data:= .set es' (ep+1) t'}:=by
  have z:=LG (Oi es' t') o1 (by rw [putSet_of es' t' d1];rfl)
  rw [putSet_of es' t' d1] at z;exact z
 exact⟨g,_,g,x1,es',ep+1,t',rfl,el,sp,b1,f1,l1,p1⟩
theorem zW{g:Bool→Sem Unit}(hg:∀(b:Bool) (s₁:Shared) (Q':Unit→Shared→Prop),Q' () s₁→wpAny (model P w) A (g b) Q' E s₁)
  {a:Addr}{o:Obj}{es:Array (Int×Value)}{ep:Nat}{t:SetTable}(o1:s.heap.get? a=some o)(x1:o.ExactSet)(d1:o.data= .set es ep t)
  {es1:Array (Int×Value)}{t2:SetTable}{ss:List Str}(el:ElemsOf (strKind P w) es1.toList)(sp:∃ss',StrsAre (es1.toList.map (·.2)) ss'∧ss'.Perm ss)
  (b1:es1.size < scanBound)(f2:t2.fits es1.size=true)(l2:fb w=true∨t2.led=true)(p2:t2.plain=false){wd:Bool}{R:Option Bool→Shared→Prop}
  (h:∀h',Ma a s.heap h'→cQ P w h' a ss→R (some true) {s with heap:=h'}):
  wpAny (model P w) A (do
    storeSet a es1 t2
    if (!wd && t2.tooFull)=true then do
      g (relayAll t2 es1 (Ml es1.size)).2.2
      storeSet a (relayAll t2 es1 (Ml es1.size)).1 (relayAll t2 es1 (Ml es1.size)).2.1
      pure (some true)
     else pure (some true)) R E s:=by
 refine wpAny_bind (wpAny_storeSet_of o1 d1 ?_ (fits_of_scanBound b1))
 obtain⟨o2,S2⟩:=cQ.mk (P:=P) o1 x1 d1 el sp b1 f2 l2 (fun _=> p2)
 have sb:=La s.heap a (Oi es1 t2)
 split
 ·have rp:=relayAll_perm t2 es1 (Ml es1.size)
  have rf:=relayAll_fits t2 es1 (Ml es1.size)
  have rl:=FX t2 es1 (Ml es1.size)
  have rq:=FY t2 es1 (Ml es1.size)
  generalize relayAll t2 es1 (Ml es1.size)=Z at rp rf rl rq⊢
  obtain⟨es2,t3,gv⟩:=Z
  dsimp only at rp rf rl rq⊢
  have sz:es2.size=es1.size:=by rw [←KJ,rp.length_eq,KJ]
  obtain⟨ss',q1,q2⟩:=sp
  obtain⟨ss2,q3,q4⟩:=oU (rp.map (·.2)) q1
  refine wpAny_bind (hg _ _ _ (wpAny_bind (wpAny_storeSet_of o2 rfl ?_ (fits_of_scanBound (by rw [sz];exact b1)))))
  obtain⟨_,S3⟩:=cQ.mk (P:=P) (w:=w) (t':=t3) o2 x1 rfl (el.perm rp) ⟨ss2,q3,q4.trans q2⟩ (by rw [sz];exact b1) rf (by rw [rl];exact l2) (fun _=> by
   cases hb:t3.plain with
   | false=> rfl
   | true=> rw [rq hb] at p2;cases p2)
  exact wpAny_pure (h _ (sb.trans (La _ a _)) S3)
 ·exact wpAny_pure (h _ sb S2)
theorem Ga{a:Addr}{ss:List Str}{x:Str}{tk:Tok}{Q:Bool→Shared→Prop}(hS:cQ P w s.heap a ss)(hroom:ss.length+1 < scanBound)
  (h:∀h' b,Ma a s.heap h'→cQ P w h' a (cN ss x)→Q b {s with heap:=h'}):
  wpAny (model P w) A (setAddHashed a (.str x tk) (hashStr w x)) Q E s:=by
 obtain⟨o,o1,x1,es,ep,t,d1,el,⟨ss',s1,s2⟩,b1,f1,l1,p1⟩:=hS
 have hk:(strKind P w).is x (.str x tk)=true:=strKind_is _ _ _ _
 have hsc:(Me x tk).scannable=true:=rfl
 have ln:es.size=ss.length:=by rw [←s2.length_eq,←m3 s1,Kd,KJ]
 unfold setAddHashed setAddHashedIn
 refine wpAny_holding (wpAny_bind (wpAny_setState_of o1 d1 f1 ?_))
 dsimp only
 rw [byScan_of hsc b1 el,if_pos rfl]
 unfold setAddByScan
 refine wpAny_bind (wpAny_bind (wpAny_rule (wpAny_bind (wpAny_setScan_of hk o1 d1 f1 el ?_))))
 have mem:(∃e∈es.toList,(strKind P w).is x e.2=true)↔x∈ss:=by
  rw [←s2.mem_iff,←zU s1]
  constructor
  ·rintro⟨e,he,q⟩;exact⟨e.2,Ky.mpr ⟨e,he,rfl⟩,q⟩
  ·rintro⟨v,hv,q⟩;obtain⟨e,he,rfl⟩:=Ky.mp hv;exact⟨e,he,q⟩
 cases hr:List.findIdx? (fun e=> (strKind P w).is x e.2) es.toList with
 | some j=>
  obtain⟨hj,hp,_⟩:=List.findIdx?_eq_some_iff_getElem.mp hr
  have hx:x∈ss:=mem.mp ⟨_,L3 hj,hp⟩
  refine wpAny_pure (wpAny_pure ?_)
  have z:=h s.heap false (Ma.refl a s.heap) (by unfold cN;rw [if_pos hx];exact⟨o,o1,x1,es,ep,t,d1,el,⟨ss',s1,s2⟩,b1,f1,l1,p1⟩)
  have e:s={s with heap:=s.heap}:=by cases s;rfl
  rw [e];exact z
 | none=>
  dsimp only
  have hx:x ∉ ss:=fun z=> by
   obtain⟨e,he,q⟩:=mem.mpr z
   have:=List.findIdx?_eq_none_iff.mp hr e he
   rw [q] at this;cases this
  have eS:cN ss x=ss++[x]:=if_neg hx
  rw [eS] at h
  have lp:=layNew_perm t es (hashStr w x) (.str x tk)
  have lf:=layNew_fits t es (hashStr w x) (.str x tk)
  have ll:=FW t es (hashStr w x) (.str x tk)
  generalize layNew t es (hashStr w x) (.str x tk)=L at lp lf ll⊢
  obtain⟨es1,t1,wd,gv⟩:=L
  dsimp only at lp lf ll⊢
  rw [PN] at lp
  have el1:ElemsOf (strKind P w) es1.toList:=(el.push hk hsc).perm lp
  have sp1:∃ss',StrsAre (es1.toList.map (·.2)) ss'∧ss'.Perm (ss++[x]):=by
   have s3:StrsAre ((es.toList++[(hashStr w x,Me x tk)]).map (·.2)) (ss'++[x]):=by
    rw [KZ];exact zV s1
   obtain⟨s4,q1,q2⟩:=oU (lp.map (·.2)) s3
   exact⟨s4,q1,q2.trans (s2.append_right _)⟩
  have n1:es1.size=es.size+1:=by rw [←KJ,lp.length_eq];simp
  have b2:es1.size < scanBound:=by omega
  have l2:fb w=true∨t1.led=true:=by rw [ll];exact l1
  have gw:∀(b:Bool)(s₁:Shared)(Q':Unit→Shared→Prop),Q' () s₁→wpAny (model P w) A (match b with | true=> rule "set.scan.the-table-gave-way" | false=> pure ()) Q' E s₁:=
   fun b s₁ Q' z=> by cases b <;> first | exact wpAny_pure z | exact wpAny_rule z
  refine wpAny_bind (gw _ _ _ ?_)
  split
  ·refine wpAny_bind ?_
   rw [hashByValue_scannable 8 hsc]
   refine wpAny_pure ?_
   refine zW gw o1 x1 d1 el1 sp1 b2 (SetTable.fits_plain_off lf) l2 rfl fun h' sb S'=> wpAny_pure (h h' true sb S')
  ·rename_i hp
   refine wpAny_bind (wpAny_pure ?_)
   rw [if_pos rfl]
   exact zW gw o1 x1 d1 el1 sp1 b2 lf l2 (by simpa using hp) fun h' sb S'=> wpAny_pure (h h' true sb S')
end
end L2
namespace L2
open PySem PySem.Spec PyProof.Rows PySem.W PySem.Calls
def iO(val:Nat→Str)(i:Nat):List Str:=((Lp i).map val).foldl cN []
theorem zX(val:Nat→Str)(i:Nat):iO val (i+1)=cN (iO val i) (val i):=by
 unfold iO;rw [OI,KZ,List.foldl_append];rfl
theorem zY(val:Nat→Str):∀i,(iO val i).length≤i
 | 0=> Kk _
 | i+1=> by
  have ih:=zY val i
  rw [zX];unfold cN
  split
  ·omega
  ·simp;omega
theorem Gb{ss:List Str}{x:Str}(h:ss.Nodup):(cN ss x).Nodup:=by
 unfold cN
 split
 ·exact h
 ·rename_i hx
  refine Ob.mpr ⟨h,by simp,fun a ha b hb=> ?_⟩
  rw [KP] at hb;subst hb
  intro e;subst e;exact hx ha
theorem Gd{ss:List Str}{x y:Str}:y∈cN ss x↔y∈ss∨y=x:=by
 unfold cN
 split
 ·rename_i hx
  exact⟨.inl,fun z=> z.elim id fun e=> by subst e;exact hx⟩
 ·simp
theorem zZ{y:Str}:∀{l ss:List Str},y∈l.foldl cN ss↔y∈ss∨y∈l
 | [],ss=> by simp
 | a::l,ss=> by rw [LX,zZ,Gd,Kz];exact or_assoc
theorem z3:∀{l ss:List Str},ss.Nodup→(l.foldl cN ss).Nodup
 | [],_,h=> h
 | a::l,_,h=> by rw [LX];exact z3 (Gb h)
theorem cQ.stay{P:Program}{w:World}{h h':Heap}{a:Addr}{ss:List Str}(x:cQ P w h a ss)(k:∀o,h.get? a=some o→h'.get? a=some o):cQ P w h' a ss:=
 let ⟨o,e,r⟩:=x;⟨o,k o e,r⟩
section
variable {P:Program} {w:World} {A:Around} {R:Result→Shared→Prop} {I:Addr} {fp wr:List Addr} {G:Array GenState→Array GenState→Prop} {n:Nat} {Pv:Nat→Value→Prop} {St:Nat→Shared→Prop}
theorem Ge(W:WalksS P w A.in1 I fp wr G n Pv St)(S:Addr)(hSf:S ∉ fp)(val:Nat→Str)(hval:∀i v,Pv i v→∃t,v= .str (val i) t)(hb:n+1 < scanBound):
  ∀(k i:Nat)(s:Shared),n - i=k→i≤n→St i s→cQ P w s.heap S (iO val i)→
   (∀s',Moved (S::wr) G s s'→cQ P w s'.heap S (iO val n)→R (.ok (.ret .none)) s')→codeAny (model P w) A (.builtin "set.update.loop" ⟨[.ref S,.ref I],[]⟩) R s:=by
 have sw:S ∉ wr:=fun z=> hSf (W.sub _ z)
 have sub:∀b∈wr,b∈S::wr:=fun b z=> K1 _ z
 intro k
 induction k with
 | zero=>
  intro i s e1 e2 st hS q
  obtain rfl:i=n:=by omega
  refine codeAny_builtin Nj ?_
  rw [Mv Mp _]
  show wpAny _ A.in1 (pyNext (.ref I) >>=_) _ _ s
  exact wpAny_bind (W.done s _ _ st fun s' m=> wpAny_pure (q s' (m.mono sub) (hS.stay fun o e=> m.heap S o sw e)))
 | succ k ih=>
  intro i s e1 e2 st hS q
  have lt:i < n:=by omega
  refine codeAny_builtin Nj ?_
  rw [Mv Mp _]
  show wpAny _ A.in1 (pyNext (.ref I) >>=_) _ _ s
  refine wpAny_bind (W.item i s _ _ lt st fun v s' hP st' m=> ?_)
  obtain⟨t,rfl⟩:=hval i v hP
  have hS':=hS.stay (h':=s'.heap) fun o e=> m.heap S o sw e
  show wpAny _ A.in1 (holding [Me (val i) t] (setAdd S (.str (val i) t)) >>=_) _ _ s'
  refine wpAny_bind (wpAny_holding ?_)
  unfold setAdd
  refine wpAny_holding (wpAny_bind ((strKind P w).pyHash (k:=val i) (strKind_is _ _ _ _) ?_))
  have rm:(iO val i).length+1 < scanBound:=by have:=zY val i;omega
  refine Ga (s:={s' with toks:=s'.toks+1}) hS' rm fun h' b sb S2=> ?_
  rw [←zX] at S2
  refine wpAny_pure ⟨plainId_quiet Mp _,ih (i+1) _ (by omega) lt (W.frame _ s' _ _ st' (M7 _) fun b hb o e=> ?_) S2 fun s2 m2 S3=> ?_⟩
  ·rw [sb.2 b (fun z:b=S=> hSf (by rw [←z];exact hb))];exact e
  ·refine q s2 (Moved.trans W.gtrans ((m.mono sub).then_heap (M7 _) fun b o hb e=> ?_) m2) S3
   rw [sb.2 b (fun z:b=S=> hb (by rw [z];exact K3))];exact e
end
section
variable {P:Program} {w:World} {A:Around} {E:Value→Shared→Prop} {s:Shared}
theorem Gf(a:Value){Q₁:Value→Shared→Prop}
  (h:Q₁ (.ref s.heap.objs.size) {s with heap:=s.heap.push {cls:= .type "set",dict:=none,data:= .set #[] 0 (.fresh 0 0 (!fb w))}}):
  codeAny (model P w) A (.call (.builtin "set.__new__") ⟨[.type "set",a],[]⟩) (wants Q₁ E) s:=by
 refine codeAny_of_tree ?_
 show wpAny _ A.in1 (checkBuiltinCall "set.__new__" ⟨[.type "set",a],[]⟩ >>=fun _=> again (.builtin "set.__new__" ⟨[.type "set",a],[]⟩)) _ _ s
 refine wpAny_bind (wpAny_of_eq (PySem.F.newCall_set_1 a) (wpAny_pure ⟨plainId_quiet OT _,codeAny_builtin PySem.F.entry_set_new ?_⟩))
 rw [Mv OT _]
 unfold Builtin.«set.__new__» Builtin.Frozenset.newClass
 have hsb:=sub_set_self
 obtain⟨hp,g,d,tk,os⟩:=s
 dsimp only
 wp_walk
 refine wpAny_askSetting (wpAny_pure ?_)
 dsimp only
 simp only [newObj]
 exact wpAny_bind (wpAny_alloc (wpAny_pure (wpAny_pure h)))
theorem cQ.fresh{h:Heap}{a:Addr}(e:h.get? a=some {cls:= .type "set",dict:=none,data:= .set #[] 0 (.fresh 0 0 (!fb w))}):cQ P w h a []:=by
 refine⟨_,e,⟨rfl,rfl,rfl⟩,#[],0,_,rfl,fun e he=> by simp at he,⟨[],.nil,.refl _⟩,by decide,rfl,?_,fun z=> absurd rfl z⟩
 cases hb:fb w with
 | true=> exact .inl rfl
 | false=> exact .inr rfl
set_option maxHeartbeats 3200000 in
theorem Gg{l:Addr}{items:Array Value}{ss:List Str}{Q:Value→Shared→Prop}
  (hh:A.handled=none)(hl:s.heap.IsList l items)(hi:StrsAre items.toList ss)(hb:items.size+1 < scanBound)
  (h:∀(h':Heap) (tk:Nat),cQ P w h' s.heap.objs.size (ss.foldl cN [])→(∀b o,s.heap.get? b=some o→h'.get? b=some o)→Q (.ref s.heap.objs.size) {s with heap:=h',toks:=tk}):
  wpAny (model P w) A (call (.type "set") [.ref l]) Q E s:=by
 obtain⟨c,tl,hmro⟩:=PySem.F.called_set.mro
 have hmade:=PySem.F.called_set.made
 have hsub:=PySem.F.called_set.sub
 refine wpAny_call (codeAny_of_tree ?_)
 show wpAny _ _ (callAny (.type "set") _) _ _ _
 refine wpAny_pure ⟨Code.quiet_builtin _ (by decide+kernel),codeAny_builtin PySem.F.entry_type_call ?_⟩
 rw [Around.under_plain (weight_type_call_type "set" [.ref l] []) rfl]
 have h1:=PySem.F.called_set.notType
 have h2:=PySem.F.called_set.canCreate
 have hct:=PySem.F.typeCall_set_1 (.ref l)
 repeat (any_goals (first | assumption | wp_step))
 generalize hob:({cls:= .type "set",dict:=none,data:= .set #[] 0 (.fresh 0 0 (!fb w))}:Obj)=ob
 refine codeAny_mono (Gf (P:=P) (w:=w) (.ref l) (E:=E) (Q₁:=fun u s₁=> u= .ref s.heap.objs.size∧s₁={s with heap:=s.heap.push ob}) (by subst hob;exact⟨rfl,rfl⟩)) fun r s₁ hr=> ?_
 cases r with
 | error e=> exact hr
 | ok fl=>
  cases fl with
  | ret u=>
   obtain⟨rfl,rfl⟩:=hr
   have hS:(s.heap.push ob).get? s.heap.objs.size=some ob:=KD _ (by subst hob;rfl)
   have hT:Shared.TypeIs {s with heap:=s.heap.push ob} (.ref s.heap.objs.size) "set":=⟨_,hS,by subst hob;rfl⟩
   have hli:=PySem.F.called_set.init.lookup
   have hbi:=PySem.F.called_set.init.bind (.ref s.heap.objs.size)
   repeat (any_goals (first | assumption | wp_step))
   refine codeAny_mono (codeAny_call_builtin (R:=wants (fun r s₂=> r= .none∧∃h' tk,s₂={s with heap:=h',toks:=tk}∧cQ P w h' s.heap.objs.size (ss.foldl cN [])∧∀b o,s.heap.get? b=some o→h'.get? b=some o) E)
    PySem.F.called_set.init.plain PySem.F.entry_set_init (check_set_init_1 hT ?_)) fun r₂ s₂ hr₂=> ?_
   ·obtain⟨ol,o1,c1,nl,d1⟩:=hl
    obtain⟨oc,od,oda,osl⟩:=ol
    simp only at c1 d1
    subst c1;subst d1
    have o2:(s.heap.push ob).get? l=some {cls:= .type "list",dict:=od,data:= .seq items nl,slots:=osl}:=Kg _ o1
    have q1:=PySem.F.sub_list_set
    have q2:=PySem.F.sub_list_frozenset
    have q3:(MY "list"==MY "dict")=false:=by decide
    have l1:(s.heap.push ob).IsList l items:=⟨_,o2,rfl,nl,rfl⟩
    subst hob
    unfold Builtin.«set.__init__» noKeywords Builtin.Frozenset.updateFrom
    generalize hPI:pyIter=PI
    wp_walk
    subst hPI
    refine wpAny_pyIter_list l1 ?_;refine wpAny_bind (wpAny_runValue ?_)
    have ll:l < s.heap.objs.size:=Kv o1
    have sz:∀ob:Obj,(s.heap.push ob).objs.size=s.heap.objs.size+1:=fun _=> NS _ _
    have n1:∀ob:Obj,l≠(s.heap.push ob).objs.size:=fun _=> by rw [sz];exact KN (LM ll)
    have n2:∀ob:Obj,s.heap.objs.size ∉ [(s.heap.push ob).objs.size,l]:=fun _=> by
     rw [sz];simp only [Kz,Ln,or_false,not_or];exact⟨KN (Mj _),NL ll⟩
    have hv:∀(i:Nat)(v:Value),items[i]?=some v→∃t,v= .str ((fun i=> (ss[i]?).getD (Ka "")) i) t:=fun i v e=> by
     rw [←NI] at e
     have:∀{vs:List Value}{ss:List Str},StrsAre vs ss→∀(i:Nat)(v:Value),vs[i]?=some v→∃t,v= .str ((ss[i]?).getD (Ka "")) t:=by
      intro vs ss x
      induction x with
      | nil=> intro i v e;simp at e
      | cons y t r ih=>
       intro i v e
       cases i with
       | zero=> simp at e;exact⟨t,by rw [←e];rfl⟩
       | succ i=> simp only [Mf] at e⊢;exact ih i v e
     exact this hi i v e
    have hm:iO (fun i=> (ss[i]?).getD (Ka "")) items.size=ss.foldl cN []:=by
     have e:items.size=ss.length:=by rw [←m3 hi,KJ]
     unfold iO
     rw [e]
     congr 1
     apply MC (by simp)
     intro i a b
     simp at a b⊢
     rw [KI (by omega)];rfl
    refine Ge (Qc (show A.in1.in1.in1.handled=none by simp [hh]) _ l (n1 _) items).toS s.heap.objs.size (n2 _) _ hv hb (items.size - 0) 0 _ (by omega) (Lj _)
     ⟨⟨_,KD _ rfl,rfl,rfl⟩,l1.push _⟩ ?hS0 ?hR
    case hS0=>
     exact cQ.fresh (Kg _ hS)
    case hR=>
     intro s' m S'
     rw [hm] at S'
     obtain⟨h',g',d',tk',os'⟩:=s'
     obtain rfl:g'=s.gens:=m.gens
     obtain rfl:d'=s.drawn:=m.drawn
     obtain rfl:os'=s.os:=m.os
     show wpAny _ _ _ _ _ _
     refine wpAny_pure (wpAny_pure ⟨rfl,h',tk',rfl,S',fun b o e=> ?_⟩)
     have hb1:b < s.heap.objs.size:=Kv e
     refine m.heap b o ?_ (Kg _ (Kg _ e))
     rw [sz];simp only [Kz,Ln,or_false,not_or];exact⟨KN hb1,KN (LM hb1)⟩
   ·cases r₂ with
    | error e=> exact hr₂
    | ok fl₂=>
     cases fl₂ with
     | ret r=>
      obtain⟨rfl,h',tk,rfl,S',k'⟩:=hr₂
      repeat (any_goals (first | assumption | wp_step))
      exact h _ _ S' k'
     | _=> exact hr₂.elim
  | _=> exact hr.elim
end
end L2
namespace L2
open PySem PySem.Spec PyProof.Rows PySem.W PySem.Calls
theorem g4:Slot "set_iterator" "__next__" "set_iterator.__next__":=
 .of (owner:="set_iterator") (n:="__next__") (by rw [typeLookup_type,builtinLookup_eq_fast];kernel_rfl) (by decide+kernel) (by decide+kernel) (by decide+kernel)
  (by first | exact .inl (by decide+kernel) | exact .inr (by decide+kernel)) (by rw [isSubtype_type];kernel_rfl)
theorem oV:entryFor table "set_iterator.__next__"=some Builtin.«set_iterator.__next__»:=entryFor_of_tree (by kernel_rfl)
theorem z4:Manifest.owners.lookup (String.ofList ['r','o','t','a','r','e','t','i','_','t','e','s'].reverse)=some Manifest.sig_set_iterator:=by kernel_rfl
theorem oW(a:Value):argsOk "set_iterator.__next__" ⟨[a],[]⟩:=by
 unfold argsOk
 rw [signature?_of (id:="set_iterator.__next__") (n:=['_','_','t','x','e','n','_','_']) (o:=['r','o','t','a','r','e','t','i','_','t','e','s']) (by kernel_rfl) z4];kernel_rfl
theorem Gh:entryFor table "set.__iter__"=some Builtin.«frozenset.__iter__»:=entryFor_alias (id':="frozenset.__iter__") (by kernel_rfl) rfl (by decide+kernel) (by kernel_rfl)
theorem tj{α:Type}:∀{l:List α}{i:Nat}(h:i < l.length),(l[i]::l.eraseIdx i).Perm l
 | a::l,0,h=> .refl _
 | a::l,i+1,h=> by
  have:=tj (l:=l) (i:=i) (by simpa using h)
  simp only [List.getElem_cons_succ,List.eraseIdx_cons_succ]
  exact(List.Perm.swap _ _ _).trans (this.cons a)
theorem z5{α:Type}(next:Nat→Nat):∀(f k:Nat)(left:List α)(out:Array α),f=left.length→(pickOrder.go next f k left out).toList.Perm (out.toList++left)
 | 0,k,left,out,e=> by
  rw [NO e.symm];unfold pickOrder.go;simp
 | f+1,k,left,out,e=> by
  unfold pickOrder.go
  have hlt:next k % left.length < left.length:=Nat.mod_lt _ (by omega)
  rw [KI hlt]
  refine(z5 next f (k+1) _ _ (by rw [N5 hlt];omega)).trans ?_
  rw [PN,Nt]
  exact List.Perm.append_left _ (tj hlt)
theorem Gi{α:Type}(next:Nat→Nat)(xs:Array α):(pickOrder next xs).toList.Perm xs.toList:=by
 have:=z5 next xs.size 0 xs.toList #[] (by simp)
 simpa [pickOrder] using this
section
variable {P:Program} {w:World} {A:Around} {E:Value→Shared→Prop}
theorem z6{α:Type}:∀(n:Nat)(xs:List α)(s:Shared)(Q:List α→Shared→Prop),n=xs.length→(∀ys d,ys.Perm xs→Q ys {s with drawn:=d})→wpAny (model P w) A (drawOrder n xs) Q E s
 | 0,xs,s,Q,e,q=> by
  rw [NO e.symm] at q⊢
  unfold drawOrder
  exact wpAny_pure (q [] s.drawn (.refl _))
 | n+1,[],s,Q,e,q=> by cases e
 | n+1,x::xs,s,Q,e,q=> by
  unfold drawOrder
  refine wpAny_bind ?_
  intro Γ p hΓ
  refine⟨by simp,?_⟩
  generalize hi:(model P w).w.draws .order (s.drawn.get .order)% (x::xs).length=i
  have hlt:i < (x::xs).length:=by rw [←hi];exact Nat.mod_lt _ (by simp)
  have key:wpAny (model P w) A (match (x::xs)[i]? with | some y=> (do return y::(←drawOrder n ((x::xs).eraseIdx i))) | none=> unsupported "internal:drawOrder") Q E {s with drawn:=s.drawn.bump .order}:=by
   rw [KI hlt]
   refine wpAny_bind (z6 n _ _ _ (by rw [N5 hlt];simp at e⊢;omega) fun ys d hp=> wpAny_pure (q _ d ?_))
   exact(hp.cons _).trans (tj hlt)
  exact key
end
def fc(h:Heap)(it:Addr)(f:Value)(i:Nat)(a:Addr)(n ep:Nat):Prop:=∃o,h.get? it=some o∧o.cls= .type "set_iterator"∧o.data= .fields #[f,.int i 0,.ref a,.int n 0,.int ep 0]
theorem fc.typeIs{s:Shared}{it f i a n ep}(x:fc s.heap it f i a n ep):s.TypeIs (.ref it) "set_iterator":=let ⟨o,h,c,_⟩:=x;⟨o,h,c⟩
section
variable {P:Program} {w:World} {A:Around} {E:Value→Shared→Prop} {s:Shared} {a:Addr} {o:Obj} {es:Array (Int×Value)} {ep:Nat} {t:SetTable}
theorem z7{slot i:Nat}{Q:Option (Value×Nat)→Shared→Prop}(hb:fb w=true)(o1:s.heap.get? a=some o)(d1:o.data= .set es ep t)(f1:t.fits es.size=true)
  (h:Q (((pickOrder (w.params.setOrder a ep) es)[i]?).map fun e=> (e.2,slot)) s):wpAny (model P w) A (setNext a slot i ep) Q E s:=by
 unfold setNext setWalk setsByText
 refine wpAny_bind (wpAny_setState_of o1 d1 f1 (wpAny_bind (wpAny_bind (wpAny_askSetting (wpAny_pure ?_)))))
 rw [if_pos (show(model P w).w.params.followText "set-order"=true from hb)]
 rw [if_neg (by simp)]
 refine wpAny_bind (wpAny_bind (wpAny_setState_of o1 d1 f1 (wpAny_bind (wpAny_bind (wpAny_askSetting (wpAny_pure ?_))))))
 rw [if_pos (show(model P w).w.params.followText "set-order"=true from hb)]
 exact wpAny_bind (wpAny_askSetting (wpAny_pure (wpAny_pure h)))
theorem z8{slot i:Nat}{Q:Option (Value×Nat)→Shared→Prop}(hb:fb w=false)(o1:s.heap.get? a=some o)(d1:o.data= .set es ep t)(f1:t.fits es.size=true)(hd:es.size≤1)(hl:t.led=true)
  (h:Q (match es[Nl t.place slot]?,t.place[Nl t.place slot]? with | some (_,x),some j=> some (x,j+1) | _,_=> none) s):wpAny (model P w) A (setNext a slot i ep) Q E s:=by
 unfold setNext setsByText
 refine wpAny_bind (wpAny_setState_of o1 d1 f1 (wpAny_bind (wpAny_bind (wpAny_askSetting (wpAny_pure ?_)))))
 rw [if_neg (show ¬(model P w).w.params.followText "set-order"=true from by show ¬fb w=true;rw [hb];decide)]
 show wpAny _ _ (if (!t.plain && decide (es.size > 1))=true then _ else _) _ _ _
 rw [if_neg (by simp;omega)]
 refine wpAny_bind (m:=if (!t.led && !es.isEmpty)=true then unsupported "set:maker-not-led" else pure ()) ?_
 rw [if_neg (by simp [hl])]
 exact wpAny_pure (wpAny_pure h)
theorem Gj{it:Addr}{slot slot' i:Nat}{x:Value}{Q:Option Value→Shared→Prop}(hit:fc s.heap it (.int slot 0) i a es.size ep)(o1:s.heap.get? a=some o)(d1:o.data= .set es ep t)(f1:t.fits es.size=true)
  (nx:∀E' Q',Q' (some (x,slot')) s→wpAny (model P w) A.in1 (setNext a slot i ep) Q' E' s)
  (hQ:∀h',fc h' it (.int slot' 0) (i+1) a es.size ep→Ma it s.heap h'→Q (some x) {s with heap:=h'}):wpAny (model P w) A (pyNext (.ref it)) Q E s:=by
 obtain⟨u,u1,c1,e1⟩:=id hit
 unfold pyNext
 refine wpAny_bind (wpAny_attempt (wpAny_callSpecial?_slot (name:=Ka "__next__") hit.typeIs g4 (wpAny_call_entry g4 hit.typeIs oV ?_ (oW _))))
 unfold Builtin.«set_iterator.__next__»
 refine wpAny_bind (m:=slotArgs _ _ _) (wpAny_pure (wpAny_bind (wpAny_fieldsOf u1 e1 ?_)))
 show wpAny _ _ (setEntries a >>=_) _ _ s
 refine wpAny_bind (wpAny_setEntries_of o1 d1 f1 ?_)
 rw [if_neg (by simp)]
 show wpAny _ _ (setNext a ((slot:Int)).toNat ((i:Int)).toNat ((ep:Int)).toNat >>=_) _ _ s
 simp only [LW]
 refine wpAny_bind (nx _ _ ?_)
 show wpAny _ _ (setField (.ref it) 0 (rawInt (slot':Int)) >>=_) _ _ s
 refine wpAny_bind (wpAny_setField u1 e1 (by simp) ?_)
 have g1:=LG (Qn (·.setIfInBounds 0 (rawInt (slot':Int)))) u1 (MV (LQ e1 _))
 have k1:=LQ e1 (·.setIfInBounds 0 (rawInt (slot':Int)))
 refine wpAny_bind (wpAny_setField g1 k1 (by simp) (wpAny_pure ⟨x,rfl,wpAny_pure (hQ _ ?_ ((La ..).trans (La ..)))⟩))
 refine⟨_,LG _ g1 (MV (LQ k1 _)),(Oc ..).trans ((Oc ..).trans c1),?_⟩
 rw [LQ k1];simp [rawInt]
theorem Gk{it pl:Addr}{i k:Nat}{hk:Int}{x:Value}{ol:Obj}{ps:Array Value}{nl:Nat}{Q:Option Value→Shared→Prop}(hit:fc s.heap it (.ref pl) i a es.size ep)(o1:s.heap.get? a=some o)(d1:o.data= .set es ep t)(f1:t.fits es.size=true)
  (l1:s.heap.get? pl=some ol)(l2:ol.data= .seq ps nl)(p1:ps[i]?=some (.int (k:Int) 0))(x1:es[k]?=some (hk,x))
  (hQ:∀h',fc h' it (.ref pl) (i+1) a es.size ep→Ma it s.heap h'→Q (some x) {s with heap:=h'}):wpAny (model P w) A (pyNext (.ref it)) Q E s:=by
 obtain⟨u,u1,c1,e1⟩:=id hit
 unfold pyNext
 refine wpAny_bind (wpAny_attempt (wpAny_callSpecial?_slot (name:=Ka "__next__") hit.typeIs g4 (wpAny_call_entry g4 hit.typeIs oV ?_ (oW _))))
 unfold Builtin.«set_iterator.__next__»
 refine wpAny_bind (m:=slotArgs _ _ _) (wpAny_pure (wpAny_bind (wpAny_fieldsOf u1 e1 ?_)))
 show wpAny _ _ (setEntries a >>=_) _ _ s
 refine wpAny_bind (wpAny_setEntries_of o1 d1 f1 ?_)
 rw [if_neg (by simp)]
 show wpAny _ _ (seqItems? (.ref pl) >>=_) _ _ s
 refine wpAny_bind (wpAny_seqItems l1 l2 ?_)
 simp only [LW,p1]
 refine wpAny_bind ?_
 unfold setNextDrawn
 refine wpAny_bind (wpAny_setState_of o1 d1 f1 ?_)
 simp only [LW]
 rw [if_neg (by simp),x1]
 refine wpAny_pure (wpAny_bind (wpAny_setField u1 e1 (by simp) (wpAny_pure ⟨x,rfl,wpAny_pure (hQ _ ?_ (La ..))⟩)))
 refine⟨_,LG _ u1 (MV (LQ e1 _)),(Oc ..).trans c1,?_⟩
 rw [LQ e1];simp [rawInt]
theorem Gm{it:Addr}{slot i:Nat}{Q:Option Value→Shared→Prop}(hh:A.handled=none)(hit:fc s.heap it (.int slot 0) i a es.size ep)(o1:s.heap.get? a=some o)(d1:o.data= .set es ep t)(f1:t.fits es.size=true)
  (nx:∀E' Q',Q' none s→wpAny (model P w) A.in1 (setNext a slot i ep) Q' E' s)
  (hQ:∀h',QO it s.heap h'→Q none {s with heap:=h'}):wpAny (model P w) A (pyNext (.ref it)) Q E s:=by
 obtain⟨u,u1,c1,e1⟩:=id hit
 unfold pyNext
 refine wpAny_bind (wpAny_attempt (wpAny_callSpecial?_slot (name:=Ka "__next__") hit.typeIs g4 (wpAny_call_entry g4 hit.typeIs oV ?_ (oW _))))
 unfold Builtin.«set_iterator.__next__»
 refine wpAny_bind (m:=slotArgs _ _ _) (wpAny_pure (wpAny_bind (wpAny_fieldsOf u1 e1 ?_)))
 show wpAny _ _ (setEntries a >>=_) _ _ s
 refine wpAny_bind (wpAny_setEntries_of o1 d1 f1 ?_)
 rw [if_neg (by simp)]
 show wpAny _ _ (setNext a ((slot:Int)).toNat ((i:Int)).toNat ((ep:Int)).toNat >>=_) _ _ s
 simp only [LW]
 refine wpAny_bind (nx _ _ ?_)
 show wpAny _ _ (setField (.ref it) 2 .none >>=_) _ _ s
 refine wpAny_bind (wpAny_setField u1 e1 (by simp) ?_)
 refine wpAny_bind (m:=newExc (.type "StopIteration") []) ?_
 simp only [newExc,newTuple]
 refine wpAny_bind (wpAny_newObj_type ?_ (by size_fits));refine wpAny_bind (m:=firstArgMember _ _) (wpAny_of_eq (a:=Mm) (by first | rfl | (simp only [firstArgMember];rfl)) ?_)
 refine wpAny_newObj_type ?_ (by size_fits)
 simp only [raiseNew]
 refine wpAny_bind (wpAny_handled ?_);rw [show A.in1.handled=none from hh]
 refine wpAny_bind (wpAny_pure (wpAny_throw ?_));refine wpAny_bind (wpAny_isInstance (T:="StopIteration") (b:=true) ⟨_,KD _ rfl,rfl⟩ isSubtype_stop ?_)
 exact wpAny_pure (hQ _ (((La ..).extBut.push _).push _))
theorem Gp{it pl:Addr}{i:Nat}{ol:Obj}{ps:Array Value}{nl:Nat}{Q:Option Value→Shared→Prop}(hh:A.handled=none)(hit:fc s.heap it (.ref pl) i a es.size ep)(o1:s.heap.get? a=some o)(d1:o.data= .set es ep t)(f1:t.fits es.size=true)
  (l1:s.heap.get? pl=some ol)(l2:ol.data= .seq ps nl)(p1:ps[i]?=none)
  (hQ:∀h',QO it s.heap h'→Q none {s with heap:=h'}):wpAny (model P w) A (pyNext (.ref it)) Q E s:=by
 obtain⟨u,u1,c1,e1⟩:=id hit
 unfold pyNext
 refine wpAny_bind (wpAny_attempt (wpAny_callSpecial?_slot (name:=Ka "__next__") hit.typeIs g4 (wpAny_call_entry g4 hit.typeIs oV ?_ (oW _))))
 unfold Builtin.«set_iterator.__next__»
 refine wpAny_bind (m:=slotArgs _ _ _) (wpAny_pure (wpAny_bind (wpAny_fieldsOf u1 e1 ?_)))
 show wpAny _ _ (setEntries a >>=_) _ _ s
 refine wpAny_bind (wpAny_setEntries_of o1 d1 f1 ?_)
 rw [if_neg (by simp)]
 show wpAny _ _ (seqItems? (.ref pl) >>=_) _ _ s
 refine wpAny_bind (wpAny_seqItems l1 l2 ?_)
 simp only [LW,p1]
 show wpAny _ _ (setField (.ref it) 0 (rawInt 0) >>=_) _ _ s
 refine wpAny_bind (wpAny_setField u1 e1 (by simp) ?_)
 have g1:=LG (Qn (·.setIfInBounds 0 (rawInt 0))) u1 (MV (LQ e1 _))
 have k1:=LQ e1 (·.setIfInBounds 0 (rawInt 0))
 refine wpAny_bind (wpAny_setField g1 k1 (by simp) ?_)
 refine wpAny_bind (m:=newExc (.type "StopIteration") []) ?_
 simp only [newExc,newTuple]
 refine wpAny_bind (wpAny_newObj_type ?_ (by size_fits));refine wpAny_bind (m:=firstArgMember _ _) (wpAny_of_eq (a:=Mm) (by first | rfl | (simp only [firstArgMember];rfl)) ?_)
 refine wpAny_newObj_type ?_ (by size_fits)
 simp only [raiseNew]
 refine wpAny_bind (wpAny_handled ?_);rw [show A.in1.handled=none from hh]
 refine wpAny_bind (wpAny_pure (wpAny_throw ?_));refine wpAny_bind (wpAny_isInstance (T:="StopIteration") (b:=true) ⟨_,KD _ rfl,rfl⟩ isSubtype_stop ?_)
 exact wpAny_pure (hQ _ ((((La ..).trans (La ..)).extBut.push _).push _))
end
end L2
namespace L2
open PySem PySem.Spec PyProof.Rows PySem.W PySem.Calls
theorem z9:Slot "set_iterator" "__iter__" "set_iterator.__iter__":=
 .of (owner:="set_iterator") (n:="__iter__") (by rw [typeLookup_type,builtinLookup_eq_fast];kernel_rfl) (by decide+kernel) (by decide+kernel) (by decide+kernel)
  (by first | exact .inl (by decide+kernel) | exact .inr (by decide+kernel)) (by rw [isSubtype_type];kernel_rfl)
theorem Gq:entryFor table "set_iterator.__iter__"=some Builtin.«dict_keyiterator.__iter__»:=entryFor_alias (id':="dict_keyiterator.__iter__") (by kernel_rfl) rfl (by decide+kernel) (by kernel_rfl)
theorem Gr(a:Value):argsOk "set_iterator.__iter__" ⟨[a],[]⟩:=by
 unfold argsOk
 rw [signature?_of (id:="set_iterator.__iter__") (n:=['_','_','r','e','t','i','_','_']) (o:=['r','o','t','a','r','e','t','i','_','t','e','s']) (by kernel_rfl) z4];kernel_rfl
theorem fc.at{h h':Heap}{it f i a n ep}(x:fc h it f i a n ep)(e:∀o,h.get? it=some o→h'.get? it=some o):fc h' it f i a n ep:=let ⟨o,ho,r⟩:=x;⟨o,e _ ho,r⟩
section
variable {P:Program} {w:World} {A:Around} {E:Value→Shared→Prop} {s:Shared} {a:Addr} {o:Obj} {es:Array (Int×Value)} {ep:Nat} {t:SetTable}
theorem Aa{it:Addr}{f:Value}{i n:Nat}{Q:Value→Shared→Prop}(hit:fc s.heap it f i a n ep)(h:Q (.ref it) s):wpAny (model P w) A (pyIter (.ref it)) Q E s:=by
 refine wpAny_pyIter_slot hit.typeIs z9 (wpAny_call_entry z9 hit.typeIs Gq ?_ (Gr _))
 exact wpAny_bind (m:=slotArgs _ _ _) (wpAny_pure (wpAny_pure ⟨_,rfl,"set_iterator",_,hit.typeIs,g4.lookup,h⟩))
theorem Ab(hh:A.handled=none)(it:Addr)(hne:a≠it)(d1:o.data= .set es ep t)(f1:t.fits es.size=true)(vs:List Value)(hl:vs.length=es.size)(sl:Nat→Nat)
  (nx:∀(s:Shared) (i:Nat) (h:i < vs.length) E' Q',s.heap.get? a=some o→Q' (some (vs[i],sl (i+1))) s→wpAny (model P w) A.in1 (setNext a (sl i) i ep) Q' E' s)
  (nd:∀(s:Shared) E' Q',s.heap.get? a=some o→Q' none s→wpAny (model P w) A.in1 (setNext a (sl es.size) es.size ep) Q' E' s):
  Walks P w A it [it,a] [it] es.size (fun i v=> vs[i]?=some v) (fun i h=> fc h it (.int (sl i:Nat) 0) i a es.size ep∧h.get? a=some o) where
 sub:=fun b hb=> by rw [KP] at hb;simp [hb]
 frame:=fun _ _ _ st hk=> ⟨st.1.at fun o e=> hk it (by simp) o e,hk a (by simp) o st.2⟩
 item:=fun i s Q E hi st hQ=> by
  have hi':i < vs.length:=by omega
  refine Gj st.1 st.2 d1 f1 (fun E' Q' q=> nx s i hi' E' Q' st.2 q) fun h' it' sb=> ?_
  exact hQ _ h' s.toks (by simp [hi']) ⟨it',by rw [sb.2 a hne];exact st.2⟩ fun b u hb e=> sb.extBut b u (fun z=> hb (by simp [z])) e
 done:=fun s Q E st hQ=> Gm hh st.1 st.2 d1 f1 (fun E' Q' q=> nd s E' Q' st.2 q) fun h' he=> hQ h' s.toks fun b u hb e=> he b u (fun z=> hb (by simp [z])) e
 self:=fun _ _ _ _ st hQ=> Aa st.1 hQ
theorem Gs(hh:A.handled=none)(it pl:Addr)(hne:a≠it)(hnp:pl≠it)(d1:o.data= .set es ep t)(f1:t.fits es.size=true)(vs:List Value)(ks:List Nat){ol:Obj}{nl:Nat}(l2:ol.data= .seq (ks.map fun(k:Nat)=> MH (k:Int) 0).toArray nl)
  (hl:ks.length=es.size)(hv:∀i k:Nat,ks[i]?=some k→∃h x,es[k]?=some (h,x)∧vs[i]?=some x):
  Walks P w A it [it,a,pl] [it] es.size (fun i v=> vs[i]?=some v) (fun i h=> fc h it (.ref pl) i a es.size ep∧h.get? a=some o∧h.get? pl=some ol) where
 sub:=fun b hb=> by rw [KP] at hb;simp [hb]
 frame:=fun _ _ _ st hk=> ⟨st.1.at fun o e=> hk it (by simp) o e,hk a (by simp) o st.2.1,hk pl (by simp) ol st.2.2⟩
 item:=fun i s Q E hi st hQ=> by
  have hi':i < ks.length:=by omega
  obtain⟨h,x,e1,e2⟩:=hv i ks[i] (by simp [hi'])
  refine Gk st.1 st.2.1 d1 f1 st.2.2 l2 (k:=ks[i]) (by simp [hi']) e1 fun h' it' sb=> ?_
  exact hQ _ h' s.toks e2 ⟨it',by rw [sb.2 a hne];exact st.2.1,by rw [sb.2 pl hnp];exact st.2.2⟩ fun b u hb e=> sb.extBut b u (fun z=> hb (by simp [z])) e
 done:=fun s Q E st hQ=> Gp hh st.1 st.2.1 d1 f1 st.2.2 l2 (by simp [hl]) fun h' he=> hQ h' s.toks fun b u hb e=> he b u (fun z=> hb (by simp [z])) e
 self:=fun _ _ _ _ st hQ=> Aa st.1 hQ
theorem Ac{j k:Nat}:Nl #[j] k=if j < k then 1 else 0:=by
 unfold Nl
 show PQ #[j] k 1 0 1=_
 simp [PQ]
theorem Gu{ss:List Str}{Q:Value→Shared→Prop}(hh:A.handled=none)(hS:cQ P w s.heap a ss)
  (q:∀(I:Addr) (h1:Heap) (d1:Drawn) (vs:List Value) (fp wr:List Addr) (n:Nat) (St:Nat→Heap→Prop),(∀b u,s.heap.get? b=some u→h1.get? b=some u)→(∃ss',StrsAre vs ss'∧ss'.Perm ss)→n=ss.length→
   Walks P w A I fp wr n (fun i v=> vs[i]?=some v) St→St 0 h1→(∀b∈fp,b=a∨s.heap.objs.size≤b)→(∀b∈wr,s.heap.objs.size≤b)→vs.length=n→(∀b∈fp,b < h1.objs.size)→Q (.ref I) {s with heap:=h1,drawn:=d1}):
  wpAny (model P w) A (pyIter (.ref a)) Q E s:=by
 obtain⟨o,o1,x1,es,ep,t,d1,el,⟨ss',s1,s2⟩,b1,f1,l1,p1⟩:=hS
 have hT:s.TypeIs (.ref a) "set":=⟨o,o1,x1.1⟩
 have la:a < s.heap.objs.size:=Kv o1
 have ln:es.size=ss.length:=by rw [←s2.length_eq,←m3 s1,Kd,KJ]
 refine wpAny_pyIter_slot hT OU (wpAny_call_entry OU hT Gh ?_ (PySem.F.args_set_iter_1 _))
 unfold Builtin.«frozenset.__iter__»
 refine wpAny_bind (m:=Builtin.Frozenset.slot0 _ _) (wpAny_pure ?_)
 refine wpAny_bind (m:=Builtin.Frozenset.sizeOf a) (wpAny_bind (wpAny_setEntries_of o1 d1 f1 (wpAny_pure ?_)))
 refine wpAny_bind (m:=setDrawn a) ?_
 unfold setDrawn setsByText
 refine wpAny_bind (wpAny_setState_of o1 d1 f1 (wpAny_bind (wpAny_bind (wpAny_askSetting (wpAny_pure (wpAny_pure ?_))))))
 show wpAny _ _ (if (!(fb w) && (!t.plain && decide (es.size > 1)))=true then _ else _) _ _ _
 have lastly:∀(f:Value)(h1:Heap)(d:Drawn),h1.get? a=some o→(∀I h2,h2=h1.push {cls:= .type "set_iterator",data:= .fields #[f,.int (0:Nat) 0,.ref a,.int es.size 0,.int ep 0]}→I=h1.objs.size→Q (.ref I) {s with heap:=h2,drawn:=d})→
   wpAny (model P w) A.in1 (setEpoch a >>=fun e=> newFields "set_iterator" [f,rawInt 0,.ref a,rawInt es.size,rawInt e] >>=fun v=> ret v)
    (fun fin s'=> ∃v,fin= .done (.ret v)∧∃T' r,s'.TypeIs v T'∧typeLookup (.type T') "__next__"=pure (some r)∧Q v s') E {s with heap:=h1,drawn:=d}:=by
  intro f h1 d e1 k
  refine wpAny_bind (wpAny_setEpoch_of (s:={s with heap:=h1,drawn:=d}) e1 d1 f1 ?_)
  refine wpAny_bind (wpAny_newObj_type (wpAny_pure ?_))
  exact⟨_,rfl,"set_iterator",_,⟨_,KD _ rfl,rfl⟩,g4.lookup,k _ _ rfl rfl⟩
 have szp:∀(h:Heap)(ob:Obj),(h.push ob).objs.size=h.objs.size+1:=fun _ _=> NS _ _
 have n0:a≠s.heap.objs.size:=KN la
 by_cases hdr:(!(fb w) && (!t.plain && decide (es.size > 1)))=true
 ·rw [if_pos hdr]
  refine wpAny_bind (z6 es.size (Lp es.size) s _ (by simp) fun ks d hp=> wpAny_bind (m:=newTuple _) (wpAny_newObj_type ?_ ?_))
  ·have lk:ks.length=es.size:=by rw [hp.length_eq,MS]
   refine lastly _ (s.heap.push _) d (Kg _ o1) fun I h2 e2 eI=> ?_
   subst e2 eI
   have k1:a≠(s.heap.push {cls:= .type "tuple",data:= .seq (ks.map fun(i:Nat)=> rawInt i).toArray}).objs.size:=by rw [szp];exact KN (LM la)
   have k2:s.heap.objs.size≠(s.heap.push {cls:= .type "tuple",data:= .seq (ks.map fun(i:Nat)=> rawInt i).toArray}).objs.size:=by rw [szp];exact KN (Mj _)
   have pm:(ks.map fun k=> ((es[k]?).map (·.2)).getD .none).Perm (es.toList.map (·.2)):=by
    refine(hp.map _).trans (.of_eq ?_)
    apply MC (by simp)
    intro i a b
    simp at a b⊢
    rw [Nd a];rfl
   obtain⟨ss2,q3,q4⟩:=oU pm s1
   refine q _ _ d _ _ _ es.size _ (fun b u e=> Kg _ (Kg _ e)) ⟨ss2,q3,q4.trans s2⟩ ln
    (Gs hh _ _ k1 k2 d1 f1 _ ks rfl lk (fun i k e=> ?_)) ⟨⟨_,KD _ rfl,rfl,rfl⟩,Kg _ (Kg _ o1),Kg _ (KD _ rfl)⟩ (fun b hb=> ?_) (fun b hb=> ?_) (by simp [lk]) (fun b hb=> ?_)
   ·have hk:k < es.size:=by
     have:=hp.mem_iff.mp (KW e)
     simpa using this
    refine⟨es[k].1,es[k].2,by simp [hk],?_⟩
    rw [KQ,e];simp [hk]
   ·simp only [Kz,Ln,or_false] at hb
    rcases hb with rfl | rfl | rfl
    ·right;rw [szp];exact M7 _
    ·left;rfl
    ·right;exact Kk _
   ·rw [KP] at hb;rw [hb,szp];exact M7 _
   ·simp only [Kz,Ln,or_false] at hb
    rw [szp,szp]
    rcases hb with rfl | rfl | rfl
    ·rw [szp];exact Mj _
    ·exact LM (LM la)
    ·exact LM (Mj _)
  ·unfold sizeOk;simp [hp.length_eq]
   have:scanBound=4096:=rfl
   have:sizeLine=16777216:=by first | rfl | exact sizeLine_eq
   omega
 ·rw [if_neg hdr]
  refine wpAny_bind (wpAny_pure ?_)
  have e0:s={s with heap:=s.heap,drawn:=s.drawn}:=by cases s;rfl
  show wpAny _ _ _ _ _ {s with heap:=s.heap,drawn:=s.drawn}
  refine lastly _ s.heap s.drawn o1 fun I h2 e2 eI=> ?_
  subst e2 eI
  have fpa:∀b∈[s.heap.objs.size,a],b=a∨s.heap.objs.size≤b:=fun b hb=> by
   simp only [Kz,Ln,or_false] at hb
   rcases hb with rfl | rfl
   ·right;exact Kk _
   ·left;rfl
  have wra:∀b∈[s.heap.objs.size],s.heap.objs.size≤b:=fun b hb=> by rw [KP] at hb;rw [hb];exact Kk _
  have fpl:∀(ob:Obj),∀b∈[s.heap.objs.size,a],b < (s.heap.push ob).objs.size:=fun ob b hb=> by
   rw [szp]
   simp only [Kz,Ln,or_false] at hb
   rcases hb with rfl | rfl
   ·exact Mj _
   ·exact LM la
  cases hb:fb w with
  | true=>
   have pm:=Gi (w.params.setOrder a ep) es
   obtain⟨ss2,q3,q4⟩:=oU (pm.map (·.2)) s1
   have lp:((pickOrder (w.params.setOrder a ep) es).toList.map (·.2)).length=es.size:=by rw [Kd,pm.length_eq,KJ]
   refine q _ _ s.drawn _ _ _ es.size _ (fun b u e=> Kg _ e) ⟨ss2,q3,q4.trans s2⟩ ln
    (Ab hh _ n0 d1 f1 _ lp (fun _=> 0) (fun s i hi E' Q' g z=> z7 hb g d1 f1 ?_) (fun s E' Q' g z=> z7 hb g d1 f1 ?_)) ⟨⟨_,KD _ rfl,rfl,rfl⟩,Kg _ o1⟩ fpa wra lp (fpl _)
   ·have hi':i < (pickOrder (w.params.setOrder a ep) es).size:=by rw [←KJ,←Kd (f:=(·.2))];exact hi
    rw [Nd hi']
    simpa using z
   ·have:(pickOrder (w.params.setOrder a ep) es).size=es.size:=by rw [←KJ,pm.length_eq,KJ]
    rw [Ny (by omega)];exact z
  | false=>
   have hled:t.led=true:=by
    rcases l1 with l1 | l1
    ·rw [hb] at l1;cases l1
    ·exact l1
   have hsz:es.size≤1:=by
    rcases Mo 1 es.size with z | z
    ·exfalso;apply hdr;rw [hb,p1 (by omega)];simpa using z
    ·exact z
   have hpl:t.place.size=es.size:=by
    simp only [SetTable.fits,Lf,beq_iff_eq] at f1;exact f1.1
   have lp:(es.toList.map (·.2)).length=es.size:=by rw [Kd,KJ]
   refine q _ _ s.drawn _ _ _ es.size _ (fun b u e=> Kg _ e) ⟨ss',s1,s2⟩ ln
    (Ab hh _ n0 d1 f1 _ lp (fun i=> if i=0 then 0 else t.place.getD 0 0+1) (fun s i hi E' Q' g z=> z8 hb g d1 f1 hsz hled ?_) (fun s E' Q' g z=> z8 hb g d1 f1 hsz hled ?_)) ⟨⟨_,KD _ rfl,rfl,rfl⟩,Kg _ o1⟩ fpa wra lp (fpl _)
   ·have i0:i=0:=by omega
    subst i0
    have h1:es.size=1:=by omega
    obtain⟨j,hj⟩:∃j,t.place=#[j]:=by
     have:t.place.toList.length=1:=by rw [KJ];omega
     match hq:t.place.toList,this with
     | [j],_=> exact⟨j,by rw [←O5 (xs:=t.place),hq]⟩
    rw [hj] at z⊢
    rw [if_pos rfl,Ac,if_neg (by omega)]
    have:es[0]?=some es[0]:=by simp [h1]
    rw [this]
    simpa using z
   ·have hn:es[Nl t.place (if es.size=0 then 0 else t.place.getD 0 0+1)]?=none:=by
     by_cases h0:es.size=0
     ·rw [Ny (by omega)]
     ·have h1:es.size=1:=by omega
      obtain⟨j,hj⟩:∃j,t.place=#[j]:=by
       have:t.place.toList.length=1:=by rw [KJ];omega
       match hq:t.place.toList,this with
       | [j],_=> exact⟨j,by rw [←O5 (xs:=t.place),hq]⟩
      rw [hj,if_neg h0,Ac,if_pos (by simp)]
      rw [Ny (by omega)]
    rw [hn];exact z
end
end L2
namespace L2
open PySem PySem.Spec PyProof.Rows PySem.W PySem.Calls
section
variable {P:Program} {w:World} {A:Around} {E:Value→Shared→Prop} {s:Shared} {a:Addr}
theorem Gv{Q:Bool→Shared→Prop}(hT:s.TypeIs (.ref a) "set")(h:Q false s):wpAny (model P w) A (NT (.ref a)) Q E s:=by
 unfold NT
 refine wpAny_bind (wpAny_specialOf hT PySem.F.slot_set_len.lookup ?_)
 generalize hid:("set.__len__":String)=id0
 wp_delta
 rw [show splitId id0=some ("set","__len__") from by subst hid;decide+kernel]
 subst hid
 refine wpAny_bind (wpAny_isInstance (T:="set") (b:=true) hT (by rw [isSubtype_type];kernel_rfl) ?_)
 refine wpAny_ite_split (fun z=> absurd z (by decide)) (fun _=> ?_)
 refine wpAny_ite_split (fun _=> ?_) (fun z=> absurd (by decide+kernel) z)
 exact wpAny_bind (wpAny_typeOf hT (wpAny_pure h))
theorem Gw{ss:List Str}{R:Result→Shared→Prop}(hh:A.handled=none)(hS:cQ P w s.heap a ss)(S:Addr)(hSa:S≠a)(res:Value)(c₀:Nat)(l1:s.heap.get? S=some {cls:= .type "list",data:= .seq #[] c₀})(hn:ss.length≤4096)
  (hR:∀h' tk d acc c',(∀b u,b≠S→s.heap.get? b=some u→h'.get? b=some u)→h'.get? S=some {cls:= .type "list",dict:=none,data:= .seq acc c',slots:=#[]}→(∃ss',StrsAre acc.toList ss'∧ss'.Perm ss)→R (.ok (.ret res)) {s with heap:=h',toks:=tk,drawn:=d}):
  wpAny (model P w) A.in1 (NU (.ref S) (.ref a) res)
   (fun fin s'=> match fin with | .done f=> R (.ok f) s' | .again c'=> c'.quiet=true∧codeAny (model P w) A c' R s') (fun e s'=> R (.error e) s') s:=by
 obtain⟨o,o1,x1,rest⟩:=id hS
 have hT:s.TypeIs (.ref a) "set":=⟨o,o1,x1.1⟩
 have lS:S < s.heap.objs.size:=Kv l1
 unfold NU
 refine wpAny_bind (wpAny_typeOf hT ?_)
 have e1:Oq (.ref S) (.ref a)=false:=by simp [Oq,hSa]
 have e2:(MY "set"==MY "list")=false:=by decide
 have e3:(MY "set"==MY "tuple")=false:=by decide
 simp only [e1,e2,e3,Nz,L6,if_false]
 refine wpAny_bind (Gu (A:=A.in1) hh hS fun I h1 d1 vs fp wr n St k1 sv en W st hf hw hlv hfl=> ?_)
 have nf:S ∉ fp:=fun z=> by
  rcases hf S z with e | e
  ·exact hSa e
  ·exact absurd lS (Nat.not_lt.mpr e)
 have key:∀(h:Heap)(c₁ tk:Nat),St 0 h→(∀b u,b≠S→s.heap.get? b=some u→h.get? b=some u)→
   h.get? S=some {cls:= .type "list",data:= .seq #[] c₁}→codeAny (model P w) A (.builtin "list.extend.loop" ⟨[.ref S,.ref I,res],[]⟩) R {s with heap:=h,toks:=tk,drawn:=d1}:=by
  intro h c₁ tk hst hk g
  refine codeAny_extend_loopS W.toS (KS (by omega:n≤4096) (by decide)) S nf res n 0 _ #[] c₁ rfl (Lj _) hst g (ItemsOf.nil _) fun s' acc c' m gq hacc=> ?_
  obtain⟨h',g',d',tk',os'⟩:=s'
  obtain rfl:g'=s.gens:=m.gens
  obtain rfl:d'=d1:=m.drawn
  obtain rfl:os'=s.os:=m.os
  refine hR h' tk' d' acc c' (fun b u hb e=> m.heap b u (fun z=> ?_) (hk b u hb e)) gq ?_
  ·rcases Kz.mp z with e' | z
   ·exact hb e'
   ·exact absurd (Kv e) (Nat.not_lt.mpr (hw b z))
  ·have ea:acc.toList=vs:=by
    apply List.ext_getElem?
    intro i
    rcases Mo i n with z | z
    ·have hz:i < acc.size:=by rw [hacc.1];exact z
     have:acc[i]?=some acc[i]:=Nd hz
     rw [NI,this,hacc.2 i _ this]
    ·rw [LP (by rw [KJ,hacc.1];exact z),LP (by omega)]
   rw [ea];exact sv
 have g1:=k1 S _ l1
 refine wpAny_bind (wpAny_holding (Gv (s:={s with heap:=h1,drawn:=d1}) ⟨o,k1 a o o1,x1.1⟩ ?_))
 refine wpAny_ite_split (fun _=> ?_) (fun _=> wpAny_pure ⟨plainId_quiet Oj _,key _ c₀ _ st (fun b u _ e=> k1 b u e) g1⟩)
 refine wpAny_bind (wpAny_rule (wpAny_bind ?_))
 show wpAny _ _ (updateSeq S (·.push .none) >>=fun _=> updateSeq S (·.pop)) _ _ {s with heap:=h1,drawn:=d1}
 refine wpAny_bind (wpAny_updateSeq g1 rfl ?_)
 have g2:=LG (Le (·.push Mm)) g1 rfl
 refine wpAny_updateSeq (hz:=by seq_fits) g2 rfl ?_
 have g3:=LG (Le (·.pop)) g2 rfl
 refine wpAny_pure ⟨plainId_quiet Oj _,key _ _ _ (W.frame 0 _ _ st fun b hb u e=> ?_) (fun b u hb e=> ?_) g3⟩
 ·have hbS:b≠S:=fun z=> nf (z▸hb)
  exact(LZ _ _ (Ne.symm hbS)).trans ((LZ _ _ (Ne.symm hbS)).trans e)
 ·exact(LZ _ _ (Ne.symm hb)).trans ((LZ _ _ (Ne.symm hb)).trans (k1 b u e))
theorem Gx{ss:List Str}{R:List Value→Shared→Prop}(hh:A.handled=none)(hS:cQ P w s.heap a ss)(hn:ss.length≤4096)
  (h:∀(h':Heap) (tk:Nat) (d:Drawn) (vs:List Value),(∀b u,s.heap.get? b=some u→h'.get? b=some u)→(∃ss',StrsAre vs ss'∧ss'.Perm ss)→R vs {s with heap:=h',toks:=tk,drawn:=d}):
  wpAny (model P w) A (collect (.ref a)) R E s:=by
 have la:a < s.heap.objs.size:=by obtain⟨o,o1,_⟩:=id hS;exact Kv o1
 unfold collect
 refine wpAny_bind (wpAny_runValue (codeAny_builtin entry_proto_collect' ?_))
 rw [Mv PySem.F.plain_proto_collect _]
 refine wpAny_bind (m:=newList []) (wpAny_newObj_type ?_)
 refine wpAny_pure ⟨plainId_quiet OC _,codeAny_builtin entry_list_iadd' ?_⟩
 rw [Mv OC _]
 have g1:(s.heap.push {cls:= .type "list",data:= .seq ([]:List Value).toArray}).get? s.heap.objs.size=some {cls:= .type "list",data:= .seq #[]}:=KD _ rfl
 have key:=Gw (A:=A) (s:={s with heap:=s.heap.push {cls:= .type "list",data:= .seq ([]:List Value).toArray}})
  (R:=fun(q:Result) (s':Shared)=> ∃(h':Heap)(tk:Nat)(d:Drawn)(acc:Array Value)(c':Nat),q= .ok (.ret (.ref s.heap.objs.size))∧s'={s with heap:=h',toks:=tk,drawn:=d}∧
   (∀b u,s.heap.get? b=some u→h'.get? b=some u)∧h'.get? s.heap.objs.size=some {cls:= .type "list",dict:=none,data:= .seq acc c',slots:=#[]}∧(∃ss',StrsAre acc.toList ss'∧ss'.Perm ss))
  hh (hS.stay fun u e=> Kg _ e) s.heap.objs.size (NL la) (.ref s.heap.objs.size) 0 g1 hn
  (fun h' tk d acc c' hk g' hacc=> ⟨h',tk,d,acc,c',rfl,rfl,fun b u e=> hk b u (KN (Kv e)) (Kg _ e),g',hacc⟩)
 refine wpAny_mono key (fun fin s' x=> ?_) fun e s' x=> ?_
 ·cases fin with
  | done f=>
   obtain⟨h',tk,d,acc,c',e,rfl,hk,g',hacc⟩:=x
   cases e
   exact wpAny_bind (m:=load s.heap.objs.size) (wpAny_load g' (wpAny_pure (h h' tk d acc.toList hk hacc)))
  | again c₁=>
   refine⟨x.1,codeAny_mono x.2 fun q s₂ y=> ?_⟩
   obtain⟨h',tk,d,acc,c',rfl,rfl,hk,g',hacc⟩:=y
   exact wpAny_bind (m:=load s.heap.objs.size) (wpAny_load g' (wpAny_pure (h h' tk d acc.toList hk hacc)))
 ·obtain⟨_,_,_,_,_,e',_⟩:=x
  cases e'
theorem Gy{ss:List Str}{Q:Value→Shared→Prop}(hh:A.handled=none)(hS:cQ P w s.heap a ss)(hn:ss.length < 64)
  (h:∀(h' h2:Heap) (tk:Nat) (d:Drawn) (out:Array Value) (e:Nat) (ss':List Str),(∀b o,s.heap.get? b=some o→h'.get? b=some o)→(∀b o,h'.get? b=some o→h2.get? b=some o)→h2.get? h'.objs.size=some (seqObj "list" out e)→StrsAre out.toList ss'→ss'.Perm ss→sortedS ss'=true→Q (.ref h'.objs.size) {s with heap:=h2,toks:=tk,drawn:=d}):
  wpAny (model P w) A (call (.builtin "sorted") [.ref a]) Q E s:=by
 refine Nc kind_sorted plain_sorted entry_sorted (args_sorted1 _) ?_
 unfold Builtin.«sorted»
 refine wpAny_bind (m:=checkCount "sorted" 1 1 _) (wpAny_pure ?_)
 refine wpAny_bind (Gx (A:=A.in1) hh hS (by omega) fun h' tk d vs hk ⟨s1,sv,sp⟩=> ?_)
 have hl:vs.length=ss.length:=by rw [m3 sv,sp.length_eq]
 refine wpAny_bind (wpAny_newList ?_)
 have hoL:(h'.push (seqObj "list" vs.toArray 0)).get? h'.objs.size=some (seqObj "list" vs.toArray 0):=KD _ rfl
 refine wpAny_bind (wpAny_holding (wpAny_call_entry slot_list_sort ⟨_,hoL,rfl⟩ entry_list_sort (list_sort_treeK (s:={s with heap:=h'.push (seqObj "list" vs.toArray 0),toks:=tk,drawn:=d}) strKind_oneLt hoL sv.keysOf (fun v₁ v₂ rest e=> keyKind_strs (by rw [←e];exact sv)) (by rw [hl];exact hn) fun st' a1 a2=> ⟨_,rfl,?_⟩) (args_list_sort _)))
 obtain⟨ss',h1,h2,h3⟩:=sorted_out_str sv a1 a2
 obtain⟨e,he⟩:=sortedHeap_at (n:=0) (vs:=vs) (out:=(arrOf st').map (·.2)) hoL
 refine wpAny_pure ⟨_,rfl,h h' _ tk d _ e ss' hk (fun b o q=> ?_) he h1 (h2.trans sp) h3⟩
 have hlt:b < h'.objs.size:=Kv q
 rw [sortedHeap_old (KN hlt) (by rw [size_push'];exact LM hlt),PL _ _ _ (KN hlt)]
 exact q
end
end L2
namespace L2
open PySem PySem.Spec PyProof.Rows PySem.W PySem.Calls
def tm(P:Program)(w:World)(a:Addr)(ss:List Str):HO:= .ext fun h=> cQ P w h a ss
theorem af.drw{X:Cx}{pins:List (Addr×Obj)}{σ:List (Option V)}{H:Hp}{s:Shared}{d:Drawn}(I:af X pins σ H s):af X pins σ H {s with drawn:=d}:=⟨I.ok,I.os,I.bare,I.base,I.loc,I.cell,I.free,I.freeC,I.pin,I.hok,I.len⟩
theorem Gz{X:Cx}:dO X (.type "set") (fun xs H Q=> X.calm=true∧∃(p:Addr)(ss:List Str),xs=[.ref p]∧aX X.K H p (ss.map V.str)∧ss.length < 64∧∀l,H l=none→Q (.ref l) (au H l (tm X.prog X.w l (ss.foldl cN [])))):=by
 intro pins s σ H xs us Q I r h
 obtain⟨hc,p,ss,rfl,hq,h64,q⟩:=h
 obtain⟨u,rfl,rx⟩:=dY r
 cases rx
 obtain⟨its,rv,pl,hz⟩:=I.list hq
 have hlen:=rv.length
 rw [Kd] at hlen
 refine Gg (I.ok.hd hc) pl.isList (by simpa using sE rv) (by have:scanBound=4096:=rfl;simp;omega) fun h' tk S' k'=> ?_
 refine⟨.ref _,_,I.laid (t':=tk) (o:=tm X.prog X.w _ (ss.foldl cN [])) k' (Kk _) ?_,rfl,q _ (I.hok.fresh (Kk _))⟩
 obtain⟨o,e,_⟩:=id S'
 exact⟨S',⟨o,e⟩,fun h1 h2 x k=> x.stay k⟩
theorem GA{X:Cx}:dO X (.builtin "sorted") (fun xs H Q=> X.calm=true∧∃(a:Addr)(ss:List Str),xs=[.ref a]∧H a=some (tm X.prog X.w a ss)∧ss.length < 64∧∀l,H l=none→Q (.ref l) (au H l (.lst ((cC ss).map V.str)))):=by
 intro pins s σ H xs us Q I r h
 obtain⟨hc,a,ss,rfl,ha,h64,q⟩:=h
 obtain⟨u,rfl,rx⟩:=dY r
 cases rx
 obtain⟨hS,_⟩:=I.hok a _ ha
 refine Gy (I.ok.hd hc) hS h64 fun h' h2 tk d out e ss' k1 k2 lQ s1 s2 s3=> ?_
 have es:ss'=cC ss:=su s2 (sC _ s3)
 subst es
 have hl2:(cC ss).length=ss.length:=s2.length_eq
 have I1:af X pins σ H {s with heap:=h',toks:=tk,drawn:=d}:=(I.kept (t':=tk) k1).drw
 refine⟨.ref _,_,I1.laid (t':=tk) (o:= .lst ((cC ss).map V.str)) k2 (Kk _) ?_,rfl,q _ (I1.hok.fresh (Kk _))⟩
 refine⟨by rw [Kd,hl2];exact KS (Mz h64) (by decide),out.toList,e,oO s1,?_⟩
 rw [lQ]
theorem tq:∀(l ss:List Str),(l.foldl cN ss).length≤ss.length+l.length
 | [],ss=> by simp
 | a::l,ss=> by
  have:=tq l (cN ss a)
  have h:(cN ss a).length≤ss.length+1:=by unfold cN;split <;> simp
  simp only [LX,Kw];omega
theorem GB:bootBuiltins "set"=some (.type "set"):=by decide+kernel
section
variable {X:Cx} {H0:Hp} {O0:Ex}
def tu(t:DA):DA:=fun δ Q=> t δ fun ds=> ∃ss:List Str,ds=[.list (ss.map .str)]∧ss.length < 64∧Q ((cC (ss.foldl cN [])).map .str)
theorem GC{a:Expr}{t:DA}{np p np' p':Pos}(hc:X.calm=true)(hg:Gl X "sorted")(hm:X.mg "sorted"=none)(hv:bootBuiltins "sorted"=some (.builtin "sorted"))(hg':Gl X "set")(hm':X.mg "set"=none)(ha:PA X [a] (gR X.K H0 O0 t))
  (he:starEach [a] X.env=(false,eval a X.env)::starEach [] X.env:=by rfl)(hpl:(backTo p' (starEach [] X.env)).any (·.1)=false:=by rfl)
  (he':starEach [.Call (.Name "set" np') [a] [] p'] X.env=(false,eval (.Call (.Name "set" np') [a] [] p') X.env)::starEach [] X.env:=by rfl)(hpl':(backTo p (starEach [] X.env)).any (·.1)=false:=by rfl):
  FE X H0 O0 (.Call (.Name "sorted" np) [.Call (.Name "set" np') [a] [] p'] [] p) (tu t):=
 (bW GA hg hm hv (bC (eM Gz hg' hm' GB ha (he:=he) (hpl:=hpl)) cm he') (he:=he') (hpl:=hpl')).imp fun σ H Q ⟨O,δ,Qd,w,q,k⟩=> ⟨O,δ,_,w,q,fun ds vs H1 uu16 s1 r1=> by
  obtain⟨ss,e,h64,q1⟩:=uu16
  subst e
  cases r1 with
  | cons h r=>
   cases r
   obtain⟨a,us,rfl,h1,d1⟩:=h.lst
   cases d1.strs
   refine⟨hc,a,ss,rfl,h1,h64,fun l hl=> ⟨hc,l,_,rfl,bu,by have:=tq ss [];simp at this;omega,fun l2 hl2=> ?_⟩⟩
   exact k _ _ _ _ q1 (s1.trans (ar.new hl)) hl2 (aj.ofStrs _)⟩
end
end L2
namespace L2
open PySem PySem.Spec PyProof.Rows PySem.W PySem.Calls
section
variable {X:Cx} {H0:Hp} {O0:Ex}
end
theorem aj.intsL{K:Kb}{H:Hp}{O:Ex}:∀{ns:List Int}{vs:List V},aj K H O vs (ns.map Kh)→vs=ns.map V.int
 | [],_,r=> by rw [Ly] at r;cases r;rfl
 | b::bs,_,r=> by
  rw [Kj] at r
  cases r with
  | cons h r=> cases h;rw [Kj,aj.intsL r]
section
variable {X:Cx} {H0:Hp} {O0:Ex}
end
def m4:List (DT×DT)→Dl→(List (PyData×PyData)→Prop)→Prop
 | [],_,Q=> Q []
 | (a,b)::r,δ,Q=> a δ fun x=> b δ fun y=> m4 r δ fun ps=> Q ((x,y)::ps)
inductive jF (K:Kb) (H:Hp) (O:Ex):List (V×V)→List (PyData×PyData)→Prop
 | nil:jF K H O [] []
 | cons {a b:V} {x y:PyData} {r s}:Dt K H O a x→Dt K H O b y→jF K H O r s→jF K H O ((a,b)::r) ((x,y)::s)
theorem Ad{K:Kb}{H0:Hp}{O0 O:Ex}{σ:St}{δ:Dl}:∀(trs:List (DT×DT)){H:Hp}{Qd:List (PyData×PyData)→Prop}{R:List (V×V)→Hp→Prop},Wd K H0 O0 H O σ δ→m4 trs δ Qd→(∀ds vs H',Qd ds→ar H H'→jF K H' O vs ds→R vs H')→oG (trs.map fun p=> (up K H0 O0 p.1,up K H0 O0 p.2)) σ H R
 | [],H,Qd,R,w,q,k=> k [] [] H q (ar.refl _) .nil
 | (a,b)::r,H,Qd,R,w,q,k=> by
  refine⟨O,δ,_,w,q,fun x v H1 q1 s1 r1=> ⟨O,δ,_,w.mono s1,q1,fun y u H2 q2 s2 r2=> ?_⟩⟩
  exact Ad r ((w.mono s1).mono s2) q2 fun ds vs H3 q3 s3 r3=> k _ _ H3 q3 ((s1.trans s2).trans s3) (.cons (r1.mono (s2.trans s3)) (r2.mono s3) r3)
theorem Dt.free{K:Kb}{H H':Hp}{O O':Ex}{v:V}{d:PyData}(h:Dt K H O v d)(s:my d=true):Dt K H' O' v d:=by
 cases h <;> first | exact .non | exact .bl _ | exact .int _ | exact .str _ | cases s
theorem jF.kd{K:Kb}{H H':Hp}{O:Ex}:∀{kd:List (ak×PyData)}{ps:List (V×V)},jF K H O ps (kd.map fun p=> (iN p.1,p.2))→(∀p∈kd,my p.2=true)→∃kv:List (ak×V),ps=kv.map (fun p=> (kV p.1,p.2))∧bA K H' O kv kd
 | [],_,h,_=> by cases h;exact⟨[],rfl,.nil⟩
 | p::kd,_,h,sc=> by
  cases h with
  | cons a b r=>
   obtain⟨kv,e,k⟩:=jF.kd r fun q hq=> sc q (K1 _ hq)
   have:=a.key
   exact⟨(p.1,_)::kv,by rw [e,this];rfl,.cons (b.free (sc p K3)) k⟩
theorem bA.merge{K:Kb}{H:Hp}{O:Ex}{more:List (ak×V)}{md:List (ak×PyData)}(h:bA K H O more md):∀{kv:List (ak×V)}{kd:List (ak×PyData)},bA K H O kv kd→bA K H O (jD kv more) (md.foldl (fun a p=> eU a p.1 p.2) kd):=by
 induction h with
 | nil=> intro kv kd r;exact r
 | cons a _ ih=> intro kv kd r;exact ih (r.put _ a)
section
variable {X:Cx} {H0:Hp} {O0:Ex}
def tw(trs:List (DT×DT)):lr:=fun δ Q=> m4 trs δ fun ps=> ∃kd:List (ak×PyData),ps=kd.map (fun p=> (iN p.1,p.2))∧kd.length≤15∧(∀p∈kd,my p.2=true)∧Q (kd.foldl (fun a p=> eU a p.1 p.2) [])
def oX(X:Cx)(H0:Hp)(O0:Ex)(pos:Pos)(keys:List (Option Expr))(values:List Expr)(trs:List (DT×DT)):Prop:=mS X pos keys values (trs.map fun p=> (up X.K H0 O0 p.1,up X.K H0 O0 p.2))
theorem Ae{pos:Pos}:oX X H0 O0 pos [] [] []:=E8
theorem iP{pos:Pos}{k v:Expr}{ks:List (Option Expr)}{vs:List Expr}{tk tv:DT}{trs:List (DT×DT)}(hk:DE X H0 O0 k tk)(hv:DE X H0 O0 v tv)(hr:oX X H0 O0 pos ks vs trs):oX X H0 O0 pos (some k::ks) (v::vs) ((tk,tv)::trs):=E9 hk hv hr
theorem Af{pos:Pos}{keys:List (Option Expr)}{values:List Expr}{trs:List (DT×DT)}(h:oX X H0 O0 pos keys values trs)(hall:keys.all (·.isSome)=true:=by rfl)(hl:keys.length=values.length:=by rfl)(h0:keys≠[]:=by exact List.cons_ne_nil _ _)(h15:keys.length≤15:=by exact Nat.le_of_ble_eq_true rfl):KE X H0 O0 (.Dict keys values pos) (tw trs):=
 (Fc h hall hl h0 h15).imp fun σ H Q ⟨O,δ,Qd,w,q,k⟩=> fun p hp=> by
  refine Ad trs (w.mono (ar.new hp)) q fun ds vs H2 ⟨kd,e,n,sc,q2⟩ s2 r2=> ?_
  subst e
  have hp2:H2 p=some (.dK []):=s2 _ _ bu
  obtain⟨kv,e,r⟩:=jF.kd (H':=fun b=> if b=p then none else H2 b) r2 sc
  refine⟨hp2,kv,e,by rw [r.length];exact n,?_⟩
  have eu:au H2 p (.dK (jD [] kv))=au (fun b=> if b=p then none else H2 b) p (.dK (jD [] kv)):=by
   funext b;unfold au;split
   ·rfl
   ·rename_i hb;exact(if_neg hb).symm
  rw [eu]
  refine k _ _ p _ q2 (fun b o z=> ?_) (if_pos rfl) (r.merge .nil)
  have:b≠p:=fun y=> by rw [y,hp] at z;cases z
  show(if b=p then none else H2 b)=some o
  rw [if_neg this]
  exact s2 _ _ (by rw [aJ this];exact z)
end
end L2
namespace L2
open PySem PySem.Spec PyProof.Rows PySem.W PySem.Calls
section
variable {X:Cx} {H0:Hp} {O0:Ex}
def GF(i j k:Nat)(ta:TA):TS:=fun D σ H=> ta σ H fun vs H1=> ∃v w z,vs=[v,w,z]∧D.nx (((σ.set i (some v)).set j (some w)).set k (some z)) H1
theorem GG{i j k:Nat}{x y z:Str}{a b c:Expr}{ta:TA}{px py pz pt pos:Pos}{kt k2 pt2}(hc:X.calm=true)(hN:X.N.Nodup)(hi:X.N[i]?=some x)(hj:X.N[j]?=some y)(hk:X.N[k]?=some z)(hij:i≠j)(hik:i≠k)(hjk:j≠k)
  (hx:X.env.scope.names.lookup x=some .local)(hy:X.env.scope.names.lookup y=some .local)(hz:X.env.scope.names.lookup z=some .local)(ha:PA X [a,b,c] ta)
  (hw:swappedStores [.Tuple [.Name x px,.Name y py,.Name z pz] kt pt] (.Tuple [a,b,c] k2 pt2) X.env=pure (some [x,y,z]))
  (hs:swapsWithSole [.Tuple [.Name x px,.Name y py,.Name z pz] kt pt] (.Tuple [a,b,c] k2 pt2) pos.line X.env=pure false:=by rfl):
  PS X (.Assign [.Tuple [.Name x px,.Name y py,.Name z pz] kt pt] (.Tuple [a,b,c] k2 pt2) pos) (GF i j k ta):=by
 intro pins s σ H D I h
 rw [exec_Assign_arm]
 refine wpAny_bind (wpAny_standAt ?_)
 rw [hs]
 refine wpAny_bind (wpAny_pure ?_)
 rw [if_neg (by decide)]
 refine wpAny_bind (Tuple_ (aB (ha _ pins s σ H _ I h) fun us s1 ⟨vs,H1,I1,r1,q1⟩=> ?_))
 obtain⟨v,w,v3,e1,q1⟩:=q1
 subst e1
 obtain⟨u1,u2,u3,rfl,rv,rw2,rw3⟩:∃u1 u2 u3,us=[u1,u2,u3]∧aE v u1∧aE w u2∧aE v3 u3:=by
  cases r1 with
  | cons p q=> cases q with | cons p' q'=> cases q' with | cons p2 q2=> cases q2;exact⟨_,_,_,rfl,p,p',p2⟩
 refine wpAny_newObj_type ?_ (by show 3≤sizeLine;decide)
 have I2:af X pins σ H1 {s1 with heap:=s1.heap.push {cls:= .type "tuple",data:= .seq [u1,u2,u3].toArray}}:=I1.kept (t':=s1.toks) fun b o e=> Kg _ e
 rw [hw]
 refine wpAny_bind (wpAny_pure ?_)
 show wpAny (model X.prog X.w) X.A (do rule "assign.swapped-stores";let items←unpackItems (.ref s1.heap.objs.size) 3 none;assignInOrder [fun v=> bindName X.env z v,fun v=> bindName X.env y v,fun v=> bindName X.env x v] items.reverse;pure Pl) _ _ _
 refine wpAny_bind (wpAny_rule (wpAny_bind (unpackItems_tuple (items:=#[u1,u2,u3]) (I.ok.hd hc) (OE s1.heap _) fun h' hx'=> ?_)))
 have I3:=I2.kept (h':=h') (t':=s1.toks) fun b o e=> hx' b o (KN (Kv e)) e
 show wpAny _ _ (assignInOrder [fun v=> bindName X.env z v,fun v=> bindName X.env y v,fun v=> bindName X.env x v] [u3,u2,u1] >>=fun _=> pure Pl) _ _ _
 refine wpAny_bind (assignInOrder_cons (wpAny_bindName (j2 I3 hN hk (.inl hz) rw3 (fun s2 I4=> ?_) (.inr hz))))
 refine assignInOrder_cons (wpAny_bindName (j2 I4 hN hj (.inl hy) rw2 (fun s3 I5=> ?_) (.inr hy)))
 refine assignInOrder_cons (wpAny_bindName (j2 I5 hN hi (.inl hx) rv (fun s4 I6=> assignInOrder_nil (wpAny_pure ?_)) (.inr hx)))
 rw [NZ _ _ (Ne.symm hij),NZ _ _ (Ne.symm hik),NZ _ _ (Ne.symm hjk)] at I6
 exact⟨_,H1,I6,q1⟩
def tD(i j k:Nat)(t:DA):DS:=fun E δ=> t δ fun ds=> ∃x y z,ds=[x,y,z]∧E.nx (((δ.set i (some (.v x))).set j (some (.v y))).set k (some (.v z)))
theorem GH{i j k:Nat}{x y z:Str}{a b c:Expr}{ta:DA}{px py pz pt pos:Pos}{kt k2 pt2}(hc:X.calm=true)(hN:X.N.Nodup)(hi:X.N[i]?=some x)(hj:X.N[j]?=some y)(hk:X.N[k]?=some z)(hij:i≠j)(hik:i≠k)(hjk:j≠k)
  (hx:X.env.scope.names.lookup x=some .local)(hy:X.env.scope.names.lookup y=some .local)(hz:X.env.scope.names.lookup z=some .local)(ha:PA X [a,b,c] (fH X.K H0 O0 ta))
  (hw:swappedStores [.Tuple [.Name x px,.Name y py,.Name z pz] kt pt] (.Tuple [a,b,c] k2 pt2) X.env=pure (some [x,y,z]))
  (hs:swapsWithSole [.Tuple [.Name x px,.Name y py,.Name z pz] kt pt] (.Tuple [a,b,c] k2 pt2) pos.line X.env=pure false:=by rfl):
  PS X (.Assign [.Tuple [.Name x px,.Name y py,.Name z pz] kt pt] (.Tuple [a,b,c] k2 pt2) pos) (bP X.K H0 O0 (tD i j k ta)):=
 (GG hc hN hi hj hk hij hik hjk hx hy hz ha hw hs).imp fun D σ H uu20=> by obtain⟨O,δ,E,w,q,k1,k2,k3,k4⟩:=uu20;exact⟨O,δ,_,w,q,fun ds vs H1 uu21 s1 r1=> by
  obtain⟨d1,d2,d3,e,q1⟩:=uu21
  subst e
  cases r1 with
  | cons r1 r2=> cases r2 with | cons r2 r3=> cases r3 with | cons r3 r4=> cases r4;exact⟨_,_,_,rfl,k1 _ _ _ _ q1 ((((w.mono s1).set r1).set r2).set r3) (.same s1)⟩⟩
theorem lz{N':List Str}{k:Nat}{fr:List Nat}{scope:Scope}{iter elt tg:Expr}{ifs:List Expr}{t te:DT}{tc:DB}{g:TG}{dg:DG}{pos:Pos}(hc:X.calm=true)(S:bz X.env.scope X.N N' k fr scope)(hi:DF X H0 O0 iter t)(gd:GD X.K g dg)(hk:iJ g k)(hfr:fr.Nodup)
  (hg:∀fp C s H,PG (bF X scope N' fp C s H) tg g)(hf:∀fp C s H,eN (bF X scope N' fp C s H) ifs (cj X.K H0 O0 tc))(he:∀fp C s H,PE (bF X scope N' fp C s H) elt (up X.K H0 O0 te))
  (hs:∀x,foldedSetIterable iter X.env x=pure x:=by intro _;rfl):PU X (.ListComp elt [⟨tg,iter,ifs,0⟩] scope pos) (oj X.K H0 O0 (mK t dg tc te k fr)):=
 (xD hc S (qg hi) hg hf he hs).imp fun σ H Q uu22=> by obtain⟨O,δ,Qd,w,q,kk⟩:=uu22;exact⟨O,δ,_,w,q,fun d v H1 uu23 s1 r1=> by
  obtain⟨xs,e,hz,q1⟩:=uu23
  subst e
  obtain⟨a,vs,rfl,hq,rr⟩:=r1.tup
  refine⟨a,rfl,⟨_,hq⟩,fun D hD=> kW (di.tup hq) gd hfr (fun v _ H' R h=> hk fr σ v H' R h) (fun _ _ _ z=> z) (fun _ _ _ z=> z) (fun D H' hD s' o e=> s' _ _ e (cZ e hD)) rr (w.mono s1) (by rw [rr.length];exact hz) q1 (fun ds us p H' z s' hp r'=> kk ds us p H' z (s1.trans s') hp r') D hD⟩⟩
end
end L2
namespace L2
open PySem PySem.Spec PyProof.Rows PySem.W PySem.Calls
structure lA (n:Nat) (lt:Nat→Nat→Bool) (I:Shared→Prop) (cmp:Nat→Nat→(Bool→Shared→Prop)→Shared→Prop):Prop where
 as:∀i j C s,i < n→j < n→i≠j→I s→(∀s',I s'→C (lt i j) s')→cmp i j C s
structure g5 (n:Nat) (lt:Nat→Nat→Bool):Prop where
 tot:∀i j,i < n→j < n→i≠j→lt i j=!lt j i
 tr:∀i j k,i < n→j < n→k < n→lt i j=true→lt j k=true→lt i k=true
structure bV (n:Nat) (p:Array Nat):Prop where
 perm:p.toList.Perm (Lp n)
theorem bV.size{n:Nat}{p:Array Nat}(h:bV n p):p.size=n:=by rw [←KJ,h.perm.length_eq,MS]
theorem bV.lt{n:Nat}{p:Array Nat}(h:bV n p){k:Nat}(hk:k < n):p.getD k 0 < n:=by
 have hs:=h.size
 have e:p.getD k 0=p[k]'(by omega):=by simp [Nm,show k < p.size by omega]
 rw [e]
 have:=h.perm.mem_iff.mp (OZ.mpr (Array.getElem_mem (show k < p.size by omega)))
 simpa using this
theorem bV.ne{n:Nat}{p:Array Nat}(h:bV n p){i j:Nat}(hi:i < n)(hj:j < n)(hij:i≠j):p.getD i 0≠p.getD j 0:=by
 have hs:=h.size
 have nd:p.toList.Nodup:=h.perm.nodup_iff.mpr List.nodup_range
 have ei:p.getD i 0=p.toList[i]'(by simp;omega):=by simp [Nm,show i < p.size by omega]
 have ej:p.getD j 0=p.toList[j]'(by simp;omega):=by simp [Nm,show j < p.size by omega]
 rw [ei,ej]
 intro e
 exact hij ((NF nd).mp e)
theorem bV.bubble{n:Nat}{p:Array Nat}(h:bV n p)(a d:Nat):bV n (NP p a d):=⟨(N6.mp (bubble_perm p a d)).trans h.perm⟩
theorem bV.rev{n:Nat}{p:Array Nat}(h:bV n p)(i j:Nat):bV n (kas_rev p i j):=⟨(N6.mp (mirror_perm p i j _)).trans h.perm⟩
theorem tE(n:Nat):bV n (Pu (Lp n)):=⟨by simp⟩
def Up(lt:Nat→Nat→Bool)(p:Array Nat)(k:Nat):Prop:=∀i j,i < j→j < k→lt (p.getD i 0) (p.getD j 0)=true
section
variable {n:Nat} {lt:Nat→Nat→Bool} {I:Shared→Prop} {cmp:Nat→Nat→(Bool→Shared→Prop)→Shared→Prop}
theorem Up.snoc(T:g5 n lt){p:Array Nat}(hp:bV n p){k:Nat}(hk:k < n)(h:Up lt p k)(h0:0 < k)(hl:lt (p.getD (k - 1) 0) (p.getD k 0)=true):Up lt p (k+1):=by
 intro i j hij hj
 rcases Mo j k with z | z
 ·exact h i j hij z
 ·have:j=k:=by omega
  subst this
  rcases Mo i (j - 1) with w | w
  ·exact T.tr _ _ _ (hp.lt (by omega)) (hp.lt (by omega)) (hp.lt hk) (h i (j - 1) w (by omega)) hl
  ·have:i=j - 1:=by omega
   subst this;exact hl
theorem tF(A:lA n lt I cmp)(T:g5 n lt){p:Array Nat}(hp:bV n p){Q:Nat→Shared→Prop}:∀(f m:Nat)(s:Shared),1≤m→m+f=n→Up lt p m→I s→
  (∀k s',I s'→m≤k→k≤n→Up lt p k→(k < n→lt (p.getD k 0) (p.getD (k - 1) 0)=true)→Q k s')→(kas_asc p f m).kasWp cmp Q s
 | 0,m,s,h1,hf,hu,hI,q=> q m s hI (Kk _) (by omega) hu (fun z=> by omega)
 | f+1,m,s,h1,hf,hu,hI,q=> by
  have hm:m < n:=by omega
  refine A.as _ _ _ s (hp.lt hm) (hp.lt (by omega)) (hp.ne hm (by omega) (by omega)) hI fun s' hI'=> ?_
  cases hc:lt (p.getD m 0) (p.getD (m - 1) 0) with
  | true=>
   dsimp only;rw [if_pos rfl]
   exact q m s' hI' (Kk _) (by omega) hu (fun _=> hc)
  | false=>
   dsimp only;rw [if_neg (by simp)]
   have hl:lt (p.getD (m - 1) 0) (p.getD m 0)=true:=by rw [T.tot _ _ (hp.lt (by omega)) (hp.lt hm) (hp.ne (by omega) hm (by omega)),hc];rfl
   exact tF A T hp f (m+1) s' (by omega) (by omega) (hu.snoc T hp hm (by omega) hl) hI' fun k s2 a b c d e=> q k s2 a (by omega) c d e
def Dn(lt:Nat→Nat→Bool)(p:Array Nat)(k:Nat):Prop:=∀i j,i < j→j < k→lt (p.getD j 0) (p.getD i 0)=true
theorem Dn.snoc(T:g5 n lt){p:Array Nat}(hp:bV n p){k:Nat}(hk:k < n)(h:Dn lt p k)(h0:0 < k)(hl:lt (p.getD k 0) (p.getD (k - 1) 0)=true):Dn lt p (k+1):=by
 intro i j hij hj
 rcases Mo j k with z | z
 ·exact h i j hij z
 ·have:j=k:=by omega
  subst this
  rcases Mo i (j - 1) with w | w
  ·exact T.tr _ _ _ (hp.lt hk) (hp.lt (by omega)) (hp.lt (by omega)) hl (h i (j - 1) w (by omega))
  ·have:i=j - 1:=by omega
   subst this;exact hl
theorem Ag(A:lA n lt I cmp)(T:g5 n lt){p:Array Nat}(hp:bV n p){Q:Array Nat×Nat×Nat→Shared→Prop}:∀(f m:Nat)(s:Shared),1≤m→m+f=n→Dn lt p m→I s→
  (∀k s',I s'→m≤k→k≤n→Dn lt p k→Q (p,k,0) s')→(kas_desc f p m 0).kasWp cmp Q s
 | 0,m,s,h1,hf,hu,hI,q=> q m s hI (Kk _) (by omega) hu
 | f+1,m,s,h1,hf,hu,hI,q=> by
  have hm:m < n:=by omega
  refine A.as _ _ _ s (hp.lt hm) (hp.lt (by omega)) (hp.ne hm (by omega) (by omega)) hI fun s' hI'=> ?_
  cases hc:lt (p.getD m 0) (p.getD (m - 1) 0) with
  | true=>
   dsimp only;rw [if_pos rfl,if_neg (by simp)]
   exact Ag A T hp f (m+1) s' (by omega) (by omega) (hu.snoc T hp hm (by omega) hc) hI' fun k s2 a b c d=> q k s2 a (by omega) c d
  | false=>
   dsimp only;rw [if_neg (by simp)]
   refine A.as _ _ _ s' (hp.lt (by omega)) (hp.lt hm) (hp.ne (by omega) hm (by omega)) hI' fun s2 hI2=> ?_
   have hl:lt (p.getD (m - 1) 0) (p.getD m 0)=true:=by rw [T.tot _ _ (hp.lt (by omega)) (hp.lt hm) (hp.ne (by omega) hm (by omega)),hc];rfl
   rw [hl];dsimp only;rw [if_pos rfl]
   exact q m s2 hI2 (Kk _) (by omega) hu
theorem Ah{p:Array Nat}{j k:Nat}(hj:j≤p.size):(kas_rev p 0 j).getD k 0=if k < j then p.getD (j - 1 - k) 0 else p.getD k 0:=by
 have:=getElem?_mirror_all (xs:=p) (i:=0) (j:=j) hj k
 unfold kas_rev
 rw [LA,this]
 by_cases h:k < j
 ·simp [h,LA]
 ·simp [h,LA]
theorem Dn.rev{p:Array Nat}(hp:bV n p){k:Nat}(hk:k≤n)(h:Dn lt p k):Up lt (kas_rev p 0 k) k:=by
 intro i j hij hj
 have hs:=hp.size
 rw [Ah (by omega),Ah (by omega),if_pos (by omega),if_pos hj]
 exact h _ _ (by omega) (by omega)
theorem GI(A:lA n lt I cmp)(T:g5 n lt)(h2:2≤n){p:Array Nat}(hp:bV n p){Q:Nat×Array Nat→Shared→Prop}{s:Shared}(hI:I s)
  (q:∀k p' s',I s'→1≤k→k≤n→bV n p'→Up lt p' k→Q (k,p') s'):(kas_count n p).kasWp cmp Q s:=by
 unfold kas_count
 rw [Nf]
 refine tF A T hp (n - 1) 1 s (Kk _) (by omega) (fun i j a b=> by omega) hI fun m s1 hI1 m1 m2 hu hs=> ?_
 by_cases hm:m=n
 ·subst hm
  rw [if_pos (by simp)]
  exact q m p s1 hI1 m1 (Kk _) hp hu
 ·rw [if_neg (by simpa using hm)]
  by_cases hm1:m > 1
  ·rw [if_pos hm1]
   refine A.as _ _ _ s1 (hp.lt (by omega)) (hp.lt (by omega)) (hp.ne (by omega) (by omega) (by omega)) hI1 fun s2 hI2=> ?_
   rw [hu 0 (m - 1) (by omega) (by omega)];dsimp only;rw [if_pos rfl]
   exact q m p s2 hI2 m1 (by omega) hp hu
  ·rw [if_neg hm1]
   have:m=1:=by omega
   subst this
   have h10:=hs (by omega)
   unfold kas_descPart
   rw [Nf]
   refine Ag A T hp (n - (1+1)) (1+1) s1 (by omega) (by omega) (fun i j a b=> ?_) hI1 fun k s2 hI2 k1 k2 hd=> ?_
   ·have:i=0:=by omega
    have:j=1:=by omega
    subst_vars
    exact h10
   ·rw [if_neg (by simp)]
    unfold kas_tail3
    rw [Nf]
    have hp':=hp.rev 0 k
    refine tF A T hp' (n - k) k s2 (by omega) (by omega) (hd.rev hp k2) hI2 fun m s3 hI3 a b c d=> ?_
    exact q m _ s3 hI3 (by omega) b hp' c
theorem tG(A:lA n lt I cmp)(T:g5 n lt){p:Array Nat}(hp:bV n p){k:Nat}(hk:k < n)(hu:Up lt p k){Q:Nat→Shared→Prop}:∀(f l r:Nat)(s:Shared),r - l≤f→l≤r→r≤k→I s→
  (∀i,i < l→lt (p.getD i 0) (p.getD k 0)=true)→(∀i,r≤i→i < k→lt (p.getD k 0) (p.getD i 0)=true)→
  (∀l s',I s'→l≤k→(∀i,i < l→lt (p.getD i 0) (p.getD k 0)=true)→(∀i,l≤i→i < k→lt (p.getD k 0) (p.getD i 0)=true)→Q l s')→(kas_place p k f l r).kasWp cmp Q s
 | 0,l,r,s,hf,hlr,hrk,hI,h1,h2,q=> q l s hI (by omega) h1 (fun i a b=> h2 i (by omega) b)
 | f+1,l,r,s,hf,hlr,hrk,hI,h1,h2,q=> by
  unfold kas_place
  by_cases hge:l ≥ r
  ·rw [if_pos hge]
   exact q l s hI (by omega) h1 (fun i a b=> h2 i (by omega) b)
  ·rw [if_neg hge]
   have hm:(l+r)/ 2 < k:=by omega
   refine A.as _ _ _ s (hp.lt hk) (hp.lt (by omega)) (hp.ne hk (by omega) (by omega)) hI fun s' hI'=> ?_
   cases hc:lt (p.getD k 0) (p.getD ((l+r)/ 2) 0) with
   | true=>
    dsimp only;rw [if_pos rfl]
    refine tG A T hp hk hu f l ((l+r)/ 2) s' (by omega) (by omega) (by omega) hI' h1 (fun i a b=> ?_) q
    rcases Mo ((l+r)/ 2) i with z | z
    ·exact T.tr _ _ _ (hp.lt hk) (hp.lt (by omega)) (hp.lt (by omega)) hc (hu _ _ z b)
    ·have:i=(l+r)/ 2:=by omega
     rw [this];exact hc
   | false=>
    dsimp only;rw [if_neg (by simp)]
    have hl:lt (p.getD ((l+r)/ 2) 0) (p.getD k 0)=true:=by rw [T.tot _ _ (hp.lt (by omega)) (hp.lt hk) (hp.ne (by omega) hk (by omega)),hc];rfl
    refine tG A T hp hk hu f ((l+r)/ 2+1) r s' (by omega) (by omega) hrk hI' (fun i a=> ?_) h2 q
    rcases Mo i ((l+r)/ 2) with z | z
    ·exact T.tr _ _ _ (hp.lt (by omega)) (hp.lt (by omega)) (hp.lt hk) (hu _ _ z hm) hl
    ·have:i=(l+r)/ 2:=by omega
     rw [this];exact hl
theorem Ai{p:Array Nat}{k d i:Nat}(hk:k < p.size)(hd:d≤k):(NP p k d).getD i 0=if i=k - d then p.getD k 0 else if k - d < i∧i≤k then p.getD (i - 1) 0 else p.getD i 0:=by
 rw [LA,getElem?_bubble hk d hd i]
 by_cases h1:i=k - d
 ·rw [if_pos h1,if_pos h1,LA]
 ·rw [if_neg h1,if_neg h1]
  by_cases h2:k - d < i∧i≤k
  ·rw [if_pos h2,if_pos h2,LA]
  ·rw [if_neg h2,if_neg h2,LA]
theorem Up.ins(T:g5 n lt){p:Array Nat}(hp:bV n p){k l:Nat}(hk:k < n)(hu:Up lt p k)(hl:l≤k)(h1:∀i,i < l→lt (p.getD i 0) (p.getD k 0)=true)(h2:∀i,l≤i→i < k→lt (p.getD k 0) (p.getD i 0)=true):Up lt (NP p k (k - l)) (k+1):=by
 have hs:=hp.size
 intro i j hij hj
 rw [Ai (by omega) (by omega),Ai (by omega) (by omega)]
 have e:k - (k - l)=l:=by omega
 rw [e]
 by_cases hi:i=l
 ·rw [if_pos hi,if_neg (by omega),if_pos (by omega)]
  exact h2 _ (by omega) (by omega)
 ·rw [if_neg hi]
  by_cases hi2:l < i∧i≤k
  ·rw [if_pos hi2,if_neg (by omega),if_pos (by omega)]
   exact hu _ _ (by omega) (by omega)
  ·rw [if_neg hi2]
   by_cases hj1:j=l
   ·rw [if_pos hj1];exact h1 _ (by omega)
   ·rw [if_neg hj1]
    by_cases hj2:l < j∧j≤k
    ·rw [if_pos hj2];exact hu _ _ (by omega) (by omega)
    ·rw [if_neg hj2];exact hu _ _ hij (by omega)
theorem Aj(A:lA n lt I cmp)(T:g5 n lt){Q:Array Nat→Shared→Prop}:∀(f:Nat)(p:Array Nat)(k:Nat)(s:Shared),k+f=n→bV n p→Up lt p k→I s→(∀p' s',I s'→bV n p'→Up lt p' n→Q p' s')→(kas_bin f p k).kasWp cmp Q s
 | 0,p,k,s,hf,hp,hu,hI,q=> q p s hI hp (by rw [show n=k by omega];exact hu)
 | f+1,p,k,s,hf,hp,hu,hI,q=> by
  unfold kas_bin
  rw [Nf]
  have hk:k < n:=by omega
  refine tG A T hp hk hu k 0 k s (by omega) (by omega) (Kk _) hI (fun i z=> by omega) (fun i a b=> by omega) fun l s' hI' hl h1 h2=> ?_
  exact Aj A T f _ (k+1) s' (by omega) (hp.bubble _ _) (hu.ins T hp hk hl h1 h2) hI' q
theorem GJ(A:lA n lt I cmp)(T:g5 n lt)(h2:2≤n){Q:Array Nat→Shared→Prop}{s:Shared}(hI:I s)(q:∀p s',I s'→bV n p→Up lt p n→Q p s'):(kas_sort n).kasWp cmp Q s:=by
 unfold kas_sort
 rw [Nf]
 refine GI A T h2 (tE n) hI fun k p s1 hI1 k1 k2 hp hu=> ?_
 dsimp only
 by_cases hk:k < n
 ·rw [if_pos hk,show max k 1=k by omega]
  exact Aj A T (n - k) p k s1 (by omega) hp hu hI1 q
 ·rw [if_neg hk]
  exact q p s1 hI1 hp (by rw [show n=k by omega];exact hu)
end
end L2
namespace L2
open PySem PySem.Spec PyProof.Rows PySem.W PySem.Calls
def aW(p q:Int×Str):Bool:=decide (p.1 < q.1) || (decide (p.1=q.1) && decide (p.2.cps.toList < q.2.cps.toList))
def gh(h:Heap)(v:Value)(p:Int×Str):Prop:=∃a o n t u,v= .ref a∧h.get? a=some o∧o.cls= .type "tuple"∧o.data= .seq #[.int p.1 t,.str p.2 u] n
section
variable {P:Program} {w:World} {A:Around} {E:Value→Shared→Prop} {s:Shared}
theorem GK{v u:Value}{p q:Int×Str}{Q:Bool→Shared→Prop}(hv:gh s.heap v p)(hu:gh s.heap u q)(h:Q (aW p q) s):wpAny (model P w) A (keyLt' (tuples' true) v u) Q E s:=by
 obtain⟨a,oa,na,t1,t2,rfl,ha,_,da⟩:=hv
 obtain⟨b,ob,nb,t3,t4,rfl,hb,_,db⟩:=hu
 refine kat_lt ha da hb db (kat_cons ((intKind P w).eqBool (intKind_is _ _ _ _) (intKind_is _ _ _ _) (kat_go (fun e1=> ?_) fun e1=> ?_)))
 ·have e1:p.1=q.1:=by simpa using e1
  refine kat_yes (kat_cons ((PySem.strKind P w).eqBool (strKind_is _ _ _ _) (strKind_is _ _ _ _) (kat_go (fun e2=> ?_) fun e2=> ?_)))
  ·have e2:p.2=q.2:=by simpa using e2
   refine kat_yes (kat_nil ?_)
   have:aW p q=false:=by unfold aW;rw [e1,e2];simp
   rw [this] at h
   simpa using h
  ·have e2:p.2≠q.2:=by simpa using e2
   refine kat_no (kat_one _ _ ?_)
   have:aW p q=decide (p.2.cps.toList < q.2.cps.toList):=by unfold aW;simp [e1]
   rw [this] at h
   exact lt_str h
 ·have e1:p.1≠q.1:=by simpa using e1
  refine kat_no ?_
  show wpAny _ _ (oneLt' true _ _) _ _ _
  refine oneLt_int ?_
  have:aW p q=decide (p.1 < q.1):=by unfold aW;simp [e1]
  rw [this] at h
  exact h
theorem Ak{n:Nat}{kp:Nat→Int×Str}(hd:∀i j,i < n→j < n→kp i=kp j→i=j):g5 n fun i j=> aW (kp i) (kp j):=by
 have tl:∀a b:Str,a≠b→(decide (a.cps.toList < b.cps.toList))=!decide (b.cps.toList < a.cps.toList):=fun a b h=> by
  by_cases z:a.cps.toList < b.cps.toList
  ·rw [decide_eq_true z,decide_eq_false (List.lt_asymm z)];rfl
  ·have z2:b.cps.toList≤a.cps.toList:=PY.mp z
   have:b.cps.toList < a.cps.toList:=by
    rcases Classical.em (b.cps.toList < a.cps.toList) with y | y
    ·exact y
    ·exact absurd (xH (P4 (PY.mp y) z2)) h
   rw [decide_eq_false z,decide_eq_true this];rfl
 refine⟨fun i j hi hj hij=> ?_,fun i j k hi hj hk h1 h2=> ?_⟩
 ·have hne:kp i≠kp j:=fun e=> hij (hd i j hi hj e)
  unfold aW
  by_cases e:(kp i).1=(kp j).1
  ·have e2:(kp i).2≠(kp j).2:=fun z=> hne (Prod.ext e z)
   simp only [e,Int.lt_irrefl,decide_false,M5,decide_true,MF]
   exact tl _ _ e2
  ·have e':(kp j).1≠(kp i).1:=fun z=> e z.symm
   simp only [e,e',decide_false,NR,Nz]
   by_cases z:(kp i).1 < (kp j).1
   ·rw [decide_eq_true z,decide_eq_false (by omega)];rfl
   ·rw [decide_eq_false z,decide_eq_true (by omega)];rfl
 ·unfold aW at h1 h2⊢
  simp only [MN,Lf,decide_eq_true_eq] at h1 h2⊢
  rcases h1 with h1 | ⟨h1,h1'⟩ <;> rcases h2 with h2 | ⟨h2,h2'⟩
  ·left;omega
  ·left;omega
  ·left;omega
  ·right;exact⟨h1.trans h2,Qo h1' h2'⟩
theorem Al{ks:List Value}{kp:Nat→Int×Str}(hk:∀i v,ks[i]?=some v→gh s.heap v (kp i))(h2:2≤ks.length){Q:SortKind→Shared→Prop}(h:Q (tuples' true) s):wpAny (model P w) A (keyKind' ks.toArray) Q E s:=by
 have key:∀(ks:List Value)(kp:Nat→Int×Str),(∀i v,ks[i]?=some v→gh s.heap v (kp i))→∃fs:List Value,KatTups s.heap ks fs∧fs.length=ks.length∧∀v∈fs,∃n t,v=MH n t:=by
  intro ks
  induction ks with
  | nil=> intro kp _;exact⟨[],KatTups.nil,rfl,by simp⟩
  | cons v ks ih=>
   intro kp hk
   obtain⟨fs,a,b,c⟩:=ih (fun i=> kp (i+1)) fun i v e=> hk (i+1) v (by simpa using e)
   obtain⟨ad,o,n,t,u,rfl,h1,h2,h3⟩:=hk 0 v rfl
   refine⟨.int (kp 0).1 t::fs,KatTups.cons h1 h2 h3 rfl a,by simp [b],fun x hx=> ?_⟩
   rcases Kz.mp hx with rfl | hx
   ·exact⟨_,_,rfl⟩
   ·exact c x hx
 obtain⟨fs,a,b,c⟩:=key ks kp hk
 refine kat_kind (T:= .type "int") a (by omega) (fun v hv=> ?_) (by decide) h
 obtain⟨n,t,rfl⟩:=c v hv
 exact .now
theorem Am{n:Nat}{ks:List Value}{kp:Nat→Int×Str}(hn:ks.length=n)(h2:2≤n)(hk:∀i v,ks[i]?=some v→gh s.heap v (kp i))(hd:∀i j,i < n→j < n→kp i=kp j→i=j){G:Array Nat→Shared→Prop}
  (q:∀p,bV n p→Up (fun i j=> aW (kp i) (kp j)) p n→G p s):(kas_sort n).kasWp (kas_ask P w A (tuples' true) ks) G s:=by
 refine GJ (lt:=fun i j=> aW (kp i) (kp j)) (I:=fun s'=> s'=s) ⟨fun i j C s' hi hj hij e c=> ?_⟩ (Ak hd) h2 rfl fun p s' e hp hu=> by subst e;exact q p hp hu
 subst e
 have ei:ks[i]?=some (ks.getD i .none):=by simp [show i < ks.length by omega]
 have ej:ks[j]?=some (ks.getD j .none):=by simp [show j < ks.length by omega]
 exact GK (hk i _ ei) (hk j _ ej) (c _ rfl)
def An(kS D:Addr)(s:Shared)(out:List Value)(C:Shared→Prop):Prop:=∀h' c,h'.get? D=some (seqObj "list" out.toArray c)→(∀b u,b≠kS→b≠D→s.heap.get? b=some u→h'.get? b=some u)→C {s with heap:=h'}
theorem Ao{st:SortSt}{kS D:Addr}{ks out:List Value}{e e1:Nat}{C:Pw→Shared→Prop}(hk:s.heap.get? kS=some (seqObj "list" ks.toArray e))(hD:s.heap.get? D=some (seqObj "list" #[] e1))(hne:kS≠D)(hf:failedOf st=none)
  (ho:(arrOf st).map (·.2)=out.toArray)(h64:out.length < 64)(hk64:ks.length < 64)(q:An kS D s out (C (.done (.ret .none)))):wpAny (model P w) A (ksk_tail D false e1 (.ref kS) st) C E s:=by
 have hsl:sizeLine=16777216:=sizeLine_eq
 unfold ksk_tail
 rw [ho]
 refine wpAny_bind (listUpdate_at hk rfl (wpAny_bind (wpAny_letGo ?_)) (by rw [Kt];omega) (Lj _))
 have u1:=La s.heap kS (Le fun _=> (#[]:Array Value))
 have hD1:(s.heap.update kS (Le fun _=> (#[]:Array Value))).get? D=some (seqObj "list" #[] e1):=(u1.2 D (Ne.symm hne)).trans hD
 refine wpAny_bind (seqEpoch_at (s:={s with heap:=s.heap.update kS (Le fun _=> (#[]:Array Value))}) hD1 rfl ?_)
 rw [if_neg (by simp)]
 refine wpAny_bind (listUpdate_at (s:={s with heap:=s.heap.update kS (Le fun _=> (#[]:Array Value))}) hD1 rfl ?_ (Lj _) (by show out.toArray.size≤_;rw [Kt];omega))
 have u2:=La (s.heap.update kS (Le fun _=> (#[]:Array Value))) D (Le fun _=> out.toArray)
 rw [hf]
 simp only [bne_self_eq_false,L6,if_false]
 exact wpAny_pure (q _ _ (get?_update_seq hD1 fun _=> out.toArray) fun b u n1 n2 z=> (u2.2 b n2).trans ((u1.2 b n1).trans z))
theorem GL{kS D:Addr}{vs ks:List Value}{n e e1:Nat}{kp:Nat→Int×Str}{C:Pw→Shared→Prop}(hv:vs.length=n)(hn:ks.length=n)(h64:n < 64)(hks:s.heap.get? kS=some (seqObj "list" ks.toArray e))(hD:s.heap.get? D=some (seqObj "list" #[] e1))(hne:kS≠D)
  (hk:∀i v,ks[i]?=some v→gh s.heap v (kp i))(hd:∀i j,i < n→j < n→kp i=kp j→i=j)
  (q:∀p,bV n p→Up (fun i j=> aW (kp i) (kp j)) p n→An kS D s (p.toList.map fun i=> vs.getD i .none) (C (.done (.ret .none)))):wpAny (model P w) A (ksk_end D false vs.toArray e1 (.ref kS) ks.toArray) C E s:=by
 unfold ksk_end
 have hz:vs.toArray.size=n:=by rw [Kt];exact hv
 by_cases h2:n < 2
 ·simp only [L6,if_false,hz,h2,if_true]
  refine wpAny_bind (wpAny_pure (wpAny_bind (wpAny_pure ?_)))
  refine Ao hks hD hne rfl (out:=vs) ?_ (by omega) (by omega) ?_
  ·show(ks.toArray.zip vs.toArray).map (·.2)=vs.toArray
   apply Ot.mp
   simp only [P5,P6]
   rw [P7 (by omega)]
  ·have:=q _ (tE n) (fun i j a b=> by omega)
   have e:((Pu (Lp n)).toList.map fun i=> vs.getD i Mm)=vs:=by
    apply MC (by simp [hv])
    intro i a b
    simp at a b⊢
    rw [KI b];rfl
   rw [e] at this
   exact this
 ·simp only [L6,if_false,hz,h2]
  refine wpAny_bind (Al hk (by omega) ?_)
  have hl:ks.length=vs.length:=by omega
  refine wpAny_bind (wpAny_mono (kat_run (κ:=tuples' true) (E:=fun _ _=> False) (Q:=fun st' s'=> s'=s∧∃p,bV n p∧Up (fun i j=> aW (kp i) (kp j)) p n∧arrOf st'=p.map (kas_item (ks.toArray.zip vs.toArray))∧failedOf st'=none) (G:=fun p s'=> s'=s∧bV n p∧Up (fun i j=> aW (kp i) (kp j)) p n) hl (by omega) (by omega)
   (fun p st' s' a b c d=> ⟨d.1,p,d.2.1,d.2.2,b,c⟩) ?_) (fun r s' hr=> ?_) fun _ _ x=> x.elim)
  ·rw [hv]
   exact Am hn (by omega) hk hd fun p a b=> ⟨rfl,a,b⟩
  ·obtain⟨rfl,p,p1,p2,p3,p4⟩:=hr
   refine Ao hks hD hne p4 (kat_snds hl p3) ?_ (by omega) (q p p1 p2)
   rw [Kd,KJ,p1.size];exact h64
end
end L2
namespace L2
open PySem PySem.Spec PyProof.Rows PySem.W PySem.Calls
section
variable {X:Cx} {pins:List (Addr×Obj)} {σ:St} {H:Hp} {s:Shared}
theorem af.track{o:HO}{D:Addr}{ch:List Addr}{t':Nat}{h':Heap}(I:af X pins σ H s)(hD:D∈ch)(f:∀b∈ch,fP X pins H b)(k:∀b u,b ∉ ch→s.heap.get? b=some u→h'.get? b=some u)(new:cg X.prog X.w (au H D o) h' D o):af X pins σ (au H D o) {s with heap:=h',toks:=t'}:=by
 have nC:∀b u,H b=some u→b ∉ ch:=fun b u e z=> by rw [(f b z).1] at e;cases e
 have nD:∀b u,H b=some u→b≠D:=fun b u e z=> nC b u e (by rw [z];exact hD)
 refine I.step (g':=s.gens) (d':=s.drawn) (ch:=ch) (fun b hb=> ?_) (fun b o _ _ hc e _=> k b o hc e) (fun b o _ _ hc e _=> ⟨o.slots,k b o hc e⟩) (fun b o hc _ n=> by rw [aJ (fun z=> hc (by rw [z];exact hD))];exact n)
  (fun b o hc e=> ⟨o,k b o hc e⟩) (fun b xs e=> by rw [aJ (nD _ _ e)];exact e) (fun b u xs e=> by rw [aJ (nD _ _ e)];exact e) (fun b ps e=> ⟨#[],by rw [aJ (nD _ _ e),e];simp⟩) (fun m hm=> hm.at' fun o e=> k _ o (fun z=> (f _ z).2.1 rfl) e) (fun b u e=> ?_) I.bare
 ·obtain⟨f0,f1,f2,f3,f4,f5⟩:=f b hb;exact⟨f3,f1,f4,f5⟩
 ·by_cases hb:b=D
  ·subst hb
   rw [bu] at e;cases e
   exact new
  ·rw [aJ hb] at e
   refine(I.hok b u e).stay (fun c v hc q=> k c v (fun z=> ?_) q) (fun c q=> by rw [aJ (nD _ _ q)];exact q) (fun c xs q=> by rw [aJ (nD _ _ q)];exact q)
   rcases hc with r | r
   ·subst r;exact nC _ _ e z
   ·exact nC _ _ r z
theorem GN{k:Nat}{f:Addr}{fd:FuncData}{ps:List Str}{sp:Sp}{v:V}{u:Value}{Q:VK}(Fk:aL X.prog X.w X.K X.mg X.base CX0 k f fd ps sp)(hr:bB k X.A.in1.in1)(hb:aQ X.K fd ps [])(I:af X pins σ H s)(r:aE v u)(h:sp [v] H Q E0):
  wpAny (model X.prog X.w) X.A.in1.in1 (call (.ref f) [u]) (EP X pins σ Q) (fun _ _=> False) s:=by
 have r2:aF [v] [u]:= .cons r .nil
 have hl:([u]++[]).length=ps.length:=by
  have:=Fk.len _ _ _ _ h
  simpa using this
 have hb2:=hb s [u] I.kIn hl
 rw [LH] at hb2
 refine wpAny_call (codeAny_mono (Fk.run X.A.in1.in1 X.stack s H ⟨[u],[]⟩ [u] [v] Q E0 hr I.env0.in1.in1 hb2 r2 h) fun r s' hq=> ?_)
 cases r with
 | error e=> exact hq.elim
 | ok fl=>
  cases fl with
  | ret u=> exact I.after hq
  | next=> exact LJ hq
  | brk=> exact LJ hq
  | cont=> exact LJ hq
def jG(X:Cx)(pins:List (Addr×Obj))(b:Addr):Prop:=b≠X.env.locals∧b ∉ X.fs∧(b∈X.ex∨X.s₀.heap.objs.size≤b)∧(∀x c,X.env.cells.lookup x=some c→c≠b)∧∀p∈X.pn++pins,p.1≠b
theorem af.out(I:af X pins σ H s){b:Addr}(hb:s.heap.objs.size≤b):jG X pins b:=(I.fpOk (H':=H) hb (I.hok.fresh hb)).2
structure jH (X:Cx) (pins:List (Addr×Obj)) (σ:St) (H:Hp) (O:Ex) (kS D:Addr) (e1:Nat) (kds:List PyData) (ks:List Value) (s:Shared):Prop where
 ex:∃H' kvs e,af X (pins++[(kS,seqObj "list" ks.toArray e),(D,seqObj "list" #[] e1)]) σ H' s∧ar H H'∧aj X.K H' O kvs kds∧aF kvs ks
theorem jH.push{O:Ex}{kS D:Addr}{e1:Nat}{kds:List PyData}{ks:List Value}{H':Hp}{kvs:List V}{e:Nat}{h':Heap}{kv:V}{kd:PyData}{k:Value}(oS:jG X pins kS)(oD:jG X pins D)(hne:kS≠D)
  (I:af X (pins++[(kS,seqObj "list" ks.toArray e),(D,seqObj "list" #[] e1)]) σ H' s)(hs:ar H H')(hk:aj X.K H' O kvs kds)(hv:aF kvs ks)(k1:Dt X.K H' O kv kd)(k2:aE kv k)
  (hu:∃e',h'.get? kS=some (seqObj "list" (ks++[k]).toArray e'))(kept:∀b u,b≠kS→s.heap.get? b=some u→h'.get? b=some u):jH X pins σ H O kS D e1 (kds++[kd]) (ks++[k]) {s with heap:=h'}:=by
 obtain⟨e',hu⟩:=hu
 have pS:=I.pin (kS,seqObj "list" ks.toArray e) (by simp)
 have pD:=I.pin (D,seqObj "list" #[] e1) (by simp)
 have I1:af X pins σ H' s:=I.pins_of fun p hp=> I.pin p (by simp only [KL] at hp⊢;exact .inr (.inl hp))
 have I2:af X pins σ H' {s with heap:=h'}:=I1.turned (t':=s.toks) (it:=kS) kept pS.2.1 oS.1 oS.2.2.1 oS.2.2.2.1 oS.2.2.2.2
 refine⟨H',kvs++[kv],e',I2.pins_of fun p hp=> ?_,hs,hk.append (.cons k1 .nil),hv.append (.cons k2 .nil)⟩
 rcases KL.mp hp with z | z
 ·exact I2.pin p (K7 _ z)
 ·simp only [Kz,Ln,or_false] at z
  rcases z with rfl | rfl
  ·exact⟨hu,pS.2.1,oS.1,oS.2.1,fun v z=> by cases z⟩
  ·exact⟨kept _ _ (Ne.symm hne) pD.1,pD.2.1,oD.1,oD.2.1,fun v z=> by cases z⟩
theorem Ap{k:Nat}{f:Addr}{fd:FuncData}{ps:List Str}{F:List PyData→(PyData→Prop)→Prop}{O:Ex}{kS D:Addr}{e1:Nat}{kd:PyData→PyData}(Fk:aL X.prog X.w X.K X.mg X.base CX0 k f fd ps (bp X.K F))(hr:bB k X.A.in1.in1)(hb:aQ X.K fd ps [])(trk:∀l,O l→H l≠none)
  (oS:jG X pins kS)(oD:jG X pins D)(hne:kS≠D){body:Value→PUnit→Sem (ForInStep PUnit)}{E:Value→Shared→Prop}
  (hbo:∀(x:Value) (s:Shared) (Q':Shared→Prop),wpAny (model X.prog X.w) X.A.in1.in1 (call (.ref f) [x]) (fun k s'=> wpAny (model X.prog X.w) X.A.in1.in1 (OD (.ref kS) (·.push k)) (fun _ s''=> Q' s'') (fun _ _=> False) s') (fun _ _=> False) s→wpAny (model X.prog X.w) X.A.in1.in1 (body x ⟨⟩) (fun r s'=> r= .yield ⟨⟩∧Q' s') E s):
  ∀(r:List Value)(xr:List V)(dr:List PyData)(kds:List PyData)(ks:List Value)(s:Shared)(Q:Shared→Prop),aF xr r→aj X.K H O xr dr→(∀d∈dr,∀R:PyData→Prop,R (kd d)→F [d] R)→jH X pins σ H O kS D e1 kds ks s→ks.length+r.length < 64→
   (∀ks' s',jH X pins σ H O kS D e1 (kds++dr.map kd) ks' s'→ks'.length=ks.length+r.length→Q s')→wpAny (model X.prog X.w) X.A.in1.in1 (forIn r PUnit.unit body) (fun _ s'=> Q s') E s
 | [],xr,dr,kds,ks,s,Q,hv,hd,hF,M,hl,q=> by
  cases hv
  cases hd
  rw [List.forIn_nil]
  exact wpAny_pure (q ks s (by rw [Ly,LH];exact M) (by simp))
 | x::r,xr,dr,kds,ks,s,Q,hv,hd,hF,M,hl,q=> by
  cases hv with
  | @cons v _ xr _ h1 h2=>
   cases hd with
   | @cons _ d _ dr g1 g2=>
    rw [P9]
    rw [Kw] at hl
    obtain⟨H',kvs,e,I,hs,hk,hvk⟩:=M.ex
    refine wpAny_bind (wpAny_mono (hbo x s (fun s'=> ∃k,jH X pins σ H O kS D e1 (kds++[kd d]) (ks++[k]) s') (wpAny_mono (GN (Q:=fun v2 H2=> ar H' H2∧Dt X.K H2 O v2 (kd d)) Fk hr hb I h1 ⟨O,[d],fun y=> y=kd d,fun l z e=> trk l z (by
     cases q:H l with
     | none=> rfl
     | some u=> rw [hs _ _ q] at e;cases e),.cons (g1.mono hs) .nil,hF d (by simp) _ rfl,fun y v2 H2 e s2 r2=> by subst e;exact⟨s2,r2⟩⟩) (fun kk s' hq=> ?_) fun _ _ z=> z)) (fun r' s' hq=> ?_) fun _ _ z=> z)
    ·obtain⟨kv,H2,I2,rk,s2,dk⟩:=hq
     have pS:=I2.pin (kS,seqObj "list" ks.toArray e) (by simp)
     refine listUpdate_at pS.1 rfl ⟨kk,?_⟩ (by rw [Kt];have:sizeLine=16777216:=sizeLine_eq;omega) (by rw [Array.size_push,Kt];have:sizeLine=16777216:=sizeLine_eq;omega)
     have u1:=La s'.heap kS (Le (·.push kk))
     have gk:=get?_update_seq pS.1 (·.push kk)
     rw [show ks.toArray.push kk=(ks++[kk]).toArray by simp] at gk
     exact jH.push oS oD hne I2 (hs.trans s2) (hk.mono s2) hvk dk rk ⟨_,gk⟩ fun b u n z=> (u1.2 b n).trans z
    ·obtain⟨rfl,kk,M'⟩:=hq
     refine Ap Fk hr hb trk oS oD hne hbo r xr dr (kds++[kd d]) (ks++[kk]) s' Q h2 g2 (fun y hy=> hF y (by simp [hy])) M' (by simp;omega) fun ks' s2 M2 l2=> q ks' s2 ?_ (by rw [l2];simp;omega)
     rw [Kj,←List.singleton_append,←Nt]
     exact M2
def cD(p:Int×Str):PyData:= .tuple [.int p.1,.str p.2]
theorem tH{h:V}{u:Value}{O:Ex}{p:Int×Str}(I:af X pins σ H s)(d:Dt X.K H O h (cD p))(r:aE h u):gh s.heap u p:=by
 obtain⟨a,xs,rfl,hq,hd⟩:=(Sh.dt d).tup
 cases r
 obtain⟨its,rv,⟨o,e,c,n,dd⟩,_⟩:=I.tuple hq
 cases hd with
 | cons g1 g2=>
  cases g2 with
  | cons g2 g3=>
   cases g3;cases g1;cases g2
   cases rv with
   | cons r1 r2=>
    cases r2 with
    | cons r2 r3=>
     cases r3
     obtain⟨t,rfl⟩:=r1
     obtain⟨u,rfl⟩:=r2
     exact⟨a,o,n,t,u,rfl,e,c,dd⟩
theorem m5{K:Kb}{H:Hp}{O:Ex}:∀{xs:List V}{ds:List PyData}{i:Nat}{d:PyData},aj K H O xs ds→ds[i]?=some d→∃x,xs[i]?=some x∧Dt K H O x d
 | _,_,0,d,.cons h r,e=> by simp at e;subst e;exact⟨_,rfl,h⟩
 | _,_,i+1,d,.cons h r,e=> by simp only [Mf] at e⊢;exact m5 r e
theorem oY{xs:List V}{us:List Value}:∀{i:Nat}{u:Value},aF xs us→us[i]?=some u→∃x,xs[i]?=some x∧aE x u:=by
 intro i u h e
 have hl:=h.length
 have hi:i < us.length:=(Ku.mp e).1
 obtain⟨u',e',r⟩:=h.get (show xs[i]?=some (xs[i]'(by omega)) by simp)
 rw [e] at e';cases e'
 exact⟨_,by simp,r⟩
theorem GO{O:Ex}{kS D:Addr}{e1:Nat}{kps:List (Int×Str)}{ks:List Value}(M:jH X pins σ H O kS D e1 (kps.map cD) ks s):(∀i v,ks[i]?=some v→gh s.heap v (kps.getD i (0,Ka "")))∧ks.length=kps.length:=by
 obtain⟨H',kvs,e,I,hs,hk,hv⟩:=M.ex
 have hl:ks.length=kps.length:=by rw [←hv.length,hk.length,Kd]
 refine⟨fun i v ei=> ?_,hl⟩
 have hi:i < kps.length:=by rw [←hl];exact(Ku.mp ei).1
 obtain⟨x,ex,rx⟩:=oY hv ei
 obtain⟨y,ey,dy⟩:=m5 (i:=i) (d:=cD kps[i]) hk (by rw [KQ,KI hi];rfl)
 rw [ex] at ey;cases ey
 have:kps.getD i (0,Ka "")=kps[i]:=by simp [hi]
 rw [this]
 exact tH I dy rx
theorem GP{k:Nat}{f:Addr}{fd:FuncData}{ps:List Str}{F:List PyData→(PyData→Prop)→Prop}{O:Ex}{D:Addr}{n0:Nat}{kf:PyData→Int×Str}{vs:List Value}{xs:List V}{ds:List PyData}{Q:V→Hp→Prop}{C:Pw→Shared→Prop}{E:Value→Shared→Prop}
  (Fk:aL X.prog X.w X.K X.mg X.base CX0 k f fd ps (bp X.K F))(hr:bB k X.A.in1.in1)(hb:aQ X.K fd ps [])(trk:∀l,O l→H l≠none)(I:af X pins σ H s)(oD:jG X pins D)(hHD:H D=none)(hD:s.heap.get? D=some (seqObj "list" vs.toArray n0))
  (hv:aF xs vs)(hd:aj X.K H O xs ds)(hF:∀d∈ds,∀R:PyData→Prop,R (cD (kf d))→F [d] R)(h64:ds.length < 64)(nd:(ds.map kf).Nodup)
  (q:∀(H':Hp) (xs':List V) (ds':List PyData),ar H H'→H' D=none→aj X.K H' O xs' ds'→ds'.Perm ds→ds'.Pairwise (fun a b=> aW (kf a) (kf b)=true)→Q (.ref D) (au H' D (.lst xs')))
  (fin:∀s',EP X pins σ Q (.ref D) s'→C (.done (.ret .none)) s'):wpAny (model X.prog X.w) X.A.in1.in1 (ksk_tree D (.ref f) false) C E s:=by
 have hsl:sizeLine=16777216:=sizeLine_eq
 have lv:vs.length=ds.length:=by rw [←hv.length,hd.length]
 have lD:D < s.heap.objs.size:=Kv hD
 unfold ksk_tree
 refine wpAny_bind (listItems_at hD rfl (wpAny_bind (listUpdate_at hD rfl ?_ (by rw [Kt];omega) (Lj _))))
 have u1:=La s.heap D (Le fun _=> (#[]:Array Value))
 have g1:=get?_update_seq hD fun _=> (#[]:Array Value)
 have I1:af X pins σ H {s with heap:=s.heap.update D (Le fun _=> (#[]:Array Value))}:=I.turned (t':=s.toks) (it:=D) (fun b u n z=> (u1.2 b n).trans z) hHD oD.1 oD.2.2.1 oD.2.2.2.1 oD.2.2.2.2
 generalize s.heap.update D (Le fun _=> (#[]:Array Value))=h1 at*
 generalize (if (#[]:Array Value).size==vs.toArray.size then n0 else n0+1)=e1 at*
 refine wpAny_bind (seqEpoch_at (s:={s with heap:=h1}) g1 rfl ?_)
 refine wpAny_bind (wpAny_newTuple ?_ (by show vs.length≤_;omega))
 have I2:af X pins σ H {s with heap:=h1.push {cls:= .type "tuple",data:= .seq vs.toArray}}:=I1.kept (t':=s.toks) fun b u z=> Kg _ z
 have g2:(h1.push {cls:= .type "tuple",data:= .seq vs.toArray}).get? D=some (seqObj "list" #[] e1):=Kg _ g1
 show wpAny _ _ _ _ _ {s with heap:=h1.push {cls:= .type "tuple",data:= .seq vs.toArray}}
 generalize h1.push {cls:= .type "tuple",data:= .seq vs.toArray}=h2 at*
 refine wpAny_bind (wpAny_newList (s:={s with heap:=h2}) ?_ (Lj _))
 have oS:jG X pins h2.objs.size:=I2.out (Kk _)
 have hne:h2.objs.size≠D:=NL (Kv g2)
 have I3:af X pins σ H {s with heap:=h2.push (seqObj "list" #[] 0)}:=I2.kept (t':=s.toks) fun b u z=> Kg _ z
 have hS0:H h2.objs.size=none:=I2.hok.fresh (Kk _)
 have M0:jH X pins σ H O h2.objs.size D e1 [] [] {s with heap:=h2.push (seqObj "list" #[] 0)}:=by
  refine⟨H,[],0,I3.pins_of fun p hp=> ?_,ar.refl _,.nil,.nil⟩
  rcases KL.mp hp with z | z
  ·exact I3.pin p (K7 _ z)
  ·simp only [Kz,Ln,or_false] at z
   rcases z with rfl | rfl
   ·exact⟨KD _ rfl,hS0,oS.1,oS.2.1,fun v z=> by cases z⟩
   ·exact⟨Kg _ g2,hHD,oD.1,oD.2.1,fun v z=> by cases z⟩
 refine wpAny_holding ?_
 unfold ksk_rest
 refine wpAny_bind (wpAny_rule ?_)
 rw [List.forIn_toArray]
 refine wpAny_bind (Ap (kd:=fun d=> cD (kf d)) (E:=E) Fk hr hb trk oS oD hne (fun x s' Q' hx=> ?_) vs xs ds [] [] _ _ hv hd hF M0 (by simp;omega) fun ks s' M hkl=> ?_)
 ·refine wpAny_bind (wpAny_attempt (wpAny_mono hx (fun kk s2 hk=> ?_) fun _ _ z=> z.elim))
  exact wpAny_bind (wpAny_mono hk (fun _ s3 z=> wpAny_pure ⟨rfl,z⟩) fun _ _ z=> z.elim)
 ·rw [LI,←Function.comp_def,←KY] at M
  obtain⟨hk,hkn⟩:=GO M
  rw [Kd] at hkn
  obtain⟨H',kvs,e,I4,hs,_,_⟩:=M.ex
  have pS:=I4.pin (h2.objs.size,seqObj "list" ks.toArray e) (by simp)
  have pD:=I4.pin (D,seqObj "list" #[] e1) (by simp)
  have I5:af X pins σ H' s':=I4.pins_of fun p hp=> I4.pin p (by simp only [KL] at hp⊢;exact .inr (.inl hp))
  refine wpAny_bind (listItems_at pS.1 rfl ?_)
  refine GL (n:=ds.length) (kp:=fun i=> (ds.map kf).getD i (0,Ka "")) lv hkn h64 pS.1 pD.1 hne hk (fun i j hi hj ee=> ?_) fun p pp pu h' c gD kept=> ?_
  ·have e1':(ds.map kf).getD i (0,Ka "")=(ds.map kf)[i]'(by simpa using hi):=by simp [hi]
   have e2':(ds.map kf).getD j (0,Ka "")=(ds.map kf)[j]'(by simpa using hj):=by simp [hj]
   rw [e1',e2'] at ee
   exact(NF nd).mp ee
  ·refine fin _ ⟨.ref D,au H' D (.lst (p.toList.map fun i=> xs.getD i .non)),?_,rfl,q H' _ (p.toList.map fun i=> ds.getD i .none) hs pD.2.1 ?_ ?_ ?_⟩
   ·refine I5.track (t':=s'.toks) (ch:=[h2.objs.size,D]) (by simp) (fun b hb=> ?_) (fun b u hb z=> kept b u (fun y=> hb (by simp [y])) (fun y=> hb (by simp [y])) z) ⟨?_,_,c,?_,gD⟩
    ·simp only [Kz,Ln,or_false] at hb
     rcases hb with rfl | rfl
     ·exact⟨pS.2.1,oS⟩
     ·exact⟨pD.2.1,oD⟩
    ·rw [Kd,KJ,pp.size];omega
    ·have:∀l:List Nat,(∀i∈l,i < ds.length)→aF (l.map fun i=> xs.getD i .non) (l.map fun i=> vs.getD i .none):=by
      intro l
      induction l with
      | nil=> intro _;exact .nil
      | cons a l ih=>
       intro hl
       have ha:=hl a (by simp)
       refine .cons ?_ (ih fun i hi=> hl i (by simp [hi]))
       obtain⟨x,ex,rx⟩:=oY hv (show vs[a]?=some (vs[a]'(by omega)) by simp)
       have e1':xs.getD a .non=x:=by simp [ex]
       have e2':vs.getD a .none=vs[a]'(by omega):=by simp [show a < vs.length by omega]
       show aE (xs.getD a .non) (vs.getD a .none)
       rw [e1',e2'];exact rx
     exact this _ fun i hi=> by simpa using pp.perm.mem_iff.mp hi
   ·have:∀l:List Nat,(∀i∈l,i < ds.length)→aj X.K H' O (l.map fun i=> xs.getD i .non) (l.map fun i=> ds.getD i .none):=by
     intro l
     induction l with
     | nil=> intro _;exact .nil
     | cons a l ih=>
      intro hl
      have ha:=hl a (by simp)
      refine .cons ?_ (ih fun i hi=> hl i (by simp [hi]))
      obtain⟨x,ex,dx⟩:=m5 (i:=a) (d:=ds[a]) hd (by simp [ha])
      have e1':xs.getD a .non=x:=by simp [ex]
      have e2':ds.getD a .none=ds[a]:=by simp [ha]
      show Dt X.K H' O (xs.getD a .non) (ds.getD a .none)
      rw [e1',e2'];exact dx.mono hs
    exact this _ fun i hi=> by simpa using pp.perm.mem_iff.mp hi
   ·have h1:=pp.perm.map fun i=> ds.getD i .none
    have e:(Lp ds.length).map (fun i=> ds.getD i M8)=ds:=by
     apply MC (by simp)
     intro i a b
     simp at a b⊢
     rw [KI b];rfl
    rw [e] at h1
    exact h1
   ·rw [LD,Mw]
    intro i j hi hj hij
    have:=pu i j hij (by rw [KJ,pp.size] at hj;exact hj)
    have ei:p.getD i 0=p.toList[i]:=by simp [Nm,show i < p.size by simpa using hi]
    have ej:p.getD j 0=p.toList[j]:=by simp [Nm,show j < p.size by simpa using hj]
    rw [ei,ej] at this
    have li:p.toList[i] < ds.length:=by simpa using pp.perm.mem_iff.mp (L3 hi)
    have lj:p.toList[j] < ds.length:=by simpa using pp.perm.mem_iff.mp (L3 hj)
    have ff:∀a,a < ds.length→(ds.map kf).getD a (0,Ka "")=kf (ds.getD a .none):=fun a ha=> by simp [ha]
    dsimp only at this
    rw [ff _ li,ff _ lj] at this
    exact this
theorem GQ{k:Nat}{f l:Addr}{fd:FuncData}{ps:List Str}{F:List PyData→(PyData→Prop)→Prop}{O:Ex}{kf:PyData→Int×Str}{xs:List V}{ds:List PyData}{Q:VK}
  (hc:X.calm=true)(Fk:aL X.prog X.w X.K X.mg X.base CX0 k f fd ps (bp X.K F))(hr:bB k X.A.in1.in1)(hb:aQ X.K fd ps [])(trk:∀l,O l→H l≠none)(I:af X pins σ H s)(hq:aX X.K H l xs)
  (hd:aj X.K H O xs ds)(hF:∀d∈ds,∀R:PyData→Prop,R (cD (kf d))→F [d] R)(h64:ds.length < 64)(nd:(ds.map kf).Nodup)
  (q:∀(H':Hp) (p:Addr) (xs':List V) (ds':List PyData),ar H H'→H' p=none→aj X.K H' O xs' ds'→ds'.Perm ds→ds'.Pairwise (fun a b=> aW (kf a) (kf b)=true)→Q (.ref p) (au H' p (.lst xs'))):
  wpAny (model X.prog X.w) X.A (call (.builtin "sorted") [.ref l] [(Ka "key",.ref f)]) (EP X pins σ Q) X.xe s:=by
 have hsl:sizeLine=16777216:=sizeLine_eq
 obtain⟨vs,hv,pl,hz⟩:=I.list hq
 have lv:vs.length=ds.length:=by rw [←hv.length,hd.length]
 refine call_function_entry_kw kind_sorted plain_sorted entry_sorted (ksk_s1 _ _) ?_
 unfold Builtin.«sorted»
 refine wpAny_bind (m:=checkCount "sorted" 1 1 _) (wpAny_pure ?_)
 refine wpAny_bind (collect_list pl.isList ?_ (by omega))
 have I1:af X pins σ H {s with heap:=(s.heap.push (seqObj "list" #[] 0)).update s.heap.objs.size (Le (·++vs.toArray))}:=by
  refine I.kept (t':=s.toks) fun b u z=> ?_
  have hlt:b < s.heap.objs.size:=Kv z
  exact(Pg _ _ _ _ (KN hlt)).trans (Kg _ z)
 generalize (s.heap.push (seqObj "list" #[] 0)).update s.heap.objs.size (Le (·++vs.toArray))=h1 at*
 refine wpAny_bind (wpAny_newList (s:={s with heap:=h1}) ?_ (by omega))
 have I2:af X pins σ H {s with heap:=h1.push (seqObj "list" vs.toArray 0)}:=I1.kept (t':=s.toks) fun b u z=> Kg _ z
 have gD:(h1.push (seqObj "list" vs.toArray 0)).get? h1.objs.size=some (seqObj "list" vs.toArray 0):=KD _ rfl
 refine wpAny_bind (wpAny_holding (wpAny_call_entry_kw slot_list_sort ⟨_,gD,rfl⟩ entry_list_sort ?_ (ksk_l1 _ _)))
 rw [ksk_t1]
 refine GP (kf:=kf) Fk hr hb trk I2 (I1.out (Kk _)) (I1.hok.fresh (Kk _)) gD hv hd hF h64 nd (Q:=Q) (fun H' xs' ds' a b c d e=> q H' _ xs' ds' a b c d e) fun s' hs'=> ?_
 exact⟨_,rfl,wpAny_pure ⟨_,rfl,hs'⟩⟩
end
end L2
namespace L2
open PySem PySem.Spec PyProof.Rows PySem.W PySem.Calls
section
variable {P:Program} {w:World} {A:Around} {E:Value→Shared→Prop} {s:Shared}
theorem GR{D:Addr}{vs:List Value}{n n0:Nat}{kp:Nat→Int×Str}{C:Pw→Shared→Prop}(hv:vs.length=n)(h64:n < 64)(hD:s.heap.get? D=some (seqObj "list" vs.toArray n0))(hk:∀i v,vs[i]?=some v→gh s.heap v (kp i)∧v≠ .ref D)(hd:∀i j,i < n→j < n→kp i=kp j→i=j)
  (q:∀p,bV n p→Up (fun i j=> aW (kp i) (kp j)) p n→∀h' c,h'.get? D=some (seqObj "list" (p.toList.map fun i=> vs.getD i .none).toArray c)→(∀b u,b≠D→s.heap.get? b=some u→h'.get? b=some u)→C (.done (.ret .none)) {s with heap:=h'}):
  wpAny (model P w) A (Builtin.«list.sort» ⟨[.ref D],[]⟩) C E s:=by
 have hsl:sizeLine=16777216:=sizeLine_eq
 rw [list_sort_plain]
 refine wpAny_bind (listItems_at hD rfl (wpAny_bind (listUpdate_at hD rfl ?_ (by rw [Kt];omega) (Lj _))))
 have u1:=La s.heap D (Le fun _=> (#[]:Array Value))
 have g1:=get?_update_seq hD fun _=> (#[]:Array Value)
 have k1:∀b u,b≠D→s.heap.get? b=some u→(s.heap.update D (Le fun _=> (#[]:Array Value))).get? b=some u:=fun b u n z=> (u1.2 b n).trans z
 generalize s.heap.update D (Le fun _=> (#[]:Array Value))=h1 at*
 generalize (if (#[]:Array Value).size==vs.toArray.size then n0 else n0+1)=e1 at*
 refine wpAny_bind (seqEpoch_at (s:={s with heap:=h1}) g1 rfl ?_)
 refine wpAny_bind (wpAny_newTuple ?_ (by show vs.length≤_;omega))
 refine wpAny_bind (wpAny_newList ?_ (Lj _))
 have g2:((h1.push {cls:= .type "tuple",data:= .seq vs.toArray}).push {cls:= .type "list",data:= .seq ([]:List Value).toArray}).get? D=some (seqObj "list" #[] e1):=Kg _ (Kg _ g1)
 have k2:∀b u,b≠D→s.heap.get? b=some u→((h1.push {cls:= .type "tuple",data:= .seq vs.toArray}).push {cls:= .type "list",data:= .seq ([]:List Value).toArray}).get? b=some u:=fun b u n z=> Kg _ (Kg _ (k1 b u n z))
 show wpAny _ _ _ _ _ {s with heap:=(h1.push {cls:= .type "tuple",data:= .seq vs.toArray}).push {cls:= .type "list",data:= .seq ([]:List Value).toArray}}
 generalize (h1.push {cls:= .type "tuple",data:= .seq vs.toArray}).push {cls:= .type "list",data:= .seq ([]:List Value).toArray}=h2 at*
 refine wpAny_holding ?_
 have hz:vs.toArray.size=n:=by rw [Kt];exact hv
 have last:∀(st:SortSt)(p:Array Nat),bV n p→Up (fun i j=> aW (kp i) (kp j)) p n→failedOf st=none→(arrOf st).map (·.2)=(p.toList.map fun i=> vs.getD i .none).toArray→
   wpAny (model P w) A (do
    let touched:=(←seqEpoch D) !=e1
    OD (.ref D) fun _=> (arrOf st).map (·.2)
    if let some e:=failedOf st then rule "list.sort.comparison-raised";throw e
    if touched then rule "list.sort.modified";raiseError "ValueError" "list modified during sort"
    ret .none) C E {s with heap:=h2}:=by
  intro st p p1 p2 hf ho
  rw [ho,hf]
  refine wpAny_bind (seqEpoch_at (s:={s with heap:=h2}) g2 rfl ?_)
  refine wpAny_bind (listUpdate_at (s:={s with heap:=h2}) g2 rfl ?_ (Lj _) (by rw [Kt,Kd,KJ,p1.size];omega))
  simp only [bne_self_eq_false,L6,if_false]
  have u3:=La h2 D (Le fun _=> (p.toList.map fun i=> vs.getD i Mm).toArray)
  exact wpAny_pure (q p p1 p2 _ _ (get?_update_seq g2 fun _=> (p.toList.map fun i=> vs.getD i Mm).toArray) fun b u n z=> (u3.2 b n).trans (k2 b u n z))
 by_cases h2':n < 2
 ·simp only [hz,h2',if_true]
  refine wpAny_bind (wpAny_pure (wpAny_bind (wpAny_pure ?_)))
  refine last _ (Pu (Lp n)) (tE n) (fun i j a b=> by omega) rfl ?_
  show(vs.toArray.zip vs.toArray).map (·.2)=_
  apply Ot.mp
  simp only [P5,P6]
  rw [P7 (by omega)]
  apply MC (by simp [hv])
  intro i a b
  simp at a b⊢
  rw [KI a];rfl
 ·simp only [hz,h2',if_false]
  have hk2:∀i v,vs[i]?=some v→gh h2 v (kp i):=fun i v e=> by
   obtain⟨⟨a,o,m,t,u,rfl,x1,x2,x3⟩,ne⟩:=hk i v e
   exact⟨a,o,m,t,u,rfl,k2 a o (fun z=> ne (by rw [z])) x1,x2,x3⟩
  refine wpAny_bind (Al (s:={s with heap:=h2}) hk2 (by omega) ?_)
  refine wpAny_bind (wpAny_mono (kat_run (κ:=tuples' true) (ks:=vs) (s:={s with heap:=h2}) (E:=fun _ _=> False) (Q:=fun st' s'=> s'={s with heap:=h2}∧∃p,bV n p∧Up (fun i j=> aW (kp i) (kp j)) p n∧arrOf st'=p.map (kas_item (vs.toArray.zip vs.toArray))∧failedOf st'=none) (G:=fun p s'=> s'={s with heap:=h2}∧bV n p∧Up (fun i j=> aW (kp i) (kp j)) p n) rfl (by omega) (by omega)
   (fun p st' s' a b c d=> ⟨d.1,p,d.2.1,d.2.2,b,c⟩) ?_) (fun r s' hr=> ?_) fun _ _ x=> x.elim)
  ·rw [hv]
   exact Am (s:={s with heap:=h2}) hv (by omega) hk2 hd fun p a b=> ⟨rfl,a,b⟩
  ·obtain⟨rfl,p,p1,p2,p3,p4⟩:=hr
   exact last _ p p1 p2 p4 (kat_snds rfl p3)
end
theorem GS{X:Cx}:dO X (.builtin "sorted") (fun xs H Q=> ∃(p:Addr)(us:List V)(O:Ex)(ps:List (Int×Str)),xs=[.ref p]∧aX X.K H p us∧aj X.K H O us (ps.map cD)∧ps.length < 64∧ps.Nodup∧∀(l:Addr)(us':List V)(ps':List (Int×Str)),H l=none→aj X.K H O us' (ps'.map cD)→ps'.Perm ps→ps'.Pairwise (fun a b=> aW a b=true)→Q (.ref l) (au H l (.lst us'))):=by
 intro pins s σ H xs ws Q I r h
 obtain⟨l,us,O,ps,rfl,hq,hd,h64,nd,q⟩:=h
 obtain⟨u,rfl,rx⟩:=dY r
 cases rx
 have hsl:sizeLine=16777216:=sizeLine_eq
 obtain⟨vs,hv,pl,hz⟩:=I.list hq
 have lv:vs.length=ps.length:=by rw [←hv.length,hd.length,Kd]
 refine Nc kind_sorted plain_sorted entry_sorted (args_sorted1 _) ?_
 unfold Builtin.«sorted»
 refine wpAny_bind (m:=checkCount "sorted" 1 1 _) (wpAny_pure ?_)
 refine wpAny_bind (collect_list pl.isList ?_ (by omega))
 have I1:af X pins σ H {s with heap:=(s.heap.push (seqObj "list" #[] 0)).update s.heap.objs.size (Le (·++vs.toArray))}:=by
  refine I.kept (t':=s.toks) fun b u z=> ?_
  have hlt:b < s.heap.objs.size:=Kv z
  exact(Pg _ _ _ _ (KN hlt)).trans (Kg _ z)
 generalize (s.heap.push (seqObj "list" #[] 0)).update s.heap.objs.size (Le (·++vs.toArray))=h1 at*
 refine wpAny_bind (wpAny_newList (s:={s with heap:=h1}) ?_ (by omega))
 have I2:af X pins σ H {s with heap:=h1.push (seqObj "list" vs.toArray 0)}:=I1.kept (t':=s.toks) fun b u z=> Kg _ z
 have gD:(h1.push (seqObj "list" vs.toArray 0)).get? h1.objs.size=some (seqObj "list" vs.toArray 0):=KD _ rfl
 have hH:H h1.objs.size=none:=I1.hok.fresh (Kk _)
 have oD:jG X pins h1.objs.size:=I1.out (Kk _)
 have isp:∀i v,vs[i]?=some v→gh (h1.push (seqObj "list" vs.toArray 0)) v (ps.getD i (0,Ka ""))∧v≠ .ref h1.objs.size:=fun i v ei=> by
  have hi:i < ps.length:=by rw [←lv];exact(Ku.mp ei).1
  obtain⟨x,ex,rx⟩:=oY hv ei
  obtain⟨y,ey,dy⟩:=m5 (i:=i) (d:=cD ps[i]) hd (by rw [KQ,KI hi];rfl)
  rw [ex] at ey;cases ey
  have e:ps.getD i (0,Ka "")=ps[i]:=by simp [hi]
  rw [e]
  have a:=tH I1 dy rx
  refine⟨tH I2 dy rx,fun z=> ?_⟩
  obtain⟨ad,o,m,t,u,e1,e2,_⟩:=a
  rw [e1] at z
  cases z
  exact absurd (Kv e2) (Mq _)
 refine wpAny_bind (wpAny_holding (wpAny_call_entry slot_list_sort ⟨_,gD,rfl⟩ entry_list_sort ?_ (args_list_sort _)))
 refine GR (s:={s with heap:=h1.push (seqObj "list" vs.toArray 0)}) (n:=ps.length) (kp:=fun i=> ps.getD i (0,Ka "")) lv h64 gD isp (fun i j hi hj ee=> ?_) fun p pp pu h' c g kept=> ?_
 ·have e1':ps.getD i (0,Ka "")=ps[i]:=by simp [hi]
  have e2':ps.getD j (0,Ka "")=ps[j]:=by simp [hj]
  rw [e1',e2'] at ee
  exact(NF nd).mp ee
 ·have lt:∀i∈p.toList,i < ps.length:=fun i hi=> by simpa using pp.perm.mem_iff.mp hi
  have dm:aj X.K H O (p.toList.map fun i=> us.getD i .non) ((p.toList.map fun i=> ps.getD i (0,Ka "")).map cD):=by
   have:∀l:List Nat,(∀i∈l,i < ps.length)→aj X.K H O (l.map fun i=> us.getD i .non) ((l.map fun i=> ps.getD i (0,Ka "")).map cD):=by
    intro l
    induction l with
    | nil=> intro _;exact .nil
    | cons a l ih=>
     intro hl
     have ha:=hl a (by simp)
     refine .cons ?_ (ih fun i hi=> hl i (by simp [hi]))
     obtain⟨x,ex,dx⟩:=m5 (i:=a) (d:=cD ps[a]) hd (by rw [KQ,KI ha];rfl)
     have e1':us.getD a .non=x:=by simp [ex]
     have e2':ps.getD a (0,Ka "")=ps[a]:=by simp [ha]
     show Dt X.K H O (us.getD a .non) (cD (ps.getD a (0,Ka "")))
     rw [e1',e2'];exact dx
   exact this _ lt
  have vm:aF (p.toList.map fun i=> us.getD i .non) (p.toList.map fun i=> vs.getD i .none):=by
   have:∀l:List Nat,(∀i∈l,i < ps.length)→aF (l.map fun i=> us.getD i .non) (l.map fun i=> vs.getD i .none):=by
    intro l
    induction l with
    | nil=> intro _;exact .nil
    | cons a l ih=>
     intro hl
     have ha:=hl a (by simp)
     refine .cons ?_ (ih fun i hi=> hl i (by simp [hi]))
     obtain⟨x,ex,rx⟩:=oY hv (show vs[a]?=some (vs[a]'(by omega)) by simp)
     have e1':us.getD a .non=x:=by simp [ex]
     have e2':vs.getD a .none=vs[a]'(by omega):=by simp [show a < vs.length by omega]
     show aE (us.getD a .non) (vs.getD a .none)
     rw [e1',e2'];exact rx
   exact this _ lt
  refine⟨_,rfl,wpAny_pure ⟨_,rfl,.ref h1.objs.size,au H h1.objs.size (.lst (p.toList.map fun i=> us.getD i .non)),?_,rfl,q _ _ (p.toList.map fun i=> ps.getD i (0,Ka "")) hH dm ?_ ?_⟩⟩
  ·refine I2.track (t':=s.toks) (ch:=[h1.objs.size]) (by simp) (fun b hb=> ?_) (fun b u hb z=> kept b u (fun y=> hb (by simp [y])) z) ⟨?_,_,c,vm,g⟩
   ·rw [KP] at hb;subst hb;exact⟨hH,oD⟩
   ·rw [Kd,KJ,pp.size];omega
  ·have h1:=pp.perm.map fun i=> ps.getD i (0,Ka "")
   have e:(Lp ps.length).map (fun i=> ps.getD i (0,Ka ""))=ps:=by
    apply MC (by simp)
    intro i a b
    simp at a b⊢
    rw [KI b];rfl
   rw [e] at h1
   exact h1
  ·rw [LD,Mw]
   intro i j hi hj hij
   have:=pu i j hij (by rw [KJ,pp.size] at hj;exact hj)
   have ei:p.getD i 0=p.toList[i]:=by simp [Nm,show i < p.size by simpa using hi]
   have ej:p.getD j 0=p.toList[j]:=by simp [Nm,show j < p.size by simpa using hj]
   rw [ei,ej] at this
   exact this
section
variable {X:Cx} {H0:Hp} {O0:Ex}
def tI(t:DA):DA:=fun δ Q=> t δ fun ds=> ∃ps:List (Int×Str),ds=[.list (ps.map cD)]∧ps.length < 64∧ps.Nodup∧∀ps':List (Int×Str),ps'.Perm ps→ps'.Pairwise (fun a b=> aW a b=true)→Q (ps'.map cD)
theorem GU{a:Expr}{t:DA}{np p:Pos}(hg:Gl X "sorted")(hm:X.mg "sorted"=none)(hv:bootBuiltins "sorted"=some (.builtin "sorted"))(ha:PA X [a] (gR X.K H0 O0 t))(he:starEach [a] X.env=(false,eval a X.env)::starEach [] X.env:=by rfl)(hpl:(backTo p (starEach [] X.env)).any (·.1)=false:=by rfl):
  FE X H0 O0 (.Call (.Name "sorted" np) [a] [] p) (tI t):=
 (bW GS hg hm hv ha (he:=he) (hpl:=hpl)).imp fun σ H Q uu24=> by obtain⟨O,δ,Qd,w,q,k⟩:=uu24;exact⟨O,δ,_,w,q,fun ds vs H1 uu25 s1 r1=> by
  obtain⟨ps,e,h64,nd,q1⟩:=uu25
  subst e
  cases r1 with
  | cons h r=>
   cases r
   obtain⟨a,us,rfl,h1,d1⟩:=h.lst
   exact⟨a,us,O,ps,rfl,h1,d1,h64,nd,fun l us' ps' hl hd hp hs=> k _ _ _ _ (q1 ps' hp hs) s1 hl hd⟩⟩
def tJ(F:List PyData→(PyData→Prop)→Prop)(kf:PyData→Int×Str)(t:DA):DA:=fun δ Q=> t δ fun ds0=> ∃ds,ds0=[.list ds]∧(∀d∈ds,∀R:PyData→Prop,R (cD (kf d))→F [d] R)∧ds.length < 64∧(ds.map kf).Nodup∧∀ds',ds'.Perm ds→ds'.Pairwise (fun a b=> aW (kf a) (kf b)=true)→Q ds'
theorem GV{a:Expr}{t:DA}{np p gp kp:Pos}{g:Str}{k:Nat}{f:Addr}{fd:FuncData}{ps:List Str}{F:List PyData→(PyData→Prop)→Prop}(kf:PyData→Int×Str)(hc:X.calm=true)(Fk:aL X.prog X.w X.K X.mg X.base CX0 k f fd ps (bp X.K F))(hr:bB k X.A.in1.in1)(hb:aQ X.K fd ps [])
  (hgg:Gl X g)(hgm:X.mg g=some (.ref f))(hg:Gl X "sorted")(hm:X.mg "sorted"=none)(hv:bootBuiltins "sorted"=some (.builtin "sorted"))(ha:PA X [a] (gR X.K H0 O0 t))(hdb:(g==("__debug__":Str))=false:=by decide)
  (he:backTo p (starEach [a] X.env)=(false,eval a X.env)::backTo p (starEach [] X.env):=by rfl)(hplain:(backTo p (starEach [a] X.env)).any (·.1)=false:=by rfl):
  FE X H0 O0 (.Call (.Name "sorted" np) [a] [⟨some "key",.Name g gp,kp⟩] p) (tJ F kf t):=by
 intro pins s σ H Q I h
 obtain⟨O,δ,Qd,w,q,kk⟩:=h
 refine wpAny_Call_Name_kw (lX I hg hm hv ?_)
 refine callWith_kw (aB (ha p pins s σ H (fun vs H1=> ∃ds0,ar H H1∧kU X.K H1 O vs ds0∧∃ds,ds0=[.list ds]∧(∀d∈ds,∀R:PyData→Prop,R (cD (kf d))→F [d] R)∧ds.length < 64∧(ds.map kf).Nodup∧∀ds',ds'.Perm ds→ds'.Pairwise (fun a b=> aW (kf a) (kf b)=true)→Qd ds') I ⟨O,δ,_,w,q,fun ds0 vs H1 q1 s1 r1=> ⟨ds0,s1,r1,q1⟩⟩) fun us s1 hus=> ?_) he hplain rfl rfl
 obtain⟨vs,H1,I1,rv,ds0,s1',r1,ds,e,hF,h64,nd,q1⟩:=hus
 subst e
 refine kws_cons (nJ I1 hgg hgm (kws_nil ?_) hdb)
 cases r1 with
 | cons h r=>
  cases r
  obtain⟨ad,xs,rfl,hq,hd⟩:=h.lst
  obtain⟨u,rfl,rx⟩:=dY rv
  cases rx
  exact GQ (kf:=kf) hc Fk hr hb (w.mono s1').trk I1 hq hd hF h64 nd fun H' l xs' ds' a b c d e=> kk _ _ _ _ (q1 ds' d e) (s1'.trans a) b c
end
end L2
namespace L2
open PySem PySem.Spec PyProof.Rows PySem.W PySem.Calls
section
open PySem.SeqAt
open PySem.AutoSeq1 (wpAny_loadPart')
open PySem.MeetsSeq PySem.MeetsSeq2 PySem.MeetsSeq3
theorem GW(l b:Addr)(n n2:Nat)(dd dd2:Option Addr)(sl sl2:Array (Option Value))(p q:Int×Str)(t1 t2 t3 t4:Tok):
  Meets (Builtin.«tuple.__lt__» ⟨[.ref l,.ref b],[]⟩)
   (fun _ R s=> s.heap.get? l=some {cls:= .type "tuple",dict:=dd,data:= .seq #[.int p.1 t1,.str p.2 t2] n,slots:=sl}∧s.heap.get? b=some {cls:= .type "tuple",dict:=dd2,data:= .seq #[.int q.1 t3,.str q.2 t4] n2,slots:=sl2}∧
    R (.ok (.ret (.bool (aW p q)))) s):=
 .of_wp fun prog w A R s h=> by
  obtain⟨hp,g,d,tk,os⟩:=s;obtain⟨hl,hb,h⟩:=h
  have f2:=AutoSeq1.sub_tuple_tuple
  wp_walk using wpAny_loadPart' hl,wpAny_loadPart' hb,wpAny_forIn_list _ (fun rest b s'=> b.1=none∧s'=⟨hp,g,d,tk,os⟩∧(rest=[(MH p.1 t1,MH q.1 t3),(Me p.2 t2,Me q.2 t4)]∨(rest=[(Me p.2 t2,Me q.2 t4)]∧p.1=q.1)∨(rest=[]∧p.1=q.1∧p.2=q.2))) _
  case turn=>
   rintro⟨y,x⟩ rest b s' ⟨hb',rfl,h3⟩
   rcases h3 with h3 | ⟨h3,e1⟩ | ⟨h3,_⟩
   ·injection h3 with hyx hrest
    injection hyx with hy hx
    subst hy hx
    obtain⟨e,he,hiff⟩:=HT.eqAt_int A.in1 ⟨hp,g,d,tk,os⟩ p.1 t1 q.1 t3
    refine wpAny_bind (he prog w _ _ ?_)
    cases e with
    | true=>
     wp_walk
     exact⟨rfl,rfl,.inr (.inl ⟨hrest,hiff.mp rfl⟩)⟩
    | false=>
     have ne:p.1≠q.1:=fun z=> absurd (hiff.mpr z) Ki
     have hri:=HT.rcLt_int A.in1 ⟨hp,g,d,tk,os⟩ p.1 t1 q.1 t3 prog w
     have hv:aW p q=decide (p.1 < q.1):=by unfold aW;simp [ne]
     rw [hv] at h
     wp_walk using hri
     exact⟨_,rfl,by simpa using h⟩
   ·injection h3 with hyx hrest
    injection hyx with hy hx
    subst hy hx
    have he:=EqAt.str_str (A:=A.in1) (s:=⟨hp,g,d,tk,os⟩) p.2 t2 q.2 t4
    refine wpAny_bind (he prog w _ _ ?_)
    cases e:(p.2==q.2) with
    | true=>
     wp_walk
     exact⟨rfl,rfl,.inr (.inr ⟨hrest,e1,eq_of_beq e⟩)⟩
    | false=>
     have hri:∀(E:Value→Shared→Prop)(Q:Value→Shared→Prop),Q (.bool (decide (p.2.cps.toList < q.2.cps.toList))) ⟨hp,g,d,tk,os⟩→wpAny (model prog w) A.in1 (richCompare .Lt (.str p.2 t2) (.str q.2 t4)) Q E ⟨hp,g,d,tk,os⟩:=fun E Q z=> (lt_str z:wpAny (model prog w) A.in1 (compareOp .Lt (.str p.2 t2) (.str q.2 t4)) Q E _)
     have hv:aW p q=decide (p.2.cps.toList < q.2.cps.toList):=by unfold aW;simp [e1]
     rw [hv] at h
     wp_walk using hri
     exact⟨_,rfl,by simpa using h⟩
   ·cases h3
  case fin=>
   rintro⟨b1,b2⟩ s' ⟨hb',rfl,h3⟩
   simp only at hb'
   subst hb'
   rcases h3 with h3 | ⟨h3,e1⟩ | ⟨h3,e1,e2⟩
   ·cases h3
   ·cases h3
   ·have hv:aW p q=false:=by unfold aW;rw [e1,e2];simp
    rw [hv] at h
    wp_walk
    exact⟨_,rfl,by simpa [Builtin.Tuple.tupleCompareSizes] using h⟩
  case h=>
   exact⟨rfl,rfl,.inl rfl⟩
end
def Aq(K:Kb):R2:=fun x y H Q=> ∃a b p q,x= .ref a∧y= .ref b∧bw K H a [.int p.1,.str p.2]∧bw K H b [.int q.1,.str q.2]∧Q (.bl (aW p q)) H
theorem GX{X:Cx}(hu:X.A.units < cLine):bS X (compareOp .Lt) (Aq X.K):=by
 intro pins s σ H x y v u Q I rx ry h
 obtain⟨a,b,p,q,rfl,rfl,ha,hb,z⟩:=h
 cases rx
 cases ry
 obtain⟨its,r1,⟨⟨c1,d1,da1,s1⟩,o1,k1,n1,e1⟩,_⟩:=I.tuple ha
 obtain⟨its2,r2,⟨⟨c2,d2,da2,s2⟩,o2,k2,n2,e2⟩,_⟩:=I.tuple hb
 simp only at k1 e1 k2 e2
 subst k1 e1 k2 e2
 cases r1 with
 | cons x1 r1=>
  cases r1 with
  | cons x2 r1=>
   cases r1;obtain⟨t1,rfl⟩:=x1;obtain⟨t2,rfl⟩:=x2
   cases r2 with
   | cons y1 r2=>
    cases r2 with
    | cons y2 r2=>
     cases r2;obtain⟨t3,rfl⟩:=y1;obtain⟨t4,rfl⟩:=y2
     exact richCompare_meets_room (op:= .Lt) ⟨_,o1,rfl⟩ ⟨_,o2,rfl⟩ PySem.F.slot_tuple_lt PySem.F.entry_tuple_lt (PySem.F.args_tuple_lt_2 _ _) (GW a b n1 n2 d1 d2 s1 s2 p q t1 t2 t3 t4) ⟨o1,o2,(fun x=> nomatch x),.bl (aW p q),H,I,rfl,z⟩ hu
def tK:PyData→PyData→(PyData→Prop)→Prop:=fun x y Q=> ∃p q:Int×Str,x=cD p∧y=cD q∧Q (.bool (aW p q))
theorem GY{K:Kb}:cM K (Aq K) tK:=fun H O x y dx dy Qd R _ hx hy uu26 k=> by
 obtain⟨p,q,e1,e2,z⟩:=uu26
 subst e1 e2
 obtain⟨a,xs,rfl,h1,g1⟩:=hx.tup
 obtain⟨b,ys,rfl,h2,g2⟩:=hy.tup
 cases g1 with
 | cons x1 g1=>
  cases g1 with
  | cons x2 g1=>
   cases g1;cases x1;cases x2
   cases g2 with
   | cons y1 g2=>
    cases g2 with
    | cons y2 g2=>
     cases g2;cases y1;cases y2;exact⟨a,b,p,q,rfl,rfl,h1,h2,k _ _ H z (ar.refl _) (.bl _)⟩
end L2
namespace L2
open PySem PySem.Spec PyProof.Rows PySem.W PySem.Calls
section
variable {X:Cx} {H0:Hp} {O0:Ex}
theorem bA.vals{K:Kb}{H:Hp}{O:Ex}{kv:List (ak×V)}{kd:List (ak×PyData)}(h:bA K H O kv kd):aj K H O (kv.map (·.2)) (kd.map (·.2)):=by
 induction h with
 | nil=> exact .nil
 | cons a _ ih=> exact .cons a ih
abbrev jI(ks:List Str)(ds:List PyData):PyData:=wV (ks.map .str) ds
def tL(i:Nat)(t:DS):DS:=fun E δ=> ∃kd,δ[i]?=some (some (.k kd))∧∃ks:List Str,kd.map (·.1)=ks.map Lz∧t E (δ.set i (some (.v (jI ks (kd.map (·.2))))))
theorem GZ(i:Nat){st:Stmt}{t:DS}(h:PS X st (bP X.K H0 O0 t)):PS X st (bP X.K H0 O0 (tL i t)):=
 h.imp fun D σ H uu27=> by
  obtain⟨O,δ,E,w,⟨kd,e,ks,ek,q⟩,k1,k2,k3,k4⟩:=uu27
  obtain⟨l,kv,h,a,b,c,r⟩:=w.ownK e
  obtain⟨O',w',S⟩:=w.letbe (y0:= .k kd) (d:=jI ks (kd.map (·.2))) e trivial h fun O' S n=> .dic c (by rw [r.keys];exact ek) rfl n (r.vals.step S)
  exact⟨O',_,E,w',q,fun O2 δ2 σ2 H2 z2 w2 S2=> k1 O2 δ2 σ2 H2 z2 w2 (S.trans S2),k2,fun O2 δ2 σ2 H2 z2 w2 S2=> k3 O2 δ2 σ2 H2 z2 w2 (S.trans S2),fun O2 δ2 σ2 H2 z2 w2 S2=> k4 O2 δ2 σ2 H2 z2 w2 (S.trans S2)⟩
theorem tM:∀{a b:List Str},a.map Kf=b.map Kf→a=b
 | [],[],_=> rfl
 | [],_::_,h=> by cases h
 | _::_,[],h=> by cases h
 | x::a,y::b,h=> by
  simp only [Kj,LB,MD] at h
  rw [h.1,tM h.2]
def cJ:List Str→List PyData→Str→Option PyData
 | k::ks,d::ds,z=> if k=z then some d else cJ ks ds z
 | _,_,_=> none
theorem tN{K:Kb}{H:Hp}{O:Ex}{z:Str}{d:PyData}:∀{kv:List (ak×V)}{ks:List Str}{ds:List PyData},kv.map (·.1)=ks.map Lz→aj K H O (kv.map (·.2)) ds→cJ ks ds z=some d→∃v,dZ kv (.inr z)=some v∧Dt K H O v d
 | [],[],ds,_,_,e=> by unfold cJ at e;cases e
 | [],_::_,ds,h,_,_=> by cases h
 | _::_,[],ds,h,_,_=> by cases h
 | p::kv,k::ks,ds,h,hd,e=> by
  rw [Kj] at hd
  cases hd with
  | cons h1 h2=>
   simp only [Kj,LB] at h
   obtain⟨p1,p2⟩:=p
   obtain⟨rfl,h⟩:=h
   unfold cJ at e
   by_cases hk:k=z
   ·rw [if_pos hk] at e;cases e
    exact⟨p2,mQ (by rw [hk]),h1⟩
   ·rw [if_neg hk] at e
    obtain⟨v,a,b⟩:=tN h h2 e
    exact⟨v,by rw [kZ (fun q=> hk (mZ.mp q))];exact a,b⟩
end
end L2
namespace L2
open PySem PySem.Spec PyProof.Rows PySem.W PySem.Calls
section
variable {X:Cx} {H0:Hp} {O0:Ex}
end
section
variable {X:Cx} {H0:Hp} {O0:Ex}
def tO(t:DT)(g:DG)(tc:DB)(te:DT)(k:Nat)(fr:List Nat):DA:=fun δ Q=> mJ t g tc te k fr δ Q∨mK t g tc te k fr δ Q
theorem G0{N':List Str}{k:Nat}{fr:List Nat}{scope:Scope}{iter elt tg:Expr}{ifs:List Expr}{t te:DT}{tc:DB}{g:TG}{dg:DG}{pos:Pos}(hc:X.calm=true)(S:bz X.env.scope X.N N' k fr scope)(hi:DF X H0 O0 iter t)(gd:GD X.K g dg)(hk:iJ g k)(hfr:fr.Nodup)
  (hg:∀fp C s H,PG (bF X scope N' fp C s H) tg g)(hf:∀fp C s H,eN (bF X scope N' fp C s H) ifs (cj X.K H0 O0 tc))(he:∀fp C s H,PE (bF X scope N' fp C s H) elt (up X.K H0 O0 te))
  (hs:∀x,foldedSetIterable iter X.env x=pure x:=by intro _;rfl):FE X H0 O0 (.ListComp elt [⟨tg,iter,ifs,0⟩] scope pos) (tO t dg tc te k fr):=by
 intro pins s σ H Q I h
 obtain⟨O,δ,Qd,w,q,kk⟩:=h
 rcases q with q | q
 ·exact gT hc S hi gd hk hfr hg hf he hs pins s σ H Q I ⟨O,δ,Qd,w,q,kk⟩
 ·exact gU hc S hi gd hk hfr hg hf he hs pins s σ H Q I ⟨O,δ,Qd,w,q,kk⟩
end
theorem G3{fr:List Nat}{σ:St}{v u:Option V}:j7 (bM 2 fr σ) (((bM 2 fr σ).set 0 v).set 1 u):=by
 refine⟨by simp,fun i w h=> ?_⟩
 match i with
 | 0=> simp [bM,Kx] at h
 | 1=> simp [bM,Kx] at h
 | i+2=> simpa [bM,Kx] using h
theorem m6{K:Kb}{n:Nat}:iJ (nM K n (lY (gJ 0) (lY (gJ 1) nL))) 2:=fun fr σ v H' R uu28=> by obtain⟨a,xs,e,h1,h2,x,r,e1,y,r2,e2,e3,h⟩:=uu28;exact⟨a,xs,e,h1,h2,x,r,e1,y,r2,e2,e3,G3,h⟩
section
variable {X:Cx} {H0:Hp} {O0:Ex}
end
def Ar(K:Kb):R2:=fun x y H Q=> ∃a b xs ys,x= .ref a∧y= .ref b∧bw K H a xs∧bw K H b ys∧xs.length+ys.length≤sizeLine∧(xs=[]→Q (.ref b) H)∧(xs≠[]→qz K x y H Q)
theorem m7{X:Cx}:bS X (binaryOp .Add) (Ar X.K):=by
 intro pins s σ H x y v u Q I rx ry h
 obtain⟨a,b,xs,ys,rfl,rfl,ha,hb,hz,q0,q1⟩:=h
 by_cases hx:xs=[]
 ·subst hx
  cases rx
  cases ry
  obtain⟨its,r1,⟨⟨c1,d1,da1,s1⟩,o1,k1,n1,e1⟩,_⟩:=I.tuple ha
  obtain⟨its2,r2,⟨⟨c2,d2,da2,s2⟩,o2,k2,n2,e2⟩,_⟩:=I.tuple hb
  simp only at k1 e1 k2 e2
  subst k1 e1 k2 e2
  cases r1
  exact concat_meets ⟨_,o1,rfl⟩ ⟨_,o2,rfl⟩ noFill_tuple_add seq_tuple_add Nw Nn (Nh _ _)
   (tuple_addW0 a b _ its2.toArray n1 n2 d1 d2 s1 s2 (by simp)) ⟨o1,o2,.ref b,H,I,rfl,q0 rfl⟩
 ·exact DR pins s σ H _ _ v u Q I rx ry (q1 hx)
def tP:PyData→PyData→(PyData→Prop)→Prop:=fun x y Q=> ∃xs ys,x= .tuple xs∧y= .tuple ys∧xs.length+ys.length≤sizeLine∧Q (.tuple (xs++ys))
theorem m8{K:Kb}:cM K (Ar K) tP:=fun H O x y dx dy Qd R tr hx hy uu29 k=> by
 obtain⟨xs,ys,e1,e2,hz,q⟩:=uu29
 subst e1 e2
 have hx0:=hx
 have hy0:=hy
 obtain⟨a,vs,rfl,h1,d1⟩:=hx.tup
 obtain⟨b,us,rfl,h2,d2⟩:=hy.tup
 refine⟨a,b,vs,us,rfl,rfl,h1,h2,by rw [d1.length,d2.length];exact hz,fun z=> ?_,fun z=> ?_⟩
 ·subst z
  cases d1
  rw [LI] at q
  cases hy0 with
  | dt hy0=> exact k _ _ H q (ar.refl _) hy0
 ·exact EH H O _ _ _ _ Qd R tr hx0 hy0 ⟨xs,ys,rfl,rfl,fun e=> z (by subst e;cases d1;rfl),hz,q⟩ k
end L2
namespace L2
open PySem PySem.Spec PyProof.Rows PySem.W PySem.Calls
def fg(f:Str)(d:PyData):List (Str×PyData)→List (Str×PyData)
 | []=> [(f,d)]
 | (g,x)::r=> if g=f then(g,d)::r else(g,x)::fg f d r
theorem kP.put{K:Kb}{H:Hp}{O:Ex}{f:Str}{v:V}{d:PyData}(hv:Dt K H O v d):∀{fs:List (Str×V)}{fd:List (Str×PyData)},kP K H O fs fd→kP K H O (dP f v fs) (fg f d fd)
 | [],[],_=> ⟨rfl,.cons hv .nil⟩
 | [],_::_,h=> by cases h.1
 | _::_,[],h=> by cases h.1
 | (g,x)::fs,(g',y)::fd,⟨h1,h2⟩=> by
  simp only [Kj,LB] at h1
  obtain⟨rfl,h1⟩:=h1
  simp only [Kj] at h2
  cases h2 with
  | cons a r=>
   unfold dP fg
   by_cases e:g=f
   ·rw [if_pos e,if_pos e]
    exact⟨by simp only [Kj,h1],.cons hv r⟩
   ·rw [if_neg e,if_neg e]
    obtain⟨q1,q2⟩:=kP.put hv (fs:=fs) (fd:=fd) ⟨h1,r⟩
    exact⟨by simp only [Kj,q1],.cons a q2⟩
section
variable {X:Cx} {H0:Hp} {O0:Ex}
def tQ(C:Addr)(i:Nat)(f:Str)(t:DT):DS:=fun E δ=> t δ fun d=> ∃l fd,δ[i]?=some (some (.i l C fd))∧fd.length < 1000∧E.nx (δ.set i (some (.i l C (fg f d fd))))
theorem m9{C:Addr}{i:Nat}{f:Str}{o e:Expr}{t:DT}{pos pos':Pos}(hc:iB X.K C)(hn:fo X.K C f)(ho:PE X o (eX i))(he:DE X H0 O0 e t)(hs:swapsWith e (some (.Attribute o f pos')) pos.line X.env=pure false:=by rfl):
  PS X (.Assign [.Attribute o f pos'] e pos) (bP X.K H0 O0 (tQ C i f t)):=
 (Dr ho he hs).imp fun D σ H ⟨O,δ,E,w,q,k1,k2,k3,k4⟩=> ⟨O,δ,_,w,q,fun d u H1 uu31 s1 r1=> by
  obtain⟨l,fd,e,hl,q1⟩:=uu31
  have w1:=w.mono s1
  obtain⟨dx,fs,h,a,b,c,r⟩:=w1.ownI e
  have lf:fs.length=fd.length:=by have:=congrArg OO r.1;simpa using this
  refine⟨.ref l,h,l,C,dx,fs,rfl,c,hc,hn,by rw [lf];exact hl,k1 _ _ _ _ q1 (w1.putY (y0:= .i l C fd) (y1:= .i l C (fg f d fd)) trivial trivial e h fun S a b=> ⟨dx,_,rfl,a,b,bu,?_⟩) ⟨fun b' o' z n=> ?_,fun _ _ n=> n⟩⟩
  ·obtain⟨z1,z2⟩:=r.put (f:=f) r1
   exact⟨z1,z2.step S⟩
  ·rw [aJ (fun y=> n (by rw [y];exact a))];exact s1 _ _ z⟩
abbrev As(C:Addr)(fd:List (Str×PyData)):PyData:=kc C (fd.map fun p=> .str p.1) (fd.map (·.2))
def tR(K:Kb)(C:Addr)(F:List PyData→(PyData→Prop)→Prop):Sp:=fun vs H Q _=> ∃x dx vs' H1 O ds Qd,vs= .ref x::vs'∧H=au (au H1 dx (.own x)) x (.ins C dx [])∧H1 x=none∧H1 dx=none∧dx≠x∧(∀l,O l→H1 l≠none)∧aj K H1 O vs' ds∧F ds Qd∧
 ∀d H',Qd d→ar H1 H'→Dt K H' O (.ref x) d→Q .non H'
theorem tS{K:Kb}{C:Addr}{F:List PyData→(PyData→Prop)→Prop}{t:DA}{E:XK}:∀σ H Q,up K H0 O0 (kT F t) σ H Q→v5 C (tR K C F) [] E (fH K H0 O0 t) σ H Q:=
 fun σ H Q uu32=> by obtain⟨O,δ,Qd,w,q,k⟩:=uu32;exact⟨O,δ,_,w,q,fun ds vs H1 q1 s1 r1 x dx hx hdx ne=> ⟨x,dx,vs,H1,O,ds,Qd,by rw [LH],rfl,hx,hdx,ne,(w.mono s1).trk,r1,q1,fun d H2 q2 s2 r2=> ⟨rfl,k d _ H2 q2 (s1.trans s2) r2⟩⟩⟩
def tT(N:List Str)(l C:Addr)(ds:List PyData):Dl:=some (.i l C [])::(gY N (.none::ds)).tail
theorem G4{K:Kb}{H1:Hp}{O:Ex}{N:List Str}{vs:List V}{ds:List PyData}{x dx C:Addr}(tr:∀l,O l→H1 l≠none)(r:aj K H1 O vs ds)(hx:H1 x=none)(hdx:H1 dx=none)(ne:dx≠x):
  Wd K H1 O (au (au H1 dx (.own x)) x (.ins C dx [])) (fun l=> O l∨l=x) (start N (.ref x::vs)) (tT N x C ds):=by
 have w0:=xb (N:=N) tr (.cons .non r)
 have w1:=w0.mono (ar.new (o:=HO.own x) hdx)
 have hx1:(au H1 dx (.own x)) x=none:=by rw [aJ (Ne.symm ne)];exact hx
 have:=w1.setY (i:=0) (p:=x) (ho:= .ins C dx []) (y0:= .i x C []) trivial hx1 fun O' S a b=> ⟨dx,[],rfl,a,b,bu,rfl,.nil⟩
 exact this
end
section
variable {P:Program} {w:World} {K:Kb} {mg:Str→Option Value} {base:Heap}
theorem aT.okI{x qual:Str}{st:Stmt}{f C:Addr}{fd:FuncData}{N ps:List Str}{k:Nat}{F:List PyData→(PyData→Prop)→Prop}(Fu:aT K x qual st f fd)(S:aY N ps (ah st))(len:∀ds Q,F ds Q→ds.length+1=ps.length)
  (hbody:∀(cdv:Value) (A:Around) (outer:List Env) (s:Shared) (H H1:Hp) (O:Ex) (ds:List PyData) (Q:PyData→Prop) (E:XK) (l:Addr),bB k (A.deeper (envOfC qual (ah st) s.heap.objs.size f cdv))→F ds Q→
   ∃t,bQ (iC CX0 P w K mg base N qual (ah st) f cdv A outer s H E).nox (ax st) (bP K H1 O t)∧t {nx:=fun δ=> ∃fd,δ[0]?=some (some (.i l C fd))∧Q (As C fd),rt:=fun _=> False} (tT N l C ds)):aL P w K mg base CX0 (k+1) f fd ps (tR K C F):=by
 refine Fu.ok S (fun vs H Q E h=> ?_) (fun cdv A outer s H vs Q E hr h=> ?_)
 ·obtain⟨x,dx,vs',H1,O,ds,Qd,rfl,_,_,_,_,_,r,q,_⟩:=h
  rw [Kw,r.length];exact len _ _ q
 ·obtain⟨x,dx,vs',H1,O,ds,Qd,rfl,rfl,hx,hdx,ne,tr,r,q,k⟩:=h
  obtain⟨t,ht,q'⟩:=hbody cdv A outer s _ H1 O ds Qd E x hr q
  refine⟨_,ht,_,_,_,G4 tr r hx hdx ne,q',fun O' δ' σ' H' z w' S'=> ?_,fun d v H' z s' r'=> z.elim,fun _ _ _ _ z=> z.elim,fun _ _ _ _ z=> z.elim⟩
  obtain⟨fd,e,z⟩:=z
  obtain⟨dx',fs,h,a,b,c,r1,r2⟩:=w'.ownI e
  refine k _ _ z w'.same (.obj c ?_ b (r2.step ⟨fun _ _ y _=> y,fun b' _ n z=> n (w'.sub b' z)⟩))
  rw [show(fd.map fun p:Str×PyData=> Kf p.1)=(fd.map (·.1)).map Kf by rw [KY];rfl,←r1,KY];rfl
end
theorem Dt.objI{K:Kb}{H:Hp}{O:Ex}{v:V}{C:Addr}{kp ds:List PyData}(h:Dt K H O v (kc C kp ds)):∃a dx fs,v= .ref a∧H a=some (.ins C dx fs)∧kp=fs.map (fun p=> Kf p.1)∧aj K H O (fs.map (·.2)) ds:=by
 generalize e:kc C kp ds=x at h
 cases h with
 | @obj a C' dx fs kp' ds' h1 h2 n r=>
  simp only [kc,PyData.dict.injEq,LB,Qp,MO,M3,Od,and_true,true_and] at e
  obtain⟨e1,e2,e3⟩:=e
  have e1:C=C':=by exact_mod_cast e1
  subst e1 e2 e3
  exact⟨a,dx,fs,rfl,h1,h2,r⟩
 | _=> first | cases e | simp [kc] at e
section
variable {X:Cx} {H0:Hp} {O0:Ex}
theorem Au{K:Kb}{H:Hp}{O:Ex}{f:Str}{d:PyData}:∀{fs:List (Str×V)}{ks:List Str}{ds:List PyData},fs.map (fun p=> Kf p.1)=ks.map Kf→aj K H O (fs.map (·.2)) ds→cJ ks ds f=some d→∃v,fs.lookup f=some v∧Dt K H O v d
 | [],[],ds,_,_,e=> by unfold cJ at e;cases e
 | [],_::_,ds,h,_,_=> by cases h
 | _::_,[],ds,h,_,_=> by cases h
 | (g,x)::fs,k::ks,ds,h,hd,e=> by
  rw [Kj] at hd
  cases hd with
  | cons h1 h2=>
   simp only [Kj,LB,MD] at h
   obtain⟨rfl,h⟩:=h
   unfold cJ at e
   rw [Lm]
   by_cases hk:g=f
   ·rw [if_pos hk] at e;cases e
    subst hk
    exact⟨x,by simp,h1⟩
   ·rw [if_neg hk] at e
    have:(f==g)=false:=by simpa using Ne.symm hk
    rw [this]
    exact Au h h2 e
def tU(C:Addr)(f:Str)(t:DT):DT:=fun δ Q=> t δ fun x=> ∃ks ds d,x=kc C (ks.map .str) ds∧cJ ks ds f=some d∧Q d
theorem lB{C:Addr}{f:Str}{e:Expr}{t:DT}{pos:Pos}(hc:iB X.K C)(hn:fo X.K C f)(he:DE X H0 O0 e t)(hb:attributeBase e f X.env (eval e X.env)=eval e X.env:=by rfl):DE X H0 O0 (.Attribute e f pos) (tU C f t):=
 (Dq he hb).imp fun σ H Q uu33=> by obtain⟨O,δ,Qd,w,q,k⟩:=uu33;exact⟨O,δ,_,w,q,fun x v H1 uu34 s1 r1=> by
  obtain⟨ks,ds,d,ex,ed,q1⟩:=uu34
  subst ex
  obtain⟨a,dx,fs,rfl,h1,h2,r⟩:=r1.objI
  obtain⟨v,hv,dv⟩:=Au h2.symm r ed
  exact⟨a,C,dx,fs,v,rfl,h1,hc,hn,hv,k _ _ _ q1 s1 dv⟩⟩
end
end L2
namespace L2
open PySem PySem.Spec PyProof.Rows PySem.W PySem.Calls
end L2
namespace L2
open PySem PySem.Spec PyProof.Rows PySem.W PySem.Calls
section
variable {P:Program} {w:World} {A:Around} {E:Value→Shared→Prop} {s:Shared}
end
end L2
namespace L2
open PySem PySem.Spec PyProof.Rows PySem.W PySem.Calls
section
variable {P:Program} {w:World} {A:Around} {R:Result→Shared→Prop} {I:Addr} {fp wr:List Addr} {G:Array GenState→Array GenState→Prop} {n:Nat} {Pv:Nat→Value→Prop} {St:Nat→Shared→Prop}
end
section
variable {P:Program} {w:World} {A:Around} {E:Value→Shared→Prop} {s:Shared}
end
end L2
namespace L2
open PySem PySem.Spec PyProof.Rows PySem.W PySem.Calls
section
variable {P:Program} {w:World} {A:Around} {E:Value→Shared→Prop} {s:Shared} {a:Addr} {o:Obj} {es:Array (Int×Value)} {ep:Nat} {t:SetTable}
end
end L2
namespace L2
open PySem PySem.Spec PyProof.Rows PySem.W PySem.Calls
section
variable {P:Program} {w:World} {A:Around} {E:Value→Shared→Prop} {s:Shared} {a:Addr}
end
end L2
namespace L2
open PySem PySem.Spec PyProof.Rows PySem.W PySem.Calls
section
variable {X:Cx} {H0:Hp} {O0:Ex}
end
end L2
namespace L2
open PySem PySem.Spec PyProof.Rows PySem.W PySem.Calls
section
variable {X:Cx} {H0:Hp} {O0:Ex}
end
end L2
namespace L2
open PySem PySem.Spec PyProof.Rows PySem.W PySem.Calls
def tV:List PyData→(PyData→Prop)→Prop:=fun ds Q=> ∃ns:List Int,ds=[.list (ns.map .int)]∧Q (.int ns.sum)
theorem G5{K:Kb}:iH K (fun xs H Q=> ∃(a:Addr)(ns:List Int),xs=[.ref a]∧aX K H a (ns.map V.int)∧Q (.int ns.sum) H) tV:=fun H O xs ds Qd R tr hs uu35 k=> by
 obtain⟨ns,e,q⟩:=uu35
 subst e
 cases hs with
 | cons h r=>
  cases r
  obtain⟨a,vs,rfl,h1,d1⟩:=h.lst
  cases d1.intsL
  exact⟨a,ns,rfl,h1,k _ _ H q (ar.refl _) (.int _)⟩
section
variable {X:Cx} {H0:Hp} {O0:Ex}
theorem aj.rep{K:Kb}{H:Hp}{O:Ex}{vs:List V}{ds:List PyData}(h:aj K H O vs ds):∀n:Nat,aj K H O (Kx n vs).flatten (Kx n ds).flatten
 | 0=> .nil
 | n+1=> by rw [LY,LY,Ms,Ms];exact h.append (aj.rep h n)
end
section
variable {X:Cx} {H0:Hp} {O0:Ex}
end
section
variable {X:Cx} {H0:Hp} {O0:Ex}
end
end L2
namespace Day
def fJ(y:Int):Bool:=decide (y % 400=0) || (decide (y % 4=0) && !decide (y % 100=0))
def ld(y:Int):Int:=if fJ y=true then 1 else 0
def tW:List Int:=[31,28,31,30,31,30,31,31,30,31,30,31]
def bf(y m:Int):Int:=if m=2∧fJ y=true then 29 else tW.getD (m - 1).toNat 0
def lb(y:Int):Int:=(y - 1)/ 4 - (y - 1)/ 100+(y - 1)/ 400
def ck(y:Int):Int:=365*(y - 2000)+lb y - lb 2000
def aZ(y m:Int):Int:=((Lp (m - 1).toNat).map fun(i:Nat)=> bf y (1+(i:Int))).sum
def gi(y m n:Int):Int:=ck y+aZ y m+n - 1
structure jJ (d y m n:Int):Prop where
 m1:1≤m
 m12:m≤12
 n1:1≤n
 nl:n≤bf y m
 eq:gi y m n=d
theorem Av(y:Int):0≤ld y∧ld y≤1:=by unfold ld;split <;> omega
theorem nc(y:Int):fJ y=true↔(y % 400=0∨(y % 4=0∧y % 100≠0)):=by
 unfold fJ;simp
theorem Aw(y:Int):ck (y+1)=ck y+365+ld y:=by
 unfold ck lb ld
 by_cases h:fJ y=true
 ·rw [if_pos h];have:=(nc y).mp h;omega
 ·rw [if_neg h];have:=mt (nc y).mpr h;omega
theorem Ax{a b:Int}(h:a+1≤b):ck (a+1)≤ck b:=by
 unfold ck lb;omega
theorem oZ(y:Int):bf y 2=28+ld y:=by
 unfold bf ld
 by_cases h:fJ y=true
 ·rw [if_pos ⟨rfl,h⟩,if_pos h];rfl
 ·rw [if_neg (fun z=> h z.2),if_neg h];rfl
theorem tX{y m:Int}(h:m≠2):bf y m=tW.getD (m - 1).toNat 0:=by
 unfold bf;rw [if_neg (fun z=> h z.1)]
theorem pb(y:Int):bf y 1=31∧bf y 3=31∧bf y 4=30∧bf y 5=31∧bf y 6=30∧bf y 7=31∧bf y 8=31∧bf y 9=30∧bf y 10=31∧bf y 11=30∧bf y 12=31:=by
 refine⟨?_,?_,?_,?_,?_,?_,?_,?_,?_,?_,?_⟩ <;> (rw [tX (by decide)];rfl)
theorem pd{m:Int}(h1:1≤m)(h2:m≤12):m=1∨m=2∨m=3∨m=4∨m=5∨m=6∨m=7∨m=8∨m=9∨m=10∨m=11∨m=12:=by omega
theorem Ay{y m:Int}(h1:1≤m)(h2:m≤12):28≤bf y m∧bf y m≤31:=by
 have:=pb y;have:=oZ y;have:=Av y
 rcases pd h1 h2 with h | h | h | h | h | h | h | h | h | h | h | h <;> subst h <;> omega
theorem tY(y:Int):aZ y 1=0:=rfl
theorem d4{y m:Int}(h:1≤m):aZ y (m+1)=aZ y m+bf y m:=by
 unfold aZ
 have e:(m+1 - 1).toNat=(m - 1).toNat+1:=by omega
 rw [e,OI,KZ,List.sum_append]
 have e2:(1:Int)+(((m - 1).toNat:Nat):Int)=m:=by omega
 simp only [Kj,Ly,Qq,List.sum_nil,e2]
 omega
theorem tZ(y:Int):aZ y 1=0∧aZ y 2=31∧aZ y 3=59+ld y∧aZ y 4=90+ld y∧aZ y 5=120+ld y∧aZ y 6=151+ld y∧aZ y 7=181+ld y∧aZ y 8=212+ld y∧aZ y 9=243+ld y∧aZ y 10=273+ld y∧aZ y 11=304+ld y∧aZ y 12=334+ld y∧aZ y 13=365+ld y:=by
 have h1:=tY y
 have h2:aZ y 2=aZ y 1+bf y 1:=d4 (m:=1) (by decide)
 have h3:aZ y 3=aZ y 2+bf y 2:=d4 (m:=2) (by decide)
 have h4:aZ y 4=aZ y 3+bf y 3:=d4 (m:=3) (by decide)
 have h5:aZ y 5=aZ y 4+bf y 4:=d4 (m:=4) (by decide)
 have h6:aZ y 6=aZ y 5+bf y 5:=d4 (m:=5) (by decide)
 have h7:aZ y 7=aZ y 6+bf y 6:=d4 (m:=6) (by decide)
 have h8:aZ y 8=aZ y 7+bf y 7:=d4 (m:=7) (by decide)
 have h9:aZ y 9=aZ y 8+bf y 8:=d4 (m:=8) (by decide)
 have h10:aZ y 10=aZ y 9+bf y 9:=d4 (m:=9) (by decide)
 have h11:aZ y 11=aZ y 10+bf y 10:=d4 (m:=10) (by decide)
 have h12:aZ y 12=aZ y 11+bf y 11:=d4 (m:=11) (by decide)
 have h13:aZ y 13=aZ y 12+bf y 12:=d4 (m:=12) (by decide)
 have:=pb y;have:=oZ y
 omega
theorem Az{y m:Int}(h1:1≤m):∀k:Nat,m+k≤13→aZ y m≤aZ y (m+k)
 | 0,_=> by simp
 | k+1,h=> by
  have ih:=Az (y:=y) h1 k (by omega)
  have e:m+((k+1:Nat):Int)=(m+k)+1:=by omega
  rw [e,d4 (by omega)]
  have:=Ay (y:=y) (m:=m+k) (by omega) (by omega)
  omega
theorem t5{y m m':Int}(h1:1≤m)(h2:m≤m')(h3:m'≤13):aZ y m≤aZ y m':=by
 have:=Az (y:=y) h1 (m' - m).toNat (by omega)
 rw [show m+(((m' - m).toNat:Nat):Int)=m' by omega] at this
 exact this
theorem t6{y m:Int}(h1:1≤m)(h2:m≤12):0≤aZ y m∧aZ y m+bf y m≤365+ld y:=by
 have a:=t5 (y:=y) (m:=1) (m':=m) (by decide) h1 (by omega)
 have b:=t5 (y:=y) (m:=m+1) (m':=13) (by omega) (by omega) (by decide)
 rw [d4 h1] at b
 have c:=(tZ y).1
 have e:=(tZ y).2.2.2.2.2.2.2.2.2.2.2.2
 omega
theorem AA{y m m':Int}(h1:1≤m)(h2:m < m')(h3:m'≤12):aZ y m+bf y m≤aZ y m':=by
 have b:=t5 (y:=y) (m:=m+1) (m':=m') (by omega) (by omega) (by omega)
 rw [d4 h1] at b
 exact b
theorem jJ.in{d y m n:Int}(h:jJ d y m n):ck y≤d∧d < ck (y+1):=by
 have:=t6 (y:=y) h.m1 h.m12;have:=h.n1;have:=h.nl;have e:=h.eq;have:=Aw y
 unfold gi at e;omega
theorem jJ.uniq{d y m n y' m' n':Int}(h:jJ d y m n)(h':jJ d y' m' n'):y=y'∧m=m'∧n=n':=by
 have a:=h.in;have b:=h'.in
 have ey:y=y':=by
  rcases PR y y' with z | z | z
  ·have:=Ax (a:=y) (b:=y') (by omega);omega
  ·exact z
  ·have:=Ax (a:=y') (b:=y) (by omega);omega
 subst ey
 have e:=h.eq;have e':=h'.eq;unfold gi at e e'
 have em:m=m':=by
  rcases PR m m' with z | z | z
  ·have:=AA (y:=y) h.m1 z h'.m12;have:=h.nl;have:=h'.n1;omega
  ·exact z
  ·have:=AA (y:=y) h'.m1 z h.m12;have:=h'.nl;have:=h.n1;omega
 subst em
 exact⟨rfl,rfl,by omega⟩
def lC(d:Int):Int:=
 if d < ck (2000+d*400 / 146097) then 2000+d*400 / 146097 - 1
 else if ck (2000+d*400 / 146097+1)≤d then 2000+d*400 / 146097+1
 else 2000+d*400 / 146097
theorem G6(d:Int):ck (lC d)≤d∧d < ck (lC d+1):=by
 unfold lC
 have e:2000+d*400 / 146097 - 1+1=2000+d*400 / 146097:=by omega
 by_cases h:d < ck (2000+d*400 / 146097)
 ·rw [if_pos h,e]
  refine⟨?_,h⟩
  unfold ck lb at*;omega
 ·rw [if_neg h]
  by_cases h2:ck (2000+d*400 / 146097+1)≤d
  ·rw [if_pos h2]
   refine⟨h2,?_⟩
   unfold ck lb at*;omega
  ·rw [if_neg h2];omega
def pe(y m n k:Int):Int:=gi ((y*12+m - 1+k)/ 12) ((y*12+m - 1+k)% 12+1) (min n (bf ((y*12+m - 1+k)/ 12) ((y*12+m - 1+k)% 12+1)))
theorem length_eq(y m:Int)(h1:1≤m)(h2:m≤12):(if m=2∧(y % 4≠0∨(y % 100=0∧y % 400≠0)) then(28:Int) else [31,29,31,30,31,30,31,31,30,31,30,31].getD (m - 1).toNat 0)=bf y m:=by
 by_cases h:m=2
 ·subst h
  rw [oZ];unfold ld
  by_cases l:fJ y=true
  ·rw [if_pos l,if_neg (by have:=(nc y).mp l;omega)];rfl
  ·rw [if_neg l,if_pos (by have:=mt (nc y).mpr l;omega)];rfl
 ·rw [tX h,if_neg (fun z=> h z.1)]
  rcases pd h1 h2 with z | z | z | z | z | z | z | z | z | z | z | z <;> subst z <;> first | rfl | exact absurd rfl h
end Day
namespace Day
def fst(M:Int):Int:=gi (M / 12) (M % 12+1) 1
def Dn(M n:Int):Int:=fst M+n - 1
end Day
namespace L2
open PySem PySem.Spec PyProof.Rows PySem.W
def d2(m:Nat):List Nat:=[48+m / 10,48+m % 10]
end L2
namespace L2
open PySem PySem.Spec PyProof.Rows PySem.W
section
variable {X:Cx} {H0:Hp} {O0:Ex}
def t7(t:DA)(u:DT):DA:=fun δ Q=> t δ fun ds=> ds.length≤1000∧u δ fun y=> ∃i:Int,y= .int i∧0≤i∧i≤1000∧Q (Kx i.toNat ds).flatten
theorem G7{e f:Expr}{t:DA}{u:DT}{pos:Pos}(h:FE X H0 O0 e t)(hf:DE X H0 O0 f u):FE X H0 O0 (.BinOp e .Mult f pos) (t7 t u):=
 (bh D8 h hf).imp fun σ H Q ⟨O,δ,Qd,w,q,k⟩=> ⟨O,δ,_,w,q,fun ds vs p H1 q1 s1 hp r1=> ⟨O,δ,_,w.mono (s1.trans (ar.new hp)),q1.2,fun y v H2 uu37 s2 r2=> by
  obtain⟨i,e,i0,i1,q2⟩:=uu37
  subst e
  cases r2
  refine⟨p,i,vs,rfl,rfl,s2 _ _ bu,by omega,by omega,?_,fun p' hp'=> k _ _ p' _ q2 ((s1.trans (ar.new hp)).trans s2) hp' ((r1.rep i.toNat).mono ((ar.new hp).trans s2))⟩
  have h1:=r1.length
  have h2:(sizeLine:Nat)=16777216:=by decide
  have h3:=q1.1
  have h4:vs.length*i.toNat≤1000*1000:=Nat.mul_le_mul (by omega) (by omega)
  omega⟩⟩
end
end L2
namespace L2
open PySem PySem.Spec PyProof.Rows PySem.W PySem.Calls
section
variable {prog:Program} {w:World} {A:Around} {E:Value→Shared→Prop} {s:Shared}
end
section
variable {X:Cx} {pins:List (Addr×Obj)} {σ:St} {H:Hp} {s:Shared}
end
section
variable {X:Cx} {H0:Hp} {O0:Ex} {elts:List Expr} {k0:Nat} {tp:Pos} {elt:Expr} {ifs:List Expr} {scope:Scope} {N':List Str} {k:Nat} {fr:List Nat} {g:TG} {dg:DG} {ta:DA} {tc:DB} {te:DT} {pos p ps:Pos} {a b:Expr}
end
end L2
namespace L2
open PySem PySem.Spec PyProof.Rows PySem.W PySem.Calls
def fh{α:Type}(xs:List α)(n:Nat)(y:α):List α:=xs.take n++y::xs.drop n
theorem t8{α:Type}(xs:List α)(n:Nat)(y:α):(fh xs n y).Perm (y::xs):=by
 unfold fh
 refine List.perm_middle.trans ?_
 rw [List.take_append_drop]
theorem G8{α β:Type}(f:α→β)(xs:List α)(n:Nat)(y:α):(fh xs n y).map f=fh (xs.map f) n (f y):=by
 unfold fh
 rw [KZ,Kj,NA,Qr]
theorem t9{α:Type}(xs:List α)(n:Nat)(y:α):(fh xs n y).length=xs.length+1:=(t8 xs n y).length_eq
def G9:V→List V→Hp→VK→Prop:=fun x vs H Q=> ∃l xs y,∃n:Nat,x= .ref l∧vs=[.int (n:Int),y]∧H l=some (.lst xs)∧n≤xs.length∧xs.length < 1000000∧Q .non (au H l (.lst (fh xs n y)))
theorem Ha(l:List Value)(k:Nat)(y:Value):(l.toArray.extract 0 k).push y++l.toArray.extract k=(fh l k y).toArray:=by
 apply Ot.mp
 simp
 unfold fh
 congr 2
 exact Lc (by simp)
theorem Hb{X:Cx}:wz X "list.insert" G9:=by
 intro pins s σ H x vs v us Q I rx rv h
 obtain⟨l,xs,y,n,rfl,rfl,hH,hn,hz,q⟩:=h
 cases rx
 cases rv with
 | cons r1 r2=>
  obtain⟨u,rfl,ru⟩:=dY r2
  obtain⟨t,rfl⟩:=r1
  obtain⟨z,its,m,r,hl,e⟩:=I.lstM hH
  have ef:Mr (n:Int)=true:=by
   unfold Mr
   simp
   omega
  have sl:(1000000:Nat)≤sizeLine:=by decide
  have hsz:its.toArray.size≤sizeLine:=by rw [Kt];exact KS (by omega) sl
  have hfi:¬(!Mr (n:Int))=true:=by rw [ef];decide
  generalize hni:(n:Int)=ni at hfi ef⊢
  refine call_meets Ou ⟨_,e,rfl⟩ PySem.F.entry_list_insert (PySem.F.args_list_insert_3 _ _ _) (PySem.AutoSeq1.list_insert_list_int_val_1 l its.toArray m ni t u hfi hsz) ⟨e,?_⟩
  refine⟨.non,_,I.lset (its':=fh its n u) hH e ?_ ((r.take n).append (.cons ru (r.drop n))) ?_,rfl,q⟩
  ·show(its.toArray.extract 0 (if ni < 0 then(ni+(its.toArray.size:Int)).toNat else min ni.toNat its.toArray.size)).push u++its.toArray.extract (if ni < 0 then(ni+(its.toArray.size:Int)).toNat else min ni.toNat its.toArray.size)=_
   subst hni
   rw [if_neg (by omega),Kt,LW,Nat.min_eq_left (by omega)]
   have:=Ha its n u
   simp only [Kt] at this
   exact this
  ·show(fh xs n y).length≤sizeLine
   rw [t9];exact KS (by omega) sl
section
variable {X:Cx} {H0:Hp} {O0:Ex}
theorem aj.takeN{K:Kb}{H:Hp}{O:Ex}:∀{vs:List V}{ds:List PyData}(n:Nat),aj K H O vs ds→aj K H O (vs.take n) (ds.take n)
 | _,_,0,_=> by rw [Qh,Qh];exact .nil
 | _,_,n+1,.nil=> .nil
 | _,_,n+1,.cons a r=> .cons a (aj.takeN n r)
theorem aj.dropN{K:Kb}{H:Hp}{O:Ex}:∀{vs:List V}{ds:List PyData}(n:Nat),aj K H O vs ds→aj K H O (vs.drop n) (ds.drop n)
 | _,_,0,r=> r
 | _,_,n+1,.nil=> .nil
 | _,_,n+1,.cons a r=> aj.dropN n r
def ua(i:Nat)(t1 t2:DT):DS:=fun E δ=> ∃ds,δ[i]?=some (some (.o ds))∧t1 δ fun a=> t2 δ fun d=> ∃n:Nat,a= .int (n:Int)∧n≤ds.length∧ds.length < 1000000∧E.nx (δ.set i (some (.o (fh ds n d))))
theorem Hc{i:Nat}{o e e2:Expr}{t1 t2:DT}{apos cpos pos:Pos}(ho:PE X o (eX i))(he:DE X H0 O0 e t1)(he2:DE X H0 O0 e2 t2)(hbase:attributeBase o "insert" X.env (eval o X.env)=eval o X.env:=by rfl)
  (hfew:((backTo cpos (starEach [e,e2] X.env)).all (fun x=> !x.1) && (backToKw cpos (keywordEach [] X.env)).all (fun x=> x.1.isSome) && decide ([e,e2].length+([]:List Keyword).length+(if ([]:List Keyword).isEmpty then 0 else 1) < 30))=true:=by rfl)
  (hline:(apos.endLine==cpos.line)=true:=by rfl)(hst:starEach [e,e2] X.env=(false,eval e X.env)::starEach [e2] X.env:=by rfl)(hst2:starEach [e2] X.env=(false,eval e2 X.env)::starEach [] X.env:=by rfl)(hplain:(backTo cpos (starEach [e2] X.env)).any (·.1)=false:=by rfl)
  (hs:swapsWith (.Call (.Attribute o "insert" apos) [e,e2] [] cpos) none pos.line X.env=pure false:=by rfl):PS X (.Expr (.Call (.Attribute o "insert" apos) [e,e2] [] cpos) pos) (bP X.K H0 O0 (ua i t1 t2)):=
 (vo (qC Oy Ou PySem.F.type_list_insert Hb ho (bC he (bC he2 cm hst2) hst) hbase hfew hline hst hplain) hs).imp fun D σ H uu38=> by
  obtain⟨O,δ,E,w,⟨ds,e,q⟩,k1,k2,k3,k4⟩:=uu38
  obtain⟨l,vs,h,a,b,c,r⟩:=w.own e
  refine⟨_,h,.inl ⟨rfl,_,aX.of c⟩,O,δ,_,w,q,fun x vx H1 q1 s1 r1=> ?_⟩
  refine⟨O,δ,_,w.mono s1,q1,fun d v H2 q2 s2 r2=> ?_⟩
  obtain⟨n,rfl,hn,hz,q2⟩:=q2
  cases r1
  have rl:=r.length
  have S:=s1.trans s2
  refine⟨l,vs,v,n,rfl,rfl,S _ _ c,by omega,by omega,?_⟩
  exact k1 _ _ _ _ q2 ((w.mono S).putO (vs:=vs) e h (((r.mono S).takeN n).append (.cons r2 ((r.mono S).dropN n)))) ⟨fun b' o' z n=> by rw [aJ (fun y=> n (by rw [y];exact a))];exact S _ _ z,fun _ _ n=> n⟩
def uc(t:DT):DB:=fun δ Q=> t δ fun d=> ∃ds,d= .list ds∧Q (!ds.isEmpty)
theorem ud{e:Expr}{t:DT}(h:DE X H0 O0 e t)(he:∀whole,isTrue e X.env whole=(do let v←whole;standAt e.pos;holding [v] (truthy v)):=by intro _;rfl):PT X e (cj X.K H0 O0 (uc t)):=
 (C7 h he).imp fun σ H Q ⟨O,δ,Qd,w,q,k⟩=> ⟨O,δ,_,w,q,fun d v H' uu40 s r=> by
  obtain⟨ds,e,qb⟩:=uu40
  subst e
  obtain⟨a,vs,rfl,hs,r⟩:=(Sh.dt r).lst
  refine⟨_,.inl ⟨vs,hs,rfl⟩,?_⟩
  have:(!vs.isEmpty)=!ds.isEmpty:=by cases r <;> rfl
  rw [this]
  exact k _ H' qb s⟩
theorem ue{K:Kb}{H:Hp}{O:Ex}{z:Str}:∀{kv:List (ak×V)}{ks:List Str}{ds:List PyData},kv.map (·.1)=ks.map Lz→aj K H O (kv.map (·.2)) ds→cJ ks ds z=none→dZ kv (.inr z)=none
 | [],_,ds,_,_,e=> rfl
 | _::_,[],ds,h,_,_=> by cases h
 | p::kv,k::ks,ds,h,hd,e=> by
  rw [Kj] at hd
  cases hd with
  | cons h1 h2=>
   simp only [Kj,LB] at h
   obtain⟨p1,p2⟩:=p
   obtain⟨rfl,h⟩:=h
   unfold cJ at e
   by_cases hk:k=z
   ·rw [if_pos hk] at e;cases e
   ·rw [if_neg hk] at e
    rw [kZ (fun q=> hk (mZ.mp q))];exact ue h h2 e
def uf(to tk:DT):DT:=fun δ Q=> to δ fun x=> ∃ks ds,x=jI ks ds∧tk δ fun y=> ∃z,y= .str z∧Q ((cJ ks ds z).getD .none)
theorem Hd{o e:Expr}{to tk:DT}{apos cpos:Pos}(hu:X.A.units+64 < cLine)(ho:DE X H0 O0 o to)(he:DE X H0 O0 e tk)(m:M1 X o "get" apos e cpos):DE X H0 O0 (.Call (.Attribute o "get" apos) [e] [] cpos) (uf to tk):=
 (xy (by omega) ho he m).imp fun σ H Q uu41=> by
  obtain⟨O,δ,Qd,w,q,k⟩:=uu41
  refine⟨O,δ,_,w,q,fun x vx H1 ⟨ks,ds,ex,q1⟩ s1 r1=> ?_⟩
  subst ex
  cases r1 with
  | @dic a kv ks' kp ds h e1 e2 n rr=>
   have ek:ks'=ks:=by
    have:ks'.map Kf=ks.map Kf:=e2.symm
    exact tM this
   subst ek
   refine⟨a,rfl,.inl ⟨kv,.inl h⟩,O,δ,_,w.mono s1,q1,fun y vy H2 ⟨z,ey,q2⟩ s2 r2=> ?_⟩
   subst ey
   cases r2
   refine⟨_,dD.k (k:= .inr z) (s2 _ _ h),k _ _ _ q2 (s1.trans s2) ?_⟩
   cases hd:cJ ks' ds z with
   | none=> rw [ue e1 rr hd];exact .non
   | some d=>
    obtain⟨v,hv,dv⟩:=tN e1 rr hd
    rw [hv];exact dv.mono s2
def ng(to tk tx:DT):DT:=fun δ Q=> to δ fun x=> ∃ks ds,x=jI ks ds∧tk δ fun y=> tx δ fun u=> ∃z,y= .str z∧Q ((cJ ks ds z).getD u)
theorem AB{o e f:Expr}{to tk tx:DT}{apos cpos:Pos}(hu:X.A.units+64 < cLine)(ho:DE X H0 O0 o to)(he:DE X H0 O0 e tk)(hf:DE X H0 O0 f tx)(m:M2 X o "get" apos e f cpos):DE X H0 O0 (.Call (.Attribute o "get" apos) [e,f] [] cpos) (ng to tk tx):=
 (Fh (by omega) ho he hf m).imp fun σ H Q uu44=> by
  obtain⟨O,δ,Qd,w,q,k⟩:=uu44
  refine⟨O,δ,_,w,q,fun x vx H1 ⟨ks,ds,ex,q1⟩ s1 r1=> ?_⟩
  subst ex
  cases r1 with
  | @dic a kv ks' kp ds h e1 e2 n rr=>
   have ek:ks'=ks:=by
    have:ks'.map Kf=ks.map Kf:=e2.symm
    exact tM this
   subst ek
   refine⟨a,rfl,.inl ⟨kv,.inl h⟩,O,δ,_,w.mono s1,q1,fun y vy H2 q2 s2 r2=> ?_⟩
   refine⟨O,δ,_,(w.mono s1).mono s2,q2,fun u vu H3 ⟨z,ey,q3⟩ s3 r3=> ?_⟩
   subst ey
   cases r2
   refine⟨_,dD.k (k:= .inr z) (s3 _ _ (s2 _ _ h)),k _ _ _ q3 ((s1.trans s2).trans s3) ?_⟩
   cases hd:cJ ks' ds z with
   | none=> rw [ue e1 rr hd];exact r3
   | some d=>
    obtain⟨v,hv,dv⟩:=tN e1 rr hd
    rw [hv];exact(dv.mono s2).mono s3
end
end L2
namespace K18
open PySem L2
def bo(i:Nat):Stmt:=PySem.Challenge.pw_goneday_k18_whole_each_rule_by_itself.main.body.getD i (.Pass ⟨0,0,0,0⟩)
abbrev iQ:Stmt:=bo 8
abbrev iR:Stmt:=bo 9
abbrev iS:Stmt:=bo 10
abbrev iT:Stmt:=bo 11
abbrev iU:Stmt:=bo 12
abbrev iV:Stmt:=bo 13
abbrev g6:Stmt:=bo 14
abbrev iW:Stmt:=bo 15
abbrev g7:Stmt:=L2.inClass (bo 17) 0
abbrev iX:Stmt:=bo 18
abbrev g9:Stmt:=bo 19
abbrev iY:Stmt:=bo 20
abbrev hG:Stmt:=bo 21
abbrev iZ:Stmt:=bo 22
abbrev gn:Stmt:=bo 23
abbrev hJ:Stmt:=bo 24
abbrev hU:Stmt:=bo 26
abbrev hV:Stmt:=bo 27
abbrev hW:Stmt:=bo 28
abbrev hX:Stmt:=bo 29
abbrev i3:Stmt:=bo 30
abbrev i4:Stmt:=bo 31
abbrev hZ:Stmt:=bo 33
abbrev i6:Stmt:=bo 34
abbrev ia:Stmt:=bo 35
abbrev ib:Stmt:=bo 36
abbrev ic:Stmt:=bo 37
abbrev i7:Stmt:=bo 38
abbrev i9:Stmt:=bo 39
abbrev ja:Stmt:=bo 40
abbrev jb:Stmt:=bo 42
abbrev jc:Stmt:=bo 43
abbrev jd:Stmt:=bo 44
abbrev gr:Stmt:=bo 45
abbrev je:Stmt:=bo 46
abbrev jf:Stmt:=bo 47
abbrev ie:Stmt:=bo 48
abbrev jg:Stmt:=bo 49
abbrev jh:Stmt:=bo 50
abbrev ig:Stmt:=bo 51
abbrev ji:Stmt:=bo 52
abbrev ij:Stmt:=bo 53
abbrev ik:Stmt:=bo 54
abbrev gu:Stmt:=bo 55
abbrev jj:Stmt:=bo 56
abbrev jk:Stmt:=bo 57
abbrev gz:Stmt:=bo 58
abbrev gC:Stmt:=bo 59
abbrev fK:Stmt:=bo 60
abbrev il:Stmt:=bo 61
structure cW where
 a_x0:Addr
 d_x0:FuncData
 a_x1:Addr
 d_x1:FuncData
 a_x2:Addr
 d_x2:FuncData
 a_x3:Addr
 d_x3:FuncData
 a_x4:Addr
 d_x4:FuncData
 a_x5:Addr
 d_x5:FuncData
 a_x6:Addr
 d_x6:FuncData
 a_x7:Addr
 d_x7:FuncData
 a_x8:Addr
 d_x8:FuncData
 a_x9:Addr
 d_x9:FuncData
 a_x10:Addr
 d_x10:FuncData
 a_x11:Addr
 d_x11:FuncData
 a_x12:Addr
 d_x12:FuncData
 a_x13:Addr
 d_x13:FuncData
 a_x14:Addr
 d_x14:FuncData
 a_x15:Addr
 d_x15:FuncData
 a_x16:Addr
 d_x16:FuncData
 a_x17:Addr
 d_x17:FuncData
 a_x18:Addr
 d_x18:FuncData
 a_x19:Addr
 d_x19:FuncData
 a_x20:Addr
 d_x20:FuncData
 a_x21:Addr
 d_x21:FuncData
 a_x22:Addr
 d_x22:FuncData
 a_x23:Addr
 d_x23:FuncData
 a_x24:Addr
 d_x24:FuncData
 a_x25:Addr
 d_x25:FuncData
 a_x26:Addr
 d_x26:FuncData
 a_x27:Addr
 d_x27:FuncData
 a_x28:Addr
 d_x28:FuncData
 a_x29:Addr
 d_x29:FuncData
 a_x30:Addr
 d_x30:FuncData
 a_x31:Addr
 d_x31:FuncData
 a_x32:Addr
 d_x32:FuncData
 a_x33:Addr
 d_x33:FuncData
 a_x34:Addr
 d_x34:FuncData
 a_x35:Addr
 d_x35:FuncData
 a_x36:Addr
 d_x36:FuncData
 a_x37:Addr
 d_x37:FuncData
 a_x38:Addr
 d_x38:FuncData
 a_x39:Addr
 d_x39:FuncData
 a_x40:Addr
 d_x40:FuncData
 a_x41:Addr
 d_x41:FuncData
 a_x42:Addr
 d_x42:FuncData
 a_x43:Addr
 d_x43:FuncData
 a_x44:Addr
 d_x44:FuncData
 a_x45:Addr
 d_x45:FuncData
 a_x46:Addr
 d_x46:FuncData
 a_x47:Addr
 d_x47:FuncData
 a_x48:Addr
 d_x48:FuncData
 a_x49:Addr
 d_x49:FuncData
 u_MONTH_DAYS:Value
 u_FIRST_YEAR:Value
 u_ROUND_DAYS:Value
 u_ROUND_YEARS:Value
 u_NoPaper:Addr
 u_Paper:Addr
structure Txt (K:Kb) (mg:Str→Option Value) (t:cW):Prop where
 F_x0:aT K "is_leap" "is_leap" iQ t.a_x0 t.d_x0
 m_x0:mg "is_leap"=some (.ref t.a_x0)
 b_x0:aQ K t.d_x0 ["year"] []
 F_x1:aT K "month_length" "month_length" iR t.a_x1 t.d_x1
 m_x1:mg "month_length"=some (.ref t.a_x1)
 b_x1:aQ K t.d_x1 ["year","month"] []
 F_x2:aT K "leaps_before" "leaps_before" iS t.a_x2 t.d_x2
 m_x2:mg "leaps_before"=some (.ref t.a_x2)
 b_x2:aQ K t.d_x2 ["year"] []
 F_x3:aT K "year_start" "year_start" iT t.a_x3 t.d_x3
 m_x3:mg "year_start"=some (.ref t.a_x3)
 b_x3:aQ K t.d_x3 ["year"] []
 F_x4:aT K "year_of" "year_of" iU t.a_x4 t.d_x4
 m_x4:mg "year_of"=some (.ref t.a_x4)
 b_x4:aQ K t.d_x4 ["day"] []
 F_x5:aT K "parts_of" "parts_of" iV t.a_x5 t.d_x5
 m_x5:mg "parts_of"=some (.ref t.a_x5)
 b_x5:aQ K t.d_x5 ["day"] []
 F_x6:aT K "number_of" "number_of" g6 t.a_x6 t.d_x6
 m_x6:mg "number_of"=some (.ref t.a_x6)
 b_x6:aQ K t.d_x6 ["year","month","day"] []
 F_x7:aT K "later" "later" iW t.a_x7 t.d_x7
 m_x7:mg "later"=some (.ref t.a_x7)
 b_x7:aQ K t.d_x7 ["day","many","unit"] []
 F_x8:aT K "__init__" "Paper.__init__" g7 t.a_x8 t.d_x8
 b_x8:aQ K t.d_x8 ["self","deeds","name"] []
 F_x9:aT K "place_of" "place_of" iX t.a_x9 t.d_x9
 m_x9:mg "place_of"=some (.ref t.a_x9)
 b_x9:aQ K t.d_x9 ["deed"] []
 F_x10:aT K "comings" "comings" g9 t.a_x10 t.d_x10
 m_x10:mg "comings"=some (.ref t.a_x10)
 b_x10:aQ K t.d_x10 ["deeds"] []
 F_x11:aT K "coming_of" "coming_of" iY t.a_x11 t.d_x11
 m_x11:mg "coming_of"=some (.ref t.a_x11)
 b_x11:aQ K t.d_x11 ["deeds","paper"] []
 F_x12:aT K "papers" "papers" hG t.a_x12 t.d_x12
 m_x12:mg "papers"=some (.ref t.a_x12)
 b_x12:aQ K t.d_x12 ["deeds"] []
 F_x13:aT K "kind_of" "kind_of" iZ t.a_x13 t.d_x13
 m_x13:mg "kind_of"=some (.ref t.a_x13)
 b_x13:aQ K t.d_x13 ["deeds","paper"] []
 F_x14:aT K "maker_comings" "maker_comings" gn t.a_x14 t.d_x14
 m_x14:mg "maker_comings"=some (.ref t.a_x14)
 b_x14:aQ K t.d_x14 ["deeds","coming"] []
 F_x15:aT K "makers" "makers" hJ t.a_x15 t.d_x15
 m_x15:mg "makers"=some (.ref t.a_x15)
 b_x15:aQ K t.d_x15 ["deeds","paper"] []
 F_x16:aT K "latest" "latest" hU t.a_x16 t.d_x16
 m_x16:mg "latest"=some (.ref t.a_x16)
 b_x16:aQ K t.d_x16 ["deeds","words","day"] []
 F_x17:aT K "rules_on" "rules_on" hV t.a_x17 t.d_x17
 m_x17:mg "rules_on"=some (.ref t.a_x17)
 b_x17:aQ K t.d_x17 ["deeds","day"] []
 F_x18:aT K "happened" "happened" hW t.a_x18 t.d_x18
 m_x18:mg "happened"=some (.ref t.a_x18)
 b_x18:aQ K t.d_x18 ["paper","happening"] []
 F_x19:aT K "base_of" "base_of" hX t.a_x19 t.d_x19
 m_x19:mg "base_of"=some (.ref t.a_x19)
 b_x19:aQ K t.d_x19 ["paper","since","day"] []
 F_x20:aT K "reckoned" "reckoned" i3 t.a_x20 t.d_x20
 m_x20:mg "reckoned"=some (.ref t.a_x20)
 b_x20:aQ K t.d_x20 ["paper","parts","day"] []
 F_x21:aT K "reckoning" "reckoning" i4 t.a_x21 t.d_x21
 m_x21:mg "reckoning"=some (.ref t.a_x21)
 b_x21:aQ K t.d_x21 ["deeds","parts","paper","day"] []
 F_x22:aT K "rules_over" "rules_over" hZ t.a_x22 t.d_x22
 m_x22:mg "rules_over"=some (.ref t.a_x22)
 b_x22:aQ K t.d_x22 ["paper","rules","day"] []
 F_x23:aT K "has_gone" "has_gone" i6 t.a_x23 t.d_x23
 m_x23:mg "has_gone"=some (.ref t.a_x23)
 b_x23:aQ K t.d_x23 ["gone","paper","day"] []
 F_x24:aT K "staying" "staying" ia t.a_x24 t.d_x24
 m_x24:mg "staying"=some (.ref t.a_x24)
 b_x24:aQ K t.d_x24 ["paper","rules","day","gone"] []
 F_x25:aT K "going" "going" ib t.a_x25 t.d_x25
 m_x25:mg "going"=some (.ref t.a_x25)
 b_x25:aQ K t.d_x25 ["paper","rules","day","gone"] []
 F_x26:aT K "leave_rules" "leave_rules" ic t.a_x26 t.d_x26
 m_x26:mg "leave_rules"=some (.ref t.a_x26)
 b_x26:aQ K t.d_x26 ["kind","rules"] []
 F_x27:aT K "stays" "stays" i7 t.a_x27 t.d_x27
 m_x27:mg "stays"=some (.ref t.a_x27)
 b_x27:aQ K t.d_x27 ["deeds","day","paper","gone"] []
 F_x28:aT K "goes" "goes" i9 t.a_x28 t.d_x28
 m_x28:mg "goes"=some (.ref t.a_x28)
 b_x28:aQ K t.d_x28 ["deeds","day","paper","gone"] []
 F_x29:aT K "needs_leave" "needs_leave" ja t.a_x29 t.d_x29
 m_x29:mg "needs_leave"=some (.ref t.a_x29)
 b_x29:aQ K t.d_x29 ["deeds","day","paper"] []
 F_x30:aT K "_law_cell" "_law_cell" jb t.a_x30 t.d_x30
 m_x30:mg "_law_cell"=some (.ref t.a_x30)
 b_x30:aQ K t.d_x30 ["_law_script","_law_k"] []
 F_x31:aT K "_law_purse" "_law_purse" jc t.a_x31 t.d_x31
 m_x31:mg "_law_purse"=some (.ref t.a_x31)
 b_x31:aQ K t.d_x31 ["_law_cell_here"] []
 F_x32:aT K "_law_take" "_law_take" jd t.a_x32 t.d_x32
 m_x32:mg "_law_take"=some (.ref t.a_x32)
 b_x32:aQ K t.d_x32 ["_law_purse_here","_law_many"] []
 F_x33:aT K "_law_names" "_law_names" gr t.a_x33 t.d_x33
 m_x33:mg "_law_names"=some (.ref t.a_x33)
 b_x33:aQ K t.d_x33 ["_law_purse_here","_law_many"] []
 F_x34:aT K "_law_month" "_law_month" je t.a_x34 t.d_x34
 m_x34:mg "_law_month"=some (.ref t.a_x34)
 b_x34:aQ K t.d_x34 ["_law_year_here","_law_month_here"] []
 F_x35:aT K "_law_year" "_law_year" jf t.a_x35 t.d_x35
 m_x35:mg "_law_year"=some (.ref t.a_x35)
 b_x35:aQ K t.d_x35 ["_law_year_here"] []
 F_x36:aT K "_law_day" "_law_day" ie t.a_x36 t.d_x36
 m_x36:mg "_law_day"=some (.ref t.a_x36)
 b_x36:aQ K t.d_x36 ["_law_year_here","_law_month_here","_law_number"] []
 F_x37:aT K "_law_drawn_day" "_law_drawn_day" jg t.a_x37 t.d_x37
 m_x37:mg "_law_drawn_day"=some (.ref t.a_x37)
 b_x37:aQ K t.d_x37 ["_law_purse_here","_law_far"] []
 F_x38:aT K "_law_parts" "_law_parts" jh t.a_x38 t.d_x38
 m_x38:mg "_law_parts"=some (.ref t.a_x38)
 b_x38:aQ K t.d_x38 ["_law_purse_here","_law_word","_law_names_here","_law_kinds","_law_far"] []
 F_x39:aT K "_law_deed" "_law_deed" ig t.a_x39 t.d_x39
 m_x39:mg "_law_deed"=some (.ref t.a_x39)
 b_x39:aQ K t.d_x39 ["_law_purse_here","_law_word","_law_names_here","_law_kinds","_law_far"] []
 F_x40:aT K "_law_quarrels" "_law_quarrels" ji t.a_x40 t.d_x40
 m_x40:mg "_law_quarrels"=some (.ref t.a_x40)
 b_x40:aQ K t.d_x40 ["_law_one","_law_other"] []
 F_x41:aT K "_law_deeds" "_law_deeds" ij t.a_x41 t.d_x41
 m_x41:mg "_law_deeds"=some (.ref t.a_x41)
 b_x41:aQ K t.d_x41 ["_law_script","_law_menu","_law_most"] []
 F_x42:aT K "_law_alone" "_law_alone" ik t.a_x42 t.d_x42
 m_x42:mg "_law_alone"=some (.ref t.a_x42)
 b_x42:aQ K t.d_x42 ["_law_deeds_here","_law_rule"] []
 F_x43:aT K "_law_bare" "_law_bare" gu t.a_x43 t.d_x43
 m_x43:mg "_law_bare"=some (.ref t.a_x43)
 b_x43:aQ K t.d_x43 ["_law_deeds_here","_law_name"] []
 F_x44:aT K "_law_put" "_law_put" jj t.a_x44 t.d_x44
 m_x44:mg "_law_put"=some (.ref t.a_x44)
 b_x44:aQ K t.d_x44 ["_law_deed_here"] []
 F_x45:aT K "_law_told" "_law_told" jk t.a_x45 t.d_x45
 m_x45:mg "_law_told"=some (.ref t.a_x45)
 b_x45:aQ K t.d_x45 ["_law_deeds_here","_law_day_here","_law_name","_law_gone"] []
 F_x46:aT K "_law_by_themselves" "_law_by_themselves" gz t.a_x46 t.d_x46
 m_x46:mg "_law_by_themselves"=some (.ref t.a_x46)
 b_x46:aQ K t.d_x46 ["_law_deeds_here","_law_day_here","_law_name","_law_gone"] []
 F_x47:aT K "_law_makers_right" "_law_makers_right" gC t.a_x47 t.d_x47
 m_x47:mg "_law_makers_right"=some (.ref t.a_x47)
 b_x47:aQ K t.d_x47 ["_law_elders","_law_gone","_law_day_here","_law_stay","_law_leave"] []
 F_x48:aT K "_law_exchanged" "_law_exchanged" fK t.a_x48 t.d_x48
 m_x48:mg "_law_exchanged"=some (.ref t.a_x48)
 b_x48:aQ K t.d_x48 ["_law_deeds_here","_law_day_here","_law_name","_law_gone"] []
 F_x49:aT K "law" "law" il t.a_x49 t.d_x49
 m_x49:mg "law"=some (.ref t.a_x49)
 b_x49:aQ K t.d_x49 ["_law_script"] []
 bt_x49:∀(s:Shared)(u:Value),BindsTo s t.d_x49 ⟨[u],[]⟩ [("_law_script",u)]
 c_MONTH_DAYS:mg "MONTH_DAYS"=some t.u_MONTH_DAYS
 e_MONTH_DAYS:∃a,t.u_MONTH_DAYS= .ref a∧∀H,bw K H a [V.int 31,V.int 28,V.int 31,V.int 30,V.int 31,V.int 30,V.int 31,V.int 31,V.int 30,V.int 31,V.int 30,V.int 31]
 c_FIRST_YEAR:mg "FIRST_YEAR"=some t.u_FIRST_YEAR
 r_FIRST_YEAR:aE (.int 2000) t.u_FIRST_YEAR
 c_ROUND_DAYS:mg "ROUND_DAYS"=some t.u_ROUND_DAYS
 r_ROUND_DAYS:aE (.int 146097) t.u_ROUND_DAYS
 c_ROUND_YEARS:mg "ROUND_YEARS"=some t.u_ROUND_YEARS
 r_ROUND_YEARS:aE (.int 400) t.u_ROUND_YEARS
 c_NoPaper:mg "NoPaper"=some (.ref t.u_NoPaper)
 c_Paper:mg "Paper"=some (.ref t.u_Paper)
 cl_Paper:iB K t.u_Paper
 mk_Paper:Mk K t.u_Paper t.a_x8
 na_Paper_name:fo K t.u_Paper "name"
 na_Paper_coming:fo K t.u_Paper "coming"
 na_Paper_kind:fo K t.u_Paper "kind"
 na_Paper_makers:fo K t.u_Paper "makers"
 na_Paper_happenings:fo K t.u_Paper "happenings"
 n_abs:mg "abs"=none
 n_all:mg "all"=none
 n_any:mg "any"=none
 n_divmod:mg "divmod"=none
 n_int:mg "int"=none
 n_len:mg "len"=none
 n_max:mg "max"=none
 n_min:mg "min"=none
 n_range:mg "range"=none
 n_set:mg "set"=none
 n_sorted:mg "sorted"=none
 n_sum:mg "sum"=none
 n_tuple:mg "tuple"=none
theorem He:aY ["year"] ["year"] (ah iQ):=⟨rfl,rfl,rfl,by decide+kernel,rfl,by decide+kernel,by decide+kernel⟩
theorem Hf:aY ["year","month"] ["year","month"] (ah iR):=⟨rfl,rfl,rfl,by decide+kernel,rfl,by decide+kernel,by decide+kernel⟩
theorem AD:aY ["year","past"] ["year"] (ah iS):=⟨rfl,rfl,rfl,by decide+kernel,rfl,by decide+kernel,by decide+kernel⟩
theorem Hg:aY ["year"] ["year"] (ah iT):=⟨rfl,rfl,rfl,by decide+kernel,rfl,by decide+kernel,by decide+kernel⟩
theorem AE:aY ["day","year"] ["day"] (ah iU):=⟨rfl,rfl,rfl,by decide+kernel,rfl,by decide+kernel,by decide+kernel⟩
theorem lE:aY ["day","year","left","month"] ["day"] (ah iV):=⟨rfl,rfl,rfl,by decide+kernel,rfl,by decide+kernel,by decide+kernel⟩
theorem AF:aY ["year","month","day","before"] ["year","month","day"] (ah g6):=⟨rfl,rfl,rfl,by decide+kernel,rfl,by decide+kernel,by decide+kernel⟩
theorem lF:aY ["day","many","unit","months","parts","place","year","month"] ["day","many","unit"] (ah iW):=⟨rfl,rfl,rfl,by decide+kernel,rfl,by decide+kernel,by decide+kernel⟩
theorem AG:aY ["self","deeds","name","coming"] ["self","deeds","name"] (ah g7):=⟨rfl,rfl,rfl,by decide+kernel,rfl,by decide+kernel,by decide+kernel⟩
theorem Hh:aY ["deed"] ["deed"] (ah iX):=⟨rfl,rfl,rfl,by decide+kernel,rfl,by decide+kernel,by decide+kernel⟩
theorem Hi:aY ["deeds"] ["deeds"] (ah g9):=⟨rfl,rfl,rfl,by decide+kernel,rfl,by decide+kernel,by decide+kernel⟩
theorem AH:aY ["deeds","paper","deed"] ["deeds","paper"] (ah iY):=⟨rfl,rfl,rfl,by decide+kernel,rfl,by decide+kernel,by decide+kernel⟩
theorem Hj:aY ["deeds"] ["deeds"] (ah hG):=⟨rfl,rfl,rfl,by decide+kernel,rfl,by decide+kernel,by decide+kernel⟩
theorem Hk:aY ["deeds","paper"] ["deeds","paper"] (ah iZ):=⟨rfl,rfl,rfl,by decide+kernel,rfl,by decide+kernel,by decide+kernel⟩
theorem AI:aY ["deeds","coming","named"] ["deeds","coming"] (ah gn):=⟨rfl,rfl,rfl,by decide+kernel,rfl,by decide+kernel,by decide+kernel⟩
theorem Hl:aY ["deeds","paper"] ["deeds","paper"] (ah hJ):=⟨rfl,rfl,rfl,by decide+kernel,rfl,by decide+kernel,by decide+kernel⟩
theorem ph:aY ["deeds","words","day","found","deed","known"] ["deeds","words","day"] (ah hU):=⟨rfl,rfl,rfl,by decide+kernel,rfl,by decide+kernel,by decide+kernel⟩
theorem Hm:aY ["deeds","day"] ["deeds","day"] (ah hV):=⟨rfl,rfl,rfl,by decide+kernel,rfl,by decide+kernel,by decide+kernel⟩
theorem Hn:aY ["paper","happening"] ["paper","happening"] (ah hW):=⟨rfl,rfl,rfl,by decide+kernel,rfl,by decide+kernel,by decide+kernel⟩
theorem AJ:aY ["paper","since","day","days"] ["paper","since","day"] (ah hX):=⟨rfl,rfl,rfl,by decide+kernel,rfl,by decide+kernel,by decide+kernel⟩
theorem AK:aY ["paper","parts","day","base"] ["paper","parts","day"] (ah i3):=⟨rfl,rfl,rfl,by decide+kernel,rfl,by decide+kernel,by decide+kernel⟩
theorem Ho:aY ["deeds","parts","paper","day"] ["deeds","parts","paper","day"] (ah i4):=⟨rfl,rfl,rfl,by decide+kernel,rfl,by decide+kernel,by decide+kernel⟩
theorem Hq:aY ["paper","rules","day"] ["paper","rules","day"] (ah hZ):=⟨rfl,rfl,rfl,by decide+kernel,rfl,by decide+kernel,by decide+kernel⟩
theorem AL:aY ["gone","paper","day","went"] ["gone","paper","day"] (ah i6):=⟨rfl,rfl,rfl,by decide+kernel,rfl,by decide+kernel,by decide+kernel⟩
theorem lH:aY ["paper","rules","day","gone","left","calls","rule","parts","due"] ["paper","rules","day","gone"] (ah ia):=⟨rfl,rfl,rfl,by decide+kernel,rfl,by decide+kernel,by decide+kernel⟩
theorem lI:aY ["paper","rules","day","gone","away","calls","rule","parts","due"] ["paper","rules","day","gone"] (ah ib):=⟨rfl,rfl,rfl,by decide+kernel,rfl,by decide+kernel,by decide+kernel⟩
theorem Hr:aY ["kind","rules"] ["kind","rules"] (ah ic):=⟨rfl,rfl,rfl,by decide+kernel,rfl,by decide+kernel,by decide+kernel⟩
theorem Hs:aY ["deeds","day","paper","gone"] ["deeds","day","paper","gone"] (ah i7):=⟨rfl,rfl,rfl,by decide+kernel,rfl,by decide+kernel,by decide+kernel⟩
theorem Ht:aY ["deeds","day","paper","gone"] ["deeds","day","paper","gone"] (ah i9):=⟨rfl,rfl,rfl,by decide+kernel,rfl,by decide+kernel,by decide+kernel⟩
theorem Hu:aY ["deeds","day","paper"] ["deeds","day","paper"] (ah ja):=⟨rfl,rfl,rfl,by decide+kernel,rfl,by decide+kernel,by decide+kernel⟩
theorem pj:aY ["_law_script","_law_k","_law_state","_law_cell_here"] ["_law_script","_law_k"] (ah jb):=⟨rfl,rfl,rfl,by decide+kernel,rfl,by decide+kernel,by decide+kernel⟩
theorem ug:aY ["_law_cell_here","_law_digits"] ["_law_cell_here"] (ah jc):=⟨rfl,rfl,rfl,by decide+kernel,rfl,by decide+kernel,by decide+kernel⟩
theorem uh:aY ["_law_purse_here","_law_many","_law_state","_law_digit"] ["_law_purse_here","_law_many"] (ah jd):=⟨rfl,rfl,rfl,by decide+kernel,rfl,by decide+kernel,by decide+kernel⟩
theorem lJ:aY ["_law_purse_here","_law_many","_law_letters","_law_stem","_law_at","_law_first","_law_step"] ["_law_purse_here","_law_many"] (ah gr):=⟨rfl,rfl,rfl,by decide+kernel,rfl,by decide+kernel,by decide+kernel⟩
theorem AM:aY ["_law_year_here","_law_month_here","_law_leap"] ["_law_year_here","_law_month_here"] (ah je):=⟨rfl,rfl,rfl,by decide+kernel,rfl,by decide+kernel,by decide+kernel⟩
theorem AN:aY ["_law_year_here"] ["_law_year_here"] (ah jf):=⟨rfl,rfl,rfl,by decide+kernel,rfl,by decide+kernel,by decide+kernel⟩
theorem Hv:aY ["_law_year_here","_law_month_here","_law_number"] ["_law_year_here","_law_month_here","_law_number"] (ah ie):=⟨rfl,rfl,rfl,by decide+kernel,rfl,by decide+kernel,by decide+kernel⟩
theorem AO:aY ["_law_purse_here","_law_far","_law_year_here","_law_month_here"] ["_law_purse_here","_law_far"] (ah jg):=⟨rfl,rfl,rfl,by decide+kernel,rfl,by decide+kernel,by decide+kernel⟩
theorem pA:aY ["_law_purse_here","_law_word","_law_names_here","_law_kinds","_law_far","_law_kind","_law_since","_law_many"] ["_law_purse_here","_law_word","_law_names_here","_law_kinds","_law_far"] (ah jh):=⟨rfl,rfl,rfl,by decide+kernel,rfl,by decide+kernel,by decide+kernel⟩
theorem lK:aY ["_law_purse_here","_law_word","_law_names_here","_law_kinds","_law_far","_law_day_here","_law_name","_law_some","_law_kind","_law_target"] ["_law_purse_here","_law_word","_law_names_here","_law_kinds","_law_far"] (ah ig):=⟨rfl,rfl,rfl,by decide+kernel,rfl,by decide+kernel,by decide+kernel⟩
theorem AQ:aY ["_law_one","_law_other","_law_sorts"] ["_law_one","_law_other"] (ah ji):=⟨rfl,rfl,rfl,by decide+kernel,rfl,by decide+kernel,by decide+kernel⟩
theorem fL:aY ["_law_script","_law_menu","_law_most","_law_head","_law_far","_law_chain","_law_names_here","_law_kinds","_law_words","_law_turn","_law_deeds_here","_law_k","_law_deed_here","_law_day_here"] ["_law_script","_law_menu","_law_most"] (ah ij):=⟨rfl,rfl,rfl,by decide+kernel,rfl,by decide+kernel,by decide+kernel⟩
theorem Hw:aY ["_law_deeds_here","_law_rule"] ["_law_deeds_here","_law_rule"] (ah ik):=⟨rfl,rfl,rfl,by decide+kernel,rfl,by decide+kernel,by decide+kernel⟩
theorem AR:aY ["_law_deeds_here","_law_name","_law_some"] ["_law_deeds_here","_law_name"] (ah gu):=⟨rfl,rfl,rfl,by decide+kernel,rfl,by decide+kernel,by decide+kernel⟩
theorem AS:aY ["_law_deed_here","_law_words"] ["_law_deed_here"] (ah jj):=⟨rfl,rfl,rfl,by decide+kernel,rfl,by decide+kernel,by decide+kernel⟩
theorem Hx:aY ["_law_deeds_here","_law_day_here","_law_name","_law_gone"] ["_law_deeds_here","_law_day_here","_law_name","_law_gone"] (ah jk):=⟨rfl,rfl,rfl,by decide+kernel,rfl,by decide+kernel,by decide+kernel⟩
theorem fM:aY ["_law_deeds_here","_law_day_here","_law_name","_law_gone","_law_rules","_law_stay","_law_leave","_law_needs","_law_rule","_law_alone_here","_law_bare_here","_law_mine","_law_need","_law_calls"] ["_law_deeds_here","_law_day_here","_law_name","_law_gone"] (ah gz):=⟨rfl,rfl,rfl,by decide+kernel,rfl,by decide+kernel,by decide+kernel⟩
theorem Hy:aY ["_law_elders","_law_gone","_law_day_here","_law_stay","_law_leave"] ["_law_elders","_law_gone","_law_day_here","_law_stay","_law_leave"] (ah gC):=⟨rfl,rfl,rfl,by decide+kernel,rfl,by decide+kernel,by decide+kernel⟩
theorem jK:aY ["_law_deeds_here","_law_day_here","_law_name","_law_gone","_law_put_here","_law_told_here","_law_other","_law_rule","_law_parts_here","_law_keeps","_law_stay","_law_leave"] ["_law_deeds_here","_law_day_here","_law_name","_law_gone"] (ah fK):=⟨rfl,rfl,rfl,by decide+kernel,rfl,by decide+kernel,by decide+kernel⟩
theorem fi:aY ["_law_script","_law_menu","_law_deeds_here","_law_names_here","_law_far","_law_k","_law_purse_here","_law_day_here","_law_gone","_law_name","_law_way","_law_coming"] ["_law_script"] (ah il):=⟨rfl,rfl,rfl,by decide+kernel,rfl,by decide+kernel,by decide+kernel⟩
theorem J8{α:Type}{us:List α}(h:us.length=0):us=[]:=List.length_eq_zero_iff.mp h
theorem fz{α:Type}{us:List α}(h:us.length=1):∃a,us=[a]:=List.length_eq_one_iff.mp h
theorem d5{α:Type}{us:List α}(h0:us.length=2):∃a b,us=[a,b]:=by
  cases us with
  | nil=> cases h0
  | cons a us=>
    obtain⟨b,z0⟩:=fz (us:=us) (Nat.succ.inj h0)
    exact⟨a,b,by rw [z0]⟩
theorem fN{α:Type}{us:List α}(h0:us.length=3):∃a b c,us=[a,b,c]:=by
  cases us with
  | nil=> cases h0
  | cons a us=>
    obtain⟨b,c,z0⟩:=d5 (us:=us) (Nat.succ.inj h0)
    exact⟨a,b,c,by rw [z0]⟩
theorem jl{α:Type}{us:List α}(h0:us.length=4):∃a b c d,us=[a,b,c,d]:=by
  cases us with
  | nil=> cases h0
  | cons a us=>
    obtain⟨b,c,d,z0⟩:=fN (us:=us) (Nat.succ.inj h0)
    exact⟨a,b,c,d,by rw [z0]⟩
theorem pB{α:Type}{us:List α}(h0:us.length=5):∃a b c d p,us=[a,b,c,d,p]:=by
  cases us with
  | nil=> cases h0
  | cons a us=>
    obtain⟨b,c,d,p,z0⟩:=jl (us:=us) (Nat.succ.inj h0)
    exact⟨a,b,c,d,p,by rw [z0]⟩
theorem Hz{α:Type}{us:List α}(h0:us.length=6):∃a b c d p q,us=[a,b,c,d,p,q]:=by
  cases us with
  | nil=> cases h0
  | cons a us=>
    obtain⟨b,c,d,p,q,z0⟩:=pB (us:=us) (Nat.succ.inj h0)
    exact⟨a,b,c,d,p,q,by rw [z0]⟩
theorem HA{α:Type}{us:List α}(h0:us.length=7):∃a b c d p q r,us=[a,b,c,d,p,q,r]:=by
  cases us with
  | nil=> cases h0
  | cons a us=>
    obtain⟨b,c,d,p,q,r,z0⟩:=Hz (us:=us) (Nat.succ.inj h0)
    exact⟨a,b,c,d,p,q,r,by rw [z0]⟩
theorem HB{α:Type}{us:List α}(h0:us.length=8):∃a b c d p q r s,us=[a,b,c,d,p,q,r,s]:=by
  cases us with
  | nil=> cases h0
  | cons a us=>
    obtain⟨b,c,d,p,q,r,s,z0⟩:=HA (us:=us) (Nat.succ.inj h0)
    exact⟨a,b,c,d,p,q,r,s,by rw [z0]⟩
theorem J9{α:Type}{us:List α}(h0:us.length=9):∃a b c d p q r s t,us=[a,b,c,d,p,q,r,s,t]:=by
  cases us with
  | nil=> cases h0
  | cons a us=>
    obtain⟨b,c,d,p,q,r,s,t,z0⟩:=HB (us:=us) (Nat.succ.inj h0)
    exact⟨a,b,c,d,p,q,r,s,t,by rw [z0]⟩
set_option maxHeartbeats 0 in
theorem txt_mk{K:Kb}{h:Heap}{mg:Str→Option Value}(X:K.In h)(G:h.Ns mainGlobals mg)
  {f0 f1 f2 f3 f4 f5 f6 f7 f8 f9 f10 f11 f12 f13 f14 f15 f16 f17 f18 f19 f20 f21 f22 f23 f24 f25 f26 f27 f28 f29 f30 f31 f32 f33 f34 f35 f36 f37 f38 f39 f40 f41 f42 f43 f44 f45 f46 f47 f48 f49:Addr}{od0 an0 od1 an1 od2 an2 od3 an3 od4 an4 od5 an5 od6 an6 od7 an7 od8 an8 od9 an9 od10 an10 od11 an11 od12 an12 od13 an13 od14 an14 od15 an15 od16 an16 od17 an17 od18 an18 od19 an19 od20 an20 od21 an21 od22 an22 od23 an23 od24 an24 od25 an25 od26 an26 od27 an27 od28 an28 od29 an29 od30 an30 od31 an31 od32 an32 od33 an33 od34 an34 od35 an35 od36 an36 od37 an37 od38 an38 od39 an39 od40 an40 od41 an41 od42 an42 od43 an43 od44 an44 od45 an45 od46 an46 od47 an47 od48 an48 od49 an49:Option Addr}{sl0 sl1 sl2 sl3 sl4 sl5 sl6 sl7 sl8 sl9 sl10 sl11 sl12 sl13 sl14 sl15 sl16 sl17 sl18 sl19 sl20 sl21 sl22 sl23 sl24 sl25 sl26 sl27 sl28 sl29 sl30 sl31 sl32 sl33 sl34 sl35 sl36 sl37 sl38 sl39 sl40 sl41 sl42 sl43 sl44 sl45 sl46 sl47 sl48 sl49:Array (Option Value)}{oc0 kV0 dc0 pm0 cd0 ct0 oc1 kV1 dc1 pm1 cd1 ct1 oc2 kV2 dc2 pm2 cd2 ct2 oc3 kV3 dc3 pm3 cd3 ct3 oc4 kV4 dc4 pm4 cd4 ct4 oc5 kV5 dc5 pm5 cd5 ct5 oc6 kV6 dc6 pm6 cd6 ct6 oc7 kV7 dc7 pm7 cd7 ct7 oc8 kV8 dc8 pm8 cd8 ct8 oc9 kV9 dc9 pm9 cd9 ct9 oc10 kV10 dc10 pm10 cd10 ct10 oc11 kV11 dc11 pm11 cd11 ct11 oc12 kV12 dc12 pm12 cd12 ct12 oc13 kV13 dc13 pm13 cd13 ct13 oc14 kV14 dc14 pm14 cd14 ct14 oc15 kV15 dc15 pm15 cd15 ct15 oc16 kV16 dc16 pm16 cd16 ct16 oc17 kV17 dc17 pm17 cd17 ct17 oc18 kV18 dc18 pm18 cd18 ct18 oc19 kV19 dc19 pm19 cd19 ct19 oc20 kV20 dc20 pm20 cd20 ct20 oc21 kV21 dc21 pm21 cd21 ct21 oc22 kV22 dc22 pm22 cd22 ct22 oc23 kV23 dc23 pm23 cd23 ct23 oc24 kV24 dc24 pm24 cd24 ct24 oc25 kV25 dc25 pm25 cd25 ct25 oc26 kV26 dc26 pm26 cd26 ct26 oc27 kV27 dc27 pm27 cd27 ct27 oc28 kV28 dc28 pm28 cd28 ct28 oc29 kV29 dc29 pm29 cd29 ct29 oc30 kV30 dc30 pm30 cd30 ct30 oc31 kV31 dc31 pm31 cd31 ct31 oc32 kV32 dc32 pm32 cd32 ct32 oc33 kV33 dc33 pm33 cd33 ct33 oc34 kV34 dc34 pm34 cd34 ct34 oc35 kV35 dc35 pm35 cd35 ct35 oc36 kV36 dc36 pm36 cd36 ct36 oc37 kV37 dc37 pm37 cd37 ct37 oc38 kV38 dc38 pm38 cd38 ct38 oc39 kV39 dc39 pm39 cd39 ct39 oc40 kV40 dc40 pm40 cd40 ct40 oc41 kV41 dc41 pm41 cd41 ct41 oc42 kV42 dc42 pm42 cd42 ct42 oc43 kV43 dc43 pm43 cd43 ct43 oc44 kV44 dc44 pm44 cd44 ct44 oc45 kV45 dc45 pm45 cd45 ct45 oc46 kV46 dc46 pm46 cd46 ct46 oc47 kV47 dc47 pm47 cd47 ct47 oc48 kV48 dc48 pm48 cd48 ct48 oc49 kV49 dc49 pm49 cd49 ct49:Value}
  {u_NoPaper u_Paper:Addr}
  {u_FIRST_YEAR u_ROUND_DAYS u_ROUND_YEARS:Value}
  {A_MONTH_DAYS:Addr}{dd_MONTH_DAYS:Option Addr}{its_MONTH_DAYS:Array Value}{n_MONTH_DAYS:Nat}{sl_MONTH_DAYS:Array (Option Value)}
  (a0:Kl K mainGlobals "is_leap"=some (some (.ref f0)))(l0:K.lookup f0=some ⟨oc0,od0,.func (Ke "is_leap" "is_leap" (ay iQ) (ax iQ) (ah iQ) .none kV0 dc0 pm0 an0 cd0 ct0),sl0⟩)(c0:Kp K cd0 "is_leap"=true)(k0:Kn K (.ref f0)=true)
  (a1:Kl K mainGlobals "month_length"=some (some (.ref f1)))(l1:K.lookup f1=some ⟨oc1,od1,.func (Ke "month_length" "month_length" (ay iR) (ax iR) (ah iR) .none kV1 dc1 pm1 an1 cd1 ct1),sl1⟩)(c1:Kp K cd1 "month_length"=true)(k1:Kn K (.ref f1)=true)
  (a2:Kl K mainGlobals "leaps_before"=some (some (.ref f2)))(l2:K.lookup f2=some ⟨oc2,od2,.func (Ke "leaps_before" "leaps_before" (ay iS) (ax iS) (ah iS) .none kV2 dc2 pm2 an2 cd2 ct2),sl2⟩)(c2:Kp K cd2 "leaps_before"=true)(k2:Kn K (.ref f2)=true)
  (a3:Kl K mainGlobals "year_start"=some (some (.ref f3)))(l3:K.lookup f3=some ⟨oc3,od3,.func (Ke "year_start" "year_start" (ay iT) (ax iT) (ah iT) .none kV3 dc3 pm3 an3 cd3 ct3),sl3⟩)(c3:Kp K cd3 "year_start"=true)(k3:Kn K (.ref f3)=true)
  (a4:Kl K mainGlobals "year_of"=some (some (.ref f4)))(l4:K.lookup f4=some ⟨oc4,od4,.func (Ke "year_of" "year_of" (ay iU) (ax iU) (ah iU) .none kV4 dc4 pm4 an4 cd4 ct4),sl4⟩)(c4:Kp K cd4 "year_of"=true)(k4:Kn K (.ref f4)=true)
  (a5:Kl K mainGlobals "parts_of"=some (some (.ref f5)))(l5:K.lookup f5=some ⟨oc5,od5,.func (Ke "parts_of" "parts_of" (ay iV) (ax iV) (ah iV) .none kV5 dc5 pm5 an5 cd5 ct5),sl5⟩)(c5:Kp K cd5 "parts_of"=true)(k5:Kn K (.ref f5)=true)
  (a6:Kl K mainGlobals "number_of"=some (some (.ref f6)))(l6:K.lookup f6=some ⟨oc6,od6,.func (Ke "number_of" "number_of" (ay g6) (ax g6) (ah g6) .none kV6 dc6 pm6 an6 cd6 ct6),sl6⟩)(c6:Kp K cd6 "number_of"=true)(k6:Kn K (.ref f6)=true)
  (a7:Kl K mainGlobals "later"=some (some (.ref f7)))(l7:K.lookup f7=some ⟨oc7,od7,.func (Ke "later" "later" (ay iW) (ax iW) (ah iW) .none kV7 dc7 pm7 an7 cd7 ct7),sl7⟩)(c7:Kp K cd7 "later"=true)(k7:Kn K (.ref f7)=true)
  (a8:Lu K (.ref u_Paper) "__init__"=some (some (.ref f8)))(i8:Qy K (.ref f8)=true)(l8:K.lookup f8=some ⟨oc8,od8,.func (Ke "__init__" "Paper.__init__" (ay g7) (ax g7) (ah g7) .none kV8 dc8 pm8 an8 cd8 ct8),sl8⟩)(c8:Kp K cd8 "Paper.__init__"=true)(k8:Kn K (.ref f8)=true)
  (a9:Kl K mainGlobals "place_of"=some (some (.ref f9)))(l9:K.lookup f9=some ⟨oc9,od9,.func (Ke "place_of" "place_of" (ay iX) (ax iX) (ah iX) .none kV9 dc9 pm9 an9 cd9 ct9),sl9⟩)(c9:Kp K cd9 "place_of"=true)(k9:Kn K (.ref f9)=true)
  (a10:Kl K mainGlobals "comings"=some (some (.ref f10)))(l10:K.lookup f10=some ⟨oc10,od10,.func (Ke "comings" "comings" (ay g9) (ax g9) (ah g9) .none kV10 dc10 pm10 an10 cd10 ct10),sl10⟩)(c10:Kp K cd10 "comings"=true)(k10:Kn K (.ref f10)=true)
  (a11:Kl K mainGlobals "coming_of"=some (some (.ref f11)))(l11:K.lookup f11=some ⟨oc11,od11,.func (Ke "coming_of" "coming_of" (ay iY) (ax iY) (ah iY) .none kV11 dc11 pm11 an11 cd11 ct11),sl11⟩)(c11:Kp K cd11 "coming_of"=true)(k11:Kn K (.ref f11)=true)
  (a12:Kl K mainGlobals "papers"=some (some (.ref f12)))(l12:K.lookup f12=some ⟨oc12,od12,.func (Ke "papers" "papers" (ay hG) (ax hG) (ah hG) .none kV12 dc12 pm12 an12 cd12 ct12),sl12⟩)(c12:Kp K cd12 "papers"=true)(k12:Kn K (.ref f12)=true)
  (a13:Kl K mainGlobals "kind_of"=some (some (.ref f13)))(l13:K.lookup f13=some ⟨oc13,od13,.func (Ke "kind_of" "kind_of" (ay iZ) (ax iZ) (ah iZ) .none kV13 dc13 pm13 an13 cd13 ct13),sl13⟩)(c13:Kp K cd13 "kind_of"=true)(k13:Kn K (.ref f13)=true)
  (a14:Kl K mainGlobals "maker_comings"=some (some (.ref f14)))(l14:K.lookup f14=some ⟨oc14,od14,.func (Ke "maker_comings" "maker_comings" (ay gn) (ax gn) (ah gn) .none kV14 dc14 pm14 an14 cd14 ct14),sl14⟩)(c14:Kp K cd14 "maker_comings"=true)(k14:Kn K (.ref f14)=true)
  (a15:Kl K mainGlobals "makers"=some (some (.ref f15)))(l15:K.lookup f15=some ⟨oc15,od15,.func (Ke "makers" "makers" (ay hJ) (ax hJ) (ah hJ) .none kV15 dc15 pm15 an15 cd15 ct15),sl15⟩)(c15:Kp K cd15 "makers"=true)(k15:Kn K (.ref f15)=true)
  (a16:Kl K mainGlobals "latest"=some (some (.ref f16)))(l16:K.lookup f16=some ⟨oc16,od16,.func (Ke "latest" "latest" (ay hU) (ax hU) (ah hU) .none kV16 dc16 pm16 an16 cd16 ct16),sl16⟩)(c16:Kp K cd16 "latest"=true)(k16:Kn K (.ref f16)=true)
  (a17:Kl K mainGlobals "rules_on"=some (some (.ref f17)))(l17:K.lookup f17=some ⟨oc17,od17,.func (Ke "rules_on" "rules_on" (ay hV) (ax hV) (ah hV) .none kV17 dc17 pm17 an17 cd17 ct17),sl17⟩)(c17:Kp K cd17 "rules_on"=true)(k17:Kn K (.ref f17)=true)
  (a18:Kl K mainGlobals "happened"=some (some (.ref f18)))(l18:K.lookup f18=some ⟨oc18,od18,.func (Ke "happened" "happened" (ay hW) (ax hW) (ah hW) .none kV18 dc18 pm18 an18 cd18 ct18),sl18⟩)(c18:Kp K cd18 "happened"=true)(k18:Kn K (.ref f18)=true)
  (a19:Kl K mainGlobals "base_of"=some (some (.ref f19)))(l19:K.lookup f19=some ⟨oc19,od19,.func (Ke "base_of" "base_of" (ay hX) (ax hX) (ah hX) .none kV19 dc19 pm19 an19 cd19 ct19),sl19⟩)(c19:Kp K cd19 "base_of"=true)(k19:Kn K (.ref f19)=true)
  (a20:Kl K mainGlobals "reckoned"=some (some (.ref f20)))(l20:K.lookup f20=some ⟨oc20,od20,.func (Ke "reckoned" "reckoned" (ay i3) (ax i3) (ah i3) .none kV20 dc20 pm20 an20 cd20 ct20),sl20⟩)(c20:Kp K cd20 "reckoned"=true)(k20:Kn K (.ref f20)=true)
  (a21:Kl K mainGlobals "reckoning"=some (some (.ref f21)))(l21:K.lookup f21=some ⟨oc21,od21,.func (Ke "reckoning" "reckoning" (ay i4) (ax i4) (ah i4) .none kV21 dc21 pm21 an21 cd21 ct21),sl21⟩)(c21:Kp K cd21 "reckoning"=true)(k21:Kn K (.ref f21)=true)
  (a22:Kl K mainGlobals "rules_over"=some (some (.ref f22)))(l22:K.lookup f22=some ⟨oc22,od22,.func (Ke "rules_over" "rules_over" (ay hZ) (ax hZ) (ah hZ) .none kV22 dc22 pm22 an22 cd22 ct22),sl22⟩)(c22:Kp K cd22 "rules_over"=true)(k22:Kn K (.ref f22)=true)
  (a23:Kl K mainGlobals "has_gone"=some (some (.ref f23)))(l23:K.lookup f23=some ⟨oc23,od23,.func (Ke "has_gone" "has_gone" (ay i6) (ax i6) (ah i6) .none kV23 dc23 pm23 an23 cd23 ct23),sl23⟩)(c23:Kp K cd23 "has_gone"=true)(k23:Kn K (.ref f23)=true)
  (a24:Kl K mainGlobals "staying"=some (some (.ref f24)))(l24:K.lookup f24=some ⟨oc24,od24,.func (Ke "staying" "staying" (ay ia) (ax ia) (ah ia) .none kV24 dc24 pm24 an24 cd24 ct24),sl24⟩)(c24:Kp K cd24 "staying"=true)(k24:Kn K (.ref f24)=true)
  (a25:Kl K mainGlobals "going"=some (some (.ref f25)))(l25:K.lookup f25=some ⟨oc25,od25,.func (Ke "going" "going" (ay ib) (ax ib) (ah ib) .none kV25 dc25 pm25 an25 cd25 ct25),sl25⟩)(c25:Kp K cd25 "going"=true)(k25:Kn K (.ref f25)=true)
  (a26:Kl K mainGlobals "leave_rules"=some (some (.ref f26)))(l26:K.lookup f26=some ⟨oc26,od26,.func (Ke "leave_rules" "leave_rules" (ay ic) (ax ic) (ah ic) .none kV26 dc26 pm26 an26 cd26 ct26),sl26⟩)(c26:Kp K cd26 "leave_rules"=true)(k26:Kn K (.ref f26)=true)
  (a27:Kl K mainGlobals "stays"=some (some (.ref f27)))(l27:K.lookup f27=some ⟨oc27,od27,.func (Ke "stays" "stays" (ay i7) (ax i7) (ah i7) .none kV27 dc27 pm27 an27 cd27 ct27),sl27⟩)(c27:Kp K cd27 "stays"=true)(k27:Kn K (.ref f27)=true)
  (a28:Kl K mainGlobals "goes"=some (some (.ref f28)))(l28:K.lookup f28=some ⟨oc28,od28,.func (Ke "goes" "goes" (ay i9) (ax i9) (ah i9) .none kV28 dc28 pm28 an28 cd28 ct28),sl28⟩)(c28:Kp K cd28 "goes"=true)(k28:Kn K (.ref f28)=true)
  (a29:Kl K mainGlobals "needs_leave"=some (some (.ref f29)))(l29:K.lookup f29=some ⟨oc29,od29,.func (Ke "needs_leave" "needs_leave" (ay ja) (ax ja) (ah ja) .none kV29 dc29 pm29 an29 cd29 ct29),sl29⟩)(c29:Kp K cd29 "needs_leave"=true)(k29:Kn K (.ref f29)=true)
  (a30:Kl K mainGlobals "_law_cell"=some (some (.ref f30)))(l30:K.lookup f30=some ⟨oc30,od30,.func (Ke "_law_cell" "_law_cell" (ay jb) (ax jb) (ah jb) .none kV30 dc30 pm30 an30 cd30 ct30),sl30⟩)(c30:Kp K cd30 "_law_cell"=true)(k30:Kn K (.ref f30)=true)
  (a31:Kl K mainGlobals "_law_purse"=some (some (.ref f31)))(l31:K.lookup f31=some ⟨oc31,od31,.func (Ke "_law_purse" "_law_purse" (ay jc) (ax jc) (ah jc) .none kV31 dc31 pm31 an31 cd31 ct31),sl31⟩)(c31:Kp K cd31 "_law_purse"=true)(k31:Kn K (.ref f31)=true)
  (a32:Kl K mainGlobals "_law_take"=some (some (.ref f32)))(l32:K.lookup f32=some ⟨oc32,od32,.func (Ke "_law_take" "_law_take" (ay jd) (ax jd) (ah jd) .none kV32 dc32 pm32 an32 cd32 ct32),sl32⟩)(c32:Kp K cd32 "_law_take"=true)(k32:Kn K (.ref f32)=true)
  (a33:Kl K mainGlobals "_law_names"=some (some (.ref f33)))(l33:K.lookup f33=some ⟨oc33,od33,.func (Ke "_law_names" "_law_names" (ay gr) (ax gr) (ah gr) .none kV33 dc33 pm33 an33 cd33 ct33),sl33⟩)(c33:Kp K cd33 "_law_names"=true)(k33:Kn K (.ref f33)=true)
  (a34:Kl K mainGlobals "_law_month"=some (some (.ref f34)))(l34:K.lookup f34=some ⟨oc34,od34,.func (Ke "_law_month" "_law_month" (ay je) (ax je) (ah je) .none kV34 dc34 pm34 an34 cd34 ct34),sl34⟩)(c34:Kp K cd34 "_law_month"=true)(k34:Kn K (.ref f34)=true)
  (a35:Kl K mainGlobals "_law_year"=some (some (.ref f35)))(l35:K.lookup f35=some ⟨oc35,od35,.func (Ke "_law_year" "_law_year" (ay jf) (ax jf) (ah jf) .none kV35 dc35 pm35 an35 cd35 ct35),sl35⟩)(c35:Kp K cd35 "_law_year"=true)(k35:Kn K (.ref f35)=true)
  (a36:Kl K mainGlobals "_law_day"=some (some (.ref f36)))(l36:K.lookup f36=some ⟨oc36,od36,.func (Ke "_law_day" "_law_day" (ay ie) (ax ie) (ah ie) .none kV36 dc36 pm36 an36 cd36 ct36),sl36⟩)(c36:Kp K cd36 "_law_day"=true)(k36:Kn K (.ref f36)=true)
  (a37:Kl K mainGlobals "_law_drawn_day"=some (some (.ref f37)))(l37:K.lookup f37=some ⟨oc37,od37,.func (Ke "_law_drawn_day" "_law_drawn_day" (ay jg) (ax jg) (ah jg) .none kV37 dc37 pm37 an37 cd37 ct37),sl37⟩)(c37:Kp K cd37 "_law_drawn_day"=true)(k37:Kn K (.ref f37)=true)
  (a38:Kl K mainGlobals "_law_parts"=some (some (.ref f38)))(l38:K.lookup f38=some ⟨oc38,od38,.func (Ke "_law_parts" "_law_parts" (ay jh) (ax jh) (ah jh) .none kV38 dc38 pm38 an38 cd38 ct38),sl38⟩)(c38:Kp K cd38 "_law_parts"=true)(k38:Kn K (.ref f38)=true)
  (a39:Kl K mainGlobals "_law_deed"=some (some (.ref f39)))(l39:K.lookup f39=some ⟨oc39,od39,.func (Ke "_law_deed" "_law_deed" (ay ig) (ax ig) (ah ig) .none kV39 dc39 pm39 an39 cd39 ct39),sl39⟩)(c39:Kp K cd39 "_law_deed"=true)(k39:Kn K (.ref f39)=true)
  (a40:Kl K mainGlobals "_law_quarrels"=some (some (.ref f40)))(l40:K.lookup f40=some ⟨oc40,od40,.func (Ke "_law_quarrels" "_law_quarrels" (ay ji) (ax ji) (ah ji) .none kV40 dc40 pm40 an40 cd40 ct40),sl40⟩)(c40:Kp K cd40 "_law_quarrels"=true)(k40:Kn K (.ref f40)=true)
  (a41:Kl K mainGlobals "_law_deeds"=some (some (.ref f41)))(l41:K.lookup f41=some ⟨oc41,od41,.func (Ke "_law_deeds" "_law_deeds" (ay ij) (ax ij) (ah ij) .none kV41 dc41 pm41 an41 cd41 ct41),sl41⟩)(c41:Kp K cd41 "_law_deeds"=true)(k41:Kn K (.ref f41)=true)
  (a42:Kl K mainGlobals "_law_alone"=some (some (.ref f42)))(l42:K.lookup f42=some ⟨oc42,od42,.func (Ke "_law_alone" "_law_alone" (ay ik) (ax ik) (ah ik) .none kV42 dc42 pm42 an42 cd42 ct42),sl42⟩)(c42:Kp K cd42 "_law_alone"=true)(k42:Kn K (.ref f42)=true)
  (a43:Kl K mainGlobals "_law_bare"=some (some (.ref f43)))(l43:K.lookup f43=some ⟨oc43,od43,.func (Ke "_law_bare" "_law_bare" (ay gu) (ax gu) (ah gu) .none kV43 dc43 pm43 an43 cd43 ct43),sl43⟩)(c43:Kp K cd43 "_law_bare"=true)(k43:Kn K (.ref f43)=true)
  (a44:Kl K mainGlobals "_law_put"=some (some (.ref f44)))(l44:K.lookup f44=some ⟨oc44,od44,.func (Ke "_law_put" "_law_put" (ay jj) (ax jj) (ah jj) .none kV44 dc44 pm44 an44 cd44 ct44),sl44⟩)(c44:Kp K cd44 "_law_put"=true)(k44:Kn K (.ref f44)=true)
  (a45:Kl K mainGlobals "_law_told"=some (some (.ref f45)))(l45:K.lookup f45=some ⟨oc45,od45,.func (Ke "_law_told" "_law_told" (ay jk) (ax jk) (ah jk) .none kV45 dc45 pm45 an45 cd45 ct45),sl45⟩)(c45:Kp K cd45 "_law_told"=true)(k45:Kn K (.ref f45)=true)
  (a46:Kl K mainGlobals "_law_by_themselves"=some (some (.ref f46)))(l46:K.lookup f46=some ⟨oc46,od46,.func (Ke "_law_by_themselves" "_law_by_themselves" (ay gz) (ax gz) (ah gz) .none kV46 dc46 pm46 an46 cd46 ct46),sl46⟩)(c46:Kp K cd46 "_law_by_themselves"=true)(k46:Kn K (.ref f46)=true)
  (a47:Kl K mainGlobals "_law_makers_right"=some (some (.ref f47)))(l47:K.lookup f47=some ⟨oc47,od47,.func (Ke "_law_makers_right" "_law_makers_right" (ay gC) (ax gC) (ah gC) .none kV47 dc47 pm47 an47 cd47 ct47),sl47⟩)(c47:Kp K cd47 "_law_makers_right"=true)(k47:Kn K (.ref f47)=true)
  (a48:Kl K mainGlobals "_law_exchanged"=some (some (.ref f48)))(l48:K.lookup f48=some ⟨oc48,od48,.func (Ke "_law_exchanged" "_law_exchanged" (ay fK) (ax fK) (ah fK) .none kV48 dc48 pm48 an48 cd48 ct48),sl48⟩)(c48:Kp K cd48 "_law_exchanged"=true)(k48:Kn K (.ref f48)=true)
  (a49:Kl K mainGlobals "law"=some (some (.ref f49)))(l49:K.lookup f49=some ⟨oc49,od49,.func (Ke "law" "law" (ay il) (ax il) (ah il) .none kV49 dc49 pm49 an49 cd49 ct49),sl49⟩)(c49:Kp K cd49 "law"=true)(k49:Kn K (.ref f49)=true)
  (x_MONTH_DAYS:Kl K mainGlobals "MONTH_DAYS"=some (some (.ref A_MONTH_DAYS)))(y_MONTH_DAYS:K.lookup A_MONTH_DAYS=some ⟨.type "tuple",dd_MONTH_DAYS,.seq its_MONTH_DAYS n_MONTH_DAYS,sl_MONTH_DAYS⟩)(z_MONTH_DAYS:aF [V.int 31,V.int 28,V.int 31,V.int 30,V.int 31,V.int 30,V.int 31,V.int 31,V.int 30,V.int 31,V.int 30,V.int 31] its_MONTH_DAYS.toList)(w_MONTH_DAYS:its_MONTH_DAYS.size≤sizeLine)
  (x_FIRST_YEAR:Kl K mainGlobals "FIRST_YEAR"=some (some u_FIRST_YEAR))(r_FIRST_YEAR:aE (.int 2000) u_FIRST_YEAR)
  (x_ROUND_DAYS:Kl K mainGlobals "ROUND_DAYS"=some (some u_ROUND_DAYS))(r_ROUND_DAYS:aE (.int 146097) u_ROUND_DAYS)
  (x_ROUND_YEARS:Kl K mainGlobals "ROUND_YEARS"=some (some u_ROUND_YEARS))(r_ROUND_YEARS:aE (.int 400) u_ROUND_YEARS)
  (x_NoPaper:Kl K mainGlobals "NoPaper"=some (some (.ref u_NoPaper)))
  (x_Paper:Kl K mainGlobals "Paper"=some (some (.ref u_Paper)))
  (pg_Paper:NG K u_Paper Str.empty=true)
  (hd_Paper:Nr K u_Paper=true)
  (po_Paper:N8 K u_Paper=true)
  (sa_Paper:Lu K (.ref u_Paper) "__setattr__"=some (some (.builtin "object.__setattr__")))
  (mk_Paper:OG K u_Paper=true)
  (kc_Paper:Kn K (.ref u_Paper)=true)
  (na_Paper_name:Lu K (.ref u_Paper) "name"=some none)
  (na_Paper_coming:Lu K (.ref u_Paper) "coming"=some none)
  (na_Paper_kind:Lu K (.ref u_Paper) "kind"=some none)
  (na_Paper_makers:Lu K (.ref u_Paper) "makers"=some none)
  (na_Paper_happenings:Lu K (.ref u_Paper) "happenings"=some none)
  (n_abs:Kl K mainGlobals "abs"=some none)
  (n_all:Kl K mainGlobals "all"=some none)
  (n_any:Kl K mainGlobals "any"=some none)
  (n_divmod:Kl K mainGlobals "divmod"=some none)
  (n_int:Kl K mainGlobals "int"=some none)
  (n_len:Kl K mainGlobals "len"=some none)
  (n_max:Kl K mainGlobals "max"=some none)
  (n_min:Kl K mainGlobals "min"=some none)
  (n_range:Kl K mainGlobals "range"=some none)
  (n_set:Kl K mainGlobals "set"=some none)
  (n_sorted:Kl K mainGlobals "sorted"=some none)
  (n_sum:Kl K mainGlobals "sum"=some none)
  (n_tuple:Kl K mainGlobals "tuple"=some none):∃t:cW,Txt K mg t:=by
 have F0:=bj (st:=iQ) l0 c0 k0
 have F1:=bj (st:=iR) l1 c1 k1
 have F2:=bj (st:=iS) l2 c2 k2
 have F3:=bj (st:=iT) l3 c3 k3
 have F4:=bj (st:=iU) l4 c4 k4
 have F5:=bj (st:=iV) l5 c5 k5
 have F6:=bj (st:=g6) l6 c6 k6
 have F7:=bj (st:=iW) l7 c7 k7
 have F8:=bj (st:=g7) l8 c8 k8
 have F9:=bj (st:=iX) l9 c9 k9
 have F10:=bj (st:=g9) l10 c10 k10
 have F11:=bj (st:=iY) l11 c11 k11
 have F12:=bj (st:=hG) l12 c12 k12
 have F13:=bj (st:=iZ) l13 c13 k13
 have F14:=bj (st:=gn) l14 c14 k14
 have F15:=bj (st:=hJ) l15 c15 k15
 have F16:=bj (st:=hU) l16 c16 k16
 have F17:=bj (st:=hV) l17 c17 k17
 have F18:=bj (st:=hW) l18 c18 k18
 have F19:=bj (st:=hX) l19 c19 k19
 have F20:=bj (st:=i3) l20 c20 k20
 have F21:=bj (st:=i4) l21 c21 k21
 have F22:=bj (st:=hZ) l22 c22 k22
 have F23:=bj (st:=i6) l23 c23 k23
 have F24:=bj (st:=ia) l24 c24 k24
 have F25:=bj (st:=ib) l25 c25 k25
 have F26:=bj (st:=ic) l26 c26 k26
 have F27:=bj (st:=i7) l27 c27 k27
 have F28:=bj (st:=i9) l28 c28 k28
 have F29:=bj (st:=ja) l29 c29 k29
 have F30:=bj (st:=jb) l30 c30 k30
 have F31:=bj (st:=jc) l31 c31 k31
 have F32:=bj (st:=jd) l32 c32 k32
 have F33:=bj (st:=gr) l33 c33 k33
 have F34:=bj (st:=je) l34 c34 k34
 have F35:=bj (st:=jf) l35 c35 k35
 have F36:=bj (st:=ie) l36 c36 k36
 have F37:=bj (st:=jg) l37 c37 k37
 have F38:=bj (st:=jh) l38 c38 k38
 have F39:=bj (st:=ig) l39 c39 k39
 have F40:=bj (st:=ji) l40 c40 k40
 have F41:=bj (st:=ij) l41 c41 k41
 have F42:=bj (st:=ik) l42 c42 k42
 have F43:=bj (st:=gu) l43 c43 k43
 have F44:=bj (st:=jj) l44 c44 k44
 have F45:=bj (st:=jk) l45 c45 k45
 have F46:=bj (st:=gz) l46 c46 k46
 have F47:=bj (st:=gC) l47 c47 k47
 have F48:=bj (st:=fK) l48 c48 k48
 have F49:=bj (st:=il) l49 c49 k49
 refine⟨⟨f0,Ke "is_leap" "is_leap" (ay iQ) (ax iQ) (ah iQ) .none kV0 dc0 pm0 an0 cd0 ct0,f1,Ke "month_length" "month_length" (ay iR) (ax iR) (ah iR) .none kV1 dc1 pm1 an1 cd1 ct1,f2,Ke "leaps_before" "leaps_before" (ay iS) (ax iS) (ah iS) .none kV2 dc2 pm2 an2 cd2 ct2,f3,Ke "year_start" "year_start" (ay iT) (ax iT) (ah iT) .none kV3 dc3 pm3 an3 cd3 ct3,f4,Ke "year_of" "year_of" (ay iU) (ax iU) (ah iU) .none kV4 dc4 pm4 an4 cd4 ct4,f5,Ke "parts_of" "parts_of" (ay iV) (ax iV) (ah iV) .none kV5 dc5 pm5 an5 cd5 ct5,f6,Ke "number_of" "number_of" (ay g6) (ax g6) (ah g6) .none kV6 dc6 pm6 an6 cd6 ct6,f7,Ke "later" "later" (ay iW) (ax iW) (ah iW) .none kV7 dc7 pm7 an7 cd7 ct7,f8,Ke "__init__" "Paper.__init__" (ay g7) (ax g7) (ah g7) .none kV8 dc8 pm8 an8 cd8 ct8,f9,Ke "place_of" "place_of" (ay iX) (ax iX) (ah iX) .none kV9 dc9 pm9 an9 cd9 ct9,f10,Ke "comings" "comings" (ay g9) (ax g9) (ah g9) .none kV10 dc10 pm10 an10 cd10 ct10,f11,Ke "coming_of" "coming_of" (ay iY) (ax iY) (ah iY) .none kV11 dc11 pm11 an11 cd11 ct11,f12,Ke "papers" "papers" (ay hG) (ax hG) (ah hG) .none kV12 dc12 pm12 an12 cd12 ct12,f13,Ke "kind_of" "kind_of" (ay iZ) (ax iZ) (ah iZ) .none kV13 dc13 pm13 an13 cd13 ct13,f14,Ke "maker_comings" "maker_comings" (ay gn) (ax gn) (ah gn) .none kV14 dc14 pm14 an14 cd14 ct14,f15,Ke "makers" "makers" (ay hJ) (ax hJ) (ah hJ) .none kV15 dc15 pm15 an15 cd15 ct15,f16,Ke "latest" "latest" (ay hU) (ax hU) (ah hU) .none kV16 dc16 pm16 an16 cd16 ct16,f17,Ke "rules_on" "rules_on" (ay hV) (ax hV) (ah hV) .none kV17 dc17 pm17 an17 cd17 ct17,f18,Ke "happened" "happened" (ay hW) (ax hW) (ah hW) .none kV18 dc18 pm18 an18 cd18 ct18,f19,Ke "base_of" "base_of" (ay hX) (ax hX) (ah hX) .none kV19 dc19 pm19 an19 cd19 ct19,f20,Ke "reckoned" "reckoned" (ay i3) (ax i3) (ah i3) .none kV20 dc20 pm20 an20 cd20 ct20,f21,Ke "reckoning" "reckoning" (ay i4) (ax i4) (ah i4) .none kV21 dc21 pm21 an21 cd21 ct21,f22,Ke "rules_over" "rules_over" (ay hZ) (ax hZ) (ah hZ) .none kV22 dc22 pm22 an22 cd22 ct22,f23,Ke "has_gone" "has_gone" (ay i6) (ax i6) (ah i6) .none kV23 dc23 pm23 an23 cd23 ct23,f24,Ke "staying" "staying" (ay ia) (ax ia) (ah ia) .none kV24 dc24 pm24 an24 cd24 ct24,f25,Ke "going" "going" (ay ib) (ax ib) (ah ib) .none kV25 dc25 pm25 an25 cd25 ct25,f26,Ke "leave_rules" "leave_rules" (ay ic) (ax ic) (ah ic) .none kV26 dc26 pm26 an26 cd26 ct26,f27,Ke "stays" "stays" (ay i7) (ax i7) (ah i7) .none kV27 dc27 pm27 an27 cd27 ct27,f28,Ke "goes" "goes" (ay i9) (ax i9) (ah i9) .none kV28 dc28 pm28 an28 cd28 ct28,f29,Ke "needs_leave" "needs_leave" (ay ja) (ax ja) (ah ja) .none kV29 dc29 pm29 an29 cd29 ct29,f30,Ke "_law_cell" "_law_cell" (ay jb) (ax jb) (ah jb) .none kV30 dc30 pm30 an30 cd30 ct30,f31,Ke "_law_purse" "_law_purse" (ay jc) (ax jc) (ah jc) .none kV31 dc31 pm31 an31 cd31 ct31,f32,Ke "_law_take" "_law_take" (ay jd) (ax jd) (ah jd) .none kV32 dc32 pm32 an32 cd32 ct32,f33,Ke "_law_names" "_law_names" (ay gr) (ax gr) (ah gr) .none kV33 dc33 pm33 an33 cd33 ct33,f34,Ke "_law_month" "_law_month" (ay je) (ax je) (ah je) .none kV34 dc34 pm34 an34 cd34 ct34,f35,Ke "_law_year" "_law_year" (ay jf) (ax jf) (ah jf) .none kV35 dc35 pm35 an35 cd35 ct35,f36,Ke "_law_day" "_law_day" (ay ie) (ax ie) (ah ie) .none kV36 dc36 pm36 an36 cd36 ct36,f37,Ke "_law_drawn_day" "_law_drawn_day" (ay jg) (ax jg) (ah jg) .none kV37 dc37 pm37 an37 cd37 ct37,f38,Ke "_law_parts" "_law_parts" (ay jh) (ax jh) (ah jh) .none kV38 dc38 pm38 an38 cd38 ct38,f39,Ke "_law_deed" "_law_deed" (ay ig) (ax ig) (ah ig) .none kV39 dc39 pm39 an39 cd39 ct39,f40,Ke "_law_quarrels" "_law_quarrels" (ay ji) (ax ji) (ah ji) .none kV40 dc40 pm40 an40 cd40 ct40,f41,Ke "_law_deeds" "_law_deeds" (ay ij) (ax ij) (ah ij) .none kV41 dc41 pm41 an41 cd41 ct41,f42,Ke "_law_alone" "_law_alone" (ay ik) (ax ik) (ah ik) .none kV42 dc42 pm42 an42 cd42 ct42,f43,Ke "_law_bare" "_law_bare" (ay gu) (ax gu) (ah gu) .none kV43 dc43 pm43 an43 cd43 ct43,f44,Ke "_law_put" "_law_put" (ay jj) (ax jj) (ah jj) .none kV44 dc44 pm44 an44 cd44 ct44,f45,Ke "_law_told" "_law_told" (ay jk) (ax jk) (ah jk) .none kV45 dc45 pm45 an45 cd45 ct45,f46,Ke "_law_by_themselves" "_law_by_themselves" (ay gz) (ax gz) (ah gz) .none kV46 dc46 pm46 an46 cd46 ct46,f47,Ke "_law_makers_right" "_law_makers_right" (ay gC) (ax gC) (ah gC) .none kV47 dc47 pm47 an47 cd47 ct47,f48,Ke "_law_exchanged" "_law_exchanged" (ay fK) (ax fK) (ah fK) .none kV48 dc48 pm48 an48 cd48 ct48,f49,Ke "law" "law" (ay il) (ax il) (ah il) .none kV49 dc49 pm49 an49 cd49 ct49,.ref A_MONTH_DAYS,u_FIRST_YEAR,u_ROUND_DAYS,u_ROUND_YEARS,u_NoPaper,u_Paper⟩,?_⟩
 exact⟨(F0),
  (Kq X G a0),
  (F0.binds (ps:=["year"]) fun _ _ _ _ _ _ us hl=> by obtain⟨a,rfl⟩:=fz (us:=us) hl;rfl),
  (F1),
  (Kq X G a1),
  (F1.binds (ps:=["year","month"]) fun _ _ _ _ _ _ us hl=> by obtain⟨a,b,rfl⟩:=d5 (us:=us) hl;rfl),
  (F2),
  (Kq X G a2),
  (F2.binds (ps:=["year"]) fun _ _ _ _ _ _ us hl=> by obtain⟨a,rfl⟩:=fz (us:=us) hl;rfl),
  (F3),
  (Kq X G a3),
  (F3.binds (ps:=["year"]) fun _ _ _ _ _ _ us hl=> by obtain⟨a,rfl⟩:=fz (us:=us) hl;rfl),
  (F4),
  (Kq X G a4),
  (F4.binds (ps:=["day"]) fun _ _ _ _ _ _ us hl=> by obtain⟨a,rfl⟩:=fz (us:=us) hl;rfl),
  (F5),
  (Kq X G a5),
  (F5.binds (ps:=["day"]) fun _ _ _ _ _ _ us hl=> by obtain⟨a,rfl⟩:=fz (us:=us) hl;rfl),
  (F6),
  (Kq X G a6),
  (F6.binds (ps:=["year","month","day"]) fun _ _ _ _ _ _ us hl=> by obtain⟨a,b,c,rfl⟩:=fN (us:=us) hl;rfl),
  (F7),
  (Kq X G a7),
  (F7.binds (ps:=["day","many","unit"]) fun _ _ _ _ _ _ us hl=> by obtain⟨a,b,c,rfl⟩:=fN (us:=us) hl;rfl),
  (F8),
  (F8.binds (ps:=["self","deeds","name"]) fun _ _ _ _ _ _ us hl=> by obtain⟨a,b,c,rfl⟩:=fN (us:=us) hl;rfl),
  (F9),
  (Kq X G a9),
  (F9.binds (ps:=["deed"]) fun _ _ _ _ _ _ us hl=> by obtain⟨a,rfl⟩:=fz (us:=us) hl;rfl),
  (F10),
  (Kq X G a10),
  (F10.binds (ps:=["deeds"]) fun _ _ _ _ _ _ us hl=> by obtain⟨a,rfl⟩:=fz (us:=us) hl;rfl),
  (F11),
  (Kq X G a11),
  (F11.binds (ps:=["deeds","paper"]) fun _ _ _ _ _ _ us hl=> by obtain⟨a,b,rfl⟩:=d5 (us:=us) hl;rfl),
  (F12),
  (Kq X G a12),
  (F12.binds (ps:=["deeds"]) fun _ _ _ _ _ _ us hl=> by obtain⟨a,rfl⟩:=fz (us:=us) hl;rfl),
  (F13),
  (Kq X G a13),
  (F13.binds (ps:=["deeds","paper"]) fun _ _ _ _ _ _ us hl=> by obtain⟨a,b,rfl⟩:=d5 (us:=us) hl;rfl),
  (F14),
  (Kq X G a14),
  (F14.binds (ps:=["deeds","coming"]) fun _ _ _ _ _ _ us hl=> by obtain⟨a,b,rfl⟩:=d5 (us:=us) hl;rfl),
  (F15),
  (Kq X G a15),
  (F15.binds (ps:=["deeds","paper"]) fun _ _ _ _ _ _ us hl=> by obtain⟨a,b,rfl⟩:=d5 (us:=us) hl;rfl),
  (F16),
  (Kq X G a16),
  (F16.binds (ps:=["deeds","words","day"]) fun _ _ _ _ _ _ us hl=> by obtain⟨a,b,c,rfl⟩:=fN (us:=us) hl;rfl),
  (F17),
  (Kq X G a17),
  (F17.binds (ps:=["deeds","day"]) fun _ _ _ _ _ _ us hl=> by obtain⟨a,b,rfl⟩:=d5 (us:=us) hl;rfl),
  (F18),
  (Kq X G a18),
  (F18.binds (ps:=["paper","happening"]) fun _ _ _ _ _ _ us hl=> by obtain⟨a,b,rfl⟩:=d5 (us:=us) hl;rfl),
  (F19),
  (Kq X G a19),
  (F19.binds (ps:=["paper","since","day"]) fun _ _ _ _ _ _ us hl=> by obtain⟨a,b,c,rfl⟩:=fN (us:=us) hl;rfl),
  (F20),
  (Kq X G a20),
  (F20.binds (ps:=["paper","parts","day"]) fun _ _ _ _ _ _ us hl=> by obtain⟨a,b,c,rfl⟩:=fN (us:=us) hl;rfl),
  (F21),
  (Kq X G a21),
  (F21.binds (ps:=["deeds","parts","paper","day"]) fun _ _ _ _ _ _ us hl=> by obtain⟨a,b,c,d,rfl⟩:=jl (us:=us) hl;rfl),
  (F22),
  (Kq X G a22),
  (F22.binds (ps:=["paper","rules","day"]) fun _ _ _ _ _ _ us hl=> by obtain⟨a,b,c,rfl⟩:=fN (us:=us) hl;rfl),
  (F23),
  (Kq X G a23),
  (F23.binds (ps:=["gone","paper","day"]) fun _ _ _ _ _ _ us hl=> by obtain⟨a,b,c,rfl⟩:=fN (us:=us) hl;rfl),
  (F24),
  (Kq X G a24),
  (F24.binds (ps:=["paper","rules","day","gone"]) fun _ _ _ _ _ _ us hl=> by obtain⟨a,b,c,d,rfl⟩:=jl (us:=us) hl;rfl),
  (F25),
  (Kq X G a25),
  (F25.binds (ps:=["paper","rules","day","gone"]) fun _ _ _ _ _ _ us hl=> by obtain⟨a,b,c,d,rfl⟩:=jl (us:=us) hl;rfl),
  (F26),
  (Kq X G a26),
  (F26.binds (ps:=["kind","rules"]) fun _ _ _ _ _ _ us hl=> by obtain⟨a,b,rfl⟩:=d5 (us:=us) hl;rfl),
  (F27),
  (Kq X G a27),
  (F27.binds (ps:=["deeds","day","paper","gone"]) fun _ _ _ _ _ _ us hl=> by obtain⟨a,b,c,d,rfl⟩:=jl (us:=us) hl;rfl),
  (F28),
  (Kq X G a28),
  (F28.binds (ps:=["deeds","day","paper","gone"]) fun _ _ _ _ _ _ us hl=> by obtain⟨a,b,c,d,rfl⟩:=jl (us:=us) hl;rfl),
  (F29),
  (Kq X G a29),
  (F29.binds (ps:=["deeds","day","paper"]) fun _ _ _ _ _ _ us hl=> by obtain⟨a,b,c,rfl⟩:=fN (us:=us) hl;rfl),
  (F30),
  (Kq X G a30),
  (F30.binds (ps:=["_law_script","_law_k"]) fun _ _ _ _ _ _ us hl=> by obtain⟨a,b,rfl⟩:=d5 (us:=us) hl;rfl),
  (F31),
  (Kq X G a31),
  (F31.binds (ps:=["_law_cell_here"]) fun _ _ _ _ _ _ us hl=> by obtain⟨a,rfl⟩:=fz (us:=us) hl;rfl),
  (F32),
  (Kq X G a32),
  (F32.binds (ps:=["_law_purse_here","_law_many"]) fun _ _ _ _ _ _ us hl=> by obtain⟨a,b,rfl⟩:=d5 (us:=us) hl;rfl),
  (F33),
  (Kq X G a33),
  (F33.binds (ps:=["_law_purse_here","_law_many"]) fun _ _ _ _ _ _ us hl=> by obtain⟨a,b,rfl⟩:=d5 (us:=us) hl;rfl),
  (F34),
  (Kq X G a34),
  (F34.binds (ps:=["_law_year_here","_law_month_here"]) fun _ _ _ _ _ _ us hl=> by obtain⟨a,b,rfl⟩:=d5 (us:=us) hl;rfl),
  (F35),
  (Kq X G a35),
  (F35.binds (ps:=["_law_year_here"]) fun _ _ _ _ _ _ us hl=> by obtain⟨a,rfl⟩:=fz (us:=us) hl;rfl),
  (F36),
  (Kq X G a36),
  (F36.binds (ps:=["_law_year_here","_law_month_here","_law_number"]) fun _ _ _ _ _ _ us hl=> by obtain⟨a,b,c,rfl⟩:=fN (us:=us) hl;rfl),
  (F37),
  (Kq X G a37),
  (F37.binds (ps:=["_law_purse_here","_law_far"]) fun _ _ _ _ _ _ us hl=> by obtain⟨a,b,rfl⟩:=d5 (us:=us) hl;rfl),
  (F38),
  (Kq X G a38),
  (F38.binds (ps:=["_law_purse_here","_law_word","_law_names_here","_law_kinds","_law_far"]) fun _ _ _ _ _ _ us hl=> by obtain⟨a,b,c,d,p,rfl⟩:=pB (us:=us) hl;rfl),
  (F39),
  (Kq X G a39),
  (F39.binds (ps:=["_law_purse_here","_law_word","_law_names_here","_law_kinds","_law_far"]) fun _ _ _ _ _ _ us hl=> by obtain⟨a,b,c,d,p,rfl⟩:=pB (us:=us) hl;rfl),
  (F40),
  (Kq X G a40),
  (F40.binds (ps:=["_law_one","_law_other"]) fun _ _ _ _ _ _ us hl=> by obtain⟨a,b,rfl⟩:=d5 (us:=us) hl;rfl),
  (F41),
  (Kq X G a41),
  (F41.binds (ps:=["_law_script","_law_menu","_law_most"]) fun _ _ _ _ _ _ us hl=> by obtain⟨a,b,c,rfl⟩:=fN (us:=us) hl;rfl),
  (F42),
  (Kq X G a42),
  (F42.binds (ps:=["_law_deeds_here","_law_rule"]) fun _ _ _ _ _ _ us hl=> by obtain⟨a,b,rfl⟩:=d5 (us:=us) hl;rfl),
  (F43),
  (Kq X G a43),
  (F43.binds (ps:=["_law_deeds_here","_law_name"]) fun _ _ _ _ _ _ us hl=> by obtain⟨a,b,rfl⟩:=d5 (us:=us) hl;rfl),
  (F44),
  (Kq X G a44),
  (F44.binds (ps:=["_law_deed_here"]) fun _ _ _ _ _ _ us hl=> by obtain⟨a,rfl⟩:=fz (us:=us) hl;rfl),
  (F45),
  (Kq X G a45),
  (F45.binds (ps:=["_law_deeds_here","_law_day_here","_law_name","_law_gone"]) fun _ _ _ _ _ _ us hl=> by obtain⟨a,b,c,d,rfl⟩:=jl (us:=us) hl;rfl),
  (F46),
  (Kq X G a46),
  (F46.binds (ps:=["_law_deeds_here","_law_day_here","_law_name","_law_gone"]) fun _ _ _ _ _ _ us hl=> by obtain⟨a,b,c,d,rfl⟩:=jl (us:=us) hl;rfl),
  (F47),
  (Kq X G a47),
  (F47.binds (ps:=["_law_elders","_law_gone","_law_day_here","_law_stay","_law_leave"]) fun _ _ _ _ _ _ us hl=> by obtain⟨a,b,c,d,p,rfl⟩:=pB (us:=us) hl;rfl),
  (F48),
  (Kq X G a48),
  (F48.binds (ps:=["_law_deeds_here","_law_day_here","_law_name","_law_gone"]) fun _ _ _ _ _ _ us hl=> by obtain⟨a,b,c,d,rfl⟩:=jl (us:=us) hl;rfl),
  (F49),
  (Kq X G a49),
  (F49.binds (ps:=["_law_script"]) fun _ _ _ _ _ _ us hl=> by obtain⟨a,rfl⟩:=fz (us:=us) hl;rfl),
  (fun s v=> .of_eq rfl),
  (Kq X G x_MONTH_DAYS),
  (⟨A_MONTH_DAYS,rfl,fun H=> .inr ⟨_,_,_,y_MONTH_DAYS,rfl,rfl,w_MONTH_DAYS,z_MONTH_DAYS⟩⟩),
  (Kq X G x_FIRST_YEAR),
  (r_FIRST_YEAR),
  (Kq X G x_ROUND_DAYS),
  (r_ROUND_DAYS),
  (Kq X G x_ROUND_YEARS),
  (r_ROUND_YEARS),
  (Kq X G x_NoPaper),
  (Kq X G x_Paper),
  (⟨pg_Paper,hd_Paper,po_Paper,sa_Paper⟩),
  (⟨mk_Paper,a8,i8,kc_Paper⟩),
  (na_Paper_name),
  (na_Paper_coming),
  (na_Paper_kind),
  (na_Paper_makers),
  (na_Paper_happenings),
  (Lg X G n_abs),
  (Lg X G n_all),
  (Lg X G n_any),
  (Lg X G n_divmod),
  (Lg X G n_int),
  (Lg X G n_len),
  (Lg X G n_max),
  (Lg X G n_min),
  (Lg X G n_range),
  (Lg X G n_set),
  (Lg X G n_sorted),
  (Lg X G n_sum),
  (Lg X G n_tuple)⟩
end K18
open PySem L2
local macro_rules | `(tactic| walk_at "o")=> `(tactic| first | exact OR rfl | exact NN rfl)
local macro_rules | `(tactic| walk_at "rd")=> `(tactic| simp only [vj,vi,vq,vp,vk,lZ,gJ,eX,tC,kJ,vC,rI,fQ,rU,vE,vF,qp,vM,tB,uY,uZ,u5,vc,vd,vg,qx,vV,vU,nW,vW,vX,nM,lY,nL,vv,vw,El,Em,En,Eo,Ep,Er,Es,Et,mm,nT,kK,L2.start,Kj,Ly,Kw,Mb,Kx,M4,LI,LH,NB,NC,Px,Py,Pz,Nq,Mf,NV,NW,Nv,exists_eq_left',exists_eq_left,exists_and_left,exists_and_right,V.int.injEq,V.bl.injEq,V.str.injEq,V.ref.injEq,LB,and_true,true_and,PB,exists_const,decide_eq_true_eq,PD,PF,Pa,Pb,Nu,decide_eq_false_iff_not,and_assoc,bM,Ov,Oe,Ow,L2.cxK,L2.cmK,or_true,true_or])
namespace K18
open Day
theorem AU:bz (ah g6) ["year","month","day","before"] ["other","year"] 1 [0] {kind:=Ko,names:=[ (Kc ".0",PySem.NameKind.local),(Kc "other",PySem.NameKind.local),(Kc "month_length",Ld),(Kc "year",Ks)],isGenerator:=false,isCoroutine:=false,more:=[]:K0}:=⟨rfl,by decide+kernel,by decide+kernel,by decide+kernel,rfl,by decide+kernel,by decide+kernel,by decide+kernel,rfl⟩
section
variable {P:Program} {w:World} {K:Kb} {mg:Str→Option Value} {base:Heap} {t:cW}
def AV:Sp:=fun vs H Q _=> ∃(y:Int),vs=[.int y]∧Q (.bl (fJ y)) H
theorem HC(T:Txt K mg t):aL P w K mg base CX0 1 t.a_x0 t.d_x0 ["year"] AV:=by
 refine T.F_x0.ok He (fun vs H Q E h=> ?_) (fun cdv A outer s H vs Q E hr h=> ?_)
 ·obtain⟨y,rfl,_⟩:=h;rfl
 ·obtain⟨y,rfl,k⟩:=h
  refine⟨_,(dN (d9 (vf (nU mn (bh eJ (pv 0) bb) bb (aD _)) (p6 (ve (nU mn (bh eJ (pv 0) bb) bb (aD _)) (p6 (nU C4 (bh eJ (pv 0) bb) bb (aD _)))))))),?_⟩
  walk_at "rd"
  have e:fJ y=(decide (y % 400=0) || (decide (y % 4=0) && !decide (y % 100=0))):=rfl
  rw [e] at k
  by_cases h1:y % 400=0
  ·simpa [h1] using k
  ·by_cases h2:y % 4=0
   ·simpa [h1,h2] using k
   ·simpa [h1,h2] using k
def AW:Sp:=fun vs H Q _=> ∃(y m:Int),vs=[.int y,.int m]∧1≤m∧m≤12∧Q (.int (bf y m)) H
theorem ui(T:Txt K mg t):aL P w K mg base CX0 2 t.a_x1 t.d_x1 ["year","month"] AW:=by
 have G_x0:=HC (P:=P) (w:=w) (base:=base) T
 refine T.F_x1.ok Hf (fun vs H Q E h=> ?_) (fun cdv A outer s H vs Q E hr h=> ?_)
 ·obtain⟨y,m,rfl,_⟩:=h;rfl
 ·obtain⟨y,m,rfl,h1,h2,k⟩:=h
  obtain⟨a,ea,hM⟩:=T.e_MONTH_DAYS
  have T_r:aE (.ref a) t.u_MONTH_DAYS:=ea
  refine⟨_,(cA (j4 (PW.pt (va (gM mn (pv 1) bb (aD _)) (u7 (uX (aq G_x0 (hr.mono (by decide)) rfl T.m_x0 T.F_x0.kp T.b_x0 .nil ao (bC (pv 0) cm)))))) (dN (d9 bb)) j3)
   (dN (d9 (fS aH (kI rfl T.c_MONTH_DAYS T_r) (bh dz (pv 1) bb) (fun _ _=> rfl))))),?_⟩
  walk_at "rd"
  simp only [AV]
  walk_at "rd"
  have fin:∀{v:Int},v=bf y m→Q (.int v) H:=fun e=> by rw [e];exact k
  have tail:bf y m=tW.getD (m - 1).toNat 0→n4 K (.ref a) (.int (m - 1)) H Q:=fun e=> by
   refine⟨a,_,m - 1,.int (bf y m),rfl,rfl,hM H,?_,k⟩
   rw [e]
   rcases pd h1 h2 with z | z | z | z | z | z | z | z | z | z | z | z <;> subst z <;> rfl
  by_cases hm:m=2
  ·rw [if_pos hm]
   by_cases hl:fJ y=true
   ·rw [if_pos hl]
    exact fin (by unfold bf;rw [if_pos ⟨hm,hl⟩])
   ·rw [if_neg hl]
    exact tail (by unfold bf;rw [if_neg (fun z=> hl z.2)])
  ·rw [if_neg hm]
   exact tail (tX hm)
def AX:Sp:=fun vs H Q _=> ∃(y:Int),vs=[.int y]∧Q (.int (lb y)) H
theorem HD(T:Txt K mg t):aL P w K mg base CX0 1 t.a_x2 t.d_x2 ["year"] AX:=by
 refine T.F_x2.ok AD (fun vs H Q E h=> ?_) (fun cdv A outer s H vs Q E hr h=> ?_)
 ·obtain⟨y,rfl,_⟩:=h;rfl
 ·obtain⟨y,rfl,k⟩:=h
  refine⟨_,(cA (dq (i:=1) AD.nd rfl (by walk_at "o") (bh dz (pv 0) bb))
   (dN (d9 (bh bI (bh dz (bh iA (pv 1) bb) (bh iA (pv 1) bb)) (bh iA (pv 1) bb))))),?_⟩
  walk_at "rd"
  exact k
def pC:Sp:=fun vs H Q _=> ∃(y:Int),vs=[.int y]∧Q (.int (ck y)) H
theorem uj(T:Txt K mg t):aL P w K mg base CX0 2 t.a_x3 t.d_x3 ["year"] pC:=by
 have G_x2:=HD (P:=P) (w:=w) (base:=base) T
 refine T.F_x3.ok Hg (fun vs H Q E h=> ?_) (fun cdv A outer s H vs Q E hr h=> ?_)
 ·obtain⟨y,rfl,_⟩:=h;rfl
 ·obtain⟨y,rfl,k⟩:=h
  refine⟨_,(dN (d9 (bh dz (bh bI (bh eY bb (bh dz (pv 0) (kI rfl T.c_FIRST_YEAR T.r_FIRST_YEAR))) (aq G_x2 (hr.mono (by decide)) rfl T.m_x2 T.F_x2.kp T.b_x2 .nil ao (bC (pv 0) cm))) (aq G_x2 (hr.mono (by decide)) rfl T.m_x2 T.F_x2.kp T.b_x2 .nil ao (bC (kI rfl T.c_FIRST_YEAR T.r_FIRST_YEAR) cm))))),?_⟩
  walk_at "rd"
  simp only [AX]
  walk_at "rd"
  exact k
def AY:Sp:=fun vs H Q _=> ∃(d:Int),vs=[.int d]∧Q (.int (lC d)) H
theorem HE(T:Txt K mg t):aL P w K mg base CX0 3 t.a_x4 t.d_x4 ["day"] AY:=by
 have G_x3:=uj (P:=P) (w:=w) (base:=base) T
 refine T.F_x4.ok AE (fun vs H Q E h=> ?_) (fun cdv A outer s H vs Q E hr h=> ?_)
 ·obtain⟨d,rfl,_⟩:=h;rfl
 ·obtain⟨d,rfl,k⟩:=h
  refine⟨_,(cA (dq (i:=1) AE.nd rfl (by walk_at "o") (bh bI (kI rfl T.c_FIRST_YEAR T.r_FIRST_YEAR) (bh iA (bh eY (pv 0) (kI rfl T.c_ROUND_YEARS T.r_ROUND_YEARS)) (kI rfl T.c_ROUND_DAYS T.r_ROUND_DAYS))))
   (cA (j4 (gM gL (aq G_x3 (hr.mono (by decide)) rfl T.m_x3 T.F_x3.kp T.b_x3 .nil ao (bC (pv 1) cm)) (pv 0) (aD _)) (dN (d9 (bh dz (pv 1) bb))) j3)
   (cA (j4 (gM j5 (aq G_x3 (hr.mono (by decide)) rfl T.m_x3 T.F_x3.kp T.b_x3 .nil ao (bC (bh bI (pv 1) bb) cm)) (pv 0) (aD _)) (dN (d9 (bh bI (pv 1) bb))) j3)
   (dN (d9 (pv 1)))))),?_⟩
  walk_at "rd"
  simp only [pC]
  walk_at "rd"
  unfold lC at k
  split
  ·rename_i h;rw [if_pos h] at k;exact k
  ·rename_i h;rw [if_neg h] at k
   split
   ·rename_i h;rw [if_pos h] at k;exact k
   ·rename_i h;rw [if_neg h] at k;exact k
def HF:Sp:=fun vs H Q _=> ∃(d:Int),vs=[.int d]∧∀(p:Addr)(H':Hp)(y m n:Int),jJ d y m n→ar H H'→H p=none→H' p=some (.tup [.int y,.int m,.int n])→Q (.ref p) H'
theorem HG(T:Txt K mg t):aL P w K mg base CX0 4 t.a_x5 t.d_x5 ["day"] HF:=by
 have G_x4:=HE (P:=P) (w:=w) (base:=base) T
 have G_x3:=uj (P:=P) (w:=w) (base:=base) T
 have G_x1:=ui (P:=P) (w:=w) (base:=base) T
 refine T.F_x5.ok lE (fun vs H Q E h=> ?_) (fun cdv A outer s H vs Q E hr h=> ?_)
 ·obtain⟨d,rfl,_⟩:=h;rfl
 ·obtain⟨d,rfl,k⟩:=h
  refine⟨_,(cA (dq (i:=1) lE.nd rfl (by walk_at "o") (aq G_x4 (hr.mono (by decide)) rfl T.m_x4 T.F_x4.kp T.b_x4 .nil ao (bC (pv 0) cm)))
   (cA (dq (i:=2) lE.nd rfl (by walk_at "o") (bh dz (pv 0) (aq G_x3 (hr.mono (by decide)) rfl T.m_x3 T.F_x3.kp T.b_x3 .nil ao (bC (pv 1) cm))))
   (cA (dq (i:=3) lE.nd rfl (by walk_at "o") bb)
   (cA (CT Lx (gM vK (pv 2) (aq G_x1 (hr.mono (by decide)) rfl T.m_x1 T.F_x1.kp T.b_x1 .nil ao (bC (pv 1) (bC (pv 3) cm))) (aD _)) (cA (dq (i:=2) lE.nd rfl (by walk_at "o") (bh dz (pv 2) (aq G_x1 (hr.mono (by decide)) rfl T.m_x1 T.F_x1.kp T.b_x1 .nil ao (bC (pv 1) (bC (pv 3) cm)))))
   (dN (dq (i:=3) lE.nd rfl (by walk_at "o") (bh bI (pv 3) bb)))))
   (dN (d9 (vY (bC (pv 1) (bC (pv 3) (bC (bh bI (pv 2) bb) cm)))))))))),?_⟩
  walk_at "rd"
  simp only [AY]
  walk_at "rd"
  simp only [pC]
  walk_at "rd"
  have yo:=G6 d
  generalize lC d=y at*
  refine⟨fun m σ H'=> H'=H∧∃mo:Int,1≤mo∧mo≤12∧aZ y mo≤d - ck y∧m=(12 - mo).toNat∧σ=[some (.int d),some (.int y),some (.int (d - ck y - aZ y mo)),some (.int mo)],⟨11,rfl,1,by decide,by decide,?_,rfl,?_⟩,?_⟩
  ·rw [tY];omega
  ·rw [tY];simp
  ·rintro m σ H' ⟨rfl,mo,h1,h2,hb,rfl,rfl⟩
   walk_at "rd"
   simp only [AW]
   walk_at "rd"
   refine⟨h1,h2,?_⟩
   have ys:=Aw y
   have ba:=t6 (y:=y) h1 h2
   split
   ·rename_i hge
    have lt12:mo < 12:=by
     by_cases z:mo < 12
     ·exact z
     ·have e:mo=12:=by omega
      subst e
      have:=(tZ y);have:=pb y;omega
    refine⟨_,fun _ _ h=> h,h1,h2,(12 - (mo+1)).toNat,by omega,rfl,mo+1,by omega,by omega,?_,rfl,?_⟩
    ·rw [d4 h1];omega
    ·rw [d4 h1,show d - ck y - (aZ y mo+bf y mo)=d - ck y - aZ y mo - bf y mo by omega]
   ·rename_i hlt
    refine⟨by show 3≤sizeLine;decide,fun p hp=> ?_⟩
    refine k p _ y mo (d - ck y - aZ y mo+1) ⟨h1,h2,by omega,by omega,by unfold gi;omega⟩ (ar.new hp) hp bu
def HH:Sp:=fun vs H Q _=> ∃(y m n:Int),vs=[.int y,.int m,.int n]∧1≤m∧m≤12∧∀H',ar H H'→Q (.int (gi y m n)) H'
theorem HI(T:Txt K mg t):aL P w K mg base CX0 3 t.a_x6 t.d_x6 ["year","month","day"] HH:=by
 have G_x3:=uj (P:=P) (w:=w) (base:=base) T
 have G_x1:=ui (P:=P) (w:=w) (base:=base) T
 refine T.F_x6.ok AF (fun vs H Q E h=> ?_) (fun cdv A outer s H vs Q E hr h=> ?_)
 ·obtain⟨y,m,n,rfl,_⟩:=h;rfl
 ·obtain⟨y,m,n,rfl,h1,h2,k⟩:=h
  refine⟨_,(cA (dq (i:=3) AF.nd rfl (by walk_at "o") (bW (wI rfl) rfl T.n_sum OV (bC (mw rfl AU (qj rfl T.n_range (bC bb (bC (pv 1) cm))) (fun _ _ _ _=> (aS (i:=0) AU.nd rfl (by walk_at "o"))) (fun _ _ _ _=> wG) (fun _ _ _ _=> (aq G_x1 (hr.mono (by decide)) rfl T.m_x1 T.F_x1.kp T.b_x1 .nil ao (bC (pv 1) (bC (pv 0) cm))))) cm)))
   (dN (d9 (bh dz (bh bI (bh bI (aq G_x3 (hr.mono (by decide)) rfl T.m_x3 T.F_x3.kp T.b_x3 .nil ao (bC (pv 0) cm)) (pv 3)) (pv 2)) bb)))),?_⟩
  walk_at "rd"
  refine⟨by omega,by omega,?_⟩
  refine Eu (fun i=> .int (bf y (1+(i:Int)))) (by omega) (fun i H' R hi s1 hR=> ?_) (fun D H' hD s1 e1=> ?_)
  ·walk_at "rd"
   exact⟨_,_,rfl,by omega,by omega,hR H' (ar.refl _)⟩
  ·refine⟨D,rfl,(Lp (m - 1).toNat).map fun(i:Nat)=> bf y (1+(i:Int)),aX.of (by rw [e1,KY];rfl),?_⟩
   simp only [pC]
   walk_at "rd"
   exact k H' s1
def kx(u:Str):Prop:=u="days"∨u="months"∨u="years"
def kz(d k:Int)(u:Str)(r:Int):Prop:=(u="days"∧r=d+k)∨(u="months"∧∃y m n,jJ d y m n∧r=pe y m n k)∨(u="years"∧∃y m n,jJ d y m n∧r=pe y m n (k*12))
theorem AZ:¬(("months":Str)="days"):=by decide+kernel
theorem A0:¬(("years":Str)="days"):=by decide+kernel
theorem A1:¬(("months":Str)="years"):=by decide+kernel
def HJ:Sp:=fun vs H Q _=> ∃(d k:Int)(u:Str),vs=[.int d,.int k,.str u]∧kx u∧∀r H',kz d k u r→ar H H'→Q (.int r) H'
theorem HK(T:Txt K mg t):aL P w K mg base CX0 5 t.a_x7 t.d_x7 ["day","many","unit"] HJ:=by
 have G_x5:=HG (P:=P) (w:=w) (base:=base) T
 have G_x1:=ui (P:=P) (w:=w) (base:=base) T
 have G_x6:=HI (P:=P) (w:=w) (base:=base) T
 refine T.F_x7.ok lF (fun vs H Q E h=> ?_) (fun cdv A outer s H vs Q E hr h=> ?_)
 ·obtain⟨d,k,u,rfl,_⟩:=h;rfl
 ·obtain⟨d,mk,u,rfl,hu,k⟩:=h
  refine⟨_,(cA (j4 (gM mn (pv 2) p5 (aD _)) (dN (d9 (bh bI (pv 0) (pv 1)))) j3)
   (cA (dq (i:=3) lF.nd rfl (by walk_at "o") (vh (gM mn (pv 2) p5 (aD _)) (bh eY (pv 1) bb) (pv 1)))
   (cA (dq (i:=4) lF.nd rfl (by walk_at "o") (aq G_x5 (hr.mono (by decide)) rfl T.m_x5 T.F_x5.kp T.b_x5 .nil ao (bC (pv 0) cm)))
   (cA (dq (i:=5) lF.nd rfl (by walk_at "o") (bh bI (bh dz (bh bI (bh eY (fS aH (pv 4) bb (fun _ _=> rfl)) bb) (fS aH (pv 4) bb (fun _ _=> rfl))) bb) (pv 3)))
   (cA (dq (i:=6) lF.nd rfl (by walk_at "o") (bh iA (pv 5) bb))
   (cA (dq (i:=7) lF.nd rfl (by walk_at "o") (bh bI (bh eJ (pv 5) bb) bb))
   (dN (d9 (aq G_x6 (hr.mono (by decide)) rfl T.m_x6 T.F_x6.kp T.b_x6 .nil ao (bC (pv 6) (bC (pv 7) (bC (bW (vQ rfl) rfl T.n_min OW (bC (fS aH (pv 4) bb (fun _ _=> rfl)) (bC (aq G_x1 (hr.mono (by decide)) rfl T.m_x1 T.F_x1.kp T.b_x1 .nil ao (bC (pv 6) (bC (pv 7) cm))) cm))) cm)))))))))))),?_⟩
  walk_at "rd"
  by_cases hd:u="days"
  ·rw [if_pos hd]
   exact k _ H (.inl ⟨hd,rfl⟩) (ar.refl _)
  ·rw [if_neg hd]
   by_cases hy:u="years"
   ·rw [if_pos hy]
    refine⟨d,rfl,fun p H' y m n D s1 _ e1=> ?_⟩
    refine kO (bw.of e1) rfl ⟨y,rfl,kO (bw.of e1) rfl ⟨m,rfl,kO (bw.of e1) rfl ?_⟩⟩
    refine⟨_,_,rfl,by omega,by omega,n,rfl,_,rfl,_,_,_,rfl,by omega,by omega,fun H2 s2=> ?_⟩
    exact k _ H2 (.inr (.inr ⟨hy,y,m,n,D,by unfold pe;rw [wK]⟩)) (s1.trans s2)
   ·rw [if_neg hy]
    have hm:u="months":=by rcases hu with z | z | z;exact absurd z hd;exact z;exact absurd z hy
    refine⟨d,rfl,fun p H' y m n D s1 _ e1=> ?_⟩
    refine kO (bw.of e1) rfl ⟨y,rfl,kO (bw.of e1) rfl ⟨m,rfl,kO (bw.of e1) rfl ?_⟩⟩
    refine⟨_,_,rfl,by omega,by omega,n,rfl,_,rfl,_,_,_,rfl,by omega,by omega,fun H2 s2=> ?_⟩
    exact k _ H2 (.inr (.inl ⟨hm,y,m,n,D,by unfold pe;rw [wK]⟩)) (s1.trans s2)
def F_x7:List PyData→(PyData→Prop)→Prop:=fun ds Q=> ∃(d i:Int)(u:Str),ds=[.int d,.int i,.str u]∧kx u∧∀r,kz d i u r→Q (.int r)
theorem HL(T:Txt K mg t):aL P w K mg base CX0 5 t.a_x7 t.d_x7 ["day","many","unit"] (bp K F_x7):=
 (HK T).imp fun vs H Q E uu47=> by
  obtain⟨O,ds,Qd,tr,hs,⟨d,i,u,e,hu,q⟩,k⟩:=uu47
  subst e
  cases hs with
  | cons a r=> cases r with
   | cons b r=> cases r with
    | cons c r=> cases r;cases a;cases b;cases c;exact⟨d,i,u,rfl,hu,fun z H' L s1=> k _ _ H' (q z L) s1 (.int _)⟩
end
end K18
open PySem L2
namespace K18
structure Pp where
 d:Int
 nm:Str
 kd:Str
 ms:List Str
def Pp.enc(p:Pp):PyData:= .tuple [.str (Ka "paper"),.int p.d,.str p.nm,.str p.kd,.tuple (p.ms.map .str)]
def Pp.key(p:Pp):Int×Str:=(p.d,p.nm)
def jL:PyData→Int×Str
 | .tuple (_:: .int d:: .str n::_)=> (d,n)
 | _=> (0,Ka "")
def Pp.lt(a b:Pp):Prop:=aW a.key b.key=true
instance (a b:Pp):Decidable (a.lt b):=by unfold Pp.lt;infer_instance
theorem HM(p:Int×Str):aW p p=false:=by unfold aW;simp [List.lt_irrefl]
theorem A2{a b c:Int×Str}(h1:aW a b=true)(h2:aW b c=true):aW a c=true:=by
 unfold aW at h1 h2⊢
 simp only [MN,Lf,decide_eq_true_eq] at h1 h2⊢
 rcases h1 with h1 | ⟨h1,h1'⟩ <;> rcases h2 with h2 | ⟨h2,h2'⟩
 ·left;omega
 ·left;omega
 ·left;omega
 ·right;exact⟨h1.trans h2,Qo h1' h2'⟩
theorem uk{a b:Int×Str}(h:aW a b=true):¬aW b a=true:=fun z=> by
 have:=A2 h z
 rw [HM] at this;cases this
theorem HN{a b:Int×Str}(h:a≠b):aW a b=true∨aW b a=true:=by
 have T:=Ak (n:=2) (kp:=fun i=> if i=0 then a else b) (fun i j hi hj e=> by
  have:i=0∨i=1:=by omega
  have:j=0∨j=1:=by omega
  rcases ‹i=0∨i=1› with rfl | rfl <;> rcases ‹j=0∨j=1› with rfl | rfl
  ·rfl
  ·exact absurd e h
  ·exact absurd e.symm h
  ·rfl)
 have:=T.tot 0 1 (by omega) (by omega) (by omega)
 simp at this
 cases hb:aW b a with
 | true=> exact .inr rfl
 | false=> rw [hb] at this;exact .inl (by simpa using this)
theorem Pp.lt_tr{a b c:Pp}(h1:a.lt b)(h2:b.lt c):a.lt c:=A2 h1 h2
theorem nh{α:Type}{r:α→α→Prop}(as:∀a b,r a b→¬r b a):∀{l1 l2:List α},l1.Perm l2→l1.Pairwise r→l2.Pairwise r→l1=l2
 | [],l2,p,_,_=> by rw [p.nil_eq]
 | a::l1,[],p,_,_=> by have:=p.length_eq;simp at this
 | a::l1,b::l2,p,h1,h2=> by
  have e:a=b:=by
   have m1:a∈b::l2:=p.mem_iff.mp (by simp)
   have m2:b∈a::l1:=p.mem_iff.mpr (by simp)
   rcases Kz.mp m1 with e | m1
   ·exact e
   ·rcases Kz.mp m2 with e | m2
    ·exact e.symm
    ·exact absurd ((Lr.mp h1).1 b m2) (as _ _ ((Lr.mp h2).1 a m1))
  subst e
  rw [nh as ((List.perm_cons a).mp p) (Lr.mp h1).2 (Lr.mp h2).2]
def lL(x:Pp):List Pp→List Pp
 | []=> [x]
 | y::l=> if x.lt y then x::y::l else y::lL x l
def fj(ps:List Pp):List Pp:=ps.foldr lL []
theorem um(x:Pp):∀l,(lL x l).Perm (x::l)
 | []=> .refl _
 | y::l=> by
  unfold lL
  split
  ·exact .refl _
  ·exact((um x l).cons y).trans (.swap x y l)
theorem kA:∀ps:List Pp,(fj ps).Perm ps
 | []=> .refl _
 | x::ps=> (um x (fj ps)).trans ((kA ps).cons x)
theorem A3{x:Pp}:∀{l:List Pp},(∀y∈l,y.nm≠x.nm)→l.Pairwise Pp.lt→(lL x l).Pairwise Pp.lt
 | [],_,_=> List.pairwise_singleton _ _
 | y::l,hn,h=> by
  have hp:=Lr.mp h
  unfold lL
  split
  ·rename_i hl
   refine Lr.mpr ⟨fun z hz=> ?_,h⟩
   rcases Kz.mp hz with e | e
   ·subst e;exact hl
   ·exact Pp.lt_tr hl (hp.1 z e)
  ·rename_i hl
   refine Lr.mpr ⟨fun z hz=> ?_,A3 (fun z hz=> hn z (by simp [hz])) hp.2⟩
   rcases Kz.mp ((um x l).mem_iff.mp hz) with e | e
   ·subst e
    rcases HN (a:=y.key) (b:=z.key) (fun z=> hn y (by simp) (congrArg Prod.snd z)) with w | w
    ·exact w
    ·exact absurd w hl
   ·exact hp.1 z e
theorem pE:∀{ps:List Pp},(ps.map (·.nm)).Nodup→(fj ps).Pairwise Pp.lt
 | [],_=> .nil
 | x::ps,h=> by
  rw [Kj,Mc] at h
  exact A3 (fun y hy e=> h.1 (by rw [←e];exact Ky.mpr ⟨y,(kA ps).mem_iff.mp hy,rfl⟩)) (pE h.2)
theorem A4{ps:List Pp}{x:Pp}:x∈fj ps↔x∈ps:=(kA ps).mem_iff
theorem A5{ps:List Pp}:(fj ps).length=ps.length:=(kA ps).length_eq
theorem Pp.asym(a b:Pp)(h:a.lt b):¬b.lt a:=uk h
theorem HP{ps os:List Pp}(nd:(ps.map (·.nm)).Nodup)(hp:os.Perm ps)(hs:os.Pairwise Pp.lt):os=fj ps:=
 nh Pp.asym (hp.trans (kA ps).symm) hs (pE nd)
theorem uo{ps:List Pp}{f:Pp→Bool}(nd:(ps.map (·.nm)).Nodup):((ps.filter f).map (·.nm)).Nodup:=nd.sublist (LN.map _)
theorem A6{ps:List Pp}{f:Pp→Bool}(nd:(ps.map (·.nm)).Nodup):fj (ps.filter f)=(fj ps).filter f:=
 (HP (uo nd) ((kA ps).filter f) ((pE nd).sublist LN)).symm
theorem HQ{ps:List Pp}{ds:List PyData}(nd:(ps.map (·.nm)).Nodup)(hp:ds.Perm (ps.map Pp.enc))(hs:ds.Pairwise fun a b=> aW (jL a) (jL b)=true):ds=(fj ps).map Pp.enc:=by
 refine nh (fun a b h=> uk h) (hp.trans ((kA ps).symm.map _)) hs ?_
 rw [LD]
 exact pE nd
theorem HR{ps:List Pp}(nd:(ps.map (·.nm)).Nodup){a b:Pp}(ha:a∈ps)(hb:b∈ps)(e:a.nm=b.nm):a=b:=by
 induction ps with
 | nil=> cases ha
 | cons x ps ih=>
  rw [Kj,Mc] at nd
  rcases Kz.mp ha with ea | ha1 <;> rcases Kz.mp hb with eb | hb1
  ·rw [ea,eb]
  ·subst ea;exact absurd (Ky.mpr ⟨b,hb1,e.symm⟩) nd.1
  ·subst eb;exact absurd (Ky.mpr ⟨a,ha1,e⟩) nd.1
  ·exact ih nd.2 ha1 hb1
structure lM (ps:List Pp):Prop where
 ln:ps.length≤41
 nd:(ps.map (·.nm)).Nodup
 nm:∀p∈ps,Kr p.nm=true
 kd:∀p∈ps,Kr p.kd=true
 ms:∀p∈ps,(∀m∈p.ms,Kr m=true)∧p.ms.length≤50
theorem lM.filter{ps:List Pp}(g:lM ps)(f:Pp→Bool):lM (ps.filter f):=
 ⟨KS (K8 _ _) g.ln,uo g.nd,fun p hp=> g.nm p (KA.mp hp).1,fun p hp=> g.kd p (KA.mp hp).1,fun p hp=> g.ms p (KA.mp hp).1⟩
def ur(c p:Pp):Bool:=c.ms.contains p.nm && aW p.key c.key
def jm(ps:List Pp)(c:Pp):List Pp:=(fj ps).filter (ur c)
inductive De where
 | pap (p:Pp)
 | oth (w:Str) (d:Int) (nm:Str) (r:List PyData)
def De.enc:De→PyData
 | .pap p=> p.enc
 | .oth w d nm r=> .tuple (.str w:: .int d:: .str nm::r)
def De.w:De→Str
 | .pap _=> Ka "paper"
 | .oth w _ _ _=> w
def De.d:De→Int
 | .pap p=> p.d
 | .oth _ d _ _=> d
def De.nm:De→Str
 | .pap p=> p.nm
 | .oth _ _ nm _=> nm
def De.pp:De→Option Pp
 | .pap p=> some p
 | _=> none
def aO(xs:List De):List Pp:=xs.filterMap De.pp
structure ip (xs:List De):Prop where
 gp:lM (aO xs)
 np:∀w d nm r,De.oth w d nm r∈xs→w≠Ka "paper"
 ln:xs.length≤41
 w:∀x∈xs,Kr x.w=true
 nm:∀x∈xs,Kr x.nm=true
theorem pF{xs:List De}{p:Pp}:p∈aO xs↔De.pap p∈xs:=by
 unfold aO
 rw [MI]
 constructor
 ·rintro⟨x,hx,e⟩
  cases x with
  | pap q=> cases e;exact hx
  | oth w d nm r=> cases e
 ·intro h;exact⟨_,h,rfl⟩
theorem A7(ps:List Pp):aO (ps.map De.pap)=ps:=by
 unfold aO
 rw [Pq]
 exact List.filterMap_some
theorem HS(ps:List Pp):ps.map Pp.enc=(ps.map De.pap).map De.enc:=by rw [KY];rfl
theorem HU:Kr (Ka "paper")=true:=by decide+kernel
theorem ip.of{ps:List Pp}(g:lM ps):ip (ps.map De.pap):=by
 refine⟨by rw [A7];exact g,fun w d nm r h=> ?_,by rw [Kd];exact g.ln,fun x hx=> ?_,fun x hx=> ?_⟩
 ·obtain⟨p,_,e⟩:=Ky.mp h;cases e
 ·obtain⟨p,_,rfl⟩:=Ky.mp hx;exact HU
 ·obtain⟨p,hp,rfl⟩:=Ky.mp hx;exact g.nm p hp
end K18
open PySem L2
local macro_rules | `(tactic| walk_at "rz")=> `(tactic| ((try simp only [gY,Kj,Ly,Kw,Mb,NB,NC,Kx,M4,LI]);simp only [↓zM,↓zN,↓zO,↓zP,↓zQ,↓zH,↓zc,↓zd,↓ze,↓zf,↓zg,↓zh,↓zj,↓zk,↓zl,↓zm,↓zo,↓zp,↓zq,↓zr,↓zt,↓zu,↓zv,↓zw,↓zx,↓zy,↓zz,↓zA,↓zB,↓zC,↓zD,↓zE,↓zF,↓zG,qP,qQ,qS,qR,oi,qT,qU,qV,qX,cL,qI,dC,dB,dI,rn,oA,rA,rB,mL,rP,rO,rE,rC,dL,om,qJ,mB,kR,gQ,qK,qL,qM,mC,qN,qO,kT,yj,yk,ym,yq,yt,yu,yw,yx,yz,yA,yB,yC,yD,yE,yF,yG,yH,yI,yJ,yK,yL,yM,yN,yO,yP,yQ,yR,yS,yT,yU,yV,yW,yX,yY,yZ,y3,y4,y6,y8,y9,za,zb,rH,rQ,oH,rF,rG,rJ,rK,rL,rM,rN,rR,rS,jy,qZ,q5,rg,rh,sq,sH,yh,mT,sk,mU,sG,sF,sg,sJ,sM,sL,sN,sO,sR,lu,sS,sT,sU,sW,sY,tD,tw,m4,tu,tL,tI,tJ,tK,tO,tP,tQ,tU,tV,t7,ua,uf,ng,uc,xP,xZ,x4,x5,x6,x8,x9,ya,yf,yg,ne_eq,xU,xV,xW,xX,xY,xR,xS,xT,mJ,mK,rj,jx,ox,mF,ou,kj,gY,eR,mm,nT,kK,Kj,Ly,Kw,Mb,Kx,M4,LI,LH,NB,NC,Px,Py,Pz,Nq,Mf,Oe,NV,NW,Nv,exists_eq_left',exists_eq_left,exists_and_left,exists_and_right,Ov,Ow,Sl.v.injEq,Sl.o.injEq,Sl.k.injEq,M3,PV,MD,MO,Od,LB,and_true,true_and,PB,P8,exists_const,decide_eq_true_eq,PD,PF,Pa,Pb,Nu,decide_eq_false_iff_not,and_assoc,or_true,true_or,↓reduceIte,if_true,if_false,L6,PH,not_true_eq_false,not_false_eq_true,Qs,Qi,ite_true,ite_false,eq_self,exists_eq,reduceCtorEq,false_and,and_false,or_false,false_or,exists_false,OJ,OL,my,Qt,QB,LS,QC,Qu,Nz,MF,M5,cT,cU,mO,kl,xi,jz,kX,xj,beq_self_eq_true,gZ,mP,rW,dQ,sizeLine_eq]))
namespace K18
theorem A8:bz (ah g9) ["deeds"] ["deed"] 1 [] {kind:=Ko,names:=[(Kc ".0",PySem.NameKind.local),(Kc "deed",PySem.NameKind.local)],isGenerator:=false,isCoroutine:=false,more:=[]:K0}:=⟨rfl,by decide+kernel,by decide+kernel,by decide+kernel,rfl,by decide+kernel,by decide+kernel,by decide+kernel,rfl⟩
theorem A9:bz (ah hG) ["deeds"] ["deed"] 1 [] {kind:=Ko,names:=[(Kc ".0",PySem.NameKind.local),(Kc "deed",PySem.NameKind.local)],isGenerator:=false,isCoroutine:=false,more:=[]:K0}:=⟨rfl,by decide+kernel,by decide+kernel,by decide+kernel,rfl,by decide+kernel,by decide+kernel,by decide+kernel,rfl⟩
theorem Ba:bz (ah gn) ["deeds","coming","named"] ["deed","coming"] 1 [1] {kind:=Ko,names:=[ (Kc ".0",PySem.NameKind.local),(Kc "deed",PySem.NameKind.local),(Kc "coming",Ks)],isGenerator:=false,isCoroutine:=false,more:=[]:K0}:=⟨rfl,by decide+kernel,by decide+kernel,by decide+kernel,rfl,by decide+kernel,by decide+kernel,by decide+kernel,rfl⟩
theorem Bb:bz (ah gn) ["deeds","coming","named"] ["deed","coming"] 1 [1] {kind:=Ko,names:=[ (Kc ".0",PySem.NameKind.local),(Kc "deed",PySem.NameKind.local),(Kc "place_of",Ld),(Kc "coming",Ks)],isGenerator:=false,isCoroutine:=false,more:=[]:K0}:=⟨rfl,by decide+kernel,by decide+kernel,by decide+kernel,rfl,by decide+kernel,by decide+kernel,by decide+kernel,rfl⟩
theorem Bc:bz (ah hJ) ["deeds","paper"] ["deed"] 1 [] {kind:=Ko,names:=[(Kc ".0",PySem.NameKind.local),(Kc "deed",PySem.NameKind.local)],isGenerator:=false,isCoroutine:=false,more:=[]:K0}:=⟨rfl,by decide+kernel,by decide+kernel,by decide+kernel,rfl,by decide+kernel,by decide+kernel,by decide+kernel,rfl⟩
section
variable {P:Program} {w:World} {K:Kb} {mg:Str→Option Value} {base:Heap} {t:cW}
theorem d6{α:Type}{enc:α→PyData}{g:DG}{tc:DB}{te:DT}{δ0:Dl}{xs:List α}{Q:List PyData→Prop}(p:α→Bool)(f:α→PyData)
  (h:∀x∈xs,∀(R:PyData→Prop) (S:Prop),(if p x=true then R (f x) else S)→g (enc x) δ0 fun δ2=> tc δ2 fun ok=> if ok=true then te δ2 R else S)(q:Q ((xs.filter p).map f)):fw g tc te δ0 (xs.map enc) Q:=by
 refine⟨fun i acc=> acc=((xs.take i).filter p).map f,rfl,?_,?_⟩
 ·rintro i z acc hz rfl
  rw [KQ] at hz
  cases hz':xs[i]? with
  | none=> rw [hz'] at hz;cases hz
  | some x=>
   rw [hz'] at hz;cases hz
   refine h x (KW hz') (fun y=> ((xs.take i).filter p).map f++[y]=((xs.take (i+1)).filter p).map f) (((xs.take i).filter p).map f=((xs.take (i+1)).filter p).map f) ?_
   rw [Lv,hz']
   by_cases e:p x=true
   ·rw [if_pos e];simp [e]
   ·rw [if_neg e];simp [e]
 ·rintro acc rfl
  rw [Kd,Lc (Kk _)];exact q
theorem jM{α:Type}{enc:α→PyData}{g:DG}{tc:DB}{te:DT}{δ0:Dl}{xs:List α}{Q:List PyData→Prop}(p:α→Bool)(f:α→PyData)
  (h:∀x∈xs,∀(R:PyData→Prop) (S:Prop),(p x=true→R (f x))→(p x=false→S)→g (enc x) δ0 fun δ2=> tc δ2 fun ok=> if ok=true then te δ2 R else S)(q:Q ((xs.filter p).map f)):fw g tc te δ0 (xs.map enc) Q:=
 d6 p f (fun x hx R S z=> h x hx R S (fun e=> by rw [if_pos e] at z;exact z) (fun e=> by rw [if_neg (by rw [e];exact Ki)] at z;exact z)) q
theorem jN{α:Type}(l:List α):l.filter (fun _=> true)=l:=NQ.mpr fun _ _=> rfl
theorem bL{a b:Str}(h:a≠b):(a==b)=false:=by simpa using h
theorem uu{ws:List Str}{w:Str}:((ws.map Kf).any fun d=> KC d (.str w))=ws.contains w:=by
 induction ws with
 | nil=> rfl
 | cons a ws ih=>
  rw [Kj,LS,ih,jz,List.contains_cons]
  congr 1
  by_cases h:a=w
  ·simp [h]
  ·rw [bL h,bL (Ne.symm h)]
theorem Bd{ms:List Str}(h:∀m∈ms,Kr m=true):Lo (ms.map .str)=true:=(oJ (n:=1) (mX h)).1
def iq(f:Pp→Bool):De→Bool
 | .pap p=> f p
 | _=> false
theorem nj{f:Pp→Bool}:∀xs:List De,(xs.filter (iq f)).map De.enc=((aO xs).filter f).map Pp.enc
 | []=> rfl
 | .pap p::xs=> by
  have ih:=nj (f:=f) xs
  show _=(PZ f (p::aO xs)).map Pp.enc
  rw [K2,K2]
  by_cases h:f p=true
  ·rw [if_pos h,if_pos (show iq f (.pap p)=true from h),Kj,Kj,ih];rfl
  ·rw [if_neg h,if_neg (show ¬iq f (.pap p)=true from h),ih]
 | .oth w d nm r::xs=> by
  have ih:=nj (f:=f) xs
  show _=(PZ f (aO xs)).map Pp.enc
  rw [K2,if_neg (show ¬iq f (.oth w d nm r)=true from Ki),ih]
def uv:List PyData→(PyData→Prop)→Prop:=fun ds Q=> ∃p:Pp,ds=[p.enc]∧Q (cD p.key)
theorem Be(T:Txt K mg t):aL P w K mg base CX0 1 t.a_x9 t.d_x9 ["deed"] (bp K uv):=by
 refine T.F_x9.okD Hh (fun ds Q h=> ?_) (fun cdv A outer s H O ds Q E hr h=> ?_)
 ·obtain⟨p,rfl,_⟩:=h;rfl
 ·obtain⟨p,rfl,q⟩:=h
  refine'⟨_,?body,?read⟩
  case body=>
   refine' aC ?s1
   case' s1=> refine' aN ?e2
   case' e2=> refine' bD ?t3
   case' t3=> refine' aa ?u4 ?w4
   case u4=> exact(av aH aI (df (dv 0)) (df ag))
   case' w4=> refine' aa ?u6 ai
   case u6=> exact(av aH aI (df (dv 0)) (df ag))
  case read=>
  clear hr T
  simp only [Pp.enc]
  walk_at "rz"
  exact q
theorem HV{d:PyData}{ps:List Pp}(h:d∈ps.map Pp.enc)(R:PyData→Prop)(q:R (cD (jL d))):uv [d] R:=by
 obtain⟨p,hp,rfl⟩:=Ky.mp h
 exact⟨p,rfl,q⟩
theorem HW{ps:List Pp}(nd:(ps.map (·.nm)).Nodup):(ps.map Pp.key).Nodup:=by
 rw [O6,LD] at nd⊢
 exact nd.imp fun h e=> h (congrArg Prod.snd e)
def F_x10:List PyData→(PyData→Prop)→Prop:=fun ds Q=> ∃xs:List De,(ds=[.list (xs.map De.enc)]∨ds=[.tuple (xs.map De.enc)])∧ip xs∧Q (.list ((fj (aO xs)).map Pp.enc))
theorem Bf(T:Txt K mg t):aL P w K mg base CX0 4 t.a_x10 t.d_x10 ["deeds"] (bp K F_x10):=by
 have G_x9:=Be (P:=P) (w:=w) (base:=base) T
 refine T.F_x10.okD Hi (fun ds Q h=> ?_) (fun cdv A outer s H O ds Q E hr h=> ?_)
 ·obtain⟨ps,h | h,_⟩:=h <;> subst h <;> rfl
 ·obtain⟨xs,e,gd,q⟩:=h
  refine'⟨_,?body,?read⟩
  case body=>
   refine' aC ?s1
   case' s1=> refine' aN ?e2
   case e2=> exact(fe (GV jL rfl G_x9 (bB.in1 (bB.in1 (hr.mono (by decide)))) T.b_x9 rfl T.m_x9 rfl T.n_sorted Md (bg (df (fe (G0 rfl A8 (df (dv 0)) aU cB (by decide) (fun _ _ _ _=> (aS (i:=0) A8.nd rfl (by walk_at "o"))) (fun _ _ _ _=> (dA (aM (dF hr) dG (df (av aH aI (df (dv 0)) (df ag))) (df aP) (aD _)))) (fun _ _ _ _=> (dv 0))))) bx)))
  case read=>
  clear hr T G_x9
  have ln:=gd.ln
  have pl:=gd.gp.ln
  have step:∀x∈xs,∀(R:PyData→Prop)(S:Prop),(if iq (fun _=> true) x=true then R x.enc else S)→(if (x.w==Ka "paper")=true then R x.enc else S):=fun x hx R S h=> by
   cases x with
   | pap p=> exact h
   | oth w d nm r=>
    rw [show((De.oth w d nm r).w==Ka "paper")=false from bL (gd.np w d nm r hx),if_neg Ki]
    rw [if_neg (show ¬iq (fun _=> true) (.oth w d nm r)=true from Ki)] at h
    exact h
  have fin:∀ds':List PyData,ds'.Perm ((aO xs).map Pp.enc)→ds'.Pairwise (fun a b=> aW (jL a) (jL b)=true)→Q (.list ds'):=fun ds' h1 h2=> by
   rw [HQ gd.gp.nd h1 h2];exact q
  have tail:(∀d∈(aO xs).map Pp.enc,∀R:PyData→Prop,R (cD (jL d))→uv [d] R)∧((aO xs).map Pp.enc).length < 64∧(((aO xs).map Pp.enc).map jL).Nodup:=by
   refine⟨fun d hd R z=> HV hd R z,by rw [Kd];omega,?_⟩
   rw [KY]
   exact HW gd.gp.nd
  rcases e with e | e <;> subst e <;> walk_at "rz"
  ·refine⟨by rw [Kd];omega,d6 (iq fun _=> true) De.enc (fun x hx R S h=> ?_) ?_⟩
   ·have h:=step x hx R S h
    cases x <;> simp only [De.enc,De.w,Pp.enc] at h⊢<;> walk_at "rz" <;> exact h
   ·rw [nj,jN]
    exact⟨tail.1,tail.2.1,tail.2.2,fin⟩
  ·refine⟨by rw [Kd];omega,d6 (iq fun _=> true) De.enc (fun x hx R S h=> ?_) ?_⟩
   ·have h:=step x hx R S h
    cases x <;> simp only [De.enc,De.w,Pp.enc] at h⊢<;> walk_at "rz" <;> exact h
   ·rw [nj,jN]
    exact⟨tail.1,tail.2.1,tail.2.2,fin⟩
def HX:List PyData→(PyData→Prop)→Prop:=fun ds Q=> ∃(xs:List De)(c:Pp),ds=[.tuple (xs.map De.enc),.str c.nm]∧ip xs∧c∈aO xs∧Q c.enc
theorem uw(T:Txt K mg t):aL P w K mg base CX0 1 t.a_x11 t.d_x11 ["deeds","paper"] (bp K HX):=by
 refine T.F_x11.okD AH (fun ds Q h=> ?_) (fun cdv A outer s H O ds Q E hr h=> ?_)
 ·obtain⟨ps,c,rfl,_⟩:=h;rfl
 ·obtain⟨xs,c,rfl,gd,hc,q⟩:=h
  refine'⟨_,?body,?read⟩
  case body=>
   refine' aA ?s1 ?r1
   case s1=>
    refine' oy Lx rfl (dv 0) ?a2 aU ?b2
    case a2=> exact(aS (i:=2) AH.nd rfl (by walk_at "o"))
    case' b2=> refine' aC ?s3
    case' s3=> refine' bH ?c4 ?a4 bJ
    case c4=> exact(PW.pt (eQ (aM (dF hr) dG (df (av aH aI (df (dv 2)) (df ag))) (df aP) (aD _)) (eZ (aM (cn hr.units) cq (df (av aH aI (df (dv 2)) (df ag))) (df (dv 1)) (aD _)))))
    case' a4=> refine' aC ?s5
    case s5=> exact(aN (dv 2))
   case r1=> refine' aC FH
  case read=>
  clear hr T
  walk_at "rz"
  refine⟨fun i δ=> (∀x∈aO (xs.take i),x.nm≠c.nm)∧∃o2,δ=[some (Sl.v (.tuple (xs.map De.enc))),some (Sl.v (.str c.nm)),o2],⟨by simp [aO],_,rfl⟩,?_,?_⟩
  ·rintro i z δ hz ⟨hn,o2,rfl⟩
   rw [KQ] at hz
   cases hz':xs[i]? with
   | none=> rw [hz'] at hz;cases hz
   | some x=>
    rw [hz'] at hz;cases hz
    have hx:=KW hz'
    cases x with
    | pap p=>
     simp only [De.enc,Pp.enc]
     walk_at "rz"
     refine⟨bR.mpr (gd.nm _ hx),bR.mpr (gd.gp.nm c hc),?_⟩
     split
     ·rename_i h
      have e:=HR gd.gp.nd (pF.mpr hx) hc (eq_of_beq h)
      subst e
      exact q
     ·rename_i h
      refine⟨fun y hy=> ?_,_,rfl⟩
      rw [Lv,hz'] at hy
      unfold aO at hy
      rw [NJ] at hy
      rcases KL.mp hy with z | z
      ·exact hn y z
      ·have:y=p:=by simpa [De.pp] using z
       rw [this];exact fun e=> h (by rw [e];exact beq_self_eq_true _)
    | oth w d nm r=>
     simp only [De.enc]
     walk_at "rz"
     rw [bL (gd.np w d nm r hx),if_neg Ki]
     refine⟨fun y hy=> ?_,_,rfl⟩
     rw [Lv,hz'] at hy
     unfold aO at hy
     rw [NJ] at hy
     rcases KL.mp hy with z | z
     ·exact hn y z
     ·simp [De.pp] at z
  ·rintro δ ⟨hn,o2,rfl⟩
   rw [Kd,Lc (Kk _)] at hn
   exact absurd rfl (hn c hc)
def F_x12:List PyData→(PyData→Prop)→Prop:=fun ds Q=> ∃xs:List De,ds=[.tuple (xs.map De.enc)]∧ip xs∧Q (.tuple (((fj (aO xs)).map (·.nm)).map .str))
theorem HY(T:Txt K mg t):aL P w K mg base CX0 5 t.a_x12 t.d_x12 ["deeds"] (bp K F_x12):=by
 have G_x10:=Bf (P:=P) (w:=w) (base:=base) T
 refine T.F_x12.okD Hj (fun ds Q h=> ?_) (fun cdv A outer s H O ds Q E hr h=> ?_)
 ·obtain⟨ps,rfl,_⟩:=h;rfl
 ·obtain⟨xs,rfl,gd,q⟩:=h
  refine'⟨_,?body,?read⟩
  case body=>
   refine' aC ?s1
   case' s1=> refine' aN ?e2
   case e2=> exact(PE.imp (eM fT rfl T.n_tuple fU (bg (df (fe (gT rfl A9 (df (PE.imp (aq G_x10 (hr.mono (by decide)) rfl T.m_x10 T.F_x10.kp T.b_x10 .nil ao (aa (dv 0) ai)) az)) aU cB (by decide) (fun _ _ _ _=> (aS (i:=0) A9.nd rfl (by walk_at "o"))) (fun _ _ _ _=> gf) (fun _ _ _ _=> (av aH aI (df (dv 0)) (df ag)))))) bx)) (bN gc))
  case read=>
  clear hr T G_x10
  walk_at "rz"
  refine⟨xs,.inr rfl,gd,_,rfl,by rw [Kd,A5];have:=gd.gp.ln;omega,d6 (fun _=> true) (fun p:Pp=> .str p.nm) (fun x hx R S h=> ?_) ?_⟩
  ·simp only [Pp.enc]
   walk_at "rz"
   rw [if_pos rfl] at h;exact h
  ·rw [jN]
   rw [KY] at q
   exact q
def HZ:List PyData→(PyData→Prop)→Prop:=fun ds Q=> ∃(xs:List De)(c:Pp),ds=[.tuple (xs.map De.enc),c.enc]∧ip xs∧c∈aO xs∧Q (.list ((jm (aO xs) c).map Pp.enc))
theorem Ia(T:Txt K mg t):aL P w K mg base CX0 5 t.a_x14 t.d_x14 ["deeds","coming"] (bp K HZ):=by
 have G_x10:=Bf (P:=P) (w:=w) (base:=base) T
 have G_x9:=Be (P:=P) (w:=w) (base:=base) T
 refine T.F_x14.okD AI (fun ds Q h=> ?_) (fun cdv A outer s H O ds Q E hr h=> ?_)
 ·obtain⟨ps,c,rfl,_⟩:=h;rfl
 ·obtain⟨xs,c,rfl,gd,hc,q⟩:=h
  refine'⟨_,?body,?read⟩
  case body=>
   refine' aA ?s1 ?r1
   case s1=> exact(jE (i:=2) AI.nd rfl (by walk_at "o") (lz rfl Ba (df (dv 0)) aU cB (by decide) (fun _ _ _ _=> (aS (i:=0) Ba.nd rfl (by walk_at "o"))) (fun _ _ _ _=> (dA (PW.pt (eQ (aM (dF hr) dG (df (av aH aI (df (dv 0)) (df ag))) (df aP) (aD _)) (eZ (aM (oM hr) lq (df (av aH aI (df (dv 0)) (df ag))) (df (av aH aI (df (dv 1)) (df ag))) rfl)))))) (fun _ _ _ _=> (dv 0))))
   case' r1=> refine' aC ?s3
   case' s3=> refine' aN ?e4
   case e4=> exact(PE.imp (aq G_x10 (hr.mono (by decide)) rfl T.m_x10 T.F_x10.kp T.b_x10 .nil ao (aa (fe (gT rfl Bb (df (dv 2)) aU cB (by decide) (fun _ _ _ _=> (aS (i:=0) Bb.nd rfl (by walk_at "o"))) (fun _ _ _ _=> (dA (aM (GX hr.units0) GY (df (PE.imp (aq G_x9 (hr.mono (by decide)) rfl T.m_x9 T.F_x9.kp T.b_x9 .nil ao (aa (dv 0) ai)) az)) (df (PE.imp (aq G_x9 (hr.mono (by decide)) rfl T.m_x9 T.F_x9.kp T.b_x9 .nil ao (aa (dv 1) ai)) az)) (aD _)))) (fun _ _ _ _=> (dv 0)))) ai)) az)
  case read=>
  clear hr T G_x10 G_x9
  have ln:=gd.ln
  have pl:=gd.gp.ln
  obtain⟨hm1,hm2⟩:=gd.gp.ms c hc
  walk_at "rz"
  refine⟨by rw [Kd];omega,d6 (iq fun p=> c.ms.contains p.nm) De.enc (fun x hx R S h=> ?_) ?_⟩
  ·cases x with
   | pap p=>
    simp only [De.enc,Pp.enc]
    walk_at "rz"
    refine⟨bR.mpr (gd.nm _ hx),Bd hm1,?_⟩
    rw [uu]
    exact h
   | oth w d nm r=>
    simp only [De.enc]
    walk_at "rz"
    rw [bL (gd.np w d nm r hx),if_neg Ki]
    rw [if_neg (show ¬iq _ (.oth w d nm r)=true from Ki)] at h
    exact h
  ·rw [nj]
   have fl:=K8 (fun p:Pp=> c.ms.contains p.nm) (aO xs)
   refine⟨by rw [Kd];omega,d6 (fun p=> aW p.key c.key) Pp.enc (fun x hx R S h=> ?_) ?_⟩
   ·walk_at "rz"
    exact⟨x,rfl,c,rfl,x.key,rfl,c.key,rfl,h⟩
   ·rw [HS]
    refine⟨_,.inl rfl,ip.of ((gd.gp.filter _).filter _),?_⟩
    rw [A7,A6 (uo gd.gp.nd),A6 gd.gp.nd,LR]
    have e:(fj (aO xs)).filter (fun a=> aW a.key c.key && c.ms.contains a.nm)=jm (aO xs) c:=by
     unfold jm ur
     congr 1
     funext a
     rw [Pc]
    rw [e];exact q
theorem Bg{ps:List Pp}{c:Pp}(g:lM ps):(jm ps c).length≤41:=by
 unfold jm
 have h1:=K8 (ur c) (fj ps)
 have h2:=A5 (ps:=ps)
 have h3:=g.ln
 omega
def F_x15:List PyData→(PyData→Prop)→Prop:=fun ds Q=> ∃(xs:List De)(c:Pp),ds=[.tuple (xs.map De.enc),.str c.nm]∧ip xs∧c∈aO xs∧Q (.tuple (((jm (aO xs) c).map (·.nm)).map .str))
theorem Bh(T:Txt K mg t):aL P w K mg base CX0 6 t.a_x15 t.d_x15 ["deeds","paper"] (bp K F_x15):=by
 have G_x14:=Ia (P:=P) (w:=w) (base:=base) T
 have G_x11:=uw (P:=P) (w:=w) (base:=base) T
 refine T.F_x15.okD Hl (fun ds Q h=> ?_) (fun cdv A outer s H O ds Q E hr h=> ?_)
 ·obtain⟨ps,c,rfl,_⟩:=h;rfl
 ·obtain⟨xs,c,rfl,gd,hc,q⟩:=h
  refine'⟨_,?body,?read⟩
  case body=>
   refine' aC ?s1
   case' s1=> refine' aN ?e2
   case e2=> exact(PE.imp (eM fT rfl T.n_tuple fU (bg (df (fe (gT rfl Bc (df (PE.imp (aq G_x14 (hr.mono (by decide)) rfl T.m_x14 T.F_x14.kp T.b_x14 .nil ao (aa (dv 0) (aa (PE.imp (aq G_x11 (hr.mono (by decide)) rfl T.m_x11 T.F_x11.kp T.b_x11 .nil ao (aa (dv 0) (aa (dv 1) ai))) az) ai))) az)) aU cB (by decide) (fun _ _ _ _=> (aS (i:=0) Bc.nd rfl (by walk_at "o"))) (fun _ _ _ _=> gf) (fun _ _ _ _=> (av aH aI (df (dv 0)) (df ag)))))) bx)) (bN gc))
  case read=>
  clear hr T G_x14 G_x11
  walk_at "rz"
  refine⟨xs,c,rfl,gd,hc,xs,c,rfl,gd,hc,⟨_,rfl,by rw [Kd];have:=Bg (c:=c) gd.gp;omega,d6 (fun _=> true) (fun p:Pp=> .str p.nm) (fun x hx R S h=> ?_) ?_⟩⟩
  ·simp only [Pp.enc]
   walk_at "rz"
   rw [if_pos rfl] at h;exact h
  ·rw [jN];rw [KY] at q;exact q
def Ib:List PyData→(PyData→Prop)→Prop:=fun ds Q=> ∃(xs:List De)(c:Pp),ds=[.tuple (xs.map De.enc),.str c.nm]∧ip xs∧c∈aO xs∧Q (.str c.kd)
theorem Bi(T:Txt K mg t):aL P w K mg base CX0 2 t.a_x13 t.d_x13 ["deeds","paper"] (bp K Ib):=by
 have G_x11:=uw (P:=P) (w:=w) (base:=base) T
 refine T.F_x13.okD Hk (fun ds Q h=> ?_) (fun cdv A outer s H O ds Q E hr h=> ?_)
 ·obtain⟨ps,c,rfl,_⟩:=h;rfl
 ·obtain⟨xs,c,rfl,gd,hc,q⟩:=h
  refine'⟨_,?body,?read⟩
  case body=>
   refine' aC ?s1
   case s1=> exact(aN (av aH aI (df (PE.imp (aq G_x11 (hr.mono (by decide)) rfl T.m_x11 T.F_x11.kp T.b_x11 .nil ao (aa (dv 0) (aa (dv 1) ai))) az)) (df ag)))
  case read=>
  clear hr T G_x11
  walk_at "rz"
  exact⟨xs,c,rfl,gd,hc,_,rfl,_,kl,q⟩
end
end K18
open PySem L2
local macro_rules | `(tactic| walk_at "rzi")=> `(tactic| simp only [↓zM,↓zN,↓zO,↓zP,↓zQ,↓zH,↓zc,↓zd,↓ze,↓zf,↓zg,↓zh,↓zj,↓zk,↓zl,↓zm,↓zo,↓zp,↓zq,↓zr,↓zt,↓zu,↓zv,↓zw,↓zx,↓zy,↓zz,↓zA,↓zB,↓zC,↓zD,↓zE,↓zF,↓zG,qP,qQ,qS,qR,oi,qT,qU,qV,qX,cL,qI,dC,dB,dI,rn,oA,rA,rB,mL,rP,rO,rE,rC,dL,om,qJ,mB,kR,gQ,qK,qL,qM,mC,qN,qO,kT,yj,yk,ym,yq,yt,yu,yw,yx,yz,yA,yB,yC,yD,yE,yF,yG,yH,yI,yJ,yK,yL,yM,yN,yO,yP,yQ,yR,yS,yT,yU,yV,yW,yX,yY,yZ,y3,y4,y6,y8,y9,za,zb,rH,rQ,oH,rF,rG,rJ,rK,rL,rM,rN,rR,rS,jy,qZ,q5,rg,rh,sq,sH,yh,mT,sk,mU,sG,sF,sg,sJ,sM,sL,sN,sO,sR,lu,sS,sT,sU,sW,sY,tD,tw,m4,tu,tL,tI,tJ,tK,tO,tP,tQ,tU,tV,t7,ua,uf,ng,uc,xP,xZ,x4,x5,x6,x8,x9,ya,yf,yg,ne_eq,xU,xV,xW,xX,xY,xR,xS,xT,mJ,mK,rj,jx,ox,mF,ou,kj,gY,eR,mm,nT,kK,Kj,Ly,Kw,Mb,Kx,M4,LI,LH,NB,NC,Px,Py,Pz,Nq,Mf,Oe,NV,NW,Nv,exists_eq_left',exists_eq_left,exists_and_left,exists_and_right,Ov,Ow,Sl.v.injEq,Sl.o.injEq,Sl.k.injEq,M3,PV,MD,MO,Od,LB,and_true,true_and,PB,P8,exists_const,decide_eq_true_eq,PD,PF,Pa,Pb,Nu,decide_eq_false_iff_not,and_assoc,or_true,true_or,↓reduceIte,if_true,if_false,L6,PH,not_true_eq_false,not_false_eq_true,Qs,Qi,ite_true,ite_false,eq_self,exists_eq,reduceCtorEq,false_and,and_false,or_false,false_or,exists_false,OJ,OL,my,Qt,QB,LS,QC,Qu,Nz,MF,M5,cT,cU,mO,kl,xi,jz,kX,xj,beq_self_eq_true,gZ,mP,rW,dQ,sizeLine_eq,Sl.i.injEq,exists_and_left])
namespace K18
open Day
theorem Bj:bz (ah g7) ["self","deeds","name","coming"] ["deed","name"] 1 [2] {kind:=Ko,names:=[ (Kc ".0",PySem.NameKind.local),(Kc "deed",PySem.NameKind.local),(Kc "name",Ks)],isGenerator:=false,isCoroutine:=false,more:=[]:K0}:=⟨rfl,by decide+kernel,by decide+kernel,by decide+kernel,rfl,by decide+kernel,by decide+kernel,by decide+kernel,rfl⟩
theorem ux:bz (ah hW) ["paper","happening"] ["day","other","happening"] 2 [1] {kind:=Ko,names:=[ (Kc ".0",PySem.NameKind.local),(Kc "day",PySem.NameKind.local),(Kc "other",PySem.NameKind.local),(Kc "happening",Ks)],isGenerator:=false,isCoroutine:=false,more:=[]:K0}:=⟨rfl,by decide+kernel,by decide+kernel,by decide+kernel,rfl,by decide+kernel,by decide+kernel,by decide+kernel,rfl⟩
section
variable {P:Program} {w:World} {K:Kb} {mg:Str→Option Value} {base:Heap} {t:cW}
inductive dJ where
 | com
 | fst (wd:Str)
 | lst (wd:Str)
def dJ.enc:dJ→PyData
 | .com=> .tuple [.str (Ka "coming")]
 | .fst wd=> .tuple [.str (Ka "first"),.str wd]
 | .lst wd=> .tuple [.str (Ka "last"),.str wd]
def dJ.Ok:dJ→Prop
 | .com=> True
 | .fst wd=> Kr wd=true
 | .lst wd=> Kr wd=true
inductive Pt where
 | two (w kd:Str)
 | five (w kd:Str) (s:dJ) (k:Int) (u:Str)
def Pt.enc:Pt→PyData
 | .two w kd=> .tuple [.str w,.str kd]
 | .five w kd s k u=> .tuple [.str w,.str kd,s.enc,.int k,.str u]
def KG(w:Str):Prop:=w=Ka "keep"∨w=Ka "gone"
def Pt.Ok:Pt→Prop
 | .two w kd=> ¬KG w∧Kr w=true∧Kr kd=true
 | .five w kd s k u=> KG w∧Kr kd=true∧s.Ok∧0≤k∧k < 1000∧kx u
def De.isR:De→Bool
 | .oth w _ _ _=> w==Ka "rule"
 | _=> false
def De.isE:De→Bool
 | .oth w _ _ _=> w==Ka "rule" || w==Ka "end"
 | _=> false
structure dj (xs:List De):Prop where
 gx:ip xs
 hp:∀d nm r,De.oth (Ka "happens") d nm r∈xs→∃wd,r=[.str wd]∧Kr wd=true
 ru:∀d nm r,De.oth (Ka "rule") d nm r∈xs→∃pt:Pt,r=[pt.enc]∧pt.Ok
 nd:xs.Nodup
 d0:∀x∈xs,0≤x.d∧x.d < 100000
 re:∀x∈xs,∀y∈xs,x.isE=true→y.isE=true→x.d=y.d→x.nm=y.nm→x=y
def cO(nm:Str):De→Bool
 | .oth w _ n _=> w==Ka "happens" && n==nm
 | _=> false
def pG:De→Int×Str
 | .oth _ d _ [.str wd]=> (d,wd)
 | x=> (x.d,Ka "")
def cK(xs:List De)(nm:Str):List (Int×Str):=(xs.filter (cO nm)).map pG
theorem Ic{xs:List De}(g:dj xs)(nm:Str):(cK xs nm).Nodup:=by
 unfold cK
 rw [O6,LD]
 refine Qv.imp_of_mem (fun{a b} ha hb h e=> ?_) (g.nd.sublist LN)
 obtain⟨a1,a2⟩:=KA.mp ha
 obtain⟨b1,b2⟩:=KA.mp hb
 cases a with
 | pap p=> cases a2
 | oth w d n r=>
  cases b with
  | pap p=> cases b2
  | oth w' d' n' r'=>
   simp only [cO,Lf,beq_iff_eq] at a2 b2
   obtain⟨rfl,rfl⟩:=a2
   obtain⟨rfl,rfl⟩:=b2
   obtain⟨wd,rfl,_⟩:=g.hp _ _ _ a1
   obtain⟨wd',rfl,_⟩:=g.hp _ _ _ b1
   simp only [pG,Qp] at e
   exact h (by rw [e.1,e.2])
structure Rp where
 c:Pp
 ts:List Str
 hs:List (Int×Str)
def Rp.enc(C:Addr)(r:Rp):PyData:=As C [(Ka "name",.str r.c.nm),(Ka "coming",.int r.c.d),(Ka "kind",.str r.c.kd),(Ka "makers",.tuple (r.ts.map .str)),(Ka "happenings",.list (r.hs.map cD))]
open Classical in
noncomputable def jO(l:List (Int×Str)):List (Int×Str):=if h:∃s:List (Int×Str),s.Perm l∧s.Pairwise (fun a b=> aW a b=true) then h.choose else []
theorem Ie{s l:List (Int×Str)}(h1:s.Perm l)(h2:s.Pairwise fun a b=> aW a b=true):s=jO l:=by
 unfold jO
 have h:∃s:List (Int×Str),s.Perm l∧s.Pairwise (fun a b=> aW a b=true):=⟨s,h1,h2⟩
 rw [dif_pos h]
 exact nh (fun a b z=> uk z) (h1.trans h.choose_spec.1.symm) h2 h.choose_spec.2
noncomputable def aK(xs:List De)(c:Pp):Rp:=⟨c,(jm (aO xs) c).map (·.nm),jO (cK xs c.nm)⟩
theorem iu{f g:Str}{d x:PyData}{r:List (Str×PyData)}(h:g≠f):fg f d ((g,x)::r)=(g,x)::fg f d r:=by rw [fg,if_neg h]
theorem Ig{a b:PyData}:fg (Ka "coming") b (fg (Ka "name") a [])=[(Ka "name",a),(Ka "coming",b)]:=by
 rw [show fg (Ka "name") a []=[(Ka "name",a)] from rfl,iu (by decide+kernel)];rfl
theorem Ih{a b c:PyData}:fg (Ka "kind") c [(Ka "name",a),(Ka "coming",b)]=[(Ka "name",a),(Ka "coming",b),(Ka "kind",c)]:=by
 rw [iu (by decide+kernel),iu (by decide+kernel)];rfl
theorem Ii{a b c d:PyData}:fg (Ka "makers") d [(Ka "name",a),(Ka "coming",b),(Ka "kind",c)]=[(Ka "name",a),(Ka "coming",b),(Ka "kind",c),(Ka "makers",d)]:=by
 rw [iu (by decide+kernel),iu (by decide+kernel),iu (by decide+kernel)];rfl
theorem Ij{a b c d e:PyData}:fg (Ka "happenings") e [(Ka "name",a),(Ka "coming",b),(Ka "kind",c),(Ka "makers",d)]=[(Ka "name",a),(Ka "coming",b),(Ka "kind",c),(Ka "makers",d),(Ka "happenings",e)]:=by
 rw [iu (by decide+kernel),iu (by decide+kernel),iu (by decide+kernel),iu (by decide+kernel)];rfl
def Ik(C:Addr):List PyData→(PyData→Prop)→Prop:=fun ds Q=> ∃(xs:List De)(c:Pp),ds=[.tuple (xs.map De.enc),.str c.nm]∧dj xs∧c∈aO xs∧((∀z,z∈jO (cK xs c.nm)↔z∈cK xs c.nm)→(jO (cK xs c.nm)).Pairwise (fun a b=> aW a b=true)→(jO (cK xs c.nm)).length≤41→Q ((aK xs c).enc C))
theorem uz(T:Txt K mg t):aL P w K mg base CX0 7 t.a_x8 t.d_x8 ["self","deeds","name"] (tR K t.u_Paper (Ik t.u_Paper)):=by
 have G_x11:=uw (P:=P) (w:=w) (base:=base) T
 have G_x15:=Bh (P:=P) (w:=w) (base:=base) T
 refine T.F_x8.okI AG (fun ds Q h=> ?_) (fun cdv A outer s H H1 O ds Q E l hr h=> ?_)
 ·obtain⟨xs,c,rfl,_⟩:=h;rfl
 ·obtain⟨xs,c,rfl,gd,hc,q⟩:=h
  refine'⟨_,?body,?read⟩
  case body=>
   refine' aA ?s1 ?r1
   case s1=> exact(bG (i:=3) AG.nd rfl (by walk_at "o") (PE.imp (aq G_x11 (hr.mono (by decide)) rfl T.m_x11 T.F_x11.kp T.b_x11 .nil ao (aa (dv 1) (aa (dv 2) ai))) az))
   case' r1=> refine' aA ?s3 ?r3
   case s3=> exact(m9 (C:=t.u_Paper) (i:=0) T.cl_Paper T.na_Paper_name (pv 0) (av aH aI (df (dv 3)) (df ag)))
   case' r3=> refine' aA ?s5 ?r5
   case s5=> exact(m9 (C:=t.u_Paper) (i:=0) T.cl_Paper T.na_Paper_coming (pv 0) (av aH aI (df (dv 3)) (df ag)))
   case' r5=> refine' aA ?s7 ?r7
   case s7=> exact(m9 (C:=t.u_Paper) (i:=0) T.cl_Paper T.na_Paper_kind (pv 0) (av aH aI (df (dv 3)) (df ag)))
   case' r7=> refine' aA ?s9 ?r9
   case s9=> exact(m9 (C:=t.u_Paper) (i:=0) T.cl_Paper T.na_Paper_makers (pv 0) (PE.imp (aq G_x15 (hr.mono (by decide)) rfl T.m_x15 T.F_x15.kp T.b_x15 .nil ao (aa (dv 1) (aa (dv 2) ai))) az))
   case' r9=> refine' aC ?s11
   case s11=> exact(m9 (C:=t.u_Paper) (i:=0) T.cl_Paper T.na_Paper_happenings (pv 0) (fe (GU rfl T.n_sorted Md (bg (df (fe (gU rfl Bj (df (dv 1)) aU cB (by decide) (fun _ _ _ _=> (aS (i:=0) Bj.nd rfl (by walk_at "o"))) (fun _ _ _ _=> (dA (PW.pt (eQ (aM (dF hr) dG (df (av aH aI (df (dv 0)) (df ag))) (df aP) (aD _)) (eZ (aM (cn hr.units) cq (df (av aH aI (df (dv 0)) (df ag))) (df (dv 1)) (aD _))))))) (fun _ _ _ _=> (bD (aa (av aH aI (df (dv 0)) (df ag)) (aa (av aH aI (df (dv 0)) (df ag)) ai))))))) bx))))
  case read=>
  clear hr T G_x11 G_x15
  simp only [tT,gY,Kj,Ly,M4,LI,List.tail_cons,Kw,Mb,NB,NC,Kx]
  walk_at "rzi"
  refine⟨xs,c,rfl,gd.gx,hc,?_⟩
  simp only [Pp.enc]
  walk_at "rzi"
  simp only [Ig,Ih,Ii,Ij]
  have ln:=gd.gx.ln
  have lt:∀n:Nat,n < 10→n < 1000:=fun n h=> by omega
  refine⟨lt 1 (by decide),lt 2 (by decide),xs,c,rfl,gd.gx,hc,⟨lt 3 (by decide),by rw [Kd];omega,jM (cO c.nm) (fun x=> cD (pG x)) (fun x hx R S h1 h0=> ?_) ?_⟩⟩
  ·cases x with
   | pap p=>
    simp only [De.enc,Pp.enc]
    walk_at "rz"
    exact h0 rfl
   | oth w d nm r=>
    simp only [De.enc]
    walk_at "rz"
    by_cases e:w=Ka "happens"
    ·subst e
     obtain⟨wd,rfl,_⟩:=gd.hp _ _ _ hx
     rw [if_pos (beq_self_eq_true _)]
     refine⟨bR.mpr (gd.gx.nm _ hx),bR.mpr (gd.gx.gp.nm c hc),?_⟩
     split
     ·rename_i h2
      exact⟨_,kl,h1 (by simp only [cO,beq_self_eq_true,MF];exact h2)⟩
     ·rename_i h2
      exact h0 (by simp only [cO,beq_self_eq_true,MF];simpa using h2)
    ·rw [bL e,if_neg Ki]
     exact h0 (by simp only [cO,bL e,NR])
  ·have hl:(cK xs c.nm).length≤41:=by
    unfold cK
    rw [Kd]
    have:=K8 (cO c.nm) xs
    omega
   refine⟨cK xs c.nm,by unfold cK;rw [KY];rfl,by omega,Ic gd c.nm,fun hs h1 h2=> ⟨lt 4 (by decide),?_⟩⟩
   have e:=Ie h1 h2
   have q:=q (fun z=> by rw [←e];exact h1.mem_iff) (by rw [←e];exact h2) (by rw [←e,h1.length_eq];exact hl)
   rw [e]
   exact q
def Bk(hs:List (Int×Str)):Prop:=hs.length≤41∧∀z∈hs,Kr z.2=true
def nk(hs:List (Int×Str))(wd:Str):List Int:=(hs.filter fun z=> z.2==wd).map (·.1)
def F_x18(C:Addr):List PyData→(PyData→Prop)→Prop:=fun ds Q=> ∃(r:Rp)(wd:Str),ds=[r.enc C,.str wd]∧Bk r.hs∧Kr wd=true∧Q (.list ((nk r.hs wd).map .int))
theorem Il{a b c d e:PyData}:cJ [Ka "name",Ka "coming",Ka "kind",Ka "makers",Ka "happenings"] [a,b,c,d,e] (Ka "happenings")=some e:=by
 simp only [cJ]
 rw [if_neg (by decide+kernel),if_neg (by decide+kernel),if_neg (by decide+kernel),if_neg (by decide+kernel),if_pos trivial]
theorem Bl{a b c d e:PyData}:cJ [Ka "name",Ka "coming",Ka "kind",Ka "makers",Ka "happenings"] [a,b,c,d,e] (Ka "coming")=some b:=by
 simp only [cJ]
 rw [if_neg (by decide+kernel),if_pos trivial]
theorem Im{a b c d e:PyData}:cJ [Ka "name",Ka "coming",Ka "kind",Ka "makers",Ka "happenings"] [a,b,c,d,e] (Ka "kind")=some c:=by
 simp only [cJ]
 rw [if_neg (by decide+kernel),if_neg (by decide+kernel),if_pos trivial]
theorem Io(T:Txt K mg t):aL P w K mg base CX0 1 t.a_x18 t.d_x18 ["paper","happening"] (bp K (F_x18 t.u_Paper)):=by
 refine T.F_x18.okD Hn (fun ds Q h=> ?_) (fun cdv A outer s H O ds Q E hr h=> ?_)
 ·obtain⟨r,wd,rfl,_⟩:=h;rfl
 ·obtain⟨r,wd,rfl,⟨hl,hok⟩,wok,q⟩:=h
  refine'⟨_,?body,?read⟩
  case body=>
   refine' aC ?s1
   case' s1=> refine' aN ?e2
   case' e2=> refine' fe ?f3
   case f3=> exact(gT rfl ux (df (lB (C:=t.u_Paper) T.cl_Paper T.na_Paper_happenings (dv 0))) (fY (cE aU (cE aU fX))) m6 (by decide) (fun _ _ _ _=> (fG (n:=2) rfl (cx (aS (i:=0) ux.nd rfl (by walk_at "o")) (cx (aS (i:=1) ux.nd rfl (by walk_at "o")) fF)))) (fun _ _ _ _=> (dA (aM (cn hr.units) cq (df (dv 1)) (df (dv 2)) (aD _)))) (fun _ _ _ _=> (dv 0)))
  case read=>
  clear hr T
  walk_at "rz"
  refine⟨[Ka "name",Ka "coming",Ka "kind",Ka "makers",Ka "happenings"],_,rfl,_,Il,_,rfl,by rw [Kd];omega,d6 (fun z:Int×Str=> z.2==wd) (fun z=> .int z.1) (fun x hx R S h=> ?_) ?_⟩
  ·simp only [cD]
   walk_at "rz"
   exact⟨bR.mpr (hok x hx),bR.mpr wok,h⟩
  ·unfold nk at q;rw [KY] at q;exact q
end
end K18
open PySem L2
namespace K18
theorem Bm:bz (ah hU) ["deeds","words","day","found","deed","known"] ["name","found"] 1 [3] {kind:=Ko,names:=[ (Kc ".0",PySem.NameKind.local),(Kc "name",PySem.NameKind.local),(Kc "found",Ks)],isGenerator:=false,isCoroutine:=false,more:=[]:K0}:=⟨rfl,by decide+kernel,by decide+kernel,by decide+kernel,rfl,by decide+kernel,by decide+kernel,by decide+kernel,rfl⟩
section
variable {P:Program} {w:World} {K:Kb} {mg:Str→Option Value} {base:Heap} {t:cW}
def F_x16:List PyData→(PyData→Prop)→Prop:=fun ds Q=> ∃(xs:List Rw)(ws:List Str)(n:Int),ds=[.tuple (xs.map Rw.enc),.tuple (ws.map .str),.int n]∧(∀x∈xs,Kr x.w=true)∧Lo (ws.map .str)=true∧xs.length < 64∧∀res,oR ws n xs res→Q (.list (res.map Rw.enc))
theorem Ip{ws:List Str}{w:Str}:((ws.map Kf).any fun d=> KC d (.str w))=decide (w∈ws):=by
 induction ws with
 | nil=> simp
 | cons a ws ih=>
  rw [Kj,LS,ih,jz]
  by_cases h:a=w
  ·simp [h]
  ·have h':(a==w)=false:=by simpa using h
   rw [h']
   simp [Ne.symm h]
theorem Iq(T:Txt K mg t):aL P w K mg base CX0 1 t.a_x16 t.d_x16 ["deeds","words","day"] (bp K F_x16):=by
 refine T.F_x16.okD ph (fun ds Q h=> ?_) (fun cdv A outer s H O ds Q E hr h=> ?_)
 ·obtain⟨xs,ws,n,rfl,_⟩:=h;rfl
 ·obtain⟨xs,ws,n,rfl,hw,hws,h64,q⟩:=h
  refine'⟨_,?body,?read⟩
  case body=>
   refine' aA ?s1 ?r1
   case s1=> exact(oP (i:=3) ph.nd rfl (by walk_at "o") zI)
   case' r1=> refine' aA ?s3 ?r3
   case s3=>
    refine' oy Lx rfl (dv 0) ?a4 aU ?b4
    case a4=> exact(aS (i:=4) ph.nd rfl (by walk_at "o"))
    case' b4=> refine' aC ?s5
    case' s5=> refine' bH ?c6 ?a6 bJ
    case c6=> exact(PW.pt (eQ (aM (oM hr) lq (df (av aH aI (df (dv 4)) (df ag))) (df (dv 1)) rfl) (eZ (aM j5 eo (df (av aH aI (df (dv 4)) (df ag))) (df (dv 2)) (aD _)))))
    case' a6=> refine' aA ?s7 ?r7
    case s7=> exact(bG (i:=5) ph.nd rfl (by walk_at "o") (zK (i:=3) hr.units (pv 3) (av aH aI (df (dv 4)) (df ag)) ⟨rfl,rfl,rfl,rfl⟩))
    case' r7=> refine' aC ?s9
    case' s9=> refine' bH ?c10 ?a10 bJ
    case c10=> exact(PW.pt (iG (aM qt sV (df (dv 5)) (df ke) (aD _)) (jw (aM qr eo (df (av aH aI (df (dv 5)) (df ag))) (df (av aH aI (df (dv 4)) (df ag))) (aD _)))))
    case' a10=> refine' aC ?s11
    case s11=> exact(zJ (i:=3) hr.units (pv 3) (av aH aI (df (dv 4)) (df ag)) (dv 4))
   case' r3=> refine' aC ?s13
   case' s13=> refine' aN ?e14
   case' e14=> refine' fe ?f15
   case f15=> exact(gT rfl Bm (df (fe (FO (i:=3) rfl rfl T.n_sorted Md (pv 3)))) aU cB (by decide) (fun _ _ _ _=> (aS (i:=0) Bm.nd rfl (by walk_at "o"))) (fun _ _ _ _=> gf) (fun _ _ _ _=> (sQ (i:=1) hr.units (pv 1) (dv 0) (fun _ _=> rfl))))
  case read=>
  clear hr T
  walk_at "rz"
  refine⟨fun i δ=> ∃L o4 o5,dU ws n (xs.take i) L∧δ=[some (Sl.v (.tuple (xs.map Rw.enc))),some (Sl.v (.tuple (ws.map .str))),some (Sl.v (.int n)),some (Sl.k (fI L)),o4,o5],⟨[],_,_,dU.nil _ _,rfl⟩,?_,?_⟩
  ·rintro i x δ hx ⟨L,o4,o5,hL,rfl⟩
   rw [KQ] at hx
   cases hx':xs[i]? with
   | none=> rw [hx'] at hx;cases hx
   | some y=>
    rw [hx'] at hx;cases hx
    have hy:y∈xs:=KW hx'
    have tk:xs.take (i+1)=xs.take i++[y]:=by rw [Lv,hx'];rfl
    simp only [Rw.enc]
    walk_at "rz"
    have hle:L.length < 64:=by have:=hL.le;rw [Lk] at this;omega
    have hk:(fI L).length < 16777216:=by unfold fI;rw [Kd];omega
    have en:KH (Kf y.w::Kh y.n::Kf y.nm::y.r)=y.enc:=rfl
    refine⟨bR.mpr (hw y hy),hws,?_⟩
    rw [Ip]
    by_cases hin:y.w∈ws
    ·rw [if_pos (decide_eq_true hin)]
     by_cases hn:y.n≤n
     ·rw [if_pos hn,sZ,en]
      cases hl:dH L y.nm with
      | none=>
       rw [if_pos (show eV ((Option.map Rw.enc none).getD M8)=true from rfl)]
       exact⟨hk,_,by rw [tk];exact hL.put ⟨hin,hn⟩ (fun z e=> by rw [hl] at e;cases e),zS L y.nm y,_,rfl⟩
      | some z=>
       rw [if_neg (by simp [eV,Rw.enc])]
       refine⟨_,rfl,_,cU,_,rfl,?_⟩
       split
       ·rename_i hlt
        exact⟨hk,_,by rw [tk];exact hL.put ⟨hin,hn⟩ (fun z' e=> by rw [hl] at e;cases e;exact hlt),zS L y.nm y,_,rfl⟩
       ·rename_i hlt
        exact⟨L,by rw [tk];exact hL.keep hl hlt,rfl,_,rfl⟩
     ·rw [if_neg hn];exact⟨L,by rw [tk];exact hL.skip (fun z=> hn z.2),rfl,_,rfl⟩
    ·rw [if_neg (by simpa using hin)];exact⟨L,by rw [tk];exact hL.skip (fun z=> hin z.1),rfl,_,rfl⟩
  ·rintro δ ⟨L,o4,o5,hL,rfl⟩
   walk_at "rz"
   rw [Kd,Lc (Kk _)] at hL
   have hle:L.length < 64:=by have:=hL.le;omega
   refine⟨L.map (·.1),by unfold fI;rw [KY,KY];rfl,by rw [Kd];exact hle,by rw [Kd,(fx _).length_eq,Kd];omega,?_⟩
   refine xQ (fun x=> match x with | .str nm=> ((dH L nm).map Rw.enc).getD .none | _=> .none) (fun x hx R hR=> ?_) ?_
   ·obtain⟨nm,hnm,rfl⟩:=Ky.mp hx
    obtain⟨z,hz⟩:=tf ((fx _).mem_iff.mp hnm)
    walk_at "rz"
    refine⟨z.enc,by rw [sZ,hz];rfl,?_⟩
    have hR:R (((dH L nm).map Rw.enc).getD .none):=hR
    rw [hz] at hR;exact hR
   ·have e:∀l:List Str,(∀a∈l,a∈L.map (·.1))→(l.map Kf).map (fun x=> match x with | .str nm=> ((dH L nm).map Rw.enc).getD .none | _=> .none)=(l.filterMap (dH L)).map Rw.enc:=by
     intro l
     induction l with
     | nil=> intro _;rfl
     | cons a l ih=>
      intro hl
      obtain⟨z,hz⟩:=tf (hl a (by simp))
      rw [Kj,Kj,Mg,hz,ih fun b hb=> hl b (by simp [hb])]
      simp [hz]
    rw [e _ fun a ha=> (fx _).mem_iff.mp ha]
    exact q _ hL.res
end
end K18
open PySem L2
namespace K18
theorem Bn:bz (ah hV) ["deeds","day"] ["deed"] 1 [] {kind:=Ko,names:=[(Kc ".0",PySem.NameKind.local),(Kc "deed",PySem.NameKind.local)],isGenerator:=false,isCoroutine:=false,more:=[]:K0}:=⟨rfl,by decide+kernel,by decide+kernel,by decide+kernel,rfl,by decide+kernel,by decide+kernel,by decide+kernel,rfl⟩
section
variable {P:Program} {w:World} {K:Kb} {mg:Str→Option Value} {base:Heap} {t:cW}
def fO:List Str:=["rule","end"]
def jn(res:List Rw):List PyData:=(res.filter fun x=> x.w==Ka "rule").map fun x=> .tuple [.str x.nm,x.r.headD .none]
structure Bo (xs:List Rw):Prop where
 st:∀x∈xs,Kr x.w=true
 ru:∀x∈xs,x.w=Ka "rule"→∃p,x.r=[p]
 le:xs.length < 64
def Ir:List PyData→(PyData→Prop)→Prop:=fun ds Q=> ∃(xs:List Rw)(n:Int),ds=[.tuple (xs.map Rw.enc),.int n]∧Bo xs∧∀res,oR fO n xs res→Q (.tuple (jn res))
theorem Iu(T:Txt K mg t):aL P w K mg base CX0 2 t.a_x17 t.d_x17 ["deeds","day"] (bp K Ir):=by
 have G_x16:=Iq (P:=P) (w:=w) (base:=base) T
 refine T.F_x17.okD Hm (fun ds Q h=> ?_) (fun cdv A outer s H O ds Q E hr h=> ?_)
 ·obtain⟨xs,n,rfl,_⟩:=h;rfl
 ·obtain⟨xs,n,rfl,ok,q⟩:=h
  refine'⟨_,?body,?read⟩
  case body=>
   refine' aC ?s1
   case' s1=> generalize hG2:Qj _ _ _ _=eg2
   refine' aN ?e2
   case' e2=> subst hG2
   exact(PE.imp (eM fT rfl T.n_tuple fU (bg (df (fe (gT rfl Bn (df (PE.imp (aq G_x16 (hr.mono (by decide)) rfl T.m_x16 T.F_x16.kp T.b_x16 .nil ao (aa (dv 0) (aa (bD (aa aP (aa aP ai))) (aa (dv 1) ai)))) az)) aU cB (by decide) (fun _ _ _ _=> (aS (i:=0) Bn.nd rfl (by walk_at "o"))) (fun _ _ _ _=> (dA (aM (dF hr) dG (df (av aH aI (df (dv 0)) (df ag))) (df aP) (aD _)))) (fun _ _ _ _=> (bD (aa (av aH aI (df (dv 0)) (df ag)) (aa (av aH aI (df (dv 0)) (df ag)) ai))))))) bx)) (bN gc))
  case read=>
  clear hr T G_x16
  walk_at "rz"
  refine⟨xs,fO,n,rfl,ok.st,by decide+kernel,ok.le,fun res hres=> ⟨_,rfl,?_,?_⟩⟩
  ·rw [Kd];have:=hres.le;have:=ok.le;omega
  refine FD (fun x=> match x with | .tuple (.str w:: .int n:: .str nm::r)=> if (w==Ka "rule")=true then some (.tuple [.str nm,r.headD .none]) else none | _=> none) (fun x hx R S h=> ?_) ?_
  ·obtain⟨y,hy,rfl⟩:=Ky.mp hx
   simp only [Rw.enc] at h⊢
   walk_at "rz"
   by_cases hr:(y.w==Ka "rule")=true
   ·rw [if_pos hr] at h⊢
    obtain⟨p,hp⟩:=ok.ru y (hres.it y hy).1 (eq_of_beq hr)
    rw [hp] at h⊢
    exact⟨p,kl,h⟩
   ·rw [if_neg hr] at h⊢
    exact h
  ·have e:∀l:List Rw,(l.map Rw.enc).filterMap (fun x=> match x with | .tuple (.str w:: .int n:: .str nm::r)=> if (w==Ka "rule")=true then some (.tuple [.str nm,r.headD .none]) else none | _=> none)=jn l:=by
    intro l
    induction l with
    | nil=> rfl
    | cons a l ih=>
     rw [Kj,Mg,ih]
     unfold jn
     simp only [Rw.enc,K2]
     by_cases hr:(a.w==Ka "rule")=true
     ·rw [if_pos hr,if_pos hr];rfl
     ·rw [if_neg hr,if_neg hr]
   rw [e]
   exact q res hres
theorem Iw{s s':dJ}(h:s.enc=s'.enc):s=s':=by
 have n1:Ka "first"≠Ka "last":=by decide+kernel
 cases s <;> cases s' <;> simp only [dJ.enc,MO,LB,MD,and_true,reduceCtorEq,and_false] at h
 ·rfl
 ·rw [h.2]
 ·exact absurd h.1 n1
 ·exact absurd h.1.symm n1
 ·rw [h.2]
theorem pH{a b:Pt}(h:a.enc=b.enc):a=b:=by
 cases a <;> cases b <;> simp only [Pt.enc,MO,LB,MD,M3,and_true,reduceCtorEq,and_false] at h
 ·rw [h.1,h.2]
 ·obtain⟨h1,h2,h3,h4,h5⟩:=h
  rw [h1,h2,Iw h3,h4,h5]
theorem uA{α β:Type}{f:α→β}:∀{l:List α},(l.map f).Nodup→∀{a b:α},a∈l→b∈l→f a=f b→a=b
 | x::l,nd,a,b,ha,hb,e=> by
  rw [Kj,Mc] at nd
  rcases Kz.mp ha with ea | ha1 <;> rcases Kz.mp hb with eb | hb1
  ·rw [ea,eb]
  ·subst ea;exact absurd (Ky.mpr ⟨b,hb1,e.symm⟩) nd.1
  ·subst eb;exact absurd (Ky.mpr ⟨a,ha1,e⟩) nd.1
  ·exact uA nd.2 ha1 hb1 e
def De.rw:De→Rw
 | .pap p=> ⟨Ka "paper",p.d,p.nm,[.str p.kd,.tuple (p.ms.map .str)]⟩
 | .oth w d nm r=> ⟨w,d,nm,r⟩
theorem De.rw_enc(x:De):x.rw.enc=x.enc:=by cases x <;> rfl
theorem Iy(xs:List De):(xs.map De.rw).map Rw.enc=xs.map De.enc:=by
 rw [KY]
 congr 1
 funext x
 exact x.rw_enc
def jP(xs:List De)(n:Int)(z:Str×Pt):Prop:=∃d,d≤n∧De.oth (Ka "rule") d z.1 [z.2.enc]∈xs∧∀x∈xs,x.isE=true→x.nm=z.1→x.d≤n→x.d≤d
def fA(a b:Str×Pt):Prop:=cP a.1 b.1=true∧a.1≠b.1
def d7(xs:List De)(n:Int)(L:List (Str×Pt)):Prop:=L.Pairwise fA∧∀z,z∈L↔jP xs n z
theorem Iz(a b:Str×Pt)(h:fA a b):¬fA b a:=fun z=> h.2 (xI h.1 z.1)
theorem Bp{L:List (Str×Pt)}(h:L.Pairwise fA):L.Nodup:=h.imp fun{a b} z e=> z.2 (by rw [e])
theorem Bq{L M:List (Str×Pt)}(h1:L.Pairwise fA)(h2:M.Pairwise fA)(h:∀z,z∈L↔z∈M):L=M:=
 nh Iz ((List.perm_ext_iff_of_nodup (Bp h1) (Bp h2)).mpr h) h1 h2
open Classical in
noncomputable def aG(xs:List De)(n:Int):List (Str×Pt):=if h:∃L,d7 xs n L then h.choose else []
theorem nu{xs:List De}{n:Int}{L:List (Str×Pt)}(h:d7 xs n L):L=aG xs n:=by
 unfold aG
 have e:∃L,d7 xs n L:=⟨L,h⟩
 rw [dif_pos e]
 exact Bq h.1 e.choose_spec.1 fun z=> (h.2 z).trans (e.choose_spec.2 z).symm
def dW(z:Str×Pt):PyData:= .tuple [.str z.1,z.2.enc]
theorem IA{x:De}(np:x.rw.w∈fO)(hp:∀p,x≠ .pap p):x.isE=true:=by
 cases x with
 | pap p=> exact absurd rfl (hp p)
 | oth w d nm r=>
  have:w=Ka "rule"∨w=Ka "end":=by
   have h:w∈fO:=np
   unfold fO at h
   rcases Kz.mp h with e | h
   ·exact .inl e
   ·rcases Kz.mp h with e | h
    ·exact .inr e
    ·cases h
  rcases this with e | e
  ·simp [De.isE,e]
  ·simp [De.isE,e]
theorem Br{x:De}(h:x.isE=true):x.rw.w∈fO∧x.rw.nm=x.nm∧x.rw.n=x.d:=by
 cases x with
 | pap p=> cases h
 | oth w d nm r=>
  refine⟨?_,rfl,rfl⟩
  simp only [De.isE,MN,beq_iff_eq] at h
  show w∈fO
  unfold fO
  rcases h with e | e
  ·rw [e];exact K3
  ·rw [e];exact K1 _ K3
theorem IB:Ka "paper" ∉ fO:=by decide+kernel
theorem Bs{xs:List De}{n:Int}{res:List Rw}(g:dj xs)(h:oR fO n (xs.map De.rw) res):∃L,d7 xs n L∧jn res=L.map dW:=by
 have from1:∀x∈res,x.w=Ka "rule"→∃pt:Pt,pt.Ok∧x.r=[pt.enc]∧De.oth (Ka "rule") x.n x.nm [pt.enc]∈xs:=fun x hx hw=> by
  obtain⟨h1,_,_⟩:=h.it x hx
  obtain⟨y,hy,rfl⟩:=Ky.mp h1
  cases y with
  | pap p=> exact absurd hw (by show Ka "paper"≠_;decide+kernel)
  | oth w d nm r=>
   have hw:w=Ka "rule":=hw
   subst hw
   obtain⟨pt,e,ok⟩:=g.ru _ _ _ hy
   subst e
   exact⟨pt,ok,rfl,hy⟩
 have pick:∀l:List Rw,(∀x∈l,x∈res)→∃L:List (Str×Pt),jn l=L.map dW∧L.map (·.1)=(l.filter fun x=> x.w==Ka "rule").map (·.nm)∧∀z∈L,∃x∈l,x.w=Ka "rule"∧x.nm=z.1∧x.r=[z.2.enc]:=by
  intro l
  induction l with
  | nil=> intro _;exact⟨[],rfl,rfl,by simp⟩
  | cons a l ih=>
   intro hl
   obtain⟨L,e1,e2,e3⟩:=ih fun x hx=> hl x (by simp [hx])
   by_cases hr:(a.w==Ka "rule")=true
   ·obtain⟨pt,_,er,_⟩:=from1 a (hl a (by simp)) (eq_of_beq hr)
    refine⟨(a.nm,pt)::L,?_,?_,?_⟩
    ·unfold jn at e1⊢
     rw [K2,if_pos hr,Kj,Kj,e1,er];rfl
    ·rw [K2,if_pos hr,Kj,Kj,e2]
    ·intro z hz
     rcases Kz.mp hz with rfl | hz
     ·exact⟨a,by simp,eq_of_beq hr,rfl,er⟩
     ·obtain⟨x,hx,h'⟩:=e3 z hz;exact⟨x,by simp [hx],h'⟩
   ·refine⟨L,?_,?_,?_⟩
    ·unfold jn at e1⊢
     rw [K2,if_neg hr,e1]
    ·rw [K2,if_neg hr,e2]
    ·intro z hz
     obtain⟨x,hx,h'⟩:=e3 z hz;exact⟨x,by simp [hx],h'⟩
 obtain⟨L,e1,e2,e3⟩:=pick res fun _ h=> h
 have key:∀x∈res,∀pt:Pt,x.r=[pt.enc]→x.w=Ka "rule"→jP xs n (x.nm,pt):=fun x hx pt er hw=> by
  obtain⟨pt',_,er',hm⟩:=from1 x hx hw
  obtain⟨h1,⟨_,h2⟩,h3⟩:=h.it x hx
  rw [er] at er'
  rw [←(ND er').1] at hm
  refine⟨x.n,h2,hm,fun y hy ye yn yd=> ?_⟩
  obtain⟨a,b,c⟩:=Br ye
  have:=h3 y.rw (Ky.mpr ⟨y,hy,rfl⟩) ⟨a,by rw [c];exact yd⟩ (by rw [b];exact yn)
  rw [c] at this;exact this
 refine⟨L,⟨?_,fun z=> ⟨fun hz=> ?_,fun hz=> ?_⟩⟩,e1⟩
 ·have up:(L.map (·.1)).Pairwise fun a b=> cP a b=true:=by
   rw [e2];exact h.up.sublist (LN.map _)
  have nd:(L.map (·.1)).Nodup:=by
   rw [e2];exact h.nd.sublist (LN.map _)
  rw [LD] at up
  rw [O6,LD] at nd
  exact up.and nd
 ·obtain⟨x,hx,hw,hn,hr⟩:=e3 z hz
  have:=key x hx z.2 hr hw
  rw [hn] at this;exact this
 ·obtain⟨d,hd,hm,hal⟩:=hz
  have hmr:(De.oth (Ka "rule") d z.1 [z.2.enc]).rw∈xs.map De.rw:=Ky.mpr ⟨_,hm,rfl⟩
  have hok:fy fO n (De.oth (Ka "rule") d z.1 [z.2.enc]).rw:=⟨K3,hd⟩
  obtain⟨x,hx,xn⟩:=h.al _ hmr hok
  have xn:x.nm=z.1:=xn
  obtain⟨h1,⟨h2a,h2b⟩,h3⟩:=h.it x hx
  obtain⟨y,hy,ey⟩:=Ky.mp h1
  have hyE:y.isE=true:=IA (by rw [ey];exact h2a) fun p hp=> by
   rw [hp] at ey;rw [←ey] at h2a;exact IB h2a
  obtain⟨_,yb,yc⟩:=Br hyE
  have dd:d≤x.n:=h3 _ hmr hok xn.symm
  have dd2:x.n≤d:=by
   have:=hal y hy hyE (by rw [←yb,ey];exact xn) (by rw [←yc,ey];exact h2b)
   rw [←yc,ey] at this;exact this
  have ee:y=De.oth (Ka "rule") d z.1 [z.2.enc]:=g.re y hy _ hm hyE (by simp [De.isE]) (by rw [←yc,ey];exact Int.le_antisymm dd2 dd) (by rw [←yb,ey];exact xn)
  subst ee
  have hw:x.w=Ka "rule":=by rw [←ey];rfl
  have hr:x.r=[z.2.enc]:=by rw [←ey];rfl
  have:z.1∈L.map (·.1):=by
   rw [e2]
   exact Ky.mpr ⟨x,KA.mpr ⟨hx,by rw [hw];exact beq_self_eq_true _⟩,xn⟩
  obtain⟨v,hv,vn⟩:=Ky.mp this
  obtain⟨x',hx',hw',hn',hr'⟩:=e3 v hv
  have exx:x'=x:=uA h.nd hx' hx (hn'.trans (vn.trans xn.symm))
  rw [exx,hr] at hr'
  have:v=z:=by
   obtain⟨v1,v2⟩:=v
   obtain⟨z1,z2⟩:=z
   have a1:v1=z1:=vn
   have a2:z2.enc=v2.enc:=(ND hr').1
   rw [a1,pH a2.symm]
  rw [←this];exact hv
def IC:List PyData→(PyData→Prop)→Prop:=fun ds Q=> ∃(xs:List De)(n:Int),ds=[.tuple (xs.map De.enc),.int n]∧dj xs∧(d7 xs n (aG xs n)→(aG xs n).length≤41→Q (.tuple ((aG xs n).map dW)))
theorem ID{xs:List De}(g:dj xs)(wok:∀w d nm r,De.oth w d nm r∈xs→Kr w=true):Bo (xs.map De.rw):=by
 refine⟨fun x hx=> ?_,fun x hx hw=> ?_,?_⟩
 ·obtain⟨y,hy,rfl⟩:=Ky.mp hx
  cases y with
  | pap p=> show Kr (Ka "paper")=true;decide+kernel
  | oth w d nm r=> exact wok _ _ _ _ hy
 ·obtain⟨y,hy,rfl⟩:=Ky.mp hx
  cases y with
  | pap p=> exact absurd hw (by show Ka "paper"≠_;decide+kernel)
  | oth w d nm r=>
   have hw:w=Ka "rule":=hw
   subst hw
   obtain⟨pt,e,_⟩:=g.ru _ _ _ hy
   exact⟨_,e⟩
 ·rw [Kd];have:=g.gx.ln;omega
theorem pI(T:Txt K mg t):aL P w K mg base CX0 2 t.a_x17 t.d_x17 ["deeds","day"] (bp K IC):=
 (Iu T).imp fun vs H Q E ⟨O,ds,Qd,tr,hs,⟨xs,n,e,g,q⟩,k⟩=> ⟨O,ds,Qd,tr,hs,⟨xs.map De.rw,n,by rw [Iy];exact e,ID g (fun w d nm r h=> g.gx.w _ h),fun res hres=> by
  obtain⟨L,h1,h2⟩:=Bs g hres
  have e:=nu h1
  rw [h2,e]
  refine q (by rw [←e];exact h1) ?_
  have hl:(jn res).length≤res.length:=by unfold jn;rw [Kd];exact K8 _ _
  have:=hres.le
  rw [Kd] at this
  rw [h2,Kd,e] at hl
  have:=g.gx.ln
  omega⟩,k⟩
end
end K18
open PySem L2
namespace K18
open Day
theorem Bt:bz (ah hX) ["paper","since","day","days"] ["other","day"] 1 [2] {kind:=Ko,names:=[ (Kc ".0",PySem.NameKind.local),(Kc "other",PySem.NameKind.local),(Kc "day",Ks)],isGenerator:=false,isCoroutine:=false,more:=[]:K0}:=⟨rfl,by decide+kernel,by decide+kernel,by decide+kernel,rfl,by decide+kernel,by decide+kernel,by decide+kernel,rfl⟩
section
variable {P:Program} {w:World} {K:Kb} {mg:Str→Option Value} {base:Heap} {t:cW}
theorem IE{d k:Int}{u:Str}{r r':Int}(h:kz d k u r)(h':kz d k u r'):r=r':=by
 rcases h with⟨e,h⟩ | ⟨e,y,m,n,D,h⟩ | ⟨e,y,m,n,D,h⟩ <;> rcases h' with⟨e',h'⟩ | ⟨e',y',m',n',D',h'⟩ | ⟨e',y',m',n',D',h'⟩
 ·rw [h,h']
 ·exact absurd (e'.symm.trans e) AZ
 ·exact absurd (e'.symm.trans e) A0
 ·exact absurd (e.symm.trans e') AZ
 ·obtain⟨rfl,rfl,rfl⟩:=D.uniq D';rw [h,h']
 ·exact absurd (e.symm.trans e') A1
 ·exact absurd (e.symm.trans e') A0
 ·exact absurd (e'.symm.trans e) A1
 ·obtain⟨rfl,rfl,rfl⟩:=D.uniq D';rw [h,h']
open Classical in
noncomputable def pJ(d k:Int)(u:Str):Int:=if h:∃r,kz d k u r then h.choose else 0
theorem IF{d k:Int}{u:Str}{r:Int}(h:kz d k u r):r=pJ d k u:=by
 unfold pJ
 rw [dif_pos ⟨r,h⟩]
 exact IE h (Exists.choose_spec (⟨r,h⟩:∃r,kz d k u r))
def cw:Option Int→PyData
 | none=> .none
 | some i=> .int i
def fk(r:Rp):Prop:=Bk r.hs∧Kr r.c.kd=true∧r.ts.length≤41∧∀m∈r.ts,Kr m=true
def lN(r:Rp)(wd:Str)(n:Int):List Int:=(nk r.hs wd).filter fun z=> decide (z≤n)
def pK(r:Rp)(n:Int):dJ→Option Int
 | .com=> some r.c.d
 | .fst wd=> (lN r wd n).head?
 | .lst wd=> (lN r wd n).getLast?
theorem IG{l:List Int}{Q:PyData→Prop}(q:Q (cw l.head?)):if (!(l.map fun z=> Kh z).isEmpty)=false then Q .none else ∃d,atI (l.map fun z=> Kh z) 0=some d∧Q d:=by
 cases l with
 | nil=> rw [if_pos (by rfl)];exact q
 | cons a l=> rw [if_neg (by simp)];exact⟨.int a,cT,q⟩
theorem wk{l:List PyData}{a:PyData}:atI (l++[a]) (-1)=some a:=by
 unfold atI fR
 rw [if_neg (by omega),if_pos (by rw [KR,MT];omega)]
 rw [show((-1:Int)+((l++[a]).length:Nat)).toNat=l.length by rw [KR,MT];omega]
 simp
theorem IH{l:List Int}{Q:PyData→Prop}(q:Q (cw l.getLast?)):if (!(l.map fun z=> Kh z).isEmpty)=false then Q .none else ∃d,atI (l.map fun z=> Kh z) (-1)=some d∧Q d:=by
 rcases List.eq_nil_or_concat l with e | ⟨l',a,e⟩
 ·subst e;rw [if_pos (by rfl)];exact q
 ·rw [List.concat_eq_append] at e
  subst e
  rw [if_neg (by simp)]
  refine⟨.int a,?_,?_⟩
  ·rw [KZ];exact wk
  ·rw [List.getLast?_concat] at q;exact q
def II(C:Addr):List PyData→(PyData→Prop)→Prop:=fun ds Q=> ∃(r:Rp)(s:dJ)(n:Int),ds=[r.enc C,s.enc,.int n]∧s.Ok∧fk r∧Q (cw (pK r n s))
theorem IJ(T:Txt K mg t):aL P w K mg base CX0 2 t.a_x19 t.d_x19 ["paper","since","day"] (bp K (II t.u_Paper)):=by
 have G_x18:=Io (P:=P) (w:=w) (base:=base) T
 refine T.F_x19.okD AJ (fun ds Q h=> ?_) (fun cdv A outer s H O ds Q E hr h=> ?_)
 ·obtain⟨r,s,n,rfl,_⟩:=h;rfl
 ·obtain⟨r,si,n,rfl,hsi,hh,q⟩:=h
  refine'⟨_,?body,?read⟩
  case body=>
   refine' aA ?s1 ?r1
   case s1=>
    refine' bH ?c2 ?a2 bJ
    case c2=> exact(aM (dF hr) dG (df (av aH aI (df (dv 1)) (df ag))) (df aP) (aD _))
    case' a2=> refine' aC ?s3
    case s3=> exact(aN (lB (C:=t.u_Paper) T.cl_Paper T.na_Paper_coming (dv 0)))
   case' r1=> refine' aA ?s5 ?r5
   case s5=> exact(jE (i:=3) AJ.nd rfl (by walk_at "o") (xE rfl Bt (df (PE.imp (aq G_x18 (hr.mono (by decide)) rfl T.m_x18 T.F_x18.kp T.b_x18 .nil ao (aa (dv 0) (aa (av aH aI (df (dv 1)) (df ag)) ai))) az)) aU cB (by decide) (fun _ _ _ _=> (aS (i:=0) Bt.nd rfl (by walk_at "o"))) (fun _ _ _ _=> (dA (aM j5 eo (df (dv 0)) (df (dv 1)) (aD _)))) (fun _ _ _ _=> (dv 0))))
   case' r5=> refine' aA ?s7 ?r7
   case s7=>
    refine' bH ?c8 ?a8 bJ
    case c8=> exact(kg (ud (dv 3)))
    case a8=> refine' aC (aN ke)
   case' r7=> refine' aC ?s11
   case' s11=> refine' aN ?e12
   case e12=> exact(ED (aM (dF hr) dG (df (av aH aI (df (dv 1)) (df ag))) (df aP) (aD _)) (av bO b8 (df (dv 3)) (df ag)) (av bO b8 (df (dv 3)) (df (sI ag))))
  case read=>
  clear hr T G_x18
  have dl:∀wd,(nk r.hs wd).length≤41:=fun wd=> by
   unfold nk;rw [Kd];exact KS (K8 _ _) hh.1.1
  cases si with
  | com=>
   simp only [dJ.enc]
   walk_at "rz"
   exact⟨[Ka "name",Ka "coming",Ka "kind",Ka "makers",Ka "happenings"],_,rfl,_,Bl,q⟩
  | fst wd=>
   simp only [dJ.enc]
   walk_at "rz"
   rw [bL (show Ka "first"≠Ka "coming" by decide+kernel),if_neg Ki]
   have dl:=dl wd
   refine⟨r,wd,rfl,hh.1,hsi,_,rfl,by rw [Kd];omega,d6 (fun z=> decide (z≤n)) (fun z=> .int z) (fun x hx R S h=> ?_) ?_⟩
   ·walk_at "rz"
    simpa using h
   ·have q:Q (cw (lN r wd n).head?):=q
    unfold lN at q
    exact IG q
  | lst wd=>
   simp only [dJ.enc]
   walk_at "rz"
   rw [bL (show Ka "last"≠Ka "coming" by decide+kernel),if_neg Ki]
   have dl:=dl wd
   refine⟨r,wd,rfl,hh.1,hsi,_,rfl,by rw [Kd];omega,d6 (fun z=> decide (z≤n)) (fun z=> .int z) (fun x hx R S h=> ?_) ?_⟩
   ·walk_at "rz"
    simpa using h
   ·have q:Q (cw (lN r wd n).getLast?):=q
    unfold lN at q
    exact IH q
noncomputable def cz(r:Rp)(n:Int):Pt→Option Int
 | .five _ _ s k u=> (pK r n s).map fun b=> pJ b k u
 | .two _ _=> none
def IK(C:Addr):List PyData→(PyData→Prop)→Prop:=fun ds Q=> ∃(r:Rp)(w kd:Str)(s:dJ)(k:Int)(u:Str)(n:Int),ds=[r.enc C,(Pt.five w kd s k u).enc,.int n]∧s.Ok∧kx u∧fk r∧Q (cw (cz r n (.five w kd s k u)))
theorem uB(T:Txt K mg t):aL P w K mg base CX0 6 t.a_x20 t.d_x20 ["paper","parts","day"] (bp K (IK t.u_Paper)):=by
 have G_x19:=IJ (P:=P) (w:=w) (base:=base) T
 have G_x7:=HL (P:=P) (w:=w) (base:=base) T
 refine T.F_x20.okD AK (fun ds Q h=> ?_) (fun cdv A outer s H O ds Q E hr h=> ?_)
 ·obtain⟨r,w,kd,s,k,u,n,rfl,_⟩:=h;rfl
 ·obtain⟨r,wo,kd,si,k,u,n,rfl,hsi,hu,hh,q⟩:=h
  refine'⟨_,?body,?read⟩
  case body=>
   refine' aA ?s1 ?r1
   case s1=>
    refine' bG (i:=3) AK.nd rfl (by walk_at "o") ?e2 (hs:=g0)
    case e2=> exact(PE.imp (aq G_x19 (hr.mono (by decide)) rfl T.m_x19 T.F_x19.kp T.b_x19 .nil ao (aa (dv 0) (aa (av aH aI (df (dv 1)) (df ag)) (aa (dv 2) ai)))) az)
   case' r1=> refine' aA ?s4 ?r4
   case s4=>
    refine' bH ?c5 ?a5 bJ
    case c5=> exact(aM qt sV (df (dv 3)) (df ke) (aD _))
    case a5=> refine' aC (aN ke)
   case' r4=> refine' aC ?s8
   case' s8=> refine' aN ?e9
   case e9=> exact(PE.imp (aq G_x7 (hr.mono (by decide)) rfl T.m_x7 T.F_x7.kp T.b_x7 .nil ao (aa (dv 3) (aa (av aH aI (df (dv 1)) (df ag)) (aa (av aH aI (df (dv 1)) (df ag)) ai)))) az)
  case read=>
  clear hr T G_x19 G_x7
  simp only [Pt.enc]
  walk_at "rz"
  refine⟨r,si,n,rfl,hsi,hh,?_⟩
  have q:Q (cw ((pK r n si).map fun b=> pJ b k u)):=q
  cases hb:pK r n si with
  | none=>
   rw [hb] at q
   simp only [cw,eV]
   walk_at "rz"
   exact q
  | some b=>
   rw [hb] at q
   simp only [cw,eV]
   walk_at "rz"
   exact⟨b,k,u,rfl,hu,fun x hx=> by rw [IF hx];exact q⟩
theorem nv{xs:List De}{c:Pp}(g:dj xs)(hc:c∈aO xs)(h1:∀z,z∈jO (cK xs c.nm)↔z∈cK xs c.nm)(h3:(jO (cK xs c.nm)).length≤41):fk (aK xs c):=by
 refine⟨⟨h3,fun z hz=> ?_⟩,g.gx.gp.kd c hc,?_,fun m hm=> ?_⟩
 ·have hz:=(h1 z).mp hz
  unfold cK at hz
  obtain⟨x,hx,e⟩:=Ky.mp hz
  obtain⟨hx1,hx2⟩:=KA.mp hx
  cases x with
  | pap p=> cases hx2
  | oth w d nm r=>
   simp only [cO,Lf,beq_iff_eq] at hx2
   obtain⟨rfl,rfl⟩:=hx2
   obtain⟨wd,rfl,hw⟩:=g.hp _ _ _ hx1
   rw [←e];exact hw
 ·show((jm (aO xs) c).map (·.nm)).length≤41
  rw [Kd];exact Bg g.gx.gp
 ·obtain⟨p,hp,rfl⟩:=Ky.mp hm
  exact g.gx.gp.nm p (A4.mp (KA.mp hp).1)
def Bu:List PyData→(PyData→Prop)→Prop:=fun ds Q=> ∃(xs:List De)(c:Pp)(w kd:Str)(s:dJ)(k:Int)(u:Str)(n:Int),ds=[.tuple (xs.map De.enc),(Pt.five w kd s k u).enc,.str c.nm,.int n]∧dj xs∧c∈aO xs∧s.Ok∧kx u∧Q (cw (cz (aK xs c) n (.five w kd s k u)))
theorem IL(T:Txt K mg t):aL P w K mg base CX0 9 t.a_x21 t.d_x21 ["deeds","parts","paper","day"] (bp K Bu):=by
 have G_x20:=uB (P:=P) (w:=w) (base:=base) T
 have G_x8:=uz (P:=P) (w:=w) (base:=base) T
 refine T.F_x21.okD Ho (fun ds Q h=> ?_) (fun cdv A outer s H O ds Q E hr h=> ?_)
 ·obtain⟨xs,c,w,kd,s,k,u,n,rfl,_⟩:=h;rfl
 ·obtain⟨xs,c,wo,kd,si,k,u,n,rfl,gd,hc,hsi,hu,q⟩:=h
  refine'⟨_,?body,?read⟩
  case body=>
   refine' aC ?s1
   case' s1=> refine' aN ?e2
   case e2=> exact(PE.imp (aq G_x20 (hr.mono (by decide)) rfl T.m_x20 T.F_x20.kp T.b_x20 .nil ao (aa (PE.imp (qy T.mk_Paper G_x8 (hr.mono (by decide)) rfl T.c_Paper T.b_x8 .nil ao (aa (dv 0) (aa (dv 2) ai))) tS) (aa (dv 1) (aa (dv 3) ai)))) az)
  case read=>
  clear hr T G_x20 G_x8
  walk_at "rz"
  exact⟨xs,c,rfl,gd,hc,fun h1 h2 h3=> ⟨aK xs c,wo,kd,si,k,u,n,rfl,hsi,hu,nv gd hc h1 h3,q⟩⟩
end
end K18
open PySem L2
namespace K18
open Day
theorem Bv:bz (ah hZ) ["paper","rules","day"] ["pair","paper"] 1 [0] {kind:=Ko,names:=[ (Kc ".0",PySem.NameKind.local),(Kc "pair",PySem.NameKind.local),(Kc "paper",Ks)],isGenerator:=false,isCoroutine:=false,more:=[]:K0}:=⟨rfl,by decide+kernel,by decide+kernel,by decide+kernel,rfl,by decide+kernel,by decide+kernel,by decide+kernel,rfl⟩
theorem Bw:bz (ah ia) ["paper","rules","day","gone","left","calls","rule","parts","due"] ["maker","gone","day"] 1 [3,2] {kind:=Ko,names:=[ (Kc ".0",PySem.NameKind.local),(Kc "maker",PySem.NameKind.local),(Kc "has_gone",Ld),(Kc "day",Ks),(Kc "gone",Ks)],isGenerator:=false,isCoroutine:=false,more:=[]:K0}:=⟨rfl,by decide+kernel,by decide+kernel,by decide+kernel,rfl,by decide+kernel,by decide+kernel,by decide+kernel,rfl⟩
theorem Bx:bz (ah ib) ["paper","rules","day","gone","away","calls","rule","parts","due"] ["maker","gone","day"] 1 [3,2] {kind:=Ko,names:=[ (Kc ".0",PySem.NameKind.local),(Kc "maker",PySem.NameKind.local),(Kc "has_gone",Ld),(Kc "day",Ks),(Kc "gone",Ks)],isGenerator:=false,isCoroutine:=false,more:=[]:K0}:=⟨rfl,by decide+kernel,by decide+kernel,by decide+kernel,rfl,by decide+kernel,by decide+kernel,by decide+kernel,rfl⟩
theorem uC:bz (ah ic) ["kind","rules"] ["rule","parts","kind"] 2 [0] {kind:=Ko,names:=[ (Kc ".0",PySem.NameKind.local),(Kc "rule",PySem.NameKind.local),(Kc "parts",PySem.NameKind.local),(Kc "kind",Ks)],isGenerator:=false,isCoroutine:=false,more:=[]:K0}:=⟨rfl,by decide+kernel,by decide+kernel,by decide+kernel,rfl,by decide+kernel,by decide+kernel,by decide+kernel,rfl⟩
section
variable {P:Program} {w:World} {K:Kb} {mg:Str→Option Value} {base:Heap} {t:cW}
structure Gn where
 ks:List Str
 gs:List Int
def Gn.enc(g:Gn):PyData:=jI g.ks (g.gs.map .int)
def jo:List Str→List Int→Str→Option Int
 | k::ks,d::ds,z=> if k=z then some d else jo ks ds z
 | _,_,_=> none
theorem pL:∀(ks:List Str)(gs:List Int)(z:Str),cJ ks (gs.map .int) z=(jo ks gs z).map .int
 | [],_,_=> rfl
 | _::_,[],_=> rfl
 | k::ks,g::gs,z=> by
  rw [Kj]
  unfold cJ jo
  by_cases h:k=z
  ·rw [if_pos h,if_pos h];rfl
  ·rw [if_neg h,if_neg h];exact pL ks gs z
def Gn.at(g:Gn)(z:Str):Option Int:=jo g.ks g.gs z
def Gn.has(g:Gn)(n:Int)(z:Str):Bool:=match g.at z with
 | some d=> decide (d≤n)
 | none=> false
def IM:List PyData→(PyData→Prop)→Prop:=fun ds Q=> ∃(g:Gn)(z:Str)(n:Int),ds=[g.enc,.str z,.int n]∧Q (.bool (g.has n z))
theorem By(T:Txt K mg t):aL P w K mg base CX0 1 t.a_x23 t.d_x23 ["gone","paper","day"] (bp K IM):=by
 refine T.F_x23.okD AL (fun ds Q h=> ?_) (fun cdv A outer s H O ds Q E hr h=> ?_)
 ·obtain⟨g,z,n,rfl,_⟩:=h;rfl
 ·obtain⟨g,z,n,rfl,q⟩:=h
  refine'⟨_,?body,?read⟩
  case body=>
   refine' aA ?s1 ?r1
   case s1=> exact(bG (i:=3) AL.nd rfl (by walk_at "o") (Hd hr.units (dv 0) (dv 1) ⟨rfl,rfl,rfl,rfl⟩))
   case' r1=> refine' aC ?s3
   case' s3=> refine' aN ?e4
   case e4=> exact(mD (dR vL zR (df (dv 3)) (df ke) (aD _)) (kh (dR j5 eo (df (dv 3)) (df (dv 2)) (aD _))))
  case read=>
  clear hr T
  simp only [Gn.enc]
  walk_at "rz"
  refine⟨g.ks,_,rfl,?_⟩
  rw [pL]
  have q:Q (.bool (match g.at z with | some d=> decide (d≤n) | none=> false)):=q
  unfold Gn.at at q
  cases hd:jo g.ks g.gs z with
  | none=>
   rw [hd] at q
   simp only [OL,Om,eV]
   walk_at "rz"
   exact q
  | some d=>
   rw [hd] at q
   simp only [OJ,Option.getD_some,eV]
   walk_at "rz"
   exact q
theorem Bz{a b c d e:PyData}:cJ [Ka "name",Ka "coming",Ka "kind",Ka "makers",Ka "happenings"] [a,b,c,d,e] (Ka "makers")=some d:=by
 simp only [cJ]
 rw [if_neg (by decide+kernel),if_neg (by decide+kernel),if_neg (by decide+kernel),if_pos trivial]
def Pt.wd:Pt→Str
 | .two w _=> w
 | .five w _ _ _ _=> w
def Pt.kd:Pt→Str
 | .two _ kd=> kd
 | .five _ kd _ _ _=> kd
theorem Pt.kdOk{p:Pt}(h:p.Ok):Kr p.kd=true:=by cases p with | two w kd=> exact h.2.2 | five w kd s k u=> exact h.2.1
theorem Pt.at1(p:Pt):∃l,p.enc= .tuple l∧atI l 1=some (.str p.kd):=by cases p <;> exact⟨_,rfl,cU⟩
def kB(L:List (Str×Pt)):Prop:=L.length≤41∧∀z∈L,z.2.Ok
def bY(r:Rp)(n:Int)(L:List (Str×Pt)):List (Str×Pt):=if r.c.d > n then [] else L.filter fun z=> z.2.kd==r.c.kd
def IP(C:Addr):List PyData→(PyData→Prop)→Prop:=fun ds Q=> ∃(r:Rp)(L:List (Str×Pt))(n:Int),ds=[r.enc C,.tuple (L.map dW),.int n]∧fk r∧kB L∧Q (.list ((bY r n L).map dW))
theorem BA(T:Txt K mg t):aL P w K mg base CX0 1 t.a_x22 t.d_x22 ["paper","rules","day"] (bp K (IP t.u_Paper)):=by
 refine T.F_x22.okD Hq (fun ds Q h=> ?_) (fun cdv A outer s H O ds Q E hr h=> ?_)
 ·obtain⟨r,L,n,rfl,_⟩:=h;rfl
 ·obtain⟨r,L,n,rfl,hr',hL,q⟩:=h
  refine'⟨_,?body,?read⟩
  case body=>
   refine' aA ?s1 ?r1
   case s1=>
    refine' bH ?c2 ?a2 bJ
    case c2=> exact(aM gL eo (df (lB (C:=t.u_Paper) T.cl_Paper T.na_Paper_coming (dv 0))) (df (dv 2)) (aD _))
    case' a2=> refine' aC ?s3
    case s3=> exact(aN (fe (dh ai)))
   case' r1=> refine' aC ?s5
   case' s5=> refine' aN ?e6
   case' e6=> refine' fe ?f7
   case f7=> exact(gU rfl Bv (df (dv 1)) aU cB (by decide) (fun _ _ _ _=> (aS (i:=0) Bv.nd rfl (by walk_at "o"))) (fun _ _ _ _=> (dA (aM (cn hr.units) cq (df (av aH aI (df (av aH aI (df (dv 0)) (df ag))) (df ag))) (df (lB (C:=t.u_Paper) T.cl_Paper T.na_Paper_kind (dv 1))) (aD _)))) (fun _ _ _ _=> (dv 0)))
  case read=>
  clear hr T
  walk_at "rz"
  refine⟨[Ka "name",Ka "coming",Ka "kind",Ka "makers",Ka "happenings"],_,rfl,_,Bl,r.c.d,rfl,?_⟩
  unfold bY at q
  by_cases hd:r.c.d > n
  ·rw [if_pos hd] at q⊢
   exact q
  ·rw [if_neg hd] at q⊢
   refine⟨by rw [Kd];have:=hL.1;omega,d6 (fun z:Str×Pt=> z.2.kd==r.c.kd) dW (fun x hx R S h=> ?_) q⟩
   simp only [dW]
   obtain⟨l,e1,e2⟩:=Pt.at1 x.2
   rw [e1]
   walk_at "rz"
   refine⟨_,e2,[Ka "name",Ka "coming",Ka "kind",Ka "makers",Ka "happenings"],_,rfl,_,Im,bR.mpr (Pt.kdOk (hL.2 x hx)),bR.mpr hr'.2.1,?_⟩
   rw [jz]
   simp only [dW] at h
   rw [e1] at h
   exact h
def bZ(z:Str×PyData):PyData:= .tuple [.str z.1,z.2]
def cX(r:Rp)(n:Int)(g:Gn):List Str:=r.ts.filter fun m=> !g.has n m
def cY(r:Rp)(n:Int)(g:Gn):List Str:=r.ts.filter fun m=> g.has n m
def jq(n:Int):Option Int→Bool
 | none=> true
 | some d=> decide (d > n)
noncomputable def fB(r:Rp)(n:Int)(g:Gn):Pt→Option PyData
 | .five w kd s k u=> if w=Ka "keep"∧jq n (cz r n (.five w kd s k u))=true then some (cw (cz r n (.five w kd s k u))) else none
 | .two w kd=> if w=Ka "while" then(cX r n g).head?.map .str else none
noncomputable def fC(r:Rp)(n:Int)(g:Gn):Pt→Option PyData
 | .five w kd s k u=> if w=Ka "gone"∧jq n (cz r n (.five w kd s k u))=false then some (cw (cz r n (.five w kd s k u))) else none
 | .two w kd=> if w=Ka "follow" then(cY r n g).head?.map .str else none
noncomputable def fD(r:Rp)(n:Int)(g:Gn)(z:Str×Pt):List (Str×PyData):=((fB r n g z.2).map fun b=> (z.1,b)).toList
noncomputable def fE(r:Rp)(n:Int)(g:Gn)(z:Str×Pt):List (Str×PyData):=((fC r n g z.2).map fun b=> (z.1,b)).toList
noncomputable def cu(r:Rp)(n:Int)(g:Gn)(L:List (Str×Pt)):List (Str×PyData):=(bY r n L).flatMap (fD r n g)
noncomputable def cv(r:Rp)(n:Int)(g:Gn)(L:List (Str×Pt)):List (Str×PyData):=(bY r n L).flatMap (fE r n g)
theorem lO{α β:Type}{f:α→List β}(h:∀x,(f x).length≤1):∀l:List α,(l.flatMap f).length≤l.length
 | []=> by simp
 | x::l=> by
  rw [LF,KR,Kw]
  have:=h x
  have:=lO h l
  omega
theorem ny{α:Type}(o:Option α):o.toList.length≤1:=by cases o <;> simp
theorem BB{f:Str×Pt→Option PyData}(M:List (Str×Pt))(hM:M.length≤41):∃acc:Nat→List PyData,acc 0=[]∧(∀i,(acc i).length≤41)∧(∀i x,M[i]?=some x→f x=none→acc (i+1)=acc i)∧(∀i x,M[i]?=some x→∀b,f x=some b→acc (i+1)=acc i++[.tuple [.str x.1,b]])∧acc M.length=(M.flatMap fun z=> ((f z).map fun b=> (z.1,b)).toList).map bZ:=by
 refine⟨fun i=> ((M.take i).flatMap fun z=> ((f z).map fun b=> (z.1,b)).toList).map bZ,rfl,fun i=> ?_,fun i x hx e=> ?_,fun i x hx b e=> ?_,?_⟩
 ·show(KO bZ _).length≤41
  rw [Kd]
  refine KS (lO (fun z=> ny _) _) ?_
  rw [Lk];omega
 ·show KO bZ _=KO bZ _
  rw [Lv,hx,Mi]
  simp [e]
 ·show KO bZ _=KO bZ _++_
  rw [Lv,hx,Mi,KZ]
  simp [e,bZ]
 ·show KO bZ _=_
  rw [Lc (Kk _)]
theorem BC{r:Rp}{n:Int}{L:List (Str×Pt)}(h:kB L):kB (bY r n L):=by
 unfold bY
 split
 ·exact⟨by simp,by simp⟩
 ·exact⟨KS (K8 _ _) h.1,fun z hz=> h.2 z (KA.mp hz).1⟩
def F_x24(C:Addr):List PyData→(PyData→Prop)→Prop:=fun ds Q=> ∃(r:Rp)(L:List (Str×Pt))(n:Int)(g:Gn),ds=[r.enc C,.tuple (L.map dW),.int n,g.enc]∧fk r∧kB L∧Q (.tuple ((cu r n g L).map bZ))
theorem IQ(T:Txt K mg t):aL P w K mg base CX0 7 t.a_x24 t.d_x24 ["paper","rules","day","gone"] (bp K (F_x24 t.u_Paper)):=by
 have G_x23:=By (P:=P) (w:=w) (base:=base) T
 have G_x22:=BA (P:=P) (w:=w) (base:=base) T
 have G_x20:=uB (P:=P) (w:=w) (base:=base) T
 refine T.F_x24.okD lH (fun ds Q h=> ?_) (fun cdv A outer s H O ds Q E hr h=> ?_)
 ·obtain⟨r,L,n,g,rfl,_⟩:=h;rfl
 ·obtain⟨r,L,n,g,rfl,hr',hL,q⟩:=h
  refine'⟨_,?body,?read⟩
  case body=>
   refine' aA ?s1 ?r1
   case s1=> exact(jE (i:=4) lH.nd rfl (by walk_at "o") (lz rfl Bw (df (lB (C:=t.u_Paper) T.cl_Paper T.na_Paper_makers (dv 0))) aU cB (by decide) (fun _ _ _ _=> (aS (i:=0) Bw.nd rfl (by walk_at "o"))) (fun _ _ _ _=> (dA (kg (iF (PE.imp (aq G_x23 (hr.mono (by decide)) rfl T.m_x23 T.F_x23.kp T.b_x23 .nil ao (aa (dv 1) (aa (dv 0) (aa (dv 2) ai)))) az))))) (fun _ _ _ _=> (dv 0))))
   case' r1=> refine' aA ?s3 ?r3
   case s3=> exact(oo (i:=5) lH.nd rfl (by walk_at "o") (dh ai))
   case' r3=> refine' aA ?s5 ?r5
   case s5=>
    refine' mI Lx rfl (PE.imp (aq G_x22 (hr.mono (by decide)) rfl T.m_x22 T.F_x22.kp T.b_x22 .nil ao (aa (dv 0) (aa (dv 1) (aa (dv 2) ai)))) az) ?a6 (fY (cE aU (cE aU fX))) ?b6
    case a6=> exact(fG (n:=2) rfl (cx (aS (i:=6) lH.nd rfl (by walk_at "o")) (cx (aS (i:=7) lH.nd rfl (by walk_at "o")) fF)))
    case' b6=> refine' aA ?s7 ?r7
    case s7=>
     refine' bH ?c8 ?a8 bJ
     case c8=> exact(aM (dF hr) dG (df (av aH aI (df (dv 7)) (df ag))) (df aP) (aD _))
     case' a8=> refine' aA ?s9 ?r9
     case s9=> exact(bG (i:=8) lH.nd rfl (by walk_at "o") (PE.imp (aq G_x20 (hr.mono (by decide)) rfl T.m_x20 T.F_x20.kp T.b_x20 .nil ao (aa (dv 0) (aa (dv 7) (aa (dv 2) ai)))) az))
     case' r9=> refine' aC ?s11
     case' s11=> refine' bH ?c12 ?a12 bJ
     case c12=> exact(PW.pt (iG (aM qt sV (df (dv 8)) (df ke) (aD _)) (jw (aM gL eo (df (dv 8)) (df (dv 2)) (aD _)))))
     case' a12=> refine' aC ?s13
     case s13=> exact(mE (i:=5) (pv 5) (bD (aa (dv 6) (aa (dv 8) ai))))
    case' r7=> refine' aC ?s15
    case' s15=> refine' bH ?c16 ?a16 bJ
    case c16=> exact(PW.pt (eQ (aM (dF hr) dG (df (av aH aI (df (dv 7)) (df ag))) (df aP) (aD _)) (eZ (ud (dv 4)))))
    case' a16=> refine' aC ?s17
    case' s17=> refine' mE (i:=5) (pv 5) ?e18
    case e18=> exact(bD (aa (dv 6) (aa (av bO b8 (df (dv 4)) (df ag)) ai)))
   case' r5=> refine' aC ?s20
   case s20=> exact(aN (PE.imp (eM fT rfl T.n_tuple fU (bg (dw 5) bx)) (bN gc)))
  case read=>
  clear hr T G_x23 G_x22 G_x20
  walk_at "rz"
  refine⟨[Ka "name",Ka "coming",Ka "kind",Ka "makers",Ka "happenings"],_,rfl,_,Bz,_,rfl,by rw [Kd];have:=hr'.2.2.1;omega,d6 (fun m=> !g.has n m) (fun m=> .str m) (fun x hx R S h=> ?_) ?_⟩
  ·walk_at "rz"
   exact⟨g,x,n,rfl,by simpa using h⟩
  ·refine⟨r,L,n,rfl,hr',hL,?_⟩
   have ok:=BC (r:=r) (n:=n) hL
   walk_at "rz"
   have q:Q (.tuple (((bY r n L).flatMap (fD r n g)).map bZ)):=q
   generalize hM:bY r n L=M at ok q⊢
   obtain⟨acc,a0,al,an,as,ae⟩:=BB (f:=fun z:Str×Pt=> fB r n g z.2) M ok.1
   refine⟨fun i δ=> ∃o6 o7 o8,δ=[some (Sl.v (Rp.enc t.u_Paper r)),some (Sl.v (KH (KO dW L))),some (Sl.v (Kh n)),some (Sl.v g.enc),some (Sl.v (Li ((cX r n g).map fun m=> Kf m))),some (Sl.o (acc i)),o6,o7,o8],⟨_,_,_,by rw [a0];rfl⟩,?_,?_⟩
   ·rintro i z δ hz ⟨o6,o7,o8,rfl⟩
    rw [KQ] at hz
    cases hz':M[i]? with
    | none=> rw [hz'] at hz;cases hz
    | some x=>
     rw [hz'] at hz;cases hz
     have xo:=ok.2 x (KW hz')
     have tl:=al i
     have none_:=an i x hz'
     have some_:=as i x hz'
     obtain⟨nm,pt⟩:=x
     simp only [dW]
     cases pt with
     | two w2 kd=>
      have k1:w2≠Ka "keep":=fun e=> xo.1 (.inl e)
      simp only [Pt.enc]
      walk_at "rz"
      rw [bL k1,if_neg Ki]
      by_cases hw:w2=Ka "while"
      ·subst hw
       rw [if_pos (beq_self_eq_true _)]
       cases hl:cX r n g with
       | nil=>
        rw [none_ (by show(if Ka "while"=Ka "while" then(cX r n g).head?.map Kf else none)=none;rw [if_pos rfl,hl];rfl),if_neg (by simp)]
        exact⟨rfl,_,rfl⟩
       | cons m l=>
        rw [some_ (.str m) (by show(if Ka "while"=Ka "while" then(cX r n g).head?.map Kf else none)=some _;rw [if_pos rfl,hl];rfl),if_pos (by rfl)]
        exact⟨_,cT,by omega,rfl,_,rfl⟩
      ·rw [bL hw,if_neg Ki]
       rw [none_ (by show(if w2=Ka "while" then(cX r n g).head?.map Kf else none)=none;rw [if_neg hw])]
       exact⟨rfl,_,rfl⟩
     | five w2 kd si k u=>
      have k1:w2≠Ka "while":=fun e=> by rcases xo.1 with z | z <;> rw [z] at e <;> exact absurd e (by decide+kernel)
      simp only [Pt.enc]
      walk_at "rz"
      by_cases hw:w2=Ka "keep"
      ·subst hw
       rw [if_pos (beq_self_eq_true _)]
       refine⟨r,Ka "keep",kd,si,k,u,n,rfl,xo.2.2.1,xo.2.2.2.2.2,hr',?_⟩
       have df:fB r n g (.five (Ka "keep") kd si k u)=if Ka "keep"=Ka "keep"∧jq n (cz r n (.five (Ka "keep") kd si k u))=true then some (cw (cz r n (.five (Ka "keep") kd si k u))) else none:=rfl
       cases hd:cz r n (.five (Ka "keep") kd si k u) with
       | none=>
        rw [hd] at df
        simp only [cw,eV]
        walk_at "rz"
        refine⟨by omega,?_⟩
        rw [bL (show Ka "keep"≠Ka "while" by decide+kernel),if_neg Ki]
        rw [some_ .none (by rw [df,if_pos ⟨rfl,rfl⟩];rfl)]
        exact⟨rfl,_,rfl⟩
       | some d=>
        rw [hd] at df
        simp only [cw,eV]
        walk_at "rz"
        by_cases hdn:n < d
        ·rw [if_pos hdn]
         refine⟨by omega,?_⟩
         rw [bL (show Ka "keep"≠Ka "while" by decide+kernel),if_neg Ki]
         rw [some_ (.int d) (by rw [df,if_pos ⟨rfl,decide_eq_true hdn⟩];rfl)]
         exact⟨rfl,_,rfl⟩
        ·rw [if_neg hdn]
         rw [bL (show Ka "keep"≠Ka "while" by decide+kernel),if_neg Ki]
         rw [none_ (by rw [df,if_neg fun z=> hdn (of_decide_eq_true z.2)])]
         exact⟨rfl,_,rfl⟩
      ·rw [bL hw,if_neg Ki,bL k1,if_neg Ki]
       rw [none_ (by show(if w2=Ka "keep"∧jq n (cz r n (.five w2 kd si k u))=true then some (cw (cz r n (.five w2 kd si k u))) else none)=none;rw [if_neg fun z=> hw z.1])]
       exact⟨rfl,_,rfl⟩
   ·rintro δ ⟨o6,o7,o8,rfl⟩
    walk_at "rz"
    rw [Kd,ae]
    exact q
def F_x25(C:Addr):List PyData→(PyData→Prop)→Prop:=fun ds Q=> ∃(r:Rp)(L:List (Str×Pt))(n:Int)(g:Gn),ds=[r.enc C,.tuple (L.map dW),.int n,g.enc]∧fk r∧kB L∧Q (.tuple ((cv r n g L).map bZ))
theorem IS(T:Txt K mg t):aL P w K mg base CX0 7 t.a_x25 t.d_x25 ["paper","rules","day","gone"] (bp K (F_x25 t.u_Paper)):=by
 have G_x23:=By (P:=P) (w:=w) (base:=base) T
 have G_x22:=BA (P:=P) (w:=w) (base:=base) T
 have G_x20:=uB (P:=P) (w:=w) (base:=base) T
 refine T.F_x25.okD lI (fun ds Q h=> ?_) (fun cdv A outer s H O ds Q E hr h=> ?_)
 ·obtain⟨r,L,n,g,rfl,_⟩:=h;rfl
 ·obtain⟨r,L,n,g,rfl,hr',hL,q⟩:=h
  refine'⟨_,?body,?read⟩
  case body=>
   refine' aA ?s1 ?r1
   case s1=> exact(jE (i:=4) lI.nd rfl (by walk_at "o") (lz rfl Bx (df (lB (C:=t.u_Paper) T.cl_Paper T.na_Paper_makers (dv 0))) aU cB (by decide) (fun _ _ _ _=> (aS (i:=0) Bx.nd rfl (by walk_at "o"))) (fun _ _ _ _=> (dA (iF (PE.imp (aq G_x23 (hr.mono (by decide)) rfl T.m_x23 T.F_x23.kp T.b_x23 .nil ao (aa (dv 1) (aa (dv 0) (aa (dv 2) ai)))) az)))) (fun _ _ _ _=> (dv 0))))
   case' r1=> refine' aA ?s3 ?r3
   case s3=> exact(oo (i:=5) lI.nd rfl (by walk_at "o") (dh ai))
   case' r3=> refine' aA ?s5 ?r5
   case s5=>
    refine' mI Lx rfl (PE.imp (aq G_x22 (hr.mono (by decide)) rfl T.m_x22 T.F_x22.kp T.b_x22 .nil ao (aa (dv 0) (aa (dv 1) (aa (dv 2) ai)))) az) ?a6 (fY (cE aU (cE aU fX))) ?b6
    case a6=> exact(fG (n:=2) rfl (cx (aS (i:=6) lI.nd rfl (by walk_at "o")) (cx (aS (i:=7) lI.nd rfl (by walk_at "o")) fF)))
    case' b6=> refine' aA ?s7 ?r7
    case s7=>
     refine' bH ?c8 ?a8 bJ
     case c8=> exact(aM (dF hr) dG (df (av aH aI (df (dv 7)) (df ag))) (df aP) (aD _))
     case' a8=> refine' aA ?s9 ?r9
     case s9=> exact(bG (i:=8) lI.nd rfl (by walk_at "o") (PE.imp (aq G_x20 (hr.mono (by decide)) rfl T.m_x20 T.F_x20.kp T.b_x20 .nil ao (aa (dv 0) (aa (dv 7) (aa (dv 2) ai)))) az))
     case' r9=> refine' aC ?s11
     case' s11=> refine' bH ?c12 ?a12 bJ
     case c12=> exact(PW.pt (eQ (aM vL zR (df (dv 8)) (df ke) (aD _)) (eZ (aM j5 eo (df (dv 8)) (df (dv 2)) (aD _)))))
     case' a12=> refine' aC ?s13
     case s13=> exact(mE (i:=5) (pv 5) (bD (aa (dv 6) (aa (dv 8) ai))))
    case' r7=> refine' aC ?s15
    case' s15=> refine' bH ?c16 ?a16 bJ
    case c16=> exact(PW.pt (eQ (aM (dF hr) dG (df (av aH aI (df (dv 7)) (df ag))) (df aP) (aD _)) (eZ (ud (dv 4)))))
    case' a16=> refine' aC ?s17
    case' s17=> refine' mE (i:=5) (pv 5) ?e18
    case e18=> exact(bD (aa (dv 6) (aa (av bO b8 (df (dv 4)) (df ag)) ai)))
   case' r5=> refine' aC ?s20
   case s20=> exact(aN (PE.imp (eM fT rfl T.n_tuple fU (bg (dw 5) bx)) (bN gc)))
  case read=>
  clear hr T G_x23 G_x22 G_x20
  walk_at "rz"
  refine⟨[Ka "name",Ka "coming",Ka "kind",Ka "makers",Ka "happenings"],_,rfl,_,Bz,_,rfl,by rw [Kd];have:=hr'.2.2.1;omega,d6 (fun m=> g.has n m) (fun m=> .str m) (fun x hx R S h=> ?_) ?_⟩
  ·walk_at "rz"
   exact⟨g,x,n,rfl,by simpa using h⟩
  ·refine⟨r,L,n,rfl,hr',hL,?_⟩
   have ok:=BC (r:=r) (n:=n) hL
   walk_at "rz"
   have q:Q (.tuple (((bY r n L).flatMap (fE r n g)).map bZ)):=q
   generalize hM:bY r n L=M at ok q⊢
   obtain⟨acc,a0,al,an,as,ae⟩:=BB (f:=fun z:Str×Pt=> fC r n g z.2) M ok.1
   refine⟨fun i δ=> ∃o6 o7 o8,δ=[some (Sl.v (Rp.enc t.u_Paper r)),some (Sl.v (KH (KO dW L))),some (Sl.v (Kh n)),some (Sl.v g.enc),some (Sl.v (Li ((cY r n g).map fun m=> Kf m))),some (Sl.o (acc i)),o6,o7,o8],⟨_,_,_,by rw [a0];rfl⟩,?_,?_⟩
   ·rintro i z δ hz ⟨o6,o7,o8,rfl⟩
    rw [KQ] at hz
    cases hz':M[i]? with
    | none=> rw [hz'] at hz;cases hz
    | some x=>
     rw [hz'] at hz;cases hz
     have xo:=ok.2 x (KW hz')
     have tl:=al i
     have none_:=an i x hz'
     have some_:=as i x hz'
     obtain⟨nm,pt⟩:=x
     simp only [dW]
     cases pt with
     | two w2 kd=>
      have k1:w2≠Ka "gone":=fun e=> xo.1 (.inr e)
      simp only [Pt.enc]
      walk_at "rz"
      rw [bL k1,if_neg Ki]
      by_cases hw:w2=Ka "follow"
      ·subst hw
       rw [if_pos (beq_self_eq_true _)]
       cases hl:cY r n g with
       | nil=>
        rw [none_ (by show(if Ka "follow"=Ka "follow" then(cY r n g).head?.map Kf else none)=none;rw [if_pos rfl,hl];rfl),if_neg (by simp)]
        exact⟨rfl,_,rfl⟩
       | cons m l=>
        rw [some_ (.str m) (by show(if Ka "follow"=Ka "follow" then(cY r n g).head?.map Kf else none)=some _;rw [if_pos rfl,hl];rfl),if_pos (by rfl)]
        exact⟨_,cT,by omega,rfl,_,rfl⟩
      ·rw [bL hw,if_neg Ki]
       rw [none_ (by show(if w2=Ka "follow" then(cY r n g).head?.map Kf else none)=none;rw [if_neg hw])]
       exact⟨rfl,_,rfl⟩
     | five w2 kd si k u=>
      have k1:w2≠Ka "follow":=fun e=> by rcases xo.1 with z | z <;> rw [z] at e <;> exact absurd e (by decide+kernel)
      simp only [Pt.enc]
      walk_at "rz"
      by_cases hw:w2=Ka "gone"
      ·subst hw
       rw [if_pos (beq_self_eq_true _)]
       refine⟨r,Ka "gone",kd,si,k,u,n,rfl,xo.2.2.1,xo.2.2.2.2.2,hr',?_⟩
       have df:fC r n g (.five (Ka "gone") kd si k u)=if Ka "gone"=Ka "gone"∧jq n (cz r n (.five (Ka "gone") kd si k u))=false then some (cw (cz r n (.five (Ka "gone") kd si k u))) else none:=rfl
       cases hd:cz r n (.five (Ka "gone") kd si k u) with
       | none=>
        rw [hd] at df
        simp only [cw,eV]
        walk_at "rz"
        rw [bL (show Ka "gone"≠Ka "follow" by decide+kernel),if_neg Ki]
        rw [none_ (by rw [df,if_neg fun z=> Bool.noConfusion (show true=false from z.2)])]
        exact⟨rfl,_,rfl⟩
       | some d=>
        rw [hd] at df
        simp only [cw,eV]
        walk_at "rz"
        by_cases hdn:d≤n
        ·rw [if_pos hdn]
         refine⟨by omega,?_⟩
         rw [bL (show Ka "gone"≠Ka "follow" by decide+kernel),if_neg Ki]
         rw [some_ (.int d) (by rw [df,if_pos ⟨rfl,decide_eq_false (by omega)⟩];rfl)]
         exact⟨rfl,_,rfl⟩
        ·rw [if_neg hdn]
         rw [bL (show Ka "gone"≠Ka "follow" by decide+kernel),if_neg Ki]
         rw [none_ (by rw [df,if_neg fun z=> hdn (by have:=of_decide_eq_false z.2;omega)])]
         exact⟨rfl,_,rfl⟩
      ·rw [bL hw,if_neg Ki,bL k1,if_neg Ki]
       rw [none_ (by show(if w2=Ka "gone"∧jq n (cz r n (.five w2 kd si k u))=false then some (cw (cz r n (.five w2 kd si k u))) else none)=none;rw [if_neg fun z=> hw z.1])]
       exact⟨rfl,_,rfl⟩
   ·rintro δ ⟨o6,o7,o8,rfl⟩
    walk_at "rz"
    rw [Kd,ae]
    exact q
end
end K18
open PySem L2
namespace K18
section
variable {P:Program} {w:World} {K:Kb} {mg:Str→Option Value} {base:Heap} {t:cW}
def BD(kd:Str):Pt→Bool
 | .two w k=> w==Ka "leave" && k==kd
 | _=> false
def dX(kd:Str)(L:List (Str×Pt)):List Str:=(L.filter fun z=> BD kd z.2).map (·.1)
theorem nz{a b:Str}:(a==b)=decide (a=b):=by
 by_cases h:a=b
 ·simp [h]
 ·rw [bL h,decide_eq_false h]
def IT:List PyData→(PyData→Prop)→Prop:=fun ds Q=> ∃(kd:Str)(L:List (Str×Pt)),ds=[.str kd,.tuple (L.map dW)]∧Kr kd=true∧kB L∧Q (.list ((dX kd L).map .str))
theorem BE{w:Str}(h:KG w):Kr w=true:=by rcases h with h | h <;> rw [h] <;> decide+kernel
theorem IU{w:Str}(h:kx w):Kr w=true:=by rcases h with h | h | h <;> rw [h] <;> decide+kernel
theorem dJ.lay{s:dJ}(h:s.Ok):bU 2 s.enc:=by
 cases s with
 | com=> exact cF (aR (bK (by decide+kernel)) cV)
 | fst wd=> exact cF (aR (bK (by decide+kernel)) (aR (bK h) cV))
 | lst wd=> exact cF (aR (bK (by decide+kernel)) (aR (bK h) cV))
theorem Pt.lay{p:Pt}(h:p.Ok):bU 3 p.enc:=by
 cases p with
 | two w kd=> exact(cF (n:=1) (aR (bK h.2.1) (aR (bK h.2.2) cV))).mono (by decide)
 | five w kd s k u=> exact cF (aR (bK (BE h.1)) (aR (bK h.2.1) (aR (dJ.lay h.2.2.1) (aR gg (aR (bK (IU h.2.2.2.2.2)) cV)))))
theorem IV(T:Txt K mg t):aL P w K mg base CX0 1 t.a_x26 t.d_x26 ["kind","rules"] (bp K IT):=by
 refine T.F_x26.okD Hr (fun ds Q h=> ?_) (fun cdv A outer s H O ds Q E hr h=> ?_)
 ·obtain⟨kd,L,rfl,_⟩:=h;rfl
 ·obtain⟨kd,L,rfl,hk,hL,q⟩:=h
  refine'⟨_,?body,?read⟩
  case body=>
   refine' aC ?s1
   case' s1=> refine' aN ?e2
   case' e2=> refine' fe ?f3
   case f3=> exact(gU rfl uC (df (dv 1)) (fY (cE aU (cE aU fX))) m6 (by decide) (fun _ _ _ _=> (fG (n:=2) rfl (cx (aS (i:=0) uC.nd rfl (by walk_at "o")) (cx (aS (i:=1) uC.nd rfl (by walk_at "o")) fF)))) (fun _ _ _ _=> (dA (aM (cn hr.units) cq (df (dv 1)) (df (bD (aa aP (aa (dv 2) ai)))) (aD _)))) (fun _ _ _ _=> (dv 0)))
  case read=>
  clear hr T
  walk_at "rz"
  refine⟨by rw [Kd];have:=hL.1;omega,d6 (fun z:Str×Pt=> BD kd z.2) (fun z=> .str z.1) (fun x hx R S h=> ?_) ?_⟩
  ·have xo:=hL.2 x hx
   obtain⟨nm,pt⟩:=x
   have ly:=(Pt.lay xo).shp (by decide)
   have ly2:LK (KH [Kf (Ka "leave"),Kf kd])=true:=(cF (n:=1) (aR (bK (by decide+kernel)) (aR (bK hk) cV))).shp (by decide)
   simp only [dW]
   cases pt with
   | two w2 kd2=>
    simp only [Pt.enc] at ly⊢
    walk_at "rz"
    refine⟨ly,ly2,?_⟩
    have e:(KH [Kf w2,Kf kd2]).eqv (KH [Kf (Ka "leave"),Kf kd])=(w2==Ka "leave" && kd2==kd):=by simp [KC,MG,nz]
    rw [e]
    exact h
   | five w2 kd2 si k u=>
    simp only [Pt.enc] at ly⊢
    walk_at "rz"
    refine⟨ly,ly2,?_⟩
    rw [if_neg (by simp [KC,MG])]
    exact h
  ·unfold dX at q;rw [KY] at q;exact q
end
section
variable {P:Program} {w:World} {K:Kb} {mg:Str→Option Value} {base:Heap} {t:cW}
theorem pM{xs:List De}{n:Int}(g:dj xs)(h:d7 xs n (aG xs n))(hl:(aG xs n).length≤41):kB (aG xs n):=by
 refine⟨hl,fun z hz=> ?_⟩
 obtain⟨d,_,hm,_⟩:=(h.2 z).mp hz
 obtain⟨pt,e,ok⟩:=g.ru _ _ _ hm
 rw [pH (ND e).1];exact ok
noncomputable def iw(xs:List De)(n:Int)(c:Pp)(g:Gn):List (Str×PyData):=cu (aK xs c) n g (aG xs n)
noncomputable def ix(xs:List De)(n:Int)(c:Pp)(g:Gn):List (Str×PyData):=cv (aK xs c) n g (aG xs n)
noncomputable def jQ(xs:List De)(n:Int)(c:Pp):Bool:=decide (0 < (dX c.kd (aG xs n)).length)
def F_x27:List PyData→(PyData→Prop)→Prop:=fun ds Q=> ∃(xs:List De)(n:Int)(c:Pp)(g:Gn),ds=[.tuple (xs.map De.enc),.int n,.str c.nm,g.enc]∧dj xs∧c∈aO xs∧(d7 xs n (aG xs n)→(aG xs n).length≤41→fk (aK xs c)→Q (.tuple ((iw xs n c g).map bZ)))
def F_x28:List PyData→(PyData→Prop)→Prop:=fun ds Q=> ∃(xs:List De)(n:Int)(c:Pp)(g:Gn),ds=[.tuple (xs.map De.enc),.int n,.str c.nm,g.enc]∧dj xs∧c∈aO xs∧(d7 xs n (aG xs n)→(aG xs n).length≤41→fk (aK xs c)→Q (.tuple ((ix xs n c g).map bZ)))
theorem IW(T:Txt K mg t):aL P w K mg base CX0 9 t.a_x27 t.d_x27 ["deeds","day","paper","gone"] (bp K F_x27):=by
 have G_x8:=uz (P:=P) (w:=w) (base:=base) T
 have G_x17:=pI (P:=P) (w:=w) (base:=base) T
 have G_x24:=IQ (P:=P) (w:=w) (base:=base) T
 refine T.F_x27.okD Hs (fun ds Q h=> ?_) (fun cdv A outer s H O ds Q E hr h=> ?_)
 ·obtain⟨xs,n,c,g,rfl,_⟩:=h;rfl
 ·obtain⟨xs,n,c,g,rfl,gd,hc,q⟩:=h
  refine'⟨_,?body,?read⟩
  case body=>
   refine' aC ?s1
   case' s1=> refine' aN ?e2
   case e2=> exact(PE.imp (aq G_x24 (hr.mono (by decide)) rfl T.m_x24 T.F_x24.kp T.b_x24 .nil ao (aa (PE.imp (qy T.mk_Paper G_x8 (hr.mono (by decide)) rfl T.c_Paper T.b_x8 .nil ao (aa (dv 0) (aa (dv 2) ai))) tS) (aa (PE.imp (aq G_x17 (hr.mono (by decide)) rfl T.m_x17 T.F_x17.kp T.b_x17 .nil ao (aa (dv 0) (aa (dv 1) ai))) az) (aa (dv 1) (aa (dv 3) ai))))) az)
  case read=>
  clear hr T G_x8 G_x17 G_x24
  walk_at "rz"
  exact⟨xs,c,rfl,gd,hc,fun h1 h2 h3=> ⟨xs,n,rfl,gd,fun h4 h5=> ⟨aK xs c,_,n,g,rfl,nv gd hc h1 h3,pM gd h4 h5,q h4 h5 (nv gd hc h1 h3)⟩⟩⟩
theorem IX(T:Txt K mg t):aL P w K mg base CX0 9 t.a_x28 t.d_x28 ["deeds","day","paper","gone"] (bp K F_x28):=by
 have G_x8:=uz (P:=P) (w:=w) (base:=base) T
 have G_x17:=pI (P:=P) (w:=w) (base:=base) T
 have G_x25:=IS (P:=P) (w:=w) (base:=base) T
 refine T.F_x28.okD Ht (fun ds Q h=> ?_) (fun cdv A outer s H O ds Q E hr h=> ?_)
 ·obtain⟨xs,n,c,g,rfl,_⟩:=h;rfl
 ·obtain⟨xs,n,c,g,rfl,gd,hc,q⟩:=h
  refine'⟨_,?body,?read⟩
  case body=>
   refine' aC ?s1
   case' s1=> refine' aN ?e2
   case e2=> exact(PE.imp (aq G_x25 (hr.mono (by decide)) rfl T.m_x25 T.F_x25.kp T.b_x25 .nil ao (aa (PE.imp (qy T.mk_Paper G_x8 (hr.mono (by decide)) rfl T.c_Paper T.b_x8 .nil ao (aa (dv 0) (aa (dv 2) ai))) tS) (aa (PE.imp (aq G_x17 (hr.mono (by decide)) rfl T.m_x17 T.F_x17.kp T.b_x17 .nil ao (aa (dv 0) (aa (dv 1) ai))) az) (aa (dv 1) (aa (dv 3) ai))))) az)
  case read=>
  clear hr T G_x8 G_x17 G_x25
  walk_at "rz"
  exact⟨xs,c,rfl,gd,hc,fun h1 h2 h3=> ⟨xs,n,rfl,gd,fun h4 h5=> ⟨aK xs c,_,n,g,rfl,nv gd hc h1 h3,pM gd h4 h5,q h4 h5 (nv gd hc h1 h3)⟩⟩⟩
def IY:List PyData→(PyData→Prop)→Prop:=fun ds Q=> ∃(xs:List De)(n:Int)(c:Pp),ds=[.tuple (xs.map De.enc),.int n,.str c.nm]∧dj xs∧c∈aO xs∧Q (.bool (jQ xs n c))
theorem IZ(T:Txt K mg t):aL P w K mg base CX0 3 t.a_x29 t.d_x29 ["deeds","day","paper"] (bp K IY):=by
 have G_x13:=Bi (P:=P) (w:=w) (base:=base) T
 have G_x17:=pI (P:=P) (w:=w) (base:=base) T
 have G_x26:=IV (P:=P) (w:=w) (base:=base) T
 refine T.F_x29.okD Hu (fun ds Q h=> ?_) (fun cdv A outer s H O ds Q E hr h=> ?_)
 ·obtain⟨xs,n,c,rfl,_⟩:=h;rfl
 ·obtain⟨xs,n,c,rfl,gd,hc,q⟩:=h
  refine'⟨_,?body,?read⟩
  case body=>
   refine' aC ?s1
   case' s1=> refine' aN ?e2
   case e2=> exact(dR gL eo (df (PE.imp (bW fq rfl T.n_len Lw (bg (df (PE.imp (aq G_x26 (hr.mono (by decide)) rfl T.m_x26 T.F_x26.kp T.b_x26 .nil ao (aa (PE.imp (aq G_x13 (hr.mono (by decide)) rfl T.m_x13 T.F_x13.kp T.b_x13 .nil ao (aa (dv 0) (aa (dv 2) ai))) az) (aa (PE.imp (aq G_x17 (hr.mono (by decide)) rfl T.m_x17 T.F_x17.kp T.b_x17 .nil ao (aa (dv 0) (aa (dv 1) ai))) az) ai))) az)) bx)) (bN fZ))) (df ag) (aD _))
  case read=>
  clear hr T G_x13 G_x17 G_x26
  walk_at "rz"
  refine⟨xs,c,rfl,gd.gx,hc,xs,n,rfl,gd,fun h4 h5=> ⟨c.kd,_,rfl,gd.gx.gp.kd c hc,pM gd h4 h5,?_⟩⟩
  refine⟨_,.inl rfl,?_⟩
  have e:decide (0 < ((KO Kf (dX c.kd (aG xs n))).length:Int))=jQ xs n c:=by
   unfold jQ
   rw [Kd]
   exact decide_eq_decide.mpr (by omega)
  rw [e];exact q
end
end K18
open PySem L2
namespace K18
section
variable {P:Program} {w:World} {K:Kb} {mg:Str→Option Value} {base:Heap} {t:cW}
theorem BF{H H1:Hp}{p:Addr}(hp:H p=some (fV p))(h:∀b o,b≠p→H b=some o→H1 b=some o):ar H (au H1 p (fV p)):=fun b o e=> by
 by_cases hb:b=p
 ·subst hb;rw [bu,←hp,e]
 ·rw [aJ hb];exact h b o hb e
theorem lP(T:Txt K mg t):aL P w K mg base CX0 1 t.a_x32 t.d_x32 ["_law_purse_here","_law_many"] (bp K rV):=by
 refine T.F_x32.ok uh (fun vs H Q E h=> ?_) (fun cdv A outer s H vs Q E hr h=> ?_)
 ·obtain⟨O,ds,Qd,_,r,⟨z,rfl,_⟩,_⟩:=h;exact r.length
 ·obtain⟨O,ds,Qd,tr,r,⟨z,rfl,z0,z1,qq⟩,k⟩:=h
  cases r with
  | cons r1 r2=>
   cases r2 with
   | cons r2 r3=>
    cases r3
    cases r2
    cases r1 with
    | @purse p hp hn=>
     refine⟨_,bQ.purse (cA (nN (bh bI (fS bO (pv 0) bb (fun _ _=> rfl)) bb) (p8 (pv 0) bb qB))
   (cA (dq (i:=2) uh.nd rfl (by walk_at "o") (fS bO (pv 0) bb (fun _ _=> rfl)))
   (cA (nN (bh eJ (bh bI (bh eY (pv 2) (bh bI (bh eJ (pv 2) bb) bb)) (bh eY bb (fS bO (pv 0) bb (fun _ _=> rfl)))) bb) (p8 (pv 0) bb qB))
   (cA (j4 (gM gL (fS bO (pv 0) bb (fun _ _=> rfl)) bb (aD _)) (cA (nN (bW C9 rfl T.n_divmod Ew (bC (fS bO (pv 0) bb (fun _ _=> rfl)) (bC (pv 1) cm))) (fG (n:=2) rfl (cx (p8 (pv 0) bb qB) (cx (aS (i:=3) uh.nd rfl (by walk_at "o")) fF))))
   (dN (d9 (pv 3)))) j3)
   (dN (d9 (bh eJ (bh iA (fS bO (pv 0) bb (fun _ _=> rfl)) bb) (pv 1)))))))),p,hp,fun a b c=> ?_⟩
     walk_at "rd"
     refine kN (aX.of bu) rfl ⟨c,rfl,p,[.int a,.int b,.int c],2,2,rfl,rfl,bu,rfl,?_⟩
     refine kN (aX.of bu) rfl ⟨a,rfl,a,rfl,.inr ⟨by omega,by omega⟩,?_⟩
     refine kN (aX.of bu) rfl ⟨c+1,rfl,p,[.int a,.int b,.int (c+1)],0,0,rfl,rfl,bu,rfl,?_⟩
     generalize (a*(a % 44497+21701)+86243*(c+1))% 2147483579=a'
     refine kN (aX.of bu) rfl ⟨b,rfl,?_⟩
     split
     ·refine kN (aX.of bu) rfl ⟨b,rfl,z0,by omega,fun q hq=> ?_⟩
      have hpq:p≠q:=cZ bu hq
      refine⟨_,bw.of bu,rfl,_,_,rfl,p,[.int a',.int b,.int (c+1)],1,1,rfl,rfl,by rw [aJ hpq,bu];rfl,rfl,?_⟩
      refine⟨_,_,rfl,rfl,⟨_,_,_,bu⟩,k _ _ _ (qq (b % z) (Qf _ (by omega)) (PJ _ z0)) (BF hp fun x o hx e=> ?_) (.int _)⟩
      have hxq:x≠q:=fun y=> by
       subst y
       rw [aJ hx,aJ hx,aJ hx] at hq;rw [hq] at e;cases e
      rw [aJ hx,aJ hxq,aJ hx,aJ hx,aJ hx];exact e
     ·refine kN (aX.of bu) rfl ⟨a',rfl,z0,⟨_,_,_,bu⟩,k _ _ _ (qq (a' / 16 % z) (Qf _ (by omega)) (PJ _ z0)) (BF hp fun x o hx e=> ?_) (.int _)⟩
      rw [aJ hx,aJ hx,aJ hx];exact e
def I0:List PyData→(PyData→Prop)→Prop:=fun ds Q=> ∃c:Int,ds=[.int c]∧Q ft
theorem BG(T:Txt K mg t):aL P w K mg base CX0 1 t.a_x31 t.d_x31 ["_law_cell_here"] (bp K I0):=by
 refine T.F_x31.ok ug (fun vs H Q E h=> ?_) (fun cdv A outer s H vs Q E hr h=> ?_)
 ·obtain⟨O,ds,Qd,_,r,⟨z,rfl,_⟩,_⟩:=h;exact r.length
 ·obtain⟨O,ds,Qd,tr,r,⟨c,rfl,qq⟩,k⟩:=h
  cases r with
  | cons r1 r2=>
   cases r2
   cases r1
   refine⟨_,bQ.newPurse (cA (dq (i:=1) ug.nd rfl (by walk_at "o") bb)
   (cA (j4 (PW.pt (vb (gM qr (pv 0) bb (aD _)) (u9 (gM vK (pv 0) (bh C1 bb bb) (aD _))))) (dN (dq (i:=1) ug.nd rfl (by walk_at "o") (bW C8 rfl T.n_abs PyProof.Rows.boot_abs (bC (pv 0) cm)))) j3)
   (dN (d9 (vZ (bC (bh eJ (pv 0) bb) (bC (pv 1) (bC bb cm)))))))),?_⟩
   walk_at "rd"
   have fin:∀(x y z:Int)(p:Addr),H p=none→(∃u v w,au H p (HO.lst [V.int x,V.int y,V.int z]) p=some (HO.lst [V.int u,V.int v,V.int w]))∧Q (V.ref p) (au (au H p (HO.lst [V.int x,V.int y,V.int z])) p (fV p)):=fun x y z p hp=>
    ⟨⟨_,_,_,bu⟩,k _ _ _ qq (fun b o e=> by rw [aJ (cZ e hp),aJ (cZ e hp)];exact e) (.purse bu fun h=> tr p h hp)⟩
   have sl:3≤sizeLine:=by decide
   split
   ·rw [if_pos trivial];exact⟨sl,fin _ _ _⟩
   ·refine⟨by decide,?_⟩
    split
    ·exact⟨sl,fin _ _ _⟩
    ·exact⟨sl,fin _ _ _⟩
end
end K18
open PySem L2
namespace K18
open Day
theorem BH:bz (ah gr) ["_law_purse_here","_law_many","_law_letters","_law_stem","_law_at","_law_first","_law_step"] ["_law_k","_law_letters","_law_purse_here"] 1 [2,0] {kind:=Ko,names:=[ (Kc ".0",PySem.NameKind.local),(Kc "_law_k",PySem.NameKind.local),(Kc "_law_take",Ld),(Kc "_law_letters",Ks),(Kc "_law_purse_here",Ks)],isGenerator:=false,isCoroutine:=false,more:=[]:K0}:=⟨rfl,by decide+kernel,by decide+kernel,by decide+kernel,rfl,by decide+kernel,by decide+kernel,by decide+kernel,rfl⟩
theorem BI:bz (ah gr) ["_law_purse_here","_law_many","_law_letters","_law_stem","_law_at","_law_first","_law_step"] ["_law_k","_law_stem","_law_letters","_law_at","_law_first","_law_step"] 1 [3,2,4,5,6] {kind:=Ko,names:=[ (Kc ".0",PySem.NameKind.local),(Kc "_law_k",PySem.NameKind.local),(Kc "_law_at",Ks),(Kc "_law_first",Ks),(Kc "_law_letters",Ks),(Kc "_law_stem",Ks),(Kc "_law_step",Ks)],isGenerator:=false,isCoroutine:=false,more:=[]:K0}:=⟨rfl,by decide+kernel,by decide+kernel,by decide+kernel,rfl,by decide+kernel,by decide+kernel,by decide+kernel,rfl⟩
theorem BJ:bz (ah ie) ["_law_year_here","_law_month_here","_law_number"] ["_law_k","_law_year_here"] 1 [0] {kind:=Ko,names:=[ (Kc ".0",PySem.NameKind.local),(Kc "_law_k",PySem.NameKind.local),(Kc "_law_month",Ld),(Kc "_law_year_here",Ks)],isGenerator:=false,isCoroutine:=false,more:=[]:K0}:=⟨rfl,by decide+kernel,by decide+kernel,by decide+kernel,rfl,by decide+kernel,by decide+kernel,by decide+kernel,rfl⟩
section
variable {P:Program} {w:World} {K:Kb} {mg:Str→Option Value} {base:Heap} {t:cW}
def Ja:List PyData→(PyData→Prop)→Prop:=fun ds Q=> ∃(ns:List Int)(k:Int),ds=[eO (ns.map .int),.int k]∧0≤k∧k≤1000∧∀c:Int,Q (.int c)
theorem BK(T:Txt K mg t):aL P w K mg base CX0 1 t.a_x30 t.d_x30 ["_law_script","_law_k"] (bp K Ja):=by
 refine T.F_x30.okD pj (fun ds Q h=> ?_) (fun cdv A outer s H O ds Q E hr h=> ?_)
 ·obtain⟨ns,k,rfl,_⟩:=h;rfl
 ·obtain⟨ns,k,rfl,k0,k1,q⟩:=h
  refine'⟨_,?body,?read⟩
  case body=>
   refine' aA ?s1 ?r1
   case s1=>
    refine' bH ?c2 ?a2 bJ
    case c2=> exact(aM qr eo (df (dv 1)) (df (PE.imp (bW fq rfl T.n_len Lw (bg (df (dv 0)) bx)) (bN xa))) (aD _))
    case' a2=> refine' aC ?s3
    case s3=> exact(aN (av bO FQ (df (dv 0)) (df (dv 1))))
   case' r1=> refine' aA ?s5 ?r5
   case s5=>
    refine' bG (i:=2) pj.nd rfl (by walk_at "o") ?e6 (hs:=mY)
    case e6=> exact(aV eJ dS (df (aV eY dS (df ag) (df (aV bI bX (df (aV bI bX (df (aV eY dS (df (dv 1)) (df (dv 1)))) (df (aV eY dS (df ag) (df (dv 1)))))) (df ag))))) (df ag))
   case' r5=> refine' aA ?s8 ?r8
   case s8=>
    refine' mI Lx rfl (fe (FT (df (dv 0)) iM (eT ag))) ?a9 aU ?b9
    case a9=> exact(aS (i:=3) pj.nd rfl (by walk_at "o"))
    case' b9=> refine' aC ?s10
    case' s10=> refine' bG (i:=2) pj.nd rfl (by walk_at "o") ?e11 (hs:=mY)
    case e11=> exact(aV eJ dS (df (aV bI bX (df (aV eY dS (df (dv 2)) (df ag))) (df (dv 3)))) (df ag))
   case' r8=> refine' aC ?s13
   case s13=> exact(aN (dv 2))
  case read=>
  clear hr T
  walk_at "rz"
  refine⟨_,rfl,?_⟩
  rw [Kd]
  split
  ·rename_i hlt
   obtain⟨j,rfl⟩:=LV k0
   have hj:j < ns.length:=by omega
   exact⟨_,rfl,.int ns[j],gO (by simp [hj]),q _⟩
  ·refine⟨.inl ⟨by omega,by omega⟩,_,rfl,fun i δ=> ∃(st:Int)(o:Option Sl),δ=[some (Sl.v (eO (ns.map .int))),some (Sl.v (.int k)),some (Sl.v (.int st)),o],⟨_,_,rfl⟩,?_,?_⟩
   ·rintro i x δ hx ⟨st,o,rfl⟩
    have hm:=KW hx
    unfold cf at hm
    have hm2:=O7 (Mx hm)
    obtain⟨c,_,rfl⟩:=Ky.mp hm2
    walk_at "rz"
    first | exact⟨_,_,rfl,rfl⟩ | exact⟨⟨_,rfl⟩,⟨_,rfl⟩⟩
   ·rintro δ ⟨st,o,rfl⟩
    walk_at "rz"
    exact q _
def Jb:List PyData→(PyData→Prop)→Prop:=fun ds Q=> ∃y m:Int,ds=[.int y,.int m]∧1≤m∧m≤12∧Q (.int (bf y m))
theorem BL(T:Txt K mg t):aL P w K mg base CX0 1 t.a_x34 t.d_x34 ["_law_year_here","_law_month_here"] (bp K Jb):=by
 refine T.F_x34.okD AM (fun ds Q h=> ?_) (fun cdv A outer s H O ds Q E hr h=> ?_)
 ·obtain⟨y,m,rfl,_⟩:=h;rfl
 ·obtain⟨y,m,rfl,m1,m2,q⟩:=h
  refine'⟨_,?body,?read⟩
  case body=>
   refine' aA ?s1 ?r1
   case s1=>
    generalize hG2:Qj _ _ _ _=eg2
    refine' bG (i:=2) AM.nd rfl (by walk_at "o") ?e2 (hs:=by subst hG2;exact g0)
    case' e2=> subst hG2
    exact(PE.imp (eM qv rfl T.n_int qF (bg (df (wX (dR (cn hr.units) cq (df (aV eJ dS (df (dv 0)) (df ag))) (df ag) (aD _)) (kh (mD (dR (cn hr.units) cq (df (aV eJ dS (df (dv 0)) (df ag))) (df ag) (aD _)) (kh (dR (iK hr.units) iL (df (aV eJ dS (df (dv 0)) (df ag))) (df ag) (aD _))))))) bx)) (bN rT))
   case' r1=> refine' aC ?s4
   case' s4=> generalize hG5:OX _ _ _=eg5
   refine' aN ?e5
   case' e5=> subst hG5
   refine' av bO b8 (df ?a6) ?b6
   case a6=>
    refine' fe ?f7
    case' f7=> refine' dh ?g8
    case' g8=> refine' aa ag ?w9
    case' w9=> refine' aa ?u11 ?w11
    case u11=> exact(aV bI bX (df ag) (df (dv 2)))
    case w11=> refine' kq (ds:=[.int 31,.int 30,.int 31,.int 30,.int 31,.int 31,.int 30,.int 31,.int 30,.int 31]) (by rfl)
   case b6=> exact(df (aV dz bX (df (dv 1)) (df ag)))
  case read=>
  clear hr T
  walk_at "rz"
  have ma:=pb y
  have key:∀l2:Int,l2=bf y 2→∃d,atI [Kh 31,Kh l2,Kh 31,Kh 30,Kh 31,Kh 30,Kh 31,Kh 31,Kh 30,Kh 31,Kh 30,Kh 31] (m - 1)=some d∧Q d:=fun l2 e=> by
   obtain⟨a1,a3,a4,a5,a6,a7,a8,a9,a10,a11,a12⟩:=ma
   rcases pd m1 m2 with z | z | z | z | z | z | z | z | z | z | z | z <;> subst z
   ·rw [a1] at q;exact⟨_,rfl,q⟩
   ·rw [←e] at q;exact⟨_,rfl,q⟩
   ·rw [a3] at q;exact⟨_,rfl,q⟩
   ·rw [a4] at q;exact⟨_,rfl,q⟩
   ·rw [a5] at q;exact⟨_,rfl,q⟩
   ·rw [a6] at q;exact⟨_,rfl,q⟩
   ·rw [a7] at q;exact⟨_,rfl,q⟩
   ·rw [a8] at q;exact⟨_,rfl,q⟩
   ·rw [a9] at q;exact⟨_,rfl,q⟩
   ·rw [a10] at q;exact⟨_,rfl,q⟩
   ·rw [a11] at q;exact⟨_,rfl,q⟩
   ·rw [a12] at q;exact⟨_,rfl,q⟩
  have e2:=oZ y
  unfold ld at e2
  have li:=nc y
  split
  ·rename_i h
   have h:=eq_of_beq h
   exact key _ (by rw [e2,if_pos (li.mpr (.inl h))])
  ·rename_i h
   have h:¬y % 400=0:=fun e=> h (by rw [e];rfl)
   split
   ·rename_i h4
    have h4:=eq_of_beq h4
    by_cases h100:y % 100=0
    ·have nl:¬fJ y=true:=fun z=> by rcases li.mp z with z | z;exact h z;exact z.2 h100
     have nb:¬(y % 100==0)=false:=by rw [h100];decide
     exact key _ (by rw [e2,if_neg nl,if_neg nb])
    ·exact key _ (by rw [e2,if_pos (show fJ y=true from li.mpr (.inr ⟨h4,h100⟩)),if_pos (show(y % 100==0)=false by simpa using h100)])
   ·rename_i h4
    have h4:¬y % 4=0:=fun e=> h4 (by rw [e];rfl)
    exact key _ (by rw [e2,if_neg (fun z=> by rcases li.mp z with z | z;exact h z;exact h4 z.1)])
def Jc:List PyData→(PyData→Prop)→Prop:=fun ds Q=> ∃y:Int,ds=[.int y]∧Q (.int (ck y))
theorem Jd(T:Txt K mg t):aL P w K mg base CX0 1 t.a_x35 t.d_x35 ["_law_year_here"] (bp K Jc):=by
 refine T.F_x35.okD AN (fun ds Q h=> ?_) (fun cdv A outer s H O ds Q E hr h=> ?_)
 ·obtain⟨y,rfl,_⟩:=h;rfl
 ·obtain⟨y,rfl,q⟩:=h
  refine'⟨_,?body,?read⟩
  case body=>
   refine' aA ?s1 ?r1
   case s1=> exact(bG (i:=0) AN.nd rfl (by walk_at "o") (aV dz bX (df (dv 0)) (df ag)))
   case' r1=> refine' aC ?s3
   case' s3=> generalize hG4:Expr.BinOp _ _ _ _=eg4
   refine' aN ?e4
   case' e4=> subst hG4
   exact(aV dz bX (df (aV bI bX (df (aV dz bX (df (aV bI bX (df (aV eY dS (df ag) (df (aV dz bX (df (dv 0)) (df ag))))) (df (aV iA dS (df (dv 0)) (df ag))))) (df (aV iA dS (df (dv 0)) (df ag))))) (df (aV iA dS (df (dv 0)) (df ag))))) (df ag))
  case read=>
  clear hr T
  walk_at "rz"
  have e:365*(y - 1 - 1999)+(y - 1)/ 4 - (y - 1)/ 100+(y - 1)/ 400 - 484=ck y:=by
   unfold ck lb;omega
  rw [e];exact q
def BM:List PyData→(PyData→Prop)→Prop:=fun ds Q=> ∃y m n:Int,ds=[.int y,.int m,.int n]∧1≤m∧m≤12∧Q (.int (gi y m n))
theorem Je(T:Txt K mg t):aL P w K mg base CX0 2 t.a_x36 t.d_x36 ["_law_year_here","_law_month_here","_law_number"] (bp K BM):=by
 have G_x35:=Jd (P:=P) (w:=w) (base:=base) T
 have G_x34:=BL (P:=P) (w:=w) (base:=base) T
 refine T.F_x36.okD Hv (fun ds Q h=> ?_) (fun cdv A outer s H O ds Q E hr h=> ?_)
 ·obtain⟨y,m,n,rfl,_⟩:=h;rfl
 ·obtain⟨y,m,n,rfl,m1,m2,q⟩:=h
  refine'⟨_,?body,?read⟩
  case body=>
   refine' aC ?s1
   case' s1=> refine' aN ?e2
   case e2=> exact(aV dz bX (df (aV bI bX (df (aV bI bX (df (PE.imp (aq G_x35 (hr.mono (by decide)) rfl T.m_x35 T.F_x35.kp T.b_x35 .nil ao (aa (dv 0) ai)) az)) (df (PE.imp (bW (wI rfl) rfl T.n_sum OV (bg (df (fe (Fo rfl BJ rfl T.n_range (bg (df ag) (bg (df (dv 1)) bx)) aU cB (by decide) (fun _ _ _ _=> (aS (i:=0) BJ.nd rfl (by walk_at "o"))) (fun _ _ _ _=> gf) (fun _ _ _ _=> (PE.imp (aq G_x34 (hr.mono (by decide)) rfl T.m_x34 T.F_x34.kp T.b_x34 .nil ao (aa (dv 1) (aa (dv 0) ai))) az))))) bx)) (bN G5))))) (df (dv 2)))) (df ag))
  case read=>
  clear hr T G_x35 G_x34
  walk_at "rz"
  refine⟨y,rfl,by have:((16777216:Nat):Int)=16777216:=rfl;omega,by omega,by omega,?_⟩
  refine xQ (fun x=> match x with | .int i=> .int (bf y i) | _=> .none) (fun x hx R hR=> ?_) ?_
  ·obtain⟨i,hi⟩:=My hx
   obtain⟨hlt,rfl⟩:=kY hi
   walk_at "rz"
   exact⟨y,1+(i:Int),rfl,by omega,by omega,hR⟩
  ·refine⟨(Lp (m - 1).toNat).map fun(i:Nat)=> bf y (1+(i:Int)),by unfold iI;rw [KY,KY];rfl,_,rfl,?_⟩
   exact q
def pN(ss:List Str):Prop:=∀s∈ss,cy 20 s
def uD:List Str:=["paper","rule","keep","gone","deep","first","kind","leave"]
theorem Jf:∀z∈uD,cy 20 z:=by
 intro z hz
 have a:uD.all (fun z=> Kr z && decide (z.length≤20))=true:=by decide+kernel
 have:=MB.mp a z hz
 simp only [Lf,decide_eq_true_eq] at this
 exact⟨this.1,this.2⟩
def Jg:List PyData→(PyData→Prop)→Prop:=fun ds Q=> ds=[ft,.int 8]∧∀ss:List Str,ss.length=8→pN ss→Q (.list (ss.map .str))
theorem Jh(T:Txt K mg t):aL P w K mg base CX0 2 t.a_x33 t.d_x33 ["_law_purse_here","_law_many"] (bp K Jg):=by
 have G_x32:=lP (P:=P) (w:=w) (base:=base) T
 refine T.F_x33.okD lJ (fun ds Q h=> ?_) (fun cdv A outer s H O ds Q E hr h=> ?_)
 ·obtain⟨rfl,_⟩:=h;rfl
 ·obtain⟨rfl,q⟩:=h
  refine'⟨_,?body,?read⟩
  case body=>
   refine' aA ?s1 ?r1
   case s1=> exact(bG (i:=2) lJ.nd rfl (by walk_at "o") aP)
   case' r1=> refine' aA ?s3 ?r3
   case s3=>
    refine' bG (i:=3) lJ.nd rfl (by walk_at "o") ?e4 (hs:=g0)
    case e4=> exact(EM aP (df (fe (wZ rfl BH rfl T.n_range (bg (df (PE.imp (aq G_x32 (hr.mono (by decide)) rfl T.m_x32 T.F_x32.kp T.b_x32 .nil ao (aa (dv 0) (aa ag ai))) az)) bx) aU cB (by decide) (fun _ _ _ _=> (aS (i:=0) BH.nd rfl (by walk_at "o"))) (fun _ _ _ _=> gf) (fun _ _ _ _=> (av wu xf (df (dv 1)) (df (PE.imp (aq G_x32 (hr.mono (by decide)) rfl T.m_x32 T.F_x32.kp T.b_x32 .nil ao (aa (dv 2) (aa ag ai))) az))))))))
   case' r3=> refine' aA ?s6 ?r6
   case s6=>
    refine' bG (i:=4) lJ.nd rfl (by walk_at "o") ?e7 (hs:=g0)
    case e7=> exact(PE.imp (aq G_x32 (hr.mono (by decide)) rfl T.m_x32 T.F_x32.kp T.b_x32 .nil ao (aa (dv 0) (aa (aV bI bX (df (PE.imp (bW D1 rfl T.n_len Lw (bg (df (dv 3)) bx)) (bN Fp))) (df ag)) ai))) az)
   case' r6=> refine' aA ?s9 ?r9
   case s9=>
    generalize hE10_0:Qk _ _=ee10_0
    exact(qW (bD (aa (PE.imp (aq G_x32 (hr.mono (by decide)) rfl T.m_x32 T.F_x32.kp T.b_x32 .nil ao (aa (dv 0) (aa ag ai))) az) (aa (av bO b8 (df (fe (sf (ds:=[.int 1,.int 3,.int 5,.int 7,.int 9,.int 11]) (by first | (subst hE10_0;rfl))))) (df (PE.imp (aq G_x32 (hr.mono (by decide)) rfl T.m_x32 T.F_x32.kp T.b_x32 .nil ao (aa (dv 0) (aa ag ai))) az))) ai))) (fG (n:=2) rfl (cx (aS (i:=5) lJ.nd rfl (by walk_at "o")) (cx (aS (i:=6) lJ.nd rfl (by walk_at "o")) fF))) (fY (cE aU (cE aU fX))))
   case' r9=> refine' aA ?s11 ?r11
   case s11=>
    refine' bH ?c12 ?a12 bJ
    case c12=> exact(aM (cn hr.units) cq (df (PE.imp (aq G_x32 (hr.mono (by decide)) rfl T.m_x32 T.F_x32.kp T.b_x32 .nil ao (aa (dv 0) (aa ag ai))) az)) (df ag) (aD _))
    case' a12=> refine' aC ?s13
    case' s13=> generalize hE14_0:Qk _ _=ee14_0
    exact(aN (fe (mM (df (fe (sf (ds:=[.str "paper",.str "rule",.str "keep",.str "gone",.str "deep",.str "first",.str "kind",.str "leave"]) (by first | (subst hE14_0;rfl))))) iM (eT (dv 1)))))
   case' r11=> refine' aC ?s15
   case' s15=> refine' aN ?e16
   case' e16=> refine' fe ?f17
   case f17=> exact(wZ rfl BI rfl T.n_range (bg (df (dv 1)) bx) aU cB (by decide) (fun _ _ _ _=> (aS (i:=0) BI.nd rfl (by walk_at "o"))) (fun _ _ _ _=> gf) (fun _ _ _ _=> (aV vP xc (df (aV vP xc (df (xh (df (dv 1)) iM (eT (dv 3)))) (df (av wu xf (df (dv 2)) (df (aV eJ dS (df (aV bI bX (df (dv 4)) (df (aV eY dS (df (dv 5)) (df (dv 0)))))) (df ag))))))) (df (xh (df (dv 1)) (eT (dv 3)) iM)))))
  case read=>
  clear hr T G_x32
  walk_at "rz"
  refine⟨8,rfl,by decide,by decide,fun j j0 j8=> ⟨j,rfl,by omega,by have:((16777216:Nat):Int)=16777216:=rfl;omega,?_⟩⟩
  refine⟨fun i acc=> ∃ys:List Str,acc=ys.map .str∧ys.length=i∧∀y∈ys,cy 1 y,⟨[],rfl,rfl,by simp⟩,?_,?_⟩
  ·rintro i z acc hz ⟨ys,rfl,hl,hg⟩
   obtain⟨hi,rfl⟩:=kY hz
   walk_at "rz"
   refine⟨26,rfl,by decide,by decide,fun a a0 a1=> ?_⟩
   obtain⟨x,e1,_,x1⟩:=xB a0 a1
   refine⟨_,rfl,by decide+kernel,x,e1,ys++[⟨#[x]⟩],by rw [KZ];rfl,by simp [hl],fun z hz=> ?_⟩
   rcases KL.mp hz with h | h
   ·exact hg z h
   ·rw [KP] at h;rw [h];exact cy.chr x1
  ·rintro acc ⟨ys,rfl,hl,hg⟩
   rw [oF] at hl
   have gj:=cy.join hg
   have sl:(ys.map fun x=> x.length).sum≤ys.length:=by
    clear hl gj
    induction ys with
    | nil=> simp
    | cons y ys ih=>
     rw [Kj,Qq,Kw]
     have:=(hg y (by simp)).le
     have:=ih fun z hz=> hg z (by simp [hz])
     omega
   have l7:ys.length≤7:=by omega
   refine⟨ys,rfl,?_⟩
   generalize hst:Txt.join (Ka "") ys=st
   have gs:cy 7 st:=by rw [←hst];exact gj.mono l7
   have e0:(Ka "").length=0:=by decide+kernel
   have gl:=gs.le
   refine⟨by rw [e0];omega,by omega,_,rfl,by omega,by omega,fun at0 a0 a1=> ⟨26,rfl,by decide,by decide,fun fs f0 f1=> ⟨6,rfl,by decide,by decide,fun sx s0 s1=> ⟨_,rfl,?_⟩⟩⟩⟩
   have six:∃sp:Int,atI [Kh 1,Kh 3,Kh 5,Kh 7,Kh 9,Kh 11] sx=some (.int sp)∧0≤sp∧sp≤11:=by
    have:sx=0∨sx=1∨sx=2∨sx=3∨sx=4∨sx=5:=by omega
    rcases this with h | h | h | h | h | h <;> subst h
    ·exact⟨1,rfl,by decide,by decide⟩
    ·exact⟨3,rfl,by decide,by decide⟩
    ·exact⟨5,rfl,by decide,by decide⟩
    ·exact⟨7,rfl,by decide,by decide⟩
    ·exact⟨9,rfl,by decide,by decide⟩
    ·exact⟨11,rfl,by decide,by decide⟩
   obtain⟨sp,hsp,p0,p1⟩:=six
   refine⟨_,hsp,8,rfl,by decide,by decide,fun v v0 v1=> ⟨gZ,?_⟩⟩
   rw [kX]
   split
   ·exact q uD rfl Jf
   ·refine⟨by decide,fun i acc=> ∃ys:List Str,acc=ys.map .str∧ys.length=i∧∀y∈ys,cy 20 y,⟨[],rfl,rfl,by simp⟩,?_,?_⟩
    ·rintro i z acc hz ⟨zs,rfl,hl2,hg2⟩
     obtain⟨hi,rfl⟩:=kY hz
     walk_at "rz"
     have g1:=gs.slice none (some at0)
     have g2:=gs.slice (some at0) none
     obtain⟨x,e1,_,x1⟩:=xB (j:=(fs+sp*(0+(i:Int)))% 26) (by omega) (by omega)
     have lx:(⟨#[x]⟩:Str).length=1:=rfl
     have l1:=g1.le
     have l2:=g2.le
     have ga:=(g1.append (cy.chr x1)).append g2
     have gal:=ga.le
     refine⟨by omega,.inl ⟨by omega,by omega⟩,by decide+kernel,x,e1,by rw [lx];omega,by omega,by rw [xA,lx];omega,zs++[_],by rw [KZ];rfl,by simp [hl2],fun z hz=> ?_⟩
     rcases KL.mp hz with h | h
     ·exact hg2 z h
     ·rw [KP] at h;rw [h];exact ga.mono (by omega)
    ·rintro acc ⟨zs,rfl,hl2,hg2⟩
     rw [oF] at hl2
     exact q zs hl2 hg2
end
end K18
open PySem L2
namespace K18
open Day
theorem BN:bz (ah ig) ["_law_purse_here","_law_word","_law_names_here","_law_kinds","_law_far","_law_day_here","_law_name","_law_some","_law_kind","_law_target"] ["_law_one","_law_purse_here"] 1 [0] {kind:=Ko,names:=[ (Kc ".0",PySem.NameKind.local),(Kc "_law_one",PySem.NameKind.local),(Kc "_law_take",Ld),(Kc "_law_purse_here",Ks)],isGenerator:=false,isCoroutine:=false,more:=[]:K0}:=⟨rfl,by decide+kernel,by decide+kernel,by decide+kernel,rfl,by decide+kernel,by decide+kernel,by decide+kernel,rfl⟩
section
variable {P:Program} {w:World} {K:Kb} {mg:Str→Option Value} {base:Heap} {t:cW}
def Ji:List PyData→(PyData→Prop)→Prop:=fun ds Q=> ∃far:Int,ds=[ft,.int far]∧∀d:Int,0≤d→d < 100000→Q (.int d)
theorem lQ{a b:PyData}{i:Int}(h0:0≤i)(h1:i < 2):∃d,atI [a,b] i=some d∧(d=a∨d=b):=by
 have:i=0∨i=1:=by omega
 rcases this with e | e <;> subst e
 ·exact⟨_,cT,.inl rfl⟩
 ·exact⟨_,cU,.inr rfl⟩
theorem Jj{y m n:Int}(y0:2000≤y)(y1:y≤2269)(m1:1≤m)(m2:m≤12)(n1:1≤n)(n2:n≤bf y m):0≤gi y m n∧gi y m n < 100000:=by
 have ba:=t6 (y:=y) m1 m2
 have ld:=Av y
 have ys:0≤ck y∧ck y≤98300:=by unfold ck lb;omega
 unfold gi
 omega
theorem Jk(T:Txt K mg t):aL P w K mg base CX0 3 t.a_x37 t.d_x37 ["_law_purse_here","_law_far"] (bp K Ji):=by
 have G_x32:=lP (P:=P) (w:=w) (base:=base) T
 have G_x34:=BL (P:=P) (w:=w) (base:=base) T
 have G_x36:=Je (P:=P) (w:=w) (base:=base) T
 refine T.F_x37.okD AO (fun ds Q h=> ?_) (fun cdv A outer s H O ds Q E hr h=> ?_)
 ·obtain⟨far,rfl,_⟩:=h;rfl
 ·obtain⟨far,rfl,q⟩:=h
  refine'⟨_,?body,?read⟩
  case body=>
   refine' aA ?s1 ?r1
   case s1=>
    refine' bH ?c2 ?a2 bJ
    case c2=> exact(aM (cn hr.units) cq (df (dv 1)) (df ag) (aD _))
    case' a2=> refine' aC ?s3
    case s3=> exact(aN (PE.imp (aq G_x32 (hr.mono (by decide)) rfl T.m_x32 T.F_x32.kp T.b_x32 .nil ao (aa (dv 0) (aa ag ai))) az))
   case' r1=> refine' aA ?s5 ?r5
   case s5=>
    refine' bH ?c6 ?a6 bJ
    case c6=> exact(aM (cn hr.units) cq (df (PE.imp (aq G_x32 (hr.mono (by decide)) rfl T.m_x32 T.F_x32.kp T.b_x32 .nil ao (aa (dv 0) (aa ag ai))) az)) (df ag) (aD _))
    case' a6=> refine' aC ?s7
    case s7=> exact(aN (PE.imp (aq G_x32 (hr.mono (by decide)) rfl T.m_x32 T.F_x32.kp T.b_x32 .nil ao (aa (dv 0) (aa ag ai))) az))
   case' r5=> refine' aA ?s9 ?r9
   case s9=> exact(qY (i:=2) (j:=3) rfl AO.nd rfl rfl (by decide) rfl rfl (aa (aV bI bX (df ag) (df (PE.imp (aq G_x32 (hr.mono (by decide)) rfl T.m_x32 T.F_x32.kp T.b_x32 .nil ao (aa (dv 0) (aa ag ai))) az))) (aa (aV bI bX (df ag) (df (PE.imp (aq G_x32 (hr.mono (by decide)) rfl T.m_x32 T.F_x32.kp T.b_x32 .nil ao (aa (dv 0) (aa ag ai))) az))) ai)) (by rfl))
   case' r9=> refine' aC ?s11
   case' s11=> refine' aN ?e12
   case e12=> exact(PE.imp (aq G_x36 (hr.mono (by decide)) rfl T.m_x36 T.F_x36.kp T.b_x36 .nil ao (aa (dv 2) (aa (dv 3) (aa (av bO b8 (df (fe (dh (aa ag (aa (aV dz bX (df (PE.imp (aq G_x34 (hr.mono (by decide)) rfl T.m_x34 T.F_x34.kp T.b_x34 .nil ao (aa (dv 2) (aa (dv 3) ai))) az)) (df (PE.imp (aq G_x32 (hr.mono (by decide)) rfl T.m_x32 T.F_x32.kp T.b_x32 .nil ao (aa (dv 0) (aa ag ai))) az))) ai))))) (df (PE.imp (aq G_x32 (hr.mono (by decide)) rfl T.m_x32 T.F_x32.kp T.b_x32 .nil ao (aa (dv 0) (aa ag ai))) az))) ai)))) az)
  case read=>
  clear hr T G_x32 G_x34 G_x36
  walk_at "rz"
  split
  ·exact⟨41,rfl,by decide,by decide,fun d d0 d1=> q d d0 (by omega)⟩
  ·refine⟨2,rfl,by decide,by decide,fun v v0 v1=> ⟨gZ,?_⟩⟩
   rw [kX]
   split
   ·exact⟨100000,rfl,by decide,by decide,fun d d0 d1=> q d d0 d1⟩
   ·refine⟨270,rfl,by decide,by decide,fun y y0 y1=> ⟨_,rfl,12,rfl,by decide,by decide,fun m m0 m1=> ⟨_,rfl,?_⟩⟩⟩
    refine⟨2000+y,1+m,rfl,by omega,by omega,4,rfl,by decide,by decide,fun z z0 z1=> ⟨_,rfl,_,rfl,2,rfl,by decide,by decide,fun e e0 e1=> ⟨_,rfl,?_⟩⟩⟩
    have mb:=Ay (y:=2000+y) (m:=1+m) (by omega) (by omega)
    have nb:∀n,1≤n→n≤bf (2000+y) (1+m)→BM [.int (2000+y),.int (1+m),.int n] Q:=fun n n1 n2=> by
     have:=Jj (y:=2000+y) (m:=1+m) (n:=n) (by omega) (by omega) (by omega) (by omega) n1 n2
     exact⟨_,_,_,rfl,by omega,by omega,q _ this.1 this.2⟩
    obtain⟨d,hd,hd'⟩:=lQ (a:=Kh 1) (b:=Kh (bf (2000+y) (1+m) - z)) e0 e1
    refine⟨d,hd,?_⟩
    rcases hd' with h | h <;> rw [h]
    ·exact nb 1 (by omega) (by omega)
    ·exact nb _ (by omega) (by omega)
structure uE (ns ks:List Str) (far:Int):Prop where
 nl:ns.length=8
 no:pN ns
 k0:2≤ks.length
 k1:ks.length≤3
 ko:pN ks
 f0:0≤far
 f1:far≤1
def Jl:List PyData→(PyData→Prop)→Prop:=fun ds Q=> ∃(wo:Str)(ns ks:List Str)(far:Int),ds=[ft,.str wo,.list (ns.map .str),.list (ks.map .str),.int far]∧Kr wo=true∧uE ns ks far∧∀pt:Pt,pt.Ok→pt.wd=wo→Q pt.enc
theorem jr{ss:List Str}{i:Int}(h0:0≤i)(h1:i < ss.length):∃s∈ss,atI (ss.map Kf) i=some (.str s):=by
 obtain⟨k,rfl⟩:=LV h0
 have hk:k < ss.length:=by omega
 exact⟨ss[k],L3 hk,gO (by simp [hk])⟩
theorem Jm(T:Txt K mg t):aL P w K mg base CX0 2 t.a_x38 t.d_x38 ["_law_purse_here","_law_word","_law_names_here","_law_kinds","_law_far"] (bp K Jl):=by
 have G_x32:=lP (P:=P) (w:=w) (base:=base) T
 refine T.F_x38.okD pA (fun ds Q h=> ?_) (fun cdv A outer s H O ds Q E hr h=> ?_)
 ·obtain⟨wo,ns,ks,far,rfl,_⟩:=h;rfl
 ·obtain⟨wo,ns,ks,far,rfl,hw,dr,q⟩:=h
  refine'⟨_,?body,?read⟩
  case body=>
   refine' aA ?s1 ?r1
   case s1=>
    refine' bG (i:=5) pA.nd rfl (by walk_at "o") ?e2 (hs:=ku)
    case' e2=> refine' av bO b8 (df (dv 3)) ?b3
    case b3=> exact(df (PE.imp (aq G_x32 (hr.mono (by decide)) rfl T.m_x32 T.F_x32.kp T.b_x32 .nil ao (aa (dv 0) (aa (PE.imp (bW fq rfl T.n_len Lw (bg (df (dv 3)) bx)) (bN fZ)) ai))) az))
   case' r1=> refine' aA ?s5 ?r5
   case s5=>
    refine' bH ?c6 ?a6 bJ
    case c6=> exact(aM (xF hr) lq (df (dv 1)) (df (bD (aa aP (aa aP ai)))) rfl)
    case' a6=> refine' aC ?s7
    case s7=> exact(aN (bD (aa (dv 1) (aa (dv 5) ai))))
   case' r5=> refine' aA ?s9 ?r9
   case s9=>
    generalize hG10:OX _ _ _=eg10
    refine' bG (i:=6) pA.nd rfl (by walk_at "o") ?e10 (hs:=by subst hG10;exact ku)
    case' e10=> subst hG10
    refine' av bO b8 (df ?a11) ?b11
    case a11=>
     refine' fe ?f12
     case' f12=> refine' dh ?g13
     case' g13=> refine' aa ?u14 ?w14
     case u14=> exact(bD (aa aP ai))
     case' w14=> refine' aa ?u16 ?w16
     case u16=> exact(bD (aa aP (aa (av bO b8 (df (dv 2)) (df ag)) ai)))
     case' w16=> refine' aa ?u18 ai
     case' u18=> refine' bD ?t19
     case' t19=> refine' aa aP ?w20
     case' w20=> refine' aa ?u22 ai
     case' u22=> refine' av bO b8 (df (dv 2)) ?b23
     case b23=> exact(df (aV bI bX (df ag) (df (PE.imp (aq G_x32 (hr.mono (by decide)) rfl T.m_x32 T.F_x32.kp T.b_x32 .nil ao (aa (dv 0) (aa ag ai))) az))))
    case b11=> exact(df (PE.imp (aq G_x32 (hr.mono (by decide)) rfl T.m_x32 T.F_x32.kp T.b_x32 .nil ao (aa (dv 0) (aa ag ai))) az))
   case' r9=> refine' aA ?s27 ?r27
   case s27=>
    refine' bH ?c28 ?a28 bJ
    case c28=> exact(aM (cn hr.units) cq (df (dv 4)) (df ag) (aD _))
    case' a28=> refine' aC ?s29
    case' s29=> refine' aN ?e30
    case' e30=> refine' bD ?t31
    case' t31=> refine' aa (dv 1) ?w32
    case' w32=> refine' aa (dv 5) ?w34
    case' w34=> refine' aa (dv 6) ?w36
    case' w36=> refine' aa ?u38 ?w38
    case u38=> exact(PE.imp (aq G_x32 (hr.mono (by decide)) rfl T.m_x32 T.F_x32.kp T.b_x32 .nil ao (aa (dv 0) (aa ag ai))) az)
    case w38=> refine' aa aP ai
   case' r27=> refine' aA ?s43 ?r43
   case s43=>
    refine' bG (i:=7) pA.nd rfl (by walk_at "o") ?e44 (hs:=g0)
    case e44=> exact(PE.imp (aq G_x32 (hr.mono (by decide)) rfl T.m_x32 T.F_x32.kp T.b_x32 .nil ao (aa (dv 0) (aa (av bO b8 (df (fe (dh (kq (ds:=[.int 1000,.int 14,.int 30]) (by rfl))))) (df (PE.imp (aq G_x32 (hr.mono (by decide)) rfl T.m_x32 T.F_x32.kp T.b_x32 .nil ao (aa (dv 0) (aa ag ai))) az))) ai))) az)
   case' r43=> refine' aC ?s46
   case' s46=> refine' aN ?e47
   case' e47=> refine' bD ?t48
   case' t48=> refine' aa (dv 1) ?w49
   case' w49=> refine' aa (dv 5) ?w51
   case' w51=> refine' aa (dv 6) ?w53
   case' w53=> refine' aa (dv 7) ?w55
   case' w55=> refine' aa ?u57 ai
   case' u57=> refine' av bO b8 (df ?a58) ?b58
   case a58=> exact(fe (dh (kq (ds:=[.str "days",.str "months",.str "years"]) (by rfl))))
   case b58=> exact(df (PE.imp (aq G_x32 (hr.mono (by decide)) rfl T.m_x32 T.F_x32.kp T.b_x32 .nil ao (aa (dv 0) (aa ag ai))) az))
  case read=>
  clear hr T G_x32
  walk_at "rz"
  refine⟨_,rfl,by rw [Kd];have:=dr.k0;omega,by rw [Kd];have:=dr.k1;omega,fun i i0 i1=> ⟨_,rfl,?_⟩⟩
  rw [Kd] at i1
  obtain⟨kd,hk,ek⟩:=jr i0 i1
  have kok:=(dr.ko kd hk).ok
  refine⟨_,ek,bR.mpr hw,by decide+kernel,?_⟩
  by_cases hg:KG wo
  ·rw [if_neg (by rcases hg with e | e <;> rw [e] <;> decide+kernel)]
   have nl:=dr.nl
   obtain⟨n6,h6,e6⟩:=jr (ss:=ns) (i:=6) (by decide) (by omega)
   refine⟨_,e6,2,rfl,by decide,by decide,fun j j0 j1=> ⟨_,rfl,?_⟩⟩
   obtain⟨n7,h7,e7⟩:=jr (ss:=ns) (i:=6+j) (by omega) (by omega)
   refine⟨_,e7,3,rfl,by decide,by decide,fun v v0 v1=> ⟨_,rfl,?_⟩⟩
   have sn:∃s:dJ,s.Ok∧atI [KH [Kf (Ka "coming")],KH [Kf (Ka "first"),.str n6],KH [Kf (Ka "last"),.str n7]] v=some s.enc:=by
    have:v=0∨v=1∨v=2:=by omega
    rcases this with e | e | e <;> subst e
    ·exact⟨.com,trivial,rfl⟩
    ·exact⟨.fst n6,(dr.no n6 h6).ok,rfl⟩
    ·exact⟨.lst n7,(dr.no n7 h7).ok,rfl⟩
   obtain⟨sn,so,es⟩:=sn
   refine⟨_,es,?_⟩
   have fin:∀(k:Int)(u:Str),0≤k→k < 1000→kx u→Q (KH [Kf wo,.str kd,sn.enc,.int k,.str u]):=fun k u k0 k1 hu=> q (.five wo kd sn k u) ⟨hg,kok,so,k0,k1,hu⟩ rfl
   split
   ·exact⟨21,rfl,by decide,by decide,fun k k0 k1=> fin k _ k0 (by omega) (.inl rfl)⟩
   ·refine⟨3,rfl,by decide,by decide,fun a a0 a1=> ⟨_,rfl,?_⟩⟩
    have mx:∃z:Int,0 < z∧z≤1000∧atI [Kh 1000,Kh 14,Kh 30] a=some (.int z):=by
     have:a=0∨a=1∨a=2:=by omega
     rcases this with e | e | e <;> subst e
     ·exact⟨1000,by decide,by decide,rfl⟩
     ·exact⟨14,by decide,by decide,rfl⟩
     ·exact⟨30,by decide,by decide,rfl⟩
    obtain⟨z,z0,z1,ez⟩:=mx
    refine⟨_,ez,z,rfl,z0,by omega,fun k k0 k1=> ⟨3,rfl,by decide,by decide,fun b b0 b1=> ⟨_,rfl,?_⟩⟩⟩
    have:b=0∨b=1∨b=2:=by omega
    rcases this with e | e | e <;> subst e
    ·exact⟨_,cT,fin k _ k0 (by omega) (.inl rfl)⟩
    ·exact⟨_,cU,fin k _ k0 (by omega) (.inr (.inl rfl))⟩
    ·exact⟨_,mO,fin k _ k0 (by omega) (.inr (.inr rfl))⟩
  ·rw [if_pos (by
    rw [bL (fun e=> hg (.inl e.symm)),bL (fun e=> hg (.inr e.symm))];rfl)]
   exact q (.two wo kd) ⟨hg,hw,kok⟩ rfl
structure gE (x:De):Prop where
 w:Kr x.w=true
 nm:Kr x.nm=true
 d0:0≤x.d∧x.d < 100000
 ly:bU 4 x.enc
 pp:∀p,x= .pap p→Kr p.kd=true∧(∀m∈p.ms,Kr m=true)∧p.ms.length≤50
 np:∀w d nm r,x= .oth w d nm r→w≠Ka "paper"
 hp:∀d nm r,x= .oth (Ka "happens") d nm r→∃wd,r=[.str wd]∧Kr wd=true
 ru:∀d nm r,x= .oth (Ka "rule") d nm r→∃pt:Pt,r=[pt.enc]∧pt.Ok
def lR:List Str:=["paper","happens","end","lift","hold","permit"]
def Jn(wo:Str)(x:De):Prop:=∀d nm(pt:Pt),x= .oth (Ka "rule") d nm [pt.enc]→pt.wd=wo∧wo ∉ lR
def Jo:List PyData→(PyData→Prop)→Prop:=fun ds Q=> ∃(wo:Str)(ns ks:List Str)(far:Int),ds=[ft,.str wo,.list (ns.map .str),.list (ks.map .str),.int far]∧Kr wo=true∧uE ns ks far∧∀x:De,gE x→(wo=Ka "paper"→∃p,x= .pap p)→Jn wo x→Q x.enc
theorem Jp(T:Txt K mg t):aL P w K mg base CX0 4 t.a_x39 t.d_x39 ["_law_purse_here","_law_word","_law_names_here","_law_kinds","_law_far"] (bp K Jo):=by
 have G_x32:=lP (P:=P) (w:=w) (base:=base) T
 have G_x37:=Jk (P:=P) (w:=w) (base:=base) T
 have G_x38:=Jm (P:=P) (w:=w) (base:=base) T
 refine T.F_x39.okD lK (fun ds Q h=> ?_) (fun cdv A outer s H O ds Q E hr h=> ?_)
 ·obtain⟨wo,ns,ks,far,rfl,_⟩:=h;rfl
 ·obtain⟨wo,ns,ks,far,rfl,hw,dr,q⟩:=h
  refine'⟨_,?body,?read⟩
  case body=>
   refine' aA ?s1 ?r1
   case s1=> exact(bG (i:=5) lK.nd rfl (by walk_at "o") (PE.imp (aq G_x37 (hr.mono (by decide)) rfl T.m_x37 T.F_x37.kp T.b_x37 .nil ao (aa (dv 0) (aa (dv 4) ai))) az))
   case' r1=> refine' aA ?s3 ?r3
   case s3=> exact(bG (i:=6) lK.nd rfl (by walk_at "o") (av bO b8 (df (dv 2)) (df (PE.imp (aq G_x32 (hr.mono (by decide)) rfl T.m_x32 T.F_x32.kp T.b_x32 .nil ao (aa (dv 0) (aa ag ai))) az))))
   case' r3=> refine' aA ?s5 ?r5
   case s5=>
    refine' bH ?c6 ?a6 bJ
    case c6=> exact(aM (dF hr) dG (df (dv 1)) (df aP) (aD _))
    case' a6=> refine' aA ?s7 ?r7
    case s7=> exact(jE (i:=7) lK.nd rfl (by walk_at "o") (xE rfl BN (df (fe (mM (df (dv 2)) iM (eT ag)))) aU cB (by decide) (fun _ _ _ _=> (aS (i:=0) BN.nd rfl (by walk_at "o"))) (fun _ _ _ _=> (dA (aM (cn hr.units) cq (df (PE.imp (aq G_x32 (hr.mono (by decide)) rfl T.m_x32 T.F_x32.kp T.b_x32 .nil ao (aa (dv 1) (aa ag ai))) az)) (df ag) (aD _)))) (fun _ _ _ _=> (dv 0))))
    case' r7=> refine' aC ?s9
    case' s9=> refine' aN ?e10
    case' e10=> refine' bD ?t11
    case' t11=> refine' aa (dv 1) ?w12
    case' w12=> refine' aa (dv 5) ?w14
    case' w14=> refine' aa (dv 6) ?w16
    case' w16=> refine' aa ?u18 ?w18
    case u18=>
     refine' av bO b8 (df (dv 3)) ?b19
     case b19=> exact(df (PE.imp (aq G_x32 (hr.mono (by decide)) rfl T.m_x32 T.F_x32.kp T.b_x32 .nil ao (aa (dv 0) (aa (PE.imp (bW fq rfl T.n_len Lw (bg (df (dv 3)) bx)) (bN fZ)) ai))) az))
    case' w18=> refine' aa ?u21 ai
    case u21=> exact(PE.imp (eM fT rfl T.n_tuple fU (bg (df (fe (Fy rfl T.n_sorted Md (bg (df (fe (mM (df (dv 7)) iM (eT ag)))) bx)))) bx)) (bN gc))
   case' r5=> refine' aA ?s24 ?r24
   case s24=>
    refine' bH ?c25 ?a25 bJ
    case c25=> exact(aM (dF hr) dG (df (dv 1)) (df aP) (aD _))
    case' a25=> refine' aC ?s26
    case' s26=> refine' aN ?e27
    case' e27=> refine' bD ?t28
    case' t28=> refine' aa (dv 1) ?w29
    case' w29=> refine' aa (dv 5) ?w31
    case' w31=> refine' aa (dv 6) ?w33
    case' w33=> refine' aa ?u35 ai
    case' u35=> refine' av bO b8 (df (dv 2)) ?b36
    case b36=> exact(df (aV bI bX (df ag) (df (PE.imp (aq G_x32 (hr.mono (by decide)) rfl T.m_x32 T.F_x32.kp T.b_x32 .nil ao (aa (dv 0) (aa ag ai))) az))))
   case' r24=> refine' aA ?s39 ?r39
   case s39=>
    refine' bH ?c40 ?a40 bJ
    case c40=> exact(aM (mV hr) mW (df (dv 1)) (df (bD (aa aP (aa aP ai)))) rfl)
    case' a40=> refine' aC ?s41
    case s41=> exact(aN (bD (aa (dv 1) (aa (dv 5) (aa (dv 6) ai)))))
   case' r39=> refine' aA ?s43 ?r43
   case s43=>
    refine' bG (i:=8) lK.nd rfl (by walk_at "o") ?e44 (hs:=ku)
    case' e44=> refine' av bO b8 (df (dv 3)) ?b45
    case b45=> exact(df (PE.imp (aq G_x32 (hr.mono (by decide)) rfl T.m_x32 T.F_x32.kp T.b_x32 .nil ao (aa (dv 0) (aa (PE.imp (bW fq rfl T.n_len Lw (bg (df (dv 3)) bx)) (bN fZ)) ai))) az))
   case' r43=> refine' aA ?s47 ?r47
   case s47=>
    refine' bH ?c48 ?a48 bJ
    case c48=> exact(aM (dF hr) dG (df (dv 1)) (df aP) (aD _))
    case' a48=> refine' aA ?s49 ?r49
    case s49=>
     refine' bG (i:=9) lK.nd rfl (by walk_at "o") ?e50 (hs:=ku)
     case' e50=> refine' av bO b8 (df ?a51) ?b51
     case a51=>
      refine' fe ?f52
      case' f52=> refine' dh ?g53
      case' g53=> refine' aa ?u54 ?w54
      case u54=>
       refine' bD ?t55
       case' t55=> refine' aa aP ?w56
       case' w56=> refine' aa ?u58 ai
       case u58=> exact(av bO b8 (df (dv 2)) (df (PE.imp (aq G_x32 (hr.mono (by decide)) rfl T.m_x32 T.F_x32.kp T.b_x32 .nil ao (aa (dv 0) (aa ag ai))) az)))
      case' w54=> refine' aa ?u61 ai
      case u61=> exact(bD (aa aP (aa (dv 8) ai)))
     case b51=> exact(df (PE.imp (aq G_x32 (hr.mono (by decide)) rfl T.m_x32 T.F_x32.kp T.b_x32 .nil ao (aa (dv 0) (aa ag ai))) az))
    case' r49=> refine' aC ?s64
    case' s64=> refine' aN ?e65
    case' e65=> refine' bD ?t66
    case' t66=> refine' aa (dv 1) ?w67
    case' w67=> refine' aa (dv 5) ?w69
    case' w69=> refine' aa (dv 6) ?w71
    case' w71=> refine' aa (dv 9) ?w73
    case' w73=> refine' aa ?u75 ai
    case u75=> exact(dR (cn hr.units) cq (df (PE.imp (aq G_x32 (hr.mono (by decide)) rfl T.m_x32 T.F_x32.kp T.b_x32 .nil ao (aa (dv 0) (aa ag ai))) az)) (df ag) (aD _))
   case' r47=> refine' aA ?s78 ?r78
   case s78=>
    refine' bH ?c79 ?a79 bJ
    case c79=> exact(aM (dF hr) dG (df (dv 1)) (df aP) (aD _))
    case' a79=> refine' aC ?s80
    case s80=> exact(aN (bD (aa aP (aa (dv 5) (aa (dv 6) (aa (dv 8) ai))))))
   case' r78=> refine' aC ?s82
   case' s82=> refine' aN ?e83
   case' e83=> refine' bD ?t84
   case' t84=> refine' aa aP ?w85
   case' w85=> refine' aa (dv 5) ?w87
   case' w87=> refine' aa (dv 6) ?w89
   case' w89=> refine' aa ?u91 ai
   case u91=> exact(PE.imp (aq G_x38 (hr.mono (by decide)) rfl T.m_x38 T.F_x38.kp T.b_x38 .nil ao (aa (dv 0) (aa (dv 1) (aa (dv 2) (aa (dv 3) (aa (dv 4) ai)))))) az)
  case read=>
  clear hr T G_x32 G_x37 G_x38
  walk_at "rz"
  refine⟨far,rfl,fun d d0 d1=> ⟨6,rfl,by decide,by decide,fun i i0 i1=> ⟨_,rfl,?_⟩⟩⟩
  have nl:=dr.nl
  have k0:=dr.k0
  have k1:=dr.k1
  obtain⟨nm,hn,en⟩:=jr (ss:=ns) i0 (by omega)
  have nok:=(dr.no nm hn).ok
  refine⟨_,en,?_⟩
  have kinds:∀R:PyData→Prop,(∀kd∈ks,R (.str kd))→rV [ft,Kh ((KO Kf ks).length:Int)] fun y=> ∃x,y=Kh x∧∃x_2,atI (KO Kf ks) x=some x_2∧R x_2:=fun R hR=> by
   refine⟨_,rfl,by rw [Kd];omega,by rw [Kd];omega,fun i i0 i1=> ⟨_,rfl,?_⟩⟩
   rw [Kd] at i1
   obtain⟨kd,hk,ek⟩:=jr i0 i1
   exact⟨_,ek,hR kd hk⟩
  by_cases hp:wo=Ka "paper"
  ·rw [if_pos (by rw [hp];exact beq_self_eq_true _)]
   have ec:cf (KO Kf ns) none (some 6)=(ns.take 6).map Kf:=by
    rw [km (by decide) (by simp;omega),←NA];rfl
   rw [ec]
   refine⟨by rw [Kd,Lk];omega,fun i acc=> ∃ss:List Str,acc=ss.map .str∧ss.length≤i∧∀z∈ss,z∈ns,⟨[],rfl,by simp,by simp⟩,?_,?_⟩
   ·rintro i z acc hz ⟨ss,rfl,hl,hm⟩
    rw [KQ] at hz
    cases hz':(ns.take 6)[i]? with
    | none=> rw [hz'] at hz;cases hz
    | some x=>
     rw [hz'] at hz;cases hz
     walk_at "rz"
     refine⟨3,rfl,by decide,by decide,fun v v0 v1=> ⟨gZ,?_⟩⟩
     rw [kX]
     split
     ·refine⟨ss++[x],by rw [KZ];rfl,by rw [KR,MT];omega,fun z hz=> ?_⟩
      rcases KL.mp hz with h | h
      ·exact hm z h
      ·rw [KP] at h;rw [h];exact Mx (KW hz')
     ·exact⟨ss,rfl,by omega,hm⟩
   ·rintro acc ⟨ss,rfl,hl,hm⟩
    rw [Kd,Lk] at hl
    refine kinds (fun x_2=> ∃ss_1,cf (KO Kf ss) none (some 4)=KO Kf ss_1∧ss_1.length < 64∧Q (KH [Kf wo,.int d,.str nm,x_2,KH (KO Kf (cC ss_1))])) fun kd hk=> ?_
    have cc:∃ss':List Str,cf (KO Kf ss) none (some 4)=ss'.map Kf∧ss'.length≤6∧∀z∈ss',z∈ss:=by
     by_cases h4:4≤ss.length
     ·refine⟨ss.take 4,by rw [km (by decide) (by simp;omega),←NA];rfl,by rw [Lk];omega,fun z hz=> Mx hz⟩
     ·refine⟨ss,?_,by omega,fun z hz=> hz⟩
      have:ss.length=0∨ss.length=1∨ss.length=2∨ss.length=3:=by omega
      match ss,h4 with
      | [],_=> rfl
      | [a],_=> rfl
      | [a,b],_=> rfl
      | [a,b,c],_=> rfl
      | a::b::c::e::l,h4=> exact absurd h4 (by simp)
    obtain⟨ss',e1,e2,e3⟩:=cc
    refine⟨ss',e1,by omega,?_⟩
    rw [hp]
    have msok:∀m∈cC ss',Kr m=true:=fun m hm'=> (dr.no m (hm m (e3 m ((fx ss').mem_iff.mp hm')))).ok
    have msl:(cC ss').length≤50:=by rw [(fx ss').length_eq];omega
    refine q (.pap ⟨d,nm,kd,cC ss'⟩) ⟨by show Kr (Ka "paper")=true;decide+kernel,nok,⟨d0,d1⟩,?_,?_,(fun _ _ _ _ e=> by cases e),(fun _ _ _ e=> by cases e),(fun _ _ _ e=> by cases e)⟩ (fun _=> ⟨_,rfl⟩) (fun _ _ _ e=> by cases e)
    ·exact cF (aR (bK (by decide+kernel)) (aR gg (aR (bK nok) (aR (bK (dr.ko kd hk).ok) (aR ((cF (n:=1) (mX msok)).mono (by decide)) cV)))))
    ·intro p e;cases e;exact⟨(dr.ko kd hk).ok,msok,msl⟩
  ·rw [bL hp,if_neg Ki]
   have q:∀(w:Str)(r:List PyData),Kr w=true→w≠Ka "paper"→bU 4 (.tuple (.str w:: .int d:: .str nm::r))→(w=Ka "happens"→∃wd,r=[.str wd]∧Kr wd=true)→(w=Ka "rule"→∃pt:Pt,r=[pt.enc]∧pt.Ok∧pt.wd=wo∧wo ∉ lR)→Q (.tuple (.str w:: .int d:: .str nm::r)):=fun w r wok wp wl wh wr=>
    q (.oth w d nm r) ⟨wok,nok,⟨d0,d1⟩,wl,(fun p e=> by cases e),(fun w' d' nm' r' e=> by cases e;exact wp),(fun d' nm' r' e=> by cases e;exact wh rfl),(fun d' nm' r' e=> by cases e;obtain⟨pt,a,b,_⟩:=wr rfl;exact⟨pt,a,b⟩)⟩ (fun e=> absurd e hp) (fun d' nm' pt' e=> by
     simp only [De.oth.injEq] at e
     obtain⟨e1,_,_,e4⟩:=e
     obtain⟨pt,a,_,c1,c2⟩:=wr e1
     rw [a] at e4
     rw [←pH (ND e4).1];exact⟨c1,c2⟩)
   by_cases hh:wo=Ka "happens"
   ·rw [if_pos (by rw [hh];exact beq_self_eq_true _)]
    refine⟨2,rfl,by decide,by decide,fun j j0 j1=> ⟨_,rfl,?_⟩⟩
    obtain⟨n7,h7,e7⟩:=jr (ss:=ns) (i:=6+j) (by omega) (by omega)
    have o7:=(dr.no n7 h7).ok
    exact⟨_,e7,q wo [.str n7] hw hp (cF (aR (bK hw) (aR gg (aR (bK nok) (aR (bK o7) cV))))) (fun _=> ⟨n7,rfl,o7⟩) (fun e=> by rw [hh] at e;exact absurd e (by decide+kernel))⟩
   ·rw [bL hh,if_neg Ki]
    by_cases he:(Ka "end"==wo || Ka "lift"==wo)=true
    ·rw [if_pos he]
     refine q wo [] hw hp (cF (aR (bK hw) (aR gg (aR (bK nok) cV)))) (fun e=> absurd e hh) (fun e=> ?_)
     rw [e] at he
     exact absurd he (by decide+kernel)
    ·rw [if_neg he]
     refine kinds _ fun kd hk=> ?_
     have kok:=(dr.ko kd hk).ok
     by_cases hb:wo=Ka "hold"
     ·rw [if_pos (by rw [hb];exact beq_self_eq_true _)]
      refine⟨6,rfl,by decide,by decide,fun j j0 j1=> ⟨_,rfl,?_⟩⟩
      obtain⟨n3,h3,e3⟩:=jr (ss:=ns) j0 (by omega)
      refine⟨_,e3,2,rfl,by decide,by decide,fun v v0 v1=> ⟨_,rfl,?_⟩⟩
      have o3:=(dr.no n3 h3).ok
      obtain⟨tg,et,ht⟩:=lQ (a:=KH [Kf (Ka "paper"),.str n3]) (b:=KH [Kf (Ka "kind"),.str kd]) v0 v1
      have lt:bU 2 tg:=by
       rcases ht with e | e <;> rw [e]
       ·exact cF (aR (bK (by decide+kernel)) (aR (bK o3) cV))
       ·exact cF (aR (bK (by decide+kernel)) (aR (bK kok) cV))
      refine⟨_,et,2,rfl,by decide,by decide,fun b b0 b1=> ⟨gZ,?_⟩⟩
      exact q wo [tg,.bool _] hw hp (cF (aR (bK hw) (aR gg (aR (bK nok) (aR (lt.mono (by decide)) (aR FF cV)))))) (fun e=> absurd e hh) (fun e=> by rw [hb] at e;exact absurd e (by decide+kernel))
     ·rw [bL hb,if_neg Ki]
      by_cases hm:wo=Ka "permit"
      ·rw [if_pos (by rw [hm];exact beq_self_eq_true _)]
       exact q (Ka "leave") [.str kd] (by decide+kernel) (by decide+kernel) (cF (aR (bK (by decide+kernel)) (aR gg (aR (bK nok) (aR (bK kok) cV))))) (fun e=> absurd e (by decide+kernel)) (fun e=> absurd e (by decide+kernel))
      ·rw [bL hm,if_neg Ki]
       refine⟨wo,ns,ks,far,rfl,hw,dr,fun pt po pw=> ?_⟩
       exact q (Ka "rule") [pt.enc] (by decide+kernel) (by decide+kernel) (cF (aR (bK (by decide+kernel)) (aR gg (aR (bK nok) (aR (Pt.lay po) cV))))) (fun e=> absurd e (by decide+kernel)) (fun _=> ⟨pt,rfl,po,pw,fun hin=> by
        simp only [lR,Kz,Ln,or_false] at hin
        rcases hin with h | h | h | h | h | h
        ·exact hp h
        ·exact hh h
        ·rw [h] at he;exact he (by decide+kernel)
        ·rw [h] at he;exact he (by decide+kernel)
        ·exact hb h
        ·exact hm h⟩)
end
end K18
open PySem L2
namespace K18
section
variable {P:Program} {w:World} {K:Kb} {mg:Str→Option Value} {base:Heap} {t:cW}
mutual
theorem jR:∀d:PyData,d.canLay0=true→KC d d=true
 | .none,_=> by simp [KC]
 | .bool _,_ | .int _,_ | .str _,_=> by simp [KC]
 | .list xs,h=> by rw [KC];exact uF xs (by simpa [K4] using h)
 | .tuple xs,h=> by rw [KC];exact uF xs (by simpa [K4] using h)
 | .dict _,h=> by simp [K4] at h
theorem uF:∀ds:List PyData,Lo ds=true→MG ds ds=true
 | [],_=> by simp [MG]
 | d::ds,h=> by
  rw [Lo,Lf] at h
  rw [MG,jR d h.1,uF ds h.2];rfl
end
def eD(x y:De):Prop:=x≠y∧(∀p r,x= .pap p→y= .pap r→p.nm≠r.nm)∧(x.isE=true→y.isE=true→¬(x.d=y.d∧x.nm=y.nm))
theorem eD.symm{x y:De}(h:eD x y):eD y x:=⟨h.1.symm,fun p r e1 e2 e=> h.2.1 r p e2 e1 e.symm,fun e1 e2 e=> h.2.2 e2 e1 ⟨e.1.symm,e.2.symm⟩⟩
def iy:List (ak×PyData):=[(.inr (Ka "rule"),.int 1),(.inr (Ka "end"),.int 1),(.inr (Ka "hold"),.int 2),(.inr (Ka "lift"),.int 2)]
theorem Jq:MK (fun a p=> eU a p.fst p.snd) [] iy=iy:=by
 rfl
theorem uG{x:De}(h:x.isE=true):cH iy (.inr x.w)=some (.int 1):=by
 cases x with
 | pap p=> cases h
 | oth w d nm r=>
  simp only [De.isE,MN,beq_iff_eq] at h
  rcases h with e | e <;> subst e <;> rfl
theorem BO(w:Str):cH iy (.inr w)=none∨∃i:Int,cH iy (.inr w)=some (.int i):=by
 unfold cH
 cases h:iy.find? fun p=> decide (p.fst=Lz w) with
 | none=> exact .inl rfl
 | some p=>
  have hp:=Oh h
  simp only [iy,Kz,Ln,or_false] at hp
  rcases hp with e | e | e | e <;> rw [e] <;> exact .inr ⟨_,rfl⟩
theorem uH{x y:De}{Q:PyData→Prop}(gx:gE x)(gy:gE y)(nq:x≠y)(pc:∀p r,x= .pap p→y= .pap r→p.nm≠r.nm)(q:∀b:Bool,(b=false→eD x y)→Q (.bool b)):
  ∃kd:List (ak×PyData),[(Kf (Ka "rule"),Kh 1),(Kf (Ka "end"),Kh 1),(Kf (Ka "hold"),Kh 2),(Kf (Ka "lift"),Kh 2)]=KO (fun p=> (iN p.fst,p.snd)) kd∧
   kd.length≤15∧(∀(p:ak×PyData),p∈kd→(match p.snd with | M8=> true | Lq b=> true | Kh i=> true | Kf s=> true | x=> false)=true)∧
   if (cH (MK (fun a p=> eU a p.fst p.snd) [] kd) (Lz x.w)).isSome=false then Q (Lq false)
   else ∃x_1,cH (MK (fun a p=> eU a p.fst p.snd) [] kd) (Lz x.w)=some x_1∧LK x_1=true∧LK ((cH (MK (fun a p=> eU a p.fst p.snd) [] kd) (Lz y.w)).getD M8)=true∧
    if x_1.eqv ((cH (MK (fun a p=> eU a p.fst p.snd) [] kd) (Lz y.w)).getD M8)=false then Q (Lq false)
    else LK (KH [Kh x.d,Kf x.nm])=true∧LK (KH [Kh y.d,Kf y.nm])=true∧Q (Lq ((KH [Kh x.d,Kf x.nm]).eqv (KH [Kh y.d,Kf y.nm]))):=by
 refine⟨iy,rfl,by decide,?_,?_⟩
 ·intro p hp
  simp only [iy,Kz,Ln,or_false] at hp
  rcases hp with e | e | e | e <;> rw [e]
 ·rw [Jq]
  have no:(x.isE=true→y.isE=true→False)→Q (.bool false):=fun h=> q false fun _=> ⟨nq,pc,fun a b=> (h a b).elim⟩
  rcases BO x.w with hx | ⟨i,hx⟩
  ·rw [hx,if_pos (by rfl)]
   exact no fun a _=> by rw [uG a] at hx;cases hx
  ·rw [hx,if_neg (by simp)]
   have sh:LK ((cH iy (Lz y.w)).getD M8)=true:=by
    rcases BO y.w with hy | ⟨j,hy⟩ <;> rw [hy]
    ·exact rW
    ·exact gZ
   have two:∀z:De,Kr z.nm=true→LK (KH [Kh z.d,Kf z.nm])=true:=fun z hz=> (cF (n:=1) (aR gg (aR (bK hz) cV))).shp (by decide)
   refine⟨_,rfl,gZ,sh,?_⟩
   split
   ·rename_i hne
    exact no fun a b=> by
     rw [uG a] at hx;cases hx
     rw [uG b] at hne
     exact absurd hne (by simp [kX])
   ·refine⟨two x gx.nm,two y gy.nm,q _ fun e=> ⟨nq,pc,fun _ _ h=> ?_⟩⟩
    rw [h.1,h.2] at e
    rw [jR _ (cF (n:=1) (aR gg (aR (bK gy.nm) cV))).can] at e
    cases e
def BP:List PyData→(PyData→Prop)→Prop:=fun ds Q=> ∃x y:De,ds=[x.enc,y.enc]∧gE x∧gE y∧∀b:Bool,(b=false→eD x y)→Q (.bool b)
theorem Jr(T:Txt K mg t):aL P w K mg base CX0 1 t.a_x40 t.d_x40 ["_law_one","_law_other"] (bp K BP):=by
 refine T.F_x40.okD AQ (fun ds Q h=> ?_) (fun cdv A outer s H O ds Q E hr h=> ?_)
 ·obtain⟨x,y,rfl,_⟩:=h;rfl
 ·obtain⟨x,y,rfl,gx,gy,q⟩:=h
  refine'⟨_,?body,?read⟩
  case body=>
   refine' aA ?s1 ?r1
   case s1=>
    refine' bH ?c2 ?a2 bJ
    case c2=> exact(PW.pt (iG (aM (cn hr.units) cq (df (dv 0)) (df (dv 1)) (aD _)) (jw (PW.pt (eQ (aM (cn hr.units) cq (df (av aH aI (df (dv 0)) (df ag))) (df (av aH aI (df (dv 1)) (df ag))) (aD _)) (eQ (aM (mV hr) mW (df (av aH aI (df (dv 0)) (df ag))) (df (bD (aa aP (aa aP ai)))) rfl) (eZ (aM (cn hr.units) cq (df (av aH aI (df (dv 0)) (df ag))) (df (av aH aI (df (dv 1)) (df ag))) (aD _)))))))))
    case a2=> refine' aC (aN fu)
   case' r1=> refine' aA ?s5 ?r5
   case s5=>
    generalize hD6:Expr.Dict _ _ _=ed6
    refine' oP (i:=2) AQ.nd rfl (by walk_at "o") ?e6 (hs:=by subst hD6;first | rfl | exact yi)
    case' e6=> subst hD6
    refine' Af ?p6_0
    case p6_0=>
     refine' iP aP ag ?p6_1
     case p6_1=>
      refine' iP aP ag ?p6_2
      case p6_2=>
       refine' iP aP ag ?p6_3
       case p6_3=>
        refine' iP aP ag ?p6_4
        case p6_4=> exact Ae
   case' r5=> refine' aA ?s7 ?r7
   case s7=>
    refine' bH ?c8 ?a8 bJ
    case c8=> exact(PW.pt (iG (FP (i:=2) hr.units (pv 2) (av aH aI (df (dv 0)) (df ag))) (jw (aM (iK hr.units) iL (df (sQ (i:=2) hr.units (pv 2) (av aH aI (df (dv 0)) (df ag)) (fun _ _=> rfl))) (df (zK (i:=2) hr.units (pv 2) (av aH aI (df (dv 1)) (df ag)) ⟨rfl,rfl,rfl,rfl⟩)) (aD _)))))
    case a8=> refine' aC (aN fu)
   case' r7=> refine' aC ?s11
   case' s11=> refine' aN ?e12
   case e12=> exact(dR (cn hr.units) cq (df (oN (df (dv 0)) (eT ag) (eT ag))) (df (oN (df (dv 1)) (eT ag) (eT ag))) (aD _))
  case read=>
  clear hr T
  have sx:=gx.ly.shp (by decide)
  have sy:=gy.ly.shp (by decide)
  have ne:(x.enc).eqv y.enc=false→x≠y:=fun h e=> by rw [e,jR _ gy.ly.can] at h;cases h
  have ex:∃rx,x.enc= .tuple (.str x.w:: .int x.d:: .str x.nm::rx):=by cases x <;> exact⟨_,rfl⟩
  have ey:∃ry,y.enc= .tuple (.str y.w:: .int y.d:: .str y.nm::ry):=by cases y <;> exact⟨_,rfl⟩
  obtain⟨rx,ex⟩:=ex
  obtain⟨ry,ey⟩:=ey
  rw [ex] at sx ne⊢
  rw [ey] at sy ne⊢
  walk_at "rz"
  refine⟨sx,sy,?_⟩
  split
  ·exact q true fun e=> by cases e
  ·rename_i h0
   have nq:=ne (by simpa using h0)
   refine⟨bR.mpr gx.w,bR.mpr gy.w,?_⟩
   split
   ·split
    ·refine⟨bR.mpr gx.nm,bR.mpr gy.nm,?_⟩
     split
     ·exact q true fun e=> by cases e
     ·rename_i hn
      exact uH gx gy nq (fun p r e1 e2 e=> hn (by rw [e1,e2];exact beq_iff_eq.mpr e)) q
    ·rename_i hn
     exact uH gx gy nq (fun p r e1 e2 e=> hn (by rw [e1];show(Ka "paper"==Ka "paper" || _)=true;simp)) q
   ·rename_i hn
    exact uH gx gy nq (fun p r e1 e2 e=> hn (by rw [e1,e2];exact beq_self_eq_true _)) q
def dM(xs:List De):Prop:=(∀x∈xs,gE x)∧xs.Pairwise eD∧xs.length≤41
theorem dM.good{xs:List De}(h:dM xs):dj xs:=by
 obtain⟨h1,h2,h3⟩:=h
 have un:∀x∈xs,∀y∈xs,x≠y→eD x y:=fun x hx y hy ne=> by
  obtain⟨i,hi⟩:=My hx
  obtain⟨j,hj⟩:=My hy
  obtain⟨li,ei⟩:=Ku.mp hi
  obtain⟨lj,ej⟩:=Ku.mp hj
  have pw:=Mw.mp h2
  rcases PX i j with h | h | h
  ·rw [←ei,←ej];exact pw i j li lj h
  ·subst h;exact absurd (by rw [←ei,←ej]) ne
  ·rw [←ei,←ej];exact(pw j i lj li h).symm
 have pm:∀p∈aO xs,De.pap p∈xs:=fun p hp=> pF.mp hp
 refine⟨⟨⟨?_,?_,fun p hp=> (h1 _ (pm p hp)).nm,fun p hp=> ((h1 _ (pm p hp)).pp p rfl).1,fun p hp=> ((h1 _ (pm p hp)).pp p rfl).2⟩,fun w d nm r h=> (h1 _ h).np _ _ _ _ rfl,h3,fun x hx=> (h1 x hx).w,fun x hx=> (h1 x hx).nm⟩,fun d nm r h=> (h1 _ h).hp _ _ _ rfl,fun d nm r h=> (h1 _ h).ru _ _ _ rfl,h2.imp fun h=> h.1,fun x hx=> (h1 x hx).d0,fun x hx y hy e1 e2 ed en=> ?_⟩
 ·exact KS (List.length_filterMap_le _ _) h3
 ·unfold aO
  rw [O6,LD,List.pairwise_filterMap]
  refine h2.imp fun{a b} h p hp r hr=> ?_
  cases a with
  | oth w d nm r=> simp [De.pp] at hp
  | pap a=>
   cases b with
   | oth w d nm r=> simp [De.pp] at hr
   | pap b=>
    simp only [De.pp,Nv] at hp hr
    subst hp hr
    exact h.2.1 a b rfl rfl
 ·by_cases e:x=y
  ·exact e
  ·exact absurd ⟨ed,en⟩ ((un x hx y hy e).2.2 e1 e2)
end
end K18
open PySem L2
namespace K18
theorem BQ:bz (ah ij) ["_law_script","_law_menu","_law_most","_law_head","_law_far","_law_chain","_law_names_here","_law_kinds","_law_words","_law_turn","_law_deeds_here","_law_k","_law_deed_here","_law_day_here"] ["_law_one","_law_deed_here"] 1 [12] {kind:=Ko,names:=[ (Kc ".0",PySem.NameKind.local),(Kc "_law_one",PySem.NameKind.local),(Kc "_law_quarrels",Ld),(Kc "_law_deed_here",Ks)],isGenerator:=false,isCoroutine:=false,more:=[]:K0}:=⟨rfl,by decide+kernel,by decide+kernel,by decide+kernel,rfl,by decide+kernel,by decide+kernel,by decide+kernel,rfl⟩
section
variable {P:Program} {w:World} {K:Kb} {mg:Str→Option Value} {base:Heap} {t:cW}
theorem Js{ns:List Str}(l u:Option Int):∃ms:List Str,cf (KO Kf ns) l u=ms.map Kf∧(∀m∈ms,m∈ns)∧ms.length≤ns.length:=by
 unfold cf
 rw [←Qr,←NA]
 exact⟨_,rfl,fun m hm=> O7 (Mx hm),by rw [Lk,NH];omega⟩
def BR(me:List Str)(x:De):Prop:=∀d nm(pt:Pt),x= .oth (Ka "rule") d nm [pt.enc]→pt.wd∈me∧pt.wd ∉ lR
def nE(me:List Str)(x:De):Prop:=gE x∧BR me x
def Jt:List PyData→(PyData→Prop)→Prop:=fun ds Q=> ∃(cs:List Int)(me:List Str)(mo:Int),ds=[eO (cs.map .int),.list (me.map .str),.int mo]∧me≠[]∧me.length≤1000∧(∀m∈me,Kr m=true∧m≠Ka "paper")∧0 < mo∧mo≤18∧∀(xs:List De)(ns:List Str)(far:Int),dM xs→(∀x∈xs,BR me x)→xs≠[]→ns.length=8→pN ns→Q (.tuple [.tuple (xs.map De.enc),.list (ns.map .str),.int far])
theorem Ju(T:Txt K mg t):aL P w K mg base CX0 5 t.a_x41 t.d_x41 ["_law_script","_law_menu","_law_most"] (bp K Jt):=by
 have G_x32:=lP (P:=P) (w:=w) (base:=base) T
 have G_x31:=BG (P:=P) (w:=w) (base:=base) T
 have G_x30:=BK (P:=P) (w:=w) (base:=base) T
 have G_x33:=Jh (P:=P) (w:=w) (base:=base) T
 have G_x39:=Jp (P:=P) (w:=w) (base:=base) T
 have G_x40:=Jr (P:=P) (w:=w) (base:=base) T
 refine T.F_x41.okD fL (fun ds Q h=> ?_) (fun cdv A outer s H O ds Q E hr h=> ?_)
 ·obtain⟨cs,me,mo,rfl,_⟩:=h;rfl
 ·obtain⟨cs,me,mo,rfl,me0,mel,meo,mo0,mo1,q⟩:=h
  refine'⟨_,?body,?read⟩
  case body=>
   refine' aA ?s1 ?r1
   case s1=> exact(bG (i:=3) fL.nd rfl (by walk_at "o") (PE.imp (aq G_x31 (hr.mono (by decide)) rfl T.m_x31 T.F_x31.kp T.b_x31 .nil ao (aa (PE.imp (aq G_x30 (hr.mono (by decide)) rfl T.m_x30 T.F_x30.kp T.b_x30 .nil ao (aa (dv 0) (aa ag ai))) az) ai)) az))
   case' r1=> refine' aA ?s3 ?r3
   case s3=> exact(qY (i:=4) (j:=5) rfl fL.nd rfl rfl (by decide) rfl rfl (aa (PE.imp (aq G_x32 (hr.mono (by decide)) rfl T.m_x32 T.F_x32.kp T.b_x32 .nil ao (aa (dv 3) (aa ag ai))) az) (aa (dR (cn hr.units) cq (df (PE.imp (aq G_x32 (hr.mono (by decide)) rfl T.m_x32 T.F_x32.kp T.b_x32 .nil ao (aa (dv 3) (aa ag ai))) az)) (df ag) (aD _)) ai)) (by rfl))
   case' r3=> refine' aA ?s5 ?r5
   case s5=> exact(bG (i:=6) fL.nd rfl (by walk_at "o") (PE.imp (aq G_x33 (hr.mono (by decide)) rfl T.m_x33 T.F_x33.kp T.b_x33 .nil ao (aa (dv 3) (aa ag ai))) az))
   case' r5=> refine' aA ?s7 ?r7
   case s7=>
    refine' bG (i:=7) fL.nd rfl (by walk_at "o") ?e8 (hs:=ku)
    case' e8=> refine' fe ?f9
    case f9=> exact(mM (df (dv 6)) iM (eT (aV bI bX (df ag) (df (PE.imp (aq G_x32 (hr.mono (by decide)) rfl T.m_x32 T.F_x32.kp T.b_x32 .nil ao (aa (dv 3) (aa ag ai))) az)))))
   case' r7=> refine' aA ?s11 ?r11
   case s11=>
    refine' oo (i:=8) fL.nd rfl (by walk_at "o") ?e12 (hs:=mY)
    case e12=> exact(G7 (dh (aa aP ai)) (aV bI bX (df ag) (df (PE.imp (aq G_x32 (hr.mono (by decide)) rfl T.m_x32 T.F_x32.kp T.b_x32 .nil ao (aa (dv 3) (aa ag ai))) az))))
   case' r11=> refine' aA ?s14 ?r14
   case s14=>
    refine' wY Lx rfl rfl T.n_range (aa (PE.imp (aq G_x32 (hr.mono (by decide)) rfl T.m_x32 T.F_x32.kp T.b_x32 .nil ao (aa (dv 3) (aa (av bO b8 (df (fe (dh (aa (dv 2) (aa (aV eY dS (df ag) (df (dv 2))) ai))))) (df (PE.imp (eM qv rfl T.n_int qF (bg (df (dR (cn hr.units) cq (df (PE.imp (aq G_x32 (hr.mono (by decide)) rfl T.m_x32 T.F_x32.kp T.b_x32 .nil ao (aa (dv 3) (aa ag ai))) az)) (df ag) (aD _))) bx)) (bN rT)))) ai))) az) ai) ?a15 aU ?b15
    case a15=> exact(aS (i:=9) fL.nd rfl (by walk_at "o"))
    case' b15=> refine' aC ?s16
    case' s16=> refine' mE (i:=8) (pv 8) ?e17
    case' e17=> refine' av bO b8 (df (dv 1)) ?b18
    case b18=> exact(df (PE.imp (aq G_x32 (hr.mono (by decide)) rfl T.m_x32 T.F_x32.kp T.b_x32 .nil ao (aa (dv 3) (aa (PE.imp (bW fq rfl T.n_len Lw (bg (df (dv 1)) bx)) (bN fZ)) ai))) az))
   case' r14=> refine' aA ?s20 ?r20
   case s20=> exact(oo (i:=10) fL.nd rfl (by walk_at "o") (dh ai))
   case' r20=> refine' aA ?s22 ?r22
   case s22=>
    refine' wY Lx rfl rfl T.n_range (aa (PE.imp (bW fq rfl T.n_len Lw (bg (dw 8) bx)) (bN fZ)) ai) ?a23 aU ?b23
    case a23=> exact(aS (i:=11) fL.nd rfl (by walk_at "o"))
    case' b23=> refine' aA ?s24 ?r24
    case s24=>
     refine' bG (i:=12) fL.nd rfl (by walk_at "o") ?e25 (hs:=g0)
     case e25=> exact(PE.imp (aq G_x39 (hr.mono (by decide)) rfl T.m_x39 T.F_x39.kp T.b_x39 .nil ao (aa (PE.imp (aq G_x31 (hr.mono (by decide)) rfl T.m_x31 T.F_x31.kp T.b_x31 .nil ao (aa (PE.imp (aq G_x30 (hr.mono (by decide)) rfl T.m_x30 T.F_x30.kp T.b_x30 .nil ao (aa (dv 0) (aa (aV bI bX (df ag) (df (dv 11))) ai))) az) ai)) az) (aa (av bO b8 (dw 8) (df (dv 11))) (aa (dv 6) (aa (dv 7) (aa (dv 4) ai)))))) az)
    case' r24=> refine' aA ?s27 ?r27
    case s27=>
     refine' bH ?c28 ?a28 bJ
     case c28=> exact(PW.pt (eQ (iF (dv 5)) (eZ (aM (dF hr) dG (df (av bO b8 (dw 8) (df (dv 11)))) (df aP) (aD _)))))
     case' a28=> refine' aA ?s29 ?r29
     case s29=>
      refine' bG (i:=13) fL.nd rfl (by walk_at "o") ?e30 (hs:=mY)
      case e30=> exact(aV bI bX (df (aV eY dS (df (av bO b8 (df (fe (dh (aa ag (aa ag ai))))) (df (dv 4)))) (df (dv 11)))) (df (aV eJ dS (df (av aH aI (df (dv 12)) (df ag))) (df ag))))
     case' r29=> refine' aC ?s32
     case' s32=> refine' bG (i:=12) fL.nd rfl (by walk_at "o") ?e33 (hs:=FG)
     case' e33=> refine' bD ?t34
     case' t34=> refine' aa aP ?w35
     case' w35=> refine' aa (dv 13) ?w37
     case' w37=> refine' aa ?u39 ?w39
     case u39=> exact(av bO b8 (df (dv 6)) (df (dv 11)))
     case' w39=> refine' aa ?u41 ?w41
     case u41=> exact(av aH aI (df (dv 12)) (df ag))
     case' w41=> refine' aa ?u43 ai
     case u43=> exact(PE.imp (eM fT rfl T.n_tuple fU (bg (df (fe (mM (df (dv 6)) (eT (PE.imp (bW (nV rfl) rfl T.n_max MW (bg (df ag) (bg (df (aV dz bX (df (dv 11)) (df ag))) bx))) (bN mN))) (eT (dv 11))))) bx)) (bN gc))
    case' r27=> refine' aC ?s46
    case' s46=> refine' bH ?c47 ?a47 bJ
    case c47=> exact(kg (iF (PE.imp (bW (wQ rfl) rfl T.n_any wU (bg (df (fe (gT rfl BQ (dw 10) aU cB (by decide) (fun _ _ _ _=> (aS (i:=0) BQ.nd rfl (by walk_at "o"))) (fun _ _ _ _=> gf) (fun _ _ _ _=> (PE.imp (aq G_x40 (hr.mono (by decide)) rfl T.m_x40 T.F_x40.kp T.b_x40 .nil ao (aa (dv 0) (aa (dv 1) ai))) az))))) bx)) (bN oB))))
    case' a47=> refine' aC ?s48
    case s48=> exact(Hc (i:=10) (pv 10) (PE.imp (aq G_x32 (hr.mono (by decide)) rfl T.m_x32 T.F_x32.kp T.b_x32 .nil ao (aa (dv 3) (aa (aV bI bX (df (PE.imp (bW fq rfl T.n_len Lw (bg (dw 10) bx)) (bN fZ))) (df ag)) ai))) az) (dv 12))
   case' r22=> refine' aC ?s50
   case s50=> exact(aN (bD (aa (PE.imp (eM fT rfl T.n_tuple fU (bg (dw 10) bx)) (bN gc)) (aa (dv 6) (aa (dv 4) ai)))))
  case read=>
  clear hr T G_x32 G_x31 G_x30 G_x33 G_x39 G_x40
  walk_at "rz"
  refine⟨cs,0,rfl,by decide,by decide,fun c=> ⟨c,rfl,2,rfl,by decide,by decide,fun far f0 f1=> ⟨8,rfl,by decide,by decide,fun ch c0 c1=> ⟨gZ,rfl,fun ns nl nok=> ⟨2,rfl,by decide,by decide,fun kk kk0 kk1=> ⟨_,rfl,_,rfl,5,rfl,by decide,by decide,fun pc p0 p1=> ⟨_,rfl,by omega,by omega,8,rfl,by decide,by decide,fun e e0 e1=> ⟨gZ,?_⟩⟩⟩⟩⟩⟩⟩⟩
  have hz:∃z:Int,atI [Kh mo,Kh (2*mo)] (if (Kh e).eqv (Kh 3)=true then 1 else 0)=some (.int z)∧0 < z∧z≤36:=by
   split
   ·exact⟨_,cU,by omega,by omega⟩
   ·exact⟨_,cT,by omega,by omega⟩
  obtain⟨z,ez,z0,z1⟩:=hz
  refine⟨_,ez,z,rfl,z0,by omega,fun j j0 j1=> ⟨j,rfl,by omega,by omega,?_⟩⟩
  obtain⟨ks,ek,dr⟩:∃ks:List Str,cf (KO Kf ns) none (some (2+kk))=ks.map Kf∧uE ns ks far:=by
   refine⟨ns.take (2+kk).toNat,by rw [km (by omega) (by simp;omega),←NA],nl,nok,by rw [Lk];omega,by rw [Lk];omega,fun z hz=> nok z (Mx hz),f0,by omega⟩
  rw [ek]
  have er:(Kx (1+pc).toNat [Kf (Ka "paper")]).flatten=(Kx (1+pc).toNat (Ka "paper")).map Kf:=by
   rw [List.flatten_replicate_singleton,List.map_replicate]
  rw [er]
  generalize (Kh ch).eqv (Kh 5)=cb
  have n0:1≤(1+pc).toNat:=by omega
  have n1:(1+pc).toNat≤5:=by omega
  generalize (1+pc).toNat=n at n0 n1⊢
  refine⟨fun i δ=> ∃(ms:List Str)(o9:Option Sl),ms.length=i∧(∀m∈ms,m∈me)∧δ=[some (Sl.v (eO (KO Kh cs))),some (Sl.v (Li (KO Kf me))),some (Sl.v (Kh mo)),some (Sl.v ft),some (Sl.v (.int far)),some (Sl.v (.bool cb)),some (Sl.v (.list (ns.map .str))),some (Sl.v (.list (ks.map .str))),some (Sl.o ((Kx n (Ka "paper")++ms).map Kf)),o9,none,none,none,none],⟨[],_,rfl,by simp,by rw [LH]⟩,?_,?_⟩
  ·rintro i x δ hx ⟨ms,o9,hl,hm,rfl⟩
   obtain⟨hi,rfl⟩:=kY hx
   walk_at "rz"
   have ml:0 < me.length:=Ph.mpr me0
   refine⟨_,rfl,by rw [Kd];omega,by rw [Kd];omega,fun v v0 v1=> ⟨_,rfl,?_⟩⟩
   rw [Kd] at v1
   obtain⟨m,hm1,em⟩:=jr v0 v1
   refine⟨_,em,by rw [Kd,KR,L4];omega,ms++[m],by simp [hl],fun z hz=> ?_,?_⟩
   ·rcases KL.mp hz with h | h
    ·exact hm z h
    ·rw [KP] at h;rw [h];exact hm1
   ·refine⟨?_,_,rfl⟩
    rw [←Nt,KZ (l₂:=[m])];rfl
  ·rintro δ ⟨ms,o9,hl,hm,rfl⟩
   rw [oF] at hl
   have wl:(Kx n (Ka "paper")++ms).length≤41:=by rw [KR,L4];omega
   have w0:1≤(Kx n (Ka "paper")++ms).length:=by rw [KR,L4];omega
   have wok:∀w∈Kx n (Ka "paper")++ms,Kr w=true:=fun w hw=> by
    rcases KL.mp hw with h | h
    ·rw [(PK.mp h).2];decide+kernel
    ·exact(meo w (hm w h)).1
   have wm:∀w∈Kx n (Ka "paper")++ms,w=Ka "paper"∨w∈me:=fun w hw=> by
    rcases KL.mp hw with h | h
    ·exact .inl (PK.mp h).2
    ·exact .inr (hm w h)
   have wp:∀k:Nat,(Kx n (Ka "paper")++ms)[k]?=some (Ka "paper")→k < 5:=fun k hk=> by
    by_cases h:k < n
    ·omega
    ·rw [L0 (by rw [L4];omega)] at hk
     exact absurd rfl (meo _ (hm _ (KW hk))).2
   generalize Kx n (Ka "paper")++ms=ws at wl w0 wok wp wm⊢
   walk_at "rz"
   rw [Kd]
   refine⟨by omega,by omega,?_⟩
   refine⟨fun i δ=> ∃(xs:List De)(o11 o12 o13:Option Sl),(∀x∈xs,nE me x)∧xs.Pairwise eD∧xs.length≤i∧(0 < i→xs≠[])∧δ=[some (Sl.v (eO (KO Kh cs))),some (Sl.v (Li (KO Kf me))),some (Sl.v (Kh mo)),some (Sl.v ft),some (Sl.v (.int far)),some (Sl.v (.bool cb)),some (Sl.v (.list (ns.map .str))),some (Sl.v (.list (ks.map .str))),some (Sl.o (ws.map Kf)),o9,some (Sl.o (xs.map De.enc)),o11,o12,o13],⟨[],_,_,_,by simp,.nil,by simp,by simp,rfl⟩,?_,?_⟩
   ·rintro i x δ hx ⟨xs,o11,o12,o13,xg,xq,xl,x0,rfl⟩
    obtain⟨hi,rfl⟩:=kY hx
    walk_at "rz"
    have hi:i < ws.length:=by omega
    have hw:ws[i]?=some ws[i]:=Ku.mpr ⟨hi,rfl⟩
    have aw:atI (KO Kf ws) (0+(i:Int))=some (.str ws[i]):=by rw [Int.zero_add];exact gO (by simp [hi])
    have wo:=wok _ (L3 hi)
    generalize ws[i]=wi at hw aw wo
    have tail:∀(y:De)(o:Option Sl),nE me y→((KO De.enc xs).length≤16777216∧fw (jx 0) jy (kT BP (kR (cL 0) (kR (cL 1) mB))) [none,some (Sl.v y.enc)] (KO De.enc xs) fun ds=> ∃bs,ds=KO Lq bs∧
      if bs.any id=false then rV [ft,Kh (((KO De.enc xs).length:Int)+1)] fun a=> ∃n:Nat,a=Kh (n:Int)∧n≤(KO De.enc xs).length∧(KO De.enc xs).length < 1000000∧∃xs_1:List De,(∀x∈xs_1,nE me x)∧Qv eD xs_1∧xs_1.length≤i+1∧(0 < i+1→¬xs_1=[])∧fh (KO De.enc xs) n y.enc=KO De.enc xs_1∧∃x,o=x
      else ∃xs_1:List De,(∀x∈xs_1,nE me x)∧Qv eD xs_1∧xs_1.length≤i+1∧(0 < i+1→¬xs_1=[])∧KO De.enc xs=KO De.enc xs_1∧∃x,o=x):=fun y o gy=> by
     refine⟨by rw [Kd];omega,fun k acc=> ∃bs:List Bool,acc=bs.map Lq∧bs.length=k∧(bs.any id=false→∀x∈xs.take k,eD x y),⟨[],rfl,rfl,by simp⟩,?_,?_⟩
     ·rintro k x acc hk ⟨bs,rfl,bl,bq⟩
      rw [KQ] at hk
      cases hk':xs[k]? with
      | none=> rw [hk'] at hk;cases hk
      | some x=>
       rw [hk'] at hk;cases hk
       walk_at "rz"
       refine⟨x,y,rfl,(xg x (KW hk')).1,gy.1,fun b hb=> ⟨bs++[b],by rw [KZ];rfl,by simp [bl],fun h x' hx'=> ?_⟩⟩
       rw [Qg,Bool.or_eq_false_iff] at h
       rw [Lv,hk'] at hx'
       rcases KL.mp hx' with z | z
       ·exact bq h.1 x' z
       ·have:x'=x:=by simpa using z
        rw [this];exact hb (by simpa using h.2)
     ·rintro acc ⟨bs,rfl,bl,bq⟩
      rw [Kd] at bl bq⊢
      rw [Lc (Kk _)] at bq
      refine⟨bs,rfl,?_⟩
      split
      ·rename_i h
       refine⟨_,rfl,by omega,by omega,fun v v0 v1=> ?_⟩
       obtain⟨n,rfl⟩:=LV v0
       refine⟨n,rfl,by omega,by omega,fh xs n y,fun x hx=> ?_,?_,by rw [t9];omega,fun _ e=> ?_,(G8 _ _ _ _).symm,_,rfl⟩
       ·rcases Kz.mp ((t8 xs n y).mem_iff.mp hx) with e | e
        ·rw [e];exact gy
        ·exact xg x e
       ·refine(List.Perm.pairwise_iff (fun h=> eD.symm h) (t8 xs n y)).mpr (Lr.mpr ⟨fun x hx=> (bq h x hx).symm,xq⟩)
       ·have:=congrArg OO e
        rw [t9] at this;simp at this
      ·rename_i h
       refine⟨xs,xg,xq,by omega,fun _ e=> ?_,rfl,_,rfl⟩
       rw [e] at bl
       have:bs=[]:=List.length_eq_zero_iff.mp bl
       rw [this] at h;exact h rfl
    refine⟨cs,_,rfl,by omega,by omega,fun c=> ⟨c,rfl,_,aw,wi,ns,ks,far,rfl,wo,dr,fun y gy yp yr=> ?_⟩⟩
    have gm:nE me y:=⟨gy,fun d nm pt e=> by
     obtain⟨a,b⟩:=yr d nm pt e
     rw [a]
     refine⟨?_,b⟩
     rcases wm wi (KW hw) with h | h
     ·rw [h] at b;exact absurd K3 b
     ·exact h⟩
    split
    ·refine⟨_,aw,rfl,?_⟩
     rw [jz]
     split
     ·rename_i hp
      have hp:=eq_of_beq hp
      obtain⟨p,rfl⟩:=yp hp
      have i5:=wp i (by rw [hw,hp])
      have hf:∃z:Int,atI [Kh 5,Kh 9000] far=some (.int z)∧0≤z∧z≤9000:=by
       have:far=0∨far=1:=by omega
       rcases this with h | h <;> rw [h]
       ·exact⟨5,rfl,by decide,by decide⟩
       ·exact⟨9000,rfl,by decide,by decide⟩
      obtain⟨z,ez,z0,z1⟩:=hf
      obtain⟨nm,hn,en⟩:=jr (ss:=ns) (i:=0+(i:Int)) (by omega) (by omega)
      have pk:=(gy.pp p rfl).1
      refine⟨_,ez,_,rfl,.inr ⟨by omega,by omega⟩,_,rfl,_,cU,_,rfl,_,en,_,rfl,_,kl,?_⟩
      obtain⟨ms,em,hm,ml⟩:=Js (ns:=ns) (some (if 0+(i:Int) - 1 > 0 then 0+(i:Int) - 1 else 0)) (some (0+(i:Int)))
      rw [em]
      have nok':=(nok nm hn).ok
      have msok:∀m∈ms,Kr m=true:=fun m h=> (nok m (hm m h)).ok
      have zi:0≤z*(0+(i:Int))∧z*(0+(i:Int))≤36000:=by
       have:i=0∨i=1∨i=2∨i=3∨i=4:=by omega
       rcases this with h | h | h | h | h <;> subst h <;> simp <;> omega
      refine tail (.pap ⟨z*(0+(i:Int))+p.d % 5,nm,p.kd,ms⟩) _ ⟨⟨by show Kr (Ka "paper")=true;decide+kernel,nok',⟨?_,?_⟩,?_,?_,(fun _ _ _ _ e=> by cases e),(fun _ _ _ e=> by cases e),(fun _ _ _ e=> by cases e)⟩,fun _ _ _ e=> by cases e⟩
      ·show 0≤z*(0+(i:Int))+p.d % 5
       omega
      ·show z*(0+(i:Int))+p.d % 5 < 100000
       omega
      ·exact cF (aR (bK (by decide+kernel)) (aR gg (aR (bK nok') (aR (bK pk) (aR ((cF (n:=1) (mX msok)).mono (by decide)) cV)))))
      ·intro p' e;cases e;exact⟨pk,msok,by show ms.length≤50;omega⟩
     ·exact tail y _ gm
    ·exact tail y _ gm
   ·rintro δ ⟨xs,o11,o12,o13,xg,xq,xl,x0,rfl⟩
    rw [oF] at xl x0
    walk_at "rz"
    exact q xs ns far ⟨fun x hx=> (xg x hx).1,xq,by omega⟩ (fun x hx=> (xg x hx).2) (x0 (by omega)) nl nok
end
end K18
open PySem L2
namespace K18
theorem BS:bz (ah ik) ["_law_deeds_here","_law_rule"] ["_law_deed_here","_law_rule"] 1 [1] {kind:=Ko,names:=[ (Kc ".0",PySem.NameKind.local),(Kc "_law_deed_here",PySem.NameKind.local),(Kc "_law_rule",Ks)],isGenerator:=false,isCoroutine:=false,more:=[]:K0}:=⟨rfl,by decide+kernel,by decide+kernel,by decide+kernel,rfl,by decide+kernel,by decide+kernel,by decide+kernel,rfl⟩
theorem BU:bz (ah gu) ["_law_deeds_here","_law_name","_law_some"] ["_law_deed_here"] 1 [] {kind:=Ko,names:=[(Kc ".0",PySem.NameKind.local),(Kc "_law_deed_here",PySem.NameKind.local)],isGenerator:=false,isCoroutine:=false,more:=[]:K0}:=⟨rfl,by decide+kernel,by decide+kernel,by decide+kernel,rfl,by decide+kernel,by decide+kernel,by decide+kernel,rfl⟩
theorem BV:bz (ah gu) ["_law_deeds_here","_law_name","_law_some"] ["_law_deed_here","_law_name"] 1 [1] {kind:=Ko,names:=[ (Kc ".0",PySem.NameKind.local),(Kc "_law_deed_here",PySem.NameKind.local),(Kc "_law_name",Ks)],isGenerator:=false,isCoroutine:=false,more:=[]:K0}:=⟨rfl,by decide+kernel,by decide+kernel,by decide+kernel,rfl,by decide+kernel,by decide+kernel,by decide+kernel,rfl⟩
section
theorem dM.un{xs:List De}(h:dM xs):∀x∈xs,∀y∈xs,x≠y→eD x y:=fun x hx y hy ne=> by
 obtain⟨h1,h2,h3⟩:=h
 obtain⟨i,hi⟩:=My hx
 obtain⟨j,hj⟩:=My hy
 obtain⟨li,ei⟩:=Ku.mp hi
 obtain⟨lj,ej⟩:=Ku.mp hj
 have pw:=Mw.mp h2
 rcases PX i j with h | h | h
 ·rw [←ei,←ej];exact pw i j li lj h
 ·subst h;exact absurd (by rw [←ei,←ej]) ne
 ·rw [←ei,←ej];exact(pw j i lj li h).symm
theorem dM.sub{xs ys:List De}(h:dM xs)(nd:ys.Nodup)(sb:∀y∈ys,y∈xs)(ln:ys.length≤xs.length):dM ys:=
 ⟨fun y hy=> h.1 y (sb y hy),nd.imp_of_mem fun{a b} ha hb e=> h.un a (sb a ha) b (sb b hb) e,KS ln h.2.2⟩
def kC(r:Str)(x:De):Bool:=!x.isE || x.nm==r
def dn(xs:List De)(r:Str):List De:=xs.filter (kC r)
theorem dM.alo{xs:List De}(h:dM xs)(r:Str):dM (dn xs r):=
 h.sub (h.good.nd.sublist LN) (fun y hy=> (KA.mp hy).1) (K8 _ _)
def jS:De→Bool
 | .pap _=> true
 | x=> x.isE
def d8(xs:List De)(nm:Str):List De:=xs.filter jS++xs.filter (cO nm)
theorem uI{x:De}{nm:Str}(h:jS x=true):cO nm x=false:=by
 cases x with
 | pap p=> rfl
 | oth w d n r=>
  simp only [jS,De.isE,MN,beq_iff_eq] at h
  simp only [cO]
  rcases h with e | e <;> rw [e,bL (by decide+kernel)] <;> rfl
theorem dM.bar{xs:List De}(h:dM xs)(nm:Str):dM (d8 xs nm):=by
 have nd:=h.good.nd
 refine h.sub ?_ (fun y hy=> ?_) ?_
 ·refine Ob.mpr ⟨nd.sublist LN,nd.sublist LN,fun a ha b hb e=> ?_⟩
  have h1:=(KA.mp ha).2
  have h2:=(KA.mp hb).2
  rw [←e,uI h1] at h2;cases h2
 ·rcases KL.mp hy with z | z <;> exact(KA.mp z).1
 ·unfold d8
  rw [KR]
  clear nd h
  induction xs with
  | nil=> simp
  | cons x xs ih=>
   rw [K2,K2,Kw]
   by_cases hb:jS x=true
   ·rw [if_pos hb,if_neg (by rw [uI hb];simp),Kw];omega
   ·rw [if_neg hb]
    split
    ·rw [Kw];omega
    ·omega
theorem nF{f:De→Bool}(hf:∀p,f (.pap p)=true):∀xs:List De,aO (xs.filter f)=aO xs
 | []=> rfl
 | .pap p::xs=> by
  rw [K2,if_pos (hf p)]
  show p::aO (xs.filter f)=p::aO xs
  rw [nF hf xs]
 | .oth w d nm r::xs=> by
  rw [K2]
  split
  ·exact nF hf xs
  ·exact nF hf xs
theorem pO{f:De→Bool}(hf:∀p,f (.pap p)=false):∀xs:List De,aO (xs.filter f)=[]
 | []=> rfl
 | .pap p::xs=> by
  rw [K2,if_neg (by rw [hf p];simp)]
  exact pO hf xs
 | .oth w d nm r::xs=> by
  rw [K2]
  split
  ·exact pO hf xs
  ·exact pO hf xs
theorem Jv(xs ys:List De):aO (xs++ys)=aO xs++aO ys:=by unfold aO;rw [NJ]
theorem BW(xs:List De)(r:Str):aO (dn xs r)=aO xs:=nF (fun p=> rfl) xs
theorem BX(xs:List De)(nm:Str):aO (d8 xs nm)=aO xs:=by
 unfold d8
 rw [Jv,nF (fun p=> rfl),pO (fun p=> rfl),LH]
theorem Jw(xs:List De)(r nm:Str):cK (dn xs r) nm=cK xs nm:=by
 unfold cK dn
 rw [LR]
 congr 2
 funext x
 cases h:cO nm x with
 | false=> rfl
 | true=>
  cases x with
  | pap p=> cases h
  | oth w d n r=>
   simp only [cO,Lf,beq_iff_eq] at h
   simp only [kC,De.isE,h.1]
   rw [bL (show Ka "happens"≠Ka "rule" by decide+kernel),bL (show Ka "happens"≠Ka "end" by decide+kernel)]
   rfl
theorem Jx(xs:List De)(nm:Str):cK (d8 xs nm) nm=cK xs nm:=by
 unfold cK d8
 rw [MP,LR,LR]
 have e1:xs.filter (fun a=> cO nm a && jS a)=[]:=Mn.mpr fun a _ h=> by
  rw [Lf] at h
  rw [uI h.2] at h;cases h.1
 rw [e1,LI]
 congr 2
 funext a
 cases cO nm a <;> rfl
theorem nG(xs:List De)(r:Str)(c:Pp):aK (dn xs r) c=aK xs c:=by unfold aK;rw [BW,Jw]
theorem BY(xs:List De)(c:Pp):aK (d8 xs c.nm) c=aK xs c:=by unfold aK;rw [BX,Jx]
theorem pP{xs:List De}{r:Str}{x:De}:x∈dn xs r↔x∈xs∧(x.isE=true→x.nm=r):=by
 unfold dn
 rw [KA]
 unfold kC
 cases x.isE <;> simp
theorem Jy{xs:List De}{n:Int}{r:Str}{z:Str×Pt}:jP (dn xs r) n z↔jP xs n z∧z.1=r:=by
 constructor
 ·rintro⟨d,hd,hm,hal⟩
  obtain⟨h1,h2⟩:=pP.mp hm
  have e:z.1=r:=h2 (by simp [De.isE])
  exact⟨⟨d,hd,h1,fun x hx xe xn xd=> hal x (pP.mpr ⟨hx,fun _=> xn.trans e⟩) xe xn xd⟩,e⟩
 ·rintro⟨⟨d,hd,hm,hal⟩,e⟩
  exact⟨d,hd,pP.mpr ⟨hm,fun _=> e⟩,fun x hx xe xn xd=> hal x (pP.mp hx).1 xe xn xd⟩
theorem pQ{xs:List De}{nm:Str}{x:De}(h:x.isE=true):x∈d8 xs nm↔x∈xs:=by
 have hb:jS x=true:=by cases x with | pap p=> cases h | oth w d n r=> exact h
 unfold d8
 rw [KL,KA,KA]
 exact⟨fun z=> z.elim (·.1) (·.1),fun z=> .inl ⟨z,hb⟩⟩
theorem Jz{xs:List De}{n:Int}{nm:Str}{z:Str×Pt}:jP (d8 xs nm) n z↔jP xs n z:=by
 constructor
 ·rintro⟨d,hd,hm,hal⟩
  exact⟨d,hd,(pQ (by simp [De.isE])).mp hm,fun x hx xe xn xd=> hal x ((pQ xe).mpr hx) xe xn xd⟩
 ·rintro⟨d,hd,hm,hal⟩
  exact⟨d,hd,(pQ (by simp [De.isE])).mpr hm,fun x hx xe xn xd=> hal x ((pQ xe).mp hx) xe xn xd⟩
theorem JA{xs:List De}{n:Int}(h:d7 xs n (aG xs n))(r:Str):d7 (dn xs r) n ((aG xs n).filter fun z=> z.1==r):=
 ⟨h.1.sublist LN,fun z=> by rw [KA,h.2 z,Jy,beq_iff_eq]⟩
theorem JB{xs:List De}{n:Int}(h:d7 xs n (aG xs n))(nm:Str):d7 (d8 xs nm) n (aG xs n):=
 ⟨h.1,fun z=> by rw [h.2 z,Jz]⟩
end
section
variable {P:Program} {w:World} {K:Kb} {mg:Str→Option Value} {base:Heap} {t:cW}
def JC:List PyData→(PyData→Prop)→Prop:=fun ds Q=> ∃(xs:List De)(r:Str),ds=[.tuple (xs.map De.enc),.str r]∧dj xs∧Kr r=true∧Q (.tuple ((dn xs r).map De.enc))
theorem BZ{wo:Str}{d:Int}{nm:Str}{r:List PyData}:(Ka "rule"==wo || Ka "end"==wo)=(De.oth wo d nm r).isE:=by
 simp only [De.isE]
 rw [nz,nz,nz,nz]
 congr 1 <;> exact decide_eq_decide.mpr ⟨Eq.symm,Eq.symm⟩
theorem JD(T:Txt K mg t):aL P w K mg base CX0 1 t.a_x42 t.d_x42 ["_law_deeds_here","_law_rule"] (bp K JC):=by
 refine T.F_x42.okD Hw (fun ds Q h=> ?_) (fun cdv A outer s H O ds Q E hr h=> ?_)
 ·obtain⟨xs,r,rfl,_⟩:=h;rfl
 ·obtain⟨xs,r,rfl,gd,hr',q⟩:=h
  refine'⟨_,?body,?read⟩
  case body=>
   refine' aC ?s1
   case' s1=> refine' aN ?e2
   case e2=> exact(PE.imp (eM fT rfl T.n_tuple fU (bg (df (fe (gU rfl BS (df (dv 0)) aU cB (by decide) (fun _ _ _ _=> (aS (i:=0) BS.nd rfl (by walk_at "o"))) (fun _ _ _ _=> (dA (PW.pt (iG (aM (xF hr) lq (df (av aH aI (df (dv 0)) (df ag))) (df (bD (aa aP (aa aP ai)))) rfl) (jw (aM (cn hr.units) cq (df (av aH aI (df (dv 0)) (df ag))) (df (dv 1)) (aD _))))))) (fun _ _ _ _=> (dv 0))))) bx)) (bN gc))
  case read=>
  clear hr T
  walk_at "rz"
  refine⟨by rw [Kd];have:=gd.gx.ln;omega,d6 (kC r) De.enc (fun x hx R S h=> ?_) q⟩
  have nok:=gd.gx.nm x hx
  have wok:=gd.gx.w x hx
  cases x with
  | pap p=>
   simp only [De.enc,Pp.enc] at h⊢
   walk_at "rz"
   exact⟨bR.mpr wok,by decide+kernel,h⟩
  | oth wo d nm l=>
   simp only [De.enc] at h⊢
   walk_at "rz"
   refine⟨bR.mpr wok,by decide+kernel,?_⟩
   rw [BZ (d:=d) (nm:=nm) (r:=l)]
   cases he:(De.oth wo d nm l).isE with
   | false=>
    rw [if_pos rfl]
    rw [if_pos (by unfold kC;rw [he];rfl)] at h;exact h
   | true=>
    rw [if_neg (by simp)]
    refine⟨bR.mpr nok,bR.mpr hr',?_⟩
    have e:kC r (De.oth wo d nm l)=(nm==r):=by unfold kC;rw [he];rfl
    rw [e] at h;exact h
def JE:List PyData→(PyData→Prop)→Prop:=fun ds Q=> ∃(xs:List De)(r:Str),ds=[.tuple (xs.map De.enc),.str r]∧dj xs∧Kr r=true∧Q (.tuple ((d8 xs r).map De.enc))
theorem JF(T:Txt K mg t):aL P w K mg base CX0 1 t.a_x43 t.d_x43 ["_law_deeds_here","_law_name"] (bp K JE):=by
 refine T.F_x43.okD AR (fun ds Q h=> ?_) (fun cdv A outer s H O ds Q E hr h=> ?_)
 ·obtain⟨xs,r,rfl,_⟩:=h;rfl
 ·obtain⟨xs,r,rfl,gd,hr',q⟩:=h
  refine'⟨_,?body,?read⟩
  case body=>
   refine' aA ?s1 ?r1
   case s1=> exact(jE (i:=2) AR.nd rfl (by walk_at "o") (lz rfl BU (df (dv 0)) aU cB (by decide) (fun _ _ _ _=> (aS (i:=0) BU.nd rfl (by walk_at "o"))) (fun _ _ _ _=> (dA (aM (mV hr) mW (df (av aH aI (df (dv 0)) (df ag))) (df (bD (kq (ds:=[.str "paper",.str "rule",.str "end"]) (by rfl)))) rfl))) (fun _ _ _ _=> (dv 0))))
   case' r1=> refine' aC ?s3
   case' s3=> refine' aN ?e4
   case e4=> exact(PE.imp (eM fT rfl T.n_tuple fU (bg (df (fe (rD (df (dv 2)) (df (fe (gU rfl BV (df (dv 0)) aU cB (by decide) (fun _ _ _ _=> (aS (i:=0) BV.nd rfl (by walk_at "o"))) (fun _ _ _ _=> (dA (PW.pt (eQ (aM (dF hr) dG (df (av aH aI (df (dv 0)) (df ag))) (df aP) (aD _)) (eZ (aM (cn hr.units) cq (df (av aH aI (df (dv 0)) (df ag))) (df (dv 1)) (aD _))))))) (fun _ _ _ _=> (dv 0)))))))) bx)) (bN gc))
  case read=>
  clear hr T
  walk_at "rz"
  have ln:=gd.gx.ln
  refine⟨by rw [Kd];omega,d6 jS De.enc (fun x hx R S h=> ?_) ?_⟩
  ·have wok:=gd.gx.w x hx
   cases x with
   | pap p=>
    simp only [De.enc,Pp.enc] at h⊢
    walk_at "rz"
    exact h
   | oth wo d nm l=>
    simp only [De.enc] at h⊢
    walk_at "rz"
    rw [BZ (d:=d) (nm:=nm) (r:=l),bL (show Ka "paper"≠wo from fun e=> gd.gx.np _ _ _ _ hx e.symm),M5]
    exact h
  ·refine⟨by rw [Kd];omega,jM (cO r) De.enc (fun x hx R S h1 h0=> ?_) ?_⟩
   ·have nok:=gd.gx.nm x hx
    have wok:=gd.gx.w x hx
    cases x with
    | pap p=>
     simp only [De.enc,Pp.enc]
     walk_at "rz"
     exact h0 rfl
    | oth wo d nm l=>
     simp only [De.enc] at h1⊢
     walk_at "rz"
     by_cases e:wo=Ka "happens"
     ·subst e
      rw [if_pos (beq_self_eq_true _)]
      refine⟨bR.mpr nok,bR.mpr hr',?_⟩
      split
      ·rename_i h2
       exact h1 (by simp only [cO,beq_self_eq_true,MF];exact h2)
      ·rename_i h2
       exact h0 (by simp only [cO,beq_self_eq_true,MF];simpa using h2)
     ·rw [bL e,if_neg Ki]
      exact h0 (by simp only [cO,bL e,NR])
   ·refine⟨?_,?_⟩
    ·rw [Kd,Kd]
     have:=K8 jS xs
     have:=K8 (cO r) xs
     omega
    ·rw [←KZ];exact q
end
end K18
open PySem L2
namespace K18
section
def jT:Str:=Ka "keep"
def jU:Str:=Ka "gone"
def jV:Str:=Ka "while"
def jW:Str:=Ka "follow"
def lT:Str:=Ka "leave"
def W5(w:Str):Prop:=w=jT∨w=jU∨w=jV∨w=jW∨w=lT
def gF(w:Str):Str:=if w=jT then jU else if w=jU then jT else if w=jV then jW else if w=jW then jV else w
def Pt.put:Pt→Pt
 | .two w kd=> .two (gF w) kd
 | .five w kd s k u=> .five (gF w) kd s k u
def kD:List PyData→List PyData
 | [.tuple (.str v::rest)]=> [.tuple (.str (gF v)::rest)]
 | r=> r
def De.put:De→De
 | .pap p=> .pap p
 | .oth w d nm r=> if w=Ka "rule" then .oth w d nm (kD r) else .oth w d nm r
theorem JG(pt:Pt):kD [pt.enc]=[pt.put.enc]:=by cases pt <;> rfl
theorem pR{d:Int}{nm:Str}{pt:Pt}:(De.oth (Ka "rule") d nm [pt.enc]).put= .oth (Ka "rule") d nm [pt.put.enc]:=by
 show(if Ka "rule"=Ka "rule" then De.oth (Ka "rule") d nm (kD [pt.enc]) else De.oth (Ka "rule") d nm [pt.enc])=_
 rw [if_pos rfl,JG]
theorem uJ{w:Str}{d:Int}{nm:Str}{r:List PyData}(h:w≠Ka "rule"):(De.oth w d nm r).put= .oth w d nm r:=by
 show(if w=Ka "rule" then De.oth w d nm (kD r) else De.oth w d nm r)=_
 rw [if_neg h]
theorem kE(x:De):x.put.d=x.d:=by
 cases x with
 | pap p=> rfl
 | oth w d nm r=> show(if w=Ka "rule" then _ else _:De).d=_;split <;> rfl
theorem lU(x:De):x.put.nm=x.nm:=by
 cases x with
 | pap p=> rfl
 | oth w d nm r=> show(if w=Ka "rule" then _ else _:De).nm=_;split <;> rfl
theorem JH(x:De):x.put.w=x.w:=by
 cases x with
 | pap p=> rfl
 | oth w d nm r=> show(if w=Ka "rule" then _ else _:De).w=_;split <;> rfl
theorem jX(x:De):x.put.isE=x.isE:=by
 cases x with
 | pap p=> rfl
 | oth w d nm r=> show(if w=Ka "rule" then _ else _:De).isE=_;split <;> rfl
theorem B0{x:De}{p:Pp}(h:x.put= .pap p):x= .pap p:=by
 cases x with
 | pap q=> exact h
 | oth w d nm r=>
  have h:(if w=Ka "rule" then De.oth w d nm (kD r) else .oth w d nm r)= .pap p:=h
  split at h <;> cases h
theorem uK{w:Str}(h:W5 w):(KG (gF w)↔KG w)∧Kr (gF w)=true:=by
 have k:KG jT:= .inl rfl
 have g:KG jU:= .inr rfl
 have nw:¬KG jV:=by unfold KG jV;decide+kernel
 have nf:¬KG jW:=by unfold KG jW;decide+kernel
 have nl:¬KG lT:=by unfold KG lT;decide+kernel
 rcases h with e | e | e | e | e <;> subst e
 ·have:gF jT=jU:=by decide+kernel
  rw [this];exact⟨⟨fun _=> k,fun _=> g⟩,by decide+kernel⟩
 ·have:gF jU=jT:=by decide+kernel
  rw [this];exact⟨⟨fun _=> g,fun _=> k⟩,by decide+kernel⟩
 ·have:gF jV=jW:=by decide+kernel
  rw [this];exact⟨⟨fun h=> absurd h nf,fun h=> absurd h nw⟩,by decide+kernel⟩
 ·have:gF jW=jV:=by decide+kernel
  rw [this];exact⟨⟨fun h=> absurd h nw,fun h=> absurd h nf⟩,by decide+kernel⟩
 ·have:gF lT=lT:=by decide+kernel
  rw [this];exact⟨Iff.rfl,by decide+kernel⟩
theorem JI{pt:Pt}(h:pt.Ok)(hw:W5 pt.wd):pt.put.Ok:=by
 cases pt with
 | two w kd=> exact⟨fun z=> h.1 ((uK hw).1.mp z),(uK hw).2,h.2.2⟩
 | five w kd s k u=> exact⟨(uK hw).1.mpr h.1,h.2⟩
def R5(xs:List De):Prop:=∀d nm(pt:Pt),De.oth (Ka "rule") d nm [pt.enc]∈xs→W5 pt.wd
theorem gE.put{x:De}(g:gE x)(h:∀d nm (pt:Pt),x= .oth (Ka "rule") d nm [pt.enc]→W5 pt.wd):gE x.put:=by
 cases x with
 | pap p=> exact g
 | oth w d nm r=>
  by_cases e:w=Ka "rule"
  ·subst e
   obtain⟨pt,rfl,po⟩:=g.ru _ _ _ rfl
   have pp:=JI po (h _ _ _ rfl)
   rw [pR]
   refine⟨g.w,g.nm,g.d0,?_,(fun p e=> by cases e),(fun w' d' nm' r' e=> by cases e;decide+kernel),(fun d' nm' r' e=> by simp only [De.oth.injEq] at e;exact absurd e.1 (by decide+kernel)),(fun d' nm' r' e=> by cases e;exact⟨_,rfl,pp⟩)⟩
   exact cF (aR (bK g.w) (aR gg (aR (bK g.nm) (aR (Pt.lay pp) cV))))
  ·rw [uJ e];exact g
theorem eD.put{x y:De}(h:eD x y):eD x.put y.put:=by
 refine⟨fun e=> ?_,fun p r e1 e2=> h.2.1 p r (B0 e1) (B0 e2),fun e1 e2 uu49=> by obtain⟨ed,en⟩:=uu49;exact h.2.2 (by rw [←jX];exact e1) (by rw [←jX];exact e2) ⟨by rw [←kE,←kE y];exact ed,by rw [←lU,←lU y];exact en⟩⟩
 by_cases hx:x.isE=true
 ·have hy:y.isE=true:=by rw [←jX y,←e,jX];exact hx
  exact h.2.2 hx hy ⟨by rw [←kE,e,kE],by rw [←lU,e,lU]⟩
 ·have nr:∀z:De,¬z.isE=true→z.put=z:=fun z hz=> by
   cases z with
   | pap p=> rfl
   | oth w d nm r=> exact uJ fun e=> hz (by simp [De.isE,e])
  have hy:¬y.isE=true:=by rw [←jX y,←e,jX];exact hx
  rw [nr x hx,nr y hy] at e
  exact h.1 e
def cI(xs:List De):List De:=xs.map De.put
theorem dM.put{xs:List De}(h:dM xs)(h5:R5 xs):dM (cI xs):=by
 refine⟨fun y hy=> ?_,?_,by unfold cI;rw [Kd];exact h.2.2⟩
 ·obtain⟨x,hx,rfl⟩:=Ky.mp hy
  exact(h.1 x hx).put fun d nm pt e=> h5 d nm pt (by rw [←e];exact hx)
 ·unfold cI
  rw [LD]
  exact h.2.1.imp fun h=> h.put
theorem pT:∀xs:List De,aO (cI xs)=aO xs
 | []=> rfl
 | .pap p::xs=> by
  show p::aO (cI xs)=p::aO xs
  rw [pT xs]
 | .oth w d nm r::xs=> by
  show aO ((if w=Ka "rule" then De.oth w d nm (kD r) else .oth w d nm r)::cI xs)=aO xs
  split <;> exact pT xs
theorem uL(nm:Str):∀xs:List De,cK (cI xs) nm=cK xs nm
 | []=> rfl
 | .pap p::xs=> uL nm xs
 | .oth w d n r::xs=> by
  have ih:=uL nm xs
  unfold cK at ih⊢
  show((PZ (cO nm) ((if w=Ka "rule" then De.oth w d n (kD r) else .oth w d n r)::cI xs)).map pG)=_
  rw [K2,K2]
  by_cases e:w=Ka "rule"
  ·rw [if_pos e]
   have z:∀r',cO nm (De.oth w d n r')=false:=fun r'=> by
    simp only [cO];rw [e,bL (by decide+kernel)];rfl
   rw [if_neg (by rw [z];simp),if_neg (by rw [z];simp)]
   exact ih
  ·rw [if_neg e]
   split
   ·rw [Kj,Kj,ih]
   ·exact ih
theorem B1(xs:List De)(c:Pp):aK (cI xs) c=aK xs c:=by unfold aK;rw [pT,uL]
theorem JJ{xs:List De}(g:dj xs){n:Int}{z:Str×Pt}:jP (cI xs) n z↔∃pt,z.2=pt.put∧jP xs n (z.1,pt):=by
 have hE:∀(d:Int)(nm:Str),(∀x∈xs,x.isE=true→x.nm=nm→x.d≤n→x.d≤d)↔∀x∈cI xs,x.isE=true→x.nm=nm→x.d≤n→x.d≤d:=fun d nm=> by
  constructor
  ·intro h y hy ye yn yd
   obtain⟨x,hx,rfl⟩:=Ky.mp hy
   rw [jX] at ye;rw [lU] at yn;rw [kE] at yd⊢
   exact h x hx ye yn yd
  ·intro h x hx xe xn xd
   have:=h x.put (Ky.mpr ⟨x,hx,rfl⟩) (by rw [jX];exact xe) (by rw [lU];exact xn) (by rw [kE];exact xd)
   rw [kE] at this;exact this
 constructor
 ·rintro⟨d,hd,hm,hal⟩
  obtain⟨x,hx,e⟩:=Ky.mp hm
  cases x with
  | pap p=> cases e
  | oth w d' nm r=>
   have hw:=congrArg De.w e
   rw [JH] at hw
   have hw:w=Ka "rule":=hw
   subst hw
   obtain⟨pt,rfl,_⟩:=g.ru _ _ _ hx
   rw [pR] at e
   simp only [De.oth.injEq,true_and] at e
   obtain⟨rfl,e2,e3⟩:=e
   refine⟨pt,(pH (ND e3).1).symm,d',hd,?_,(hE _ _).mpr hal⟩
   rw [←e2];exact hx
 ·rintro⟨pt,e,d,hd,hm,hal⟩
  refine⟨d,hd,Ky.mpr ⟨_,hm,?_⟩,(hE _ _).mp hal⟩
  rw [pR,e]
theorem JK{xs:List De}{n:Int}(g:dj xs)(h:d7 xs n (aG xs n)):d7 (cI xs) n ((aG xs n).map fun z=> (z.1,z.2.put)):=by
 refine⟨?_,fun z=> ?_⟩
 ·rw [LD];exact h.1
 ·rw [JJ g,Ky]
  constructor
  ·rintro⟨v,hv,rfl⟩
   exact⟨v.2,rfl,(h.2 v).mp hv⟩
  ·rintro⟨pt,e,hs⟩
   exact⟨(z.1,pt),(h.2 _).mpr hs,by rw [←e]⟩
end
section
variable {P:Program} {w:World} {K:Kb} {mg:Str→Option Value} {base:Heap} {t:cW}
def js:List (ak×PyData):=[(.inr (Ka "keep"),.str (Ka "gone")),(.inr (Ka "gone"),.str (Ka "keep")),(.inr (Ka "while"),.str (Ka "follow")),(.inr (Ka "follow"),.str (Ka "while")),(.inr (Ka "leave"),.str (Ka "leave"))]
theorem B2:MK (fun a p=> eU a p.fst p.snd) [] js=js:=by
 rfl
theorem pU:∀(p:ak×PyData),p∈js→(match p.snd with | M8=> true | Lq b=> true | Kh i=> true | Kf s=> true | x=> false)=true:=by
 intro p hp
 simp only [js,Kz,Ln,or_false] at hp
 rcases hp with e | e | e | e | e <;> rw [e]
theorem B3{v:Str}(h:W5 v):cH js (.inr v)=some (.str (gF v)):=by
 rcases h with e | e | e | e | e <;> subst e <;> rfl
def JL:List PyData→(PyData→Prop)→Prop:=fun ds Q=> ∃x:De,ds=[x.enc]∧gE x∧(∀d nm(pt:Pt),x= .oth (Ka "rule") d nm [pt.enc]→W5 pt.wd)∧Q x.put.enc
theorem JM(T:Txt K mg t):aL P w K mg base CX0 1 t.a_x44 t.d_x44 ["_law_deed_here"] (bp K JL):=by
 refine T.F_x44.okD AS (fun ds Q h=> ?_) (fun cdv A outer s H O ds Q E hr h=> ?_)
 ·obtain⟨x,rfl,_⟩:=h;rfl
 ·obtain⟨x,rfl,gx,h5,q⟩:=h
  refine'⟨_,?body,?read⟩
  case body=>
   refine' aA ?s1 ?r1
   case s1=>
    generalize hD2:Expr.Dict _ _ _=ed2
    refine' oP (i:=1) AS.nd rfl (by walk_at "o") ?e2 (hs:=by subst hD2;first | rfl | exact yi)
    case' e2=> subst hD2
    refine' Af ?p2_0
    case p2_0=>
     refine' iP aP aP ?p2_1
     case p2_1=>
      refine' iP aP aP ?p2_2
      case p2_2=>
       refine' iP aP aP ?p2_3
       case p2_3=>
        refine' iP aP aP ?p2_4
        case p2_4=>
         refine' iP aP aP ?p2_5
         case p2_5=> exact Ae
   case' r1=> refine' aA ?s3 ?r3
   case s3=>
    refine' bH ?c4 ?a4 bJ
    case c4=> exact(aM (iK hr.units) iL (df (av aH aI (df (dv 0)) (df ag))) (df aP) (aD _))
    case' a4=> refine' aC ?s5
    case s5=> exact(aN (dv 0))
   case' r3=> refine' aC ?s7
   case' s7=> generalize hG8:Expr.BinOp _ _ _ _=eg8
   refine' aN ?e8
   case' e8=> subst hG8
   refine' aV m7 m8 (df ?a9) (df ?b9)
   case a9=> exact(oN (df (dv 0)) iM (eT ag))
   case' b9=> refine' bD ?t11
   case' t11=> refine' aa ?u12 ai
   case' u12=> refine' aV m7 m8 (df ?a13) (df ?b13)
   case a13=>
    refine' bD ?t14
    case' t14=> refine' aa ?u15 ai
    case u15=> exact(sQ (i:=1) hr.units (pv 1) (av aH aI (df (av aH aI (df (dv 0)) (df ag))) (df ag)) (fun _ _=> rfl))
   case b13=> exact(oN (df (av aH aI (df (dv 0)) (df ag))) (eT ag) iM)
  case read=>
  clear hr T
  cases x with
  | pap p=>
   simp only [De.enc,Pp.enc]
   walk_at "rz"
   exact⟨js,rfl,by decide,pU,by decide+kernel,by decide+kernel,q⟩
  | oth wo d nm r=>
   by_cases e:wo=Ka "rule"
   ·subst e
    obtain⟨pt,rfl,po⟩:=gx.ru _ _ _ rfl
    have w5:=h5 _ _ _ rfl
    rw [pR] at q
    cases pt with
    | two v kd=>
     simp only [De.enc,Pt.enc]
     walk_at "rz"
     exact⟨js,rfl,by decide,pU,by decide+kernel,by decide+kernel,_,by rw [B2];exact B3 w5,q⟩
    | five v kd s k u=>
     simp only [De.enc,Pt.enc]
     walk_at "rz"
     exact⟨js,rfl,by decide,pU,by decide+kernel,by decide+kernel,_,by rw [B2];exact B3 w5,q⟩
   ·rw [uJ e] at q
    simp only [De.enc]
    walk_at "rz"
    refine⟨js,rfl,by decide,pU,bR.mpr gx.w,by decide+kernel,?_⟩
    rw [if_pos (bL e)]
    exact q
def JN:List PyData→(PyData→Prop)→Prop:=fun ds Q=> ∃(xs:List De)(n:Int)(c:Pp)(g:Gn),ds=[.tuple (xs.map De.enc),.int n,.str c.nm,g.enc]∧dj xs∧c∈aO xs∧(d7 xs n (aG xs n)→(aG xs n).length≤41→fk (aK xs c)→Q (.tuple [.tuple ((iw xs n c g).map bZ),.tuple ((ix xs n c g).map bZ)]))
theorem B4(T:Txt K mg t):aL P w K mg base CX0 10 t.a_x45 t.d_x45 ["_law_deeds_here","_law_day_here","_law_name","_law_gone"] (bp K JN):=by
 have G_x27:=IW (P:=P) (w:=w) (base:=base) T
 have G_x28:=IX (P:=P) (w:=w) (base:=base) T
 refine T.F_x45.okD Hx (fun ds Q h=> ?_) (fun cdv A outer s H O ds Q E hr h=> ?_)
 ·obtain⟨xs,n,c,g,rfl,_⟩:=h;rfl
 ·obtain⟨xs,n,c,g,rfl,gd,hc,q⟩:=h
  refine'⟨_,?body,?read⟩
  case body=>
   refine' aC ?s1
   case' s1=> refine' aN ?e2
   case' e2=> refine' bD ?t3
   case' t3=> refine' aa ?u4 ?w4
   case u4=> exact(PE.imp (aq G_x27 (hr.mono (by decide)) rfl T.m_x27 T.F_x27.kp T.b_x27 .nil ao (aa (dv 0) (aa (dv 1) (aa (dv 2) (aa (dv 3) ai))))) az)
   case' w4=> refine' aa ?u6 ai
   case u6=> exact(PE.imp (aq G_x28 (hr.mono (by decide)) rfl T.m_x28 T.F_x28.kp T.b_x28 .nil ao (aa (dv 0) (aa (dv 1) (aa (dv 2) (aa (dv 3) ai))))) az)
  case read=>
  clear hr T G_x27 G_x28
  walk_at "rz"
  exact⟨xs,n,c,g,rfl,gd,hc,fun h1 h2 h3=> ⟨xs,n,c,g,rfl,gd,hc,fun _ _ _=> q h1 h2 h3⟩⟩
end
end K18
open PySem L2
namespace K18
theorem B5:bz (ah gz) ["_law_deeds_here","_law_day_here","_law_name","_law_gone","_law_rules","_law_stay","_law_leave","_law_needs","_law_rule","_law_alone_here","_law_bare_here","_law_mine","_law_need","_law_calls"] ["_law_deed_here"] 1 [] {kind:=Ko,names:=[(Kc ".0",PySem.NameKind.local),(Kc "_law_deed_here",PySem.NameKind.local)],isGenerator:=false,isCoroutine:=false,more:=[]:K0}:=⟨rfl,by decide+kernel,by decide+kernel,by decide+kernel,rfl,by decide+kernel,by decide+kernel,by decide+kernel,rfl⟩
theorem uM:bz (ah gz) ["_law_deeds_here","_law_day_here","_law_name","_law_gone","_law_rules","_law_stay","_law_leave","_law_needs","_law_rule","_law_alone_here","_law_bare_here","_law_mine","_law_need","_law_calls"] ["_law_one","_law_by","_law_rule"] 2 [8] {kind:=Ko,names:=[ (Kc ".0",PySem.NameKind.local),(Kc "_law_one",PySem.NameKind.local),(Kc "_law_by",PySem.NameKind.local),(Kc "_law_rule",Ks)],isGenerator:=false,isCoroutine:=false,more:=[]:K0}:=⟨rfl,by decide+kernel,by decide+kernel,by decide+kernel,rfl,by decide+kernel,by decide+kernel,by decide+kernel,rfl⟩
section
theorem JO{n:Nat}(h:1≤n:=by decide):bU n .none:=⟨by simp [K4],by simp [MU]⟩
theorem uN(o:Option Int):bU 1 (cw o):=by cases o with | none=> exact JO | some i=> exact xC
theorem pV{α:Type}{l:List α}{a:α}(h:l.head?=some a):a∈l:=by
 cases l with
 | nil=> cases h
 | cons b l=> cases h;exact K3
theorem JP{r:Rp}{n:Int}{g:Gn}{pt:Pt}{b:PyData}(ro:fk r)(h:fB r n g pt=some b):bU 1 b:=by
 cases pt with
 | five w kd s k u=>
  have h:(if _ then some (cw (cz r n (.five w kd s k u))) else none)=some b:=h
  split at h
  ·cases h;exact uN _
  ·cases h
 | two w kd=>
  have h:(if w=Ka "while" then(cX r n g).head?.map Kf else none)=some b:=h
  split at h
  ·cases hh:(cX r n g).head? with
   | none=> rw [hh] at h;cases h
   | some m=>
    rw [hh] at h;cases h
    exact oI (ro.2.2.2 m (KA.mp (pV hh)).1)
  ·cases h
theorem JQ{r:Rp}{n:Int}{g:Gn}{pt:Pt}{b:PyData}(ro:fk r)(h:fC r n g pt=some b):bU 1 b:=by
 cases pt with
 | five w kd s k u=>
  have h:(if _ then some (cw (cz r n (.five w kd s k u))) else none)=some b:=h
  split at h
  ·cases h;exact uN _
  ·cases h
 | two w kd=>
  have h:(if w=Ka "follow" then(cY r n g).head?.map Kf else none)=some b:=h
  split at h
  ·cases hh:(cY r n g).head? with
   | none=> rw [hh] at h;cases h
   | some m=>
    rw [hh] at h;cases h
    exact oI (ro.2.2.2 m (KA.mp (pV hh)).1)
  ·cases h
theorem B6(ws:List Str)(n:Int)(xs:List Rw):∀i,∃L,dU ws n (xs.take i) L
 | 0=> ⟨[],dU.nil _ _⟩
 | i+1=> by
  obtain⟨L,hL⟩:=B6 ws n xs i
  cases hx:xs[i]? with
  | none=> exact⟨L,by rw [Lv,hx];simpa using hL⟩
  | some y=>
   have tk:xs.take (i+1)=xs.take i++[y]:=by rw [Lv,hx];rfl
   rw [tk]
   by_cases ho:fy ws n y
   ·cases hl:dH L y.nm with
    | none=> exact⟨_,hL.put ho fun z e=> by rw [hl] at e;cases e⟩
    | some z=>
     by_cases hlt:z.n < y.n
     ·exact⟨_,hL.put ho fun z' e=> by rw [hl] at e;cases e;exact hlt⟩
     ·exact⟨L,hL.keep hl hlt⟩
   ·exact⟨L,hL.skip ho⟩
theorem pW{xs:List De}(g:dj xs)(n:Int):d7 xs n (aG xs n):=by
 obtain⟨L,hL⟩:=B6 fO n (xs.map De.rw) (xs.map De.rw).length
 rw [Lc (Kk _)] at hL
 obtain⟨M,h1,_⟩:=Bs g hL.res
 rw [←nu h1];exact h1
def nH(L:List (Str×Pt)):Prop:=∀z∈L,Kr z.1=true
def lV(cs:List (Str×PyData)):Prop:=∀z∈cs,Kr z.1=true∧bU 1 z.2
theorem B7{r:Rp}{n:Int}{L:List (Str×Pt)}{z:Str×Pt}(h:z∈bY r n L):z∈L:=by
 unfold bY at h
 split at h
 ·cases h
 ·exact(KA.mp h).1
theorem pX{r:Rp}{n:Int}{g:Gn}{L:List (Str×Pt)}(ro:fk r)(h:nH L):lV (cu r n g L):=fun z hz=> by
 obtain⟨y,hy,hz⟩:=Ox.mp hz
 unfold fD at hz
 cases e:fB r n g y.2 with
 | none=> rw [e] at hz;cases hz
 | some b=>
  rw [e] at hz
  have:z=(y.1,b):=by simpa using hz
  rw [this];exact⟨h y (B7 hy),JP ro e⟩
theorem pY{r:Rp}{n:Int}{g:Gn}{L:List (Str×Pt)}(ro:fk r)(h:nH L):lV (cv r n g L):=fun z hz=> by
 obtain⟨y,hy,hz⟩:=Ox.mp hz
 unfold fE at hz
 cases e:fC r n g y.2 with
 | none=> rw [e] at hz;cases hz
 | some b=>
  rw [e] at hz
  have:z=(y.1,b):=by simpa using hz
  rw [this];exact⟨h y (B7 hy),JQ ro e⟩
theorem B8{cs:List (Str×PyData)}(h:lV cs):bU 3 (.tuple (cs.map bZ)):=cF fun d hd=> by
 obtain⟨z,hz,rfl⟩:=Ky.mp hd
 exact cF (aR (bK (h z hz).1) (aR (h z hz).2 cV))
def uO(S G:List (Str×PyData)):PyData:= .tuple [.tuple (S.map bZ),.tuple (G.map bZ)]
theorem B9{S G:List (Str×PyData)}(h1:lV S)(h2:lV G):bU 4 (uO S G):=cF (aR (B8 h1) (aR (B8 h2) cV))
theorem kF{xs:List De}{n:Int}(g:dj xs)(h:d7 xs n (aG xs n)):nH (aG xs n):=fun z hz=> by
 obtain⟨d,_,hm,_⟩:=(h.2 z).mp hz
 exact g.gx.nm _ hm
theorem Ca{r:Rp}{n:Int}(L M:List (Str×Pt)):bY r n (L++M)=bY r n L++bY r n M:=by
 unfold bY
 split
 ·rfl
 ·rw [MP]
theorem Cb{α:Type}{r:Rp}{n:Int}{g:Gn}{f:α→List (Str×Pt)}:∀l:List α,cu r n g (l.flatMap f)=l.flatMap fun a=> cu r n g (f a)
 | []=> by show QD _ (bY r n [])=[];unfold bY;split <;> rfl
 | a::l=> by
  rw [LF,LF,←Cb l]
  unfold cu
  rw [Ca,Mi]
theorem Cc{α:Type}{r:Rp}{n:Int}{g:Gn}{f:α→List (Str×Pt)}:∀l:List α,cv r n g (l.flatMap f)=l.flatMap fun a=> cv r n g (f a)
 | []=> by show QD _ (bY r n [])=[];unfold bY;split <;> rfl
 | a::l=> by
  rw [LF,LF,←Cc l]
  unfold cv
  rw [Ca,Mi]
def bt(R:List (Str×Pt))(r:Str):List (Str×Pt):=R.filter fun z=> z.1==r
theorem JR{R:List (Str×Pt)}(h:R.Pairwise fA){ns:List Str}(up:ns.Pairwise fun a b=> cP a b=true∧a≠b)(sb:∀z∈R,z.1∈ns):ns.flatMap (bt R)=R:=by
 refine Bq ?_ h fun z=> ?_
 ·rw [List.pairwise_flatMap]
  refine⟨fun a _=> h.sublist LN,up.imp fun{a b} hab x hx y hy=> ?_⟩
  have e1:=eq_of_beq (KA.mp hx).2
  have e2:=eq_of_beq (KA.mp hy).2
  unfold fA
  rw [e1,e2];exact hab
 ·rw [Ox]
  exact⟨fun uu50=> by obtain⟨a,_,hz⟩:=uu50;exact(KA.mp hz).1,fun hz=> ⟨z.1,sb z hz,KA.mpr ⟨hz,beq_self_eq_true _⟩⟩⟩
theorem uP{R:List (Str×Pt)}(h:R.Pairwise fA)(r:Str):bt R r=[]∨∃pt,bt R r=[(r,pt)]:=by
 have hp:(bt R r).Pairwise fA:=h.sublist LN
 have hn:∀z∈bt R r,z.1=r:=fun z hz=> eq_of_beq (KA.mp hz).2
 cases e:bt R r with
 | nil=> exact .inl rfl
 | cons a l=>
  cases l with
  | nil=>
   refine .inr ⟨a.2,?_⟩
   have:=hn a (by rw [e];simp)
   rw [←this]
  | cons b l=>
   rw [e] at hp hn
   have:=(Lr.mp hp).1 b (by simp)
   exact absurd ((hn a (by simp)).trans (hn b (by simp)).symm) this.2
theorem uQ{r:Rp}{n:Int}{g:Gn}{z:Str×Pt}:(fD r n g z++fE r n g z).length≤1∧∀y∈fD r n g z++fE r n g z,y.1=z.1:=by
 have hs:∀y∈fD r n g z++fE r n g z,y.1=z.1:=fun y hy=> by
  rcases KL.mp hy with h | h
  ·unfold fD at h
   cases e:fB r n g z.2 with
   | none=> rw [e] at h;cases h
   | some b=>
    rw [e] at h;have:y=(z.1,b):=by simpa using h
    rw [this]
  ·unfold fE at h
   cases e:fC r n g z.2 with
   | none=> rw [e] at h;cases h
   | some b=>
    rw [e] at h;have:y=(z.1,b):=by simpa using h
    rw [this]
 refine⟨?_,hs⟩
 have:fB r n g z.2=none∨fC r n g z.2=none:=by
  cases z.2 with
  | five w kd s k u=>
   by_cases e:w=Ka "keep"
   ·refine .inr ?_
    show(if _ then _ else none)=none
    rw [if_neg fun h=> absurd (e.symm.trans h.1) (by decide+kernel)]
   ·refine .inl ?_
    show(if _ then _ else none)=none
    rw [if_neg fun h=> e h.1]
  | two w kd=>
   by_cases e:w=Ka "while"
   ·refine .inr ?_
    show(if _ then _ else none)=none
    rw [if_neg fun h=> absurd (e.symm.trans h) (by decide+kernel)]
   ·refine .inl ?_
    show(if _ then _ else none)=none
    rw [if_neg e]
 rw [KR]
 unfold fD fE
 rcases this with e | e <;> rw [e]
 ·cases (fC r n g z.2) <;> simp
 ·cases (fB r n g z.2) <;> simp
theorem uR{r:Rp}{n:Int}{g:Gn}{R:List (Str×Pt)}(h:R.Pairwise fA)(rl:Str):(cu r n g (bt R rl)++cv r n g (bt R rl)).length≤1∧∀y∈cu r n g (bt R rl)++cv r n g (bt R rl),y.1=rl:=by
 rcases uP h rl with e | ⟨pt,e⟩ <;> rw [e]
 ·have:∀f:Str×Pt→List (Str×PyData),(bY r n []).flatMap f=[]:=fun f=> by unfold bY;split <;> rfl
  unfold cu cv
  rw [this,this];simp
 ·have two:bY r n [(rl,pt)]=[]∨bY r n [(rl,pt)]=[(rl,pt)]:=by
   unfold bY
   split
   ·exact .inl rfl
   ·rw [K2]
    split
    ·exact .inr rfl
    ·exact .inl rfl
  unfold cu cv
  rcases two with e2 | e2 <;> rw [e2]
  ·simp
  ·rw [MR,MR];exact uQ
theorem Cd(kd:Str){α:Type}{f:α→List (Str×Pt)}:∀l:List α,decide (0 < (dX kd (l.flatMap f)).length)=l.any fun a=> decide (0 < (dX kd (f a)).length)
 | []=> rfl
 | a::l=> by
  rw [LS,←Cd kd l,LF]
  have:dX kd (f a++l.flatMap f)=dX kd (f a)++dX kd (l.flatMap f):=by unfold dX;rw [MP,KZ]
  rw [this,KR]
  by_cases h1:0 < (dX kd (f a)).length
  ·rw [decide_eq_true h1,decide_eq_true (by omega)];rfl
  ·rw [decide_eq_false h1,M5]
   exact decide_eq_decide.mpr (by omega)
end
section
variable {P:Program} {w:World} {K:Kb} {mg:Str→Option Value} {base:Heap} {t:cW}
def JS:List PyData→(PyData→Prop)→Prop:=fun ds Q=> ∃(xs:List De)(n:Int)(c:Pp)(g:Gn),ds=[.tuple (xs.map De.enc),.int n,.str c.nm,g.enc]∧dM xs∧c∈aO xs∧Q (.bool true)
theorem JT(T:Txt K mg t):aL P w K mg base CX0 11 t.a_x46 t.d_x46 ["_law_deeds_here","_law_day_here","_law_name","_law_gone"] (bp K JS):=by
 have G_x42:=JD (P:=P) (w:=w) (base:=base) T
 have G_x43:=JF (P:=P) (w:=w) (base:=base) T
 have G_x45:=B4 (P:=P) (w:=w) (base:=base) T
 have G_x29:=IZ (P:=P) (w:=w) (base:=base) T
 refine T.F_x46.okD fM (fun ds Q h=> ?_) (fun cdv A outer s H O ds Q E hr h=> ?_)
 ·obtain⟨xs,n,c,g,rfl,_⟩:=h;rfl
 ·obtain⟨xs,n,c,g,rfl,gl,hc,q⟩:=h
  refine'⟨_,?body,?read⟩
  case body=>
   refine' aA ?s1 ?r1
   case s1=>
    refine' bG (i:=4) fM.nd rfl (by walk_at "o") ?e2 (hs:=g0)
    case e2=> exact(fe (GC rfl rfl T.n_sorted Md rfl T.n_set (bg (df (fe (gU rfl B5 (df (dv 0)) aU cB (by decide) (fun _ _ _ _=> (aS (i:=0) B5.nd rfl (by walk_at "o"))) (fun _ _ _ _=> (dA (aM (dF hr) dG (df (av aH aI (df (dv 0)) (df ag))) (df aP) (aD _)))) (fun _ _ _ _=> (av aH aI (df (dv 0)) (df ag)))))) bx)))
   case' r1=> refine' aA ?s4 ?r4
   case s4=> exact(qW (bD (aa (bD ai) (aa (bD ai) (aa fu ai)))) (fG (n:=3) rfl (cx (aS (i:=5) fM.nd rfl (by walk_at "o")) (cx (aS (i:=6) fM.nd rfl (by walk_at "o")) (cx (aS (i:=7) fM.nd rfl (by walk_at "o")) fF)))) (fY (cE aU (cE aU (cE aU fX)))))
   case' r4=> refine' aA ?s6 ?r6
   case s6=>
    refine' mI Lx rfl (dv 4) ?a7 aU ?b7
    case a7=> exact(aS (i:=8) fM.nd rfl (by walk_at "o"))
    case' b7=> refine' aA ?s8 ?r8
    case s8=> exact(bG (i:=9) fM.nd rfl (by walk_at "o") (PE.imp (aq G_x42 (hr.mono (by decide)) rfl T.m_x42 T.F_x42.kp T.b_x42 .nil ao (aa (dv 0) (aa (dv 8) ai))) az))
    case' r8=> refine' aA ?s10 ?r10
    case s10=> exact(bG (i:=10) fM.nd rfl (by walk_at "o") (PE.imp (aq G_x43 (hr.mono (by decide)) rfl T.m_x43 T.F_x43.kp T.b_x43 .nil ao (aa (dv 9) (aa (dv 2) ai))) az))
    case' r10=> refine' aA ?s12 ?r12
    case s12=> exact(bG (i:=11) fM.nd rfl (by walk_at "o") (PE.imp (aq G_x45 (hr.mono (by decide)) rfl T.m_x45 T.F_x45.kp T.b_x45 .nil ao (aa (dv 9) (aa (dv 1) (aa (dv 2) (aa (dv 3) ai))))) az))
    case' r12=> refine' aA ?s14 ?r14
    case s14=> exact(bG (i:=12) fM.nd rfl (by walk_at "o") (PE.imp (aq G_x29 (hr.mono (by decide)) rfl T.m_x29 T.F_x29.kp T.b_x29 .nil ao (aa (dv 9) (aa (dv 1) (aa (dv 2) ai)))) az))
    case' r14=> refine' aA ?s16 ?r16
    case s16=>
     refine' bH ?c17 ?a17 bJ
     case c17=> exact(PW.pt (iG (aM (iK hr.units) iL (df (PE.imp (aq G_x45 (hr.mono (by decide)) rfl T.m_x45 T.F_x45.kp T.b_x45 .nil ao (aa (dv 10) (aa (dv 1) (aa (dv 2) (aa (dv 3) ai))))) az)) (df (dv 11)) (aD _)) (jw (aM (iK hr.units) iL (df (PE.imp (aq G_x29 (hr.mono (by decide)) rfl T.m_x29 T.F_x29.kp T.b_x29 .nil ao (aa (dv 10) (aa (dv 1) (aa (dv 2) ai)))) az)) (df (dv 12)) (aD _)))))
     case a17=> refine' aC (aN fu)
    case' r16=> refine' aA ?s20 ?r20
    case s20=>
     refine' bG (i:=13) fM.nd rfl (by walk_at "o") ?e21 (hs:=mY)
     case' e21=> refine' aV m7 m8 (df ?a22) (df ?b22)
     case a22=> exact(av aH aI (df (dv 11)) (df ag))
     case b22=> exact(av aH aI (df (dv 11)) (df ag))
    case' r20=> refine' aA ?s25 ?r25
    case s25=>
     refine' bH ?c26 ?a26 bJ
     case c26=> exact(PW.pt (iG (aM gL eo (df (PE.imp (bW fq rfl T.n_len Lw (bg (df (dv 13)) bx)) (bN fZ))) (df ag) (aD _)) (jw (iF (PE.imp (bW (wQ rfl) rfl T.n_any wU (bg (df (fe (gU rfl uM (df (dv 13)) (fY (cE aU (cE aU fX))) m6 (by decide) (fun _ _ _ _=> (fG (n:=2) rfl (cx (aS (i:=0) uM.nd rfl (by walk_at "o")) (cx (aS (i:=1) uM.nd rfl (by walk_at "o")) fF)))) (fun _ _ _ _=> gf) (fun _ _ _ _=> (dR (iK hr.units) iL (df (dv 0)) (df (dv 2)) (aD _)))))) bx)) (bN oB))))))
     case a26=> refine' aC (aN fu)
    case' r25=> refine' aC ?s29
    case s29=> exact(GH (i:=5) (j:=6) (k:=7) rfl fM.nd rfl rfl rfl (by decide) (by decide) (by decide) rfl rfl rfl (aa (aV m7 m8 (df (dv 5)) (df (av aH aI (df (dv 11)) (df ag)))) (aa (aV m7 m8 (df (dv 6)) (df (av aH aI (df (dv 11)) (df ag)))) (aa (wX (dv 7) (kh (dv 12))) ai))) (by rfl))
   case' r6=> refine' aC ?s31
   case' s31=> refine' aN ?e32
   case e32=> exact(mD (dR (cn hr.units) cq (df (PE.imp (aq G_x45 (hr.mono (by decide)) rfl T.m_x45 T.F_x45.kp T.b_x45 .nil ao (aa (dv 0) (aa (dv 1) (aa (dv 2) (aa (dv 3) ai))))) az)) (df (bD (aa (dv 5) (aa (dv 6) ai)))) (aD _)) (kh (dR (cn hr.units) cq (df (PE.imp (aq G_x29 (hr.mono (by decide)) rfl T.m_x29 T.F_x29.kp T.b_x29 .nil ao (aa (dv 0) (aa (dv 1) (aa (dv 2) ai)))) az)) (df (dv 7)) (aD _))))
  case read=>
  clear hr T G_x42 G_x43 G_x45 G_x29
  have gd:=gl.good
  have ln:=gd.gx.ln
  walk_at "rz"
  refine⟨by rw [Kd];omega,jM De.isR (fun x=> .str x.nm) (fun x hx R S h1 h0=> ?_) ?_⟩
  ·cases x with
   | pap p=>
    simp only [De.enc,Pp.enc]
    walk_at "rz"
    exact h0 rfl
   | oth wo d nm l=>
    simp only [De.enc] at h1⊢
    walk_at "rz"
    split
    ·rename_i h;exact h1 h
    ·rename_i h;exact h0 (by show(wo==Ka "rule")=false;simpa using h)
  ·refine⟨(xs.filter De.isR).map De.nm,by rw [KY];rfl,by rw [Kd];have:=K8 De.isR xs;omega,?_⟩
   obtain⟨ns,hns⟩:∃ns,ns=cC (((xs.filter De.isR).map De.nm).foldl cN []):=⟨_,rfl⟩
   rw [←hns]
   have nm:∀r,r∈ns↔∃x∈xs,x.isR=true∧x.nm=r:=fun r=> by
    rw [hns,(fx _).mem_iff,zZ]
    simp [and_assoc]
   have up:ns.Pairwise fun a b=> cP a b=true∧a≠b:=by
    have nd:ns.Nodup:=by rw [hns];exact((fx _).nodup_iff).mpr (z3 .nil)
    exact(show ns.Pairwise (fun a b=> cP a b=true) by rw [hns];exact sr _).and nd
   have nok:∀r∈ns,Kr r=true:=fun r hr=> by
    obtain⟨x,hx,_,e⟩:=(nm r).mp hr
    rw [←e];exact gd.gx.nm x hx
   have nl:ns.length≤41:=by
    rw [hns,(fx _).length_eq]
    have:=tq ((xs.filter De.isR).map De.nm) []
    have h2:=K8 De.isR xs
    rw [Kd] at this
    simp at this
    omega
   clear hns
   refine⟨fun i δ=> ∃(o8 o9 o10 o11 o12 o13:Option Sl),δ=[some (Sl.v (KH (KO De.enc xs))),some (Sl.v (Kh n)),some (Sl.v (Kf c.nm)),some (Sl.v g.enc),some (Sl.v (Li (KO Kf ns))),
    some (Sl.v (.tuple (((ns.take i).flatMap fun r=> cu (aK xs c) n g (bt (aG xs n) r)).map bZ))),some (Sl.v (.tuple (((ns.take i).flatMap fun r=> cv (aK xs c) n g (bt (aG xs n) r)).map bZ))),some (Sl.v (.bool ((ns.take i).any fun r=> decide (0 < (dX c.kd (bt (aG xs n) r)).length)))),o8,o9,o10,o11,o12,o13],⟨_,_,_,_,_,_,rfl⟩,?_,?_⟩
   ·rintro i x δ hx ⟨o8,o9,o10,o11,o12,o13,rfl⟩
    rw [KQ] at hx
    cases hx':ns[i]? with
    | none=> rw [hx'] at hx;cases hx
    | some r=>
     rw [hx'] at hx;cases hx
     have hR:=pW gd n
     have hr:=KW hx'
     have ga:=(gl.alo r).good
     have gb:=((gl.alo r).bar c.nm).good
     have hca:c∈aO (dn xs r):=by rw [BW];exact hc
     have hcb:c∈aO (d8 (dn xs r) c.nm):=by rw [BX];exact hca
     have eA:aG (dn xs r) n=bt (aG xs n) r:=(nu (JA hR r)).symm
     have eB:aG (d8 (dn xs r) c.nm) n=bt (aG xs n) r:=by rw [←nu (JB (pW ga n) c.nm),eA]
     have sA:iw (dn xs r) n c g=cu (aK xs c) n g (bt (aG xs n) r):=by unfold iw;rw [nG,eA]
     have gA:ix (dn xs r) n c g=cv (aK xs c) n g (bt (aG xs n) r):=by unfold ix;rw [nG,eA]
     have nA:jQ (dn xs r) n c=decide (0 < (dX c.kd (bt (aG xs n) r)).length):=by unfold jQ;rw [eA]
     have sB:iw (d8 (dn xs r) c.nm) n c g=cu (aK xs c) n g (bt (aG xs n) r):=by unfold iw;rw [BY,nG,eB]
     have gB:ix (d8 (dn xs r) c.nm) n c g=cv (aK xs c) n g (bt (aG xs n) r):=by unfold ix;rw [BY,nG,eB]
     have nB:jQ (d8 (dn xs r) c.nm) n c=decide (0 < (dX c.kd (bt (aG xs n) r)).length):=by unfold jQ;rw [eB]
     have cnok:=gd.gx.gp.nm c hc
     obtain⟨oc1,oc2⟩:=uR (r:=aK xs c) (n:=n) (g:=g) hR.1 r
     have pn:nH (bt (aG xs n) r):=fun z hz=> kF gd hR z (KA.mp hz).1
     have t1:(ns.take (i+1)).flatMap (fun r=> cu (aK xs c) n g (bt (aG xs n) r))=(ns.take i).flatMap (fun r=> cu (aK xs c) n g (bt (aG xs n) r))++cu (aK xs c) n g (bt (aG xs n) r):=by
      rw [Lv,hx',Mi];simp
     have t2:(ns.take (i+1)).flatMap (fun r=> cv (aK xs c) n g (bt (aG xs n) r))=(ns.take i).flatMap (fun r=> cv (aK xs c) n g (bt (aG xs n) r))++cv (aK xs c) n g (bt (aG xs n) r):=by
      rw [Lv,hx',Mi];simp
     have t3:((ns.take (i+1)).any fun r=> decide (0 < (dX c.kd (bt (aG xs n) r)).length))=(((ns.take i).any fun r=> decide (0 < (dX c.kd (bt (aG xs n) r)).length)) || decide (0 < (dX c.kd (bt (aG xs n) r)).length)):=by
      rw [Lv,hx',Qg];simp
     have lS:((ns.take i).flatMap (fun r=> cu (aK xs c) n g (bt (aG xs n) r))).length≤41:=by
      refine KS (lO (fun r=> ?_) _) (by rw [Lk];omega)
      have:=(uR (r:=aK xs c) (n:=n) (g:=g) hR.1 r).1
      rw [KR] at this;omega
     have lG:((ns.take i).flatMap (fun r=> cv (aK xs c) n g (bt (aG xs n) r))).length≤41:=by
      refine KS (lO (fun r=> ?_) _) (by rw [Lk];omega)
      have:=(uR (r:=aK xs c) (n:=n) (g:=g) hR.1 r).1
      rw [KR] at this;omega
     walk_at "rz"
     rw [t1,t2,t3]
     refine⟨xs,r,rfl,gd,nok r hr,_,c.nm,rfl,ga,cnok,_,n,c,g,rfl,ga,hca,fun a1 a2 a3=> ⟨_,n,c,rfl,ga,hca,_,n,c,g,rfl,gb,hcb,fun b1 b2 b3=> ?_⟩⟩
     rw [nG] at a3
     rw [sA,gA,sB,gB,nA]
     have cS:=pX (n:=n) (g:=g) a3 pn
     have cG:=pY (n:=n) (g:=g) a3 pn
     have ly:=B9 cS cG
     clear sA gA sB gB nA t1 t2 t3
     generalize cu (aK xs c) n g (bt (aG xs n) r)=S at*
     generalize cv (aK xs c) n g (bt (aG xs n) r)=G at*
     unfold uO at ly
     refine⟨ly.shp (by decide),ly.shp (by decide),?_⟩
     rw [jR _ ly.can,if_neg (by simp)]
     refine⟨_,n,c,rfl,gb,hcb,mP,mP,?_⟩
     rw [nB,jR _ rfl,if_neg (by simp)]
     rw [KR] at oc1
     refine⟨_,rfl,_,cT,_,rfl,_,cU,_,rfl,_,rfl,by rw [Kd,Kd];omega,?_⟩
     rw [←KZ,if_neg (by rw [Kd,KR];omega)]
     refine⟨by rw [Kd,KR];omega,jM (fun _=> true) (fun _=> .bool false) (fun z hz R S h1 _=> ?_) ?_⟩
     ·simp only [bZ]
      walk_at "rz"
      refine⟨bR.mpr (by rw [oc2 z hz];exact nok r hr),bR.mpr (nok r hr),?_⟩
      rw [oc2 z hz,beq_self_eq_true]
      exact h1 rfl
     ·rw [jN]
      refine⟨(S++G).map fun _=> false,by rw [KY];rfl,?_⟩
      rw [if_neg (by rw [QA];simp [MZ])]
      refine⟨_,rfl,_,cT,_,rfl,by rw [Kd,Kd];omega,_,rfl,_,cU,_,rfl,by rw [Kd,Kd];omega,?_⟩
      split
      ·rename_i hb
       exact⟨by rw [KZ],by rw [KZ],by rw [hb];rfl,_,rfl⟩
      ·rename_i hb
       have hb:((List.take i ns).any fun r=> decide (0 < (dX c.kd (bt (aG xs n) r)).length))=false:=by simpa using hb
       exact⟨by rw [KZ],by rw [KZ],by rw [hb];rfl,_,rfl⟩
   ·rintro δ ⟨o8,o9,o10,o11,o12,o13,rfl⟩
    rw [Kd,Lc (Kk _)]
    walk_at "rz"
    have hR:=pW gd n
    have pf:ns.flatMap (bt (aG xs n))=aG xs n:=JR hR.1 up fun z hz=> by
     obtain⟨d,_,hm,_⟩:=(hR.2 z).mp hz
     exact(nm z.1).mpr ⟨_,hm,by simp [De.isR],rfl⟩
    rw [←Cb,←Cc,←Cd]
    rw [show(ns.flatMap fun r=> bt (aG xs n) r)=aG xs n from pf]
    refine⟨xs,n,c,g,rfl,gd,hc,fun h1 h2 h3=> ?_⟩
    have ly:=B9 (pX (n:=n) (g:=g) h3 (kF gd hR)) (pY (n:=n) (g:=g) h3 (kF gd hR))
    unfold uO at ly
    refine⟨ly.shp (by decide),ly.shp (by decide),?_⟩
    unfold iw ix
    rw [jR _ ly.can,if_pos rfl]
    refine⟨xs,n,c,rfl,gd,hc,mP,?_⟩
    unfold jQ
    rw [jR _ rfl]
    exact q
end
end K18
open PySem L2
namespace K18
theorem Ce:bz (ah gC) ["_law_elders","_law_gone","_law_day_here","_law_stay","_law_leave"] ["_law_one","_law_elders","_law_day_here","_law_gone"] 1 [0,2,1] {kind:=Ko,names:=[ (Kc ".0",PySem.NameKind.local),(Kc "_law_one",PySem.NameKind.local),(Kc "_law_day_here",Ks),(Kc "_law_elders",Ks),(Kc "_law_gone",Ks)],isGenerator:=false,isCoroutine:=false,more:=[]:K0}:=⟨rfl,by decide+kernel,by decide+kernel,by decide+kernel,rfl,by decide+kernel,by decide+kernel,by decide+kernel,rfl⟩
theorem Cf:bz (ah gC) ["_law_elders","_law_gone","_law_day_here","_law_stay","_law_leave"] ["_law_one","_law_elders","_law_day_here","_law_gone"] 1 [0,2,1] {kind:=Ko,names:=[ (Kc ".0",PySem.NameKind.local),(Kc "_law_one",PySem.NameKind.local),(Kc "_law_day_here",Ks),(Kc "_law_elders",Ks),(Kc "_law_gone",Ks)],isGenerator:=false,isCoroutine:=false,more:=[]:K0}:=⟨rfl,by decide+kernel,by decide+kernel,by decide+kernel,rfl,by decide+kernel,by decide+kernel,by decide+kernel,rfl⟩
theorem Cg:bz (ah fK) ["_law_deeds_here","_law_day_here","_law_name","_law_gone","_law_put_here","_law_told_here","_law_other","_law_rule","_law_parts_here","_law_keeps","_law_stay","_law_leave"] ["_law_deed_here"] 1 [] {kind:=Ko,names:=[ (Kc ".0",PySem.NameKind.local),(Kc "_law_deed_here",PySem.NameKind.local),(Kc "_law_put",Ld)],isGenerator:=false,isCoroutine:=false,more:=[]:K0}:=⟨rfl,by decide+kernel,by decide+kernel,by decide+kernel,rfl,by decide+kernel,by decide+kernel,by decide+kernel,rfl⟩
theorem uS:bz (ah fK) ["_law_deeds_here","_law_day_here","_law_name","_law_gone","_law_put_here","_law_told_here","_law_other","_law_rule","_law_parts_here","_law_keeps","_law_stay","_law_leave"] ["_law_one","_law_by","_law_rule"] 2 [7] {kind:=Ko,names:=[ (Kc ".0",PySem.NameKind.local),(Kc "_law_one",PySem.NameKind.local),(Kc "_law_by",PySem.NameKind.local),(Kc "_law_rule",Ks)],isGenerator:=false,isCoroutine:=false,more:=[]:K0}:=⟨rfl,by decide+kernel,by decide+kernel,by decide+kernel,rfl,by decide+kernel,by decide+kernel,by decide+kernel,rfl⟩
theorem uT:bz (ah fK) ["_law_deeds_here","_law_day_here","_law_name","_law_gone","_law_put_here","_law_told_here","_law_other","_law_rule","_law_parts_here","_law_keeps","_law_stay","_law_leave"] ["_law_one","_law_by","_law_rule"] 2 [7] {kind:=Ko,names:=[ (Kc ".0",PySem.NameKind.local),(Kc "_law_one",PySem.NameKind.local),(Kc "_law_by",PySem.NameKind.local),(Kc "_law_rule",Ks)],isGenerator:=false,isCoroutine:=false,more:=[]:K0}:=⟨rfl,by decide+kernel,by decide+kernel,by decide+kernel,rfl,by decide+kernel,by decide+kernel,by decide+kernel,rfl⟩
section
theorem Ci{r:Rp}{n:Int}{g:Gn}{R:List (Str×Pt)}(h:R.Pairwise fA){nm:Str}{pt:Pt}(hz:(nm,pt)∈R)(hd:r.c.d≤n)(hk:pt.kd=r.c.kd):((cu r n g R).filter fun y=> y.1==nm).map (·.2)=(fB r n g pt).toList:=by
 have key:∀L:List (Str×Pt),(L.flatMap (fD r n g)).filter (fun y=> y.1==nm)=(L.filter fun z=> z.1==nm).flatMap (fD r n g):=by
  intro L
  induction L with
  | nil=> rfl
  | cons a L ih=>
   rw [LF,MP,ih,K2]
   have ha:∀y∈fD r n g a,y.1=a.1:=fun y hy=> uQ.2 y (NK _ hy)
   by_cases e:(a.1==nm)=true
   ·rw [if_pos e,LF,NQ.mpr fun y hy=> by rw [ha y hy];exact e]
   ·rw [if_neg e,Mn.mpr fun y hy=> by rw [ha y hy];exact e,LI]
 unfold cu bY
 rw [if_neg (by omega),key,LR]
 have e1:R.filter (fun a=> (a.1==nm) && (a.2.kd==r.c.kd))=[(nm,pt)]:=by
  have e2:bt R nm=[(nm,pt)]:=by
   rcases uP h nm with e | ⟨pt',e⟩
   ·have:(nm,pt)∈bt R nm:=KA.mpr ⟨hz,beq_self_eq_true _⟩
    rw [e] at this;cases this
   ·have:(nm,pt)∈bt R nm:=KA.mpr ⟨hz,beq_self_eq_true _⟩
    rw [e] at this
    rw [e]
    rw [KP.mp this]
  have e3:R.filter (fun a=> (a.1==nm) && (a.2.kd==r.c.kd))=(bt R nm).filter fun a=> a.2.kd==r.c.kd:=by
   unfold bt
   rw [LR]
   congr 1
   funext a
   rw [Pc]
  rw [e3,e2,K2,if_pos (by rw [hk];exact beq_self_eq_true _)]
  rfl
 rw [e1,MR]
 unfold fD
 cases fB r n g pt <;> rfl
theorem Cj{r:Rp}{n:Int}{g:Gn}{R:List (Str×Pt)}(h:R.Pairwise fA){nm:Str}{pt:Pt}(hz:(nm,pt)∈R)(hd:r.c.d≤n)(hk:pt.kd=r.c.kd):((cv r n g R).filter fun y=> y.1==nm).map (·.2)=(fC r n g pt).toList:=by
 have key:∀L:List (Str×Pt),(L.flatMap (fE r n g)).filter (fun y=> y.1==nm)=(L.filter fun z=> z.1==nm).flatMap (fE r n g):=by
  intro L
  induction L with
  | nil=> rfl
  | cons a L ih=>
   rw [LF,MP,ih,K2]
   have ha:∀y∈fE r n g a,y.1=a.1:=fun y hy=> uQ.2 y (K7 _ hy)
   by_cases e:(a.1==nm)=true
   ·rw [if_pos e,LF,NQ.mpr fun y hy=> by rw [ha y hy];exact e]
   ·rw [if_neg e,Mn.mpr fun y hy=> by rw [ha y hy];exact e,LI]
 unfold cv bY
 rw [if_neg (by omega),key,LR]
 have e1:R.filter (fun a=> (a.1==nm) && (a.2.kd==r.c.kd))=[(nm,pt)]:=by
  have e2:bt R nm=[(nm,pt)]:=by
   rcases uP h nm with e | ⟨pt',e⟩
   ·have:(nm,pt)∈bt R nm:=KA.mpr ⟨hz,beq_self_eq_true _⟩
    rw [e] at this;cases this
   ·have:(nm,pt)∈bt R nm:=KA.mpr ⟨hz,beq_self_eq_true _⟩
    rw [e] at this
    rw [e]
    rw [KP.mp this]
  have e3:R.filter (fun a=> (a.1==nm) && (a.2.kd==r.c.kd))=(bt R nm).filter fun a=> a.2.kd==r.c.kd:=by
   unfold bt
   rw [LR]
   congr 1
   funext a
   rw [Pc]
  rw [e3,e2,K2,if_pos (by rw [hk];exact beq_self_eq_true _)]
  rfl
 rw [e1,MR]
 unfold fE
 cases fC r n g pt <;> rfl
end
section
variable {P:Program} {w:World} {K:Kb} {mg:Str→Option Value} {base:Heap} {t:cW}
theorem Ck{n:Nat}{ds:List PyData}(h:∀d∈ds,bU n d):bU (n+1) (.list ds):=by
 obtain⟨a,b⟩:=oJ h
 exact⟨by simpa [K4] using a,by simp only [MU];omega⟩
def Cm:List PyData→(PyData→Prop)→Prop:=fun ds Q=> ∃(r:Rp)(g:Gn)(n:Int),ds=[.tuple (r.ts.map .str),g.enc,.int n,.list ((cX r n g).head?.toList.map .str),.list ((cY r n g).head?.toList.map .str)]∧fk r∧Q (.bool true)
theorem JU(T:Txt K mg t):aL P w K mg base CX0 1 t.a_x47 t.d_x47 ["_law_elders","_law_gone","_law_day_here","_law_stay","_law_leave"] (bp K Cm):=by
 refine T.F_x47.okD Hy (fun ds Q h=> ?_) (fun cdv A outer s H O ds Q E hr h=> ?_)
 ·obtain⟨r,g,n,rfl,_⟩:=h;rfl
 ·obtain⟨r,g,n,rfl,ro,q⟩:=h
  refine'⟨_,?body,?read⟩
  case body=>
   refine' aA ?s1 ?r1
   case s1=>
    refine' bH ?c2 ?a2 bJ
    case c2=> exact(PW.pt (iG (aM gL eo (df (PE.imp (bW fq rfl T.n_len Lw (bg (df (dv 3)) bx)) (bN fZ))) (df ag) (aD _)) (iG (aM gL eo (df (PE.imp (bW fq rfl T.n_len Lw (bg (df (dv 4)) bx)) (bN fZ))) (df ag) (aD _)) (jw (PW.pt (eQ (aM (cn hr.units) cq (df (fe (rD (df (dv 3)) (df (dv 4))))) (df (fe (dh ai))) (aD _)) (eZ (aM (iK hr.units) iL (df (dv 0)) (df (bD ai)) (aD _)))))))))
    case a2=> refine' aC (aN fu)
   case' r1=> refine' aA ?s5 ?r5
   case s5=>
    refine' bH ?c6 ?a6 bJ
    case c6=> exact(kg (iF (PE.imp (bW (wO rfl) rfl T.n_all wR (bg (df (fe (gT rfl Ce (df (dv 3)) aU cB (by decide) (fun _ _ _ _=> (aS (i:=0) Ce.nd rfl (by walk_at "o"))) (fun _ _ _ _=> gf) (fun _ _ _ _=> (mD (dR (oM hr) lq (df (dv 0)) (df (dv 1)) rfl) (kh (dR gL eo (df (AB hr.units (dv 3) (dv 0) (aV bI bX (df (dv 2)) (df ag)) ⟨rfl,rfl,rfl,rfl⟩)) (df (dv 2)) (aD _)))))))) bx)) (bN oB))))
    case a6=> refine' aC (aN fu)
   case' r5=> refine' aC ?s9
   case' s9=> refine' aN ?e10
   case e10=> exact(PE.imp (bW (wO rfl) rfl T.n_all wR (bg (df (fe (gT rfl Cf (df (dv 4)) aU cB (by decide) (fun _ _ _ _=> (aS (i:=0) Cf.nd rfl (by walk_at "o"))) (fun _ _ _ _=> gf) (fun _ _ _ _=> (mD (dR (oM hr) lq (df (dv 0)) (df (dv 1)) rfl) (kh (dR j5 eo (df (AB hr.units (dv 3) (dv 0) (aV bI bX (df (dv 2)) (df ag)) ⟨rfl,rfl,rfl,rfl⟩)) (df (dv 2)) (aD _)))))))) bx)) (bN oB))
  case read=>
  clear hr T
  simp only [Gn.enc]
  walk_at "rz"
  have hst:∀m∈(cX r n g).head?.toList,m∈r.ts∧g.has n m=false:=fun m hm=> by
   have:=pV (l:=cX r n g) (a:=m) (by simpa using hm)
   unfold cX at this
   obtain⟨h1,h2⟩:=KA.mp this
   exact⟨h1,by simpa using h2⟩
  have hlv:∀m∈(cY r n g).head?.toList,m∈r.ts∧g.has n m=true:=fun m hm=> by
   have:=pV (l:=cY r n g) (a:=m) (by simpa using hm)
   unfold cY at this
   exact KA.mp this
  have hno:(cX r n g).head?.toList++(cY r n g).head?.toList=[]→r.ts=[]:=fun h=> by
   obtain⟨h1,h2⟩:=List.append_eq_nil_iff.mp h
   cases ht:r.ts with
   | nil=> rfl
   | cons m l=>
    have n1:cX r n g=[]:=by
     cases hl:cX r n g with
     | nil=> rfl
     | cons a l=> rw [hl] at h1;cases h1
    have n2:cY r n g=[]:=by
     cases hl:cY r n g with
     | nil=> rfl
     | cons a l=> rw [hl] at h2;cases h2
    unfold cX at n1
    unfold cY at n2
    have a1:=Mn.mp n1 m (by rw [ht];simp)
    have a2:=Mn.mp n2 m (by rw [ht];simp)
    simp at a1 a2
    rw [a1] at a2;cases a2
  have l1:=ny (cX r n g).head?
  have l2:=ny (cY r n g).head?
  generalize (cX r n g).head?.toList=st at*
  generalize (cY r n g).head?.toList=lv at*
  have tok:=ro.2.2.2
  have tl:Lo (r.ts.map .str)=true:=Bd tok
  have tail:(KO Kf st).length≤16777216∧fw (jx 0) jy (mC (dB (mT false) (cL 0) (cL 1)) (dB (dI fun i j=> Lq (decide (j < i))) (ng (cL 3) (cL 0) (dB (dI fun i j=> Kh (i+j)) (cL 2) (dC (Kh 1)))) (cL 2))) [none,some (Sl.v (KH (KO Kf r.ts))),some (Sl.v (Kh n)),some (Sl.v (jI g.ks (KO Kh g.gs)))] (KO Kf st) fun ds=> ∃bs,ds=KO Lq bs∧
    if bs.all id=false then Q (Lq false) else(KO Kf lv).length≤16777216∧fw (jx 0) jy (mC (dB (mT false) (cL 0) (cL 1)) (dB (dI fun i j=> Lq (decide (i≤j))) (ng (cL 3) (cL 0) (dB (dI fun i j=> Kh (i+j)) (cL 2) (dC (Kh 1)))) (cL 2))) [none,some (Sl.v (KH (KO Kf r.ts))),some (Sl.v (Kh n)),some (Sl.v (jI g.ks (KO Kh g.gs)))] (KO Kf lv) fun ds=> ∃bs,ds=KO Lq bs∧Q (Lq (bs.all id)):=by
   refine⟨by rw [Kd];omega,jM (fun _=> true) (fun _=> .bool true) (fun m hm R S h1 _=> ?_) ?_⟩
   ·obtain⟨m1,m2⟩:=hst m hm
    walk_at "rz"
    refine⟨bR.mpr (tok m m1),tl,?_⟩
    rw [uu,if_pos (OY.mpr m1)]
    refine⟨g.ks,_,rfl,?_⟩
    rw [pL]
    have m2:(match jo g.ks g.gs m with | some d=> decide (d≤n) | none=> false)=false:=m2
    cases hd:jo g.ks g.gs m with
    | none=>
     refine⟨n+1,rfl,?_⟩
     rw [show decide (n < n+1)=true from decide_eq_true (by omega)]
     exact h1 rfl
    | some d=>
     rw [hd] at m2
     refine⟨d,rfl,?_⟩
     rw [show decide (n < d)=true from decide_eq_true (by have:=of_decide_eq_false m2;omega)]
     exact h1 rfl
   ·rw [jN]
    refine⟨st.map fun _=> true,by rw [KY];rfl,?_⟩
    rw [if_neg (by rw [QE];simp)]
    refine⟨by rw [Kd];omega,jM (fun _=> true) (fun _=> .bool true) (fun m hm R S h1 _=> ?_) ?_⟩
    ·obtain⟨m1,m2⟩:=hlv m hm
     walk_at "rz"
     refine⟨bR.mpr (tok m m1),tl,?_⟩
     rw [uu,if_pos (OY.mpr m1)]
     refine⟨g.ks,_,rfl,?_⟩
     rw [pL]
     have m2:(match jo g.ks g.gs m with | some d=> decide (d≤n) | none=> false)=true:=m2
     cases hd:jo g.ks g.gs m with
     | none=>
      rw [hd] at m2;cases m2
     | some d=>
      rw [hd] at m2
      refine⟨d,rfl,?_⟩
      rw [show decide (d≤n)=true from decide_eq_true (by have:=of_decide_eq_true m2;omega)]
      exact h1 rfl
    ·rw [jN]
     refine⟨lv.map fun _=> true,by rw [KY];rfl,?_⟩
     rw [show((lv.map fun _=> true).all id)=true by rw [QE];simp]
     exact q
  have stok:∀m∈st++lv,Kr m=true:=fun m hm=> by
   rcases KL.mp hm with h | h
   ·exact tok m (hst m h).1
   ·exact tok m (hlv m h).1
  rw [if_neg (by rw [Kd];omega),if_neg (by rw [Kd];omega)]
  refine⟨by rw [Kd,Kd];omega,?_,by decide+kernel,?_⟩
  ·rw [←KZ]
   exact(Ck (n:=1) (mX stok)).shp (by decide)
  ·split
   ·rename_i he
    refine⟨(cF (n:=1) (mX tok)).shp (by decide),by decide+kernel,?_⟩
    have:r.ts=[]:=hno (by
     cases hs:st++lv with
     | nil=> rfl
     | cons a l=> rw [←KZ,hs] at he;simp [KC,MG] at he)
    rw [this,if_neg (by simp [KC,MG])]
    rw [this] at tail
    exact tail
   ·exact tail
theorem jY{L:List (Str×PyData)}{nm:Str}{Q:List PyData→Prop}(ok:lV L)(nok:Kr nm=true)(q:Q ((L.filter fun y=> y.1==nm).map (·.2))):
  fw (ox 2 (mF (jx 0) (mF (jx 1) ou))) (gQ (dB oA (cL 0) (cL 2))) (cL 1) [none,none,some (Sl.v (Kf nm))] (L.map bZ) Q:=
 d6 (fun y:Str×PyData=> y.1==nm) (fun y=> y.2) (fun x hx R S h=> by
  simp only [bZ]
  walk_at "rz"
  exact⟨bR.mpr (ok x hx).1,bR.mpr nok,h⟩) q
theorem JV{α β:Type}(f:α→β)(o:Option α):(o.map f).toList=o.toList.map f:=by cases o <;> rfl
theorem Cn{r:Rp}{n:Int}{g:Gn}{w kd:Str}{s:dJ}{k:Int}{u:Str}:(fB r n g (.five (Ka "keep") kd s k u)).toList++(fC r n g (.five (Ka "gone") kd s k u)).toList=[cw (cz r n (.five w kd s k u))]:=by
 have e1:fB r n g (.five (Ka "keep") kd s k u)=if Ka "keep"=Ka "keep"∧jq n (cz r n (.five w kd s k u))=true then some (cw (cz r n (.five w kd s k u))) else none:=rfl
 have e2:fC r n g (.five (Ka "gone") kd s k u)=if Ka "gone"=Ka "gone"∧jq n (cz r n (.five w kd s k u))=false then some (cw (cz r n (.five w kd s k u))) else none:=rfl
 rw [e1,e2]
 cases jq n (cz r n (.five w kd s k u)) with
 | true=> rw [if_pos ⟨rfl,rfl⟩,if_neg (fun h=> by cases h.2)];rfl
 | false=> rw [if_neg (fun h=> by cases h.2),if_pos ⟨rfl,rfl⟩];rfl
theorem Co{r:Rp}{n:Int}(L:List (Str×Pt)):(bY r n L).length≤L.length:=by
 unfold bY
 split
 ·simp
 ·exact K8 _ _
theorem Cp{r:Rp}{n:Int}{g:Gn}{L:List (Str×Pt)}(h:L.length≤41):((cu r n g L).map bZ).length≤16777216:=by
 rw [Kd]
 have h1:=lO (f:=fD r n g) (fun z=> ny _) (bY r n L)
 have h2:=Co (r:=r) (n:=n) L
 unfold cu;omega
theorem Cq{r:Rp}{n:Int}{g:Gn}{L:List (Str×Pt)}(h:L.length≤41):((cv r n g L).map bZ).length≤16777216:=by
 rw [Kd]
 have h1:=lO (f:=fE r n g) (fun z=> ny _) (bY r n L)
 have h2:=Co (r:=r) (n:=n) L
 unfold cv;omega
def JW:List PyData→(PyData→Prop)→Prop:=fun ds Q=> ∃(xs:List De)(n:Int)(c:Pp)(g:Gn),ds=[.tuple (xs.map De.enc),.int n,.str c.nm,g.enc]∧dM xs∧R5 xs∧c∈aO xs∧c.d≤n∧Q (.bool true)
theorem JX(T:Txt K mg t):aL P w K mg base CX0 11 t.a_x48 t.d_x48 ["_law_deeds_here","_law_day_here","_law_name","_law_gone"] (bp K JW):=by
 have G_x44:=JM (P:=P) (w:=w) (base:=base) T
 have G_x45:=B4 (P:=P) (w:=w) (base:=base) T
 have G_x17:=pI (P:=P) (w:=w) (base:=base) T
 have G_x13:=Bi (P:=P) (w:=w) (base:=base) T
 have G_x47:=JU (P:=P) (w:=w) (base:=base) T
 have G_x15:=Bh (P:=P) (w:=w) (base:=base) T
 have G_x21:=IL (P:=P) (w:=w) (base:=base) T
 refine T.F_x48.okD jK (fun ds Q h=> ?_) (fun cdv A outer s H O ds Q E hr h=> ?_)
 ·obtain⟨xs,n,c,g,rfl,_⟩:=h;rfl
 ·obtain⟨xs,n,c,g,rfl,gl,r5,hc,hcd,q⟩:=h
  refine'⟨_,?body,?read⟩
  case body=>
   refine' aA ?s1 ?r1
   case s1=>
    refine' bG (i:=4) jK.nd rfl (by walk_at "o") ?e2 (hs:=g0)
    case e2=> exact(PE.imp (eM fT rfl T.n_tuple fU (bg (df (fe (gU rfl Cg (df (dv 0)) aU cB (by decide) (fun _ _ _ _=> (aS (i:=0) Cg.nd rfl (by walk_at "o"))) (fun _ _ _ _=> gf) (fun _ _ _ _=> (PE.imp (aq G_x44 (hr.mono (by decide)) rfl T.m_x44 T.F_x44.kp T.b_x44 .nil ao (aa (dv 0) ai)) az))))) bx)) (bN gc))
   case' r1=> refine' aA ?s4 ?r4
   case s4=> exact(qY (i:=5) (j:=6) rfl jK.nd rfl rfl (by decide) rfl rfl (aa (PE.imp (aq G_x45 (hr.mono (by decide)) rfl T.m_x45 T.F_x45.kp T.b_x45 .nil ao (aa (dv 0) (aa (dv 1) (aa (dv 2) (aa (dv 3) ai))))) az) (aa (PE.imp (aq G_x45 (hr.mono (by decide)) rfl T.m_x45 T.F_x45.kp T.b_x45 .nil ao (aa (dv 4) (aa (dv 1) (aa (dv 2) (aa (dv 3) ai))))) az) ai)) (by rfl))
   case' r4=> refine' aA ?s6 ?r6
   case s6=>
    refine' oy Lx rfl (PE.imp (aq G_x17 (hr.mono (by decide)) rfl T.m_x17 T.F_x17.kp T.b_x17 .nil ao (aa (dv 0) (aa (dv 1) ai))) az) ?a7 (fY (cE aU (cE aU fX))) ?b7
    case a7=> exact(fG (n:=2) rfl (cx (aS (i:=7) jK.nd rfl (by walk_at "o")) (cx (aS (i:=8) jK.nd rfl (by walk_at "o")) fF)))
    case' b7=> refine' aC ?s8
    case' s8=> refine' bH ?c9 ?a9 bJ
    case c9=> exact(PW.pt (eQ (aM (cn hr.units) cq (df (av aH aI (df (dv 8)) (df ag))) (df (PE.imp (aq G_x13 (hr.mono (by decide)) rfl T.m_x13 T.F_x13.kp T.b_x13 .nil ao (aa (dv 0) (aa (dv 2) ai))) az)) (aD _)) (eZ (aM (iK hr.units) iL (df (av aH aI (df (dv 8)) (df ag))) (df aP) (aD _)))))
    case' a9=> refine' aA ?s10 ?r10
    case s10=>
     refine' bG (i:=9) jK.nd rfl (by walk_at "o") ?e11 (hs:=g0)
     case e11=> exact(PE.imp (eM qv rfl T.n_int qF (bg (df (dR (mV hr) mW (df (av aH aI (df (dv 8)) (df ag))) (df (bD (aa aP (aa aP ai)))) rfl)) bx)) (bN rT))
    case' r10=> refine' aA ?s13 ?r13
    case s13=> exact(jE (i:=10) jK.nd rfl (by walk_at "o") (lz rfl uS (df (av aH aI (df (av bO b8 (df (fe (dh (aa (dv 5) (aa (dv 6) ai))))) (df (dv 9)))) (df ag))) (fY (cE aU (cE aU fX))) m6 (by decide) (fun _ _ _ _=> (fG (n:=2) rfl (cx (aS (i:=0) uS.nd rfl (by walk_at "o")) (cx (aS (i:=1) uS.nd rfl (by walk_at "o")) fF)))) (fun _ _ _ _=> (dA (aM (cn hr.units) cq (df (dv 0)) (df (dv 2)) (aD _)))) (fun _ _ _ _=> (dv 1))))
    case' r13=> refine' aA ?s15 ?r15
    case s15=> exact(jE (i:=11) jK.nd rfl (by walk_at "o") (lz rfl uT (df (av aH aI (df (av bO b8 (df (fe (dh (aa (dv 6) (aa (dv 5) ai))))) (df (dv 9)))) (df ag))) (fY (cE aU (cE aU fX))) m6 (by decide) (fun _ _ _ _=> (fG (n:=2) rfl (cx (aS (i:=0) uT.nd rfl (by walk_at "o")) (cx (aS (i:=1) uT.nd rfl (by walk_at "o")) fF)))) (fun _ _ _ _=> (dA (aM (cn hr.units) cq (df (dv 0)) (df (dv 2)) (aD _)))) (fun _ _ _ _=> (dv 1))))
    case' r15=> refine' aC ?s17
    case' s17=> refine' bH ?c18 ?a18 ?b18
    case c18=> exact(aM (mV hr) mW (df (av aH aI (df (dv 8)) (df ag))) (df (bD (aa aP (aa aP ai)))) rfl)
    case a18=>
     refine' aC ?s19
     case' s19=> refine' bH ?c20 ?a20 bJ
     case c20=> exact(kg (iF (PE.imp (aq G_x47 (hr.mono (by decide)) rfl T.m_x47 T.F_x47.kp T.b_x47 .nil ao (aa (PE.imp (aq G_x15 (hr.mono (by decide)) rfl T.m_x15 T.F_x15.kp T.b_x15 .nil ao (aa (dv 0) (aa (dv 2) ai))) az) (aa (dv 3) (aa (dv 1) (aa (dv 10) (aa (dv 11) ai)))))) az)))
     case a20=> refine' aC (aN fu)
    case' b18=> refine' aC ?s23
    case' s23=> refine' bH ?c24 ?a24 bJ
    case c24=> exact(aM (iK hr.units) iL (df (fe (rD (df (dv 10)) (df (dv 11))))) (df (fe (dh (aa (PE.imp (aq G_x21 (hr.mono (by decide)) rfl T.m_x21 T.F_x21.kp T.b_x21 .nil ao (aa (dv 0) (aa (dv 8) (aa (dv 2) (aa (dv 1) ai))))) az) ai)))) (aD _))
    case a24=> refine' aC (aN fu)
   case r6=> refine' aC (aN fu)
  case read=>
  clear hr T G_x44 G_x45 G_x17 G_x13 G_x47 G_x15 G_x21
  have gd:=gl.good
  have ln:=gd.gx.ln
  walk_at "rz"
  have gp:=(gl.put r5).good
  have hcp:c∈aO (cI xs):=by rw [pT];exact hc
  refine⟨by rw [Kd];omega,jM (fun _=> true) (fun x:De=> x.put.enc) (fun x hx R S h1 _=> ?_) ?_⟩
  ·walk_at "rz"
   exact⟨x,rfl,gl.1 x hx,(fun d nm pt e=> r5 d nm pt (by rw [←e];exact hx)),h1 rfl⟩
  ·rw [jN]
   have ep:xs.map (fun x:De=> x.put.enc)=(cI xs).map De.enc:=by unfold cI;rw [KY];rfl
   rw [ep]
   have hR:=pW gd n
   have hR':=JK gd hR
   have eP:aG (cI xs) n=(aG xs n).map fun z=> (z.1,z.2.put):=(nu hR').symm
   refine⟨xs,n,c,g,rfl,gd,hc,fun a1 a2 a3=> ⟨_,n,c,g,rfl,gp,hcp,fun b1 b2 b3=> ⟨xs,n,rfl,gd,fun _ _=> ⟨_,rfl,?_⟩⟩⟩⟩
   have sP:iw (cI xs) n c g=cu (aK xs c) n g ((aG xs n).map fun z=> (z.1,z.2.put)):=by unfold iw;rw [B1,eP]
   have gP:ix (cI xs) n c g=cv (aK xs c) n g ((aG xs n).map fun z=> (z.1,z.2.put)):=by unfold ix;rw [B1,eP]
   have sX:iw xs n c g=cu (aK xs c) n g (aG xs n):=rfl
   have gX:ix xs n c g=cv (aK xs c) n g (aG xs n):=rfl
   rw [sP,gP,sX,gX]
   have cal1:=pX (n:=n) (g:=g) a3 (kF gd hR)
   have cal2:=pY (n:=n) (g:=g) a3 (kF gd hR)
   have nmP:nH ((aG xs n).map fun z=> (z.1,z.2.put)):=fun z hz=> by
    obtain⟨y,hy,rfl⟩:=Ky.mp hz
    exact kF gd hR y hy
   have cal3:=pX (n:=n) (g:=g) a3 nmP
   have cal4:=pY (n:=n) (g:=g) a3 nmP
   have pq:∀z∈aG xs n,W5 z.2.wd∧z.2.Ok:=fun z hz=> by
    obtain⟨d,_,hm,_⟩:=(hR.2 z).mp hz
    exact⟨r5 _ _ _ hm,(pM gd hR a2).2 z hz⟩
   have s1:=fun nm pt (h:(nm,pt)∈aG xs n) hk=> Ci (g:=g) hR.1 h (show(aK xs c).c.d≤n from hcd) hk
   have g1:=fun nm pt (h:(nm,pt)∈aG xs n) hk=> Cj (g:=g) hR.1 h (show(aK xs c).c.d≤n from hcd) hk
   have s2:=fun nm pt (h:(nm,pt)∈aG xs n) hk=> Ci (g:=g) hR'.1 (Ky.mpr ⟨(nm,pt),h,rfl⟩) (show(aK xs c).c.d≤n from hcd) hk
   have g2:=fun nm pt (h:(nm,pt)∈aG xs n) hk=> Cj (g:=g) hR'.1 (Ky.mpr ⟨(nm,pt),h,rfl⟩) (show(aK xs c).c.d≤n from hcd) hk
   have rnm:=kF gd hR
   have sl1:=Cp (r:=aK xs c) (n:=n) (g:=g) a2
   have gl1:=Cq (r:=aK xs c) (n:=n) (g:=g) a2
   have a2':((aG xs n).map fun z=> (z.1,z.2.put)).length≤41:=by rw [Kd];exact a2
   have sl2:=Cp (r:=aK xs c) (n:=n) (g:=g) a2'
   have gl2:=Cq (r:=aK xs c) (n:=n) (g:=g) a2'
   clear sP gP sX gX hR hR' eP ep a1 a2 b1 b2 b3
   have tsE:(aK xs c).ts=(jm (aO xs) c).map (·.nm):=rfl
   have kdE:(aK xs c).c.kd=c.kd:=rfl
   refine⟨fun i δ=> ∃(o7 o8 o9 o10 o11:Option Sl),δ=[some (Sl.v (KH (KO De.enc xs))),some (Sl.v (Kh n)),some (Sl.v (Kf c.nm)),some (Sl.v g.enc),some (Sl.v (KH ((cI xs).map De.enc))),some (Sl.v (KH [KH ((cu (aK xs c) n g (aG xs n)).map bZ),KH ((cv (aK xs c) n g (aG xs n)).map bZ)])),some (Sl.v (KH [KH ((cu (aK xs c) n g ((aG xs n).map fun z=> (z.1,z.2.put))).map bZ),KH ((cv (aK xs c) n g ((aG xs n).map fun z=> (z.1,z.2.put))).map bZ)])),o7,o8,o9,o10,o11],⟨_,_,_,_,_,rfl⟩,?_,?_⟩
   ·rintro i x δ hx ⟨o7,o8,o9,o10,o11,rfl⟩
    rw [KQ] at hx
    cases hx':(aG xs n)[i]? with
    | none=> rw [hx'] at hx;cases hx
    | some z=>
     rw [hx'] at hx;cases hx
     obtain⟨nm,pt⟩:=z
     have hz:=KW hx'
     obtain⟨w5,po⟩:=pq _ hz
     have s1:=s1 nm pt hz
     have g1:=g1 nm pt hz
     have s2:=s2 nm pt hz
     have g2:=g2 nm pt hz
     have nok:=rnm _ hz
     generalize cu (aK xs c) n g (aG xs n)=S1 at*
     generalize cv (aK xs c) n g (aG xs n)=G1 at*
     generalize cu (aK xs c) n g ((aG xs n).map fun z=> (z.1,z.2.put))=S2 at*
     generalize cv (aK xs c) n g ((aG xs n).map fun z=> (z.1,z.2.put))=G2 at*
     cases pt with
     | two w2 kd=>
      simp only [dW,Pt.enc]
      walk_at "rz"
      refine⟨xs,c,rfl,gd.gx,hc,bR.mpr po.2.2,bR.mpr (gd.gx.gp.kd c hc),?_⟩
      rw [jz]
      split
      ·rename_i hk
       have hk:=eq_of_beq hk
       refine⟨bR.mpr po.2.1,by decide+kernel,?_⟩
       have w5:W5 w2:=w5
       have n1:¬w2=jT:=fun e=> po.1 (.inl e)
       have n2:¬w2=jU:=fun e=> po.1 (.inr e)
       have fin:∀(ds ds_2:List PyData),ds=((cX (aK xs c) n g).head?.map Kf).toList→ds_2=((cY (aK xs c) n g).head?.map Kf).toList→F_x15 [KH (KO De.enc xs),Kf c.nm] fun d=> Cm [d,g.enc,Kh n,Li ds,Li ds_2] fun d=> ∃b,d=Lq b∧if b=false then Q (Lq false) else ∃x,some (Sl.v (Li ds_2))=x:=fun ds ds_2 e1 e2=> by
        rw [JV] at e1 e2
        subst e1 e2
        exact⟨xs,c,rfl,gd.gx,hc,aK xs c,g,n,rfl,a3,true,rfl,by rw [if_neg (by simp)];exact⟨_,rfl⟩⟩
       rcases w5 with e | e | e | e | e
       ·exact absurd e n1
       ·exact absurd e n2
       ·subst e
        rw [if_pos (by decide+kernel),if_neg (by decide+kernel)]
        have s1:(S1.filter fun y=> y.1==nm).map (·.2)=((cX (aK xs c) n g).head?.map Kf).toList:=s1 hk
        have g2:(G2.filter fun y=> y.1==nm).map (·.2)=((cY (aK xs c) n g).head?.map Kf).toList:=g2 hk
        refine⟨_,cT,_,rfl,_,cT,_,rfl,sl1,jY cal1 nok ?_⟩
        refine⟨_,cT,_,rfl,_,cU,_,rfl,gl2,jY cal4 nok ?_⟩
        rw [if_pos (by decide+kernel)]
        exact fin _ _ s1 g2
       ·subst e
        rw [if_pos (by decide+kernel),if_pos (by decide+kernel)]
        have s2:(S2.filter fun y=> y.1==nm).map (·.2)=((cX (aK xs c) n g).head?.map Kf).toList:=s2 hk
        have g1:(G1.filter fun y=> y.1==nm).map (·.2)=((cY (aK xs c) n g).head?.map Kf).toList:=g1 hk
        refine⟨_,cU,_,rfl,_,cT,_,rfl,sl2,jY cal3 nok ?_⟩
        refine⟨_,cU,_,rfl,_,cU,_,rfl,gl1,jY cal2 nok ?_⟩
        rw [if_pos (by decide+kernel)]
        exact fin _ _ s2 g1
       ·subst e
        rw [if_neg (by decide+kernel)]
        exact⟨_,rfl⟩
      ·exact⟨_,rfl⟩
     | five w2 kd si k u=>
      simp only [dW,Pt.enc]
      walk_at "rz"
      refine⟨xs,c,rfl,gd.gx,hc,bR.mpr po.2.1,bR.mpr (gd.gx.gp.kd c hc),?_⟩
      rw [jz]
      split
      ·rename_i hk
       have hk:=eq_of_beq hk
       refine⟨bR.mpr (BE po.1),by decide+kernel,?_⟩
       have fin:∀(ds ds_2:List PyData),ds++ds_2=[cw (cz (aK xs c) n (.five w2 kd si k u))]→ds.length+ds_2.length≤16777216∧Bu [KH (KO De.enc xs),KH [Kf w2,Kf kd,si.enc,Kh k,Kf u],Kf c.nm,Kh n] fun d=> LK (Li (ds++ds_2))=true∧LK (Li [d])=true∧if (Li (ds++ds_2)).eqv (Li [d])=false then Q (Lq false) else ∃x,some (Sl.v (Li ds_2))=x:=fun ds ds_2 e=> by
        have hl:=congrArg OO e
        rw [KR] at hl
        have ly:=Ck (n:=1) (aR (uN (cz (aK xs c) n (.five w2 kd si k u))) cV)
        refine⟨by rw [hl];simp,xs,c,w2,kd,si,k,u,n,rfl,gd,hc,po.2.2.1,po.2.2.2.2.2,?_⟩
        rw [e]
        refine⟨ly.shp (by decide),ly.shp (by decide),?_⟩
        rw [jR _ ly.can,if_neg (by simp)]
        exact⟨_,rfl⟩
       rcases po.1 with e | e
       ·have e:w2=Ka "keep":=e
        subst e
        rw [if_pos (by decide+kernel),if_neg (by decide+kernel)]
        have s1:=s1 hk
        have g2:(G2.filter fun y=> y.1==nm).map (·.2)=(fC (aK xs c) n g (.five (Ka "gone") kd si k u)).toList:=g2 hk
        refine⟨_,cT,_,rfl,_,cT,_,rfl,sl1,jY cal1 nok ?_⟩
        refine⟨_,cT,_,rfl,_,cU,_,rfl,gl2,jY cal4 nok ?_⟩
        rw [if_neg (by decide+kernel)]
        refine fin _ _ ?_
        rw [s1,g2]
        exact Cn
       ·have e:w2=Ka "gone":=e
        subst e
        rw [if_pos (by decide+kernel),if_pos (by decide+kernel)]
        have s2:(S2.filter fun y=> y.1==nm).map (·.2)=(fB (aK xs c) n g (.five (Ka "keep") kd si k u)).toList:=s2 hk
        have g1:=g1 hk
        refine⟨_,cU,_,rfl,_,cT,_,rfl,sl2,jY cal3 nok ?_⟩
        refine⟨_,cU,_,rfl,_,cU,_,rfl,gl1,jY cal2 nok ?_⟩
        rw [if_neg (by decide+kernel)]
        refine fin _ _ ?_
        rw [s2,g1]
        exact Cn
      ·exact⟨_,rfl⟩
   ·rintro δ ⟨o7,o8,o9,o10,o11,rfl⟩
    walk_at "rz"
    exact q
end
end K18
open PySem L2
namespace K18
theorem Cr:bz (ah il) ["_law_script","_law_menu","_law_deeds_here","_law_names_here","_law_far","_law_k","_law_purse_here","_law_day_here","_law_gone","_law_name","_law_way","_law_coming"] ["_law_deed_here","_law_name"] 1 [9] {kind:=Ko,names:=[ (Kc ".0",PySem.NameKind.local),(Kc "_law_deed_here",PySem.NameKind.local),(Kc "_law_name",Ks)],isGenerator:=false,isCoroutine:=false,more:=[]:K0}:=⟨rfl,by decide+kernel,by decide+kernel,by decide+kernel,rfl,by decide+kernel,by decide+kernel,by decide+kernel,rfl⟩
section
variable {P:Program} {w:World} {K:Kb} {mg:Str→Option Value} {base:Heap} {t:cW}
def F_x49:List PyData→(PyData→Prop)→Prop:=fun ds Q=> ∃ns:List Int,ds=[eO (ns.map .int)]∧ns.length≤63∧(∀z∈ns,LC z≤1048576)∧Q (.bool true)
def sp_law(K:Kb):Sp:=bp K F_x49
theorem start_law{K:Kb}{H:Hp}{a:Addr}{ns:List Int}(hl:ns.length≤63)(hb:∀z∈ns,LC z≤1048576)(hS:aX K H a (ns.map V.int)):sp_law K [.ref a] H (fun v _=> v= .bl true) fun _ _ _=> False:=
 ⟨fun _=> False,[eO (ns.map .int)],fun d=> d= .bool true,fun _ z=> z.elim,.cons (.scr (by
  rcases hS with h | h
  ·exact .inl ⟨h,fun z=> z⟩
  ·exact .inr (.inr h)) (aj.ints ns)) .nil,⟨ns,rfl,hl,hb,rfl⟩,fun d v H' e _ r=> by subst e;cases r;rfl⟩
def jZ:List Str:=["keep","gone","while","follow","leave","keep","end","happens","happens","hold","permit"]
theorem JY:∀m∈jZ,Kr m=true∧m≠Ka "paper":=by
 intro z hz
 have a:jZ.all (fun z=> Kr z && decide (z≠Ka "paper"))=true:=by decide+kernel
 have:=MB.mp a z hz
 simp only [Lf,decide_eq_true_eq] at this
 exact this
theorem JZ:∀m∈jZ,m ∉ lR→W5 m:=by
 intro z hz hn
 have a:jZ.all (fun z=> decide (z∈lR) || decide (z=jT∨z=jU∨z=jV∨z=jW∨z=lT))=true:=by decide+kernel
 have:=MB.mp a z hz
 simp only [MN,decide_eq_true_eq] at this
 exact this.resolve_left hn
def jt(g:List (Str×Int)):List (ak×PyData):=g.map fun p=> (.inr p.1,.int p.2)
theorem J0(g:List (Str×Int)):(jt g).length=g.length:=Kd ..
theorem J1(g:List (Str×Int))(z:Str)(d:Int):∃g',eU (jt g) (.inr z) (.int d)=jt g'∧g'.length≤g.length+1:=by
 unfold eU
 split
 ·refine⟨g.map fun p=> if p.1=z then(p.1,d) else p,?_,by rw [Kd];omega⟩
  unfold jt
  rw [KY,KY]
  refine Pf fun p _=> ?_
  show(if (Lz p.1:ak)= .inr z then _ else _)=_
  by_cases h:p.1=z
  ·rw [if_pos (by rw [h])];show _=(Lz (if p.1=z then(p.1,d) else p).1,Kh (if p.1=z then(p.1,d) else p).2);rw [if_pos h]
  ·rw [if_neg (fun e=> h (QG e))];show _=(Lz (if p.1=z then(p.1,d) else p).1,Kh (if p.1=z then(p.1,d) else p).2);rw [if_neg h]
 ·exact⟨g++[(z,d)],by unfold jt;rw [KZ];rfl,by simp⟩
def nI(nm:Str):De→Bool
 | .pap p=> p.nm==nm
 | _=> false
theorem J3{xs:List De}(g:dj xs){p:Pp}(hp:p∈aO xs):∃l,(xs.filter (nI p.nm)).map (fun x=> Kh x.d)= .int p.d::l:=by
 have hm:De.pap p∈xs.filter (nI p.nm):=KA.mpr ⟨pF.mp hp,beq_self_eq_true _⟩
 cases h:xs.filter (nI p.nm) with
 | nil=> rw [h] at hm;cases hm
 | cons y l=>
  have hy:y∈xs.filter (nI p.nm):=by rw [h];exact K3
  obtain⟨y1,y2⟩:=KA.mp hy
  cases y with
  | oth w d nm r=> cases y2
  | pap r=>
   have e:r.nm=p.nm:=eq_of_beq y2
   rw [uA g.gx.gp.nd (pF.mpr y1) hp e]
   exact⟨_,rfl⟩
theorem ok_law(T:Txt K mg t):aL P w K mg base CX0 12 t.a_x49 t.d_x49 ["_law_script"] (sp_law K):=by
 have G_x41:=Ju (P:=P) (w:=w) (base:=base) T
 have G_x31:=BG (P:=P) (w:=w) (base:=base) T
 have G_x30:=BK (P:=P) (w:=w) (base:=base) T
 have G_x32:=lP (P:=P) (w:=w) (base:=base) T
 have G_x12:=HY (P:=P) (w:=w) (base:=base) T
 have G_x46:=JT (P:=P) (w:=w) (base:=base) T
 have G_x48:=JX (P:=P) (w:=w) (base:=base) T
 refine T.F_x49.okD fi (fun ds Q h=> ?_) (fun cdv A outer s H O ds Q E hr h=> ?_)
 ·obtain⟨ns,rfl,_⟩:=h;rfl
 ·obtain⟨ns,rfl,hl,hb,q⟩:=h
  refine'⟨_,?body,?read⟩
  case body=>
   refine' aA ?s1 ?r1
   case s1=>
    generalize hE2_0:Qk _ _=ee2_0
    exact bG (i:=1) fi.nd rfl (by walk_at "o") (fe (sf (ds:=[.str "keep",.str "gone",.str "while",.str "follow",.str "leave",.str "keep",.str "end",.str "happens",.str "happens",.str "hold",.str "permit"]) (by first | (subst hE2_0;rfl)))) (hs:=Fi (ds:=[.str "keep",.str "gone",.str "while",.str "follow",.str "leave",.str "keep",.str "end",.str "happens",.str "happens",.str "hold",.str "permit"]) (by first | (subst hE2_0;rfl)))
   case' r1=> refine' aA ?s3 ?r3
   case s3=> exact(qW (PE.imp (aq G_x41 (hr.mono (by decide)) rfl T.m_x41 T.F_x41.kp T.b_x41 .nil ao (aa (dv 0) (aa (dv 1) (aa ag ai)))) az) (fG (n:=3) rfl (cx (aS (i:=2) fi.nd rfl (by walk_at "o")) (cx (aS (i:=3) fi.nd rfl (by walk_at "o")) (cx (aS (i:=4) fi.nd rfl (by walk_at "o")) fF)))) (fY (cE aU (cE aU (cE aU fX)))))
   case' r3=> refine' aA ?s5 ?r5
   case s5=>
    refine' EE Lx rfl rfl T.n_range (aa ag (aa (PE.imp (bW (nV rfl) rfl T.n_max MW (bg (df ag) (bg (df (PE.imp (bW (vQ rfl) rfl T.n_min OW (bg (df (PE.imp (bW fq rfl T.n_len Lw (bg (df (dv 0)) bx)) (bN xa))) (bg (df ag) bx))) (bN mN))) bx))) (bN mN)) ai)) ?a6 aU ?b6
    case a6=> exact(aS (i:=5) fi.nd rfl (by walk_at "o"))
    case' b6=> refine' aA ?s7 ?r7
    case s7=> exact(bG (i:=6) fi.nd rfl (by walk_at "o") (PE.imp (aq G_x31 (hr.mono (by decide)) rfl T.m_x31 T.F_x31.kp T.b_x31 .nil ao (aa (PE.imp (aq G_x30 (hr.mono (by decide)) rfl T.m_x30 T.F_x30.kp T.b_x30 .nil ao (aa (dv 0) (aa (dv 5) ai))) az) ai)) az))
    case' r7=> refine' aA ?s9 ?r9
    case s9=>
     refine' bG (i:=7) fi.nd rfl (by walk_at "o") ?e10 (hs:=ku)
     case' e10=> refine' av aH aI (df ?a11) (df ag)
     case' a11=> refine' av aH aI (df (dv 2)) ?b12
     case b12=> exact(df (PE.imp (aq G_x32 (hr.mono (by decide)) rfl T.m_x32 T.F_x32.kp T.b_x32 .nil ao (aa (dv 6) (aa (PE.imp (bW fq rfl T.n_len Lw (bg (df (dv 2)) bx)) (bN fZ)) ai))) az))
    case' r9=> refine' aA ?s14 ?r14
    case s14=>
     generalize hG15:Qj _ _ _ _=eg15
     refine' bG (i:=7) fi.nd rfl (by walk_at "o") ?e15 (hs:=by subst hG15;exact g0)
     case' e15=> subst hG15
     exact(PE.imp (bW (nV rfl) rfl T.n_max MW (bg (df ag) (bg (df (aV bI bX (df (dv 7)) (df (av bO b8 (df (fe (dh (aa ag (aa ag (aa (sI ag) (aa ag ai))))))) (df (PE.imp (aq G_x32 (hr.mono (by decide)) rfl T.m_x32 T.F_x32.kp T.b_x32 .nil ao (aa (dv 6) (aa ag ai))) az)))))) bx))) (bN mN))
    case' r14=> refine' aA ?s17 ?r17
    case s17=> exact(oP (i:=8) fi.nd rfl (by walk_at "o") zI)
    case' r17=> refine' aA ?s19 ?r19
    case s19=>
     refine' mI Lx rfl (dv 3) ?a20 aU ?b20
     case a20=> exact(aS (i:=9) fi.nd rfl (by walk_at "o"))
     case' b20=> refine' aA ?s21 ?r21
     case s21=> exact(bG (i:=10) fi.nd rfl (by walk_at "o") (PE.imp (aq G_x32 (hr.mono (by decide)) rfl T.m_x32 T.F_x32.kp T.b_x32 .nil ao (aa (dv 6) (aa ag ai))) az))
     case' r21=> refine' aC ?s23
     case' s23=> refine' bH ?c24 ?a24 bJ
     case c24=> exact(aM gL eo (df (dv 10)) (df ag) (aD _))
     case' a24=> refine' aC ?s25
     case s25=> exact(zJ (i:=8) hr.units (pv 8) (dv 9) (PE.imp (bW (nV rfl) rfl T.n_max MW (bg (df ag) (bg (df (aV bI bX (df (dv 7)) (df (av bO b8 (df (fe (dh (aa (sI ag) (aa ag (aa ag ai)))))) (df (aV dz bX (df (dv 10)) (df ag))))))) bx))) (bN mN)))
    case' r19=> refine' aC ?s27
    case' s27=> refine' GZ 8 ?z28
    case' z28=> refine' oy Lx rfl (PE.imp (aq G_x12 (hr.mono (by decide)) rfl T.m_x12 T.F_x12.kp T.b_x12 .nil ao (aa (dv 2) ai)) az) ?a29 aU ?b29
    case a29=> exact(aS (i:=9) fi.nd rfl (by walk_at "o"))
    case' b29=> refine' aA ?s30 ?r30
    case s30=>
     refine' bH ?c31 ?a31 bJ
     case c31=> exact(kg (iF (PE.imp (aq G_x46 (hr.mono (by decide)) rfl T.m_x46 T.F_x46.kp T.b_x46 .nil ao (aa (dv 2) (aa (dv 7) (aa (dv 9) (aa (dv 8) ai))))) az)))
     case a31=> refine' aC (aN fu)
    case' r30=> refine' aA ?s34 ?r34
    case s34=>
     generalize hG35:OX _ _ _=eg35
     refine' bG (i:=11) fi.nd rfl (by walk_at "o") ?e35 (hs:=by subst hG35;exact ku)
     case' e35=> subst hG35
     refine' av bO b8 (df ?a36) (df ag)
     case' a36=> refine' fe ?f37
     case f37=> exact(gU rfl Cr (df (dv 2)) aU cB (by decide) (fun _ _ _ _=> (aS (i:=0) Cr.nd rfl (by walk_at "o"))) (fun _ _ _ _=> (dA (PW.pt (eQ (aM (dF hr) dG (df (av aH aI (df (dv 0)) (df ag))) (df aP) (aD _)) (eZ (aM (cn hr.units) cq (df (av aH aI (df (dv 0)) (df ag))) (df (dv 1)) (aD _))))))) (fun _ _ _ _=> (av aH aI (df (dv 0)) (df ag))))
    case' r34=> refine' aC ?s39
    case' s39=> refine' bH ?c40 ?a40 bJ
    case c40=> exact(PW.pt (eQ (aM j5 eo (df (dv 11)) (df (dv 7)) (aD _)) (eZ (kg (iF (PE.imp (aq G_x48 (hr.mono (by decide)) rfl T.m_x48 T.F_x48.kp T.b_x48 .nil ao (aa (dv 2) (aa (dv 7) (aa (dv 9) (aa (dv 8) ai))))) az))))))
    case a40=> refine' aC (aN fu)
   case r5=> refine' aC (aN fu)
  case read=>
  clear G_x41 G_x31 G_x30 G_x32 G_x12 G_x46 G_x48 hr T
  walk_at "rz"
  refine⟨ns,jZ,14,rfl,by decide,by decide,JY,by decide,by decide,fun xs nms far gl rm x0 nl nok=> ?_⟩
  refine⟨_,rfl,rfl,_,_,rfl,_,_,rfl,_,_,rfl,rfl,_,rfl,?_⟩
  rw [Kd]
  have hM:∃m:Int,(if (if 34 < (ns.length:Int) then 34 else(ns.length:Int)) > 32 then if 34 < (ns.length:Int) then 34 else(ns.length:Int) else 32)=m∧32≤m∧m≤34:=⟨_,rfl,by split <;> split <;> omega,by split <;> split <;> omega⟩
  obtain⟨m,em,m0,m1⟩:=hM
  rw [em]
  clear em
  have gd:=gl.good
  have ln:=gd.gx.ln
  have r5:R5 xs:=fun d nm pt h=> JZ _ (rm _ h d nm pt rfl).1 (rm _ h d nm pt rfl).2
  refine⟨by omega,by omega,fun i δ=> ∃o5 o6 o7 o8 o9 o10 o11:Option Sl,δ=[some (Sl.v (eO (ns.map .int))),some (Sl.v (.list (jZ.map .str))),some (Sl.v (.tuple (xs.map De.enc))),some (Sl.v (.list (nms.map .str))),some (Sl.v (.int far)),o5,o6,o7,o8,o9,o10,o11],⟨_,_,_,_,_,_,_,rfl⟩,?_,?_⟩
  ·rintro i z δ hz ⟨o5,o6,o7,o8,o9,o10,o11,rfl⟩
   obtain⟨hi,rfl⟩:=kY hz
   clear hz
   walk_at "rz"
   have xl:0 < xs.length:=Ph.mpr x0
   refine⟨ns,_,rfl,by omega,by omega,fun c=> ⟨c,rfl,_,rfl,by rw [Kd];omega,by rw [Kd];omega,fun v v0 v1=> ?_⟩⟩
   rw [Kd] at v1
   obtain⟨j,rfl⟩:=LV v0
   have hj:j < xs.length:=by omega
   have ej:∃rx,xs[j].enc= .tuple (.str xs[j].w:: .int xs[j].d:: .str xs[j].nm::rx):=by cases xs[j] <;> exact⟨_,rfl⟩
   obtain⟨rx,ej⟩:=ej
   refine⟨_,rfl,_,gO (by simp [hj];exact ej),_,rfl,_,cU,4,rfl,by decide,by decide,fun u u0 u1=> ⟨_,rfl,?_⟩⟩
   obtain⟨e,ee⟩:∃e:Int,atI [Kh 0,Kh 1,Kh (-1),Kh 7] u=some (.int e):=by
    have:u=0∨u=1∨u=2∨u=3:=by omega
    rcases this with h | h | h | h <;> subst h <;> exact⟨_,rfl⟩
   refine⟨_,ee,_,rfl,_,rfl,?_⟩
   generalize (if xs[j].d+e > 0 then xs[j].d+e else 0)=n
   refine⟨fun i2 δ=> ∃(g:List (Str×Int))(o9 o10:Option Sl),g.length≤i2∧δ=[some (Sl.v (eO (ns.map .int))),some (Sl.v (.list (jZ.map .str))),some (Sl.v (.tuple (xs.map De.enc))),some (Sl.v (.list (nms.map .str))),some (Sl.v (.int far)),some (Sl.v (Kh (30+(i:Int)))),some (Sl.v ft),some (Sl.v (.int n)),some (Sl.k (jt g)),o9,o10,o11],⟨[],_,_,by simp,rfl⟩,?_,?_⟩
   ·rintro i2 z δ hz ⟨g,o9,o10,gl2,rfl⟩
    rw [KQ] at hz
    cases hz':nms[i2]? with
    | none=> rw [hz'] at hz;cases hz
    | some nm=>
     rw [hz'] at hz;cases hz
     have i8:i2 < 8:=by rw [←nl];exact(Ku.mp hz').1
     walk_at "rz"
     refine⟨5,rfl,by decide,by decide,fun y y0 y1=> ⟨_,rfl,?_⟩⟩
     split
     ·rename_i hy
      obtain⟨e2,ee2⟩:∃e:Int,atI [Kh (-1),Kh 0,Kh 1] (y - 2)=some (.int e):=by
       have:y=2∨y=3∨y=4:=by omega
       rcases this with h | h | h <;> subst h <;> exact⟨_,rfl⟩
      obtain⟨g',eg,lg⟩:=J1 g nm (if n+e2 > 0 then n+e2 else 0)
      refine⟨_,rfl,_,ee2,_,rfl,by rw [J0];omega,g',by omega,eg,_,rfl⟩
     ·exact⟨g,by omega,rfl,_,rfl⟩
   ·rintro δ ⟨g,o9,o10,_,rfl⟩
    walk_at "rz"
    obtain⟨G,eG⟩:∃G:Gn,jI (g.map (·.1)) (KO (fun x=> x.snd) (jt g))=G.enc:=⟨⟨g.map (·.1),g.map (·.2)⟩,by unfold jt Gn.enc;rw [KY,KY];rfl⟩
    refine⟨g.map (·.1),by unfold jt;rw [KY,KY];rfl,xs,rfl,gd.gx,_,rfl,?_⟩
    rw [eG]
    refine⟨fun i2 δ=> ∃(o9 o11:Option Sl),δ=[some (Sl.v (eO (ns.map .int))),some (Sl.v (.list (jZ.map .str))),some (Sl.v (.tuple (xs.map De.enc))),some (Sl.v (.list (nms.map .str))),some (Sl.v (.int far)),some (Sl.v (Kh (30+(i:Int)))),some (Sl.v ft),some (Sl.v (.int n)),some (Sl.v G.enc),o9,o10,o11],⟨_,_,rfl⟩,?_,?_⟩
    ·rintro i2 z δ hz ⟨o9,o11,rfl⟩
     obtain⟨nm,hnm,rfl⟩:=Ky.mp (KW hz)
     obtain⟨p,hp,rfl⟩:=Ky.mp hnm
     have hp:=A4.mp hp
     walk_at "rz"
     refine⟨xs,n,p,G,rfl,gl,hp,true,rfl,?_⟩
     rw [if_neg (by decide)]
     refine⟨by rw [Kd];omega,jM (nI p.nm) (fun x=> .int x.d) (fun x hx R S h1 h0=> ?_) ?_⟩
     ·have nok:=gd.gx.nm x hx
      cases x with
      | pap y=>
       simp only [De.enc,Pp.enc]
       walk_at "rz"
       refine⟨bR.mpr nok,bR.mpr (gd.gx.gp.nm p hp),?_⟩
       split
       ·rename_i h2;exact h1 h2
       ·rename_i h2;exact h0 (Bool.not_eq_true _▸h2)
      | oth wo d nm l=>
       simp only [De.enc]
       walk_at "rz"
       rw [bL (gd.gx.np _ _ _ _ hx),if_neg Ki]
       exact h0 rfl
     ·obtain⟨l,el⟩:=J3 gd hp
      refine⟨.int p.d,by rw [el];exact cT,_,rfl,?_⟩
      split
      ·rename_i hd
       refine⟨xs,n,p,G,rfl,gl,r5,hp,hd,true,rfl,?_⟩
       rw [if_neg (by decide)]
       first | exact⟨⟨_,rfl⟩,⟨_,rfl⟩⟩ | exact⟨_,rfl⟩
      ·first | exact⟨⟨_,rfl⟩,⟨_,rfl⟩⟩ | exact⟨_,rfl⟩
    ·rintro δ ⟨o9,o11,rfl⟩
     exact⟨_,_,_,_,_,_,_,rfl⟩
  ·rintro δ ⟨o5,o6,o7,o8,o9,o10,o11,rfl⟩
   walk_at "rz"
   exact q
end
end K18
def PySem.W.Fast.tw3537265554316157213:=0
def PySem.W.Fast.tw4242800728103881387:=0
def PySem.W.Fast.tw14572045312736415923:=0
def PySem.W.Fast.tw7256052401929721544:=0
def PySem.W.Fast.tw103214898427164765:=0
def PySem.W.Fast.tw12537683051739709949:=0
def PySem.W.Fast.tw826485462421251235:=0
def PySem.W.Fast.tw3461290955111696551:=0
def PySem.W.Fast.tw13624030054074135335:=0
def PySem.W.Fast.tw6221526845282559873:=0
def PySem.W.Fast.tw9082166549010856011:=0
def PySem.W.Fast.tw6256213349437144198:=0
def PySem.W.Fast.tw12715837614562965968:=0
def PySem.W.Fast.tw1040754521432179219:=0
def PySem.W.Fast.tw15228693250441482052:=0
def PySem.W.Fast.tw13413659895360740277:=0
def PySem.W.Fast.tw5099719985035482924:=0
def PySem.W.Fast.tw3670714177271782084:=0
def PySem.W.Fast.tw4410588691542142116:=0
def PySem.W.Fast.tw9842297351027031878:=0
def PySem.W.Fast.tw16269721789481672250:=0
def PySem.W.Fast.tw3232702547232687293:=0
def PySem.W.Fast.tw3708983167420303367:=0
def PySem.W.Fast.tw12702123689252316090:=0
def PySem.W.Fast.tw12417273892857929752:=0
def PySem.W.Fast.tw16562430668343962900:=0
def PySem.W.Fast.tw2195704518993968407:=0
def PySem.W.Fast.tw6133165119586822166:=0
def PySem.W.Fast.tw8030977676293587302:=0
def PySem.W.Fast.tw18259620374057815932:=0
def PySem.W.Fast.tw2549493974527668710:=0
def PySem.W.Fast.tw12517539661998999960:=0
def PySem.W.Fast.tw12073758523480248849:=0
def PySem.W.Fast.tw5350626502217180765:=0
def PySem.W.Fast.tw10641593142581979294:=0
def PySem.W.Fast.tw3028873338954487543:=0
def PySem.W.Fast.tw686032991568024862:=0
def PySem.W.Fast.tw9343356133258086352:=0
def PySem.W.Fast.tw5991145407506830297:=0
def PySem.W.Fast.tw11405697650588156732:=0
def PySem.W.Fast.tw9248533525732786575:=0
def PySem.W.Fast.tw13044138143417359120:=0
def PySem.W.Fast.tw11244232029994451591:=0
def PySem.W.Fast.tw2949031996946701195:=0
def PySem.W.Fast.tw4769988446661703984:=0
def PySem.W.Fast.tw4306086326626549396:=0
def PySem.W.Fast.tw17721592761188159983:=0
def PySem.W.Fast.tw6137391713842985151:=0
def PySem.W.Fast.tw15131781133528921215:=0
def PySem.W.Fast.tw17795253963052770471:=0
def PySem.W.Fast.tw12630827653952174930:=0
def PySem.W.Fast.tw6145381620228387068:=0
def PySem.W.Fast.tw13413589428248043363:=0
def PySem.W.Fast.tw7478888393301899122:=0
def PySem.W.Fast.tw9859875873918179384:=0
def PySem.W.Fast.tw2715153949874195259:=0
def PySem.W.Fast.tw11401172729886671385:=0
def PySem.W.Fast.tw2089946273236398439:=0
def PySem.W.Fast.tw951004391627215983:=0
def PySem.W.Fast.tw15989589888520362919:=0
def PySem.W.Fast.tw16325978141838186110:=0
def PySem.W.Fast.tw15021782009557367909:=0
def PySem.W.Fast.tw1257150995937780852:=0
def PySem.W.Fast.tw1226765097288811455:=0
def PySem.W.Fast.tw228896262375828359:=0
def PySem.W.Fast.tw603868870165790584:=0
def PySem.W.Fast.tw11844078034189807471:=0
def PySem.W.Fast.tw1742137981219642678:=0
def PySem.W.Fast.tw1834381508682869800:=0
def PySem.W.Fast.tw6482889725081234914:=0
def PySem.W.Fast.tw18249354745558744595:=0
def PySem.W.Fast.tw16041645909070165650:=0
def PySem.W.Fast.tw2441911221232073167:=0
def PySem.W.Fast.tw16651061909976694545:=0
def PySem.W.Fast.tw17212167914565177170:=0
def PySem.W.Fast.tw17522670177502984051:=0
def PySem.W.Fast.tw17987170963514768207:=0
def PySem.W.Fast.tw831318211655181367:=0
def PySem.W.Fast.tw18009189030449804042:=0
def PySem.W.Fast.tw15746732267802861867:=0
def PySem.W.Fast.tw11461314273877007706:=0
def PySem.W.Fast.tw6069821153360944238:=0
def PySem.W.Fast.tw8757269183319665196:=0
def PySem.W.Fast.tw7887506343196553693:=0
def PySem.W.Fast.tw2605605535177366712:=0
def PySem.W.Fast.tw5936379207316068285:=0
def PySem.W.Fast.tw10342376765814312957:=0
def PySem.W.Fast.tw8781981777763301099:=0
def PySem.W.Fast.tw5436536683228830352:=0
def PySem.W.Fast.tw18295743279834753862:=0
def PySem.W.Fast.tw17205082289124177663:=0
def PySem.W.Fast.tw5413219248538767249:=0
def PySem.W.Fast.tw1270319284491891532:=0
def PySem.W.Fast.tw9790367827907824971:=0
def PySem.W.Fast.tw7422429592921394543:=0
def PySem.W.Fast.tw2432617679512165486:=0
def PySem.W.Fast.tw13658108756663641927:=0
def PySem.W.Fast.tw5319938613628644075:=0
def PySem.W.Fast.tw3940940539591183824:=0
def PySem.W.Fast.tw17879796057221666375:=0
def PySem.W.Fast.tw11863465395246791532:=0
def PySem.W.Fast.tw8066708742096623009:=0
def PySem.W.Fast.tw659847827298437875:=0
def PySem.W.Fast.tw13694591064431178121:=0
def PySem.W.Fast.tw13208114409805229714:=0
def PySem.W.Fast.tw7915189650418323363:=0
def PySem.W.Fast.tw7711098045435633301:=0
def PySem.W.Fast.tw1721524306653253383:=0
def PySem.W.Fast.tw7274058261951634174:=0
def PySem.W.Fast.tw13977607878532255970:=0
def PySem.W.Fast.tw12060775462019531741:=0
def PySem.W.Fast.tw9533951353529518060:=0
def PySem.W.Fast.tw7782870331727316897:=0
def PySem.W.Fast.tw691545438612491615:=0
def PySem.W.Fast.tw6398118506493763383:=0
def PySem.W.Fast.tw15465675901428340230:=0
def PySem.W.Fast.tw1832282329595270532:=0
def PySem.W.Fast.tw15068561301471530011:=0
def PySem.W.Fast.tw6386339700846068881:=0
def PySem.W.Fast.tw18349103546231567232:=0
def PySem.W.Fast.tw4798923707416004360:=0
def PySem.W.Fast.tw8652763534841425685:=0
def PySem.W.Fast.tw18432913700464064129:=0
def PySem.W.Fast.tw10803139688845924658:=0
def PySem.W.Fast.tw8547483513751126462:=0
def PySem.W.Fast.tw3616181500330779358:=0
def PySem.W.Fast.tw193380084465928563:=0
def PySem.W.Fast.tw1215413266432027801:=0
def PySem.W.Fast.tw9353616911662674927:=0
def PySem.W.Fast.tw2085055292778901361:=0
def PySem.W.Fast.tw14092019066166541639:=0
def PySem.W.Fast.tw14033617092152076676:=0
def PySem.W.Fast.tw14443914076640151796:=0
def PySem.W.Fast.tw4489356400837010574:=0
def PySem.W.Fast.tw12420410796733860132:=0
def PySem.W.Fast.tw8009550662714742729:=0
def PySem.W.Fast.tw1182523761579429196:=0
def PySem.W.Fast.tw7300207424600112614:=0
def PySem.W.Fast.tw11250735758936187148:=0
def PySem.W.Fast.tw17786217609496490822:=0
def PySem.W.Fast.tw6994238437062555639:=0
def PySem.W.Fast.tw13872916146637207942:=0
def PySem.W.Fast.tw16576551820313068520:=0
def PySem.W.Fast.tw10862784874361726586:=0
def PySem.W.Fast.tw15977320014523952867:=0
def PySem.W.Fast.tw4758155887682124527:=0
def PySem.W.Fast.tw6737973590483491542:=0
def PySem.W.Fast.tw5694882462567073080:=0
def PySem.W.Fast.tw8441914424660571497:=0
def PySem.W.Fast.tw12104155656392804558:=0
def PySem.W.Fast.tw12970429510119177171:=0
def PySem.W.Fast.tw14868779544468602555:=0
def PySem.W.Fast.tw140285916531626339:=0
def PySem.W.Fast.tw7408599296897147778:=0
def PySem.W.Fast.tw6357763673163868778:=0
def PySem.W.Fast.tw13381986122728206592:=0
def PySem.W.Fast.tw17906027391464290377:=0
def PySem.W.Fast.tw16554584814889856443:=0
def PySem.W.Fast.tw11921011584535095163:=0
def PySem.W.Fast.tw215419293321079089:=0
def PySem.W.Fast.tw2183006810212478072:=0
def PySem.W.Fast.tw8618884610941414672:=0
def PySem.W.Fast.tw13498997864110862344:=0
def PySem.W.Fast.tw12285209194078506474:=0
def PySem.W.Fast.tw3913146011197681877:=0
def PySem.W.Fast.tw17498479578809295542:=0
def PySem.W.Fast.tw17186085147831911101:=0
def PySem.W.Fast.tw5700334177000150261:=0
def PySem.W.Fast.tw5774244283932893033:=0
def PySem.W.Fast.tw285515652686412027:=0
def PySem.W.Fast.tw13407219486870226401:=0
def PySem.W.Fast.tw9526180807399483763:=0
def PySem.W.Fast.tw14728971453589044999:=0
def PySem.W.Fast.tw9468368190979704446:=0
def PySem.W.Fast.tw6942708688297626377:=0
def PySem.W.Fast.tw10239341626897917485:=0
def PySem.W.Fast.tw9832917472043951711:=0
def PySem.W.Fast.tw9746075917806089378:=0
def PySem.W.Fast.tw9743806665996420350:=0
def PySem.W.Fast.tw9574954368199701407:=0
def PySem.W.Fast.tw9333584513228359359:=0
def PySem.W.Fast.tw9301103326091904244:=0
def PySem.W.Fast.tw9219490392465676122:=0
def PySem.W.Fast.tw8421378317539834276:=0
def PySem.W.Fast.tw837606571551366605:=0
def PySem.W.Fast.tw8325115407101156138:=0
def PySem.W.Fast.tw8262157503014071887:=0
def PySem.W.Fast.tw8134099778120153987:=0
def PySem.W.Fast.tw8098783481496636986:=0
def PySem.W.Fast.tw801550539357411654:=0
def PySem.W.Fast.tw7863387415205653230:=0
def PySem.W.Fast.tw781692946805982654:=0
def PySem.W.Fast.tw7548012698543773717:=0
def PySem.W.Fast.tw6740203759276885629:=0
def PySem.W.Fast.tw627678805768742335:=0
def PySem.W.Fast.tw6249119124926882497:=0
def PySem.W.Fast.tw5989093294283165582:=0
def PySem.W.Fast.tw5779365001851838798:=0
def PySem.W.Fast.tw5650175385342105397:=0
def PySem.W.Fast.tw5544486120208316935:=0
def PySem.W.Fast.tw5480651271082335442:=0
def PySem.W.Fast.tw5316045117315531867:=0
def PySem.W.Fast.tw529911074251998270:=0
def PySem.W.Fast.tw527320406111181742:=0
def PySem.W.Fast.tw5181018744914044703:=0
def PySem.W.Fast.tw5138892816973242521:=0
def PySem.W.Fast.tw4888280080690939505:=0
def PySem.W.Fast.tw454818949687869951:=0
def PySem.W.Fast.tw453164565497727760:=0
def PySem.W.Fast.tw3693291774514382930:=0
def PySem.W.Fast.tw3205946423922150153:=0
def PySem.W.Fast.tw2925928851832568100:=0
def PySem.W.Fast.tw2922043251112258704:=0
def PySem.W.Fast.tw2758228743383459215:=0
def PySem.W.Fast.tw2326029850379330173:=0
def PySem.W.Fast.tw2130364644044460306:=0
def PySem.W.Fast.tw2011092174601126040:=0
def PySem.W.Fast.tw1924442366837933292:=0
def PySem.W.Fast.tw18274255349310561072:=0
def PySem.W.Fast.tw18243387237854616990:=0
def PySem.W.Fast.tw18082713850595788568:=0
def PySem.W.Fast.tw18041105242372020683:=0
def PySem.W.Fast.tw17989771875009855253:=0
def PySem.W.Fast.tw17857180522177208405:=0
def PySem.W.Fast.tw17621638922205529592:=0
def PySem.W.Fast.tw17608313249135862732:=0
def PySem.W.Fast.tw17525999425250373271:=0
def PySem.W.Fast.tw16640986027458776752:=0
def PySem.W.Fast.tw1637171353286130477:=0
def PySem.W.Fast.tw16062178368918201392:=0
def PySem.W.Fast.tw698171034266672507:=0
def PySem.W.Fast.tw3946277531290165315:=0
def PySem.W.Fast.tw6260476688387520214:=0
def PySem.W.Fast.tw2487490077128078693:=0
def PySem.W.Fast.tw16594012217940670733:=0
def PySem.W.Fast.tw8674486418744636702:=0
def PySem.W.Fast.tw6057085899392122094:=0
def PySem.W.Fast.tw13045427840721951093:=0
def PySem.W.Fast.tw11745386778752471355:=0
def PySem.W.Fast.tw7447887776313457375:=0
def PySem.W.Fast.tw880302708449369208:=0
def PySem.W.Fast.tw2650389278391147770:=0
def PySem.W.Fast.tw17733404016976682174:=0
def PySem.W.Fast.tw2476465956399941221:=0
def PySem.W.Fast.tw7972030190199676479:=0
def PySem.W.Fast.tw701188209405469700:=0
def PySem.W.Fast.tw5127436712880806114:=0
def PySem.W.Fast.tw16032298766319967289:=0
def PySem.W.Fast.tw15006004789899510762:=0
def PySem.W.Fast.tw16301410253130647400:=0
def PySem.W.Fast.tw18231758266522153184:=0
def PySem.W.Fast.tw7616189512562047186:=0
def PySem.W.Fast.tw8680045730570167746:=0
def PySem.W.Fast.tw349392073319970175:=0
def PySem.W.Fast.tw16560104554531499016:=0
def PySem.W.Fast.tw6335574998133512687:=0
def PySem.W.Fast.tw657661516055186061:=0
def PySem.W.Fast.tw361032799917670469:=0
def PySem.W.Fast.tw17397204027036250436:=0
def PySem.W.Fast.tw16599531669288279174:=0
def PySem.W.Fast.tw6833711894464058500:=0
def PySem.W.Fast.tw12681597076196592870:=0
def PySem.W.Fast.tw17455887418205546045:=0
def PySem.W.Fast.tw18018669217237234742:=0
def PySem.W.Fast.tw14712732749644832385:=0
def PySem.W.Fast.tw5187197644972872198:=0
def PySem.W.Fast.tw3908570825618861891:=0
def PySem.W.Fast.tw10939258265946079915:=0
def PySem.W.Fast.tw6452577777491439211:=0
def PySem.W.Fast.tw8184884726536656963:=0
def PySem.W.Fast.tw8595156271479683819:=0
def PySem.W.Fast.tw10169307256132052565:=0
def PySem.W.Fast.tw13215107984678421106:=0
def PySem.W.Fast.tw12765959659881454868:=0
def PySem.W.Fast.tw17728791070180971118:=0
def PySem.W.Fast.tw10035212181357785336:=0
def PySem.W.Fast.tw8587979979056442706:=0
def PySem.W.Fast.tw2214732179645611378:=0
def PySem.W.Fast.tw13383698546953195381:=0
def PySem.W.Fast.tw11588792512740869422:=0
def PySem.W.Fast.tw337777506964761609:=0
def PySem.W.Fast.tw5780903534409237366:=0
def PySem.W.Fast.tw18177460254904081344:=0
def PySem.W.Fast.tw17446369034601737789:=0
def PySem.W.Fast.tw9973141693674295559:=0
def PySem.W.Fast.tw13352000126581101176:=0
def PySem.W.Fast.tw11870386372258078585:=0
def PySem.W.Fast.tw15583340455705029847:=0
def PySem.W.Fast.tw3196687788247939260:=0
def PySem.W.Fast.tw7435026114799357746:=0
open PySem PySem.W PyProof.Rows
set_option maxRecDepth 100000 in
set_option maxHeartbeats 0 in
theorem PySem.Challenge.cw_goneday_k18_whole_each_rule_by_itself_holds : PySem.Challenge.rw_goneday_k18_whole_each_rule_by_itself.Holds := by
 w_on;o_law;k_head;(case hw=> w_witness2)
 k_fill
 refine L2.walk_ofBK (l:=PySem.Challenge.rw_goneday_k18_whole_each_rule_by_itself) (n:=63) (k:=12) (x:="_law_script") (CX:=L2.CX0) (sp:=K18.sp_law) rfl (by decide) rfl ⟨rfl,by decide,by decide⟩ (fun w h Y=> PySem.W.kIn_of Y) ?F ?S ?C
 case F=>
  intro w mg fa h KX G hmg
  have T:∃t,K18.Txt (L2.KOf KX) mg t:=by
   dsimp only [L2.KOf]
   refine' K18.txt_mk KX G ?a0 ?l0 ?c0 ?k0 ?a1 ?l1 ?c1 ?k1 ?a2 ?l2 ?c2 ?k2 ?a3 ?l3 ?c3 ?k3 ?a4 ?l4 ?c4 ?k4 ?a5 ?l5 ?c5 ?k5 ?a6 ?l6 ?c6 ?k6 ?a7 ?l7 ?c7 ?k7 ?a8 ?i8 ?l8 ?c8 ?k8 ?a9 ?l9 ?c9 ?k9 ?a10 ?l10 ?c10 ?k10 ?a11 ?l11 ?c11 ?k11 ?a12 ?l12 ?c12 ?k12 ?a13 ?l13 ?c13 ?k13 ?a14 ?l14 ?c14 ?k14 ?a15 ?l15 ?c15 ?k15 ?a16 ?l16 ?c16 ?k16 ?a17 ?l17 ?c17 ?k17 ?a18 ?l18 ?c18 ?k18 ?a19 ?l19 ?c19 ?k19 ?a20 ?l20 ?c20 ?k20 ?a21 ?l21 ?c21 ?k21 ?a22 ?l22 ?c22 ?k22 ?a23 ?l23 ?c23 ?k23 ?a24 ?l24 ?c24 ?k24 ?a25 ?l25 ?c25 ?k25 ?a26 ?l26 ?c26 ?k26 ?a27 ?l27 ?c27 ?k27 ?a28 ?l28 ?c28 ?k28 ?a29 ?l29 ?c29 ?k29 ?a30 ?l30 ?c30 ?k30 ?a31 ?l31 ?c31 ?k31 ?a32 ?l32 ?c32 ?k32 ?a33 ?l33 ?c33 ?k33 ?a34 ?l34 ?c34 ?k34 ?a35 ?l35 ?c35 ?k35 ?a36 ?l36 ?c36 ?k36 ?a37 ?l37 ?c37 ?k37 ?a38 ?l38 ?c38 ?k38 ?a39 ?l39 ?c39 ?k39 ?a40 ?l40 ?c40 ?k40 ?a41 ?l41 ?c41 ?k41 ?a42 ?l42 ?c42 ?k42 ?a43 ?l43 ?c43 ?k43 ?a44 ?l44 ?c44 ?k44 ?a45 ?l45 ?c45 ?k45 ?a46 ?l46 ?c46 ?k46 ?a47 ?l47 ?c47 ?k47 ?a48 ?l48 ?c48 ?k48 ?a49 ?l49 ?c49 ?k49 ?x_MONTH_DAYS ?y_MONTH_DAYS ?z_MONTH_DAYS ?w_MONTH_DAYS ?x_FIRST_YEAR ?r_FIRST_YEAR ?x_ROUND_DAYS ?r_ROUND_DAYS ?x_ROUND_YEARS ?r_ROUND_YEARS ?x_NoPaper ?x_Paper ?pg_Paper ?hd_Paper ?po_Paper ?sa_Paper ?mk_Paper ?kc_Paper ?na_Paper_name ?na_Paper_coming ?na_Paper_kind ?na_Paper_makers ?na_Paper_happenings ?n_abs ?n_all ?n_any ?n_divmod ?n_int ?n_len ?n_max ?n_min ?n_range ?n_set ?n_sorted ?n_sum ?n_tuple
   (case a0=> k_is)
   (case l0=> k_is)
   (case c0=> k_is)
   (case k0=> k_is)
   (case a1=> k_is)
   (case l1=> k_is)
   (case c1=> k_is)
   (case k1=> k_is)
   (case a2=> k_is)
   (case l2=> k_is)
   (case c2=> k_is)
   (case k2=> k_is)
   (case a3=> k_is)
   (case l3=> k_is)
   (case c3=> k_is)
   (case k3=> k_is)
   (case a4=> k_is)
   (case l4=> k_is)
   (case c4=> k_is)
   (case k4=> k_is)
   (case a5=> k_is)
   (case l5=> k_is)
   (case c5=> k_is)
   (case k5=> k_is)
   (case a6=> k_is)
   (case l6=> k_is)
   (case c6=> k_is)
   (case k6=> k_is)
   (case a7=> k_is)
   (case l7=> k_is)
   (case c7=> k_is)
   (case k7=> k_is)
   (case a9=> k_is)
   (case l9=> k_is)
   (case c9=> k_is)
   (case k9=> k_is)
   (case a10=> k_is)
   (case l10=> k_is)
   (case c10=> k_is)
   (case k10=> k_is)
   (case a11=> k_is)
   (case l11=> k_is)
   (case c11=> k_is)
   (case k11=> k_is)
   (case a12=> k_is)
   (case l12=> k_is)
   (case c12=> k_is)
   (case k12=> k_is)
   (case a13=> k_is)
   (case l13=> k_is)
   (case c13=> k_is)
   (case k13=> k_is)
   (case a14=> k_is)
   (case l14=> k_is)
   (case c14=> k_is)
   (case k14=> k_is)
   (case a15=> k_is)
   (case l15=> k_is)
   (case c15=> k_is)
   (case k15=> k_is)
   (case a16=> k_is)
   (case l16=> k_is)
   (case c16=> k_is)
   (case k16=> k_is)
   (case a17=> k_is)
   (case l17=> k_is)
   (case c17=> k_is)
   (case k17=> k_is)
   (case a18=> k_is)
   (case l18=> k_is)
   (case c18=> k_is)
   (case k18=> k_is)
   (case a19=> k_is)
   (case l19=> k_is)
   (case c19=> k_is)
   (case k19=> k_is)
   (case a20=> k_is)
   (case l20=> k_is)
   (case c20=> k_is)
   (case k20=> k_is)
   (case a21=> k_is)
   (case l21=> k_is)
   (case c21=> k_is)
   (case k21=> k_is)
   (case a22=> k_is)
   (case l22=> k_is)
   (case c22=> k_is)
   (case k22=> k_is)
   (case a23=> k_is)
   (case l23=> k_is)
   (case c23=> k_is)
   (case k23=> k_is)
   (case a24=> k_is)
   (case l24=> k_is)
   (case c24=> k_is)
   (case k24=> k_is)
   (case a25=> k_is)
   (case l25=> k_is)
   (case c25=> k_is)
   (case k25=> k_is)
   (case a26=> k_is)
   (case l26=> k_is)
   (case c26=> k_is)
   (case k26=> k_is)
   (case a27=> k_is)
   (case l27=> k_is)
   (case c27=> k_is)
   (case k27=> k_is)
   (case a28=> k_is)
   (case l28=> k_is)
   (case c28=> k_is)
   (case k28=> k_is)
   (case a29=> k_is)
   (case l29=> k_is)
   (case c29=> k_is)
   (case k29=> k_is)
   (case a30=> k_is)
   (case l30=> k_is)
   (case c30=> k_is)
   (case k30=> k_is)
   (case a31=> k_is)
   (case l31=> k_is)
   (case c31=> k_is)
   (case k31=> k_is)
   (case a32=> k_is)
   (case l32=> k_is)
   (case c32=> k_is)
   (case k32=> k_is)
   (case a33=> k_is)
   (case l33=> k_is)
   (case c33=> k_is)
   (case k33=> k_is)
   (case a34=> k_is)
   (case l34=> k_is)
   (case c34=> k_is)
   (case k34=> k_is)
   (case a35=> k_is)
   (case l35=> k_is)
   (case c35=> k_is)
   (case k35=> k_is)
   (case a36=> k_is)
   (case l36=> k_is)
   (case c36=> k_is)
   (case k36=> k_is)
   (case a37=> k_is)
   (case l37=> k_is)
   (case c37=> k_is)
   (case k37=> k_is)
   (case a38=> k_is)
   (case l38=> k_is)
   (case c38=> k_is)
   (case k38=> k_is)
   (case a39=> k_is)
   (case l39=> k_is)
   (case c39=> k_is)
   (case k39=> k_is)
   (case a40=> k_is)
   (case l40=> k_is)
   (case c40=> k_is)
   (case k40=> k_is)
   (case a41=> k_is)
   (case l41=> k_is)
   (case c41=> k_is)
   (case k41=> k_is)
   (case a42=> k_is)
   (case l42=> k_is)
   (case c42=> k_is)
   (case k42=> k_is)
   (case a43=> k_is)
   (case l43=> k_is)
   (case c43=> k_is)
   (case k43=> k_is)
   (case a44=> k_is)
   (case l44=> k_is)
   (case c44=> k_is)
   (case k44=> k_is)
   (case a45=> k_is)
   (case l45=> k_is)
   (case c45=> k_is)
   (case k45=> k_is)
   (case a46=> k_is)
   (case l46=> k_is)
   (case c46=> k_is)
   (case k46=> k_is)
   (case a47=> k_is)
   (case l47=> k_is)
   (case c47=> k_is)
   (case k47=> k_is)
   (case a48=> k_is)
   (case l48=> k_is)
   (case c48=> k_is)
   (case k48=> k_is)
   (case a49=> k_is)
   (case l49=> k_is)
   (case c49=> k_is)
   (case k49=> k_is)
   (case x_MONTH_DAYS=> k_is)
   (case y_MONTH_DAYS=> k_is)
   (case z_MONTH_DAYS=> first | (repeat (first | exact .nil | refine .cons ⟨_,rfl⟩ ?_)))
   (case w_MONTH_DAYS=> decide)
   (case x_FIRST_YEAR=> k_is)
   (case r_FIRST_YEAR=> exact⟨_,rfl⟩)
   (case x_ROUND_DAYS=> k_is)
   (case r_ROUND_DAYS=> exact⟨_,rfl⟩)
   (case x_ROUND_YEARS=> k_is)
   (case r_ROUND_YEARS=> exact⟨_,rfl⟩)
   (case x_NoPaper=> k_is)
   (case x_Paper=> k_is)
   (case pg_Paper=> k_is)
   (case hd_Paper=> k_is)
   (case po_Paper=> k_is)
   (case sa_Paper=> k_is)
   (case mk_Paper=> k_is)
   (case kc_Paper=> k_is)
   (case na_Paper_name=> k_is)
   (case na_Paper_coming=> k_is)
   (case na_Paper_kind=> k_is)
   (case na_Paper_makers=> k_is)
   (case na_Paper_happenings=> k_is)
   (case n_abs=> k_is)
   (case n_all=> k_is)
   (case n_any=> k_is)
   (case n_divmod=> k_is)
   (case n_int=> k_is)
   (case n_len=> k_is)
   (case n_max=> k_is)
   (case n_min=> k_is)
   (case n_range=> k_is)
   (case n_set=> k_is)
   (case n_sorted=> k_is)
   (case n_sum=> k_is)
   (case n_tuple=> k_is)
   (case a8=> k_is)
   (case i8=> k_is)
   (case l8=> k_is)
   (case c8=> k_is)
   (case k8=> k_is)
  obtain⟨t,T⟩:=T
  have e0:=hmg.symm.trans T.m_x49
  cases e0
  exact⟨t.d_x49,T.bt_x49,fun base kb nb=> K18.ok_law T⟩
 case S=> exact fun K H a ns hl hb hO hS=> K18.start_law hl hb hS
 case C=> exact fun _ _ _ _ z=> z
