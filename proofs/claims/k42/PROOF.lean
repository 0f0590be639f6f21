import PyProof.Rows.All
import Wide.All
import OpenK.AllK
import Wide.FinOn
import Lean
import PyProof.EqAt
import PyProof.EqKinds
import PyProof.TupleCall
import PySem.Challenge.RW_wordswap_k42_outcomes
import PyProof.ExcBaseAll.ValueError
import PyProof.NsDelKeeps
import PyProof.ExcArgs
import KE.KIntText
import PyProof.StrLawsChain
import PyProof.StrWalks
import PyProof.Draws
import PyProof.EnumMake
import PyProof.Rows.CallKwBuiltin
import PyProof.AttrMissHeap
set_option maxRecDepth 100000 in
set_option maxHeartbeats 0 in
theorem wsd:PySem.W.OpenLaw.wellSaid PySem.Challenge.rw_wordswap_k42_outcomes=true:=by kernel_rfl
open PySem renaming wpAny_bind→Hz,wpAny_pure→HB,Value→HD,Shared→HF,FuncData→Ia,Program→Ib,wpAny_call_entry→II,wpAny_mono→IJ,Around→IN,World→IW,wpAny_holding→IY,wpAny_newObj_type→Ja,wpAny_callSpecial?_slot→Jd,wpAny_field→Jf,Builtin→Ji,mem_of_lookup→Ju,sizeLine_eq→JH,wpAny_truthy_bool→JJ,wpAny_loadPart_at→JN,wpAny_setField_rec→JR,wpAny_pyIter_list→JY,wpAny_dictEntries→JZ,wpAny_seqItems→Kb,wpAny_setField→Kc,codeAny_builtin→Kg,tupleKind_room_in1→Ki,wpAny_typeNameOfWhole_keyiter→Km,codeAny_mono→Kr,wpAny_isSubtype_exc→Ku,wpAny_notOrdered_dict→KD,wpAny_passesOwn→KH,wpAny_typeNameOf_keyiter→KP,wpAny_Call_Name_kw→Lg,wpAny_execs_nil→Li,wpAny_rule→Lu,plainId_quiet→Lw,wpAny_setState_of→Lx,wpAny_isInstance→LO,wpAny_askSetting→LP,wpAny_typeOf→LX,wpAny_pyIter_tuple→Me,wpAny_attempt→Mi,plainObj_wpAny_Assign_Attribute→Mq,wpAny_call→Mr,wpAny_pyIter_slot→Mv,builtinLookup_eq_fast→MH,wpAny_updateSeq_pair→MR,codeAny_call_builtin→MS,ExceptHandler→MX,Spec→Nc,wpAny_specialOf→Ng,codeAny_of_tree→Nm,wpAny_setEntries_of→Nn,wpAny_dictEpoch→Nq,Within→Nw,GenState→Ny,wpAny_fieldsOf→NF,DictEntry→NL,wpAny_Call_method→NO,wpAny_comprehension_free→NP,IsPair→NQ,Scope→NW,Keyword→Ob,wpAny_standAt→Oh,wpAny_newList→Oi,wpAny_onRaise→Oj,wpAny_execs_cons→Op,kt_code_dict_new→Ov,wpAny_isTrue_Compare1→OI,call_meetsIn→OM,weight_type_call_type→OP,typeLookup_type→OQ,size_of_entries→OR,wpAny_isOneOf_keyiter→OS,intKind_is→OV,wpAny_newTuple→Pd,isSubtype_stop→Pg,isSubtype_type→Pl,callType_codes→Pp,wpAny_of_eq→Pw,wpAt_of_wpAny→Px,Result→PL,Str→PN,wpAny_handled→PR,SetTable→PU,Thread→Qf,CmpOp→Qj,PassesOwn→Qk,IsPart→Ql,wpAny_throw→Qs,wpAny_letGo→Qt,BindsTo→Qv,NameKind→Qw,OsState→Qy,Walks→Qz,Model→QC,Moved→QE
open PySem.Heap renaming get?_push_of_some→HA,get?_push_size→HI,lt_size→HJ,get?_update_self→IM,size_push→Jg,SameBut→Jr,get?_update_other→JB,get?_push_ne→Mu,size_update→MN,get?_update_ne→Pt,ExtBut→Pu
open List renaming length_map→HC,mem_singleton→HH,mem_cons→HK,mem_cons_self→HM,prefix_append→HN,mem_map→HQ,mem_cons_of_mem→HR,size_toArray→HU,map_map→HV,getElem?_eq_getElem→HX,getElem?_eq_some_iff→HY,map_cons→Ic,length_append→Ie,map_append→Ii,getElem?_map→Ij,all_eq_true→Ik,length_cons→Il,mem_of_getElem?→Io,mem_append→Ir,range→Iw,getElem?_append_left→Ix,prefix_refl→Iy,length_filter_le→Iz,append_nil→IA,mem_append_right→IF,pairwise_cons→IG,Nodup→IK,mem_filter→IL,not_mem_nil→IT,filter_eq_self→IU,getD_eq_getElem?_getD→IV,getElem?_eq_none→IZ,length_take→Jb,take_length→Jc,getElem?_eq_none_iff→Je,take_succ→Jh,map_congr_left→Jj,length_nil→Jm,mem_append_left→Jo,mem_iff_getElem→Jp,nodup_cons→Jt,map_flatMap→Jx,nodup_append→Jy,mem_range→JD,pairwise_iff_getElem→JF,filterMap_cons→JG,getElem?_append_right→JV,take_of_length_le→JW,contains_cons→Kj,filter_append→Kk,length_filterMap_le→Kl,mem_flatMap→Kn,filter_map→Kv,any_cons→KC,getLast?_eq_getLast→KQ,toArray→KS,any_toArray→KZ,mem_filterMap→Lf,lookup→Lj,find?_cons→Lk,length_set→Lo,all_cons→Lq,pairwise_map→Lr,dropWhile_cons_of_pos→LA,replicate→LF,any_eq_true→LM,lookup_cons→LN,getElem_map→LQ,length_pos_iff→LU,flatMap_append→LV,map_nil→LY,filter_cons_of_pos→Mg,filter_cons_of_neg→Mh,range_succ_eq_map→Mn,getElem?_set→Mt,takeWhile_append_dropWhile→Mw,nodup_nil→Mz,length_singleton→MD,all_map→ME,getElem_inj→MK,getElem_mem→MM,getElem?_set_ne→MO,map_drop→Nb,foldl_cons→Nh,nil_append→Ni,forIn_cons→Nl,dropWhile_cons_of_neg→Nv,map→Nz,forIn_nil→NE,findIdx?_eq_none_iff→NH,getLast?_eq_getElem?→NI,getElem?_zip_eq_some→NJ,ext_getElem?→NR,append_assoc→NS,foldl_append→NT,getElem_take→NU,getElem?_replicate→NZ,Pairwise→Oc,map_take→Om,length_drop→Oq,getElem?_set_self→Ow,drop_eq_nil_of_le→OA,getElem_cons_zero→OG,filter_eq_nil_iff→OH,of_mem_zip→OL,mem_of_mem_take→OY,length_dropLast→OZ,drop_zero→Pc,getElem_of_mem→Pz,filter_flatMap→PF,Perm→QA
open PySem.W renaming Frag→HE,kia_one→JE,emptyDict→JK,findIn→Ka,keepIn→Kq,instObj→Kt,fnOf→KA,SharedT→Ld,callWith_K→Lh,boot_heap→Ln,codeIn→My,methodCall_KW→MB,plainGet→ML,plainGet_of→Nf,lookIn→ND,methodObj→NK,hasDictIn→NM,cellsFrom_some→Ox,takerIn→OJ,looks_findIn→OW,kitOne→Pb,boot_drawn→PX,isFn→PY,kas_rev→Qn,boot_toks→Qq,OpenLaw→Qx
open Nat renaming le_refl→HG,ne_of_lt→HS,lt_of_lt_of_le→Ig,le_trans→Ih,lt_succ_self→Jl,lt_succ_of_lt→JL,lt_irrefl→JO,le_succ→JQ,ne_of_gt→JU,le_add_right→Ky,zero_le→KU,succ_ne_zero→L0,lt_trans→Ll,le_of_lt→MA,mul_le_mul_right→MT,le_of_eq→OK,pow_le_pow_right→Pa,mul_le_mul→Pq,zero_add→Qa,lt_or_ge→Qb
open PySem.Value renaming ref→HW,none→Iu,int→Kz,bool→Nd,str→PJ,isInt→Qh,float→Qi
open Bool renaming and_eq_true→HZ,false_eq_true→IB,false_ne_true→IP,beq_eq_decide_eq→MF,or_true→MG,and_eq_true_iff→MQ,false_or→Od,not_false→Po
open PySem.Builtin.SmallTypes renaming nextOf→Im,ownedTupleIsFree→JI,ownedTupleHandOut→LK
open Option renaming map_eq_some_iff→Ip,isSome_iff_exists→LW,isSome_map→Ms,map_some→Np
open False renaming elim→Iq
open Option.some renaming inj→Iv
open PySem.F renaming called_set→IC,slot_dict_keyiterator_next→Jn,slot_dict_get→Ke,slot_tuple_iterator_next→Kx,entry_dict_get→Lc,kt_typeCall_dict_1→Lz,args_dict_keyiterator_next_1→LL,entry_dict_keyiterator_next→LR,slot_list_getattribute→Mb,args_dict_init_2→Mc,plainAttrs_dict→Mf,slot_zip_next→Mj,entry_dict_init→Mm,kt_called_dict→Mo,slot_dict_iter→Mp,args_tuple_iterator_next_1→MV,slot_dict_setdefault→Na,entry_tuple_iterator_next→Nk,args_tuple_add_2→NN,entry_tuple_add→Oa,args_dict_get_2→Oe,args_dict_get_3→Of,plainAttrs_list→Og,entry_type_call→Ol,slot_tuple_add→Oy,typeCall_set_1→OB,entry_set_init→OC,type_dict_get→ON
open PySem.SetTable renaming insertAt→IE,below→La,grown→Pj
open PySem.Heap.SameBut renaming update→IH
open PySem.Obj renaming data_mapFields→IQ,mapFields→Jz,isFreed_of_fields→JM,mapSeq→Ks,cls_mapFields→Ls,data_mapDictKeys→LC,isFreed_of_dict→PB
open PyProof.Rows renaming boot_list→IR,envOfC→IS,boot_tuple→Jk,callWith_type1→JP,IntsAre→Ko,slot_tuple_getitem→KJ,boot_bool→Le,boot_sorted→Ma,boot_int→MJ,boot_isinstance→MU,Call_→NA,AllBare→NX,subscriptTail_builtinR→Oz,entry_list_sort→OO,size_push'→OU,slot_list_sort→Pe,args_list_sort→Pf,Constant_none→PK,listUpdate_at→PP,plain_sorted→Qc,entry_sorted→Qd,args_sorted1→Qe,seqEpoch_at→Qo,kind_sorted→Qp,IsTup→QD
open Sum renaming inl→Jq,inr→Pr
open Array renaming length_toList→Js,getElem?_toList→Jv,getElem?_eq_none→JC,getElem?_eq_getElem→Kd,getElem?_eq_some_iff→Ly,toArray_toList→MP,getD_eq_getD_getElem?→Nj,perm_iff_toList_perm→Nu,append_assoc→Nx,forIn_toList→NB,toList_inj→Ou
open PySem.PassesOwn renaming never→Jw
open PySem.SeqAt renaming EqAt→JA,RcNeAt→LI
open PySem.Builtin.Dict renaming updateFrom→JS,addKeywords→KO,selfAndRest→Md,showsAll→MI,entriesForEmpty→MY,pairItems→OF
open PySem.Around renaming under_plainId→JT,under→PZ
open Ne renaming symm→JX
open Classical renaming choose_spec→Kf,propDecidable→KW,choose→Ot
open PySem.Calls renaming spliced_cons→Kh,callWith_builtin→Lb,spliced_nil→Lp,evalArgs_plain→LB,call_function_entry→LJ,Name_function_global→Nr
open PySem.Builtin.Slice renaming slicePlaces→KG,sliceAdjust→LG,sliceApplied→Nt
open True renaming intro→KI
open PySem.Builtin.Tuple renaming tupleExact→KL,tupleHashOf→NG
open Int renaming toNat_natCast→KN,zero_add→OT,toNat_of_nonneg→PD
open PySem.Str renaming ofString→KR
open PyProof.Rows.F renaming plain_set_update_loop→KY,entry_set_update_loop→Oo
open List.cons renaming injEq→Lm
open PySem.Shared renaming TypeIs→Lv
open PySem.Data renaming dict→LH
open PySem.Builtin.List renaming listTooLong→LZ,listLengthHint→No
open PySem.Code renaming quiet_builtin→Ml,isFrame→Q2
open Function renaming comp_def→Mx
open PySem.Builtin.Frozenset renaming updateFrom→MW
open PySem.Builtin.Dict_items renaming ownsTuple→MZ
open Nat.succ renaming inj→NC
open List.Pairwise renaming imp_of_mem→NV
open PySem.Builtin.Range renaming rangeSize→NY
open PySem.SeqAt.EqAt renaming bool_bool→OX
open PyProof.Rows.IntsAre renaming int_at→Ph
open List.Perm renaming refl→Pk
open Sum.inl renaming inj→Ps
open PySem.EntryCells renaming newEntry→Py
open Or renaming inr→PM,inl→Qu
open Prod.mk renaming injEq→PQ,inj→Qr
open PySem.pickOrder renaming go→Qg
open PySem.Expr renaming Name→Qm
namespace L2
open PySem PySem.Spec PyProof.Rows
noncomputable def B9(s:Stmt)(j:Nat):Stmt:=match s with
 | .ClassDef _ _ _ a _ _ _ _ _ _ _=>a.getD j (.Pass ⟨0,0,0,0⟩)
 | _=>.Pass ⟨0,0,0,0⟩
noncomputable def C5(s:Stmt):Arguments:=match s with
 | .FunctionDef _ a _ _ _ _ _ _ _ _=>a
 | _=>{ posonlyargs:=[],args:=[],vararg:=none,kwonlyargs:=[],kw_defaults:=[],kwarg:=none,defaults:=[] }
noncomputable def C4(s:Stmt):List Stmt:=match s with
 | .FunctionDef _ _ b _ _ _ _ _ _ _=>b
 | _=>[]
noncomputable def B6(s:Stmt):NW:=match s with
 | .FunctionDef _ _ _ _ _ _ c _ _ _=>c
 | _=>{ kind:=.function,names:=[],isGenerator:=false,isCoroutine:=false }
end L2
namespace Ws
open PySem PySem.W PyProof.Rows PySem.Calls L2
noncomputable section
noncomputable def gu(c k:Nat):Bool:=decide (c=k)||decide (k=7)
noncomputable def cs(i:Nat):Str:=(["number","passings","at","web","leaders","limits","plan","free","ledger","kept_leaders","kept_limits","kept_free","now","turns_of_lays","sayings","first_turns","does","me","open_boxes"]:List Str).getD i "?"
noncomputable def nN(ok:Qf->Bool)(a:Ld->Qf->Option (Ld×Qf))(n:Nat):Ld->Qf->Option Ld:=
 @Nat.rec (λ_=>Ld->Qf->Option Ld) (λ_ _=>none)
  (λ_ ih s t=>@Bool.rec (λ_=>Option Ld) (@Bool.rec (λ_=>Option Ld) none (@Option.rec _ (λ_=>Option Ld) none (λr=>ih r.1 r.2) (a s t)) (ok t)) (some s) (through t)) n
noncomputable def uK:List Obj->Nat->BT->BT
 | [],_,t=>t
 | o::r,n,t=>uK r (n+1) (t.ins n o)
noncomputable def qr(w:IW)(os:Qy):Ld:=⟨uK (Ln w.params).objs.toList 0 .nil,11,(Ln w.params).life,#[],PX,Qq,os⟩
noncomputable def lC(S:Ld):Frag:=(Iw S.n).filterMap λa=>(alive ((S.tree.get a).getD default)).map λo=>(a,o)
noncomputable def lk{b:Type}(c:Ib->List Str->List Str->(HF->Bool)->Bool->HF->b)(p q:Ib)(a:List Str)(Xt:HF->Bool)(w:IW)(s:HF):Bool×b:=
 (staticsOk (importedModules p.main.body) (Ln w.params) s.heap&&namesBound p s.heap&&gensDone s&&laidKept (Ln w.params) s.heap,c q a (importedModules p.main.body) Xt true s)
noncomputable def kB(K:HE)(C C':Addr):Bool:=match K.lookup C with
 | some ⟨_,_,.cls cd,_⟩=>cd.mro.contains (.ref C')
 | _=>false
noncomputable def bJ(K:Frag)(n:Str)(f:Addr):Bool:=decide (nsIn K mainGlobals n=some (some (.ref f)))
noncomputable def mG(K:Frag)(n:Str):Bool:=decide (nsIn K mainGlobals n=some none)
noncomputable def mH(K:Frag)(n:Str)(v:HD):Bool:=decide (nsIn K mainGlobals n=some (some v))
noncomputable def jf(K:Frag)(C:Addr)(n:Str)(v:Option HD):Bool:=decide (findIn K (.ref C) n=some v)
noncomputable def cr(K:Frag)(C:Addr)(n:Str)(f:Addr):Bool:=jf K C n (some (.ref f))&&isFn K (.ref f)
noncomputable def bn(K:Frag)(cd:HD)(q:Str)(f:Addr):Bool:=codeIn K cd q&&keepIn K (.ref f)
noncomputable def mI(K:Frag)(C:Addr):Bool:=plainGet K C Str.empty&&hasDictIn K C&&plainOver K C&&jf K C "__setattr__" (some (.builtin "object.__setattr__"))&&(Iw 19).all λj=>jf K C (cs j) none
noncomputable def kc(K:Frag)(C:Addr):Bool:=makesIn K C&&keepIn K (.ref C)
noncomputable def blts:List Str:=["len","range","list","sorted","isinstance","int","bool","tuple","enumerate","reversed","max","min","all","any","set","zip","dict"]
noncomputable def xh(K:Frag):Bool:=decide (specialIn K (.builtin "object.__class__") "__get__" = some (some (.builtin "getset_descriptor.__get__")))&&decide (takesIn K (.builtin "object.__class__")=some true)
noncomputable def ke(K:Frag)(C a:Addr):Bool:=cr K C "__init__" a&&keepIn K (.ref C)&&jf K C "__setattr__" (some (.builtin "object.__setattr__"))&&jf K C "at" none&&jf K C "__getattribute__" (some (.builtin "BaseException.__getattribute__"))&&jf K C "__getattr__" none&&hasDictIn K C&&
 jf K C "__class__" (some (.builtin "object.__class__"))&&decide (mroIn K C (.type "object")=some true)&&decide (kitOne K (.ref C) (.type "ValueError")=some true)
noncomputable def xi(K:Frag)(a:Nat->Addr)(es:List Nat):Bool:=es.all λc=>es.all λd=>decide (kB K (a c) (a d)=gu c d)&&decide (kitOne K (.ref (a c)) (.ref (a d))=some (gu c d))
abbrev mL:List Nat:=[0,2,3,4,5,6,7,8,9,11,12,13,14,15,16,17,18,20,22,23,24,25,26,27,29,30,32,33,34,35,36,38,39,40,41,43,44,45,46,47,48,49,50,51]
abbrev rV:List Str:=[]
abbrev xt(p:Ib)(s:HF):Bool:=xlAt (view p mL) [] s&&recOk (RowW.records PySem.Challenge.rw_wordswap_k42_outcomes.row.toRowW) s
noncomputable def C7(p:Ib)(i:Nat):Stmt:=p.main.body.getD i (.Pass ⟨0,0,0,0⟩)
noncomputable def cmA(i:Nat):Addr:=([223,540,370,223,417,223,481,38,51,63,223,223,75,87,99,111,123,223]:List Nat).getD i 0
abbrev bs(K:Frag):List Bool:=[(Iw 7).all λc=>mI K (cmA c),blts.all (mG K),bJ K "Web" (cmA 0),bJ K "Ledger" (cmA 2),bJ K "Free" (cmA 4),bJ K "Run" (cmA 6),bJ K "Plan" (cmA 1),bJ K "SwapError" (cmA 7),bJ K "NoWeb" (cmA 8),bJ K "NoPlan" (cmA 9),bJ K "NoDeed" (cmA 12),bJ K "Laid" (cmA 13),bJ K "NotLaid" (cmA 14),bJ K "Late" (cmA 15),bJ K "Unknown" (cmA 16),mH K "FEWEST_HANDS" (.int (2) 337),mH K "MOST_HANDS" (.int (6) 339),mH K "LAY" (.str "lay" 475),mH K "SAY" (.str "say" 477),mG K "str",cr K (cmA 7) "__init__" 35&&bn K (.ref 34) "SwapError.__init__" 35,bJ K "_law_cell_at" 551&&bn K (.ref 550) "_law_cell_at" 551,bJ K "_law_mixed" 563&&bn K (.ref 562) "_law_mixed" 563,bJ K "_law_any" 585&&bn K (.ref 584) "_law_any" 585,bJ K "_law_ways" 568&&bn K (.ref 567) "_law_ways" 568,bJ K "_law_words" 590&&bn K (.ref 589) "_law_words" 590,cr K (cmA 4) "__init__" 409&&bn K (.ref 408) "Free.__init__" 409,cr K (cmA 2) "__init__" 266&&bn K (.ref 265) "Ledger.__init__" 266,cr K (cmA 2) "move" 280&&bn K (.ref 279) "Ledger.move" 280,cr K (cmA 2) "turn" 273&&bn K (.ref 272) "Ledger.turn" 273,cr K (cmA 4) "deeds" 414&&bn K (.ref 413) "Free.deeds" 414,bJ K "asked_deeds" 431&&bn K (.ref 430) "asked_deeds" 431,bJ K "is_whole" 132&&bn K (.ref 131) "is_whole" 132,bJ K "is_hand" 139&&bn K (.ref 138) "is_hand" 139,bJ K "is_passing" 153&&bn K (.ref 152) "is_passing" 153,bJ K "is_box" 239&&bn K (.ref 238) "is_box" 239,bJ K "is_chain" 232&&bn K (.ref 231) "is_chain" 232,bJ K "is_chain_of" 244&&bn K (.ref 243) "is_chain_of" 244,bJ K "is_deed" 251&&bn K (.ref 250) "is_deed" 251,bJ K "is_own" 426&&bn K (.ref 425) "is_own" 426,cr K (cmA 2) "take_lay" 294&&bn K (.ref 293) "Ledger.take_lay" 294,cr K (cmA 2) "is_laid_ahead" 315&&bn K (.ref 314) "Ledger.is_laid_ahead" 315,cr K (cmA 1) "limit" 523&&bn K (.ref 522) "Plan.limit" 523,cr K (cmA 2) "is_late" 322&&bn K (.ref 321) "Ledger.is_late" 322,cr K (cmA 2) "is_said_ahead" 336&&bn K (.ref 335) "Ledger.is_said_ahead" 336,cr K (cmA 2) "is_sayable" 329&&bn K (.ref 328) "Ledger.is_sayable" 329,cr K (cmA 2) "take_say" 301&&bn K (.ref 300) "Ledger.take_say" 301,cr K (cmA 2) "take" 287&&bn K (.ref 286) "Ledger.take" 287,bJ K "take_where_let" 438&&bn K (.ref 437) "take_where_let" 438,bJ K "do_turn" 445&&bn K (.ref 444) "do_turn" 445,cr K (cmA 2) "said" 360&&bn K (.ref 359) "Ledger.said" 360,cr K (cmA 2) "has_all_words" 341&&bn K (.ref 340) "Ledger.has_all_words" 341,cr K (cmA 2) "laid" 348&&bn K (.ref 347) "Ledger.laid" 348,cr K (cmA 2) "opened" 353&&bn K (.ref 352) "Ledger.opened" 353,cr K (cmA 6) "__init__" 459&&bn K (.ref 458) "Run.__init__" 459,bJ K "is_rising" 490&&bn K (.ref 489) "is_rising" 490,bJ K "are_leaders" 495&&bn K (.ref 494) "are_leaders" 495,bJ K "is_limit" 502&&bn K (.ref 501) "is_limit" 502,cr K (cmA 1) "__init__" 516&&bn K (.ref 515) "Plan.__init__" 516,bJ K "is_number_of_hands" 146&&bn K (.ref 145) "is_number_of_hands" 146,bJ K "first_wrong_passing" 160&&bn K (.ref 159) "first_wrong_passing" 160,cr K (cmA 0) "__init__" 174&&bn K (.ref 173) "Web.__init__" 174,bJ K "_law_alike" 556&&bn K (.ref 555) "_law_alike" 556,cr K (cmA 6) "opened" 466&&bn K (.ref 465) "Run.opened" 466,bJ K "_law_outcome" 578&&bn K (.ref 577) "_law_outcome" 578,cr K (cmA 0) "takers_of" 184&&bn K (.ref 183) "Web.takers_of" 184,cr K (cmA 0) "givers_of" 179&&bn K (.ref 178) "Web.givers_of" 179,cr K (cmA 6) "outcome" 478&&bn K (.ref 477) "Run.outcome" 478,bJ K "law" 595&&bn K (.ref 594) "law" 595,xh K,[7,8,9,12,13,14,15,16].all λc=>ke K (cmA c) 35,xi K cmA [7,8,9,12,13,14,15,16],mG K "ValueError",kc K (cmA 0),kc K (cmA 2),kc K (cmA 4),kc K (cmA 6),kc K (cmA 1)]
abbrev os(K:Frag):List (Option Obj):=[K.lookup 35,K.lookup 551,K.lookup 563,K.lookup 585,K.lookup 568,K.lookup 590,K.lookup 409,K.lookup 266,K.lookup 259,K.lookup 280,K.lookup 273,K.lookup 414,K.lookup 431,K.lookup 132,K.lookup 139,K.lookup 153,K.lookup 239,K.lookup 232,K.lookup 244,K.lookup 251,K.lookup 426,K.lookup 294,K.lookup 315,K.lookup 523,K.lookup 322,K.lookup 336,K.lookup 329,K.lookup 301,K.lookup 287,K.lookup 438,K.lookup 445,K.lookup 360,K.lookup 341,K.lookup 348,K.lookup 353,K.lookup 459,K.lookup 490,K.lookup 495,K.lookup 502,K.lookup 516,K.lookup 146,K.lookup 160,K.lookup 174,K.lookup 556,K.lookup 466,K.lookup 578,K.lookup 184,K.lookup 179,K.lookup 478,K.lookup 595,K.lookup (cmA 7),K.lookup (cmA 8),K.lookup (cmA 9),K.lookup (cmA 12),K.lookup (cmA 13),K.lookup (cmA 14),K.lookup (cmA 15),K.lookup (cmA 16)]
abbrev ov(p:Ib):List (Option Obj):=[some ⟨(.type "function"),none,.func (fnOf "__init__" "SwapError.__init__" (C5 (B9 (C7 p 2) 0)) (C4 (B9 (C7 p 2) 0)) (B6 (B9 (C7 p 2) 0)) .none .none .none (.str "wordswap.errors" 194) none (.ref 34) .none),#[]⟩,some ⟨(.type "function"),none,.func (fnOf "_law_cell_at" "_law_cell_at" (C5 (C7 p 43)) (C4 (C7 p 43)) (B6 (C7 p 43)) .none .none .none (.str "law_wordswap_k42_outcomes" 887) none (.ref 550) .none),#[]⟩,some ⟨(.type "function"),none,.func (fnOf "_law_mixed" "_law_mixed" (C5 (C7 p 45)) (C4 (C7 p 45)) (B6 (C7 p 45)) .none .none .none (.str "law_wordswap_k42_outcomes" 887) none (.ref 562) .none),#[]⟩,some ⟨(.type "function"),none,.func (fnOf "_law_any" "_law_any" (C5 (C7 p 49)) (C4 (C7 p 49)) (B6 (C7 p 49)) .none .none .none (.str "law_wordswap_k42_outcomes" 887) none (.ref 584) .none),#[]⟩,some ⟨(.type "function"),none,.func (fnOf "_law_ways" "_law_ways" (C5 (C7 p 46)) (C4 (C7 p 46)) (B6 (C7 p 46)) .none .none .none (.str "law_wordswap_k42_outcomes" 887) none (.ref 567) .none),#[]⟩,some ⟨(.type "function"),none,.func (fnOf "_law_words" "_law_words" (C5 (C7 p 50)) (C4 (C7 p 50)) (B6 (C7 p 50)) .none .none .none (.str "law_wordswap_k42_outcomes" 887) none (.ref 589) .none),#[]⟩,some ⟨(.type "function"),none,.func (fnOf "__init__" "Free.__init__" (C5 (B9 (C7 p 30) 0)) (C4 (B9 (C7 p 30) 0)) (B6 (B9 (C7 p 30) 0)) .none .none .none (.str "wordswap.hands" 654) none (.ref 408) .none),#[]⟩,some ⟨(.type "function"),none,.func (fnOf "__init__" "Ledger.__init__" (C5 (B9 (C7 p 27) 0)) (C4 (B9 (C7 p 27) 0)) (B6 (B9 (C7 p 27) 0)) (.ref 259) .none .none (.str "wordswap.ledgers" 473) none (.ref 265) .none),#[]⟩,some ⟨(.type "tuple"),none,.seq #[.none] 0,#[]⟩,some ⟨(.type "function"),none,.func (fnOf "move" "Ledger.move" (C5 (B9 (C7 p 27) 2)) (C4 (B9 (C7 p 27) 2)) (B6 (B9 (C7 p 27) 2)) .none .none .none (.str "wordswap.ledgers" 473) none (.ref 279) .none),#[]⟩,some ⟨(.type "function"),none,.func (fnOf "turn" "Ledger.turn" (C5 (B9 (C7 p 27) 1)) (C4 (B9 (C7 p 27) 1)) (B6 (B9 (C7 p 27) 1)) .none .none .none (.str "wordswap.ledgers" 473) none (.ref 272) .none),#[]⟩,some ⟨(.type "function"),none,.func (fnOf "deeds" "Free.deeds" (C5 (B9 (C7 p 30) 1)) (C4 (B9 (C7 p 30) 1)) (B6 (B9 (C7 p 30) 1)) .none .none .none (.str "wordswap.hands" 654) none (.ref 413) .none),#[]⟩,some ⟨(.type "function"),none,.func (fnOf "asked_deeds" "asked_deeds" (C5 (C7 p 33)) (C4 (C7 p 33)) (B6 (C7 p 33)) .none .none .none (.str "wordswap.runs" 715) none (.ref 430) .none),#[]⟩,some ⟨(.type "function"),none,.func (fnOf "is_whole" "is_whole" (C5 (C7 p 13)) (C4 (C7 p 13)) (B6 (C7 p 13)) .none .none .none (.str "wordswap.webs" 335) none (.ref 131) .none),#[]⟩,some ⟨(.type "function"),none,.func (fnOf "is_hand" "is_hand" (C5 (C7 p 14)) (C4 (C7 p 14)) (B6 (C7 p 14)) .none .none .none (.str "wordswap.webs" 335) none (.ref 138) .none),#[]⟩,some ⟨(.type "function"),none,.func (fnOf "is_passing" "is_passing" (C5 (C7 p 16)) (C4 (C7 p 16)) (B6 (C7 p 16)) .none .none .none (.str "wordswap.webs" 335) none (.ref 152) .none),#[]⟩,some ⟨(.type "function"),none,.func (fnOf "is_box" "is_box" (C5 (C7 p 24)) (C4 (C7 p 24)) (B6 (C7 p 24)) .none .none .none (.str "wordswap.ledgers" 473) none (.ref 238) .none),#[]⟩,some ⟨(.type "function"),none,.func (fnOf "is_chain" "is_chain" (C5 (C7 p 20)) (C4 (C7 p 20)) (B6 (C7 p 20)) .none .none .none (.str "wordswap.chains" 465) none (.ref 231) .none),#[]⟩,some ⟨(.type "function"),none,.func (fnOf "is_chain_of" "is_chain_of" (C5 (C7 p 25)) (C4 (C7 p 25)) (B6 (C7 p 25)) .none .none .none (.str "wordswap.ledgers" 473) none (.ref 243) .none),#[]⟩,some ⟨(.type "function"),none,.func (fnOf "is_deed" "is_deed" (C5 (C7 p 26)) (C4 (C7 p 26)) (B6 (C7 p 26)) .none .none .none (.str "wordswap.ledgers" 473) none (.ref 250) .none),#[]⟩,some ⟨(.type "function"),none,.func (fnOf "is_own" "is_own" (C5 (C7 p 32)) (C4 (C7 p 32)) (B6 (C7 p 32)) .none .none .none (.str "wordswap.runs" 715) none (.ref 425) .none),#[]⟩,some ⟨(.type "function"),none,.func (fnOf "take_lay" "Ledger.take_lay" (C5 (B9 (C7 p 27) 4)) (C4 (B9 (C7 p 27) 4)) (B6 (B9 (C7 p 27) 4)) .none .none .none (.str "wordswap.ledgers" 473) none (.ref 293) .none),#[]⟩,some ⟨(.type "function"),none,.func (fnOf "is_laid_ahead" "Ledger.is_laid_ahead" (C5 (B9 (C7 p 27) 7)) (C4 (B9 (C7 p 27) 7)) (B6 (B9 (C7 p 27) 7)) .none .none .none (.str "wordswap.ledgers" 473) none (.ref 314) .none),#[]⟩,some ⟨(.type "function"),none,.func (fnOf "limit" "Plan.limit" (C5 (B9 (C7 p 41) 1)) (C4 (B9 (C7 p 41) 1)) (B6 (B9 (C7 p 41) 1)) .none .none .none (.str "wordswap.plans" 806) none (.ref 522) .none),#[]⟩,some ⟨(.type "function"),none,.func (fnOf "is_late" "Ledger.is_late" (C5 (B9 (C7 p 27) 8)) (C4 (B9 (C7 p 27) 8)) (B6 (B9 (C7 p 27) 8)) .none .none .none (.str "wordswap.ledgers" 473) none (.ref 321) .none),#[]⟩,some ⟨(.type "function"),none,.func (fnOf "is_said_ahead" "Ledger.is_said_ahead" (C5 (B9 (C7 p 27) 10)) (C4 (B9 (C7 p 27) 10)) (B6 (B9 (C7 p 27) 10)) .none .none .none (.str "wordswap.ledgers" 473) none (.ref 335) .none),#[]⟩,some ⟨(.type "function"),none,.func (fnOf "is_sayable" "Ledger.is_sayable" (C5 (B9 (C7 p 27) 9)) (C4 (B9 (C7 p 27) 9)) (B6 (B9 (C7 p 27) 9)) .none .none .none (.str "wordswap.ledgers" 473) none (.ref 328) .none),#[]⟩,some ⟨(.type "function"),none,.func (fnOf "take_say" "Ledger.take_say" (C5 (B9 (C7 p 27) 5)) (C4 (B9 (C7 p 27) 5)) (B6 (B9 (C7 p 27) 5)) .none .none .none (.str "wordswap.ledgers" 473) none (.ref 300) .none),#[]⟩,some ⟨(.type "function"),none,.func (fnOf "take" "Ledger.take" (C5 (B9 (C7 p 27) 3)) (C4 (B9 (C7 p 27) 3)) (B6 (B9 (C7 p 27) 3)) .none .none .none (.str "wordswap.ledgers" 473) none (.ref 286) .none),#[]⟩,some ⟨(.type "function"),none,.func (fnOf "take_where_let" "take_where_let" (C5 (C7 p 34)) (C4 (C7 p 34)) (B6 (C7 p 34)) .none .none .none (.str "wordswap.runs" 715) none (.ref 437) .none),#[]⟩,some ⟨(.type "function"),none,.func (fnOf "do_turn" "do_turn" (C5 (C7 p 35)) (C4 (C7 p 35)) (B6 (C7 p 35)) .none .none .none (.str "wordswap.runs" 715) none (.ref 444) .none),#[]⟩,some ⟨(.type "function"),none,.func (fnOf "said" "Ledger.said" (C5 (B9 (C7 p 27) 14)) (C4 (B9 (C7 p 27) 14)) (B6 (B9 (C7 p 27) 14)) .none .none .none (.str "wordswap.ledgers" 473) none (.ref 359) .none),#[]⟩,some ⟨(.type "function"),none,.func (fnOf "has_all_words" "Ledger.has_all_words" (C5 (B9 (C7 p 27) 11)) (C4 (B9 (C7 p 27) 11)) (B6 (B9 (C7 p 27) 11)) .none .none .none (.str "wordswap.ledgers" 473) none (.ref 340) .none),#[]⟩,some ⟨(.type "function"),none,.func (fnOf "laid" "Ledger.laid" (C5 (B9 (C7 p 27) 12)) (C4 (B9 (C7 p 27) 12)) (B6 (B9 (C7 p 27) 12)) .none .none .none (.str "wordswap.ledgers" 473) none (.ref 347) .none),#[]⟩,some ⟨(.type "function"),none,.func (fnOf "opened" "Ledger.opened" (C5 (B9 (C7 p 27) 13)) (C4 (B9 (C7 p 27) 13)) (B6 (B9 (C7 p 27) 13)) .none .none .none (.str "wordswap.ledgers" 473) none (.ref 352) .none),#[]⟩,some ⟨(.type "function"),none,.func (fnOf "__init__" "Run.__init__" (C5 (B9 (C7 p 36) 0)) (C4 (B9 (C7 p 36) 0)) (B6 (B9 (C7 p 36) 0)) .none .none .none (.str "wordswap.runs" 715) none (.ref 458) .none),#[]⟩,some ⟨(.type "function"),none,.func (fnOf "is_rising" "is_rising" (C5 (C7 p 38)) (C4 (C7 p 38)) (B6 (C7 p 38)) .none .none .none (.str "wordswap.plans" 806) none (.ref 489) .none),#[]⟩,some ⟨(.type "function"),none,.func (fnOf "are_leaders" "are_leaders" (C5 (C7 p 39)) (C4 (C7 p 39)) (B6 (C7 p 39)) .none .none .none (.str "wordswap.plans" 806) none (.ref 494) .none),#[]⟩,some ⟨(.type "function"),none,.func (fnOf "is_limit" "is_limit" (C5 (C7 p 40)) (C4 (C7 p 40)) (B6 (C7 p 40)) .none .none .none (.str "wordswap.plans" 806) none (.ref 501) .none),#[]⟩,some ⟨(.type "function"),none,.func (fnOf "__init__" "Plan.__init__" (C5 (B9 (C7 p 41) 0)) (C4 (B9 (C7 p 41) 0)) (B6 (B9 (C7 p 41) 0)) .none .none .none (.str "wordswap.plans" 806) none (.ref 515) .none),#[]⟩,some ⟨(.type "function"),none,.func (fnOf "is_number_of_hands" "is_number_of_hands" (C5 (C7 p 15)) (C4 (C7 p 15)) (B6 (C7 p 15)) .none .none .none (.str "wordswap.webs" 335) none (.ref 145) .none),#[]⟩,some ⟨(.type "function"),none,.func (fnOf "first_wrong_passing" "first_wrong_passing" (C5 (C7 p 17)) (C4 (C7 p 17)) (B6 (C7 p 17)) .none .none .none (.str "wordswap.webs" 335) none (.ref 159) .none),#[]⟩,some ⟨(.type "function"),none,.func (fnOf "__init__" "Web.__init__" (C5 (B9 (C7 p 18) 0)) (C4 (B9 (C7 p 18) 0)) (B6 (B9 (C7 p 18) 0)) .none .none .none (.str "wordswap.webs" 335) none (.ref 173) .none),#[]⟩,some ⟨(.type "function"),none,.func (fnOf "_law_alike" "_law_alike" (C5 (C7 p 44)) (C4 (C7 p 44)) (B6 (C7 p 44)) .none .none .none (.str "law_wordswap_k42_outcomes" 887) none (.ref 555) .none),#[]⟩,some ⟨(.type "function"),none,.func (fnOf "opened" "Run.opened" (C5 (B9 (C7 p 36) 1)) (C4 (B9 (C7 p 36) 1)) (B6 (B9 (C7 p 36) 1)) .none .none .none (.str "wordswap.runs" 715) none (.ref 465) .none),#[]⟩,some ⟨(.type "function"),none,.func (fnOf "_law_outcome" "_law_outcome" (C5 (C7 p 48)) (C4 (C7 p 48)) (B6 (C7 p 48)) .none .none .none (.str "law_wordswap_k42_outcomes" 887) none (.ref 577) .none),#[]⟩,some ⟨(.type "function"),none,.func (fnOf "takers_of" "Web.takers_of" (C5 (B9 (C7 p 18) 2)) (C4 (B9 (C7 p 18) 2)) (B6 (B9 (C7 p 18) 2)) .none .none .none (.str "wordswap.webs" 335) none (.ref 183) .none),#[]⟩,some ⟨(.type "function"),none,.func (fnOf "givers_of" "Web.givers_of" (C5 (B9 (C7 p 18) 1)) (C4 (B9 (C7 p 18) 1)) (B6 (B9 (C7 p 18) 1)) .none .none .none (.str "wordswap.webs" 335) none (.ref 178) .none),#[]⟩,some ⟨(.type "function"),none,.func (fnOf "outcome" "Run.outcome" (C5 (B9 (C7 p 36) 3)) (C4 (B9 (C7 p 36) 3)) (B6 (B9 (C7 p 36) 3)) .none .none .none (.str "wordswap.runs" 715) none (.ref 477) .none),#[]⟩,some ⟨(.type "function"),none,.func (fnOf "law" "law" (C5 (C7 p 51)) (C4 (C7 p 51)) (B6 (C7 p 51)) .none .none .none (.str "law_wordswap_k42_outcomes" 887) none (.ref 594) .none),#[]⟩,some (excClassObj "SwapError" "SwapError" 38 37 [(.type "ValueError")] [(.type "ValueError"),(.type "Exception"),(.type "BaseException"),(.type "object")] true [] [(.ref 51),(.ref 63),(.ref 75),(.ref 87),(.ref 99),(.ref 111),(.ref 123)] false none none (some (.ref 22)) none (some (.str "SwapError" 196)) (some (.str "SwapError" 204)) (some (.bool true)) "ValueError.__new__"),some (excClassObj "NoWeb" "NoWeb" 51 50 [(.ref 38)] [(.ref 38),(.type "ValueError"),(.type "Exception"),(.type "BaseException"),(.type "object")] true [] [] false none none (some (.ref 42)) none (some (.str "NoWeb" 223)) (some (.str "NoWeb" 231)) (some (.bool true)) "ValueError.__new__"),some (excClassObj "NoPlan" "NoPlan" 63 62 [(.ref 38)] [(.ref 38),(.type "ValueError"),(.type "Exception"),(.type "BaseException"),(.type "object")] true [] [] false none none (some (.ref 54)) none (some (.str "NoPlan" 239)) (some (.str "NoPlan" 247)) (some (.bool true)) "ValueError.__new__"),some (excClassObj "NoDeed" "NoDeed" 75 74 [(.ref 38)] [(.ref 38),(.type "ValueError"),(.type "Exception"),(.type "BaseException"),(.type "object")] true [] [] false none none (some (.ref 66)) none (some (.str "NoDeed" 255)) (some (.str "NoDeed" 263)) (some (.bool true)) "ValueError.__new__"),some (excClassObj "Laid" "Laid" 87 86 [(.ref 38)] [(.ref 38),(.type "ValueError"),(.type "Exception"),(.type "BaseException"),(.type "object")] true [] [] false none none (some (.ref 78)) none (some (.str "Laid" 271)) (some (.str "Laid" 279)) (some (.bool true)) "ValueError.__new__"),some (excClassObj "NotLaid" "NotLaid" 99 98 [(.ref 38)] [(.ref 38),(.type "ValueError"),(.type "Exception"),(.type "BaseException"),(.type "object")] true [] [] false none none (some (.ref 90)) none (some (.str "NotLaid" 287)) (some (.str "NotLaid" 295)) (some (.bool true)) "ValueError.__new__"),some (excClassObj "Late" "Late" 111 110 [(.ref 38)] [(.ref 38),(.type "ValueError"),(.type "Exception"),(.type "BaseException"),(.type "object")] true [] [] false none none (some (.ref 102)) none (some (.str "Late" 303)) (some (.str "Late" 311)) (some (.bool true)) "ValueError.__new__"),some (excClassObj "Unknown" "Unknown" 123 122 [(.ref 38)] [(.ref 38),(.type "ValueError"),(.type "Exception"),(.type "BaseException"),(.type "object")] true [] [] false none none (some (.ref 114)) none (some (.str "Unknown" 319)) (some (.str "Unknown" 327)) (some (.bool true)) "ValueError.__new__")]
set_option maxRecDepth 100000 in
set_option maxHeartbeats 0 in
theorem Hf:∀(w:IW)(o:Qy),(nN (PySem.W.Fast.tw6613529449190102663 11 (some (.ref 6))) (PySem.W.Fast.tw10156331382660048174 (PySem.W.Fast.tw11892475500146522536 PySem.W.Fast.tw14364793385576792824) PySem.Challenge.pw_wordswap_k42_outcomes w) 9810 (qr w o) (topStub PySem.Challenge.pw_wordswap_k42_outcomes)).map (λS=>(lk PySem.W.Fast.tw4187177175401517315 PySem.Challenge.pw_wordswap_k42_outcomes (view PySem.Challenge.pw_wordswap_k42_outcomes mL) rV (xt PySem.Challenge.pw_wordswap_k42_outcomes) w S.abs,(bs (lC S)).all id,os (lC S)))=some ((true,openGood (view PySem.Challenge.pw_wordswap_k42_outcomes mL) rV),true,ov PySem.Challenge.pw_wordswap_k42_outcomes):=λw o=>by kernel_rfl
end
end Ws
noncomputable section
set_option compiler.extract_closed false
set_option Elab.async false
set_option linter.all false
set_option maxRecDepth 100000
namespace L2
open PySem PySem.Spec PyProof.Rows
abbrev Key:=Sum Int Str
noncomputable def kf:Key->HD->Bool
 | .inl k,v=>Qh k v
 | .inr x,v=>HD.isStrOf x v
noncomputable def rW(w:IW):Key->Int
 | .inl k=>hashInt k
 | .inr x=>hashStr w x
theorem keyIs_shape:∀{k:Key}{v:HD},kf k v=true->(∃i t,k=Jq i/\v=Kz i t)\/(∃x t,k=Pr x/\v=PJ x t)
 | .inl i,v,h=>by
   obtain⟨t,e⟩:=HD.isInt_shape (k:=i) (v:=v) h;exact .inl ⟨i,t,rfl,e⟩
 | .inr x,v,h=>by
   obtain⟨t,e⟩:=HD.isStrOf_shape (x:=x) (v:=v) h;exact .inr ⟨x,t,rfl,e⟩
theorem xq(i:Int)(t:Tok):kf (.inl i) (.int i t)=true:=by simp[kf,Qh]
theorem xu(x:Str)(t:Tok):kf (.inr x) (.str x t)=true:=by simp[kf,HD.isStrOf]
theorem xw(a b:Int):decide ((Jq a:Key)=Jq b)=(a == b):=by
 by_cases e:a=b
 ·subst e;simp
 ·have h:¬(Jq a:Key)=Jq b:=λq=>e (Ps q);rw[decide_eq_false h];exact(beq_eq_false_iff_ne.mpr e).symm
theorem xx(a b:Str):decide ((Pr a:Key)=Pr b)=decide (a=b):=by
 by_cases e:a=b
 ·subst e;simp
 ·have h:¬(Pr a:Key)=Pr b:=λq=>e (Pr.inj q);rw[decide_eq_false h,decide_eq_false e]
theorem xy(a:Int)(b:Str):decide ((Jq a:Key)=Pr b)=false:=decide_eq_false (λq=>nomatch q)
theorem xz(a:Str)(b:Int):decide ((Pr a:Key)=Jq b)=false:=decide_eq_false (λq=>nomatch q)
noncomputable def K1(prog:Ib)(w:IW):PySem.KeyKind prog w Key where
 is:=kf
 hash:=rW w
 inj:=λv a b ha hb=>by
  rcases keyIs_shape ha with⟨i,t,rfl,rfl⟩ | ⟨x,t,rfl,rfl⟩
  ·rcases keyIs_shape hb with⟨j,u,rfl,e⟩ | ⟨y,u,rfl,e⟩
   ·injection e with e1 _;rw[e1]
   ·exact nomatch e
  ·rcases keyIs_shape hb with⟨j,u,rfl,e⟩ | ⟨y,u,rfl,e⟩
   ·exact nomatch e
   ·injection e with e1 _;rw[e1]
 byValue:=λk v h=>by
  rcases keyIs_shape h with⟨i,t,rfl,rfl⟩ | ⟨x,t,rfl,rfl⟩<;>rfl
 pyHash:=λhv h=>by
  rcases keyIs_shape hv with⟨i,t,rfl,rfl⟩ | ⟨x,t,rfl,rfl⟩
  ·exact wpAny_pyHash_int h
  ·exact wpAny_pyHash_str h
 eqBool:=λhu hv h=>by
  rcases keyIs_shape hu with⟨i,t,rfl,rfl⟩ | ⟨x,t,rfl,rfl⟩
  ·rcases keyIs_shape hv with⟨j,u,rfl,rfl⟩ | ⟨y,u,rfl,rfl⟩
   ·rw[xw]at h;exact wpAny_eqBool_int h
   ·rw[xy]at h;exact JA.int_str i t y u _ _ _ _ h
  ·rcases keyIs_shape hv with⟨j,u,rfl,rfl⟩ | ⟨y,u,rfl,rfl⟩
   ·rw[xz]at h;exact JA.str_int x t j u _ _ _ _ h
   ·rw[xx]at h;exact wpAny_eqBool_str h
 «strs»:=λk x t v h=>by
  rcases keyIs_shape h with⟨i,u,rfl,e⟩ | ⟨y,u,rfl,e⟩
  ·exact nomatch e
  ·injection e with e1 _;subst e1;cases v<;>rfl
theorem xA(prog:Ib)(w:IW)(i:Int)(t:Tok):(K1 prog w).is (.inl i) (.int i t)=true:=xq i t
theorem xB(prog:Ib)(w:IW)(x:Str)(t:Tok):(K1 prog w).is (.inr x) (.str x t)=true:=xu x t
inductive V where
 | non | bl (b:Bool) | int (i:Int) | str (x:Str) | byt (b:Array UInt8) | flt (b:UInt64) | ref (a:Addr) | ty (n:String)
 deriving DecidableEq
noncomputable def RelV:V->HD->Prop
 | .non,u=>u=Iu
 | .bl b,u=>u=Nd b
 | .int i,u=>∃t,u=Kz i t
 | .str x,u=>∃t,u=PJ x t
 | .byt b,u=>∃t,u=HD.bytes b t
 | .flt b,u=>∃t,u=Qi b t
 | .ref a,u=>u=HW a
 | .ty n,u=>u=HD.type n
abbrev aE:List V->List HD->Prop:=Paired RelV
theorem aE.length{xs:List V}{us:List HD}(r:aE xs us):xs.length=us.length:=Paired.length r
theorem aE.get:∀{xs:List V}{us:List HD}{i:Nat}{x:V},aE xs us->xs[i]?=some x->∃u,us[i]?=some u/\RelV x u
 | _,_,_,_,.nil,e=>by simp at e
 | _,_,0,_,.cons r _,e=>by simp at e;subst e;exact⟨_,rfl,r⟩
 | _,_,i+1,x,.cons _ t,e=>by
   obtain⟨u,a,b⟩:=aE.get (i:=i) (x:=x) t (by simpa using e);exact⟨u,by simpa using a,b⟩
theorem aE.append:∀{xs a:List V}{us ws:List HD},aE xs us->aE a ws->aE (xs++a) (us++ws)
 | _,_,_,_,.nil,s=>s
 | _,_,_,_,.cons r t,s=>.cons r (aE.append t s)
theorem aE.take:∀{xs:List V}{us:List HD}(n:Nat),aE xs us->aE (xs.take n) (us.take n)
 | _,_,0,_=>.nil
 | _,_,_+1,.nil=>.nil
 | _,_,n+1,.cons r t=>.cons r (aE.take n t)
theorem aE.drop:∀{xs:List V}{us:List HD}(n:Nat),aE xs us->aE (xs.drop n) (us.drop n)
 | _,_,0,r=>r
 | _,_,_+1,.nil=>.nil
 | _,_,n+1,.cons _ t=>aE.drop n t
noncomputable def bC:Option V->Option HD->Prop
 | some v,some u=>RelV v u
 | none,none=>True
 | _,_=>False
noncomputable def KV{a:Type}:List (a×V)->List (a×HD)->Prop:=Paired λ(p:a×V) (q:a×HD)=>p.1=q.1/\RelV p.2 q.2
noncomputable def kV:Key->V
 | .inl i=>.int i
 | .inr x=>.str x
inductive HO where
 | lst (xs:List V)
 | tup (xs:List V)
 | dK (kvs:List (Key×V)) | dT (kvs:List (List Key×V))
 | set (S:Int->Bool) (n:Nat)
 | ins (C dx:Addr) (fs:List (Str×V))
 | own (x:Addr)
 | xd (fs:List (Str×V))
 | met (f x:Addr)
 | rng (lo hi:Int)
 | frz (o:Obj) (u:HO)
 | tbl (ps:Array HD)
 | ext (φ:Heap->Prop)
abbrev Hp:=Addr->Option HO
noncomputable def aF(H:Hp)(a:Addr)(o:HO):Hp:=λb=>if b=a then some o else H b
theorem C8{H:Hp}{a:Addr}{o:HO}:aF H a o a=some o:=by unfold aF;rw[if_pos rfl]
theorem D3{H:Hp}{a b:Addr}{o:HO}(h:b≠a):aF H a o b=H b:=by unfold aF;rw[if_neg h]
theorem xC{H:Hp}{a:Addr}{o u:HO}:aF (aF H a o) a u=aF H a u:=by
 funext b;unfold aF;split<;>rfl
theorem rX{H:Hp}{a b:Addr}{o u:HO}(h:H a=some o)(h':H b=some u)(d:o≠u):a≠b:=by
 intro e;subst e;rw[h]at h';exact d (Iv h')
theorem I9{H:Hp}{a b:Addr}{o:HO}(h:H a=some o)(h':H b=none):a≠b:=by
 intro e;subst e;rw[h]at h';cases h'
section
variable(P:Ib)(w:IW)
noncomputable def aO(H:Hp)(h:Heap)(a:Addr):HO->Prop
 | .lst d=>d.length<=sizeLine/\∃(b:List HD)(n:Nat),aE d b/\h.get? a=some { cls:=.type "list",data:=.seq b.toArray n }
 | .tup d=>d.length<=sizeLine/\∃b:List HD,aE d b/\QD h a b.toArray
 | .dK c=>c.length<=sizeLine/\(a == sysModules)=false/\∃l,KV c l/\h.DictOf (K1 P w) a l
 | .dT c=>c.length<=sizeLine/\(a == sysModules)=false/\∃d:List (List Key×Addr×HD),
  Paired (λ(p:List Key×V) (q:List Key×Addr×HD)=>p.1=q.1/\H q.2.1=some (.tup (p.1.map kV))/\RelV p.2 q.2.2) c d/\
  ∃o m y,h.get? a=some o/\o.ExactDict/\o.data=.dict m y/\m.toList=d.map (entryOfKey (tupleKind (K1 P w)))/\(d.map (·.1)).Nodup
 | .set S n=>h.SetOf (intKind P w) a S n
 | .ins C i fs=>H i=some (.own a)/\fs.length<=1000/\i≠a/\h.get? a=some (Kt C i)/\
  ∃g,h.Ns1 i g/\(∀f,bC (fs.lookup f) (g f))/\Nw g (fs.map (·.1))
 | .own _=>∃o,h.get? a=some o
 | .xd fs=>∃g,h.Ns1 a g/\∀f,bC (fs.lookup f) (g f)
 | .rng lo z=>∃t u v,h.get? a=some { cls:=.type "range",data:=.fields #[.int lo t,.int z u,.int 1 v] }
 | .frz o u=>h.get? a=some o/\aO H h a u
 | .tbl A=>h.get? a=some { cls:=.none,data:=.fields A }
 | .met f x=>h.get? a=some (NK (.ref f) (.ref x))
 | .ext j=>j h/\(∃o,h.get? a=some o)/\∀r s:Heap,j r->(∀o,r.get? a=some o->s.get? a=some o)->j s
def bK(H:Hp)(h:Heap):Prop:=∀a o,H a=some o->aO P w H h a o
end
section
variable{P:Ib}{w:IW}{H H':Hp}{h h':Heap}{a:Addr}{o:HO}
theorem aO.lt(x:aO P w H h a o):a<h.objs.size:=by
 cases o with
 | lst c=>obtain⟨_,_,_,_,e⟩:=x;exact HJ e
 | tup c=>obtain⟨_,_,_,p⟩:=x;exact p.lt
 | dK b=>obtain⟨_,_,_,_,o,_,_,e,_⟩:=x;exact HJ e
 | dT b=>obtain⟨_,_,_,_,o,_,_,e,_⟩:=x;exact HJ e
 | set S n=>obtain⟨o,_,_,_,e,_⟩:=x;exact HJ e
 | ins C d fs=>obtain⟨_,_,_,e,_⟩:=x;exact HJ e
 | own y=>obtain⟨_,e⟩:=x;exact HJ e
 | xd fs=>obtain⟨_,⟨_,_,_,e,_⟩,_⟩:=x;exact HJ e
 | rng lo g=>obtain⟨_,_,_,e⟩:=x;exact HJ e
 | frz i u=>obtain⟨e,_⟩:=x;exact HJ e
 | tbl j=>exact HJ (show h.get? a=some _ from x)
 | met f y=>exact HJ (show h.get? a=some _ from x)
 | ext l=>obtain⟨_,⟨_,e⟩,_⟩:=x;exact HJ e
theorem Paired.mapP{d e:Type}{F G:d->e->Prop}:∀{c:List d}{l₂:List e},Paired F c l₂->(∀a b,F a b->G a b)->Paired G c l₂
 | _,_,.nil,_=>.nil
 | _,_,.cons r t,f=>.cons (f _ _ r) (Paired.mapP t f)
theorem aO.stay(x:aO P w H h a o)(k:∀b u,(b=a\/H b=some (.own a))->h.get? b=some u->h'.get? b=some u)
 (G:∀b,H b=some (.own a)->H' b=some (.own a)) (I:∀b m,H b=some (.tup m)->H' b=some (.tup m)):aO P w H' h' a o:=by
 induction o with
 | lst m=>obtain⟨z,l,n,r,e⟩:=x;exact⟨z,l,n,r,k _ _ (.inl rfl) e⟩
 | tup m=>obtain⟨z,l,r,g,e,c⟩:=x;exact⟨z,l,r,g,k _ _ (.inl rfl) e,c⟩
 | dK A=>obtain⟨z,y,J,r,g,i,j,e,c⟩:=x;exact⟨z,y,J,r,g,i,j,k _ _ (.inl rfl) e,c⟩
 | dT A=>
   obtain⟨z,y,m,r,g,i,j,e,c⟩:=x;exact⟨z,y,m,Paired.mapP r λp q z=>⟨z.1,I _ _ z.2.1,z.2.2⟩,g,i,j,k _ _ (.inl rfl) e,c⟩
 | set S n=>obtain⟨g,i,j,t,e,c⟩:=x;exact⟨g,i,j,t,k _ _ (.inl rfl) e,c⟩
 | ins C N fs=>
   obtain⟨d,z,ne,e,B,⟨D,i,j,L,c⟩,r⟩:=x;exact⟨G _ d,z,ne,k _ _ (.inl rfl) e,B,⟨D,i,j,k _ _ (.inr d) L,c⟩,r⟩
 | own y=>obtain⟨g,e⟩:=x;exact⟨g,k _ _ (.inl rfl) e⟩
 | xd fs=>obtain⟨B,⟨D,i,j,e,c⟩,r⟩:=x;exact⟨B,⟨D,i,j,k _ _ (.inl rfl) e,c⟩,r⟩
 | rng lo O=>obtain⟨t,u,v,e⟩:=x;exact⟨t,u,v,k _ _ (.inl rfl) e⟩
 | frz g u ih=>obtain⟨e,q⟩:=x;exact⟨k _ _ (.inl rfl) e,ih q⟩
 | tbl E=>
   have e:h.get? a=some { cls:=.none,data:=.fields E }:=x;show h'.get? a=some { cls:=.none,data:=.fields E };exact k a _ (.inl rfl) e
 | met f y=>
   have e:h.get? a=some (NK (.ref f) (.ref y)):=x;show h'.get? a=some (NK (.ref f) (.ref y));exact k a _ (.inl rfl) e
 | ext Q=>obtain⟨p,⟨o,e⟩,st⟩:=x;exact⟨st _ _ p λo q=>k _ _ (.inl rfl) q,⟨o,k _ _ (.inl rfl) e⟩,st⟩
theorem bK.lt(x:bK P w H h)(e:H a=some o):a<h.objs.size:=(x a o e).lt
theorem bK.fresh(x:bK P w H h)(e:h.objs.size<=a):H a=none:=by
 cases q:H a with
 | none=>rfl
 | some u=>exact absurd (Ig (x.lt q) e) (JO _)
theorem bK.kept(x:bK P w H h)(k:∀b u,h.get? b=some u->h'.get? b=some u):bK P w H h':=λa o e=>
 (x a o e).stay (λb u _ q=>k b u q) (λ_ q=>q) λ_ _ q=>q
theorem bK.laid(x:bK P w H h)(k:∀b u,h.get? b=some u->h'.get? b=some u)(g:h.objs.size<=a)(new:aO P w (aF H a o) h' a o):bK P w (aF H a o) h':=λb u e=>by
 have d:=x.fresh g;by_cases f:b=a
 ·subst f;rw[C8]at e;cases e;exact new
 ·rw[D3 f]at e;exact(x b u e).stay (λc v _ q=>k c v q) (λc q=>by rw[D3 (I9 q d)];exact q) λc i q=>by rw[D3 (I9 q d)];exact q
end
def Rd(H:Hp)(a:Addr)(u:HO):Prop:=H a=some u\/∃o,H a=some (.frz o u)
theorem Rd.ok{P:Ib}{w:IW}{H:Hp}{h:Heap}{a:Addr}{u:HO}(r:Rd H a u)(x:bK P w H h):aO P w H h a u:=by
 rcases r with r | ⟨o,r⟩
 ·exact x a u r
 ·obtain⟨_,q⟩:=x a _ r;exact q
noncomputable def kK:Option HO->Prop
 | some (.lst _)=>True
 | some (.dK _)=>True
 | some (.dT _)=>True
 | some (.set _ _)=>True
 | some (.ins _ _ _)=>True
 | some (.ext _)=>True
 | _=>False
section
variable{P:Ib}{w:IW}{H:Hp}{h h':Heap}{x e:Addr}{o':HO}
theorem bK.write(ok:bK P w H h)(g:kK (H x))(he:e=x\/H e=some (.own x))(k:∀b u,b≠e->h.get? b=some u->h'.get? b=some u)(m:∃u,h'.get? e=some u)
 (new:aO P w (aF H x o') h' x o'):bK P w (aF H x o') h':=λb u q=>by
 have d:∀c y,H c=some (.own y)->c≠x:=λc y r z=>by subst z;rw[r]at g;exact g
 have f:∀c i,H c=some (.tup i)->c≠x:=λc i r z=>by subst z;rw[r]at g;exact g
 by_cases j:b=x
 ·subst j;rw[C8]at q;cases q;exact new
 ·rw[D3 j]at q;by_cases a:b=e
  ·have n:H b=some (.own x):=by
    rcases he with z | z
    ·exact absurd (a.trans z) j
    ·rw[a];exact z
   rw[q]at n;cases n;obtain⟨v,o⟩:=m;exact⟨v,by rw[a];exact o⟩
  ·refine(ok b u q).stay (λc v l r=>k c v ?_ r) (λc r=>by rw[D3 (d c b r)];exact r) λc i r=>by rw[D3 (f c i r)];exact r
   rcases l with rfl | l
   ·exact a
   ·rintro rfl;rcases he with z | z
    ·exact d c b l z
    ·rw[l]at z;cases z;exact j rfl
end
structure Un(fs ex:List Addr)(H H':Hp)(h h':Heap):Prop where
 keep:∀b o,h.get? b=some o->H b=none->b∉fs->b∉ex->h'.get? b=some o
 slot:∀b o,h.get? b=some o->H b=none->b∈fs->b∉ex->∃sl,h'.get? b=some { o with slots:=sl }
 free:∀b o,h.get? b=some o->H b=none->b∉ex->H' b=none
 there:∀b o,h.get? b=some o->b∉ex->∃o',h'.get? b=some o'
 tups:∀b xs,H b=some (.tup xs)->H' b=some (.tup xs)
 frzs:∀b o u,H b=some (.frz o u)->H' b=some (.frz o u)
 tbls:∀b ps,H b=some (.tbl ps)->∃more,H' b=some (.tbl (ps++more))
section
variable{fs fs' ex ex':List Addr}{H H1 H2:Hp}{h h1 h2 h':Heap}{a x e:Addr}{o:HO}
theorem Un.any(u:Un fs ex H H1 h h1){b:Addr}{ob:Obj}(q:h.get? b=some ob)(n:H b=none)(c:b∉ex):∃f,h1.get? b=some { ob with slots:=f }:=by
 by_cases d:b∈fs
 ·exact u.slot b ob q n d c
 ·exact⟨ob.slots,u.keep b ob q n d c⟩
theorem Un.trans(a:Un fs ex H H1 h h1)(b:Un fs ex H1 H2 h1 h2):Un fs ex H H2 h h2 where
 keep:=λc ob q n hc hx=>b.keep c ob (a.keep c ob q n hc hx) (a.free c ob q n hx) hc hx
 slot:=λc ob q n hc hx=>by
  obtain⟨sl,e1⟩:=a.slot c ob q n hc hx;obtain⟨sl',e2⟩:=b.slot c _ e1 (a.free c ob q n hx) hc hx;exact⟨sl',e2⟩
 free:=λc ob q n hx=>by
  obtain⟨o',e1⟩:=a.there c ob q hx;exact b.free c o' e1 (a.free c ob q n hx) hx
 there:=λc ob q hx=>by
  obtain⟨o',e1⟩:=a.there c ob q hx;exact b.there c o' e1 hx
 tups:=λc xs q=>b.tups c xs (a.tups c xs q)
 frzs:=λc ob xs q=>b.frzs c ob xs (a.frzs c ob xs q)
 tbls:=λc ps q=>by
  obtain⟨m1,e1⟩:=a.tbls c ps q;obtain⟨m2,e2⟩:=b.tbls c _ e1;exact⟨m1++m2,by rw[e2,Nx]⟩
theorem Un.kept(k:∀b u,h.get? b=some u->h'.get? b=some u):Un fs ex H H h h':=
 ⟨λb c q _ _ _=>k b c q,λb c q _ _ _=>⟨c.slots,k b c q⟩,λ_ _ _ n _=>n,λb c q _=>⟨c,k b c q⟩,λ_ _ q=>q,λ_ _ _ q=>q,λ_ d q=>⟨#[],by rw[q];simp⟩⟩
theorem Un.refl:Un fs ex H H h h:=Un.kept λ_ _ q=>q
theorem Un.laid(k:∀b u,h.get? b=some u->h'.get? b=some u)(hp:h.objs.size<=a)(hn:H a=none):Un fs ex H (aF H a o) h h' where
 keep:=λb u q _ _ _=>k b u q
 slot:=λb u q _ _ _=>⟨u.slots,k b u q⟩
 free:=λb u q n _=>by rw[D3 (HS (Ig (HJ q) hp))];exact n
 there:=λb u q _=>⟨u,k b u q⟩
 tups:=λb xs q=>by rw[D3 (I9 q hn)];exact q
 frzs:=λb u xs q=>by rw[D3 (I9 q hn)];exact q
 tbls:=λb ps q=>⟨#[],by rw[D3 (I9 q hn),q];simp⟩
theorem Un.write(d:kK (H x))(he:e=x\/H e=some (.own x))(k:∀b u,b≠e->h.get? b=some u->h'.get? b=some u)(f:∃u,h'.get? e=some u):Un fs ex H (aF H x o) h h':=by
 have i:∀b,H b=none->b≠x:=λb n z=>by subst z;rw[n]at d;exact d
 have j:∀b,H b=none->b≠e:=λb n z=>by
  subst z;rcases he with r | r
  ·exact i b n r
  ·rw[n]at r;cases r
 have g:∀b u,H b=some u->¬kK (some u)->b≠x:=λb u q l z=>by subst z;rw[q]at d;exact l d
 refine⟨λb u q n _ _=>k b u (j b n) q,λb u q n _ _=>⟨u.slots,k b u (j b n) q⟩,λb u q n _=>by rw[D3 (i b n)];exact n,λb u q _=>?_,
  λb m q=>by rw[D3 (g b _ q λz=>z)];exact q,λb u m q=>by rw[D3 (g b _ q λz=>z)];exact q,λb p q=>⟨#[],by rw[D3 (g b _ q λz=>z),q];simp⟩⟩
 by_cases c:b=e
 ·subst c;exact f
 ·exact⟨u,k b u c q⟩
theorem Un.mono(u:Un fs ex H H1 h h1)(hs:∀b∈fs,b∈fs')(f:∀b∈ex,b∈ex'):Un fs' ex' H H1 h h1:=
 ⟨λb d q n g c=>u.keep b d q n (λz=>g (hs b z)) λz=>c (f b z),λ_ _ q n _ c=>u.any q n λz=>c (f _ z),λb d q n c=>u.free b d q n λz=>c (f b z),λb d q c=>u.there b d q λz=>c (f b z),u.tups,u.frzs,u.tbls⟩
end
noncomputable def mM(h:Heap)(H:Hp):List Addr:=(Iw h.objs.size).filter λa=>(H a).isSome
noncomputable def gY(h:Heap)(H:Hp):Heap:=PySem.W.hideAll h (mM h H)
theorem xD(h:Heap)(H:Hp):(gY h H).objs.size=h.objs.size:=PySem.W.hideAll_size _ _
theorem xE{h:Heap}{H:Hp}{b:Addr}{o:Obj}(e:h.get? b=some o)(n:H b=none):(gY h H).get? b=some o:=
 PySem.W.hideAll_get _ e λa=>by
  have q:(H b).isSome=true:=(IL.mp a).2;rw[n]at q;simp at q
theorem xG{h:Heap}{H:Hp}{b:Addr}{o:Obj}(e:(gY h H).get? b=some o):h.get? b=some o/\H b=none:=by
 have a:h.get? b=some o:=PySem.W.of_hideAll (mM h H) e;refine⟨a,?_⟩;cases q:H b with
 | none=>rfl
 | some x=>
   have c:b∈mM h H:=IL.mpr ⟨JD.mpr (HJ a),by simp[q]⟩;have z:(gY h H).get? b=none:=PySem.W.hideAll_none (mM h H) c;rw[z]at e;cases e
structure Mod(K:HE)(mg:Str->Option HD)(base:Heap):Prop where
 kin:K.In base
 glob:base.Ns mainGlobals mg
 blt:∃mb,base.Ns builtinsNs mb/\∀x:Str,x≠"__name__"->mb x=bootBuiltins x
 nolimit:base.NoLimit
structure Cx where
 prog:Ib
 w:IW
 K:HE
 mg:Str->Option HD
 base:Heap
 A:IN
 N:List Str
 s₀:HF
 H₀:Hp
 env:Env
 outer:List Env
 stack:List Env
 ex:List Addr
 fn:Str->Bool
 calm:Bool
 pn:List (Addr×Obj)
 xe:HD->HF->Prop
noncomputable def frs(l:List Env):List Addr:=l.filterMap (·.frame)
abbrev Cx.fs(X:Cx):List Addr:=frs X.outer
def kg(a:NW)(x:Str):Prop:=a.names.lookup x=some .local\/a.names.lookup x=some .cell\/a.names.lookup x=some .free
def Loc(a:NW)(x:Str):Prop:=a.names.lookup x=some .local\/a.names.lookup x=some .cell
def xH(a:Env)(h:Heap)(m:Str->Option HD)(x:Str)(u:HD):Prop:=
 (a.kindOf x=some .local/\m x=some u)\/((a.kindOf x=some .cell\/a.kindOf x=some .free)/\∃c,a.cells.lookup x=some c/\h.IsCell c (some u))
structure Cx.Ok(X:Cx):Prop where
 mod:Mod X.K X.mg X.base
 kind:X.env.scope.kind=.function
 glob:X.env.globals=mainGlobals
 blt:X.env.builtins=builtinsNs
 above:X.s₀.heap.objs.size<=X.env.locals
 inj:∀x y c,X.env.cells.lookup x=some c->X.env.cells.lookup y=some c->x=y
 has:∀x,(X.env.kindOf x=some .cell\/X.env.kindOf x=some .free)->∃c,X.env.cells.lookup x=some c
 cab:∀x c,X.fn x=true->X.env.cells.lookup x=some c->X.s₀.heap.objs.size<=c
 hd:X.calm=true->X.A.handled=none
 frames:X.A.frames=some X.stack
 stk:X.stack=X.outer\/(X.stack=X.env::X.outer/\X.env.frame=some X.env.locals)
 exf:∀b∈X.ex,b≠X.env.locals/\∀x c,X.env.cells.lookup x=some c->c≠b
 bs:∀b o,X.base.get? b=some o->X.s₀.heap.get? b=some o/\X.H₀ b=none
 bsz:X.base.objs.size<=X.s₀.heap.objs.size
 noex:∀b o,X.base.get? b=some o->b∉X.ex
 exfs:∀b∈X.ex,b∉X.fs
 funs:X.s₀.heap.FunFrames X.base X.outer
 frf:∀b∈X.fs,X.H₀ b=none
structure Inv(X:Cx)(pins:List (Addr×Obj))(σ:List (Option V))(H:Hp)(s:HF):Prop where
 ok:X.Ok
 os:s.os=X.s₀.os
 bare:NX s.gens
 base:Un X.fs X.ex X.H₀ H X.s₀.heap s.heap
 loc:∃m,s.heap.Ns X.env.locals m/\∀(i:Nat)(x:Str)(v:V),X.N[i]?=some x->σ[i]?=some (some v)->kg X.env.scope x->∃u,RelV v u/\xH X.env s.heap m x u
 cell:∀x c,X.env.cells.lookup x=some c->∃v,s.heap.IsCell c v
 free:H X.env.locals=none
 freeC:∀x c,X.env.cells.lookup x=some c->H c=none
 pin:∀p∈X.pn++pins,s.heap.get? p.1=some p.2/\H p.1=none/\p.1≠X.env.locals/\p.1∉X.fs/\∀v,p.2.data≠.cell v
 hok:bK X.prog X.w H s.heap
 len:σ.length=X.N.length
section
variable{X:Cx}{pins:List (Addr×Obj)}{σ:List (Option V)}{H H':Hp}{s:HF}{h':Heap}
theorem Cx.Ok.nofr(ok:X.Ok){b:Addr}{o:Obj}(e:X.base.get? b=some o):b∉X.fs:=λa=>by
 have:=(ok.funs.mem a).1;rw[e]at this;cases this
theorem Inv.bs(I:Inv X pins σ H s):∀b o,X.base.get? b=some o->s.heap.get? b=some o/\H b=none:=λb o e=>
 ⟨I.base.keep b o (I.ok.bs b o e).1 (I.ok.bs b o e).2 (I.ok.nofr e) (I.ok.noex b o e),I.base.free b o (I.ok.bs b o e).1 (I.ok.bs b o e).2 (I.ok.noex b o e)⟩
theorem Inv.bk(I:Inv X pins σ H s):∀b o,X.base.get? b=some o->s.heap.get? b=some o:=λb o e=>(I.bs b o e).1
theorem Inv.mod(I:Inv X pins σ H s):Mod X.K X.mg X.base:=I.ok.mod
theorem Inv.kIn(I:Inv X pins σ H s):X.K.In s.heap:=I.ok.mod.kin.keeps I.bk
theorem Inv.lt(I:Inv X pins σ H s):X.env.locals<s.heap.objs.size:=let⟨_,a,_⟩:=I.loc;a.lt
theorem Inv.sz(I:Inv X pins σ H s):X.s₀.heap.objs.size<=s.heap.objs.size:=Ih I.ok.above (MA I.lt)
theorem Inv.nofs(I:Inv X pins σ H s){a:Addr}(h:s.heap.objs.size<=a):a∉X.fs:=λb=>by
 obtain⟨_,o,c,_⟩:=I.ok.funs.mem b;exact absurd (Ig (HJ c) (Ih I.sz h)) (JO _)
theorem Inv.cne(I:Inv X pins σ H s):∀x c,X.env.cells.lookup x=some c->c≠X.env.locals:=λx c e z=>by
 obtain⟨v,o,d,f⟩:=I.cell x c e;obtain⟨m,⟨g,h,i,a,b,_⟩,_⟩:=I.loc;rw[z,a]at d;cases d;rw[b]at f;cases f
theorem Inv.funs(I:Inv X pins σ H s):s.heap.FunFrames X.base X.outer:=by
 have all:∀(l:List Env),(∀b∈frs l,b∈X.fs)->X.s₀.heap.FunFrames X.base l->s.heap.FunFrames X.base l:=by
  intro l;induction l with
  | nil=>intro _ _;trivial
  | cons g r ih=>
    intro f h;obtain⟨i,⟨L,o,a,j,m,n⟩,p⟩:=h;have c:L∈X.fs:=f L (by unfold frs;rw[JG,a];exact HM);obtain⟨q,e⟩:=I.base.slot L o m (I.ok.frf L c) c λz=>I.ok.exfs L z c;exact⟨i,⟨L,_,a,j,e,n⟩,ih (λb d=>f b (by unfold frs;rw[JG,a];exact HR _ d)) p⟩
 exact all X.outer (λ_ d=>d) I.ok.funs
theorem Inv.stack(I:Inv X pins σ H s):s.heap.FunFrames X.base X.stack:=by
 rcases I.ok.stk with e | ⟨e,a⟩
 ·rw[e];exact I.funs
 ·rw[e];obtain⟨m,b,_⟩:=I.loc;refine .cons (by rw[I.ok.kind];decide) a b ?_ I.funs;exact Heap.get?_none_of_le (Ih I.ok.bsz I.ok.above)
theorem Inv.stkSub(I:Inv X pins σ H s):∀b∈frs X.stack,b∈X.env.locals::X.fs:=λb a=>by
 rcases I.ok.stk with e | ⟨e,c⟩
 ·rw[e]at a;exact HR _ a
 ·rw[e]at a;unfold frs at a;rw[JG,c]at a;exact a
theorem Inv.stkFree(I:Inv X pins σ H s):∀b∈frs X.stack,H b=none:=λb a=>by
 rcases HK.mp (I.stkSub b a)with e | a
 ·rw[e];exact I.free
 ·obtain⟨_,o,c,_⟩:=I.ok.funs.mem a;exact I.base.free b o c (I.ok.frf b a) λz=>I.ok.exfs b z a
theorem Inv.step{g':Array Ny}{t':Nat}{d':Drawn}{ch:List Addr}(I:Inv X pins σ H s)
 (g:∀b∈ch,(b∈X.ex\/X.s₀.heap.objs.size<=b)/\b≠X.env.locals/\(∀x c,X.env.cells.lookup x=some c->c≠b)/\∀p∈X.pn++pins,p.1≠b)
 (keep:∀b o,b≠X.env.locals->b∉X.fs->b∉ch->s.heap.get? b=some o->H b=none->h'.get? b=some o)
 (slot:∀b o,b≠X.env.locals->b∈X.fs->b∉ch->s.heap.get? b=some o->H b=none->∃Y,h'.get? b=some { o with slots:=Y }) (f:∀b o,b∉ch->s.heap.get? b=some o->H b=none->H' b=none)
 (C:∀b o,b∉ch->s.heap.get? b=some o->∃G,h'.get? b=some G)
 (J:∀b B,H b=some (.tup B)->H' b=some (.tup B)) (L:∀b o u,H b=some (.frz o u)->H' b=some (.frz o u)) (N:∀b U,H b=some (.tbl U)->∃O,H' b=some (.tbl (U++O)))
 (ns:∀m,s.heap.Ns X.env.locals m->h'.Ns X.env.locals m) (Z:bK X.prog X.w H' h') (hg:NX g') :
 Inv X pins σ H' { s with heap:=h',gens:=g',drawn:=d',toks:=t' }:=by
 have Q:∀b o,X.s₀.heap.get? b=some o->b≠X.env.locals:=λb o e=>HS (Ig (HJ e) I.ok.above);have y:∀b o,X.s₀.heap.get? b=some o->b∉X.ex->b∉ch:=λb o e a D=>by
  rcases(g b D).1 with z | z
  ·exact a z
  ·exact absurd (Ig (HJ e) z) (JO _)
 have h:∀x c,X.env.cells.lookup x=some c->∀v,s.heap.IsCell c v->h'.IsCell c v:=λx c e v hq=>by
  obtain⟨o,E,hd⟩:=hq;have j:c∉ch:=λz=>(g c z).2.2.1 x c e rfl;by_cases hc:c∈X.fs
  ·obtain⟨Y,q⟩:=slot c o (I.cne x c e) hc j E (I.freeC x c e);exact⟨_,q,hd⟩
  ·exact⟨o,keep c o (I.cne x c e) hc j E (I.freeC x c e),hd⟩
 refine⟨I.ok,I.os,hg,⟨λb o e n D a=>?_,λb o e n D a=>?_,λb o e n a=>?_,λb o e a=>?_,λb B e=>J b B (I.base.tups b B e),λb o B e=>L b o B (I.base.frzs b o B e),λb U e=>?_⟩,?_,λx c e=>?_,?_,λx c e=>?_,λp hp=>?_,Z,I.len⟩
 ·exact keep b o (Q b o e) D (y b o e a) (I.base.keep b o e n D a) (I.base.free b o e n a)
 ·obtain⟨Y,A⟩:=I.base.slot b o e n D a;obtain⟨a1,T⟩:=slot b _ (Q b o e) D (y b o e a) A (I.base.free b o e n a);exact⟨a1,T⟩
 ·obtain⟨G,A⟩:=I.base.there b o e a;exact f b G (y b o e a) A (I.base.free b o e n a)
 ·obtain⟨G,A⟩:=I.base.there b o e a;exact C b G (y b o e a) A
 ·obtain⟨m1,A⟩:=I.base.tbls b U e;obtain⟨m2,T⟩:=N b _ A;exact⟨m1++m2,by rw[T,Nx]⟩
 ·obtain⟨m,hn,hl⟩:=I.loc;refine⟨m,ns m hn,λi x v A T e3=>?_⟩;obtain⟨u,r,l⟩:=hl i x v A T e3;refine⟨u,r,?_⟩;rcases l with l | ⟨k,c,e,z⟩
  ·exact .inl l
  ·exact .inr ⟨k,c,e,h x c e _ z⟩
 ·obtain⟨v,z⟩:=I.cell x c e;exact⟨v,h x c e v z⟩
 ·obtain⟨m,⟨o,_,_,E,_⟩,_⟩:=I.loc;exact f _ o (λz=>(g _ z).2.1 rfl) E I.free
 ·obtain⟨v,o,E,hd⟩:=I.cell x c e;exact f c o (λz=>(g c z).2.2.1 x c e rfl) E (I.freeC x c e)
 ·obtain⟨e,n,ne,nf,d⟩:=I.pin p hp;have j:p.1∉ch:=λz=>(g p.1 z).2.2.2 p hp rfl;exact⟨keep p.1 p.2 ne nf j e n,f p.1 p.2 j e n,ne,nf,d⟩
theorem Inv.un{t':Nat}(I:Inv X pins σ H s)(u:Un X.fs [] H H' s.heap h')(c:bK X.prog X.w H' h'):Inv X pins σ H' { s with heap:=h',toks:=t' }:=by
 obtain⟨m,⟨o,v,x,j,r⟩,_⟩:=id I.loc;obtain⟨y,l⟩:=u.any j I.free (by simp);exact I.step (g':=s.gens) (d':=s.drawn) (ch:=[]) (λ_ z=>nomatch z) (λb o _ d _ e n=>u.keep b o e n d (by simp)) (λb o _ d _ e n=>u.slot b o e n d (by simp)) (λb o _ e n=>u.free b o e n (by simp)) (λb o _ e=>u.there b o e (by simp)) u.tups u.frzs u.tbls (λA p=>by
  obtain⟨B,f,g,a,q⟩:=p;rw[j]at a;cases a;exact⟨_,f,g,l,q⟩) c I.bare
theorem Inv.call{g':Array Ny}{t':Nat}{d':Drawn}{ch:List Addr}(I:Inv X pins σ H s)(u:Un (frs X.stack) ch H H' s.heap h')(g:bK X.prog X.w H' h')(A:NX g')
 (d:∀b∈ch,(b∈X.ex\/X.s₀.heap.objs.size<=b)/\b≠X.env.locals/\(∀x c,X.env.cells.lookup x=some c->c≠b)/\∀p∈X.pn++pins,p.1≠b) :
 Inv X pins σ H' { s with heap:=h',gens:=g',drawn:=d',toks:=t' }:=by
 obtain⟨m,⟨o,E,G,y,r⟩,_⟩:=id I.loc;obtain⟨J,h⟩:=u.any y I.free λz=>(d _ z).2.1 rfl;exact I.step (ch:=ch) d (λb o h B a e n=>u.keep b o e n (λz=>(HK.mp (I.stkSub b z)).elim h B) a) (λb o _ _ a e n=>u.any e n a) (λb o a e n=>u.free b o e n a) (λb o a e=>u.there b o e a) u.tups u.frzs u.tbls (λL C=>by
  obtain⟨N,i,j,f,D⟩:=C;rw[y]at f;cases f;exact⟨_,i,j,h,D⟩) g A
theorem Inv.turned{t':Nat}{a:Addr}(I:Inv X pins σ H s)(k:∀b o,b≠a->s.heap.get? b=some o->h'.get? b=some o)(j:H a=none)(g:a≠X.env.locals)
 (l:a∈X.ex\/X.s₀.heap.objs.size<=a) (w:∀x c,X.env.cells.lookup x=some c->c≠a) (y:∀p∈X.pn++pins,p.1≠a):Inv X pins σ H { s with heap:=h',toks:=t' }:=by
 have f:∀b u,H b=some u->b≠a:=λb u e z=>by rw[z,j]at e;cases e
 refine I.step (g':=s.gens) (d':=s.drawn) (ch:=[a]) (λb A=>?_) (λb o _ _ d e _=>k b o (λz=>d (by simp[z])) e) (λb o _ _ d e _=>⟨o.slots,k b o (λz=>d (by simp[z])) e⟩) (λ_ _ _ _ n=>n)
  (λb o d e=>⟨o,k b o (λz=>d (by simp[z])) e⟩) (λ_ _ e=>e) (λ_ _ _ e=>e) (λb G e=>⟨#[],by rw[e];simp⟩) (λm B=>?_) (λb u e=>?_) I.bare
 ·have e:b=a:=by simpa using A
  subst e;exact⟨l,g,w,y⟩
 ·obtain⟨o,C,D,E,r⟩:=B;exact⟨o,C,D,k _ o (JX g) E,r⟩
 ·refine(I.hok b u e).stay (λc v d q=>k c v ?_ q) (λ_ q=>q) λ_ _ q=>q;rcases d with z | z
  ·rw[z];exact f b u e
  ·exact f c _ z
theorem Inv.tok(I:Inv X pins σ H s)(t:Nat):Inv X pins σ H { s with toks:=t }:=I.un (h':=s.heap) (t':=t) Un.refl I.hok
theorem Inv.kept{t':Nat}(I:Inv X pins σ H s)(k:∀b u,s.heap.get? b=some u->h'.get? b=some u):Inv X pins σ H { s with heap:=h',toks:=t' }:=I.un (Un.kept k) (I.hok.kept k)
theorem Inv.laid{a:Addr}{o:HO}{t':Nat}(I:Inv X pins σ H s)(k:∀b u,s.heap.get? b=some u->h'.get? b=some u)(c:s.heap.objs.size<=a)(new:aO X.prog X.w (aF H a o) h' a o) :
 Inv X pins σ (aF H a o) { s with heap:=h',toks:=t' }:=I.un (Un.laid k c (I.hok.fresh c)) (I.hok.laid k c new)
theorem Inv.write{x e:Addr}{o:HO}{t':Nat}(I:Inv X pins σ H s)(c:kK (H x))(he:e=x\/H e=some (.own x))(k:∀b u,b≠e->s.heap.get? b=some u->h'.get? b=some u)(a:∃u,h'.get? e=some u)
 (new:aO X.prog X.w (aF H x o) h' x o):Inv X pins σ (aF H x o) { s with heap:=h',toks:=t' }:=I.un (Un.write c he k a) (I.hok.write c he k a new)
theorem Inv.pins_of{a:List (Addr×Obj)}(I:Inv X pins σ H s)(h:∀p∈a,s.heap.get? p.1=some p.2/\H p.1=none/\p.1≠X.env.locals/\p.1∉X.fs/\∀v,p.2.data≠.cell v):Inv X a σ H s:=
 ⟨I.ok,I.os,I.bare,I.base,I.loc,I.cell,I.free,I.freeC,λp b=>(Ir.mp b).elim (λz=>I.pin p (Jo _ z)) (h p),I.hok,I.len⟩
theorem rY{N:List Str}(c:N.Nodup){i j:Nat}{x:Str}(a:N[i]?=some x)(b:N[j]?=some x):i=j:=by
 obtain⟨f,d⟩:=HY.mp a;obtain⟨g,e⟩:=HY.mp b;exact(MK c).mp (d.trans e.symm)
theorem xI{M:QC}{A:IN}{E:HD->HF->Prop}{i:Nat}{x:Str}{v:V}{u:HD}{Q:Unit->HF->Prop}(I:Inv X pins σ H s)(hN:X.N.Nodup)(Y:X.N[i]?=some x)(C:Loc X.env.scope x)(r:RelV v u)
 (h:∀s',Inv X pins (σ.set i (some v)) H s'->(∃a,Jr a s.heap s'.heap/\(a=X.env.locals\/X.env.cells.lookup x=some a))->Q () s') (hf:X.fn x=true\/X.env.scope.names.lookup x=some .local:=by first | exact .inl rfl | exact .inr rfl | assumption):wpAny M A (storeName X.env x u) Q E s:=by
 obtain⟨m,hn,hl⟩:=id I.loc;have Z:(X.env.scope.kind == .class||(X.env.scope.kind == .module&&X.env.locals != X.env.globals))=false:=by rw[I.ok.kind];rfl
 have J:i<σ.length:=by rw[I.len];exact(HY.mp Y).1
 have cne:=I.cne;have g:∀{a:Addr}{h':Heap},(∃o,s.heap.get? a=some o/\H a=none)->Jr a s.heap h'->bK X.prog X.w H h':=λ{a h'} ha f b ob e=>by
  obtain⟨_,_,D⟩:=ha;refine(I.hok b ob e).stay (λc w' B q=>(f.2 c ?_).trans q) (λ_ q=>q) λ_ _ q=>q;rintro rfl;rcases B with rfl | B
  ·rw[D]at e;cases e
  ·rw[D]at B;cases B
 rcases C with L | L
 ·refine wpAny_storeName_local L hn (λh' a8 f=>?_) Z;obtain⟨oL,_,_,a9,_⟩:=id hn;refine h _ ⟨I.ok,I.os,I.bare,⟨λb o e n O C=>?_,λb o e n O C=>?_,I.base.free,λb o e C=>?_,I.base.tups,I.base.frzs,I.base.tbls⟩,⟨_,a8,λj y v' l G e3=>?_⟩,λy c e=>?_,I.free,I.freeC,λp hp=>?_,g ⟨oL,a9,I.free⟩ f,by simpa using I.len⟩ ⟨_,f,.inl rfl⟩
  ·exact(f.2 b (HS (Ig (HJ e) I.ok.above))).trans (I.base.keep b o e n O C)
  ·obtain⟨sl,l⟩:=I.base.slot b o e n O C;exact⟨sl,(f.2 b (HS (Ig (HJ e) I.ok.above))).trans l⟩
  ·obtain⟨o',l⟩:=I.base.there b o e C;exact⟨o',(f.2 b (HS (Ig (HJ e) I.ok.above))).trans l⟩
  ·by_cases T:j=i
   ·subst T;rw[Y]at l;cases l;rw[Ow J]at G;cases G;exact⟨u,r,.inl ⟨L,by simp⟩⟩
   ·rw[MO (JX T)]at G;obtain⟨u',r',q⟩:=hl j y v' l G e3;refine⟨u',r',?_⟩;rcases q with⟨k,e⟩ | ⟨k,c,e,z⟩
    ·refine .inl ⟨k,?_⟩;have:y≠x:=λe=>T (rY hN l (e ▸ Y));simp[this,e]
    ·exact .inr ⟨k,c,e,z.sameBut f (cne y c e)⟩
  ·obtain⟨w',z⟩:=I.cell y c e;exact⟨w',z.sameBut f (cne y c e)⟩
  ·obtain⟨e,n,ne,nf,d⟩:=I.pin p hp;exact⟨(f.2 p.1 ne).trans e,n,ne,nf,d⟩
 ·have U:X.fn x=true:=by
   rcases hf with z | z
   ·exact z
   ·rw[z]at L;cases L
  obtain⟨c,B⟩:=I.ok.has x (.inl L);obtain⟨w',z⟩:=I.cell x c B;refine wpAny_storeName_cell I.ok.kind L B z (λh' a0 f=>?_);obtain⟨oc,a1,a2⟩:=id z;refine h { s with heap:=h' } ⟨I.ok,I.os,I.bare,⟨λb o e n O C=>?_,λb o e n O C=>?_,I.base.free,λb o e C=>?_,I.base.tups,I.base.frzs,I.base.tbls⟩,⟨m,hn.sameBut f (JX (cne x c B)),λj y v' l G e3=>?_⟩,λy c' e=>?_,I.free,I.freeC,λp hp=>?_,g ⟨oc,a1,I.freeC x c B⟩ f,by simpa using I.len⟩ ⟨c,f,.inr B⟩
  ·exact(f.2 b (HS (Ig (HJ e) (I.ok.cab x c U B)))).trans (I.base.keep b o e n O C)
  ·obtain⟨sl,l⟩:=I.base.slot b o e n O C;exact⟨sl,(f.2 b (HS (Ig (HJ e) (I.ok.cab x c U B)))).trans l⟩
  ·obtain⟨o',l⟩:=I.base.there b o e C;exact⟨o',(f.2 b (HS (Ig (HJ e) (I.ok.cab x c U B)))).trans l⟩
  ·by_cases T:j=i
   ·subst T;rw[Y]at l;cases l;rw[Ow J]at G;cases G;exact⟨u,r,.inr ⟨.inl L,c,B,a0⟩⟩
   ·rw[MO (JX T)]at G;obtain⟨u',r',q⟩:=hl j y v' l G e3;refine⟨u',r',?_⟩;rcases q with q | ⟨k,c',e,z'⟩
    ·exact .inl q
    ·refine .inr ⟨k,c',e,z'.sameBut f ?_⟩;rintro rfl;exact T (rY hN l (I.ok.inj _ _ _ e B ▸ Y))
  ·by_cases a3:c'=c
   ·subst a3;exact⟨_,a0⟩
   ·obtain⟨w2,z2⟩:=I.cell y c' e;exact⟨w2,z2.sameBut f a3⟩
  ·obtain⟨e,n,ne,nf,d⟩:=I.pin p hp;refine⟨(f.2 p.1 ?_).trans e,n,ne,nf,d⟩;intro q;rw[q,a1]at e;have q':oc=p.2:=Iv e;exact d w' (by rw[←q'];exact a2)
theorem oE{M:QC}{A:IN}{E:HD->HF->Prop}{i:Nat}{x:Str}{v:V}{u:HD}{Q:Unit->HF->Prop}(I:Inv X pins σ H s)(b:X.N.Nodup)(c:X.N[i]?=some x)(d:Loc X.env.scope x)(r:RelV v u)
 (h:∀a,Inv X pins (σ.set i (some v)) H a->Q () a) (e:X.fn x=true\/X.env.scope.names.lookup x=some .local:=by first | exact .inl rfl | exact .inr rfl | assumption):wpAny M A (storeName X.env x u) Q E s:=
 xI I b c d r (λa f _=>h a f) e
theorem Inv.call'{a:HF}{ch:List Addr}(I:Inv X pins σ H s)(g:a.os=s.os)(u:Un (frs X.stack) ch H H' s.heap a.heap)(d:bK X.prog X.w H' a.heap)(h:NX a.gens)
 (f:∀b∈ch,(b∈X.ex\/X.s₀.heap.objs.size<=b)/\b≠X.env.locals/\(∀x c,X.env.cells.lookup x=some c->c≠b)/\∀p∈X.pn++pins,p.1≠b):Inv X pins σ H' a:=by
 obtain⟨h',g',d',t',i⟩:=a;have e:i=s.os:=g;subst e;exact I.call (g':=g') (t':=t') (d':=d') u d h f
end
abbrev XK:=HD->Option Addr->Hp->Prop
abbrev St:=List (Option V)
abbrev VK:=V->Hp->Prop
abbrev TE:=St->Hp->VK->Prop
abbrev TT:=St->Hp->(Bool->Hp->Prop)->Prop
abbrev TA:=St->Hp->(List V->Hp->Prop)->Prop
structure gh where
 nx:St->Hp->Prop
 rt:VK
 bk:St->Hp->Prop:=λ_ _=>False
 ct:St->Hp->Prop:=λ_ _=>False
abbrev TS:=gh->St->Hp->Prop
def EP(X:Cx)(a:List (Addr×Obj))(σ:St)(Q:VK)(u:HD)(c:HF):Prop:=∃v b,Inv X a σ b c/\RelV v u/\Q v b
def TP(X:Cx)(a:List (Addr×Obj))(σ:St)(Q:Bool->Hp->Prop)(b:Bool)(d:HF):Prop:=∃c,Inv X a σ c d/\Q b c
def AP(X:Cx)(a:List (Addr×Obj))(σ:St)(Q:List V->Hp->Prop)(us:List HD)(d:HF):Prop:=∃b c,Inv X a σ c d/\aE b us/\Q b c
def SP(X:Cx)(b:List (Addr×Obj))(D:gh)(f:Flow)(d:HF):Prop:=
 match f with
 | .next=>∃a c,Inv X b a c d/\D.nx a c
 | .brk=>∃a c,Inv X b a c d/\D.bk a c
 | .cont=>∃a c,Inv X b a c d/\D.ct a c
 | .ret u=>∃v a c,Inv X b a c d/\RelV v u/\D.rt v c
def PE(X:Cx)(e:Expr)(t:TE):Prop:=
 ∀(a:List (Addr×Obj))(s:HF)(σ:St)(H:Hp)(Q:VK),Inv X a σ H s->t σ H Q->wpAny (model X.prog X.w) X.A (eval e X.env) (EP X a σ Q) X.xe s
def PT(X:Cx)(e:Expr)(t:TT):Prop:=
 ∀(a:List (Addr×Obj))(s:HF)(σ:St)(H:Hp)(Q:Bool->Hp->Prop),Inv X a σ H s->t σ H Q->wpAny (model X.prog X.w) X.A (isTrue e X.env (eval e X.env)) (TP X a σ Q) X.xe s
def PW(X:Cx)(e:Expr)(t:TT):Prop:=
 ∀(whole:Sem HD)(a:List (Addr×Obj))(s:HF)(σ:St)(H:Hp)(Q:Bool->Hp->Prop),Inv X a σ H s->t σ H Q->wpAny (model X.prog X.w) X.A (isTrue e X.env whole) (TP X a σ Q) X.xe s
theorem PW.pt{X:Cx}{e:Expr}{t:TT}(h:PW X e t):PT X e t:=h _
def PA(X:Cx)(es:List Expr)(t:TA):Prop:=
 ∀(b:Pos)(a:List (Addr×Obj))(s:HF)(σ:St)(H:Hp)(Q:List V->Hp->Prop),Inv X a σ H s->t σ H Q->wpAny (model X.prog X.w) X.A (spliced (backTo b (starEach es X.env))) (AP X a σ Q) X.xe s
def PS(X:Cx)(st:Stmt)(t:TS):Prop:=
 ∀(a:List (Addr×Obj))(s:HF)(σ:St)(H:Hp)(D:gh),Inv X a σ H s->t D σ H->wpAny (model X.prog X.w) X.A (exec st X.env) (SP X a D) X.xe s
def bL(X:Cx)(st:List Stmt)(t:TS):Prop:=
 ∀(a:List (Addr×Obj))(s:HF)(σ:St)(H:Hp)(D:gh),Inv X a σ H s->t D σ H->wpAny (model X.prog X.w) X.A (execs st X.env) (SP X a D) X.xe s
theorem aP{b:Type}{t:Sem b}{Q c:b->HF->Prop}{M:QC}{A:IN}{E:HD->HF->Prop}{s:HF}(h:wpAny M A t Q E s)(d:∀a s,Q a s->c a s):wpAny M A t c E s:=IJ h d λ_ _ x=>x
section
variable{X:Cx}
noncomputable def gq(i:Nat):TE:=λa H Q=>∃v,a[i]?=some (some v)/\Q v H
noncomputable def tC(v:V):TE:=λ_ H Q=>Q v H
theorem xJ{i:Nat}{x:Str}{f:Pos}(o:X.N[i]?=some x)(p:kg X.env.scope x)(g:(x == ("__debug__" : Str))=false:=by decide)(j:(x == ("__classdict__" : Str))=false:=by decide):PE X (.Name x f) (gq i):=by
 intro d s q H Q I h;obtain⟨v,e,h⟩:=h;obtain⟨m,w,y⟩:=I.loc;obtain⟨u,r,l⟩:=y i x v o e p;have fin:EP X d q Q u s:=⟨v,H,I,r,h⟩;rcases l with⟨b,z⟩ | ⟨b,c,n,a⟩
 ·exact wpAny_Name (wpAny_loadName_local I.ok.kind b w z fin) g
 ·rcases b with b | b
  ·exact wpAny_Name (wpAny_loadName_cell I.ok.kind b n a fin) g
  ·exact wpAny_Name (wpAny_loadName_free I.ok.kind b n a fin j) g
theorem rZ{i j a}:PE X (.Constant (.int i) j a) (tC (.int i)):=λ_ _ _ H _ I h=>wpAny_Constant_int ⟨.int i,H,I.tok _,⟨_,rfl⟩,h⟩
theorem xK{b j a}:PE X (.Constant (.bool b) j a) (tC (.bl b)):=λ_ _ _ H _ I h=>Constant_bool ⟨.bl b,H,I,rfl,h⟩
theorem xL{j a}:PE X (.Constant .none j a) (tC .non):=λ_ _ _ H _ I h=>PK ⟨.non,H,I,rfl,h⟩
theorem xM{x j a}:PE X (.Constant (.str x) j a) (tC (.str x)):=λ_ _ _ H _ I h=>Calls.Constant_str ⟨.str x,H,I.tok _,⟨_,rfl⟩,h⟩
def Gl(X:Cx)(x:Str):Prop:=X.env.kindOf x=some .globalImplicit
theorem kL{E:HD->HF->Prop}{a:List (Addr×Obj)}{s:HF}{σ:St}{H:Hp}{x:Str}{u:HD}{b:Pos}{Q:HD->HF->Prop}(I:Inv X a σ H s)(c:Gl X x)(d:X.mg x=some u)(h:Q u s)
 (e:(x == ("__debug__" : Str))=false:=by decide):wpAny (model X.prog X.w) X.A (eval (.Name x b) X.env) Q E s:=
 Nr I.ok.kind c (Calls.loadGlobal_global (by rw[I.ok.glob];exact I.mod.glob.keeps I.bk) d h) e
theorem S6{E:HD->HF->Prop}{a:List (Addr×Obj)}{s:HF}{σ:St}{H:Hp}{x:Str}{u:HD}{b:Pos}{Q:HD->HF->Prop}(I:Inv X a σ H s)(c:Gl X x)(d:X.mg x=none)(e:bootBuiltins x=some u)(h:Q u s)
 (f:x≠"__name__":=by decide) (g:(x == ("__debug__" : Str))=false:=by decide):wpAny (model X.prog X.w) X.A (eval (.Name x b) X.env) Q E s:=by
 obtain⟨l,i,j⟩:=I.mod.blt;exact Nr I.ok.kind c (Calls.loadGlobal_builtin (by rw[I.ok.glob];exact I.mod.glob.keeps I.bk) d (by rw[I.ok.blt];exact i.keeps I.bk) ((j x f).trans e) h) g
theorem sd{x:Str}{v:V}{u:HD}{a:Pos}(b:Gl X x)(c:X.mg x=some u)(r:RelV v u)(d:(x == ("__debug__" : Str))=false:=by decide):PE X (.Name x a) (tC v):=
 λ_ _ _ H _ I h=>kL I b c ⟨v,H,I,r,h⟩ d
theorem se{x:Str}{v:V}{u:HD}{a:Pos}(b:Gl X x)(c:X.mg x=none)(d:bootBuiltins x=some u)(r:RelV v u)(e:x≠"__name__":=by decide)(f:(x == ("__debug__" : Str))=false:=by decide):PE X (.Name x a) (tC v):=
 λ_ _ _ H _ I h=>S6 I b c d ⟨v,H,I,r,h⟩ e f
variable{a b:Expr}{ta tb:TE}{pos:Pos}
def PC(X:Cx)(f:Qj)(a b:Expr)(t:TE):Prop:=
 ∀(c:List (Addr×Obj))(s:HF)(σ:St)(H:Hp)(Q:VK),Inv X c σ H s->t σ H Q->
  wpAny (model X.prog X.w) X.A (eval a X.env) (λv d=>wpAny (model X.prog X.w) X.A (eval b X.env) (λu e=>wpAny (model X.prog X.w) X.A (compareOp f v u) (EP X c σ Q) X.xe e) X.xe d) X.xe s
noncomputable def sf(ta:TE):TE:=λc H Q=>ta c H λx d=>Q (.bl (decide (x=.non))) d
noncomputable def sg(ta:TE):TE:=λc H Q=>ta c H λx d=>Q (.bl (!decide (x=.non))) d
theorem RelV.none_iff{x:V}{v:HD}(r:RelV x v):(v == Iu)=decide (x=.non):=by
 cases x with
 | non=>cases r;rfl
 | bl _=>cases r;rfl
 | int _=>obtain⟨t,rfl⟩:=r;rfl
 | str _=>obtain⟨t,rfl⟩:=r;rfl
 | byt _=>obtain⟨t,rfl⟩:=r;rfl
 | flt _=>obtain⟨t,rfl⟩:=r;rfl
 | ref _=>cases r;rfl
 | ty _=>cases r;rfl
theorem sh{j c}(e:PE X a ta):PC X .Is a (.Constant .none j c) (sf ta):=by
 intro d s f H Q I h;refine aP (e d s f H _ I h) λv o g=>?_;obtain⟨x,i,l,m,n⟩:=g;exact PK (is_none_gen ⟨.bl _,i,l,by rw[m.none_iff];rfl,n⟩)
theorem xN{j c}(e:PE X a ta):PC X .IsNot a (.Constant .none j c) (sg ta):=by
 intro d s f H Q I h;refine aP (e d s f H _ I h) λv o g=>?_;obtain⟨x,i,l,m,n⟩:=g;exact PK (isnot_none_gen ⟨.bl _,i,l,by rw[m.none_iff];rfl,n⟩)
noncomputable def tB(t:TE):TT:=λd H Q=>t d H λx e=>∃c,x=.bl c/\Q c e
theorem si{e:Qj}{t:TE}(h:PC X e a b t)(f:behindInMarks e b=false:=by first | exact c _ (by decide) (by decide) | rfl):PE X (.Compare a [e] [b] pos) t:=λd s g H Q I i=>wpAny_Compare1 (h d s g H Q I i) f
theorem oF{g:Qj}{t:TE}(h:PC X g a b t)(i:behindInMarks g b=false:=by first | exact e _ (by decide) (by decide) | rfl):PT X (.Compare a [g] [b] pos) (tB t):=by
 intro f s j H Q I l;refine OI (aP (h f s j H _ I l) λv y i=>aP i λu z m=>aP m λc A n=>?_) i;obtain⟨x,o,p,r,w⟩:=n;obtain⟨d,rfl,q⟩:=w;cases r;exact JJ ⟨o,p,q⟩
theorem xO{e:Expr}{t:TE}(h:PE X e t)(he:∀whole,isTrue e X.env whole=(do let v ←whole;standAt e.pos;holding [v] (truthy v)):=by intro _;rfl):PT X e (tB t):=by
 intro c s f H Q I g;refine isTrue_plain (aP (h c s f H _ I g) λv o i=>?_) (he _);obtain⟨x,j,l,m,n⟩:=i;obtain⟨d,rfl,q⟩:=n;cases m;exact JJ ⟨j,l,q⟩
variable{tA tB':TT}{rest:List Expr}
noncomputable def tAnd(t u:TT):TT:=λd H Q=>t d H λc e=>if c=true then u d e Q else Q false e
noncomputable def tOr(t u:TT):TT:=λd H Q=>t d H λc e=>if c=true then Q true e else u d e Q
noncomputable def tNot(t:TT):TT:=λd H Q=>t d H λc e=>Q (!c) e
theorem xP(f:PT X a tA):PW X (.BoolOp .And [a] pos) tA:=by
 intro i d s g H Q I h;refine isTrue_and (aP (f d s g H Q I h) λc j e=>?_);cases c with
 | true=>exact isTrue_and_nil e
 | false=>exact e
theorem xQ(f:PT X a tA):PW X (.BoolOp .Or [a] pos) tA:=by
 intro i d s g H Q I h;refine isTrue_or (aP (f d s g H Q I h) λc j e=>?_);cases c with
 | false=>exact isTrue_or_nil e
 | true=>exact e
theorem xR(j:PT X a tA)(l:PW X (.BoolOp .And (b::rest) pos) tB'):PW X (.BoolOp .And (a::b::rest) pos) (tAnd tA tB'):=by
 intro m d s e H Q I h;refine isTrue_and (aP (j d s e H _ I h) λc n o=>?_);obtain⟨f,g,i⟩:=o;cases c with
 | true=>exact l m d n e f Q g i
 | false=>exact⟨f,g,i⟩
theorem xS(j:PT X a tA)(l:PW X (.BoolOp .Or (b::rest) pos) tB'):PW X (.BoolOp .Or (a::b::rest) pos) (tOr tA tB'):=by
 intro m d s e H Q I h;refine isTrue_or (aP (j d s e H _ I h) λc n o=>?_);obtain⟨f,g,i⟩:=o;cases c with
 | true=>exact⟨f,g,i⟩
 | false=>exact l m d n e f Q g i
theorem xT(e:PT X a tA):PT X (.UnaryOp .Not a pos) (tNot tA):=by
 intro d s f H Q I h;exact isTrue_not (e d s f H (λc g=>Q (!c) g) I h)
noncomputable def xU(ta tb:TE):TE:=λd H Q=>ta d H λx e=>∃c,x=.bl c/\if c=true then tb d e Q else Q (.bl false) e
noncomputable def xV(ta tb:TE):TE:=λd H Q=>ta d H λx e=>∃c,x=.bl c/\if c=true then Q (.bl true) e else tb d e Q
noncomputable def xW(ta:TE):TE:=λd H Q=>ta d H λx e=>∃c,x=.bl c/\Q (.bl (!c)) e
theorem sj{d}{t:TE}(h:PE X a t):PE X (.BoolOp d [a] pos) t:=λc s e H Q I f=>BoolOp_one (h c s e H Q I f)
theorem xX(j:PE X a ta)(l:PE X (.BoolOp .And (b::rest) pos) tb):PE X (.BoolOp .And (a::b::rest) pos) (xU ta tb):=by
 intro d s f H Q I h;refine BoolOp_and (aP (j d s f H _ I h) λv m n=>?_);obtain⟨x,g,i,o,e⟩:=n;obtain⟨c,rfl,e⟩:=e;cases o;refine JJ ?_;cases c with
 | true=>exact l d m f g Q i e
 | false=>exact⟨.bl false,g,i,rfl,e⟩
theorem xY(j:PE X a ta)(l:PE X (.BoolOp .Or (b::rest) pos) tb):PE X (.BoolOp .Or (a::b::rest) pos) (xV ta tb):=by
 intro d s f H Q I h;refine BoolOp_or (aP (j d s f H _ I h) λv m n=>?_);obtain⟨x,g,i,o,e⟩:=n;obtain⟨c,rfl,e⟩:=e;cases o;refine JJ ?_;cases c with
 | false=>exact l d m f g Q i e
 | true=>exact⟨.bl true,g,i,rfl,e⟩
theorem xZ(f:PE X a ta):PE X (.UnaryOp .Not a pos) (xW ta):=by
 intro d s g H Q I h;refine UnaryOp_ (aP (f d s g H _ I h) λv n i=>?_);obtain⟨x,j,l,m,e⟩:=i;obtain⟨c,rfl,e⟩:=e;cases m;exact not_of (JJ ⟨.bl (!c),j,l,rfl,e⟩)
noncomputable def ya(t:TT)(ta tb:TE):TE:=λd H Q=>t d H λc e=>if c=true then ta d e Q else tb d e Q
theorem yb{c:Expr}(m:PT X c tA)(n:PE X a ta)(o:PE X b tb):PE X (.IfExp c a b pos) (ya tA ta tb):=by
 intro e s f H Q I h;refine wpAny_IfExp (aP (m e s f H _ I h) λd g p=>?_);obtain⟨i,j,l⟩:=p;cases d with
 | true=>exact n e g f i Q j l
 | false=>exact o e g f i Q j l
end
def bv(K:HE)(H:Hp)(a:Addr)(xs:List V):Prop:=
 Rd H a (.lst xs)\/
  ∃(o:Obj)(b:Array HD)(n:Nat),K.lookup a=some o/\o.cls=.type "list"/\o.dict=none/\o.data=.seq b n/\b.size<=sizeLine/\aE xs b.toList
def cD(K:HE)(H:Hp)(a:Addr)(xs:List V):Prop:=
 Rd H a (.tup xs)\/
  ∃(o:Obj)(b:Array HD)(n:Nat),K.lookup a=some o/\o.cls=.type "tuple"/\o.data=.seq b n/\b.size<=sizeLine/\aE xs b.toList
noncomputable def yc:HD->Option V
 | .none=>some .non
 | .bool b=>some (.bl b)
 | .int i _=>some (.int i)
 | .str x _=>some (.str x)
 | .bytes b _=>some (.byt b)
 | .float b _=>some (.flt b)
 | .ref a=>some (.ref a)
 | .type n=>some (.ty n)
 | _=>none
theorem RelV.abs{x:V}{u:HD}(r:RelV x u):yc u=some x:=by
 cases x with
 | non=>cases r;rfl
 | bl _=>cases r;rfl
 | int _=>obtain⟨t,rfl⟩:=r;rfl
 | str _=>obtain⟨t,rfl⟩:=r;rfl
 | byt _=>obtain⟨t,rfl⟩:=r;rfl
 | flt _=>obtain⟨t,rfl⟩:=r;rfl
 | ref _=>cases r;rfl
 | ty _=>cases r;rfl
theorem RelV.inj{x y:V}{u:HD}(r:RelV x u)(q:RelV y u):x=y:=Iv (r.abs.symm.trans q.abs)
theorem aE.inj:∀{xs a:List V}{us:List HD},aE xs us->aE a us->xs=a
 | _,_,_,.nil,.nil=>rfl
 | _,_,_,.cons r t,.cons b c=>by rw[r.inj b,aE.inj t c]
section
variable{X:Cx}{pins:List (Addr×Obj)}{σ:St}{H:Hp}{s:HF}{a:Addr}{xs ys:List V}
theorem bv.of{K:HE}(h:H a=some (.lst xs)):bv K H a xs:=.inl (.inl h)
theorem cD.of{K:HE}(h:H a=some (.tup xs)):cD K H a xs:=.inl (.inl h)
theorem Inv.list(I:Inv X pins σ H s)(h:bv X.K H a xs):∃b:List HD,aE xs b/\PlainL s.heap a b.toArray/\xs.length<=sizeLine:=by
 rcases h with h | ⟨o,b,n,c,d,f,g,i,r⟩
 ·obtain⟨z,b,n,r,e⟩:=h.ok I.hok;exact⟨b,r,⟨_,n,e,rfl,rfl,rfl⟩,z⟩
 ·refine⟨b.toList,r,⟨o,n,I.kIn a o c,d,f,by simpa using g⟩,?_⟩;have e:=r.length;simp only[Js]at e;omega
theorem Inv.tuple(I:Inv X pins σ H s)(h:cD X.K H a xs):∃b:List HD,aE xs b/\QD s.heap a b.toArray/\xs.length<=sizeLine:=by
 rcases h with h | ⟨o,b,n,c,d,f,g,r⟩
 ·obtain⟨z,b,r,p⟩:=h.ok I.hok;exact⟨b,r,p,z⟩
 ·refine⟨b.toList,r,⟨o,I.kIn a o c,d,n,by simpa using f⟩,?_⟩;have e:=r.length;simp only[Js]at e;omega
theorem Inv.list_inj(I:Inv X pins σ H s)(h:bv X.K H a xs)(h':bv X.K H a ys):xs=ys:=by
 obtain⟨c,r,⟨o,n,e,_,_,d⟩,_⟩:=I.list h;obtain⟨b,i,⟨l,m,f,_,_,g⟩,_⟩:=I.list h';rw[e]at f;cases f;rw[d]at g;injection g with j _;have:c=b:=by simpa using congrArg Array.toList j
 subst this;exact r.inj i
theorem Inv.tuple_inj(I:Inv X pins σ H s)(h:cD X.K H a xs)(h':cD X.K H a ys):xs=ys:=by
 obtain⟨c,r,⟨o,e,_,n,d⟩,_⟩:=I.tuple h;obtain⟨b,i,⟨l,f,_,m,g⟩,_⟩:=I.tuple h';rw[e]at f;cases f;rw[d]at g;injection g with j _;have:c=b:=by simpa using congrArg Array.toList j
 subst this;exact r.inj i
end
abbrev Cx.wish(X:Cx)(E:HD->HF->Prop):Cx:={ X with xe:=E }
abbrev Cx.nox(X:Cx):Cx:=X.wish λ_ _=>False
theorem Cx.Ok.wish{X:Cx}(ok:X.Ok)(E:HD->HF->Prop):(X.wish E).Ok:=
 ⟨ok.mod,ok.kind,ok.glob,ok.blt,ok.above,ok.inj,ok.has,ok.cab,ok.hd,ok.frames,ok.stk,ok.exf,ok.bs,ok.bsz,ok.noex,ok.exfs,ok.funs,ok.frf⟩
theorem Cx.Ok.unwish{X:Cx}{E:HD->HF->Prop}(ok:(X.wish E).Ok):X.Ok:=
 ⟨ok.mod,ok.kind,ok.glob,ok.blt,ok.above,ok.inj,ok.has,ok.cab,ok.hd,ok.frames,ok.stk,ok.exf,ok.bs,ok.bsz,ok.noex,ok.exfs,ok.funs,ok.frf⟩
section
variable{X:Cx}{pins:List (Addr×Obj)}{σ:St}{H:Hp}{s:HF}{E:HD->HF->Prop}
theorem Inv.wish(I:Inv X pins σ H s)(E:HD->HF->Prop):Inv (X.wish E) pins σ H s:=⟨I.ok.wish E,I.os,I.bare,I.base,I.loc,I.cell,I.free,I.freeC,I.pin,I.hok,I.len⟩
theorem Inv.unwish(I:Inv (X.wish E) pins σ H s):Inv X pins σ H s:=⟨I.ok.unwish,I.os,I.bare,I.base,I.loc,I.cell,I.free,I.freeC,I.pin,I.hok,I.len⟩
theorem SP.unwish{D:gh}{f:Flow}{c:HF}(h:SP (X.wish E) pins D f c):SP X pins D f c:=by
 cases f with
 | next=>obtain⟨a,b,I,q⟩:=h;exact⟨a,b,I.unwish,q⟩
 | brk=>obtain⟨a,b,I,q⟩:=h;exact⟨a,b,I.unwish,q⟩
 | cont=>obtain⟨a,b,I,q⟩:=h;exact⟨a,b,I.unwish,q⟩
 | ret u=>obtain⟨v,a,b,I,r,q⟩:=h;exact⟨v,a,b,I.unwish,r,q⟩
theorem PT.nox{e:Expr}{t:TT}(h:PT X.nox e t):PT X e t:=λpins s σ H Q I a=>
 IJ (h pins s σ H Q (I.wish _) a) (λ_ _ ⟨b,c,q⟩=>⟨b,c.unwish,q⟩) λ_ _ z=>Iq z
theorem bL.nox{st:List Stmt}{t:TS}(h:bL X.nox st t):bL X st t:=λpins s σ H D I a=>
 IJ (h pins s σ H D (I.wish _) a) (λ_ _ q=>q.unwish) λ_ _ z=>Iq z
end
section
variable{X:Cx}{st:Stmt}{rest:List Stmt}{t u:TS}{e:Expr}{te:TE}{pos:Pos}
noncomputable def tNext:TS:=λD a H=>D.nx a H
noncomputable def yd(t u:TS):TS:=λD a H=>t { D with nx:=u D } a H
theorem ye:bL X [] tNext:=λ_ _ a H _ I h=>Li ⟨a,H,I,h⟩
theorem sk(c:PS X st t)(d:bL X rest u):bL X (st::rest) (yd t u):=by
 intro a s g H D I h;refine Op (aP (c a s g H { D with nx:=u D } I h) λf i q=>?_);cases f with
 | next=>
   obtain⟨b,j,l,q⟩:=q;exact d a i b j D l q
 | ret v=>exact q
 | brk=>exact q
 | cont=>exact q
theorem oG(b:PS X st t):bL X [st] t:=by
 intro a s c H D I h;refine Op (aP (b a s c H D I h) λf d q=>?_);cases f with
 | next=>exact Li q
 | ret v=>exact q
 | brk=>exact q
 | cont=>exact q
theorem yf:PS X (.Pass pos) tNext:=λ_ _ a H _ I h=>wpAny_Pass ⟨a,H,I,h⟩
theorem Inv.quiet{a:List (Addr×Obj)}{σ:St}{H:Hp}{s:HF}(I:Inv X a σ H s):interactive X.env=false:=by simp[interactive,I.ok.kind]
noncomputable def yg(te:TE):TS:=λD a H=>te a H λ_ b=>D.nx a b
theorem sm(he:PE X e te)(hs:swapsWith e none pos.line X.env=pure false:=by rfl):PS X (.Expr e pos) (yg te):=by
 intro a s b H D I h;exact wpAny_Expr_any (aP (he a s b H _ I h) λv g ⟨x,c,d,i,f⟩=>⟨b,c,d,f⟩) I.quiet hs
noncomputable def yh(te:TE):TS:=λD a H=>te a H D.rt
theorem yi(he:PE X e te):PS X (.Return (some e) pos) (yh te):=by
 intro a s b H D I h;exact wpAny_Return_some (aP (he a s b H _ I h) λv i ⟨x,c,d,f,g⟩=>⟨x,b,c,d,f,g⟩)
noncomputable def yj(c:TT)(t u:TS):TS:=λD a H=>c a H λb d=>if b=true then t D a d else u D a d
theorem so{c:Expr}{a b:List Stmt}{i:TT}(o:PT X c i)(p:bL X a t)(q:bL X b u):PS X (.If c a b pos) (yj i t u):=by
 intro f s g H D I h;refine wpAny_If (aP (o f s g H _ I h) λd j r=>?_);obtain⟨l,m,n⟩:=r;cases d with
 | true=>exact p f j g l D m n
 | false=>exact q f j g l D m n
noncomputable def tNever:TS:=λ_ _ _=>False
theorem yk:PS X st tNever:=λ_ _ _ _ _ _ h=>h.elim
end
abbrev TG:=V->St->Hp->(St->Hp->Prop)->Prop
abbrev TGs:=List V->St->Hp->(St->Hp->Prop)->Prop
def PG(X:Cx)(a:Expr)(t:TG):Prop:=
 ∀(b:List (Addr×Obj))(s:HF)(σ:St)(H:Hp)(v:V)(u:HD)(Q:St->Hp->Prop),Inv X b σ H s->RelV v u->t v σ H Q->
  wpAny (model X.prog X.w) X.A (assign a X.env u) (λ_ e=>∃c d,Inv X b c d e/\Q c d) X.xe s
def gR(X:Cx)(d:List Expr)(t:TGs):Prop:=
 ∀(a:List (Addr×Obj))(s:HF)(σ:St)(H:Hp)(vs:List V)(us:List HD)(Q:St->Hp->Prop),Inv X a σ H s->aE vs us->t vs σ H Q->
  wpAny (model X.prog X.w) X.A (assignInOrder ((assignEach d X.env).map (·.2)) us) (λ_ e=>∃b c,Inv X a b c e/\Q b c) X.xe s
section
variable{X:Cx}{pos:Pos}
noncomputable def gName(i:Nat):TG:=λv a H Q=>Q (a.set i (some v)) H
theorem au{i:Nat}{x:Str}(b:X.N.Nodup)(c:X.N[i]?=some x)(d:Loc X.env.scope x)(e:X.fn x=true\/X.env.scope.names.lookup x=some .local:=by first | exact .inl rfl | exact .inr rfl | assumption):PG X (.Name x pos) (gName i):=by
 intro a s g H v u Q I r h;exact wpAny_assign_Name (oE I b c d r (λj f=>⟨_,H,f,h⟩) e)
noncomputable def gNil:TGs:=λa b H Q=>a=[]/\Q b H
noncomputable def gCons(t:TG)(u:TGs):TGs:=λb c H Q=>∃v r,b=v::r/\t v c H λa d=>u r a d Q
theorem yl:gR X [] gNil:=by
 intro a s b H c d Q I r h;obtain⟨e,h⟩:=h;subst e;cases r;exact assignInOrder_nil ⟨b,H,I,h⟩
theorem ym{e:Expr}{es:List Expr}{t:TG}{u:TGs}(c:PG X e t)(d:gR X es u)
 (hs:(assignEach (e::es) X.env).map (·.2)=assign e X.env::(assignEach es X.env).map (·.2):=by rfl):gR X (e::es) (gCons t u):=by
 intro a s f H p q Q I r h;obtain⟨v,w,g,h⟩:=h;subst g;cases r with
 | cons r i=>
   rw[hs];refine assignInOrder_cons (aP (c a s f H _ _ _ I r h) λ_ j l=>?_);obtain⟨b,m,n,o⟩:=l;exact d a j b m _ _ Q n i o
noncomputable def gTup(K:HE)(n:Nat)(t:TGs):TG:=λv c H Q=>∃a b,v=.ref a/\cD K H a b/\b.length=n/\t b c H Q
theorem yn{es:List Expr}{k:Nat}{t:TGs}{n:Nat}(l:X.calm=true)(h:gR X es t)
 (m:(assignEach es X.env).length=n:=by rfl) (d:(assignEach es X.env).findIdx? (·.1)=none:=by rfl):PG X (.Tuple es k pos) (gTup X.K n t):=by
 intro c s g H v u Q I r f;obtain⟨a,p,q,w,x,f⟩:=f;subst q;cases r;obtain⟨y,i,z,D⟩:=I.tuple w;refine assign_Tuple_tuple (I.ok.hd l) z (by simp[m,←x,i.length]) d λA B=>?_;have C:Inv X c g H { s with heap:=A }:=I.kept (t':=s.toks) λb o e=>B b o (HS (HJ e)) e;exact h c _ g H p _ Q C (by simpa using i) f
noncomputable def ss(b:TE)(g:TG):TS:=λD a H=>b a H λx c=>g x a c D.nx
theorem yo{i:Nat}{x:Str}{e:Expr}{c:TE}{a:Pos}(d:X.N.Nodup)(f:X.N[i]?=some x)(g:Loc X.env.scope x)(he:PE X e c)(hs:swapsWith e (some (.Name x a)) pos.line X.env=pure false:=by rfl)(j:X.fn x=true\/X.env.scope.names.lookup x=some .local:=by first | exact .inl rfl | exact .inr rfl | assumption) :
 PS X (.Assign [.Name x a] e pos) (ss c (gName i)):=by
 intro b s l H D I h;refine wpAny_Assign_Name (aP (he b s l H _ I h) λv u m=>?_) hs;obtain⟨y,n,o,p,q⟩:=m;exact oE o d f g p (λw r=>⟨_,n,r,q⟩) j
noncomputable def yp(c:TT)(tb:TS):TS:=λD a H=>∃W:Nat->St->Hp->Prop,(∃m,W m a H)/\∀m a H,W m a H->
 c a H λb e=>if b=true then ∃N:St->Hp->Prop,(∀d f,N d f->∃g,g<m/\W g d f)/\tb { D with nx:=N,ct:=N,bk:=D.nx } a e else D.nx a e
theorem yq{c:Expr}{g:List Stmt}{y:TT}{tb:TS}(z:Qk (model X.prog X.w) X.A X.env X.xe)(L:PT X c y)(O:bL X g tb):PS X (.While c g [] pos) (yp y tb):=by
 intro a s Q H D I h;obtain⟨W,⟨T,U⟩,i⟩:=h;refine wpAny_While (codeAny_whileLoop (λn Y=>∃j B,Inv X a j B Y/\W n j B) ?_ T ⟨Q,H,I,U⟩);rintro n Z ⟨e,C,I1,w1⟩;refine KH z (aP (L a Z e C _ I1 (i n e C w1)) λb s2 zq=>?_);obtain⟨E,G,m⟩:=zq;cases b with
 | true=>
   obtain⟨N,J,m⟩:=m;rw[if_pos rfl];refine KH z (aP (O a s2 e E _ G m) λf s3 o=>?_);cases f with
   | next=>
     obtain⟨d,l,p,q⟩:=o;obtain⟨r,u,x⟩:=J d l q;exact⟨r,u,d,l,p,x⟩
   | cont=>
     obtain⟨d,l,p,q⟩:=o;obtain⟨r,u,x⟩:=J d l q;exact⟨r,u,d,l,p,x⟩
   | brk=>exact o
   | ret v=>exact o
 | false=>
   rw[if_neg IP];exact Li ⟨e,E,G,m⟩
end
structure It where
 go:Nat->Hp->Prop
 yld:Nat->Hp->V->Hp->Prop
 stop:Nat->Hp->Prop
def fw(X:Cx)(a:List (Addr×Obj))(H:Hp)(b:Addr):Prop:=
 H b=none/\b≠X.env.locals/\b∉X.fs/\(b∈X.ex\/X.s₀.heap.objs.size<=b)/\(∀x c,X.env.cells.lookup x=some c->c≠b)/\∀p∈X.pn++a,p.1≠b
theorem Inv.fpOk{X:Cx}{a:List (Addr×Obj)}{σ:St}{H H':Hp}{s:HF}{b:Addr}(I:Inv X a σ H s)(d:s.heap.objs.size<=b)(f:H' b=none):fw X a H' b:=by
 refine⟨f,JU (Ig I.lt d),I.nofs d,.inr (Ih I.sz d),λx c e z=>?_,λp g z=>?_⟩
 ·obtain⟨v,q⟩:=I.cell x c e;exact absurd (Ig q.lt (by rw[z];exact d)) (JO _)
 ·exact absurd (Ig (HJ (I.pin p g).1) (by rw[z];exact d)) (JO _)
structure jj(P:Ib)(w:IW)(K:HE)(tg:Expr)(J:It)(fp:List Addr)(it:Addr)(tn:Nat->Heap->Prop):Prop where
 mem:it∈fp
 obj:∀i h,tn i h->∀b∈fp,∃o,h.get? b=some o/\∀v,o.data≠.cell v
 keep:∀i h h',tn i h->(∀b∈fp,∀o,h.get? b=some o->h'.get? b=some o)->tn i h'
 item:∀(X:Cx),X.prog=P->X.w=w->X.K=K->X.calm=true->∀(i:Nat)(pins:List (Addr×Obj))(s:HF)(σ:St)(H:Hp)(E:HD->HF->Prop),Inv X pins σ H s->(∀b∈fp,fw X pins H b)->tn i s.heap->J.go i H->
  wpAny (model P w) X.A (pyNext (.ref it)) (λr s1=>∃u,r=some u/\
   wpAny (model P w) X.A (letOwnedTupleGo tg (.ref it) u) (λ_ s2=>∃x H',Inv X pins σ H' s2/\RelV x u/\J.yld i H x H'/\tn (i+1) s2.heap/\∀b∈fp,H' b=none) E s1) E s
 done:∀(X:Cx),X.prog=P->X.w=w->X.K=K->X.calm=true->∀(i:Nat)(pins:List (Addr×Obj))(s:HF)(σ:St)(H:Hp)(E:HD->HF->Prop),Inv X pins σ H s->(∀b∈fp,fw X pins H b)->tn i s.heap->J.stop i H->
  wpAny (model P w) X.A (pyNext (.ref it)) (λr s1=>r=none/\Inv X pins σ H s1) E s
 self:∀(A:IN)(i:Nat)(s:HF)(Q:HD->HF->Prop)(E:HD->HF->Prop),tn i s.heap->Q (.ref it) s->wpAny (model P w) A (pyIter (.ref it)) Q E s
abbrev TI:=St->Hp->(It->Hp->Prop)->Prop
def su(X:Cx)(a:List (Addr×Obj))(σ:St)(tg:Expr)(R:It->Hp->Prop)(c:HD)(d:HF):Prop:=
 ∃(e:Addr)(fp:List Addr)(f:Nat->Heap->Prop)(J:It)(H':Hp),c=.ref e/\Inv X a σ H' d/\jj X.prog X.w X.K tg J fp e f/\f 0 d.heap/\(∀b∈fp,fw X a H' b)/\R J H'
def PI(X:Cx)(tg iter:Expr)(b:TI):Prop:=
 ∀(a:List (Addr×Obj))(s:HF)(σ:St)(H:Hp)(R:It->Hp->Prop),Inv X a σ H s->b σ H R->
  wpAny (model X.prog X.w) X.A (eval iter X.env) (λv c=>wpAny (model X.prog X.w) X.A (pyIter v) (su X a σ tg R) X.xe c) X.xe s
theorem oH{M:QC}{A:IN}{E:HD->HF->Prop}{s:HF}{tg:Expr}{b:Addr}{u:HD}{o:Obj}{n:String}{vs:Array HD}{Q:Unit->HF->Prop}(c:s.heap.get? b=some o)(d:o.cls=.type n)(e:o.data=.fields vs)
 (f:["enumerate","zip","dict_itemiterator","dict_reverseitemiterator","odict_iterator","itertools.zip_longest","itertools.pairwise"].contains n=false) (a:Q () s):wpAny M A (letOwnedTupleGo tg (.ref b) u) Q E s:=by
 unfold letOwnedTupleGo;cases tg<;>first
  | exact HB a
  | (cases u<;>first
   | exact HB a
   | (refine Hz (wpAny_load c ?_)
      rw[d,e];show wpAny M A (if(["enumerate","zip","dict_itemiterator","dict_reverseitemiterator","odict_iterator","itertools.zip_longest","itertools.pairwise"].contains n&&vs[0]? == some (rawInt _))=true then _ else _) Q E s;rw[if_neg (by intro h;rw[f,Bool.false_and]at h;cases h)];exact HB a))
noncomputable def mN(K:HE)(a:Addr):It:=
 ⟨λi H=>∃b x,bv K H a b/\b[i]?=some x,λi H x c=>c=H/\∀b,bv K H a b->b[i]?=some x,λi H=>∃b,bv K H a b/\b.length<=i⟩
noncomputable def mO(K:HE)(a:Addr):It:=
 ⟨λi H=>∃b x,cD K H a b/\b[i]?=some x,λi H x c=>c=H/\∀b,cD K H a b->b[i]?=some x,λi H=>∃b,cD K H a b/\b.length<=i⟩
noncomputable def mP(lo:Int)(n:Nat):It:=⟨λi _=>i<n,λi H x a=>a=H/\x=.int (lo+i),λi _=>n<=i⟩
theorem sv{P:Ib}{w:IW}{K:HE}{tg:Expr}(a it:Addr):jj P w K tg (mN K a) [it] it (λi h=>h.IsListIter it a i) where
 mem:=by simp
 obj:=λi h st b hb=>by
  have e:b=it:=by simpa using hb
  subst e;obtain⟨o,e,c,d⟩:=st;exact⟨o,e,λv z=>by rw[d]at z;cases z⟩
 keep:=λi h h' st k=>st.at λo e=>k it (by simp) o e
 item:=by
  intro X hP hw hK hc i pins s σ H E I hf st hg;subst hP hw hK;obtain⟨xs,x,hq,hx⟩:=hg;obtain⟨its,rv,p,hz⟩:=I.list hq;obtain⟨u,hu,ru⟩:=rv.get hx;obtain⟨f0,f1,f2,f3,f4,f5⟩:=hf it (by simp);refine wpAny_pyNext_list_item st p.isList (x:=u) (by simpa using hu) λh' st' sb=>?_;have I1:Inv X pins σ H { s with heap:=h' }:=I.turned (t':=s.toks) (λb o hb e=>(sb.2 b hb).trans e) f0 f1 f3 f4 f5;obtain⟨o,e,c,d⟩:=id st';exact⟨u,rfl,oH (s:={ s with heap:=h' }) e c d (by decide) ⟨x,H,I1,ru,⟨rfl,λys hy=>by rw[I.list_inj hy hq];exact hx⟩,st',λb hb=>(hf b hb).1⟩⟩
 done:=by
  intro X hP hw hK hc i pins s σ H E I hf st hg;subst hP hw hK;obtain⟨xs,hq,hx⟩:=hg;obtain⟨its,rv,p,hz⟩:=I.list hq;obtain⟨f0,f1,f2,f3,f4,f5⟩:=hf it (by simp);have hl:=rv.length;exact wpAny_pyNext_list_end (I.ok.hd hc) st p.isList (by simp;omega) λh' eb=>⟨rfl,I.turned (t':=s.toks) (λb o hb e=>eb b o hb e) f0 f1 f3 f4 f5⟩
 self:=λ_ _ _ _ _ st h=>wpAny_pyIter_listiter st h
theorem sw{P:Ib}{w:IW}{K:HE}{tg:Expr}(a it:Addr):jj P w K tg (mO K a) [it] it (λi h=>h.IsTupleIter it a i) where
 mem:=by simp
 obj:=λi h st b hb=>by
  have e:b=it:=by simpa using hb
  subst e;obtain⟨o,e,c,d⟩:=st;exact⟨o,e,λv z=>by rw[d]at z;cases z⟩
 keep:=λi h h' st k=>st.at λo e=>k it (by simp) o e
 item:=by
  intro X hP hw hK hc i pins s σ H E I hf st hg;subst hP hw hK;obtain⟨xs,x,hq,hx⟩:=hg;obtain⟨its,rv,p,hz⟩:=I.tuple hq;obtain⟨u,hu,ru⟩:=rv.get hx;obtain⟨f0,f1,f2,f3,f4,f5⟩:=hf it (by simp);refine wpAny_pyNext_tuple_item st (show s.heap.IsTuple a its.toArray from p) (x:=u) (by simpa using hu) λh' st' sb=>?_;have I1:Inv X pins σ H { s with heap:=h' }:=I.turned (t':=s.toks) (λb o hb e=>(sb.2 b hb).trans e) f0 f1 f3 f4 f5;obtain⟨o,e,c,d⟩:=id st';exact⟨u,rfl,oH (s:={ s with heap:=h' }) e c d (by decide) ⟨x,H,I1,ru,⟨rfl,λys hy=>by rw[I.tuple_inj hy hq];exact hx⟩,st',λb hb=>(hf b hb).1⟩⟩
 done:=by
  intro X hP hw hK hc i pins s σ H E I hf st hg;subst hP hw hK;obtain⟨xs,hq,hx⟩:=hg;obtain⟨its,rv,p,hz⟩:=I.tuple hq;obtain⟨f0,f1,f2,f3,f4,f5⟩:=hf it (by simp);have hl:=rv.length;exact wpAny_pyNext_tuple_end (I.ok.hd hc) st (show s.heap.IsTuple a its.toArray from p) (by simp;omega) λh' eb=>⟨rfl,I.turned (t':=s.toks) (λb o hb e=>eb b o hb e) f0 f1 f3 f4 f5⟩
 self:=λ_ _ _ _ _ st h=>wpAny_pyIter_tupleiter st h
theorem yr{P:Ib}{w:IW}{K:HE}{tg:Expr}(it:Addr)(lo:Int)(n:Nat):jj P w K tg (mP lo n) [it] it (λi h=>IsRangeIter h it (lo+(i:Nat)*1) ((n:Int) - (i:Nat)) 1) where
 mem:=by simp
 obj:=λi h st b hb=>by
  have e:b=it:=by simpa using hb
  subst e;exact⟨_,st,λv z=>by
   have z':Data.fields _=Data.cell v:=z;cases z'⟩
 keep:=λi h h' st k=>k it (by simp) _ st
 item:=by
  intro X hP hw hK hc i pins s σ H E I hf st hg;subst hP hw hK;obtain⟨f0,f1,f2,f3,f4,f5⟩:=hf it (by simp);have W:=Qz.range (prog:=X.prog) (w:=X.w) (I.ok.hd hc) it lo 1 n;refine W.item i s _ _ hg st λv h' tk hv st' kk=>?_;obtain⟨t,rfl⟩:=hv;have I1:Inv X pins σ H { s with heap:=h',toks:=tk }:=I.turned (λb o hb e=>kk b o (by simpa using hb) e) f0 f1 f3 f4 f5;refine⟨_,rfl,oH (s:={ s with heap:=h',toks:=tk }) (n:="range_iterator") st' rfl rfl (by decide) ⟨.int (lo+i),H,I1,⟨t,?_⟩,⟨rfl,rfl⟩,st',λb hb=>(hf b hb).1⟩⟩;rw[Int.mul_one]
 done:=by
  intro X hP hw hK hc i pins s σ H E I hf st hg;subst hP hw hK;obtain⟨f0,f1,f2,f3,f4,f5⟩:=hf it (by simp);exact wpAny_pyNext_range_end (I.ok.hd hc) st (by have:n<=i:=hg;omega) λh' eb=>⟨rfl,I.turned (t':=s.toks) (λb o hb e=>eb b o hb e) f0 f1 f3 f4 f5⟩
 self:=λ_ _ _ _ _ st h=>wpAny_pyIter_rangeiter st h
section
variable{X:Cx}{tg:Expr}
noncomputable def yt(K:HE)(c:TE):TI:=λd H R=>c d H λx b=>∃a,x=.ref a/\(∃e,bv K b a e)/\R (mN K a) b
noncomputable def yw(K:HE)(c:TE):TI:=λd H R=>c d H λx b=>∃a,x=.ref a/\(∃e,cD K b a e)/\R (mO K a) b
theorem yx{l:Expr}{g:TE}(i:PE X l g):PI X tg l (yt X.K g):=by
 intro c s j H R I h;refine aP (i c s j H _ I h) λv d m=>?_;obtain⟨x,n,f,r,u⟩:=m;obtain⟨a,e,⟨A,w⟩,q⟩:=u;subst e;cases r;obtain⟨y,B,p,C⟩:=f.list w;refine JY p.isList ?_;refine⟨d.heap.objs.size,[d.heap.objs.size],_,_,n,rfl,f.kept (t':=d.toks) λb o e=>HA _ e,sv a _,⟨_,HI _ rfl,rfl,rfl⟩,λb z=>?_,q⟩;have e:b=d.heap.objs.size:=by simpa using z
 subst e;exact f.fpOk (HG _) (f.hok.fresh (HG _))
theorem yy{l:Expr}{i:TE}(j:PE X l i):PI X tg l (yw X.K i):=by
 intro c s m H R I h;refine aP (j c s m H _ I h) λv d n=>?_;obtain⟨x,r,f,u,w⟩:=n;obtain⟨a,e,⟨A,y⟩,q⟩:=w;subst e;cases u;obtain⟨g,B,p,C⟩:=f.tuple y;refine Me (show d.heap.IsTuple a g.toArray from p) ?_;refine⟨d.heap.objs.size,[d.heap.objs.size],_,_,r,rfl,f.kept (t':=d.toks) λb o e=>HA _ e,sw a _,⟨_,HI _ rfl,rfl,rfl⟩,λb z=>?_,q⟩;have e:b=d.heap.objs.size:=by simpa using z
 subst e;exact f.fpOk (HG _) (f.hok.fresh (HG _))
theorem yz{d:List (Addr×Obj)}{σ:St}{H:Hp}{s:HF}{R:It->Hp->Prop}{E:HD->HF->Prop}{lo c:Int}{t u v:Tok}{h:Nat}(I:Inv X d σ H s)(j : -(2 ^ 62)<=lo)(l:lo<2 ^ 62)(m : -(2 ^ 62)<=c)(n:c<2 ^ 62)
 (q:R (mP lo (c - lo).toNat) H):wpAny (model X.prog X.w) X.A (pyIter (.ref s.heap.objs.size)) (su X d σ tg R) E { s with heap:=s.heap.push { cls:=.type "range",data:=.fields #[.int lo t,.int c u,.int 1 v] },toks:=h }:=by
 refine wpAny_pyIter_range (IsRange.new ..) (small_one j l m n) ?_;have i:Inv X d σ H { s with heap:=s.heap.push { cls:=.type "range",data:=.fields #[.int lo t,.int c u,.int 1 v] },toks:=h }:=I.kept λb o e=>HA _ e;refine⟨(s.heap.push { cls:=.type "range",data:=.fields #[.int lo t,.int c u,.int 1 v] }).objs.size,[(s.heap.push { cls:=.type "range",data:=.fields #[.int lo t,.int c u,.int 1 v] }).objs.size],_,_,H,rfl,
  i.kept (t':=h) λb o e=>HA _ e,yr _ lo (c - lo).toNat,?_,λb p=>?_,q⟩
 ·have r:lo+((0:Nat):Int)*1=lo:=by simp
  have x:(((c - lo).toNat:Nat):Int) - ((0:Nat):Int)=NY lo c 1:=by rw[rangeSize_one];split<;>omega
  show IsRangeIter _ _ (lo+((0:Nat):Int)*1) ((((c - lo).toNat:Nat):Int) - ((0:Nat):Int)) 1;rw[r,x];exact HI _ rfl
 ·have e:b=(s.heap.push { cls:=.type "range",data:=.fields #[.int lo t,.int c u,.int 1 v] }).objs.size:=by simpa using p
  subst e;exact i.fpOk (HG _) (i.hok.fresh (HG _))
noncomputable def iRng1(a:TA):TI:=λb H R=>a b H λc d=>∃j:Int,c=[.int j]/\-(2 ^ 62)<=j/\j<2 ^ 62/\R (mP 0 j.toNat) d
theorem yA{a:Expr}{f:TA}{p b:Pos}(g:Gl X "range")(i:X.mg "range" = none)(l:PA X [a] f)(hs:starEach [a] X.env=[(false,eval a X.env)]:=by rfl):PI X tg (.Call (.Name "range" p) [a] [] b) (iRng1 f):=by
 intro c s m H R I h;refine NA (S6 I g i boot_range (JP (aP (l b c s m H _ I h) λx y n=>?_) hs rfl));obtain⟨z,A,o,u,d⟩:=n;obtain⟨j,e,d,v,q⟩:=d;subst e;cases u with
 | cons r w=>
   cases w;obtain⟨t,rfl⟩:=r;exact call_range_1 (yz o (by omega) (by omega) d v (by simpa using q))
noncomputable def yB(f:TI)(g:TG)(tb:TS):TS:=λD a H=>f a H λJ h=>∃W:Nat->Nat->St->Hp->Prop,(∃m,W 0 m a h)/\∀i m a H,W i m a H->
 (J.stop i H/\D.nx a H)\/(J.go i H/\∃N:St->Hp->Prop,(∀b c,N b c->∃e,e<m/\W (i+1) e b c)/\∀x c,J.yld i H x c->g x a c λd j=>tb { D with nx:=N,ct:=N,bk:=D.nx } d j)
noncomputable def kM(fp:List Addr)(h:Heap):List (Addr×Obj):=fp.filterMap λb=>(h.get? b).map λo=>(b,o)
theorem f8{fp:List Addr}{h:Heap}{b:Addr}{o:Obj}(a:b∈fp)(e:h.get? b=some o):(b,o)∈kM fp h:=Lf.mpr ⟨b,a,by rw[e];rfl⟩
theorem yC{fp:List Addr}{h:Heap}{p:Addr×Obj}(a:p∈kM fp h):p.1∈fp/\h.get? p.1=some p.2:=by
 obtain⟨b,c,e⟩:=Lf.mp a;cases q:h.get? b with
 | none=>rw[q]at e;cases e
 | some o=>
   rw[q]at e;have d:(b,o)=p:=Iv e;subst d;exact⟨c,q⟩
theorem Inv.pinned{a:List (Addr×Obj)}{σ:St}{H:Hp}{s:HF}{fp:List Addr}(I:Inv X a σ H s)(g:∀b∈fp,fw X a H b)(h:∀b∈fp,∃o,s.heap.get? b=some o/\∀v,o.data≠.cell v):Inv X (a++kM fp s.heap) σ H s:=
 I.pins_of λp i=>(Ir.mp i).elim (λz=>I.pin p (IF _ z)) λz=>by
  obtain⟨c,e⟩:=yC z;obtain⟨j,l,m,_⟩:=g p.1 c;obtain⟨o,f,d⟩:=h p.1 c;rw[e]at f;cases f;exact⟨e,j,l,m,d⟩
theorem Inv.unpinned{a pl:List (Addr×Obj)}{σ:St}{H:Hp}{s:HF}(I:Inv X (a++pl) σ H s):Inv X a σ H s:=I.pins_of λp b=>I.pin p (IF _ (Jo _ b))
theorem yD{iter:Expr}{B:List Stmt}{wi:TI}{g:TG}{tb:TS}{a2:Pos}(L:Qk (model X.prog X.w) X.A X.env X.xe)(hc:X.calm=true)(hi:PI X tg iter wi)(hg:PG X tg g)(j:bL X B tb)
 (hs:∀x,foldedSetIterable iter X.env x=pure x:=by intro _;rfl):PS X (.For tg iter B [] a2) (yB wi g tb):=by
 intro a s σ H D I h;refine wpAny_For (aP (hi a s σ H _ I h) λv s1 h1=>aP h1 λe0 s2 h2=>?_) hs;obtain⟨it,O,tn,J,H2,e,I2,T,a3,f2,W,⟨m0,w0⟩,Q⟩:=h2;subst e;have l:∀{H':Hp},(∀b∈O,H' b=none)->∀b∈O,fw X a H' b:=λhn b j=>⟨hn b j,(f2 b j).2⟩;refine codeAny_forLoop_any (λn s'=>∃i p H',Inv X a p H' s'/\tn i s'.heap/\(∀b∈O,H' b=none)/\W i n p H') ?_ m0 ⟨0,σ,H2,I2,a3,λb j=>(f2 b j).1,w0⟩;rintro n s3 ⟨i,q,H3,I3,U,Y,w3⟩;rcases Q i n q H3 w3 with⟨Z,qn⟩ | ⟨go,N,hN,step⟩
 ·refine KH L (aP (T.done X rfl rfl rfl hc i a s3 q H3 X.xe I3 (l Y) U Z) λr s4 E=>?_);obtain⟨hr,I4⟩:=E;subst hr;exact Li ⟨q,H3,I4,qn⟩
 ·refine KH L (aP (T.item X rfl rfl rfl hc i a s3 q H3 X.xe I3 (l Y) U go) λr s4 E=>?_);obtain⟨u,hr,h4⟩:=E;subst hr;refine KH L (aP h4 λ_ s5 E=>?_);obtain⟨x,H5,I5,r5,y5,G,a5⟩:=E;have a6:=I5.pinned (l a5) (T.obj _ _ G);refine KH L (aP (hg _ s5 q H5 x u _ a6 r5 (step x H5 y5)) λ_ s6 E=>?_);obtain⟨a7,H6,I6,q6⟩:=E;refine KH L (aP (j _ s6 a7 H6 _ I6 q6) λf s7 C=>?_);have again:∀{c:St}{y:Hp},Inv X (a++kM O s5.heap) c y s7->N c y->∃m,m<n/\∃i p H',Inv X a p H' s7/\tn i s7.heap/\(∀b∈O,H' b=none)/\W i m p H':=λ{c y} z n7=>by
   obtain⟨m',hm,w7⟩:=hN c y n7;refine⟨m',hm,i+1,c,y,z.unpinned,T.keep _ _ _ G λb j o e=>(z.pin (b,o) (IF _ (IF _ (f8 j e)))).1,λb j=>?_,w7⟩;obtain⟨o,e,d⟩:=T.obj _ _ G b j;exact(z.pin (b,o) (IF _ (IF _ (f8 j e)))).2.1
  cases f with
  | next=>obtain⟨c,y,z,n7⟩:=C;exact again z n7
  | cont=>obtain⟨c,y,z,n7⟩:=C;exact again z n7
  | brk=>obtain⟨c,y,z,C⟩:=C;exact⟨c,y,z.unpinned,C⟩
  | ret v=>obtain⟨x7,c,y,z,r7,C⟩:=C;exact⟨x7,c,y,z.unpinned,r7,C⟩
end
abbrev R2:=V->V->Hp->VK->Prop
def bY(X:Cx)(f:HD->HD->Sem HD)(r:R2):Prop:=
 ∀(a:List (Addr×Obj))(s:HF)(σ:St)(H:Hp)(x y:V)(v u:HD)(Q:VK),Inv X a σ H s->RelV x v->RelV y u->r x y H Q->
  wpAny (model X.prog X.w) X.A (f v u) (EP X a σ Q) X.xe s
def oI(X:Cx)(f:HD->Sem HD)(r:V->Hp->VK->Prop):Prop:=
 ∀(a:List (Addr×Obj))(s:HF)(σ:St)(H:Hp)(x:V)(v:HD)(Q:VK),Inv X a σ H s->RelV x v->r x H Q->
  wpAny (model X.prog X.w) X.A (f v) (EP X a σ Q) X.xe s
def bo(X:Cx)(f:HD)(r:List V->Hp->VK->Prop):Prop:=
 ∀(a:List (Addr×Obj))(s:HF)(σ:St)(H:Hp)(xs:List V)(us:List HD)(Q:VK),Inv X a σ H s->aE xs us->r xs H Q->
  wpAny (model X.prog X.w) X.A (call f us) (EP X a σ Q) X.xe s
noncomputable def kN(r:R2)(b tb:TE):TE:=λa H Q=>b a H λx c=>tb a c λy d=>r x y d Q
noncomputable def yE(r:V->Hp->VK->Prop)(a:TE):TE:=λb H Q=>a b H λx c=>r x c Q
noncomputable def rI(C:Int->Int->Prop)(g:Int->Int->V):R2:=λx y H Q=>∃i j,x=.int i/\y=.int j/\C i j/\Q (g i j) H
noncomputable def fx(g:Int->Int->V):R2:=λx y H Q=>∃i j,x=.int i/\y=.int j/\Q (g i j) H
noncomputable def rU(g:Int->V):V->Hp->VK->Prop:=λx H Q=>∃i,x=.int i/\Q (g i) H
section
variable{X:Cx}{a b c:Expr}{ta tb tc:TE}{pos:Pos}
theorem oJ(n:PE X a ta)(o:PE X b tb){d:List (Addr×Obj)}{s:HF}{σ:St}{H:Hp}{R:V->V->Hp->Prop}(I:Inv X d σ H s)
 (h:ta σ H λx l=>tb σ l λy e=>R x y e) {Q:HD->HF->Prop} {f:HD->HD->Sem HD}
 (p:∀v u j x y e,Inv X d σ e j->RelV x v->RelV y u->R x y e->wpAny (model X.prog X.w) X.A (f v u) Q X.xe j) :
 wpAny (model X.prog X.w) X.A (eval a X.env) (λv g=>wpAny (model X.prog X.w) X.A (eval b X.env) (λu i=>wpAny (model X.prog X.w) X.A (f v u) Q X.xe i) X.xe g) X.xe s:=by
 refine aP (n d s σ H _ I h) λv q m=>?_;obtain⟨x,l,r,z,B⟩:=m;refine aP (o d q σ l _ r B) λu j m=>?_;obtain⟨y,e,C,D,E⟩:=m;exact p v u j x y e C z D E
theorem yF{e:Operator}{r:R2}(f:bY X (binaryOp e) r)(g:PE X a ta)(i:PE X b tb):PE X (.BinOp a e b pos) (kN r ta tb):=by
 intro d s j H Q I h;exact wpAny_BinOp (oJ g i I h λv u l x y m n o p q=>f d l j m x y v u Q n o p q)
theorem yG{e:UnaryOp}{r:V->Hp->VK->Prop}(g:oI X (unaryOp e) r)(i:PE X a ta):PE X (.UnaryOp e a pos) (yE r ta):=by
 intro d s f H Q I h;exact UnaryOp_ (aP (i d s f H _ I h) λv j ⟨x,l,m,n,o⟩=>g d j f l x v Q m n o)
theorem oK{f:HD->HD->Sem HD}{C:Int->Int->Prop}{g:Int->Int->Int}
 (rule:∀(i j:Int)(t u:Tok)(s:HF)(Q:HD->HF->Prop)(E:HD->HF->Prop),C i j->Q (.int (g i j) s.toks) { s with toks:=s.toks+1 }->wpAny (model X.prog X.w) X.A (f (.int i t) (.int j u)) Q E s) :
 bY X f (rI C λi j=>.int (g i j)):=by
 intro d s o H x y v u Q I e l h;obtain⟨i,j,rfl,rfl,m,q⟩:=h;obtain⟨t,rfl⟩:=e;obtain⟨n,rfl⟩:=l;exact rule i j t n s _ _ m ⟨.int (g i j),H,I.tok _,⟨_,rfl⟩,q⟩
theorem sx{f:HD->HD->Sem HD}{g:Int->Int->Int}
 (rule:∀(i j:Int)(t u:Tok)(s:HF)(Q:HD->HF->Prop)(E:HD->HF->Prop),Q (.int (g i j) s.toks) { s with toks:=s.toks+1 }->wpAny (model X.prog X.w) X.A (f (.int i t) (.int j u)) Q E s) :
 bY X f (fx λi j=>.int (g i j)):=by
 intro d s n H x y v u Q I e l h;obtain⟨i,j,rfl,rfl,q⟩:=h;obtain⟨t,rfl⟩:=e;obtain⟨m,rfl⟩:=l;exact rule i j t m s _ _ ⟨.int (g i j),H,I.tok _,⟨_,rfl⟩,q⟩
theorem mQ{f:HD->HD->Sem HD}{g:Int->Int->Bool}
 (rule:∀(i j:Int)(t u:Tok)(s:HF)(Q:HD->HF->Prop)(E:HD->HF->Prop),Q (.bool (g i j)) s->wpAny (model X.prog X.w) X.A (f (.int i t) (.int j u)) Q E s) :
 bY X f (fx λi j=>.bl (g i j)):=by
 intro d s n H x y v u Q I e l h;obtain⟨i,j,rfl,rfl,q⟩:=h;obtain⟨t,rfl⟩:=e;obtain⟨m,rfl⟩:=l;exact rule i j t m s _ _ ⟨.bl (g i j),H,I,rfl,q⟩
def sy(i j:Int):Prop:=0<j/\j<1073741824
def gZ(i j:Int):Prop:=(-(2 ^ 64)<i/\i<2 ^ 64)\/(-(2 ^ 64)<j/\j<2 ^ 64)
theorem gZ.ok{i j:Int}(h:gZ i j):IntMulOk i j:=by
 rcases h with⟨d,e⟩ | ⟨d,e⟩
 ·exact .of_left (intBits_le_64 d e)
 ·exact .of_right (intBits_le_64 d e)
theorem op_add:bY X (binaryOp .Add) (fx λi j=>.int (i+j)):=sx λ_ _ _ _ _ _ _ q=>add_int q
theorem yH:bY X (binaryOp .Sub) (fx λi j=>.int (i - j)):=sx λ_ _ _ _ _ _ _ q=>sub_int q
theorem mR:bY X (binaryOp .Mult) (rI gZ λi j=>.int (i*j)):=oK λ_ _ _ _ _ _ _ d q=>mul_int q d.ok
theorem sA:bY X (binaryOp .FloorDiv) (rI sy λi j=>.int (i / j)):=oK λi j _ _ _ _ _ d q=>by
 have e:(0:Int)<j:=d.1;have f:j<1073741824:=d.2;exact floordiv_int (by omega) (by rw[Int.fdiv_eq_ediv_of_nonneg i (by omega)];exact q) (.inl (PyProof.noPylong_small (by omega)))
theorem bz:bY X (binaryOp .Mod) (rI (λ_ j=>0<j) λi j=>.int (i%j)):=oK λi j _ _ _ _ _ d q=>by
 have e:(0:Int)<j:=d;exact mod_int' (by omega) (by rw[Int.fmod_eq_emod_of_nonneg i (by omega)];exact q)
theorem yI{f:HD->Sem HD}{g:Int->Int}
 (rule:∀(i:Int)(t:Tok)(s:HF)(Q:HD->HF->Prop)(E:HD->HF->Prop),Q (.int (g i) s.toks) { s with toks:=s.toks+1 }->wpAny (model X.prog X.w) X.A (f (.int i t)) Q E s) :
 oI X f (rU λi=>.int (g i)):=by
 intro d s j H x v Q I e h;obtain⟨i,rfl,q⟩:=h;obtain⟨t,rfl⟩:=e;exact rule i t s _ _ ⟨.int (g i),H,I.tok _,⟨_,rfl⟩,q⟩
theorem yJ:oI X (unaryOp .USub) (rU λi=>.int (-i)):=yI λ_ _ _ _ _ q=>neg_int q
theorem iK:bY X (compareOp .Lt) (fx λi j=>.bl (decide (i<j))):=mQ λ_ _ _ _ _ _ _ q=>lt_int q
theorem oM:bY X (compareOp .LtE) (fx λi j=>.bl (decide (i<=j))):=mQ λ_ _ _ _ _ _ _ q=>le_int q
theorem kO:bY X (compareOp .Gt) (fx λi j=>.bl (decide (j<i))):=mQ λ_ _ _ _ _ _ _ q=>gt_int q
theorem yK:bY X (compareOp .GtE) (fx λi j=>.bl (decide (j<=i))):=mQ λ_ _ _ _ _ _ _ q=>ge_int q
theorem bY.or{f:HD->HD->Sem HD}{r e:R2}(h:bY X f r)(h':bY X f e):bY X f (λx y H Q=>r x y H Q\/e x y H Q):=by
 intro d s g H x y v u Q I i j q;rcases q with q | q
 ·exact h d s g H x y v u Q I i j q
 ·exact h' d s g H x y v u Q I i j q
theorem E1(b:Expr){d:Qj}(h:d≠.In:=by decide)(e:d≠.NotIn:=by decide):behindInMarks d b=false:=by
 have f:(d == Qj.In)=false:=by cases d<;>first | rfl | exact absurd rfl h
 have g:(d == Qj.NotIn)=false:=by cases d<;>first | rfl | exact absurd rfl e
 cases b<;>simp[behindInMarks,f,g]
theorem yL{e:Qj}{r:R2}(f:bY X (compareOp e) r)(g:PE X a ta)(i:PE X b tb)(j:behindInMarks e b=false):PE X (.Compare a [e] [b] pos) (kN r ta tb):=by
 intro d s l H Q I h;exact wpAny_Compare1 (oJ g i I h λv u m x y n o p w q=>f d m l n x y v u Q o p w q) j
noncomputable def sB(t:TE):TT:=λd H Q=>t d H λx e=>∃k,x=.bl k/\Q k e
theorem yM{f:Qj}{r:R2}(i:bY X (compareOp f) r)(j:PE X a ta)(l:PE X b tb)(m:behindInMarks f b=false):PT X (.Compare a [f] [b] pos) (sB (kN r ta tb)):=by
 intro d s g H Q I h;refine OI (aP (j d s g H _ I h) λv n ⟨x,o,p,q,w⟩=>aP (l d n g o _ p w) λu A ⟨y,B,C,D,E⟩=>
  aP (i d A g B x y v u _ C q D E) λc O ⟨z,G,J,L,k,e,N⟩=>?_) m
 subst e;cases L;exact JJ ⟨G,J,N⟩
noncomputable def sC(r f:R2)(ta tb tc:TE):TE:=λd H Q=>ta d H λx g=>tb d g λy h=>r x y h λz e=>∃k,z=.bl k/\
 (if k=true then tc d e λi j=>f y i j Q else Q (.bl false) e)
theorem yN{j g:Qj}{r m:R2}(w:bY X (compareOp j) r)(l:bY X (compareOp g) m)(A:PE X a ta)(B:PE X b tb)(C:PE X c tc)
 (D:lastMarks [j,g] [b,c]=false:=by with_unfolding_all rfl):PE X (.Compare a [j,g] [b,c] pos) (sC r m ta tb tc):=by
 intro f s i H Q I h;refine Compare_chain (aP (A f s i H _ I h) λv E ⟨x,G,J,L,N⟩=>chain_link (aP (B f E i G _ J N) λu O ⟨y,T,U,n,Y⟩=>
  aP (w f O i T x y v u _ U L n Y) λd Z ⟨z,o,p,r3,k,e,q⟩=>?_)) D
 subst e;cases r3;refine JJ ?_;cases k with
 | false=>exact ite_ff ⟨.bl false,o,p,rfl,q⟩
 | true=>exact ite_tt (chain_last (aP (C f Z i o _ p q) λw' s4 ⟨z',H4,I4,r4,q4⟩=>l f s4 i H4 y z' u w' Q I4 n r4 q4))
theorem oN:(sizeLine:Nat)<2 ^ 63:=by rw[JH];decide
theorem l9{x:V}{us:List HD}(r:aE [x] us):∃u,us=[u]/\RelV x u:=by
 cases r with
 | cons d e=>cases e;exact⟨_,rfl,d⟩
theorem mS{x y:V}{us:List HD}(r:aE [x,y] us):∃u d,us=[u,d]/\RelV x u/\RelV y d:=by
 cases r with
 | cons e f=>
   cases f with
   | cons g h=>cases h;exact⟨_,_,rfl,e,g⟩
end
structure eR(h:Heap)(x dx C:Addr)(mA:Str->Option HD):Prop where
 obj:h.get? x=some (Kt C dx)
 ns:h.Ns1 dx mA
 ne:dx≠x
theorem yO{h:Heap}{d:Addr}{f:Str->Option HD}(n:h.Ns1 d f):∃g,h.get? d=some g/\∀b,ND b g=some (f b):=by
 obtain⟨o,i,u,j,l,m,_,p⟩:=n;refine⟨o,j,λb=>?_⟩;have e:=p b;unfold nsFind findBy at e;rw[←Array.find?_toList]at e;unfold ND;rw[l];dsimp only;split
 ·rename_i y q;rw[q]at e;exact congrArg some e
 ·rename_i q;rw[q]at e;have a:i.toList.any (·.refKey)=false:=by
   rw[List.any_eq_false];intro y r;obtain⟨z,t,c⟩:=m y (Array.mem_toList_iff.mp r);simp[NL.refKey,c]
  have s:¬i.toList.any (·.refKey)=true:=by rw[a];exact IP
  rw[if_neg s];exact congrArg some e
theorem eR.look{h:Heap}{x c C:Addr}{d:Str->Option HD}(I:eR h x c C d):∃b,PySem.W.InstAt h x (Kt C c) C (some b)/\∀a,ND a b=some (d a):=
 let⟨b,e,f⟩:=yO I.ns
 ⟨b,⟨I.obj,rfl,rfl,e⟩,f⟩
section
variable{prog:Ib}{w:IW}{A:IN}{E:HD->HF->Prop}{s:HF}{K:HE}{x dx C f:Addr}{mA:Str->Option HD}{name:Str}{v:HD}
theorem yP{a:Bool}{Q:HD->HF->Prop}(X:K.In s.heap)(I:eR s.heap x dx C mA)(c:ML K C name=true)(d:NM K C=true)
 (e:Ka K (.ref C) name=some none) (g:mA name=some v) (b:PySem.W.handedIn v=true) (h:Q v { s with toks:=s.toks+1 }) :
 wpAny (model prog w) A (getAttr (.ref x) name a) Q E s:=by
 obtain⟨j,J,i⟩:=I.look;exact PySem.W.get_value X J (Nf c).1 (PySem.W.findObj_own d e rfl (by rw[i,g])) b h
theorem yQ{pl:Sem Bool}{Q:HD×List HD->HF->Prop}(X:K.In s.heap)(I:eR s.heap x dx C mA)(a:ML K C name=true)
 (b:Ka K (.ref C) name=some (some (.ref f))) (c:PY K (.ref f)=true) (d:mA name=none) (h:Q (.ref f,[.ref x]) s) :
 wpAny (model prog w) A (getMethod (.ref x) name pl) Q E s:=by
 obtain⟨e,J,g⟩:=I.look;exact PySem.W.method_fn X J (Nf a).1 (Nf a).2 b (beq_iff_eq.mp c) (by show(ND name e).map (·.isSome)=some false;rw[g,d];rfl) h
theorem yR{ns:List Str}{Q:Unit->HF->Prop}(X:K.In s.heap)(I:eR s.heap x dx C mA)
 (hs:Ka K (.ref C) "__setattr__" = some (some (.builtin "object.__setattr__"))) (hp:PySem.W.plainOver K C=true) (ht:OJ K C name=some none) (hh:NM K C=true)
 (hw:Nw mA ns) (hsz:ns.length<=sizeLine)
 (h:∀h',eR h' x dx C (λy=>if y=name then some v else mA y)->Jr dx s.heap h'->Q () { s with heap:=h',toks:=s.toks+2 }) :
 wpAny (model prog w) A (setAttr (.ref x) name v) Q E s:=by
 obtain⟨od,J,hl⟩:=I.look;refine PySem.W.set_plain X J hs (PySem.W.osa_open (s:={ s with toks:=s.toks+1 }) (r:=none) X J hp ht λb=>?_);obtain⟨cd,hc,hd'⟩:=PySem.W.any_some hh;have hx:s.heap.get? x=some ⟨.ref C,some dx,.plain,#[]⟩:=I.obj;refine Hz (HB (Hz (Hz (wpAny_loadPart hx (Hz (PySem.W.Looks.here (s:={ s with toks:=s.toks+1 }) (PySem.W.looks_clsIn X hc) ?_))))));rw[hd'];refine HB (a:=some dx) (Hz (HB (Hz ?_)));refine wpAny_nsSet1 (s:={ s with toks:=s.toks+1 }) I.ns λh' hn2 hs2=>?_;obtain⟨oD,esD,epD,hoD,hdD,hcD⟩:=hn2.count (Nw.cons name v hw);refine Hz (wpAny_lookBehind hoD (by rw[hdD];exact pastItsLine_dict (Ih hcD (by rw[Il];omega))) ?_);exact HB (h _ ⟨(hs2.2 _ (JX I.ne)).trans I.obj,hn2,I.ne⟩ hs2)
theorem yS{R:PL->HF->Prop}{vs:List HD}{b:List (Str×HD)}(X:K.In s.heap)(e:PySem.W.makesIn K C=true)
 (i:Ka K (.ref C) "__init__" = some (some (.ref f))) (j:PySem.W.typeIn K (.ref f)=some (.type "function"))
 (h:codeAny (model prog w) (A.under (.builtin "type.__call__" ⟨.ref C::vs,b⟩)) (.call (.ref f) ⟨.ref (s.heap.objs.size+1)::vs,b⟩) (PySem.W.InitBack (s.heap.objs.size+1) R)
  { s with heap:=(s.heap.push JK).push (Kt C s.heap.objs.size) }) :
 codeAny (model prog w) A (.call (.ref C) ⟨vs,b⟩) R s:=by
 obtain⟨l,g,d,t,os⟩:=s;exact PySem.W.make_core (PySem.W.makes_of X e) (OW X i) (λa=>PySem.W.bind_fn X a j) (.inl rfl) h
end
noncomputable def Z2(f:Str)(v:V):List (Str×V)->List (Str×V)
 | []=>[(f,v)]
 | (g,x)::r=>if g=f then(g,v)::r else(g,x)::Z2 f v r
theorem sD(f g:Str)(v:V):∀fs:List (Str×V),(Z2 f v fs).lookup g=if g=f then some v else fs.lookup g
 | []=>by
   show Lj g [(f,v)]=_;by_cases h:g=f
   ·have a:(g == f)=true:=beq_iff_eq.mpr h;simp only[Lj,a,if_pos h]
   ·have a:(g == f)=false:=beq_eq_false_iff_ne.mpr h;simp only[Lj,a,if_neg h]
 | (k,x)::r=>by
   have ih:=sD f g v r;rw[show Z2 f v ((k,x)::r)=(if k=f then(k,v)::r else(k,x)::Z2 f v r)from rfl];by_cases b:k=f
   ·rw[if_pos b];by_cases h:g=k
    ·have a:(g == k)=true:=beq_iff_eq.mpr h;simp only[Lj,a,if_pos (h.trans b)]
    ·have a:(g == k)=false:=beq_eq_false_iff_ne.mpr h;simp only[Lj,a,if_neg (λe:g=f=>h (e.trans b.symm))]
   ·rw[if_neg b];by_cases h:g=k
    ·have a:(g == k)=true:=beq_iff_eq.mpr h;simp only[Lj,a,if_neg (λe:g=f=>b (h.symm.trans e))]
    ·have a:(g == k)=false:=beq_eq_false_iff_ne.mpr h;simp only[Lj,a];exact ih
theorem oO(f:Str)(v:V):∀fs:List (Str×V),f∈(Z2 f v fs).map (·.1)/\∀g,g∈fs.map (·.1)->g∈(Z2 f v fs).map (·.1)
 | []=>⟨by simp[Z2],λg h=>by simp at h⟩
 | (k,x)::r=>by
   obtain⟨b,c⟩:=oO f v r;rw[show Z2 f v ((k,x)::r)=(if k=f then(k,v)::r else(k,x)::Z2 f v r)from rfl];by_cases a:k=f
   ·rw[if_pos a];subst a;exact⟨by simp,λg h=>by simpa using h⟩
   ·rw[if_neg a];refine⟨?_,λg h=>?_⟩
    ·rw[Ic];exact HR _ b
    ·rw[Ic]at h ⊢;rcases HK.mp h with e | e
     ·exact HK.mpr (.inl e)
     ·exact HR _ (c g e)
theorem sE(f:Str)(v:V):∀fs:List (Str×V),(Z2 f v fs).length<=fs.length+1
 | []=>by simp[Z2]
 | (k,x)::r=>by
   have ih:=sE f v r;rw[show Z2 f v ((k,x)::r)=(if k=f then(k,v)::r else(k,x)::Z2 f v r)from rfl];by_cases a:k=f
   ·rw[if_pos a,Il,Il];omega
   ·rw[if_neg a,Il,Il];omega
theorem bC.some_of{v:V}{o:Option HD}(r:bC (some v) o):∃u,o=some u/\RelV v u:=by
 cases o with
 | none=>exact(show False from r).elim
 | some u=>exact⟨u,rfl,r⟩
theorem bC.none_of{o:Option HD}(r:bC none o):o=none:=by
 cases o with
 | none=>rfl
 | some u=>exact(show False from r).elim
theorem yT{v:V}{u:HD}(r:RelV v u):PySem.W.handedIn u=true:=by
 cases v with
 | non=>cases(show u=Iu from r);rfl
 | bl b=>cases(show u=Nd b from r);rfl
 | int i=>obtain⟨t,e⟩:=(show ∃t,u=Kz i t from r);cases e;rfl
 | str x=>obtain⟨t,e⟩:=(show ∃t,u=PJ x t from r);cases e;rfl
 | byt b=>obtain⟨t,e⟩:=(show ∃t,u=HD.bytes b t from r);cases e;rfl
 | flt b=>obtain⟨t,e⟩:=(show ∃t,u=Qi b t from r);cases e;rfl
 | ref a=>cases(show u=HW a from r);rfl
 | ty n=>cases(show u=HD.type n from r);rfl
section
variable{P:Ib}{w:IW}{H H':Hp}{h h':Heap}{a C dx:Addr}{fs fs':List (Str×V)}
theorem mT(c:bK P w H h)(e:H a=some (.ins C dx fs)):∃b,eR h a dx C b/\(∀f,bC (fs.lookup f) (b f))/\Nw b (fs.map (·.1))/\fs.length<=1000/\H dx=some (.own a):=by
 obtain⟨d,z,ne,g,b,n,r,q⟩:=(show aO P w H h a (.ins C dx fs)from c a _ e);exact⟨b,⟨g,n,ne⟩,r,q,z,d⟩
end
structure eu(K:HE)(C:Addr):Prop where
 pg:ML K C Str.empty=true
 hd:NM K C=true
 po:PySem.W.plainOver K C=true
 sa:Ka K (.ref C) "__setattr__" = some (some (.builtin "object.__setattr__"))
theorem eu.get{K:HE}{C:Addr}(c:eu K C)(f:Str):ML K C f=true:=c.pg
def bA(K:HE)(C:Addr)(f:Str):Prop:=Ka K (.ref C) f=some none
theorem bA.taker{K:HE}{C:Addr}{f:Str}(n:bA K C f):OJ K C f=some none:=by
 unfold OJ;rw[show Ka K (.ref C) f=some none from n];rfl
structure iL(K:HE)(C:Addr)(m:Str)(f:Addr):Prop where
 at_:Ka K (.ref C) m=some (some (.ref f))
 fn:PY K (.ref f)=true
 kp:Kq K (.ref f)=true
section
variable{X:Cx}{pins:List (Addr×Obj)}{σ:St}{H:Hp}{s:HF}{a C dx:Addr}{fs:List (Str×V)}{f:Str}{v:V}{A:IN}{E:HD->HF->Prop}
theorem yU{b:Bool}{Q:HD->HF->Prop}(I:Inv X pins σ H s)(e:H a=some (.ins C dx fs))(c:eu X.K C)(n:bA X.K C f)(l:fs.lookup f=some v)
 (h:∀u d,Inv X pins σ H d->RelV v u->Q u d):wpAny (model X.prog X.w) A (getAttr (.ref a) f b) Q E s:=by
 obtain⟨i,O,r,_,_,_⟩:=mT I.hok e;obtain⟨u,j,g⟩:=bC.some_of (v:=v) (o:=i f) (by rw[←l];exact r f);exact yP I.kIn O (c.get f) c.hd n j (yT g) (h u _ (I.tok _) g)
theorem oP{m:Str}{g:Addr}{pl:Sem Bool}{Q:HD×List HD->HF->Prop}(I:Inv X pins σ H s)(e:H a=some (.ins C dx fs))(c:eu X.K C)(k:iL X.K C m g)(l:fs.lookup m=none)
 (h:Q (.ref g,[.ref a]) s):wpAny (model X.prog X.w) A (getMethod (.ref a) m pl) Q E s:=by
 obtain⟨b,O,r,_,_,_⟩:=mT I.hok e;have d:b m=none:=bC.none_of (by rw[←l];exact r m);exact yQ I.kIn O (c.get m) k.at_ k.fn d h
theorem yV{y:V}{u:HD}{Q:Unit->HF->Prop}(I:Inv X pins σ H s)(e:H a=some (.ins C dx fs))(c:eu X.K C)(n:bA X.K C f)(U:fs.length<1000)(p:RelV y u)
 (h:∀i,Inv X pins σ (aF H a (.ins C dx (Z2 f y fs))) i->Q () i):wpAny (model X.prog X.w) A (setAttr (.ref a) f u) Q E s:=by
 obtain⟨j,O,r,l,_,m⟩:=mT I.hok e;have B:(fs.map (·.1)).length<=sizeLine:=by rw[HC,JH];omega
 refine yR I.kIn O c.sa c.po n.taker c.hd l B λD d G=>h _ ?_;have J:∃o,D.get? dx=some o:=let⟨o,_,_,L,_⟩:=d.ns;⟨o,L⟩;refine I.write (x:=a) (e:=dx) (by rw[e];exact KI) (.inr m) (λb q N z=>(G.2 b N).trans z) J ?_;refine⟨by rw[D3 O.ne];exact m,?_,O.ne,d.obj,_,d.ns,λg=>?_,λg T=>?_⟩
 ·have:=sE f y fs;omega
 ·show bC ((Z2 f y fs).lookup g) (if g=f then some u else j g);rw[sD];by_cases q:g=f
  ·rw[if_pos q,if_pos q];exact p
  ·rw[if_neg q,if_neg q];exact r g
 ·by_cases q:g=f
  ·rw[q];exact(oO f y fs).1
  ·refine(oO f y fs).2 g (l g λz=>T ?_);show(if g=f then some u else j g)=none;rw[if_neg q];exact z
theorem Inv.made(I:Inv X pins σ H s):Inv X pins σ (aF (aF H s.heap.objs.size (.own (s.heap.objs.size+1))) (s.heap.objs.size+1) (.ins C s.heap.objs.size []))
 { s with heap:=(s.heap.push JK).push (Kt C s.heap.objs.size) }:=by
 have d:(s.heap.push JK).get? s.heap.objs.size=some JK:=HI s.heap rfl;have g:((s.heap.push JK).push (Kt C s.heap.objs.size)).get? (s.heap.objs.size+1)=some (Kt C s.heap.objs.size):=by
  have:=HI (s.heap.push JK) (o:=Kt C s.heap.objs.size) rfl
  rwa [Jg]at this
 have h:(s.heap.push JK).Ns s.heap.objs.size (λ_=>none):=⟨JK,#[],_,d,rfl,(λe i=>absurd i (by simp)),λ_=>rfl⟩;have j:=I.laid (a:=s.heap.objs.size) (o:=.own (s.heap.objs.size+1)) (h':=s.heap.push JK) (t':=s.toks) (λb u q=>HA _ q) (HG _) ⟨_,d⟩;refine j.laid (a:=s.heap.objs.size+1) (o:=.ins C s.heap.objs.size []) (t':=s.toks) (λb u q=>HA _ q) (OK (Jg _ _)) ?_;have ne:s.heap.objs.size≠s.heap.objs.size+1:=HS (Jl _);refine⟨by rw[D3 ne,C8],KU _,ne,g,λ_=>none,(Heap.Ns1.of_empty h).at λo q=>HA _ q,λ_=>KI,λy l=>absurd rfl l⟩
theorem yW{prog:Ib}{w:IW}{b:Env}{e:Expr}{f:Str}{d:Pos}{s:HF}{Q:HD->HF->Prop}(g:attributeBase e f b (eval e b)=eval e b)
 (h:wpAny (model prog w) A (eval e b) (λo c=>wpAny (model prog w) A (getAttr o f true) Q E c) E s):wpAny (model prog w) A (eval (.Attribute e f d) b) Q E s:=
 Attribute_any_ h (by rw[arm_eval_Attribute,g])
end
noncomputable def yX(K:HE)(c:TE)(f:Str):TE:=λd H Q=>c d H λx b=>∃a C e fs v,x=.ref a/\b a=some (.ins C e fs)/\eu K C/\bA K C f/\fs.lookup f=some v/\Q v b
noncomputable def sFld(K:HE)(e tv:TE)(f:Str):TS:=λD b H=>tv b H λy g=>e b g λx c=>∃a C d fs,x=.ref a/\c a=some (.ins C d fs)/\eu K C/\bA K C f/\fs.length<1000/\
 D.nx b (aF c a (.ins C d (Z2 f y fs)))
section
variable{X:Cx}{o e value:Expr}{f:Str}{pos pos' tpos:Pos}{ta tv:TE}
theorem yY(he:PE X e ta)(d:attributeBase e f X.env (eval e X.env)=eval e X.env):PE X (.Attribute e f pos) (yX X.K ta f):=by
 intro b s g H Q I h;refine yW d (aP (he b s g H _ I h) λu A i=>?_);obtain⟨x,j,m,p,a,C,B,fs,v,r,w,c,n,l,q⟩:=i;subst r;obtain rfl:u=HW a:=p;exact yU m w c n l λD E y z=>⟨v,j,y,z,q⟩
theorem yZ(g:PE X o ta)(i:PE X value tv)(hs:swapsWith value (some (.Attribute o f pos')) pos.line X.env=pure false):PS X (.Assign [.Attribute o f pos'] value pos) (sFld X.K ta tv f):=by
 intro b s d H D I h;refine Mq (aP (i b s d H _ I h) λu j ⟨y,m,p,r,q⟩=>aP (g b j d m _ p q) λov J v=>?_) hs;obtain⟨x,L,w,z,a,C,N,fs,A,B,c,n,l,E⟩:=v;subst A;obtain rfl:ov=HW a:=z;exact yV w B c n l r λO G=>⟨d,_,G,E⟩
end
section
variable{X:Cx}{pins:List (Addr×Obj)}{σ:St}{H:Hp}{s:HF}{A:IN}{E:HD->HF->Prop}{Q:HD->HF->Prop}{c:HD}{b:Bool}
inductive fy (K:HE) (H:Hp):V->HD->Prop where
 | non:fy K H .non (.type "NoneType")
 | bl (x:Bool):fy K H (.bl x) (.type "bool")
 | int (i:Int):fy K H (.int i) (.type "int")
 | str (x:Str):fy K H (.str x) (.type "str")
 | flt (x:UInt64):fy K H (.flt x) (.type "float")
 | lst {a:Addr} {xs:List V} (e:H a=some (.lst xs)):fy K H (.ref a) (.type "list")
 | frz {a:Addr} {o:Obj} {xs:List V} (e:H a=some (.frz o (.lst xs))):fy K H (.ref a) (.type "list")
 | tup {a:Addr} {xs:List V} (e:H a=some (.tup xs)):fy K H (.ref a) (.type "tuple")
 | dK {a:Addr} {kvs:List (Key×V)} (e:H a=some (.dK kvs)):fy K H (.ref a) (.type "dict")
 | dT {a:Addr} {kvs:List (List Key×V)} (e:H a=some (.dT kvs)):fy K H (.ref a) (.type "dict")
 | ins {a C dx:Addr} {fs:List (Str×V)} (e:H a=some (.ins C dx fs)) (cl:eu K C) (ha:Ka K (.ref C) "__class__" = some (some (.builtin "object.__class__")))
  (hn:PySem.W.specialIn K (.builtin "object.__class__") "__get__" = some (some (.builtin "getset_descriptor.__get__"))) (htk:PySem.W.takesIn K (.builtin "object.__class__")=some true)
  (hm:PySem.W.mroIn K C (.type "object")=some true):fy K H (.ref a) (.ref C)
theorem sF{x:V}{u t:HD}(I:Inv X pins σ H s)(d:RelV x u)(B:fy X.K H x t)(e:Pb X.K t c=some b)(h:∀D,Q (.bool b) { s with toks:=D }) :
 wpAny (model X.prog X.w) A (call (.builtin "isinstance") [u,c]) Q E s:=by
 cases B with
 | non=>cases(show u=Iu from d);exact JE PySem.W.kitx_none I.kIn KI e (λz=>nomatch z) h
 | bl y=>cases(show u=Nd y from d);exact JE PySem.W.kitx_bool I.kIn KI e (λz=>nomatch z) h
 | int i=>obtain⟨t,q⟩:=(show ∃t,u=Kz i t from d);cases q;exact JE PySem.W.kitx_int I.kIn KI e (λz=>nomatch z) h
 | str y=>obtain⟨t,q⟩:=(show ∃t,u=PJ y t from d);cases q;exact JE PySem.W.kitx_str I.kIn KI e (λz=>nomatch z) h
 | flt y=>obtain⟨t,q⟩:=(show ∃t,u=Qi y t from d);cases q;exact JE PySem.W.kitx_float I.kIn KI e (λz=>nomatch z) h
 | @lst a l f=>
   cases(show u=HW a from d);obtain⟨_,_,n,_,g⟩:=(show aO X.prog X.w H s.heap a (.lst l)from I.hok a _ f);exact JE PySem.W.kitx_list I.kIn ⟨_,g,rfl⟩ e (λz=>nomatch z) h
 | @frz a G l f=>
   cases(show u=HW a from d);obtain⟨_,_,_,n,_,g⟩:=(show aO X.prog X.w H s.heap a (.frz G (.lst l))from I.hok a _ f);exact JE PySem.W.kitx_list I.kIn ⟨_,g,rfl⟩ e (λz=>nomatch z) h
 | @tup a l f=>
   cases(show u=HW a from d);obtain⟨_,_,_,p⟩:=(show aO X.prog X.w H s.heap a (.tup l)from I.hok a _ f);obtain⟨o,g,m,_⟩:=p;exact JE PySem.W.kitx_tuple I.kIn ⟨o,g,m⟩ e (λz=>nomatch z) h
 | @dK a j f=>
   cases(show u=HW a from d);obtain⟨_,_,Z,_,p⟩:=(show aO X.prog X.w H s.heap a (.dK j)from I.hok a _ f);obtain⟨o,L,N,g,m,_⟩:=p;exact JE PySem.W.kitx_dict I.kIn ⟨o,g,m.1⟩ e (λz=>nomatch z) h
 | @dT a j f=>
   cases(show u=HW a from d);obtain⟨_,_,l,_,o,L,N,g,m,_⟩:=(show aO X.prog X.w H s.heap a (.dT j)from I.hok a _ f);exact JE PySem.W.kitx_dict I.kIn ⟨o,g,m.1⟩ e (λz=>nomatch z) h
 | @ins a C dx fs f v T U r Y=>
   cases(show u=HW a from d);obtain⟨mA,O,_⟩:=mT I.hok f;obtain⟨od,J,_⟩:=O.look;exact JE (PySem.W.kitx_own (v.get _) v.hd T U r Y) I.kIn J e (λz=>nomatch z) h
end
structure aR(k:Nat)(A:IN):Prop where
 hd:A.handled=none
 dp:A.depth+3*k+5<recursionLimit
 un:A.units+16*k+200<cLine
theorem aR.mono{j k:Nat}{A:IN}(r:aR k A)(h:j<=k):aR j A:=⟨r.hd,by have:=r.dp;omega,by have:=r.un;omega⟩
theorem aR.deeper{k:Nat}{A:IN}(r:aR (k+1) A)(a:Env):aR k (A.deeper a):=
 ⟨r.hd,by have:=r.dp;show A.depth+1+3*k+5<_;omega,by have:=r.un;show A.units+3+16*k+200<_;omega⟩
theorem za{A:IN}{C:Addr}{us:List HD}{a:List (Str×HD)}:(A.under (.builtin "type.__call__" ⟨.ref C::us,a⟩)).depth=A.depth+1:=by
 first | rfl | simp[PZ,Code.weight,Code.isCreation,Code.isGuard,Code.isCaller,Code.frames,Q2,guardIds]
theorem zb{A:IN}{C:Addr}{us:List HD}{a:List (Str×HD)}:(A.under (.builtin "type.__call__" ⟨.ref C::us,a⟩)).units=A.units+1:=by
 first | rfl | simp[PZ,Code.cUnits,Code.frames,Q2]
theorem aR.make{k:Nat}{A:IN}(r:aR (k+1) A)(C:Addr)(us:List HD)(a:List (Str×HD)):aR k (A.under (.builtin "type.__call__" ⟨.ref C::us,a⟩)):=
 ⟨r.hd,by have:=r.dp;rw[za];omega,by have:=r.un;rw[zb];omega⟩
theorem aR.depth{k:Nat}{A:IN}(r:aR k A):A.depth<recursionLimit:=by have:=r.dp;omega
theorem aR.units{k:Nat}{A:IN}(r:aR k A):A.units+64<cLine:=by have:=r.un;omega
noncomputable def tNil:TA:=λ_ H Q=>Q [] H
noncomputable def zc(b:TE)(c:TA):TA:=λa H Q=>b a H λx d=>c a d λe f=>Q (x::e) f
section
variable{X:Cx}{e:Expr}{es:List Expr}{te:TE}{t:TA}{pos:Pos}
theorem oQ:PA X [] tNil:=λ_ _ _ _ H Q I h=>Lp ⟨[],H,I,.nil,h⟩
theorem kP(c:PE X e te)(d:PA X es t)(hs:starEach (e::es) X.env=(false,eval e X.env)::starEach es X.env:=by rfl):PA X (e::es) (zc te t):=by
 intro pos a s b H Q I h;rw[hs];show wpAny _ _ (spliced ((false,eval e X.env)::backTo pos (starEach es X.env))) _ _ s;refine Kh (aP (c a s b H _ I h) λu f g=>?_);obtain⟨x,i,j,l,m⟩:=g;exact aP (d pos a f b i _ j m) λv w ⟨n,o,p,q,r⟩=>⟨x::n,o,p,.cons l q,r⟩
noncomputable def zd(t:TA):TE:=λc H Q=>t c H λa b=>a.length<=sizeLine/\∀p,b p=none->Q (.ref p) (aF b p (.tup a))
noncomputable def ze(t:TA):TE:=λc H Q=>t c H λa b=>a.length<=sizeLine/\∀p,b p=none->Q (.ref p) (aF b p (.lst a))
theorem zf{g}(h:PA X es t):PE X (.Tuple es g pos) (zd t):=by
 intro a s i H Q I j;refine wpAny_Tuple_spliced (aP (h pos a s i H _ I j) λl c ⟨m,d,f,r,z,q⟩=>⟨by rw[←r.length];exact z,?_⟩);have n:d c.heap.objs.size=none:=f.hok.fresh (HG _);refine⟨.ref c.heap.objs.size,aF d c.heap.objs.size (.tup m),f.laid (t':=c.toks) (λb u e=>HA _ e) (HG _) ?_,rfl,q _ n⟩;exact⟨z,l,r,⟨_,HI _ rfl,rfl,_,rfl⟩⟩
theorem zg(h:PA X es t):PE X (.List es pos) (ze t):=by
 intro a s g H Q I i;refine wpAny_List_spliced (aP (h pos a s g H _ I i) λj c ⟨l,d,f,r,z,q⟩=>⟨by rw[←r.length];exact z,?_⟩);have m:d c.heap.objs.size=none:=f.hok.fresh (HG _);refine⟨.ref c.heap.objs.size,aF d c.heap.objs.size (.lst l),f.laid (t':=c.toks) (λb u e=>HA _ e) (HG _) ?_,rfl,q _ m⟩;exact⟨z,j,0,r,HI _ rfl⟩
end
abbrev Sp:=List V->Hp->VK->XK->Prop
abbrev CXT:=List Env->Hp->HF->XK->HD->HF->Prop
structure eT(P:Ib)(w:IW)(K:HE)(mg:Str->Option HD)(base:Heap)(A:IN)(outer:List Env)(s:HF)(H:Hp):Prop where
 frames:A.frames=some outer
 mod:Mod K mg base
 bs:∀b o,base.get? b=some o->s.heap.get? b=some o/\H b=none
 bsz:base.objs.size<=s.heap.objs.size
 funs:s.heap.FunFrames base outer
 frf:∀b∈frs outer,H b=none
 hok:bK P w H s.heap
 bare:NX s.gens
def CE(outer:List Env)(P:Ib)(w:IW)(H:Hp)(s:HF)(Q:VK)(u:HD)(a:HF):Prop:=
 ∃v b,a.os=s.os/\NX a.gens/\Un (frs outer) [] H b s.heap a.heap/\bK P w b a.heap/\RelV v u/\Q v b
def CR(b:CXT)(outer:List Env)(P:Ib)(w:IW)(H:Hp)(s:HF)(Q:VK)(E:XK)(r:PL)(a:HF):Prop:=
 match r with
 | .ok (.ret u)=>CE outer P w H s Q u a
 | .ok _=>False
 | .error e=>b outer H s E e a
structure az(P:Ib)(w:IW)(K:HE)(mg:Str->Option HD)(base:Heap)(CX:CXT)(k:Nat)(f:Addr)(fd:Ia)(ps:List Str)(sp:Sp):Prop where
 len:∀vs H Q E,sp vs H Q E->vs.length=ps.length
 run:∀(A:IN)(outer:List Env)(s:HF)(H:Hp)(args:Args)(us:List HD)(vs:List V)(Q:VK)(E:XK),aR k A->eT P w K mg base A outer s H->Qv s fd args (ps.zip us)->aE vs us->sp vs H Q E->
  codeAny (model P w) A (.call (.ref f) args) (CR CX outer P w H s Q E) s
theorem az.imp{P:Ib}{w:IW}{K:HE}{mg:Str->Option HD}{base:Heap}{e:CXT}{k:Nat}{f:Addr}{g:Ia}{ps:List Str}{i c:Sp}(F:az P w K mg base e k f g ps i)
 (h:∀b H Q E,c b H Q E->i b H Q E):az P w K mg base e k f g ps c:=
 ⟨λb H Q E q=>F.len b H Q E (h _ _ _ _ q),λA a s H d j b Q E l m n o p=>F.run A a s H d j b Q E l m n o (h _ _ _ _ p)⟩
theorem eT.make{P:Ib}{w:IW}{K:HE}{mg:Str->Option HD}{base:Heap}{A:IN}{outer:List Env}{s:HF}{H:Hp}(e:eT P w K mg base A outer s H)(C:Addr)(us:List HD)(a:List (Str×HD)) :
 eT P w K mg base (A.under (.builtin "type.__call__" ⟨.ref C::us,a⟩)) outer s H:=⟨by first | exact e.frames | (simpa[PZ,Code.envs,Q2,pushEnvs]using e.frames),e.mod,e.bs,e.bsz,e.funs,e.frf,e.hok,e.bare⟩
section
variable{X:Cx}{pins:List (Addr×Obj)}{σ:St}{H:Hp}{s s':HF}
theorem Inv.env0(I:Inv X pins σ H s):eT X.prog X.w X.K X.mg X.base X.A X.stack s H:=
 ⟨I.ok.frames,I.ok.mod,I.bs,Ih I.ok.bsz I.sz,I.stack,I.stkFree,I.hok,I.bare⟩
theorem Inv.after{Q:VK}{u:HD}(I:Inv X pins σ H s)(h:CE X.stack X.prog X.w H s Q u s'):EP X pins σ Q u s':=by
 obtain⟨v,f,os,a,un,c,r,q⟩:=h;obtain⟨i,g,d,t,e⟩:=s';obtain rfl:e=s.os:=os;exact⟨v,f,I.call (h':=i) (g':=g) (d':=d) (t':=t) (ch:=[]) un c a (λb z=>absurd z (by simp)),r,q⟩
end
noncomputable def sG(a:Sp)(dvs:List V)(E:XK)(t:TA):TE:=λb H Q=>t b H λc d=>a (c++dvs) d Q E
noncomputable def oR(C:Addr)(m:Str)(d:Sp)(dvs:List V)(E:XK)(e:TE)(t:TA):TE:=λb H Q=>e b H λx c=>∃a f fs,x=.ref a/\c a=some (.ins C f fs)/\fs.lookup m=none/\
 t b c λg h=>d (x::(g++dvs)) h Q E
noncomputable def sH(C:Addr)(c:Sp)(dvs:List V)(E:XK)(t:TA):TE:=λd H Q=>t d H λe b=>∀x a,b x=none->b a=none->a≠x->
 c (.ref x::(e++dvs)) (aF (aF b a (.own x)) x (.ins C a [])) (λv f=>v=.non/\Q (.ref x) f) E
def Binds(K:HE)(b:Ia)(ps:List Str)(a:List HD):Prop:=
 ∀(s:HF)(us:List HD),K.In s.heap->(us++a).length=ps.length->Qv s b ⟨us,[]⟩ (ps.zip (us++a))
theorem Binds.all{K:HE}{b:Ia}{ps:List Str}(h:∀a:List HD,a.length=ps.length->bindArgs b ⟨a,[]⟩=pure (ps.zip a)):Binds K b ps []:=λs a _ c=>by
 rw[IA]at c ⊢;exact .of_eq (h a c)
def jk(c:CXT)(X:Cx)(E:XK):Prop:=∀(a:List (Addr×Obj))(σ:St)(H:Hp)(s:HF)(e:HD)(b:HF),Inv X a σ H s->c X.stack H s E e b->X.xe e b
section
variable{X:Cx}{CX:CXT}{k:Nat}{f C:Addr}{fd:Ia}{ps:List Str}{sp:Sp}{dvs:List V}{ds:List HD}{E:XK}{x m:Str}{p pos apos:Pos}{e o:Expr}{es:List Expr}{ta:TE}{t:TA}
theorem oS{a:List (Addr×Obj)}{σ:St}{H:Hp}{s:HF}{Q:VK}{us:List HD}{vs:List V}(F:az X.prog X.w X.K X.mg X.base CX k f fd ps sp)(d:aR k X.A)(g:Binds X.K fd ps ds)(i:aE dvs ds)(j:jk CX X E)
 (I:Inv X a σ H s) (r:aE vs us) (h:sp (vs++dvs) H Q E):wpAny (model X.prog X.w) X.A (call (.ref f) us) (EP X a σ Q) X.xe s:=by
 have c:aE (vs++dvs) (us++ds):=r.append i;have l:(us++ds).length=ps.length:=by rw[←c.length];exact F.len _ _ _ _ h
 refine Mr (Kr (F.run X.A X.stack s H ⟨us,[]⟩ (us++ds) (vs++dvs) Q E d I.env0 (g s us I.kIn l) c h) λr n b=>?_);cases r with
 | error e=>exact j a σ H s e n I b
 | ok q=>
   cases q with
   | ret u=>exact I.after b
   | next=>exact Iq b
   | brk=>exact Iq b
   | cont=>exact Iq b
theorem zh(F:az X.prog X.w X.K X.mg X.base CX k f fd ps sp)(d:aR k X.A)(g:Gl X x)(i:X.mg x=some (.ref f))(j:Kq X.K (.ref f)=true)(l:Binds X.K fd ps ds)(n:aE dvs ds)(u:jk CX X E)
 (v:PA X (e::es) t) (b:(x == ("__debug__" : Str))=false:=by decide) (he:starEach (e::es) X.env=(false,eval e X.env)::starEach es X.env:=by rfl) (hpl:(backTo pos (starEach es X.env)).any (·.1)=false:=by rfl) :
 PE X (.Call (.Name x p) (e::es) [] pos) (sG sp dvs E t):=by
 intro a s y H Q I h;refine Lg (kL I g i ?_ b);refine Lh (h₀:=X.base) I.ok.mod.kin j (aP (v pos a s y H _ I h) λz B ⟨D,G,c,r,q⟩=>⟨c.kIn,?_⟩) he hpl;exact oS F d l n u c r q
theorem zi{pl:Sem Bool}(he:PE X o ta)(c:eu X.K C)(g:iL X.K C m f)(F:az X.prog X.w X.K X.mg X.base CX k f fd ps sp)(v:aR k X.A)(y:Binds X.K fd ps ds)(z:aE dvs ds)(B:jk CX X E)(D:PA X (e::es) t)
 (d:starEach (e::es) X.env=(false,eval e X.env)::starEach es X.env:=by rfl) (hpl:(backTo pos (starEach es X.env)).any (·.1)=false:=by rfl)
 (G:eval (.Call (.Attribute o m apos) (e::es) [] pos) X.env=(do
  let ov ←eval o X.env
  standAt apos.atName
  let(f,first) ←holding [ov] (getMethod ov m pl)
  callWith pos f first (backTo pos (starEach (e::es) X.env)) (backToKw pos (keywordEach [] X.env))):=by rfl) :
 PE X (.Call (.Attribute o m apos) (e::es) [] pos) (oR C m sp dvs E ta t):=by
 intro b s i H Q I h;refine MB (pl:=pl) (aP (he b s i H _ I h) λu J L=>?_) G;obtain⟨x,N,j,O,a,Z,fs,T,U,l,q⟩:=L;subst T;obtain rfl:u=HW a:=O;refine oP j U c g l ?_;refine Lh (first:=[.ref a]) (h₀:=X.base) I.ok.mod.kin g.kp (aP (D pos b J i N _ j q) λus s2 ⟨vs,H2,n,r,Y⟩=>⟨n.kIn,?_⟩) d hpl;exact oS (us:=.ref a::us) (vs:=.ref a::vs) F v y z B n (.cons rfl r) Y
theorem zj{pl:Sem Bool}(he:PE X o ta)(c:eu X.K C)(g:iL X.K C m f)(F:az X.prog X.w X.K X.mg X.base CX k f fd ps sp)(i:aR k X.A)(j:Binds X.K fd ps ds)(n:aE dvs ds)(r:jk CX X E)
 (v:eval (.Call (.Attribute o m apos) [] [] pos) X.env=(do
  let ov ←eval o X.env
  standAt apos.atName
  let(f,first) ←holding [ov] (getMethod ov m pl)
  callWith pos f first (backTo pos (starEach [] X.env)) (backToKw pos (keywordEach [] X.env))):=by rfl) :
 PE X (.Call (.Attribute o m apos) [] [] pos) (oR C m sp dvs E ta tNil):=by
 intro b s y H Q I h;refine MB (pl:=pl) (aP (he b s y H _ I h) λu J z=>?_) v;obtain⟨x,L,d,B,a,N,fs,D,G,l,q⟩:=z;subst D;obtain rfl:u=HW a:=B;refine oP d G c g l ?_;exact PySem.W.callWith_K0 (first:=[.ref a]) d.kIn g.kp (oS (us:=[.ref a]) (vs:=[.ref a]) F i j n r d (.cons rfl .nil) q)
structure Mk(K:HE)(C f:Addr):Prop where
 makes:PySem.W.makesIn K C=true
 init:Ka K (.ref C) "__init__" = some (some (.ref f))
 fn:PY K (.ref f)=true
 kp:Kq K (.ref C)=true
theorem zk{a:List (Addr×Obj)}{σ:St}{H:Hp}{s:HF}{Q:VK}{us:List HD}{vs:List V}(M:Mk X.K C f)(F:az X.prog X.w X.K X.mg X.base CX k f fd ps sp)(j:aR (k+1) X.A)(l:Binds X.K fd ps ds)(n:aE dvs ds)
 (q:jk CX X E) (I:Inv X a σ H s) (r:aE vs us)
 (h:∀x c,H x=none->H c=none->c≠x->sp (.ref x::(vs++dvs)) (aF (aF H c (.own x)) x (.ins C c [])) (λv y=>v=.non/\Q (.ref x) y) E) :
 wpAny (model X.prog X.w) X.A (call (.ref C) us) (EP X a σ Q) X.xe s:=by
 have g:=h (s.heap.objs.size+1) s.heap.objs.size (I.hok.fresh (JQ _)) (I.hok.fresh (HG _)) (HS (Jl _));have d:=Inv.made (C:=C) I;have i:aE (V.ref (s.heap.objs.size+1)::(vs++dvs)) (HW (s.heap.objs.size+1)::(us++ds)):=.cons rfl (r.append n);have z:(HW (s.heap.objs.size+1)::us++ds).length=ps.length:=by
  have e:=i.length;rw[F.len _ _ _ _ g]at e;exact e.symm
 refine Mr (yS (f:=f) I.kIn M.makes M.init (beq_iff_eq.mp M.fn) (Kr (F.run _ X.stack _ _ ⟨HW (s.heap.objs.size+1)::us,[]⟩ (HW (s.heap.objs.size+1)::(us++ds)) _ _ E (j.make C us [])
  (d.env0.make C us []) (l _ (HW (s.heap.objs.size+1)::us) d.kIn z) i g) λr B b=>?_))
 cases r with
 | error e=>exact q a σ _ _ e B d b
 | ok D=>
   cases D with
   | ret u=>
     obtain⟨v,G,J,L,N,O⟩:=d.after b;subst N;exact⟨L,⟨V.ref (s.heap.objs.size+1),G,J,rfl,O⟩⟩
   | next=>exact Iq b
   | brk=>exact Iq b
   | cont=>exact Iq b
theorem zl(M:Mk X.K C f)(F:az X.prog X.w X.K X.mg X.base CX k f fd ps sp)(d:aR (k+1) X.A)(g:Gl X x)(i:X.mg x=some (.ref C))(j:Binds X.K fd ps ds)(l:aE dvs ds)(n:jk CX X E)
 (u:PA X (e::es) t) (b:(x == ("__debug__" : Str))=false:=by decide) (he:starEach (e::es) X.env=(false,eval e X.env)::starEach es X.env:=by rfl) (hpl:(backTo pos (starEach es X.env)).any (·.1)=false:=by rfl) :
 PE X (.Call (.Name x p) (e::es) [] pos) (sH C sp dvs E t):=by
 intro a s v H Q I h;refine Lg (kL I g i ?_ b);refine Lh (h₀:=X.base) I.ok.mod.kin M.kp (aP (u pos a s v H _ I h) λy z ⟨B,D,c,r,q⟩=>⟨c.kIn,?_⟩) he hpl;exact zk M F d j l n c r q
end
structure C6(N P:List Str)(sc:NW):Prop where
 kind:sc.kind=.function
 co:sc.isCoroutine=false
 gen:sc.isGenerator=false
 nd:N.Nodup
 pre:N.take P.length=P
 par:∀x∈P,sc.names.lookup x=some .local\/sc.names.lookup x=some .cell
 nofree:∀y∈sc.names,y.2≠.free
theorem sI{kindOf:Str->Option Qw}{x:Str}:∀{binds:List (Str×HD)}{m:Str->Option HD},(∀v,(x,v)∉binds)->bindL kindOf binds m x=m x
 | [],_,_=>rfl
 | (n,v)::r,m,h=>by
   unfold bindL;rw[sI λw a=>h w (HR _ a)];split
   ·have:x≠n:=by rintro rfl;exact h v HM
    simp[this]
   ·rfl
theorem sJ{kindOf:Str->Option Qw}{x:Str}:∀{binds:List (Str×HD)}{m:Str->Option HD},(∀v,(x,v)∉binds)->bindC kindOf binds m x=m x
 | [],_,_=>rfl
 | (n,v)::r,m,h=>by
   unfold bindC;rw[sJ λw a=>h w (HR _ a)];split
   ·rfl
   ·have:x≠n:=by rintro rfl;exact h v HM
    simp[this]
theorem sK{kindOf:Str->Option Qw}{x:Str}{v:HD}:∀{P:List Str}{vs:List HD}{i:Nat}{m:Str->Option HD},P.Nodup->P[i]?=some x->vs[i]?=some v->kindOf x=some .local->
 bindL kindOf (P.zip vs) m x=some v
 | [],_,_,_,_,h,_,_=>by simp at h
 | _::_,[],_,_,_,_,h,_=>by simp at h
 | p::P,w::vs,0,m,c,a,b,d=>by
   simp at a b;subst a;subst b;show bindL kindOf ((p,w)::P.zip vs) m p=_;unfold bindL;rw[sI λv e=>(Jt.mp c).1 (OL e).1,if_pos d];simp
 | p::P,w::vs,i+1,m,c,a,b,d=>by
   show bindL kindOf ((p,w)::P.zip vs) m x=_;unfold bindL;exact sK (i:=i) (Jt.mp c).2 (by simpa using a) (by simpa using b) d
theorem sL{kindOf:Str->Option Qw}{x:Str}{v:HD}:∀{P:List Str}{vs:List HD}{i:Nat}{m:Str->Option HD},P.Nodup->P[i]?=some x->vs[i]?=some v->kindOf x≠some .local->
 bindC kindOf (P.zip vs) m x=some v
 | [],_,_,_,_,h,_,_=>by simp at h
 | _::_,[],_,_,_,_,h,_=>by simp at h
 | p::P,w::vs,0,m,c,a,b,d=>by
   simp at a b;subst a;subst b;show bindC kindOf ((p,w)::P.zip vs) m p=_;unfold bindC;rw[sJ λv e=>(Jt.mp c).1 (OL e).1,if_neg d];simp
 | p::P,w::vs,i+1,m,c,a,b,d=>by
   show bindC kindOf ((p,w)::P.zip vs) m x=_;unfold bindC;exact sL (i:=i) (Jt.mp c).2 (by simpa using a) (by simpa using b) d
noncomputable def start(N:List Str)(vs:List V):St:=vs.map some++LF (N.length - vs.length) none
noncomputable def fz(CX:CXT)(P:Ib)(w:IW)(K:HE)(mg:Str->Option HD)(base:Heap)(N:List Str)(qual:Str)(scope:NW)(f:Addr)(cd:HD)(A:IN)(outer:List Env)(s:HF)(H:Hp)(E:XK):Cx where
 prog:=P
 w:=w
 K:=K
 mg:=mg
 base:=base
 A:=A.deeper (envOfC qual scope s.heap.objs.size f cd)
 N:=N
 s₀:=s
 H₀:=H
 env:=envOfC qual scope s.heap.objs.size f cd
 outer:=outer
 stack:=envOfC qual scope s.heap.objs.size f cd::outer
 ex:=[]
 calm:=true
 fn:=λ_=>true
 pn:=[]
 xe:=λe s'=>wpAny (model P w) (A.deeper (envOfC qual scope s.heap.objs.size f cd)) (leaving (envOfC qual scope s.heap.objs.size f cd) e) (λ_ s''=>CX outer H s E e s'') (λe' s''=>CX outer H s E e' s'') s'
theorem sM{a:NW}{n:Nat}{x:Str}(h:a.names.lookup x=some .cell):∃c,(cellsFrom n a.names []).lookup x=some c:=by
 have q:=Ox a.names n [] (.inl h);exact LW.mp q
theorem zm{I:CXT}{P:Ib}{w:IW}{K:HE}{mg:Str->Option HD}{base:Heap}{N ps:List Str}{g:Str}{d:NW}{f:Addr}{cd:HD}{A:IN}{outer:List Env}{s J:HF}{H:Hp}{E:XK}{us:List HD}{vs:List V}
 (S:C6 N ps d) (Q:A.handled=none) (l:eT P w K mg base A outer s H) (Z:vs.length=ps.length) (r:aE vs us)
 (x:InCallC s s.heap.objs.size (bindL (envOfC g d s.heap.objs.size f cd).kindOf (ps.zip us) λ_=>none) (cellsFrom (s.heap.objs.size+1) d.names []) (bindC (envOfC g d s.heap.objs.size f cd).kindOf (ps.zip us) λ_=>none) J) :
 Inv (fz I P w K mg base N g d f cd A outer s H E) [] (start N vs) H J:=by
 have T:ps.length<=N.length:=by have:=congrArg List.length S.pre;rw[Jb]at this;omega
 obtain⟨D,tk,rfl,L⟩:=x.done;have m:∀b:Addr,b∉(fz I P w K mg base N g d f cd A outer s H E).ex:=λb z=>absurd (show b∈([]:List Addr)from z) (by simp);refine⟨⟨l.mod,S.kind,rfl,rfl,HG _,λy z c D j=>?_,λy o=>?_,λy c _ h=>?_,λ_=>Q,IN.frames_deeper l.frames,.inr ⟨rfl,rfl⟩,λb z=>absurd z (m b),l.bs,l.bsz,λb _ _=>m b,λb z=>absurd z (m b),l.funs,l.frf⟩,
  rfl,l.bare,Un.kept L,⟨_,x.toInCall.ns,λi y v D j h3=>?_⟩,λy c h=>⟨_,x.cell y c h⟩,l.hok.fresh (HG _),λy c h=>?_,λp B=>absurd (show p∈([]:List (Addr×Obj))from B) (by simp),l.hok.kept L,?_⟩
 ·exact name_of_addr x.apart (Ju D) (Ju j)
 ·have o:d.names.lookup y=some .cell\/d.names.lookup y=some .free:=o;rcases o with o | o
  ·exact sM o
  ·exact absurd rfl (S.nofree _ (Ju o))
 ·exact MA (x.above y c (Ju h))
 ·have G:i<vs.length:=by
   unfold start at j;by_cases G:i<vs.length
   ·exact G
   ·rw[JV (by simpa using G)]at j;rw[NZ]at j;split at j<;>cases j
  have U:vs[i]?=some v:=by
   unfold start at j;rw[Ix (by simpa using G),Ij]at j;cases e:vs[i]? with
   | none=>rw[e]at j;cases j
   | some a=>rw[e]at j;cases j;rfl
  obtain⟨u,O,Y⟩:=r.get U;have B:ps[i]?=some y:=by
   rw[←S.pre,List.getElem?_take_of_lt (by omega)];exact D
  have C:ps.Nodup:=by rw[←S.pre];exact S.nd.sublist (List.take_sublist _ _)
  refine⟨u,Y,?_⟩;rcases S.par y (Io B)with k | k
  ·exact .inl ⟨k,sK C B O k⟩
  ·obtain⟨c,e⟩:=sM (n:=s.heap.objs.size+1) k;refine .inr ⟨.inl k,c,e,?_⟩;have q:=x.cell y c e;rw[sL C B O (by show d.names.lookup y≠_;rw[k];decide)]at q;exact q
 ·exact l.hok.fresh (MA (x.above y c (Ju h)))
 ·unfold start;show _=N.length;rw[Ie,HC,List.length_replicate];omega
theorem oU{C:CXT}{P:Ib}{w:IW}{K:HE}{mg:Str->Option HD}{base:Heap}{k:Nat}{f:Addr}{name c:Str}{g:Arguments}{h:List Stmt}{a:NW}{Z kV p pm d ct oc:HD}{an od:Option Addr}
 {D:Array (Option HD)} {N ps:List Str} {G:Sp} (lk:K.lookup f=some ⟨oc,od,.func (KA name c g h a Z kV p pm an d ct),D⟩) (L:My K d c=true) (S:C6 N ps a)
 (len:∀vs H Q E,G vs H Q E->vs.length=ps.length)
 (j:∀(A:IN)(outer:List Env)(s:HF)(H:Hp)(vs:List V)(Q:VK)(E:XK),aR k (A.deeper (envOfC c a s.heap.objs.size f d))->G vs H Q E->
  ∃t,bL (fz C P w K mg base N c a f d A outer s H E) h t/\t { nx:=λ_ H'=>Q .non H',rt:=Q } (start N vs) H) :
 az P w K mg base C (k+1) f (KA name c g h a Z kV p pm an d ct) ps G:=by
 refine⟨len,λA outer s H a2 us vs Q E O z hb r B=>?_⟩;have hl:=len _ _ _ _ B;have KX:K.In s.heap:=z.mod.kin.keeps λb o e=>(z.bs b o e).1;have T:s.heap.NoLimit:=z.mod.nolimit.keeps λb o e=>(z.bs b o e).1;have l:∀y∈ps.zip us,a.names.lookup y.1=some .local\/(a.names.lookup y.1=some .cell/\((cellsFrom (s.heap.objs.size+1) a.names []).lookup y.1).isSome=true):=λ⟨n,v⟩ hy=>by
  rcases S.par n (OL hy).1 with q | q
  ·exact .inl q
  ·exact .inr ⟨q,Ox _ _ _ (.inl q)⟩
 refine codeAny_call_function O.depth (KX _ _ lk) rfl S.co S.gen rfl (PySem.W.codeRec_of KX L) (hb _ _ _ _ ?_);refine wpAny_newFunctionEnv_cells S.kind l λb0 he s1 x=>?_;subst he;refine⟨T.keeps x.toInCall.keep,codeAny_func ?_⟩;obtain⟨t,ht,hq⟩:=j A outer s H vs Q E (O.deeper _) B;have I:Inv (fz C P w K mg base N c a f d A outer s H E) [] (start N vs) H s1:=zm S O.hd z hl r x;refine IJ (ht [] s1 (start N vs) H _ I hq) (λfl U m=>?_) λe U m=>m;have fin:∀{i:St}{H':Hp}{v:V}{u:HD},Inv (fz C P w K mg base N c a f d A outer s H E) [] i H' U->RelV v u->Q v H'->CE outer P w H s Q u U:=
  λ{i H' v u} J Y q=>⟨v,H',J.os,J.bare,J.base,J.hok,Y,q⟩
 cases fl with
 | ret u=>
   obtain⟨v,i,H',J,Y,q⟩:=m;exact fin J Y q
 | next=>
   obtain⟨i,H',J,q⟩:=m;exact fin (v:=V.non) (u:=Iu) J rfl q
 | brk=>
   obtain⟨_,_,_,q⟩:=m;exact Iq q
 | cont=>
   obtain⟨_,_,_,q⟩:=m;exact Iq q
section
variable{X:Cx}{x:Str}{p pos:Pos}{e:Expr}{es:List Expr}{t:TA}{id T:String}{r:List V->Hp->VK->Prop}
noncomputable def oV(r:List V->Hp->VK->Prop)(t:TA):TE:=λa H Q=>t a H λb c=>r b c Q
theorem X1(d:bo X (.builtin id) r)(f:Gl X x)(g:X.mg x=none)(i:bootBuiltins x=some (.builtin id))(j:PA X (e::es) t)(l:x≠"__name__":=by decide)(b:(x == ("__debug__" : Str))=false:=by decide)
 (he:starEach (e::es) X.env=(false,eval e X.env)::starEach es X.env:=by rfl) (hpl:(backTo pos (starEach es X.env)).any (·.1)=false:=by rfl):PE X (.Call (.Name x p) (e::es) [] pos) (oV r t):=by
 intro a s c H Q I h;refine Lg (S6 I f g i ?_ l b);exact PyProof.Rows.callWith_builtin1 (aP (j pos a s c H _ I h) λm n ⟨o,q,u,v,w⟩=>d a n c q o m Q u v w) he hpl
theorem t6(d:bo X (.type T) r)(f:Gl X x)(g:X.mg x=none)(i:bootBuiltins x=some (.type T))(j:PA X (e::es) t)(l:x≠"__name__":=by decide)(b:(x == ("__debug__" : Str))=false:=by decide)
 (he:starEach (e::es) X.env=(false,eval e X.env)::starEach es X.env:=by rfl) (hpl:(backTo pos (starEach es X.env)).any (·.1)=false:=by rfl):PE X (.Call (.Name x p) (e::es) [] pos) (oV r t):=by
 intro a s c H Q I h;refine Lg (S6 I f g i ?_ l b);exact JP (aP (j pos a s c H _ I h) λm n ⟨o,q,u,v,w⟩=>d a n c q o m Q u v w) he hpl
end
end L2
namespace HT
open PySem PyProof.Rows
section
variable{prog:Ib}{w:IW}{A:IN}{E:HD->HF->Prop}{s:HF}
theorem hF{t b:Addr}{vs ws:List HD}{Q:HD->HF->Prop}(x:QD s.heap t vs.toArray)(y:QD s.heap b ws.toArray)(l:vs≠[])
 (z:ws=[]->Q (.ref t) s) (B:ws≠[]->Q (.ref s.heap.objs.size) { s with heap:=s.heap.push { cls:=.type "tuple",data:=.seq (vs++ws).toArray } })
 (hsz:vs.length+ws.length<=sizeLine):wpAny (model prog w) A (binaryOp .Add (.ref t) (.ref b)) Q E s:=by
 obtain⟨⟨cls,o,c,p⟩,i,q,n,r⟩:=id x;obtain⟨⟨u,d,data2,f⟩,a,g,v,h⟩:=id y;simp only at q r g h;subst q r g h;have e:vs.toArray++ws.toArray=(vs++ws).toArray:=by simp
 by_cases j:ws=[]
 ·exact concat_meets ⟨_,i,rfl⟩ ⟨_,a,rfl⟩ noFill_tuple_add seq_tuple_add Oy Oa (NN _ _)
   (tuple_addW1 t b vs.toArray ws.toArray n v o d p f (by simpa using l) (by simp[j])) ⟨i,a,z j⟩
 ·refine concat_meets ⟨_,i,rfl⟩ ⟨_,a,rfl⟩ noFill_tuple_add seq_tuple_add Oy Oa (NN _ _)
   (tuple_addW2 t b vs.toArray ws.toArray n v o d p f (by simpa using l) (by simpa using j) (by rw[HU,HU];exact hsz)) ⟨i,a,?_⟩
  rw[e];exact B j
noncomputable def sIx(n d:Nat):Option Int->Nat
 | none=>d
 | some v=>if v<0 then(v+(n:Int)).toNat else min v.toNat n
theorem zn(n d:Nat)(b:d<=n)(o:Option Int):sIx n d o<=n:=by
 cases o with
 | none=>exact b
 | some v=>
   show(if v<0 then(v+(n:Int)).toNat else min v.toNat n)<=n;by_cases a:v<0
   ·rw[if_pos a];omega
   ·rw[if_neg a];exact Nat.min_le_right _ _
theorem dN(v:Int)(n d:Nat):(if v<0 then max (v+(n:Int)) 0 else min v (n:Int))=((sIx n d (some v):Nat):Int):=by
 show(if v<0 then max (v+(n:Int)) 0 else min v (n:Int))=(((if v<0 then(v+(n:Int)).toNat else min v.toNat n):Nat):Int);by_cases a:v<0
 ·simp only[if_pos a];omega
 ·simp only[if_neg a];omega
theorem zo(lo a:Option Int)(n:Nat):LG lo a 1 (n:Int)=(((sIx n 0 lo:Nat):Int),((sIx n n a:Nat):Int)):=by
 have b:¬((1:Int)<0):=by omega
 unfold LG;simp only[b,if_false];refine Prod.ext ?_ ?_
 ·cases lo with
  | none=>rfl
  | some v=>exact dN v n 0
 ·cases a with
  | none=>rfl
  | some v=>exact dN v n n
theorem zp(i j:Nat):KG (i:Int) (j:Int) 1=j - i:=by
 unfold KG;have a:(1:Int) > 0:=by omega
 simp only[a,if_true,Int.ediv_one];split<;>omega
theorem sN{v:HD}{o:Option Int}{Q:Option Int->HF->Prop}(p:Ql v o)(h:Q o s):wpAny (model prog w) A (Ji.Slice.slicePartIndex v) Q E s:=by
 cases p with
 | none=>exact slicePart_none h
 | int i t=>exact slicePart_int h
theorem zt{f:Addr}{d e:HD}{lo a:Option Int}{n:Nat}{Q:Int×Int×Nat->HF->Prop}(hs:s.heap.IsSliceOf f d e .none)(pl:Ql d lo)(g:Ql e a)
 (h:Q (((sIx n 0 lo:Nat):Int),1,sIx n n a - sIx n 0 lo) s):wpAny (model prog w) A (Nt (.ref f) (pure (n:Int))) Q E s:=by
 obtain⟨os,b,i,c⟩:=id hs;unfold Nt Ji.Slice.sliceFields;refine Hz (Hz (Jf b c (x:=d) rfl (Hz (Jf b c (x:=e) rfl (Hz (Jf b c (x:=.none) rfl (HB ?_)))))));refine Hz (slicePart_none ?_);show wpAny _ _ (if((1:Int) == 0)=true then _ else _) _ _ s;rw[if_neg (by decide)];refine Hz (sN pl (Hz (sN g (Hz (HB ?_)))));show wpAny _ _ (match LG lo a 1 (n:Int)with | (lo,a)=>pure (lo,(1:Int),KG lo a 1)) _ _ s;rw[zo lo a n];show wpAny _ _ (pure (((sIx n 0 lo:Nat):Int),(1:Int),KG ((sIx n 0 lo:Nat):Int) ((sIx n n a:Nat):Int) 1)) _ _ s;rw[zp];exact HB h
theorem zu(xs:Array HD)(i k:Nat):((Iw k).filterMap λ(m:Nat)=>xs[((i:Int)+(m:Int)*1).toNat]?).toArray=((xs.toList.drop i).take k).toArray:=by
 have e:(λ(m:Nat)=>xs[((i:Int)+(m:Int)*1).toNat]?)=λm=>xs[i+m]?:=by
  funext m;have:((i:Int)+(m:Int)*1).toNat=i+m:=by omega
  rw[this]
 rw[e];have:=pick_run xs i k;rw[List.filterMap_map]at this;have a:((λx=>xs[x]?) ∘ λx=>i+x)=λm=>xs[i+m]?:=rfl;rw[a]at this;rw[this]
theorem cE{t d:Addr}{items:Array HD}{j l:HD}{lo b:Option Int}{Q:HD->HF->Prop}(c:QD s.heap t items)(hs:s.heap.IsSliceOf d j l .none)(pl:Ql j lo)(p:Ql l b)
 (r:¬(sIx items.size 0 lo=0/\sIx items.size items.size b=items.size))
 (h:Q (.ref s.heap.objs.size) { s with heap:=s.heap.push { cls:=.type "tuple",data:=.seq ((items.toList.drop (sIx items.size 0 lo)).take (sIx items.size items.size b - sIx items.size 0 lo)).toArray } })
 (hsz:items.size<=sizeLine):wpAny (model prog w) A (getItem (.ref t) (.ref d)) Q E s:=by
 have a:sizeOk (.seq ((items.toList.drop (sIx items.size 0 lo)).take (sIx items.size items.size b - sIx items.size 0 lo)).toArray):=by
  show((items.toList.drop (sIx items.size 0 lo)).take (sIx items.size items.size b - sIx items.size 0 lo)).toArray.size<=sizeLine;rw[HU,Jb,Oq,Js];omega
 have v:sIx items.size items.size b<=items.size:=zn _ _ (HG _) b;obtain⟨os,e,f,u⟩:=id hs;have g:s.TypeIs (.ref d) "slice":=⟨os,e,f⟩;unfold getItem
 try with_reducible refine IY ?_
 first | refine Hz (HB ?_) | skip
 refine Hz (wpAny_sequenceKey c.typeIs (by decide) ?_);refine Hz (Jd (name:=KR "__getitem__") c.typeIs KJ
  (II KJ c.typeIs entry_tuple_getitem ?_ (args_tuple_getitem _ _)))
 show wpAny _ _ (Ji.Tuple.tupleItemsOf (.ref t)>>=_) _ _ s;refine Hz (tupleItemsOf_ c ?_);refine Hz (LX g ?_);rw[if_pos (by decide)];refine Hz (zt hs pl p ?_);have i:¬((((sIx items.size 0 lo:Nat):Int) == 0&&(1:Int) == 1&&(sIx items.size items.size b - sIx items.size 0 lo) == items.size)=true):=by
  intro q;rw[HZ,HZ]at q;have x:((sIx items.size 0 lo:Nat):Int)=0:=eq_of_beq q.1.1;have y:sIx items.size items.size b - sIx items.size 0 lo=items.size:=eq_of_beq q.2;exact r ⟨by omega,by omega⟩
 show wpAny _ _ (if(((sIx items.size 0 lo:Nat):Int) == 0&&(1:Int) == 1&&(sIx items.size items.size b - sIx items.size 0 lo) == items.size)=true then _ else _) _ _ s;rw[if_neg i,zu];first
  | exact Hz (m:=KL _) (Ja (HB ⟨_,rfl,HB h⟩) a)
  | exact Hz (m:=KL _) (Ja (Hz (HB (HB ⟨_,rfl,HB h⟩))) a)
  | exact Hz (Hz (m:=KL _) (Ja (HB (HB ⟨_,rfl,HB h⟩)) a))
  | exact Hz (Hz (m:=KL _) (Ja (HB ⟨_,rfl,HB h⟩) a))
end
end HT
namespace L2
open PySem PySem.Spec PyProof.Rows
abbrev TO:=St->Hp->(Option Int->Hp->Prop)->Prop
def PO(X:Cx)(e:Option Expr)(t:TO):Prop:=
 ∀(a:List (Addr×Obj))(s:HF)(σ:St)(H:Hp)(Q:Option Int->Hp->Prop),Inv X a σ H s->t σ H Q->
  wpAny (model X.prog X.w) X.A (evalPart e X.env) (λu c=>∃o b,Inv X a σ b c/\Ql u o/\Q o b) X.xe s
noncomputable def tNoPart:TO:=λ_ H Q=>Q none H
noncomputable def zv(t:TE):TO:=λa H Q=>t a H λx b=>∃i,x=.int i/\Q (some i) b
theorem X2{ns:List Int}:∀{us:List HD},aE (ns.map V.int) us->Ko us ns:=by
 induction ns with
 | nil=>intro us r;rw[LY]at r;cases r;exact .nil
 | cons n ns ih=>
   intro us r;rw[Ic]at r;cases r with
   | cons a b=>
     obtain⟨t,e⟩:=a;subst e;exact .cons n t (ih b)
section
variable{X:Cx}{e:Expr}{te:TE}{lo hi:Option Expr}{tl th:TO}{pos p2:Pos}
theorem zw:PO X none tNoPart:=by
 intro a s b H Q I h;rw[evalPart_none];exact HB ⟨none,H,I,.none,h⟩
theorem zx(h:PE X e te):PO X (some e) (zv te):=by
 intro a s b H Q I c;rw[evalPart_some];refine aP (h a s b H _ I c) λu m d=>?_;obtain⟨x,f,g,j,l⟩:=d;obtain⟨i,rfl,q⟩:=l;obtain⟨t,rfl⟩:=j;exact⟨some i,f,g,.int i t,q⟩
def jl(X:Cx)(r:V->Option Int->Option Int->Hp->VK->Prop):Prop:=
 ∀(a:List (Addr×Obj))(s:HF)(σ:St)(H:Hp)(x:V)(v b c:HD)(lo hi:Option Int)(d:Addr)(Q:VK),Inv X a σ H s->RelV x v->s.heap.IsSliceOf d b c .none->Ql b lo->Ql c hi->r x lo hi H Q->
  ∃T id,typeLookup (.type T) "__getitem__" = pure (some (.builtin id))/\s.TypeIs v T/\wpAny (model X.prog X.w) X.A (getItem v (.ref d)) (EP X a σ Q) X.xe s
theorem jl.or{r b:V->Option Int->Option Int->Hp->VK->Prop}(h:jl X r)(h':jl X b):jl X (λx lo hi H Q=>r x lo hi H Q\/b x lo hi H Q):=by
 intro a s c H x v d f lo hi g Q I i j l m q;rcases q with q | q
 ·exact h a s c H x v d f lo hi g Q I i j l m q
 ·exact h' a s c H x v d f lo hi g Q I i j l m q
noncomputable def zy(r:V->Option Int->Option Int->Hp->VK->Prop)(te:TE)(tl th:TO):TE:=λa H Q=>te a H λx b=>tl a b λl c=>th a c λu d=>r x l u d Q
theorem zA{r:V->Option Int->Option Int->Hp->VK->Prop}(o:jl X r)(he:PE X e te)(p:PO X lo tl)(y:PO X hi th):PE X (.Subscript e (.Slice lo hi none p2) pos) (zy r te tl th):=by
 intro a s g H Q I h;refine Subscript_ (aP (he a s g H _ I h) λv z m=>?_);obtain⟨x,B,C,D,E⟩:=m;refine wpAny_Slice (aP (p a z g B _ C E) λi G ⟨l,J,L,N,O⟩=>aP (y a G g J _ L O) λj c m=>?_);obtain⟨u,n,U,Y,Z⟩:=m;rw[evalPart_none];refine HB ?_;have I4:Inv X a g n { c with heap:=c.heap.push { cls:=.type "slice",data:=.fields #[i,j,.none] } }:=U.kept (t':=c.toks) λb ob q=>HA _ q;obtain⟨T,id,hT,ht,hg⟩:=o a { c with heap:=c.heap.push { cls:=.type "slice",data:=.fields #[i,j,.none] } } g n x v i j l u c.heap.objs.size Q I4 D (Heap.IsSliceOf.new ..) N Y Z;show wpAny (model X.prog X.w) X.A (subscriptTail e (.Slice lo hi none p2) v (.ref c.heap.objs.size)) (EP X a g Q) X.xe { c with heap:=c.heap.push { cls:=.type "slice",data:=.fields #[i,j,.none] } };exact tail_any (ops:=[.ref c.heap.objs.size,v]) ht hT hg (by with_unfolding_all rfl)
noncomputable def hJ(xs:List V)(lo hi:Option Int):List V:=(xs.drop (HT.sIx xs.length 0 lo)).take (HT.sIx xs.length xs.length hi - HT.sIx xs.length 0 lo)
theorem sO(xs:List V)(lo hi:Option Int):(hJ xs lo hi).length<=xs.length:=by
 unfold hJ;rw[Jb,Oq];omega
noncomputable def zB(K:HE):V->Option Int->Option Int->Hp->VK->Prop:=λx lo hi H Q=>∃a b,x=.ref a/\cD K H a b/\
 ¬(HT.sIx b.length 0 lo=0/\HT.sIx b.length b.length hi=b.length)/\∀p,H p=none->Q (.ref p) (aF H p (.tup (hJ b lo hi)))
theorem zC:jl X (zB X.K):=by
 intro g s y H x v z A lo hi B Q I l m n p h;obtain⟨a,d,rfl,u,w,q⟩:=h;cases l;obtain⟨f,r,i,j⟩:=I.tuple u;have c:f.toArray.size=d.length:=by rw[HU];exact r.length.symm
 refine⟨"tuple",_,KJ.lookup,i.typeIs,?_⟩;refine HT.cE i m n p (by rw[c];exact w) ?_ (by rw[c];exact j);rw[c];refine⟨.ref s.heap.objs.size,_,I.laid (t':=s.toks) (o:=.tup (hJ d lo hi)) (λb C q=>HA _ q) (HG _) ?_,rfl,q _ (I.hok.fresh (HG _))⟩;exact⟨Ih (sO d lo hi) j,_,(r.drop (HT.sIx d.length 0 lo)).take (HT.sIx d.length d.length hi - HT.sIx d.length 0 lo),QD.new _ _⟩
noncomputable def sP(K:HE):R2:=λx y H Q=>∃a b d c,x=.ref a/\y=.ref b/\cD K H a d/\cD K H b c/\d≠[]/\d.length+c.length<=sizeLine/\
 (c=[]->Q (.ref a) H)/\(c≠[]->∀p,H p=none->Q (.ref p) (aF H p (.tup (d++c))))
theorem aE.nil_iff{xs:List V}{us:List HD}(r:aE xs us):us=[]↔xs=[]:=by
 cases r with
 | nil=>simp
 | cons _ _=>simp
theorem op_catT:bY X (binaryOp .Add) (sP X.K):=by
 intro f s E H x y v u Q I j l h;obtain⟨a,b,m,n,rfl,rfl,p,r,A,g,B,C⟩:=h;cases j;cases l;obtain⟨D,d,p1,_⟩:=I.tuple p;obtain⟨i,c,p2,_⟩:=I.tuple r;refine HT.hF p1 p2 (λz=>A (d.nil_iff.mp z)) (λz=>⟨.ref a,H,I,rfl,B (c.nil_iff.mp z)⟩) (λz=>?_) (by rw[←d.length,←c.length];exact g);refine⟨.ref s.heap.objs.size,_,I.laid (t':=s.toks) (o:=.tup (m++n)) (λb G q=>HA _ q) (HG _) ?_,rfl,C (λw=>z (c.nil_iff.mpr w)) _ (I.hok.fresh (HG _))⟩;exact⟨by rw[Ie];exact g,_,d.append c,QD.new _ _⟩
end
noncomputable def ixN(n:Nat)(i:Int):Option Nat:=if 0<=i then(if i<n then some i.toNat else none) else if -(n:Int)<=i then some (i+n).toNat else none
noncomputable def atI{a:Type}(xs:List a)(i:Int):Option a:=(ixN xs.length i).bind λj=>xs[j]?
theorem zD{n:Nat}{i:Int}{j:Nat}(h:ixN n i=some j):seqIndex? i n=some j/\j<n/\-(n:Int)<=i/\i<n:=by
 unfold ixN at h;by_cases b:0<=i
 ·rw[if_pos b]at h;by_cases a:i<n
  ·rw[if_pos a]at h;have e:i.toNat=j:=Iv h;exact⟨by rw[seqIndex_of b a,e],by omega,by omega,a⟩
  ·rw[if_neg a]at h;cases h
 ·rw[if_neg b]at h;by_cases a : -(n:Int)<=i
  ·rw[if_pos a]at h;have e:(i+n).toNat=j:=Iv h;exact⟨by rw[seqIndex_neg (by omega) a,e],by omega,a,by omega⟩
  ·rw[if_neg a]at h;cases h
theorem sQ{a:Type}{xs:List a}{i:Int}{v:a}(h:atI xs i=some v):∃j,seqIndex? i xs.length=some j/\xs[j]?=some v/\j<xs.length/\-(xs.length:Int)<=i/\i<xs.length:=by
 unfold atI at h;cases e:ixN xs.length i with
 | none=>rw[e]at h;cases h
 | some j=>
   rw[e]at h;obtain⟨b,c,d,f⟩:=zD e;exact⟨j,b,h,c,d,f⟩
def sR(b:Expr):Prop:=∀o i,subscripted b false o i=operate [o,i] (getItem o i)
def iM(X:Cx)(r:R2):Prop:=
 ∀(c a:Expr)(b:List (Addr×Obj))(s:HF)(σ:St)(H:Hp)(x y:V)(v u:HD)(Q:VK),Inv X b σ H s->RelV x v->RelV y u->r x y H Q->
  subscripted a false v u=operate [v,u] (getItem v u)->wpAny (model X.prog X.w) X.A (subscriptTail c a v u) (EP X b σ Q) X.xe s
def sS(X:Cx)(id:String)(r:V->List V->Hp->VK->Prop):Prop:=
 ∀(a:List (Addr×Obj))(s:HF)(σ:St)(H:Hp)(x:V)(xs:List V)(v:HD)(us:List HD)(Q:VK),Inv X a σ H s->RelV x v->aE xs us->r x xs H Q->
  wpAny (model X.prog X.w) X.A (call (.builtin id) (v::us)) (EP X a σ Q) X.xe s
section
variable{X:Cx}{a b:Expr}{ta tb:TE}{pos:Pos}
theorem iM.or{r f:R2}(h:iM X r)(h':iM X f):iM X (λx y H Q=>r x y H Q\/f x y H Q):=by
 intro c d e s g H x y v u Q I i j q l;rcases q with q | q
 ·exact h c d e s g H x y v u Q I i j q l
 ·exact h' c d e s g H x y v u Q I i j q l
theorem zE{r:R2}(d:iM X r)(e:PE X a ta)(f:PE X b tb)(hs:sR b):PE X (.Subscript a b pos) (kN r ta tb):=by
 intro c s g H Q I h;exact Subscript_ (oJ e f I h λv u i x y j l m n q=>d a b c i g j x y v u Q l m n q (hs _ _))
noncomputable def sT(K:HE):R2:=λx y H Q=>∃p c i v,x=.ref p/\y=.int i/\bv K H p c/\atI c i=some v/\Q v H
noncomputable def sU(K:HE):R2:=λx y H Q=>∃p c i v,x=.ref p/\y=.int i/\cD K H p c/\atI c i=some v/\Q v H
theorem ix_list:iM X (sT X.K):=by
 intro e f c s o H x y v u Q I D E h A;obtain⟨p,Y,i,z,rfl,rfl,G,J,q⟩:=h;cases D;obtain⟨t,rfl⟩:=E;obtain⟨g,r,l,Z⟩:=I.list G;obtain⟨j,d,L,h3,N,O⟩:=sQ J;obtain⟨w,B,m⟩:=r.get L;have T:=r.length;have hn:=oN;have fin:EP X c o Q w s:=⟨z,H,I,m,q⟩;by_cases C:0<=i
 ·have n:i.toNat=j:=by
   rw[seqIndex_of C O]at d;exact Iv d
  exact item_listR l.isList C (by omega) (by rw[n];simpa using B) fin A
 ·have n:(i+(g.toArray.size:Int)).toNat=j:=by
   rw[seqIndex_neg (by omega) N]at d;rw[HU,←T];exact Iv d
  exact Oz (x:=w) l.isList.typeIs slot_list_getitem.lookup
   (wpAny_getItem_list_neg (Q:=λr U=>r=w/\EP X c o Q r U) l.isList (by omega) (by rw[HU]<;>omega) (by omega) (by rw[n];simpa using B) ⟨rfl,fin⟩) A
theorem zF:iM X (sU X.K):=by
 intro d e c s g H x y v u Q I m n h o;obtain⟨p,N,i,z,rfl,rfl,A,B,q⟩:=h;cases m;obtain⟨t,rfl⟩:=n;obtain⟨C,r,l,O⟩:=I.tuple A;obtain⟨j,D,E,T,U,Y⟩:=sQ B;obtain⟨w,G,f⟩:=r.get E;have J:=r.length;have Z:=oN;have fin:EP X c g Q w s:=⟨z,H,I,f,q⟩;exact Oz (x:=w) l.typeIs slot_tuple_getitem.lookup
  (getItem_tuple (j:=j) (Q:=λr L=>r=w/\EP X c g Q r L) l (by omega) (by omega) (by rw[HU,←J];exact D) (by simpa using G) ⟨rfl,fin⟩) o
theorem zG(lo c:Option Int)(n:Nat):(sliceBounds lo c none n).1=((HT.sIx n 0 lo:Nat):Int)/\(sliceBounds lo c none n).2.1=((HT.sIx n n c:Nat):Int)/\(sliceBounds lo c none n).2.2=1:=by
 refine⟨?_,?_,rfl⟩
 ·cases lo with
  | none=>simp[sliceBounds,HT.sIx]
  | some i=>
    simp only[sliceBounds,HT.sIx,Option.getD_none,show(1:Int) > 0 by decide,if_true];by_cases h:i<0
    ·simp only[h,if_true]<;>omega
    ·simp only[h,if_false]<;>omega
 ·cases c with
  | none=>simp[sliceBounds,HT.sIx]
  | some i=>
    simp only[sliceBounds,HT.sIx,Option.getD_none,show(1:Int) > 0 by decide,if_true];by_cases h:i<0
    ·simp only[h,if_true]<;>omega
    ·simp only[h,if_false]<;>omega
theorem zH(c:List HD)(lo d:Option Int):slicePick c.toArray lo d none=((c.drop (HT.sIx c.length 0 lo)).take (HT.sIx c.length c.length d - HT.sIx c.length 0 lo)).toArray:=by
 obtain⟨e,f,g⟩:=zG lo d c.toArray.size;unfold slicePick;rw[e,f,g];simp only[sliceRange_one,pick_run,HU]<;>rfl
noncomputable def zI(K:HE):V->Option Int->Option Int->Hp->VK->Prop:=λx lo d H Q=>∃a c,x=.ref a/\bv K H a c/\∀p,H p=none->Q (.ref p) (aF H p (.lst (hJ c lo d)))
theorem sl_list:jl X (zI X.K):=by
 intro f s w H x v y z lo e A Q I i j l m h;obtain⟨a,c,rfl,n,q⟩:=h;cases i;obtain⟨p,r,g,u⟩:=I.list n;have d:=r.length;refine⟨"list",_,slot_list_getitem.lookup,g.isList.typeIs,?_⟩;refine wpAny_getItem_list_slice g.isList j l m .none (by simp) ?_ (by rw[HU]<;>omega);rw[zH,←d];refine⟨.ref s.heap.objs.size,_,I.laid (t':=s.toks) (o:=.lst (hJ c lo e)) (λb B q=>HA _ q) (HG _) ?_,rfl,q _ (I.hok.fresh (HG _))⟩;exact⟨Ih (sO c lo e) u,_,0,(r.drop (HT.sIx c.length 0 lo)).take (HT.sIx c.length c.length e - HT.sIx c.length 0 lo),HI _ rfl⟩
noncomputable def mU:V->Bool
 | .non=>true
 | .bl _=>true
 | .int _=>true
 | .str _=>true
 | _=>false
noncomputable def oW:V->V->Bool
 | .non,.non=>true
 | .bl a,.bl b=>a == b
 | .bl a,.int b=>(if a then 1 else 0) == b
 | .int a,.bl b=>a == (if b then 1 else 0)
 | .int a,.int b=>a == b
 | .str a,.str b=>a == b
 | _,_=>false
theorem zJ{A:IN}{s:HF}{y x:V}{u v:HD}(e:RelV y u)(c:RelV x v)(g:mU y=true)(f:mU x=true):JA A s u v (oW y x):=by
 cases y with
 | non=>
   cases e;cases x with
   | non=>cases c;exact JA.same _
   | bl b=>cases c;exact JA.none_bool b
   | int b=>obtain⟨t,rfl⟩:=c;exact JA.none_int b t
   | str b=>obtain⟨t,rfl⟩:=c;exact JA.none_str b t
   | _=>exact absurd (show false=true from f) IP
 | bl a=>
   cases e;cases x with
   | non=>cases c;exact JA.bool_none a
   | bl b=>cases c;exact OX a b
   | int b=>obtain⟨t,rfl⟩:=c;exact JA.bool_int a b t
   | str b=>obtain⟨t,rfl⟩:=c;exact JA.bool_str a b t
   | _=>exact absurd (show false=true from f) IP
 | int a=>
   obtain⟨d,rfl⟩:=e;cases x with
   | non=>cases c;exact JA.int_none a d
   | bl b=>cases c;exact JA.int_bool a d b
   | int b=>obtain⟨t,rfl⟩:=c;exact JA.int_int a d b t
   | str b=>obtain⟨t,rfl⟩:=c;exact JA.int_str a d b t
   | _=>exact absurd (show false=true from f) IP
 | str a=>
   obtain⟨d,rfl⟩:=e;cases x with
   | non=>cases c;exact JA.str_none a d
   | bl b=>cases c;exact JA.str_bool a d b
   | int b=>obtain⟨t,rfl⟩:=c;exact JA.str_int a d b t
   | str b=>obtain⟨t,rfl⟩:=c;exact JA.str_str a d b t
   | _=>exact absurd (show false=true from f) IP
 | _=>exact absurd (show false=true from g) IP
theorem zK:bo X (.builtin "len") (λj H Q=>∃p d,j=[.ref p]/\(bv X.K H p d\/cD X.K H p d)/\Q (.int d.length) H):=by
 intro l s o H j v Q I r h;obtain⟨p,d,rfl,e,q⟩:=h;obtain⟨u,rfl,m⟩:=l9 r;cases m;have w:=oN;rcases e with e | e
 ·obtain⟨f,g,i,n⟩:=I.list e;have c:=g.length;exact Calls.call_len_list i.isList (by simp only[HU]<;>omega) ⟨.int d.length,H,I.tok _,⟨s.toks+1,by rw[HU,c]⟩,q⟩
 ·obtain⟨f,g,i,n⟩:=I.tuple e;have c:=g.length;exact len_tuple i (by simp only[HU]<;>omega) ⟨.int d.length,H,I.tok _,⟨s.toks+1,by rw[HU,c]⟩,q⟩
theorem bo.or{f:HD}{r e:List V->Hp->VK->Prop}(h:bo X f r)(h':bo X f e):bo X f (λd H Q=>r d H Q\/e d H Q):=by
 intro c s g H d i Q I j q;rcases q with q | q
 ·exact h c s g H d i Q I j q
 ·exact h' c s g H d i Q I j q
theorem zL:bo X (.type "list") (λD H Q=>∃p d,D=[.ref p]/\(bv X.K H p d\/cD X.K H p d)/\∀l,H l=none->Q (.ref l) (aF H l (.lst d))):=by
 intro i s N H D T Q I r h;obtain⟨p,d,rfl,j,q⟩:=h;obtain⟨u,rfl,O⟩:=l9 r;cases O;have fin:∀(c:List HD),aE d c->d.length<=sizeLine->∀(h':Heap)(f:Nat),(∀b E,s.heap.get? b=some E->h'.get? b=some E)->
  h'.get? s.heap.objs.size=some { cls:=.type "list",dict:=none,data:=.seq c.toArray f,slots:=#[] }->EP X i N Q (.ref s.heap.objs.size) { s with heap:=h' }:=λc g m h' f v e=>
  ⟨.ref s.heap.objs.size,_,I.laid (t':=s.toks) v (HG _) (show aO X.prog X.w _ h' _ (.lst d)from⟨m,c,f,g,e⟩),rfl,q _ (I.hok.fresh (HG _))⟩
 rcases j with j | j
 ·obtain⟨c,g,z,m⟩:=I.list j;have x:=g.length;obtain⟨o,A,B,n,C⟩:=z.isList;exact call_list_seq p (.inl rfl) A B C (λh' f v e=>fin c g m h' f v e) (by simp only[HU]<;>omega)
 ·obtain⟨c,g,z,m⟩:=I.tuple j;have x:=g.length;obtain⟨o,A,B,n,C⟩:=z;exact call_list_seq p (.inr rfl) A B C (λh' f v e=>fin c g m h' f v e) (by simp only[HU]<;>omega)
def sV(K:HE)(T:String)(x:V)(H:Hp):Prop:=match x with
 | .str _=>T="str"
 | .int _=>T="int"
 | .ref p=>(T="list"/\∃d,bv K H p d)\/(T="tuple"/\∃o,K.lookup p=some o/\o.cls=.type "tuple"/\o.dict=none)\/
  (T="dict"/\((∃c,H p=some (.dK c))\/∃c,H p=some (.dT c)))\/(T="set"/\∃S n,H p=some (.set S n))
 | _=>False
theorem zM{g:List (Addr×Obj)}{σ:St}{H:Hp}{s:HF}{T:String}{x:V}{v:HD}(I:Inv X g σ H s)(r:RelV x v)(h:sV X.K T x H) :
 s.TypeIs v T/\∀a,v=.ref a->∃q,s.heap.get? a=some q/\q.dict=none:=by
 cases x with
 | str z=>
   obtain⟨t,rfl⟩:=r;cases(show T="str" from h);exact⟨typeIs_str s z t,λ_ e=>nomatch e⟩
 | int i=>
   obtain⟨t,rfl⟩:=r;cases(show T="int" from h);exact⟨typeIs_int s i t,λ_ e=>nomatch e⟩
 | ref p=>
   cases r;rcases h with⟨rfl,B,w⟩ | ⟨rfl,o,d,y,j⟩ | ⟨rfl,d⟩ | ⟨rfl,S,n,d⟩
   ·obtain⟨A,_,u,_⟩:=I.list w;refine⟨u.isList.typeIs,λa e=>?_⟩;cases e;obtain⟨o,n,e,c,j,_⟩:=u;exact⟨o,e,j⟩
   ·refine⟨⟨o,I.kIn p o d,y⟩,λa e=>?_⟩;cases e;exact⟨o,I.kIn _ o d,j⟩
   ·have z:∃o,s.heap.get? p=some o/\o.ExactDict:=by
     rcases d with⟨l,d⟩ | ⟨l,d⟩
     ·obtain⟨_,_,_,_,o,_,_,e,f,_⟩:=I.hok p _ d;exact⟨o,e,f⟩
     ·obtain⟨_,_,_,_,o,_,_,e,f,_⟩:=I.hok p _ d;exact⟨o,e,f⟩
    obtain⟨o,e,f⟩:=z;refine⟨⟨o,e,f.1⟩,λa m=>?_⟩;cases m;exact⟨o,e,f.2.1⟩
   ·obtain⟨o,_,_,_,e,f,_⟩:=I.hok p _ d;refine⟨⟨o,e,f.1⟩,λa m=>?_⟩;cases m;exact⟨o,e,f.2.1⟩
 | _=>exact Iq h
noncomputable def zN(K:HE)(T:String)(r:V->List V->Hp->VK->Prop)(e:TE)(t:TA):TE:=λc H Q=>e c H λx d=>sV K T x d/\t c d λf g=>r x f g Q
variable{o e:Expr}{es:List Expr}{to:TE}{t:TA}{name:Str}{apos cpos:Pos}{T id:String}{r:V->List V->Hp->VK->Prop}
theorem sW(m:PlainAttrs T)(slot:Slot T name id)(f:typeOf (.builtin id)=pure (.type "method_descriptor"))(n:sS X id r)(p:PE X o to)(q:PA X (e::es) t)
 (hbase:attributeBase o name X.env (eval o X.env)=eval o X.env:=by rfl)
 (hfew:((backTo cpos (starEach (e::es) X.env)).all (λx=>!x.1)&&(backToKw cpos (keywordEach [] X.env)).all (λx=>x.1.isSome)
  &&decide ((e::es).length+([]:List Ob).length+(if([]:List Ob).isEmpty then 0 else 1)<30))=true:=by rfl)
 (hline:(apos.endLine == cpos.line)=true:=by rfl) (hs:starEach (e::es) X.env=(false,eval e X.env)::starEach es X.env:=by rfl) (d:(backTo cpos (starEach es X.env)).any (·.1)=false:=by rfl) :
 PE X (.Call (.Attribute o name apos) (e::es) [] cpos) (zN X.K T r to t):=by
 intro c s g H Q I h;refine wpAny_Call_method_late hbase hfew hline rfl (aP (p c s g H _ I h) λv u w=>?_);obtain⟨x,y,i,j,z,A⟩:=w;obtain⟨B,C⟩:=zM i j z;refine⟨T,id,m,slot,f,B,C,?_⟩;have l:=q cpos c u g y _ i A;rw[hs]at l ⊢;refine Lb (by show(false||(backTo cpos (starEach es X.env)).any (·.1))=false;rw[d]<;>rfl) (LB ?_);exact aP l λD E ⟨G,J,L,N,O⟩=>n c E g J x G v D Q L j N O
/- xs.append(e),list.index on a module's tuple .. are sS facts of 06m -/
end
def sX(X:Cx)(id:String)(r:V->List V->Hp->VK->Prop):Prop:=
 ∀(a:List (Addr×Obj))(s:HF)(σ:St)(H:Hp)(x:V)(xs:List V)(v:HD)(us:List HD)(Q:VK),Inv X a σ H s->RelV x v->aE xs us->r x xs H Q->
  wpAny (model X.prog X.w) X.A (call (.builtin id) (v::us)) (EP X a σ Q) X.xe s
theorem aE.one:∀{x:V}{us:List HD},aE [x] us->∃u,us=[u]/\RelV x u
 | _,_,.cons r .nil=>⟨_,rfl,r⟩
section
variable{X:Cx}{pins:List (Addr×Obj)}{σ:St}{H:Hp}{s:HF}{l b:Addr}{xs ys zs:List V}
theorem Inv.lset{a its':List HD}{n:Nat}{f:Array HD->Array HD}{t':Nat}(I:Inv X pins σ H s)(h:H l=some (.lst xs))
 (e:s.heap.get? l=some { cls:=.type "list",data:=.seq a.toArray n }) (i:f a.toArray=its'.toArray) (j:aE ys its') (hz:ys.length<=sizeLine) :
 Inv X pins σ (aF H l (.lst ys)) { s with heap:=s.heap.update l (Ks f),toks:=t' }:=by
 have q:=PySem.IsL.update e f;rw[i]at q;refine I.write (x:=l) (e:=l) (by rw[h];exact trivial) (.inl rfl) (λp u m o=>(JB s.heap (Ks f) (JX m)).trans o) ⟨_,q⟩ ?_;exact⟨hz,its',_,j,q⟩
theorem Inv.lnew{a:List HD}{t':Nat}(I:Inv X pins σ H s)(f:aE ys a)(hz:ys.length<=sizeLine) :
 Inv X pins σ (aF H s.heap.objs.size (.lst ys)) { s with heap:=s.heap.push { cls:=.type "list",data:=.seq a.toArray },toks:=t' }:=
 I.laid (λ_ _ q=>HA _ q) (HG _) ⟨hz,a,0,f,HI _ rfl⟩
theorem Inv.fresh(I:Inv X pins σ H s):H s.heap.objs.size=none:=I.hok.fresh (HG _)
theorem Inv.lstM(I:Inv X pins σ H s)(d:H l=some (.lst xs)):xs.length<=sizeLine/\∃(a:List HD)(n:Nat),aE xs a/\xs.length=a.length/\s.heap.get? l=some { cls:=.type "list",data:=.seq a.toArray n }:=by
 obtain⟨z,a,n,r,e⟩:=I.hok l _ d;exact⟨z,a,n,r,r.length,e⟩
theorem zO{n:Nat}(h:n<=sizeLine):LZ n=false:=by
 unfold LZ;exact decide_eq_false (by omega)
end
section
variable{X:Cx}
noncomputable def rAppend:V->List V->Hp->VK->Prop:=λx b H Q=>∃l a y,x=.ref l/\b=[y]/\H l=some (.lst a)/\a.length<sizeLine/\Q .non (aF H l (.lst (a++[y])))
theorem zP:sX X "list.append" rAppend:=by
 intro b s i H x j v m Q I d f h;obtain⟨l,o,y,rfl,rfl,c,p,q⟩:=h;cases d;obtain⟨u,rfl,g⟩:=f.one;obtain⟨z,a,n,r,w,e⟩:=I.lstM c;refine call_meets F.slot_list_append ⟨_,e,rfl⟩ F.entry_list_append (F.args_list_append_2 _ _) (PySem.list_append l a.toArray n u (by rw[HU];omega)) ⟨e,?_⟩;refine⟨.non,_,I.lset (its':=a++[u]) c e (by simp) (r.append (.cons g .nil)) ?_,rfl,q⟩;rw[Ie,MD];omega
noncomputable def rExtend:V->List V->Hp->VK->Prop:=λx d H Q=>∃l b a c,x=.ref l/\d=[.ref b]/\H l=some (.lst a)/\H b=some (.lst c)/\a.length+c.length<=sizeLine/\Q .non (aF H l (.lst (a++c)))
theorem zQ:sX X "list.extend" rExtend:=by
 intro g s C H x D v E Q I j m h;obtain⟨l,b,G,J,rfl,rfl,i,o,L,q⟩:=h;cases j;obtain⟨u,rfl,p⟩:=m.one;cases p;obtain⟨z,c,n,r,N,e⟩:=I.lstM i;obtain⟨O,a,w,y,A,B⟩:=I.lstM o;have f:c.toArray.size+a.toArray.size<=sizeLine:=by rw[HU,HU];omega
 have d:¬(!c.toArray.isEmpty&&LZ (c.toArray.size+a.toArray.size))=true:=by
  rw[zO f,Bool.and_false];exact IP
 refine call_meets F.slot_list_extend ⟨_,e,rfl⟩ F.entry_list_extend (F.args_list_extend_2 _ _)
  (AutoSeq1.list_extend_list_list_0 l c.toArray n b a.toArray w d (by rw[HU];omega) (by omega)) ⟨e,B,?_⟩
 refine⟨.non,_,I.lset (its':=c++a) i e (by simp) (r.append y) ?_,rfl,q⟩;rw[Ie];omega
noncomputable def rCat:R2:=λx y H Q=>∃l b a c,x=.ref l/\y=.ref b/\H l=some (.lst a)/\H b=some (.lst c)/\a.length+c.length<=sizeLine/\∀p,H p=none->Q (.ref p) (aF H p (.lst (a++c)))
theorem zR:bY X (binaryOp .Add) rCat:=by
 intro d s A H x y v u Q I f g h;obtain⟨l,b,B,C,rfl,rfl,i,j,D,q⟩:=h;cases f;cases g;obtain⟨z,c,n,r,E,e⟩:=I.lstM i;obtain⟨G,a,J,m,o,p⟩:=I.lstM j;refine PySem.P.add_list e p ?_ (by rw[HU,HU];omega);have w:c.toArray++a.toArray=(c++a).toArray:=by simp
 rw[w];exact⟨.ref _,_,I.lnew (t':=s.toks) (r.append m) (by rw[Ie];omega),rfl,q _ I.fresh⟩
end
end L2
namespace Att
open PySem PySem.W PySem.Calls PyProof.Rows
theorem zS{P:Params}{h:Heap}:∀(ns:List Int)(vs:List HD),WellAll P h vs (ns.map WData.int)->Ko vs ns:=by
 intro ns;induction ns with
 | nil=>
   intro vs w;rw[LY]at w;cases w;exact .nil
 | cons n ns ih=>
   intro vs w;rw[Ic]at w;cases w with
   | cons a b=>
     cases a;exact .cons _ _ (ih _ b)
theorem zT{l:Qx}{n:Nat}(u:l.most=some n){P:Params}{h:Heap}{args:List WData}{b:List HD}
 (c:l.row.toRowW.claim.pre args=true) (j:WellAll P h b args) :
 ∃a o ns,b=[HW a]/\args=[WData.list (ns.map WData.int)]/\h.get? a=some { cls:=.type "list",data:=.seq o.toArray }/\Ko o ns/\ns.length<=n:=by
 have m:WShape.hasAll [] args [.list .int]=true:=(pre_splitW c).1;have s:l.pre.holds [] { args:=args }=true:=(pre_splitW c).2;obtain⟨d,r,rfl,v,w⟩:=hasAllW_cons m;obtain rfl:=hasAllW_nil w;obtain⟨C,rfl,x⟩:=hasW_list v;obtain⟨ns,rfl⟩:=items_int x;have e:ns.length<=n:=by
  unfold Qx.pre at s;have g:(WTm.not (.lt (.lit (.int (n:Int))) (.len (.arg 0)))).holds [] { args:=[.list (ns.map .int)] }=true:=by
   have g:=(holds_andW s).1;rw[u]at g;exact g
  have i:=condW_of g (w_not (w_lt w_lit (w_len_list (w_arg rfl))));rw[HC]at i;refine Nat.le_of_not_lt λq=>?_;have y:(n:Int)<((ns.length:Nat):Int):=by omega
  first
   | (rw[decide_eq_true y]at i;exact absurd i (by decide))
   | (simp at i;omega)
 cases j with
 | cons z A=>
   cases A;cases z with
   | list B f=>exact⟨_,_,ns,rfl,rfl,B,zS ns _ f,e⟩
theorem zU(l:Qx)(args:List WData):l.row.toRowW.claim.post args (.bool true) args=true:=
 postW_of (r:=l.row.toRowW) (X:=(true == true))
  (show WShape.has [] (.bool true) .bool=true by first | rfl | decide | simp[WShape.has,WShape.arms,WShape.armsAll])
  (show(WTm.eq .res (.lit (.bool true))).value [] { args:=args,res:=some (.bool true),after:=args }=some (.bool (true == true))from w_eq_bool (w_res rfl) w_lit) rfl
theorem zV{l:Qx}{n:Nat}{q:Ib}{c:List Str}{XP:(Str->Option HD)->Heap->Prop}{B:IW->Heap->Prop}{d:DefRec}
 (J:l.most=some n) (u:d.params.defaults=[])
 (call:∀(w:IW)(e b:HF)(mg v:Str->Option HD)(i:Addr)(o:Obj)(x cd g:HD)(a:Addr)(vs:List HD)(ns:List Int),
  Ground q c [] XP w e mg v b.heap->B w b.heap->
  b.heap.get? i=some o->o.data=.func (docDef d.name d.params d.body d.scope x cd g)->b.heap.CodeRec cd d.name->mg d.name=some (.ref i)->
  b.heap.get? a=some { cls:=.type "list",data:=.seq vs.toArray }->Ko vs ns->ns.length<=n->b.gens=#[]->
  codeAny (model l.prog w) callerA (.call (.ref i) ⟨[.ref a],[]⟩) (λr s=>r=.ok (.ret (.bool true))/\OldK b.heap s.heap/\s.os=b.os/\NX s.gens) b) :
 WalkO q c XP B l.row.toRowW d [] (λf vs=>PySem.call f vs):=by
 intro w e b mg v G Y i o x cd g L kV N O y D z Q E H as j I T A U;obtain rfl:L=.none:=Dflts.none D u;obtain rfl:kV=.none:=Dflts.noKw D;obtain⟨a,vs,ns,rfl,rfl,m,h,p⟩:=zT J j A;refine enter_call (Kr (call w e b mg v i o x cd g a vs ns G Y N (fd_plain O) y z m h p Q) λr s Z=>?_);obtain⟨rfl,h2,h3,h4⟩:=Z;exact⟨.inl ⟨.bool true,.bool true,[],rfl,λ_=>rfl,.bool true,zU l _,λ_=>⟨Oc.nil,λ_ hm=>(nomatch hm)⟩⟩,h2,h3,h4⟩
end Att
namespace L2
open PySem PySem.Spec PyProof.Rows
theorem t7:∀{vs:List HD}{ns:List Int},Ko vs ns->aE (ns.map V.int) vs
 | _,_,.nil=>.nil
 | _,_,.cons n t h=>.cons ⟨t,rfl⟩ (t7 h)
def oX(H:Hp):Prop:=∀b,H b=none\/∃o a,H b=some (.frz o (.lst a))
theorem zW{P:Ib}{w:IW}{K:HE}{mg N:Str->Option HD}{CX:CXT}{k:Nat}{O a:Addr}{fd:Ia}{x:Str}{sp:Sp}{c:HF}{vs:List HD}{ns:List Int}
 (KX:K.In c.heap) (A:c.heap.Ns mainGlobals mg) (f:c.heap.Ns builtinsNs N) (Q:∀x:Str,x≠"__name__"->N x=bootBuiltins x) (B:c.heap.NoLimit) (hg:c.gens=#[])
 (L:c.heap.get? a=some { cls:=.type "list",data:=.seq vs.toArray }) (hi:Ko vs ns) (hl:ns.length<=sizeLine) (hr:aR k callerA)
 (F:∀g:Heap,K.In g->g.Ns mainGlobals mg->az P w K mg g CX k O fd [x] sp) (y:∀(s:HF)(u:HD),Qv s fd ⟨[u],[]⟩ [(x,u)])
 (T:∀H:Hp,oX H->bv K H a (ns.map V.int)->sp [.ref a] H (λv _=>v=.bl true) λ_ _ _=>False)
 (U:∀H e i,CX [] H c (λ_ _ _=>False) e i->False) :
 codeAny (model P w) callerA (.call (.ref O) ⟨[.ref a],[]⟩) (λr i=>r=.ok (.ret (.bool true))/\OldK c.heap i.heap/\i.os=c.os/\NX i.gens) c:=by
 have rv:=t7 hi;have C:=hi.length;have p:∀H:Hp,oX H->bv K H a (ns.map V.int)->bK P w H c.heap->(∀b,H b≠none->b=a)->(H a≠none->K.lookup a=none)->
  codeAny (model P w) callerA (.call (.ref O) ⟨[.ref a],[]⟩) (λr i=>r=.ok (.ret (.bool true))/\OldK c.heap i.heap/\i.os=c.os/\NX i.gens) c:=by
  intro H hO hS D hA hK;have base_of:∀{b:Addr}{o:Obj},c.heap.get? b=some o->H b=none->(gY c.heap H).get? b=some o:=λe n=>xE e n;have Y:∀{b:Addr}{o:Obj}{es:Array NL}{ep:Nat},c.heap.get? b=some o->o.data=.dict es ep->H b=none:=λ{b o es ep} e d=>by
   cases q:H b with
   | none=>rfl
   | some u=>
     have Z:b=a:=hA b (by rw[q];simp);subst Z;rw[L]at e;cases e;have d':Data.seq vs.toArray _=LH es ep:=d;cases d'
  have j:∀{b:Addr}{m:Str->Option HD},c.heap.Ns b m->(gY c.heap H).Ns b m:=λ{b m} ⟨o,es,ep,e,d,r⟩=>⟨o,es,ep,base_of e (Y e d),d,r⟩;have E:K.In (gY c.heap H):=λb o e=>base_of (KX b o e) (by
   cases q:H b with
   | none=>rfl
   | some u=>
     have Z:b=a:=hA b (by rw[q];simp);subst Z;rw[hK (by rw[q];simp)]at e;cases e)
  have hM:Mod K mg (gY c.heap H):=⟨E,j A,⟨N,j f,Q⟩,let⟨mc,h1,h2⟩:=B;⟨mc,j h1,h2⟩⟩;have e0:eT P w K mg (gY c.heap H) callerA [] c H:=⟨rfl,hM,λb o e=>xG e,OK (xD _ _),trivial,λb f=>absurd (show b∈([]:List Addr)from f) (by simp),D,.of_eq hg⟩;refine Kr ((F _ E (j A)).run callerA [] c H ⟨[.ref a],[]⟩ [.ref a] [.ref a] _ _ hr e0 (y c (.ref a)) (.cons rfl .nil) (T H hO hS)) λr i h=>?_;cases r with
  | error e=>exact(U H e i h).elim
  | ok fl=>
    cases fl with
    | next=>exact Iq h
    | brk=>exact Iq h
    | cont=>exact Iq h
    | ret u=>
      obtain⟨v,H',os,G,un,I,r',q⟩:=h;have q':v=.bl true:=q;subst q';obtain rfl:u=Nd true:=r';refine⟨rfl,OldK.of_keep λb o e=>?_,os,G⟩;cases q:H b with
      | none=>exact un.keep b o e q (by intro z;exact absurd (show b∈([]:List Addr)from z) (by simp)) (by simp)
      | some u=>
        rcases hO b with z | ⟨ob,xs,z⟩
        ·rw[q]at z;cases z
        ·have z2:=un.frzs b ob _ z;obtain⟨e1,_⟩:=D b _ z;obtain⟨e2,_⟩:=I b _ z2;rw[e]at e1;cases e1;exact e2
 cases hk:K.lookup a with
 | some o=>
   have e:=KX a o hk;rw[L]at e;cases e;refine p (λ_=>none) (λ_=>.inl rfl) (.inr ⟨_,vs.toArray,_,hk,rfl,rfl,rfl,by rw[HU,C];exact hl,by simpa using rv⟩) (λb u z=>by have J:(none:Option HO)=some u:=z;cases J) (λb z=>absurd rfl z) λz=>absurd rfl z
 | none=>
   refine p (λb=>if b=a then some (.frz { cls:=.type "list",data:=.seq vs.toArray } (.lst (ns.map V.int))) else none) (λb=>?_) (.inl (.inr ⟨{ cls:=.type "list",data:=.seq vs.toArray },if_pos rfl⟩)) (λb u z=>?_) (λb z=>?_) λ_=>hk
   ·by_cases f:b=a
    ·exact .inr ⟨_,_,if_pos f⟩
    ·exact .inl (if_neg f)
   ·by_cases f:b=a
    ·have J:=(if_pos f).symm.trans z;cases J;subst f;exact⟨L,by rw[HC];exact hl,vs,_,rv,L⟩
    ·have J:=(if_neg f).symm.trans z;cases J
   ·by_cases f:b=a
    ·exact f
    ·exact absurd (if_neg f) z
abbrev aX:CXT:=λ_ _ _ _ _ _=>False
abbrev E0:XK:=λ_ _ _=>False
theorem mV{X:Cx}:jk aX X E0:=λ_ _ _ _ _ _ _ h=>h.elim
structure Fun(K:HE)(x qual:Str)(st:Stmt)(f:Addr)(fd:Ia):Prop where
 ex:∃(oc:HD)(od:Option Addr)(kV doc pm:HD)(an:Option Addr)(cdv ct:HD)(osl:Array (Option HD)),
  fd=KA x qual (C5 st) (C4 st) (B6 st) .none kV doc pm an cdv ct/\K.lookup f=some ⟨oc,od,.func fd,osl⟩/\My K cdv qual=true
 kp:Kq K (.ref f)=true
section
variable{P:Ib}{w:IW}{K:HE}{mg:Str->Option HD}{base:Heap}
theorem Fun.ok{x a:Str}{st:Stmt}{f:Addr}{i:Ia}{N ps:List Str}{k:Nat}{d:Sp}(F:Fun K x a st f i)(S:C6 N ps (B6 st))(len:∀vs H Q E,d vs H Q E->vs.length=ps.length)
 (c:∀(b:HD)(A:IN)(outer:List Env)(s:HF)(H:Hp)(vs:List V)(Q:VK)(E:XK),aR k (A.deeper (envOfC a (B6 st) s.heap.objs.size f b))->d vs H Q E->
  ∃t,bL (fz aX P w K mg base N a (B6 st) f b A outer s H E).nox (C4 st) t/\t { nx:=λ_ j=>Q .non j,rt:=Q } (start N vs) H):az P w K mg base aX (k+1) f i ps d:=by
 obtain⟨oc,p,kV,l,r,u,b,v,m,rfl,lk,e⟩:=F.ex;refine oU lk e S len λA outer s H vs Q E n g=>?_;obtain⟨t,h,q⟩:=c b A outer s H vs Q E n g;exact⟨t,h.nox,q⟩
theorem Fun.binds{x a:Str}{st:Stmt}{f:Addr}{g:Ia}{ps:List Str}(F:Fun K x a st f g)
 (h:∀(kV b d:HD)(e:Option Addr)(c ct:HD)(us:List HD),us.length=ps.length->bindArgs (KA x a (C5 st) (C4 st) (B6 st) .none kV b d e c ct) ⟨us,[]⟩=pure (ps.zip us)):Binds K g ps []:=by
 obtain⟨oc,l,kV,b,d,e,c,ct,i,rfl,lk,j⟩:=F.ex;exact .all (h kV b d e c ct)
theorem zX{x a:Str}{st:Stmt}{f:Addr}{oc:HD}{i g:Option Addr}{e:Array (Option HD)}{kV d h b ct:HD}(l:K.lookup f=some ⟨oc,i,.func (KA x a (C5 st) (C4 st) (B6 st) .none kV d h g b ct),e⟩)
 (c:My K b a=true) (k:Kq K (.ref f)=true):Fun K x a st f (KA x a (C5 st) (C4 st) (B6 st) .none kV d h g b ct):=⟨⟨oc,i,kV,d,h,g,b,ct,e,rfl,l,c⟩,k⟩
end
section
variable{X:Cx}
theorem pv(i:Nat){x:Str}{a:Pos}(c:X.N[i]?=some x:=by rfl)(d:kg X.env.scope x:=by first | exact Qu rfl | exact PM (Qu rfl) | exact PM (PM rfl))(e:(x == ("__debug__" : Str))=false:=by decide)
 (b:(x == ("__classdict__" : Str))=false:=by decide):PE X (.Name x a) (gq i):=xJ c d e b
end
section
variable{κ:Type}[DecidableEq κ]
noncomputable def Z3(kvs:List (κ×V))(k:κ):Option V:=(kvs.find? λa=>decide (a.1=k)).map (·.2)
noncomputable def S5(kvs:List (κ×V))(k:κ)(v:V):List (κ×V):=
 if(kvs.any λa=>decide (a.1=k))=true then kvs.map (λa=>if a.1=k then(a.1,v) else a) else kvs++[(k,v)]
theorem m3{p:κ×V}{r:List (κ×V)}{k:κ}(e:p.1=k):Z3 (p::r) k=some p.2:=by simp[Z3,Lk,e]
theorem m4{p:κ×V}{r:List (κ×V)}{k:κ}(e:¬p.1=k):Z3 (p::r) k=Z3 r k:=by simp[Z3,Lk,e]
theorem mW(k:κ):∀a:List (κ×V),(a.any λb=>decide (b.1=k))=(Z3 a k).isSome
 | []=>rfl
 | p::r=>by
   rw[KC];by_cases e:p.1=k
   ·simp only[m3 e,decide_eq_true e,Bool.true_or,Option.isSome_some]
   ·rw[m4 e,decide_eq_false e,Od];exact mW k r
theorem m5(kvs:List (κ×V))(k:κ)(v:V):(S5 kvs k v).length<=kvs.length+1:=by
 unfold S5;split
 ·rw[HC];omega
 ·rw[Ie,Il,Jm];omega
theorem bC.isSome_eq{o:Option V}{u:Option HD}(r:bC o u):o.isSome=u.isSome:=by
 cases o with
 | none=>cases u with
   | none=>rfl
   | some _=>exact(show False from r).elim
 | some _=>cases u with
   | none=>exact(show False from r).elim
   | some _=>rfl
theorem bC.getD{o:Option V}{u:Option HD}{d:V}{d':HD}(r:bC o u)(a:RelV d d'):RelV (o.getD d) (u.getD d'):=by
 cases o with
 | none=>cases u with
   | none=>exact a
   | some _=>exact(show False from r).elim
 | some _=>cases u with
   | none=>exact(show False from r).elim
   | some _=>exact r
theorem KV.val{kvs:List (κ×V)}{vs:List (κ×HD)}(r:KV kvs vs)(k:κ):bC (Z3 kvs k) (valueAt vs k):=by
 unfold KV at r;induction r with
 | nil=>exact KI
 | @cons p q g a h t ih=>
   obtain⟨d,f⟩:=h;by_cases e:p.1=k
   ·have c:q.1=k:=d.symm.trans e;have b:valueAt (q::a) k=some q.2:=by simp[valueAt,Lk,c]
    rw[m3 e,b];exact f
   ·have c:¬q.1=k:=λz=>e (d.trans z);have b:valueAt (q::a) k=valueAt a k:=by simp[valueAt,Lk,c]
    rw[m4 e,b];exact ih
theorem KV.any{kvs:List (κ×V)}{vs:List (κ×HD)}(r:KV kvs vs)(k:κ):(kvs.any λa=>decide (a.1=k))=vs.any λa=>decide (a.1=k):=by
 unfold KV at r;induction r with
 | nil=>rfl
 | cons h t ih=>rw[KC,KC,ih,h.1]
theorem KV.repl{kvs:List (κ×V)}{vs:List (κ×HD)}(r:KV kvs vs)(k:κ){y:V}{u:HD}(c:RelV y u) :
 KV (kvs.map λa=>if a.1=k then(a.1,y) else a) (vs.map λa=>if a.1=k then(a.1,u) else a):=by
 unfold KV at r ⊢;induction r with
 | nil=>exact .nil
 | @cons p q f g h t ih=>
   rw[Ic,Ic];refine .cons ?_ ih;obtain⟨b,d⟩:=h;by_cases e:p.1=k
   ·rw[if_pos e,if_pos (b.symm.trans e)];exact⟨b,c⟩
   ·rw[if_neg e,if_neg (λz=>e (b.trans z))];exact⟨b,d⟩
theorem KV.put{kvs:List (κ×V)}{vs:List (κ×HD)}(r:KV kvs vs)(k:κ){y:V}{u:HD}(a:RelV y u):KV (S5 kvs k y) (stored vs k u):=by
 unfold S5 stored;rw[r.any k];by_cases e:(vs.any λb=>decide (b.1=k))=true
 ·rw[if_pos e,if_pos e];exact r.repl k a
 ·rw[if_neg e,if_neg e];exact Paired.snoc r ⟨rfl,a⟩
theorem KV.length{kvs:List (κ×V)}{vs:List (κ×HD)}(r:KV kvs vs):kvs.length=vs.length:=Paired.length r
end
theorem jm{P:Ib}{w:IW}{k:Key}{u:HD}(r:RelV (kV k) u):(K1 P w).is k u=true:=by
 cases k with
 | inl i=>obtain⟨t,e⟩:=(show ∃t,u=Kz i t from r);subst e;exact xA P w i t
 | inr x=>obtain⟨t,e⟩:=(show ∃t,u=PJ x t from r);subst e;exact xB P w x t
theorem sY{P:Ib}{w:IW}:∀{a:List Key}{us:List HD},aE (a.map kV) us->ItemsAre (K1 P w) a us
 | [],_,r=>by rw[LY]at r;cases r;exact .nil
 | k::a,_,r=>by
   rw[Ic]at r;cases r with
   | cons h t=>exact .cons (jm h) (sY t)
abbrev KT(H:Hp):List (List Key×V)->List (List Key×Addr×HD)->Prop:=Paired λp q=>p.1=q.1/\H q.2.1=some (.tup (p.1.map kV))/\RelV p.2 q.2.2
theorem KT.val{H:Hp}{kvs:List (List Key×V)}{xs:List (List Key×Addr×HD)}(r:KT H kvs xs)(k:List Key):bC (Z3 kvs k) ((atKey xs k).map (·.2)):=by
 induction r with
 | nil=>exact KI
 | @cons p q g a h t ih=>
   obtain⟨d,_,f⟩:=h;by_cases e:p.1=k
   ·have c:q.1=k:=d.symm.trans e;have b:atKey (q::a) k=some q.2:=by simp[atKey,Lk,c]
    rw[m3 e,b];exact f
   ·have c:¬q.1=k:=λz=>e (d.trans z);have b:atKey (q::a) k=atKey a k:=by simp[atKey,Lk,c]
    rw[m4 e,b];exact ih
theorem KT.repl{H:Hp}{kvs:List (List Key×V)}{xs:List (List Key×Addr×HD)}(r:KT H kvs xs)(k:List Key){y:V}{u:HD}(d:RelV y u) :
 KT H (kvs.map λb=>if b.1=k then(b.1,y) else b) (xs.map (putAt k u)):=by
 induction r with
 | nil=>exact .nil
 | @cons p q g i h t ih=>
   rw[Ic,Ic];refine .cons ?_ ih;obtain⟨a,c,f⟩:=h;unfold putAt;by_cases e:p.1=k
   ·rw[if_pos e,if_pos (a.symm.trans e)];exact⟨a,c,d⟩
   ·rw[if_neg e,if_neg (λz=>e (a.trans z))];exact⟨a,c,f⟩
theorem KT.put{H:Hp}{kvs:List (List Key×V)}{xs:List (List Key×Addr×HD)}(r:KT H kvs xs)(k:List Key){b:Addr}{y:V}{u:HD}(c:H b=some (.tup (k.map kV)))(a:RelV y u) :
 KT H (S5 kvs k y) (storedH xs k b u):=by
 have e:(kvs.any λd=>decide (d.1=k))=(atKey xs k).isSome:=by
  rw[mW,(r.val k).isSome_eq,Ms]
 unfold S5 storedH;rw[e];by_cases q:(atKey xs k).isSome=true
 ·rw[if_pos q,if_pos q];exact r.repl k a
 ·rw[if_neg q,if_neg q];exact Paired.snoc r ⟨rfl,c,a⟩
theorem KT.keeps{H H':Hp}{kvs:List (List Key×V)}{xs:List (List Key×Addr×HD)}(r:KT H kvs xs)(c:∀b a,H b=some (.tup a)->H' b=some (.tup a)):KT H' kvs xs:=
 Paired.mapP r λ_ _ z=>⟨z.1,c _ _ z.2.1,z.2.2⟩
section
variable{P:Ib}{w:IW}{H:Hp}{h:Heap}{a:Addr}
theorem sZ{u:HO}(ok:bK P w H h)(e:Rd H a u):aO P w H h a u:=e.ok ok
theorem iN{kvs:List (Key×V)}(ok:bK P w H h)(e:Rd H a (.dK kvs)):kvs.length<=sizeLine/\(a == sysModules)=false/\∃b,KV kvs b/\h.DictOf (K1 P w) a b:=
 show aO P w H h a (.dK kvs)from sZ ok e
theorem zY{kvs:List (Key×V)}(ok:bK P w H h)(e:H a=some (.dK kvs)):kvs.length<=sizeLine/\(a == sysModules)=false/\∃b,KV kvs b/\h.DictOf (K1 P w) a b:=iN ok (.inl e)
theorem m6{b:List Key}(ok:bK P w H h)(e:H a=some (.tup (b.map kV))):(tupleKind (K1 P w)).is h b a:=by
 obtain⟨_,c,r,o,d,f,n,g⟩:=(show aO P w H h a (.tup (b.map kV))from ok a _ e);exact⟨o,c.toArray,n,d,f,g,by simpa using sY r⟩
theorem jn{kvs:List (List Key×V)}(ok:bK P w H h)(e:Rd H a (.dT kvs)):kvs.length<=sizeLine/\(a == sysModules)=false/\
 ∃c,KT H kvs c/\h.DictOfH (tupleKind (K1 P w)) a c:=by
 obtain⟨z,y,c,r,o,f,g,i,j,n,s,u⟩:=(show aO P w H h a (.dT kvs)from sZ ok e);refine⟨z,y,c,r,o,f,g,i,j,n,s,λx b=>?_,u⟩;have all:∀{l:List (List Key×V)}{m:List (List Key×Addr×HD)},KT H l m->∀x∈m,(tupleKind (K1 P w)).is h x.1 x.2.1:=by
  intro l m q;induction q with
  | nil=>intro x b;exact nomatch b
  | @cons p q v A d t ih=>
    intro x b;rcases HK.mp b with e | b
    ·subst e;exact m6 ok (by rw[←d.1];exact d.2.1)
    ·exact ih x b
 exact all r x b
theorem mX{kvs:List (List Key×V)}(ok:bK P w H h)(e:H a=some (.dT kvs)):kvs.length<=sizeLine/\(a == sysModules)=false/\
 ∃b,KT H kvs b/\h.DictOfH (tupleKind (K1 P w)) a b:=jn ok (.inl e)
end
def bT(H:Hp)(a:Addr)(y:V)(r:Option V):Prop:=
 (∃c k,Rd H a (.dK c)/\y=kV k/\r=Z3 c k)\/∃c k b,Rd H a (.dT c)/\y=.ref b/\H b=some (.tup (k.map kV))/\r=Z3 c k
def ez(H:Hp)(a:Addr)(y v:V)(H':Hp):Prop:=
 (∃c k,H a=some (.dK c)/\y=kV k/\c.length<sizeLine/\H'=aF H a (.dK (S5 c k v)))\/
 ∃c k b,H a=some (.dT c)/\y=.ref b/\H b=some (.tup (k.map kV))/\c.length<sizeLine/\H'=aF H a (.dT (S5 c k v))
theorem bT.k{H:Hp}{a:Addr}{kvs:List (Key×V)}{k:Key}(e:H a=some (.dK kvs)):bT H a (kV k) (Z3 kvs k):=.inl ⟨kvs,k,.inl e,rfl,rfl⟩
theorem bT.t{H:Hp}{a b:Addr}{kvs:List (List Key×V)}{k:List Key}(e:H a=some (.dT kvs))(c:H b=some (.tup (k.map kV))):bT H a (.ref b) (Z3 kvs k):=.inr ⟨kvs,k,b,.inl e,rfl,c,rfl⟩
theorem ez.k{H:Hp}{a:Addr}{kvs:List (Key×V)}{k:Key}{v:V}(e:H a=some (.dK kvs))(b:kvs.length<sizeLine):ez H a (kV k) v (aF H a (.dK (S5 kvs k v))):=.inl ⟨kvs,k,e,rfl,b,rfl⟩
theorem ez.t{H:Hp}{a b:Addr}{kvs:List (List Key×V)}{k:List Key}{v:V}(e:H a=some (.dT kvs))(c:H b=some (.tup (k.map kV)))(d:kvs.length<sizeLine) :
 ez H a (.ref b) v (aF H a (.dT (S5 kvs k v))):=.inr ⟨kvs,k,b,e,rfl,c,d,rfl⟩
section
variable{X:Cx}{pins:List (Addr×Obj)}{σ:St}{H:Hp}{s:HF}{a:Addr}{y v:V}{u r:HD}{o:Option V}{A:IN}{E:HD->HF->Prop}
theorem Inv.big(I:Inv X pins σ H s):sysModules<s.heap.objs.size:=by
 have h:mainGlobals<s.heap.objs.size:=(I.mod.glob.keeps I.bk).lt;exact Ll (by decide) h
theorem zZ{Q:HD->HF->Prop}(C:A.units+1<cLine)(I:Inv X pins σ H s)(g:bT H a y (some v))(x:RelV y u)(h:∀f B,Inv X pins σ H B->RelV v f->Q f B) :
 wpAny (model X.prog X.w) A (getItem (.ref a) u) Q E s:=by
 rcases g with⟨i,k,e,j,l⟩ | ⟨i,k,b,e,j,D,l⟩
 ·subst j;obtain⟨z,G,J,c,m⟩:=iN I.hok e;obtain⟨f,n,d⟩:=bC.some_of (v:=v) (o:=valueAt J k) (by rw[l];exact c.val k);exact wpAny_getItem_of (jm x) m.mapOf n (h f _ (I.tok _) d)
 ·subst j;cases(show u=HW b from x);obtain⟨z,G,L,c,m⟩:=jn I.hok e;obtain⟨f,n,d⟩:=bC.some_of (v:=v) (o:=(atKey L k).map (·.2)) (by rw[l];exact c.val k);obtain⟨p,N,q⟩:=Ip.mp n;refine wpAny_getItem_heap (Ki C) (m6 I.hok D) m N ?_;rw[q];exact h f _ (I.tok _) d
theorem z3{Q:HD->HF->Prop}(p:A.units+1<cLine)(I:Inv X pins σ H s)(g:bT H a y o)(m:RelV y u)(h:∀n,Inv X pins σ H n->Q (.bool o.isSome) n) :
 wpAny (model X.prog X.w) A (compareOp .In u (.ref a)) Q E s:=by
 rcases g with⟨d,k,e,f,l⟩ | ⟨d,k,b,e,f,x,l⟩
 ·subst f;obtain⟨z,i,B,c,j⟩:=iN I.hok e;refine wpAny_in_of (jm m) i j.mapOf ?_;rw[←(c.val k).isSome_eq,←l];exact h _ (I.tok _)
 ·subst f;cases(show u=HW b from m);obtain⟨z,i,C,c,j⟩:=jn I.hok e;refine wpAny_in_heap (Ki p) (m6 I.hok x) i j ?_;have q:=(c.val k).isSome_eq;rw[Ms]at q;rw[←q,←l];exact h _ (I.tok _)
theorem oY{h':Heap}{t':Nat}{ob:HO}(I:Inv X pins σ H s)(f:kK (H a))(hs:Jr a s.heap h')(he:∃q,h'.get? a=some q)(new:aO X.prog X.w (aF H a ob) h' a ob) :
 Inv X pins σ (aF H a ob) { s with heap:=h',toks:=t' }:=
 I.write (x:=a) (e:=a) f (.inl rfl) (λb q g z=>(hs.2 b g).trans z) he new
theorem tf{P:Ib}{w:IW}{H':Hp}{h':Heap}{kvs:List (Key×V)}{vs:List (Key×HD)}(z:kvs.length<=sizeLine)(c:(a == sysModules)=false)(b:KV kvs vs)(d:h'.DictOf (K1 P w) a vs) :
 aO P w H' h' a (.dK kvs):=⟨z,c,vs,b,d⟩
theorem z4{H':Hp}{Q:Unit->HF->Prop}(U:A.units+1<cLine)(I:Inv X pins σ H s)(g:ez H a y v H')(G:RelV y u)(J:RelV v r)(h:∀L,Inv X pins σ H' L->Q () L) :
 wpAny (model X.prog X.w) A (setItem (.ref a) u r) Q E s:=by
 rcases g with⟨d,k,e,m,l,n⟩ | ⟨d,k,b,e,m,N,l,n⟩
 ·subst m n;obtain⟨z,p,Y,f,x⟩:=zY I.hok e;have B:Y.length<=sizeLine:=by rw[←f.length];exact z
  have C:(S5 d k v).length<=sizeLine:=by have:=m5 d k v;omega
  refine wpAny_setItem_pairs (hsz:=B) (jm G) x λO i D=>h _ ?_;have Z:∃q,O.get? a=some q:=let⟨q,_,_,j,_⟩:=i;⟨q,j⟩;exact oY I (by rw[e];exact KI) D Z (tf C p (f.put k J) i)
 ·subst m n;cases(show u=HW b from G);obtain⟨z,p,xs,f,x⟩:=mX I.hok e;have B:xs.length<=sizeLine:=by rw[←Paired.length f];exact z
  have C:(S5 d k v).length<=sizeLine:=by have:=m5 d k v;omega
  refine wpAny_setItem_heap (hsz:=B) (Ki U) (m6 I.hok N) x λO i D=>h _ ?_;obtain⟨q,es,ep,j,h2,h3,h4,_,h5⟩:=i;refine oY I (by rw[e];exact KI) D ⟨q,j⟩ ⟨C,p,_,(f.put k N J).keeps λc ys T=>?_,q,es,ep,j,h2,h3,h4,h5⟩;rw[D3 (rX T e (λz=>nomatch z))];exact T
end
def mY(i:Expr):Prop:=∀ov a,subscripted i false ov a=operate [ov,a] (getItem ov a)
theorem Aa{prog:Ib}{w:IW}{A:IN}{E:HD->HF->Prop}{s:HF}{g:Env}{b a:Expr}{m:Pos}{T id:String}{Q:HD->HF->Prop}
 (p:typeLookup (.type T) "__getitem__" = pure (some (.builtin id))) (hs:mY a)
 (h:wpAny (model prog w) A (eval b g) (λo e=>wpAny (model prog w) A (eval a g) (λi c=>c.TypeIs o T/\wpAny (model prog w) A (getItem o i) Q E c) E e) E s) :
 wpAny (model prog w) A (eval (.Subscript b a m) g) Q E s:=by
 refine Subscript_ (IJ h (λo e j=>IJ j (λi c d=>?_) λ_ _ x=>x) λ_ _ x=>x);obtain⟨n,d⟩:=d;unfold subscriptTail;refine Hz ?_;rw[getitemInPython_of_ne n.not_modules];refine Hz (Ng n p ?_);have fin:wpAny (model prog w) A (subscripted a false o i) (λr f=>wpAny (model prog w) A (letTemporaryGo b o r>>=λ_=>pure r) Q E f) E c:=by
  rw[hs o i];exact wpAny_operating (IJ d (λr f l=>Hz (wpAny_letTemporaryGo (HB l))) λ_ _ x=>x)
 first
  | exact HB (Hz fin)
  | exact Hz (HB (Hz fin))
  | exact Hz fin
theorem Ab{X:Cx}{c:List (Addr×Obj)}{σ:St}{H:Hp}{s:HF}{a:Addr}{y:V}{o:Option V}(I:Inv X c σ H s)(g:bT H a y o):s.TypeIs (.ref a) "dict":=by
 rcases g with⟨d,k,e,_,_⟩ | ⟨d,k,b,e,_,_,_⟩
 ·obtain⟨_,_,h,_,f⟩:=iN I.hok e;exact f.typeIs
 ·obtain⟨_,_,i,_,f⟩:=jn I.hok e;exact f.typeIs
noncomputable def Ac(d e:TE):TE:=λb H Q=>d b H λx f=>e b f λy c=>∃a v,x=.ref a/\bT c a y (some v)/\Q v c
noncomputable def tj(d e:TE):TE:=λb H Q=>d b H λy f=>e b f λx c=>∃a o,x=.ref a/\bT c a y o/\Q (.bl o.isSome) c
noncomputable def sDPut(d e tv:TE):TS:=λD b H=>tv b H λv f=>d b f λx g=>e b g λy h=>∃a c,x=.ref a/\ez h a y v c/\D.nx b c
section
variable{X:Cx}{o i e value:Expr}{pos pos' tpos:Pos}{td ty tv:TE}
theorem tm(j:X.A.units+1<cLine)(l:PE X o td)(m:PE X i ty)(hs:mY i):PE X (.Subscript o i pos) (Ac td ty):=by
 intro b s d H Q I h;refine Aa PySem.F.slot_dict_getitem.lookup hs (aP (l b s d H _ I h) λu n ⟨x,p,q,r,w⟩=>aP (m b n d p _ q w) λJ L z=>?_);obtain⟨y,B,f,C,a,v,D,g,E⟩:=z;subst D;obtain rfl:u=HW a:=r;exact⟨Ab f g,zZ j f g C λN O G c=>⟨v,B,G,c,E⟩⟩
theorem tp(d:X.A.units+1<cLine)(f:PE X i ty)(j:PE X o td):PC X .In i o (tj ty td):=by
 intro b s c H Q I h;refine aP (f b s c H _ I h) λE l ⟨y,m,n,p,q⟩=>aP (j b l c m _ n q) λu G r=>?_;obtain⟨x,v,w,z,a,ov,B,g,C⟩:=r;subst B;obtain rfl:u=HW a:=z;exact z3 d w g p λJ D=>⟨.bl ov.isSome,v,D,rfl,C⟩
theorem tq(d:X.A.units+1<cLine)(f:PE X o td)(j:PE X i ty)(l:PE X value tv)(hs:swapsWith value (some (.Subscript o i pos')) pos.line X.env=pure false) :
 PS X (.Assign [.Subscript o i pos'] value pos) (sDPut td ty tv):=by
 intro b s c H D I h;refine wpAny_Assign_Subscript (aP (l b s c H _ I h) λr m ⟨v,n,p,q,w⟩=>aP (f b m c n _ p w) λu z ⟨x,B,C,E,G⟩=>aP (j b z c B _ C G) λY Z J=>?_) hs;obtain⟨y,H3,L,N,a,O,Q,g,T⟩:=J;subst Q;obtain rfl:u=HW a:=E;exact z4 d L g N q λs4 U=>⟨c,O,U,T⟩
end
theorem Ad{P:Ib}{w:IW}{H:Hp}(h:Heap)(b:sysModules<h.objs.size):aO P w H (h.push { cls:=.type "dict",data:=.dict #[] }) h.objs.size (.dT []):=
 ⟨KU _,beq_eq_false_iff_ne.mpr (JX (HS b)),[],.nil,_,#[],0,HI _ rfl,⟨rfl,rfl,rfl⟩,rfl,rfl,Mz⟩
noncomputable def tDNewT:TE:=λ_ H Q=>∀p,H p=none->Q (.ref p) (aF H p (.dT []))
section
variable{X:Cx}{pos:Pos}
theorem Ae:PE X (.Dict [] [] pos) tDNewT:=λb s c H Q I h=>
 wpAny_Dict_empty ⟨.ref s.heap.objs.size,_,I.laid (a:=s.heap.objs.size) (o:=.dT []) (t':=s.toks) (λ_ _ q=>HA _ q) (HG _) (Ad s.heap I.big),rfl,h _ (I.hok.fresh (HG _))⟩
end
structure M1(X:Cx)(o:Expr)(m:Str)(apos:Pos)(e:Expr)(cpos:Pos):Prop where
 base:attributeBase o m X.env (eval o X.env)=eval o X.env
 few:((backTo cpos (starEach [e] X.env)).all (λx=>!x.1)&&(backToKw cpos (keywordEach [] X.env)).all (λx=>x.1.isSome)
  &&decide (([e]:List Expr).length+([]:List Ob).length+(if([]:List Ob).isEmpty then 0 else 1)<30))=true
 line:(apos.endLine == cpos.line)=true
 trees:backTo cpos (starEach [e] X.env)=[(false,eval e X.env)]
structure M2(X:Cx)(o:Expr)(m:Str)(apos:Pos)(e f:Expr)(cpos:Pos):Prop where
 base:attributeBase o m X.env (eval o X.env)=eval o X.env
 few:((backTo cpos (starEach [e,f] X.env)).all (λx=>!x.1)&&(backToKw cpos (keywordEach [] X.env)).all (λx=>x.1.isSome)
  &&decide (([e,f]:List Expr).length+([]:List Ob).length+(if([]:List Ob).isEmpty then 0 else 1)<30))=true
 line:(apos.endLine == cpos.line)=true
 trees:backTo cpos (starEach [e,f] X.env)=[(false,eval e X.env),(false,eval f X.env)]
def mZ(H:Hp)(a:Addr):Prop:=(∃b,Rd H a (.dK b))\/∃b,Rd H a (.dT b)
theorem oZ{X:Cx}{f:List (Addr×Obj)}{σ:St}{H:Hp}{s:HF}{a:Addr}(I:Inv X f σ H s)(d:mZ H a) :
 s.TypeIs (.ref a) "dict"/\(∀b,HW a=.ref b->∃c,s.heap.get? b=some c/\c.dict=none)/\(a == sysModules)=false:=by
 rcases d with⟨h,e⟩ | ⟨h,e⟩
 ·obtain⟨_,i,m,_,g⟩:=iN I.hok e;refine⟨g.typeIs,λb q=>?_,i⟩;cases q;obtain⟨c,_,_,j,l,_⟩:=g;exact⟨c,j,l.2.1⟩
 ·obtain⟨_,i,n,_,g⟩:=jn I.hok e;refine⟨g.typeIs,λb q=>?_,i⟩;cases q;obtain⟨c,_,_,j,l,_⟩:=g;exact⟨c,j,l.2.1⟩
section
variable{X:Cx}{pins:List (Addr×Obj)}{σ:St}{H:Hp}{s:HF}{a:Addr}{y d:V}{u r:HD}{o:Option V}{A:IN}{E:HD->HF->Prop}
theorem Af{Q:HD->HF->Prop}(v:A.units+1<cLine)(I:Inv X pins σ H s)(g:bT H a y o)(n:RelV y u)(h:∀p q,Inv X pins σ H q->RelV (o.getD .non) p->Q p q) :
 wpAny (model X.prog X.w) A (call (.builtin "dict.get") [.ref a,u]) Q E s:=by
 rcases g with⟨i,k,e,j,l⟩ | ⟨i,k,b,e,j,x,l⟩
 ·subst j;obtain⟨z,m,C,c,f⟩:=iN I.hok e;refine OM Ke f.typeIs Lc (Oe _ _) (meets_dict_get (K1 X.prog X.w) a (jm n) m) ⟨_,f.mapOf,h _ _ (I.tok _) ?_⟩;rw[l];exact(c.val k).getD rfl
 ·subst j;cases(show u=HW b from n);obtain⟨z,m,B,c,f⟩:=jn I.hok e;refine OM Ke f.typeIs Lc (Oe _ _) (meetsH_dict_get (tupleKind (K1 X.prog X.w)) a b m) ⟨Ki v,k,B,m6 I.hok x,f,h _ _ (I.tok _) ?_⟩;rw[l];exact(c.val k).getD rfl
theorem Ag{Q:HD->HF->Prop}(x:A.units+1<cLine)(I:Inv X pins σ H s)(g:bT H a y o)(n:RelV y u)(p:RelV d r)(h:∀q v,Inv X pins σ H v->RelV (o.getD d) q->Q q v) :
 wpAny (model X.prog X.w) A (call (.builtin "dict.get") [.ref a,u,r]) Q E s:=by
 rcases g with⟨i,k,e,j,l⟩ | ⟨i,k,b,e,j,B,l⟩
 ·subst j;obtain⟨z,m,D,c,f⟩:=iN I.hok e;refine OM Ke f.typeIs Lc (Of _ _ _) (meets_dict_get_default (K1 X.prog X.w) a (jm n) m r) ⟨_,f.mapOf,h _ _ (I.tok _) ?_⟩;rw[l];exact(c.val k).getD p
 ·subst j;cases(show u=HW b from n);obtain⟨z,m,C,c,f⟩:=jn I.hok e;refine OM Ke f.typeIs Lc (Of _ _ _) (meetsH_dict_get_default (tupleKind (K1 X.prog X.w)) a b m r) ⟨Ki x,k,C,m6 I.hok B,f,h _ _ (I.tok _) ?_⟩;rw[l];exact(c.val k).getD p
end
noncomputable def Ah(e f:TE):TE:=λb H Q=>e b H λx c=>∃a,x=.ref a/\mZ c a/\f b c λy d=>∃o,bT d a y o/\Q (o.getD .non) d
noncomputable def Ai(e f g:TE):TE:=λb H Q=>e b H λx c=>∃a,x=.ref a/\mZ c a/\f b c λy h=>g b h λz d=>∃o,bT d a y o/\Q (o.getD z) d
section
variable{X:Cx}{o e f:Expr}{apos cpos:Pos}{td ty tx:TE}
theorem Aj(l:X.A.units+1<cLine)(n:PE X o td)(he:PE X e ty)(m:M1 X o "get" apos e cpos):PE X (.Call (.Attribute o "get" apos) [e] [] cpos) (Ah td ty):=by
 intro b s i H Q I h;refine NO m.base m.few m.line Mf Ke ON (aP (n b s i H _ I h) λu p q=>?_);obtain⟨x,r,j,v,a,w,d,z⟩:=q;subst w;obtain rfl:u=HW a:=v;obtain⟨B,C,_⟩:=oZ j d;refine⟨B,C,?_⟩;rw[m.trees];refine Lb rfl (LB (Kh (aP (he b p i r _ j z) λN O ⟨y,D,E,G,ov,g,J⟩=>Lp ?_)));exact Af l E g G λT U L c=>⟨_,D,L,c,J⟩
theorem Ak(l:X.A.units+1<cLine)(n:PE X o td)(he:PE X e ty)(p:PE X f tx)(m:M2 X o "get" apos e f cpos):PE X (.Call (.Attribute o "get" apos) [e,f] [] cpos) (Ai td ty tx):=by
 intro b s c H Q I h;refine NO m.base m.few m.line Mf Ke ON (aP (n b s c H _ I h) λu q r=>?_);obtain⟨x,v,j,w,a,B,d,C⟩:=r;subst B;obtain rfl:u=HW a:=w;obtain⟨D,E,_⟩:=oZ j d;refine⟨D,E,?_⟩;rw[m.trees];refine Lb rfl (LB (Kh (aP (he b q c v _ j C) λiv G ⟨y,J,L,N,O⟩=>
  Kh (aP (p b G c J _ L O) λfv s3 ⟨z,T,U,Y,ov,g,Z⟩=>Lp ?_))))
 exact Ag l U g N Y λw' s4 I4 i=>⟨_,T,I4,i,Z⟩
end
end L2
set_option maxRecDepth 100000
namespace Ws
noncomputable section
inductive PV where
 | non | bl (b:Bool) | int (i:Int) | str (x:PN) | tup (l:List PV) | ref (n:Nat)
inductive PO where
 | lst (l:List PV)
 | ro (l:List PV)
 | dI (kvs:List (Int×PV))
 | ins (c:Nat) (fs:List (Nat×PV))
   | dT (kvs:List (List Int×PV))
   | exc (c:Nat) (v:PV)
abbrev PHp:=List PO
inductive R (α:Type) where
 | ok (a:α) (A:PHp)
 | ex (c:Nat) (v:PV) (A:PHp)
 | no
abbrev M(a:Type):=PHp->R a
@[simp] noncomputable def ret{b:Type}(a:b):M b:=λA=>.ok a A
@[simp] noncomputable def stuck{a:Type}:M a:=λ_=>.no
@[simp] noncomputable def ap{d e:Type}(m:M d)(f:d->M e):M e:=λA=>match m A with
  | .ok a b=>f a b
  | .ex c v b=>.ex c v b
  | .no=>.no
noncomputable def G0{a:Type}(P:Prop)(m:M a):M a:=@ite _ P (KW P) m stuck
theorem T5{a:Type}{P:Prop}{m:M a}(h:P):G0 P m=m:=if_pos h
@[simp] theorem Hh{a:Type}{m:M a}:G0 True m=m:=if_pos trivial
theorem C9{b:Type}{P:Prop}{m:M b}{A A':PHp}{a:b}(h:G0 P m A=.ok a A'):P/\m A=.ok a A':=by
 by_cases p:P
 ·rw[T5 p]at h;exact⟨p,h⟩
 ·rw[show G0 P m=stuck from if_neg p]at h;cases h
theorem aD{b c:Type}{m:M b}{f:b->M c}{A A':PHp}{a:b}(h:m A=.ok a A'):ap m f A=f a A':=by unfold ap;rw[h]
theorem B0{g i:Type}{m:M g}{f:g->M i}{A A':PHp}{b:i}(h:ap m f A=.ok b A'):∃a d,m A=.ok a d/\f a d=.ok b A':=by
 unfold ap at h;cases e:m A with
 | ok a d=>rw[e]at h;exact⟨a,d,rfl,h⟩
 | ex c v d=>rw[e]at h;cases h
 | no=>rw[e]at h;cases h
abbrev PSt:=List (Option PV)
abbrev ED:=PSt->M PV
abbrev TD:=PSt->M Bool
abbrev AD:=PSt->M (List PV)
abbrev Fun:=List PV->M PV
inductive Fl where
 | nx (σ:PSt) | rt (v:PV) | bk (σ:PSt) | ct (σ:PSt)
abbrev SD:=PSt->M Fl
abbrev GD:=PV->PSt->M PSt
@[irreducible] noncomputable def LIM:Nat:=100000
theorem aH{n:Nat}(h:n<=10000):n<=LIM:=by unfold LIM;omega
theorem Q7{n:Nat}(h:n<10000):n<LIM:=by unfold LIM;omega
@[simp] theorem Hi:0<=LIM:=KU _
@[simp] theorem Hj:1<=LIM:=aH (by omega)
@[simp] theorem Hk:2<=LIM:=aH (by omega)
@[simp] theorem Hl:3<=LIM:=aH (by omega)
@[simp] theorem Hm:4<=LIM:=aH (by omega)
mutual
noncomputable def bq:PV->PV->Bool
 | .non,.non=>true
 | .bl a,.bl b=>a == b
 | .int i,.int j=>decide (i=j)
 | .str x,.str y=>decide (x=y)
 | .tup l,.tup m=>W4 l m
 | _,_=>false
noncomputable def W4:List PV->List PV->Bool
 | [],[]=>true
 | x::a,y::b=>bq x y&&W4 a b
 | _,_=>false
end
mutual
noncomputable def f9:PV->Bool
 | .non=>true
 | .int _=>true
 | .str _=>true
 | .tup l=>hU l
 | _=>false
noncomputable def hU:List PV->Bool
 | []=>true
 | x::a=>f9 x&&hU a
end
@[simp] noncomputable def N5:PV->Bool
  | .non=>true
  | .int _=>true
  | .str _=>true
  | _=>false
noncomputable def nb:PV->Bool
 | .tup l=>l.all N5
 | x=>N5 x
noncomputable def jo:PV->Bool
 | .tup l=>l.all nb
 | x=>N5 x
noncomputable def plain:PV->Bool
 | .tup l=>l.all jo
 | x=>N5 x
noncomputable def K6(l:List PV):Bool:=l.all plain
@[simp] theorem Hn(i:Int):plain (.int i)=true:=rfl
@[simp] theorem Ho:plain .non=true:=rfl
@[simp] noncomputable def alloc(o:PO):M PV:=λA=>.ok (.ref A.length) (A++[o])
@[simp] noncomputable def E4(n:Nat):M (List PV):=λA=>match A[n]? with
  | some (.lst l)=>.ok l A
  | some (.ro l)=>.ok l A
  | _=>.no
@[simp] noncomputable def S7(n:Nat):M (List PV):=λA=>match A[n]? with
  | some (.lst l)=>.ok l A
  | _=>.no
@[simp] noncomputable def jp(n:Nat)(o:PO):M Unit:=λA=>.ok () (A.set n o)
@[simp] noncomputable def V3(n:Nat):M (Nat×List (Nat×PV)):=λA=>match A[n]? with
  | some (.ins c fs)=>.ok (c,fs) A
  | _=>.no
@[simp] noncomputable def N6(v:PV):M (List PV):=match v with
  | .ref n=>E4 n
  | .tup l=>ret l
  | _=>stuck
@[simp] noncomputable def aa(i:Nat):ED:=λa=>match a[i]? with
  | some (some v)=>ret v
  | _=>stuck
@[simp] noncomputable def eK(v:PV):ED:=λ_=>ret v
@[simp] noncomputable def av:AD:=λ_=>ret []
@[simp] noncomputable def ai(e:ED)(es:AD):AD:=λa=>ap (e a) λx=>ap (es a) λb=>ret (x::b)
@[simp] noncomputable def c6(es:AD):ED:=λb=>ap (es b) λa=>G0 (a.length<=LIM) (ret (.tup a))
@[simp] noncomputable def l4(es:AD):ED:=λb=>ap (es b) λa=>G0 (a.length<=LIM) (alloc (.lst a))
abbrev OD:=PV->PV->M PV
@[simp] noncomputable def ao(f:OD)(a b:ED):ED:=λc=>ap (a c) λx=>ap (b c) λy=>f x y
@[simp] noncomputable def bp:OD
  | .int i,.int j=>ret (.int (i+j))
  | .tup l,.tup m=>G0 (l≠[]/\l.length+m.length<=LIM) (ret (.tup (l++m)))
  | .ref n,.ref k=>ap (S7 n) λl=>ap (S7 k) λm=>G0 (l.length+m.length<=LIM) (alloc (.lst (l++m)))
  | _,_=>stuck
@[simp] noncomputable def pa:OD
  | .int i,.int j=>ret (.int (i - j))
  | _,_=>stuck
@[simp] noncomputable def kh:OD
  | .int i,.int j=>G0 ((-(2 ^ 64)<i/\i<2 ^ 64)\/(-(2 ^ 64)<j/\j<2 ^ 64)) (ret (.int (i*j)))
  | _,_=>stuck
@[simp] noncomputable def cY:OD
  | .int i,.int j=>G0 (0<j) (ret (.int (i%j)))
  | _,_=>stuck
@[simp] noncomputable def nc:OD
  | .int i,.int j=>G0 (0<j/\j<1073741824) (ret (.int (i / j)))
  | _,_=>stuck
@[simp] noncomputable def gS:OD
  | .int i,.int j=>ret (.bl (decide (i<j)))
  | _,_=>stuck
@[simp] noncomputable def ng:OD
  | .int i,.int j=>ret (.bl (decide (i<=j)))
  | _,_=>stuck
@[simp] noncomputable def jq:OD
  | .int i,.int j=>ret (.bl (decide (j<i)))
  | _,_=>stuck
@[simp] noncomputable def tt:OD
  | .int i,.int j=>ret (.bl (decide (j<=i)))
  | _,_=>stuck
@[simp] noncomputable def nh:PV->PV->Bool
  | .bl _,.bl _=>true
  | _,_=>false
@[simp] noncomputable def pc(x y:PV):M Bool:=match x,y with
  | .ref n,.ref k=>ap (E4 n) λl=>ap (E4 k) λm=>G0 (K6 l=true/\K6 m=true) (ret (W4 l m))
  | x,y=>G0 (nh x y=true\/(plain x=true/\plain y=true)) (ret (bq x y))
@[simp] noncomputable def cF:OD:=λx y=>ap (pc x y) λb=>ret (.bl b)
@[simp] noncomputable def dO:OD:=λx y=>ap (pc x y) λb=>ret (.bl (!b))
noncomputable def fA(x:PV)(l:List PV):Bool:=l.any λy=>bq y x
@[simp] noncomputable def eU:OD:=λx y=>ap (N6 y) λl=>G0 (plain x=true/\K6 l=true) (ret (.bl (fA x l)))
@[simp] noncomputable def kQ:OD:=λx y=>ap (N6 y) λl=>G0 (plain x=true/\K6 l=true) (ret (.bl (!fA x l)))
@[simp] noncomputable def kR:PV->Bool
  | .non=>true
  | _=>false
@[simp] noncomputable def ki(a:ED):ED:=λb=>ap (a b) λx=>ret (.bl (kR x))
@[simp] noncomputable def tu(a:ED):ED:=λb=>ap (a b) λx=>ret (.bl (!kR x))
@[simp] noncomputable def ni(f g:OD)(a b c:ED):ED:=λd=>ap (a d) λx=>ap (b d) λy=>ap (f x y) λz=>match z with
  | .bl true=>ap (c d) λu=>g y u
  | .bl false=>ret (.bl false)
  | _=>stuck
@[simp] noncomputable def kS(v:PV):M Bool:=match v with
  | .bl b=>ret b
  | _=>stuck
@[simp] noncomputable def E6(e:ED):TD:=λa=>ap (e a) kS
@[simp] noncomputable def tAnd(a b:TD):TD:=λd=>ap (a d) λc=>if c=true then b d else ret false
@[simp] noncomputable def tOr(a b:TD):TD:=λd=>ap (a d) λc=>if c=true then ret true else b d
@[simp] noncomputable def tNot(a:TD):TD:=λb=>ap (a b) λc=>ret (!c)
@[simp] noncomputable def m7(a b:ED):ED:=λd=>ap (ap (a d) kS) λc=>if c=true then b d else ret (.bl false)
@[simp] noncomputable def pd(a b:ED):ED:=λd=>ap (ap (a d) kS) λc=>if c=true then ret (.bl true) else b d
@[simp] noncomputable def pe(a:ED):ED:=λb=>ap (ap (a b) kS) λc=>ret (.bl (!c))
@[simp] noncomputable def kT(t:TD)(a b:ED):ED:=λd=>ap (t d) λc=>if c=true then a d else b d
noncomputable def ixN(n:Nat)(i:Int):Option Nat:=if 0<=i then(if i<n then some i.toNat else none) else if -(n:Int)<=i then some (i+n).toNat else none
noncomputable def atI{a:Type}(xs:List a)(i:Int):Option a:=(ixN xs.length i).bind λj=>xs[j]?
@[simp] noncomputable def bx:OD:=λx y=>match y with
  | .int i=>ap (N6 x) λl=>match atI l i with
    | some v=>ret v
    | none=>stuck
  | _=>stuck
noncomputable def c7(n d:Nat):Option Int->Nat
 | none=>d
 | some v=>if v<0 then(max (v+n) 0).toNat else(min v n).toNat
noncomputable def eP{a:Type}(xs:List a)(lo b:Option Int):List a:=(xs.drop (c7 xs.length 0 lo)).take (c7 xs.length xs.length b - c7 xs.length 0 lo)
abbrev LD:=PSt->M (Option Int)
@[simp] noncomputable def jr:LD:=λ_=>ret none
@[simp] noncomputable def jt(e:ED):LD:=λa=>ap (e a) λx=>match x with
  | .int i=>ret (some i)
  | _=>stuck
@[simp] noncomputable def ju(a:ED)(lo d:LD):ED:=λc=>ap (a c) λx=>ap (lo c) λl=>ap (d c) λh=>match x with
  | .ref n=>ap (E4 n) λb=>alloc (.lst (eP b l h))
  | .tup b=>G0 (¬(c7 b.length 0 l=0/\c7 b.length b.length h=b.length)) (ret (.tup (eP b l h)))
  | _=>stuck
@[simp] noncomputable def eV(a:ED):ED:=λb=>ap (a b) λx=>ap (N6 x) λl=>ret (.int l.length)
@[simp] noncomputable def g7(a:ED):ED:=λb=>ap (a b) λx=>ap (N6 x) λl=>alloc (.lst l)
noncomputable def N1:List PV->Option (List Int)
 | []=>some []
 | .int i::r=>(N1 r).map (i :: ·)
 | _=>none
noncomputable def X3:List PV->Option (List (List Int))
 | []=>some []
 | .tup (x::l)::r=>match N1 (x::l),X3 r with
   | some z,some a=>some (z::a)
   | _,_=>none
 | _=>none
noncomputable def G7:List Int->List Int->Bool
 | _,[]=>false
 | [],_::_=>true
 | x::a,y::b=>if x=y then G7 a b else decide (x<y)
noncomputable def k8{c:Type}(lt:c->c->Bool)(a:c):List c->List c
 | []=>[a]
 | b::r=>if lt b a=true then b::k8 lt a r else a::b::r
noncomputable def J8{b:Type}(lt:b->b->Bool):List b->List b
 | []=>[]
 | a::r=>k8 lt a (J8 lt r)
noncomputable def gr(i j:Int):Bool:=decide (i<j)
noncomputable def kU(l:List PV):M (List PV):=G0 (l.length<64) (match N1 l with
    | some ns=>ret ((J8 gr ns).map .int)
    | none=>match X3 l with
      | some a=>ret ((J8 G7 a).map λt=>.tup (t.map .int))
      | none=>stuck)
@[simp] noncomputable def tw(a:ED):ED:=λb=>ap (a b) λx=>match x with
  | .ref n=>ap (E4 n) λl=>ap (kU l) λm=>alloc (.lst m)
  | _=>stuck
inductive Ty where
 | int | bool | tuple | list
@[simp] noncomputable def iO(t:Ty)(v:PV):M Bool:=match t,v with
  | .int,.int _=>ret true
  | .int,.bl _=>ret true
  | .bool,.bl _=>ret true
  | .tuple,.tup _=>ret true
  | .list,.ref n=>ap (S7 n) λ_=>ret true
  | _,.ref n=>ap (S7 n) λ_=>ret false
  | _,_=>ret false
@[simp] noncomputable def g8(a:ED)(t:Ty):ED:=λc=>ap (a c) λx=>ap (iO t x) λb=>ret (.bl b)
@[simp] noncomputable def b4(f:Nat):List (Nat×PV)->Option PV
  | []=>none
  | (g,u)::r=>if g=f then some u else b4 f r
@[simp] noncomputable def J2(a:ED)(f:Nat):ED:=λb=>ap (a b) λx=>match x with
  | .ref n=>ap (V3 n) λo=>match b4 f o.2 with
    | some v=>ret v
    | none=>stuck
  | _=>stuck
@[simp] noncomputable def putFld(f:Nat)(v:PV):List (Nat×PV)->List (Nat×PV)
  | []=>[(f,v)]
  | (g,u)::r=>if g=f then(g,v)::r else(g,u)::putFld f v r
@[simp] noncomputable def sFld(a:ED)(f:Nat)(e:ED):SD:=λb=>ap (e b) λv=>ap (a b) λx=>match x with
  | .ref n=>ap (V3 n) λo=>G0 (o.2.length<900) (ap (jp n (.ins o.1 (putFld f v o.2))) λ_=>ret (.nx b))
  | _=>stuck
@[simp] noncomputable def G9(f:Fun)(es:AD):ED:=λa=>ap (es a) f
@[simp] noncomputable def hV(c:Nat)(a:Fun)(es:AD):ED:=λb=>ap (es b) λd=>ap (alloc (.ins c [])) λx=>ap (a (x::d)) λ_=>ret x
@[simp] noncomputable def Q0(c:Nat)(f:Fun)(a:ED)(es:AD):ED:=λb=>ap (a b) λx=>match x with
  | .ref n=>ap (V3 n) λo=>G0 (o.1=c) (ap (es b) λd=>f (x::d))
  | _=>stuck
@[simp] noncomputable def Z5(a e:ED):ED:=λb=>ap (a b) λx=>match x with
  | .ref n=>ap (S7 n) λ_=>ap (e b) λv=>ap (S7 n) λl=>G0 (l.length<LIM) (ap (jp n (.lst (l++[v]))) λ_=>ret .non)
  | _=>stuck
@[simp] noncomputable def gName(i:Nat):GD:=λv a=>ret (a.set i (some v))
abbrev GDs:=List PV->PSt->M PSt
@[simp] noncomputable def gNil:GDs:=λa b=>match a with
  | []=>ret b
  | _=>stuck
@[simp] noncomputable def gCons(g:GD)(r:GDs):GDs:=λb c=>match b with
  | v::w=>ap (g v c) λa=>r w a
  | _=>stuck
@[simp] noncomputable def gTup(n:Nat)(g:GDs):GD:=λv a=>match v with
  | .tup l=>G0 (l.length=n) (g l a)
  | _=>stuck
inductive It where
 | rng (lo:Int) (n:Nat) | lst (n:Nat) | tup (l:List PV) | enm (n:Nat)
   | fix (l:List PV)
   | zip (x y:PV)
   | enk (k n:Nat)
abbrev ID:=PSt->M It
@[simp] noncomputable def X4(a:ED):ID:=λb=>ap (a b) λx=>match x with
  | .ref n=>ap (E4 n) λ_=>ret (.lst n)
  | .tup l=>ret (.tup l)
  | _=>stuck
@[simp] noncomputable def iRng1(a:ED):ID:=λb=>ap (a b) λx=>match x with
  | .int j=>G0 (-(2 ^ 62)<=j/\j<2 ^ 62) (ret (.rng 0 j.toNat))
  | _=>stuck
@[simp] noncomputable def nj(a:ED):ID:=λb=>ap (a b) λx=>match x with
  | .ref n=>ap (E4 n) λ_=>ret (.enm n)
  | _=>stuck
@[simp] noncomputable def item(J:It)(i:Nat):M (Option PV):=match J with
  | .rng lo n=>ret (if i<n then some (.int (lo+i)) else none)
  | .lst a=>ap (E4 a) λl=>ret l[i]?
  | .tup l=>ret l[i]?
  | .enm a=>ap (E4 a) λl=>ret (l[i]?.map λx=>.tup [.int i,x])
  | .fix l=>ret l[i]?
  | .zip x y=>ap (N6 x) λl=>ap (N6 y) λm=>ret (match l[i]?,m[i]? with
    | some u,some v=>some (.tup [u,v])
    | _,_=>none)
  | .enk k a=>ap (E4 a) λl=>ret (l[i]?.map λx=>.tup [.int ((k+i:Nat):Int),x])
@[simp] noncomputable def m8(J:It):M Nat:=match J with
  | .rng _ n=>ret n
  | .lst a=>ap (E4 a) λl=>ret l.length
  | .tup l=>ret l.length
  | .enm a=>ap (E4 a) λl=>ret l.length
  | .fix l=>ret l.length
  | .zip x _=>ap (N6 x) λl=>ret l.length
  | .enk _ a=>ap (E4 a) λl=>ret l.length
@[simp] noncomputable def sPass:SD:=λa=>ret (.nx a)
@[simp] noncomputable def D7(a b:SD):SD:=λd=>ap (a d) λf=>match f with
  | .nx c=>b c
  | o=>ret o
@[simp] noncomputable def P9(e:ED):SD:=λa=>ap (e a) λ_=>ret (.nx a)
@[simp] noncomputable def G6(e:ED):SD:=λa=>ap (e a) λv=>ret (.rt v)
@[simp] noncomputable def br(t:TD)(a b:SD):SD:=λd=>ap (t d) λc=>if c=true then a d else b d
@[simp] noncomputable def M5(e:ED)(g:GD):SD:=λb=>ap (e b) λv=>ap (g v b) λa=>ret (.nx a)
@[simp] noncomputable def sNever:SD:=λ_=>stuck
noncomputable def pf(J:It)(g:GD)(a:SD):Nat->Nat->PSt->M Fl
 | 0,_,_=>stuck
 | f+1,i,d=>ap (item J i) λx=>match x with
   | none=>ret (.nx d)
   | some v=>ap (g v d) λc=>ap (a c) λo=>match o with
     | .nx b=>pf J g a f (i+1) b
     | .ct b=>pf J g a f (i+1) b
     | .bk b=>ret (.nx b)
     | .rt v=>ret (.rt v)
theorem ph:∃T:It->GD->SD->Nat->Nat->PSt->M Fl,(∀J g a i c,T J g a 0 i c=stuck)/\∀J g a f i c,T J g a (f+1) i c=ap (item J i) λx=>match x with
 | none=>ret (.nx c)
 | some v=>ap (g v c) λd=>ap (a d) λo=>match o with
   | .nx b=>T J g a f (i+1) b
   | .ct b=>T J g a f (i+1) b
   | .bk b=>ret (.nx b)
   | .rt v=>ret (.rt v):=⟨pf,λ_ _ _ _ _=>rfl,λ_ _ _ _ _ _=>rfl⟩
noncomputable def c8:It->GD->SD->Nat->Nat->PSt->M Fl:=Ot ph
theorem tz(J:It)(g:GD)(a:SD)(i:Nat)(σ:PSt):c8 J g a 0 i σ=stuck:=(Kf ph).1 J g a i σ
theorem T6(J:It)(g:GD)(a:SD)(f i:Nat)(σ:PSt):c8 J g a (f+1) i σ=ap (item J i) λx=>match x with
 | none=>ret (.nx σ)
 | some v=>ap (g v σ) λc=>ap (a c) λo=>match o with
   | .nx b=>c8 J g a f (i+1) b
   | .ct b=>c8 J g a f (i+1) b
   | .bk b=>ret (.nx b)
   | .rt v=>ret (.rt v):=(Kf ph).2 J g a f i σ
@[simp] noncomputable def v8(c:ID)(g:GD)(a:SD):SD:=λb=>ap (c b) λJ=>ap (m8 J) λn=>c8 J g a (n+1) 0 b
noncomputable def pj(t:TD)(a:SD):Nat->PSt->M Fl
 | 0,_=>stuck
 | f+1,d=>ap (t d) λc=>if c=true then ap (a d) λo=>match o with
    | .nx b=>pj t a f b
    | .ct b=>pj t a f b
    | .bk b=>ret (.nx b)
    | .rt v=>ret (.rt v)
   else ret (.nx d)
theorem pk:∃T:TD->SD->Nat->PSt->M Fl,(∀t a d,T t a 0 d=stuck)/\∀t a f d,T t a (f+1) d=ap (t d) λc=>if c=true then ap (a d) λo=>match o with
 | .nx b=>T t a f b
 | .ct b=>T t a f b
 | .bk b=>ret (.nx b)
 | .rt v=>ret (.rt v)
 else ret (.nx d):=⟨pj,λ_ _ _=>rfl,λ_ _ _ _=>rfl⟩
noncomputable def m9:TD->SD->Nat->PSt->M Fl:=Ot pk
theorem Al(t:TD)(a:SD)(σ:PSt):m9 t a 0 σ=stuck:=(Kf pk).1 t a σ
theorem tD(t:TD)(a:SD)(f:Nat)(σ:PSt):m9 t a (f+1) σ=ap (t σ) λc=>if c=true then ap (a σ) λo=>match o with
 | .nx b=>m9 t a f b
 | .ct b=>m9 t a f b
 | .bk b=>ret (.nx b)
 | .rt v=>ret (.rt v)
 else ret (.nx σ):=(Kf pk).2 t a f σ
@[simp] noncomputable def nk(t:TD)(a:SD):SD:=λb=>m9 t a LIM b
noncomputable def bU{a:Type}(b:List (Option Nat))(σ:List (Option a)):List (Option a):=b.map λo=>match o with
 | none=>none
 | some j=>σ.getD j none
noncomputable def pq(J:It)(g:GD)(t:TD)(e:ED):Nat->Nat->PSt->M (List PV)
 | 0,_,_=>stuck
 | f+1,i,b=>ap (item J i) λx=>match x with
   | none=>ret []
   | some v=>ap (g v b) λa=>ap (t a) λc=>if c=true then ap (e a) λy=>ap (pq J g t e f (i+1) a) λd=>ret (y::d)
     else pq J g t e f (i+1) a
theorem pr:∃T:It->GD->TD->ED->Nat->Nat->PSt->M (List PV),(∀J g t e i b,T J g t e 0 i b=stuck)/\∀J g t e f i b,T J g t e (f+1) i b=ap (item J i) λx=>match x with
 | none=>ret []
 | some v=>ap (g v b) λa=>ap (t a) λc=>if c=true then ap (e a) λy=>ap (T J g t e f (i+1) a) λd=>ret (y::d)
   else T J g t e f (i+1) a:=⟨pq,λ_ _ _ _ _ _=>rfl,λ_ _ _ _ _ _ _=>rfl⟩
noncomputable def g9:It->GD->TD->ED->Nat->Nat->PSt->M (List PV):=Ot pr
theorem tE(J:It)(g:GD)(t:TD)(e:ED)(i:Nat)(σ:PSt):g9 J g t e 0 i σ=stuck:=(Kf pr).1 J g t e i σ
theorem Z6(J:It)(g:GD)(t:TD)(e:ED)(f i:Nat)(σ:PSt):g9 J g t e (f+1) i σ=ap (item J i) λx=>match x with
 | none=>ret []
 | some v=>ap (g v σ) λa=>ap (t a) λc=>if c=true then ap (e a) λy=>ap (g9 J g t e f (i+1) a) λb=>ret (y::b)
   else g9 J g t e f (i+1) a:=(Kf pr).2 J g t e f i σ
@[simp] noncomputable def T3:TD:=λ_=>ret true
@[simp] noncomputable def L4(c:ID)(d:PSt->PSt)(g:GD)(t:TD)(e:ED):ED:=λa=>ap (c a) λJ=>ap (m8 J) λn=>ap (g9 J g t e (n+1) 0 (d a)) λb=>G0 (b.length<=LIM) (alloc (.lst b))
@[simp] noncomputable def start(n:Nat)(vs:List PV):PSt:=vs.map some++LF (n - vs.length) none
noncomputable def fin(o:Fl):M PV:=match o with
    | .rt v=>ret v
    | .nx _=>ret .non
    | _=>stuck
@[simp] theorem Hq(v:PV):fin (.rt v)=ret v:=rfl
@[simp] theorem Hr(σ:PSt):fin (.nx σ)=ret .non:=rfl
@[simp] noncomputable def fn(n p:Nat)(a:SD):Fun:=λb=>G0 (b.length=p) (ap (a (start n b)) fin)
end
theorem ag{A B:PHp}{n:Nat}{o:PO}(h:A<+:B)(e:A[n]?=some o):B[n]?=some o:=by
 obtain⟨t,rfl⟩:=h;rw[Ix (HY.mp e).1];exact e
theorem G1{A:PHp}{n:Nat}{o:PO}(e:A[n]?=some o):n<A.length:=(HY.mp e).1
theorem pre_set{A B:PHp}{n:Nat}{o:PO}(h:A<+:B)(e:A.length<=n):A<+:B.set n o:=by
 obtain⟨t,rfl⟩:=h;rw[List.set_append_right _ _ e];exact HN _ _
theorem E9{A B:PHp}{o:PO}(h:A<+:B):A<+:B++[o]:=h.trans (HN _ _)
theorem ak{A:PHp}{o:PO}:(A++[o])[A.length]?=some o:=by simp
theorem ah{A:PHp}{o p:PO}{n:Nat}(e:A[n]?=some p):(A++[o])[n]?=some p:=ag (HN _ _) e
theorem D4{A:PHp}{o:PO}{n m:Nat}(h:m≠n):(A.set n o)[m]?=A[m]?:=by
 rw[Mt];simp[JX h]
theorem aM{A:PHp}{o p:PO}{n:Nat}(h:A[n]?=some p):(A.set n o)[n]?=some o:=by
 rw[Mt];simp[G1 h]
def Comes(r:R Fl)(P:PSt->PHp->Prop)(Q:PV->PHp->Prop):Prop:=
 (∃a A,r=.ok (.nx a) A/\P a A)\/∃v A,r=.ok (.rt v) A/\Q v A
def eA(r:R Fl)(P:PSt->PHp->Prop)(Q:PV->PHp->Prop):Prop:=
 (∃a A,(r=.ok (.nx a) A\/r=.ok (.ct a) A)/\P a A)\/∃v A,r=.ok (.rt v) A/\Q v A
theorem turns_inv{J:It}{g:GD}{a:SD}{n:Nat}(P:Nat->PSt->PHp->Prop)(Q:PV->PHp->Prop)
 (d:∀b A,P n b A->item J n A=.ok none A)
 (hs:∀i b A,i<n->P i b A->∃v,item J i A=.ok (some v) A/\eA (ap (g v b) a A) (P (i+1)) Q) :
 ∀k i b A,i+k=n->P i b A->Comes (c8 J g a (k+1) i b A) (P n) Q
 | 0,i,b,A,e,h=>by
   obtain rfl:i=n:=by omega
   refine .inl ⟨b,A,?_,h⟩;rw[T6,aD (d b A h)];rfl
 | k+1,i,b,A,e,h=>by
   obtain⟨v,p,t⟩:=hs i b A (by omega) h;have j:c8 J g a (k+1+1) i b A=ap (ap (g v b) a) (λo=>match o with
    | .nx c=>c8 J g a (k+1) (i+1) c
    | .ct c=>c8 J g a (k+1) (i+1) c
    | .bk c=>ret (.nx c)
    | .rt v=>ret (.rt v)) A:=by
    rw[T6,aD p];show ap (g v b) _ A=_;unfold ap;cases g v b A<;>rfl
   rw[j];rcases t with⟨c,l,f,m⟩ | ⟨u,l,f,m⟩
   ·rcases f with f | f<;>(rw[aD f];exact turns_inv P Q d hs k (i+1) c l (by omega) m)
   ·rw[aD f];exact .inr ⟨u,l,rfl,m⟩
theorem Am{d:ID}{g:GD}{b:SD}{a:Nat}{l:List PV}{σ:PSt}{A A1:PHp}(c:d σ A=.ok (.enm a) A1)(P:Nat->PSt->PHp->Prop)(Q:PV->PHp->Prop)(f:P 0 σ A1)
 (e:∀i σ A,P i σ A->E4 a A=.ok l A)
 (hs:∀(i:Nat) v σ A,l[i]?=some v->P i σ A->eA (ap (g (.tup [.int i,v]) σ) b A) (P (i+1)) Q):Comes (v8 d g b σ A) (P l.length) Q:=by
 show Comes (ap (d σ) _ A) _ _;rw[aD c];show Comes (ap (ap (E4 a) _) _ A1) _ _;rw[aD (show ap (E4 a) (λl=>ret l.length) A1=.ok l.length A1 by rw[aD (e 0 σ A1 f)];rfl)];refine turns_inv (J:=.enm a) P Q (λσ A h=>?_) (λi σ A c h=>⟨.tup [.int i,l[i]],?_,hs i _ σ A (by simp[c]) h⟩) l.length 0 σ A1 (by omega) f
 ·show ap (E4 a) _ A=_;rw[aD (e _ _ _ h)];simp
 ·show ap (E4 a) _ A=_;rw[aD (e _ _ _ h)];simp[c]
theorem Comes.end{r:R Fl}{P:PSt->PHp->Prop}(h:Comes r P λ_ _=>False):∃a A,r=.ok (.nx a) A/\P a A:=by
 rcases h with h | ⟨_,_,_,h⟩
 ·exact h
 ·exact h.elim
theorem eA.nx{r:R Fl}{P:PSt->PHp->Prop}{Q:PV->PHp->Prop}{σ:PSt}{A:PHp}(e:r=.ok (.nx σ) A)(h:P σ A):eA r P Q:=.inl ⟨σ,A,.inl e,h⟩
theorem Comes.mono{r:R Fl}{P b:PSt->PHp->Prop}{Q c:PV->PHp->Prop}(h:Comes r P Q)(d:∀a A,P a A->b a A)(f:∀v A,Q v A->c v A):Comes r b c:=by
 rcases h with⟨a,A,e,h⟩ | ⟨v,A,e,h⟩
 ·exact .inl ⟨a,A,e,d _ _ h⟩
 ·exact .inr ⟨v,A,e,f _ _ h⟩
theorem tF{J:It}{g:GD}{t:TD}{e:ED}{l:List PV}{S:PSt->Prop}{p:PV->Bool}{f:PV->PV}{A:PHp}
 (c:∀i,item J i A=.ok l[i]? A)
 (h:∀v∈l,∀b,S b->∃a,g v b A=.ok a A/\S a/\t a A=.ok (p v) A/\(p v=true->e a A=.ok (f v) A)) :
 ∀k i b,i+k=l.length->S b->g9 J g t e (k+1) i b A=.ok (((l.drop i).filter p).map f) A
 | 0,i,b,n,d=>by
   have:l.length<=i:=by omega
   rw[Z6,aD (c i)];simp[OA this,this]
 | k+1,i,b,n,d=>by
   have j:i<l.length:=by omega
   obtain⟨a,o,q,r,s⟩:=h l[i] (MM j) b d;have ih:=tF c h k (i+1) a (by omega) q;have u:l.drop i=l[i]::l.drop (i+1):=List.drop_eq_getElem_cons j;rw[Z6,aD (c i),HX j];show ap (g l[i] b) _ A=_;rw[aD o,aD r,u];cases m:p l[i]with
   | true=>
     rw[if_pos rfl,aD (s m),aD ih,Mg m];rfl
   | false=>
     rw[if_neg (by simp),ih,Mh (by simp[m])]
theorem tG{d:ID}{j:PSt->PSt}{g:GD}{t:TD}{e:ED}{a:Nat}{l:List PV}{S:PSt->Prop}{p:PV->Bool}{f:PV->PV}{σ:PSt}{A A1:PHp}(o:d σ A=.ok (.lst a) A1)(n:E4 a A1=.ok l A1)(q:l.length<=LIM)(m:S (j σ))
 (h:∀v∈l,∀σ,S σ->∃b,g v σ A1=.ok b A1/\S b/\t b A1=.ok (p v) A1/\(p v=true->e b A1=.ok (f v) A1)) :
 L4 d j g t e σ A=.ok (.ref A1.length) (A1++[.lst ((l.filter p).map f)]):=by
 show ap (d σ) _ A=_;rw[aD o];show ap (ap (E4 a) _) _ A1=_;rw[aD (show ap (E4 a) (λl=>ret l.length) A1=.ok l.length A1 by rw[aD n];rfl)];have c:=tF (J:=.lst a) (g:=g) (t:=t) (e:=e) (l:=l) (S:=S) (p:=p) (f:=f) (A:=A1) (λi=>by show ap (E4 a) _ A1=_;rw[aD n];rfl) h l.length 0 (j σ) (by omega) m;rw[aD c,Pc,T5]
 ·rfl
 ·rw[HC];exact Ih (Iz _ _) q
theorem J7{A:PHp}{n:Nat}{l:List PV}(h:A[n]?=some (.lst l)):E4 n A=.ok l A:=by
 unfold E4;rw[h]
theorem An{A:PHp}{n:Nat}{l:List PV}(h:A[n]?=some (.lst l)):S7 n A=.ok l A:=by
 unfold S7;rw[h]
mutual
theorem tH:∀x y:PV,f9 x=true->(bq x y=true↔x=y)
 | .non,y,_=>by cases y<;>simp[bq]
 | .bl _,_,h=>by simp[f9]at h
 | .int i,y,_=>by cases y<;>simp[bq]
 | .str s,y,_=>by cases y<;>simp[bq]
 | .tup l,y,h=>by
   cases y with
   | tup m=>simp only[bq,PV.tup.injEq];exact t8 l m (by simpa[f9]using h)
   | _=>simp[bq]
 | .ref _,_,h=>by simp[f9]at h
theorem t8:∀l m:List PV,hU l=true->(W4 l m=true↔l=m)
 | [],m,_=>by cases m<;>simp[W4]
 | x::a,m,h=>by
   cases m with
   | nil=>simp[W4]
   | cons y b=>
     simp only[hU,HZ]at h;simp only[W4,HZ,Lm];rw[tH x y h.1,t8 a b h.2]
end
theorem V4{f:PV->Bool}(h:∀x,f x=true->f9 x=true):∀l:List PV,l.all f=true->hU l=true
 | [],_=>rfl
 | x::a,e=>by
   rw[Lq,HZ]at e;simp only[hU,HZ];exact⟨h x e.1,V4 h a e.2⟩
theorem kW(x:PV)(h:N5 x=true):f9 x=true:=by cases x<;>simp_all [N5,f9]
theorem tI(x:PV)(h:nb x=true):f9 x=true:=by
 cases x with
 | tup l=>exact V4 kW l h
 | _=>exact kW _ h
theorem tJ(x:PV)(h:jo x=true):f9 x=true:=by
 cases x with
 | tup l=>exact V4 tI l h
 | _=>exact kW _ h
theorem i0(x:PV)(h:plain x=true):f9 x=true:=by
 cases x with
 | tup l=>exact V4 tJ l h
 | _=>exact kW _ h
theorem tK(x y:PV)(h:plain x=true):bq x y=true↔x=y:=tH x y (i0 x h)
theorem Ao(l m:List PV)(h:K6 l=true):W4 l m=true↔l=m:=t8 l m (V4 i0 l h)
theorem tL(l:List PV):K6 l=true↔∀x∈l,plain x=true:=Ik
theorem V5(ns:List Int):K6 (ns.map .int)=true:=by
 rw[tL];intro x a;obtain⟨i,_,rfl⟩:=HQ.mp a;rfl
theorem cz{c:Type}(lt:c->c->Bool)(a:c):∀l:List c,(k8 lt a l).Perm (a::l)
 | []=>.refl _
 | b::r=>by
   unfold k8;split
   ·exact((cz lt a r).cons b).trans (.swap a b r)
   ·exact .refl _
theorem R5{b:Type}(lt:b->b->Bool):∀l:List b,(J8 lt l).Perm l
 | []=>.refl _
 | a::r=>(cz lt a _).trans ((R5 lt r).cons a)
theorem T7(ns:List Int):N1 (ns.map .int)=some ns:=by
 induction ns with
 | nil=>rfl
 | cons i r ih=>simp[N1,ih]
theorem tM:∀(a:List (List Int)),(∀t∈a,t≠[])->X3 (a.map λt=>PV.tup (t.map .int))=some a
 | [],_=>rfl
 | t::r,h=>by
   have ih:=tM r λu b=>h u (HR _ b);cases t with
   | nil=>exact absurd rfl (h [] HM)
   | cons x l=>
     have e:=T7 (x::l);simp only[Ic]at e;simp only[Ic,X3,e,ih]
theorem Ap{a:List (List Int)}{A:PHp}(h:a.length<64)(b:∀t∈a,t≠[]):kU (a.map λt=>PV.tup (t.map .int)) A=.ok ((J8 G7 a).map λt=>PV.tup (t.map .int)) A:=by
 unfold kU;rw[HC,T5 h];cases a with
 | nil=>rfl
 | cons t r=>
   have e:N1 ((t::r).map λt=>PV.tup (t.map .int))=none:=by simp[N1]
   rw[e,tM _ b];rfl
theorem tN{g:Type}{lt:g->g->Bool}(d:∀a b,lt a b=true->lt b a=false)(j:∀a b c,lt b a=false->lt c b=false->lt c a=false)(a:g) :
 ∀l:List g,l.Pairwise (λx y=>lt y x=false)->(k8 lt a l).Pairwise (λx y=>lt y x=false)
 | [],_=>by simp[k8]
 | b::r,h=>by
   rw[IG]at h;unfold k8;split
   ·rename_i i;rw[IG];refine⟨λc e=>?_,tN d j a r h.2⟩;rcases HK.mp ((cz lt a r).mem_iff.mp e)with rfl | e
    ·exact d _ _ i
    ·exact h.1 c e
   ·rename_i i;have f:lt b a=false:=by simpa using i
    rw[IG];refine⟨λc e=>?_,IG.mpr h⟩;rcases HK.mp e with rfl | e
    ·exact f
    ·exact j a b c f (h.1 c e)
theorem U9{e:Type}{lt:e->e->Bool}(d:∀a b,lt a b=true->lt b a=false)(f:∀a b c,lt b a=false->lt c b=false->lt c a=false) :
 ∀l:List e,(J8 lt l).Pairwise (λx y=>lt y x=false)
 | []=>by simp[J8]
 | a::r=>tN d f a _ (U9 d f r)
theorem Aq(l:List Int):(J8 gr l).Pairwise (·<=·):=by
 refine(U9 (lt:=gr) ?_ ?_ l).imp ?_
 ·intro a b h;simp[gr]at *;omega
 ·intro a b c d e;simp[gr]at *;omega
 ·intro a b h;simp[gr]at h;exact h
theorem pu:∀{l m:List Int},l.Perm m->l.Pairwise (·<=·)->m.Pairwise (·<=·)->l=m
 | [],m,h,_,_=>(List.nil_perm.mp h).symm
 | x::l,[],h,_,_=>absurd h.length_eq (by simp)
 | x::l,y::m,h,a,b=>by
   rw[IG]at a b;have e:x=y:=by
    have d:x∈y::m:=h.mem_iff.mp HM;have f:y∈x::l:=h.mem_iff.mpr HM;rcases HK.mp d with e | e
    ·exact e
    ·rcases HK.mp f with c | c
     ·exact c.symm
     ·have:=b.1 x e;have:=a.1 y c;omega
   subst e;rw[pu (List.perm_cons _ |>.mp h) a.2 b.2]
theorem t9{d:Type}{lt:d->d->Bool}(c:∀a b,lt a b=false->lt b a=false->a=b):∀{l m:List d},l.Perm m->l.Pairwise (λx y=>lt y x=false)->m.Pairwise (λx y=>lt y x=false)->l=m
 | [],m,h,_,_=>(List.nil_perm.mp h).symm
 | x::l,[],h,_,_=>absurd h.length_eq (by simp)
 | x::l,y::m,h,f,g=>by
   rw[IG]at f g;have e:x=y:=by
    have j:x∈y::m:=h.mem_iff.mp HM;have n:y∈x::l:=h.mem_iff.mpr HM;rcases HK.mp j with e | e
    ·exact e
    ·rcases HK.mp n with i | i
     ·exact i.symm
     ·exact c _ _ (g.1 x e) (f.1 y i) |>.symm ▸ rfl
   subst e;rw[t9 c (List.perm_cons _ |>.mp h) f.2 g.2]
theorem pw:∀a b:List Int,G7 a b=true->G7 b a=false
 | _,[],h=>by simp[G7]at h
 | [],_::_,_=>rfl
 | x::c,y::d,h=>by
   simp only[G7]at h ⊢;by_cases e:x=y
   ·subst e;simp only[if_true]at h ⊢;exact pw c d h
   ·rw[if_neg e]at h;rw[if_neg (JX e)];simp at h ⊢;omega
theorem kX:∀a b:List Int,G7 a b=false->G7 b a=false->a=b
 | [],[],_,_=>rfl
 | [],_::_,h,_=>by simp[G7]at h
 | _::_,[],_,h=>by simp[G7]at h
 | x::d,y::f,h,c=>by
   simp only[G7]at h c;by_cases e:x=y
   ·subst e;simp only[if_true]at h c;rw[kX d f h c]
   ·rw[if_neg e]at h;rw[if_neg (JX e)]at c;simp at h c;omega
theorem px:∀a b c:List Int,G7 b a=false->G7 c b=false->G7 c a=false
 | [],_,_,_,_=>by simp[G7]
 | _::_,[],_,h,_=>by simp[G7]at h
 | _::_,_::_,[],_,h=>by simp[G7]at h
 | x::g,y::i,z::j,h,d=>by
   simp only[G7]at h d ⊢;by_cases e:y=x
   ·subst e;simp only[if_true]at h;by_cases f:z=y
    ·subst f;simp only[if_true]at d ⊢;exact px g i j h d
    ·rw[if_neg f]at d ⊢;exact d
   ·rw[if_neg e]at h;by_cases f:z=y
    ·subst f;rw[if_neg e];exact h
    ·rw[if_neg f]at d;simp at h d;rw[if_neg (by omega)];simp;omega
theorem tO(a:List (List Int)):(J8 G7 a).Pairwise (λx y=>G7 y x=false):=U9 pw px a
@[simp] noncomputable def Hs(a:ED):ED:=λb=>ap (a b) λx=>match x with
  | .ref n=>ap (S7 n) λl=>match l[l.length - 1]? with
    | some y=>ap (jp n (.lst l.dropLast)) λ_=>ret y
    | none=>stuck
  | _=>stuck
@[simp] noncomputable def hW(n:Nat):M (List (Int×PV)):=λA=>match A[n]? with
  | some (.dI m)=>.ok m A
  | _=>.no
noncomputable def gi:List (Int×PV)->Int->Option PV
 | [],_=>none
 | p::r,k=>if p.1=k then some p.2 else gi r k
noncomputable def n0(kvs:List (Int×PV))(k:Int)(x:PV):List (Int×PV):=
 if(kvs.any λp=>decide (p.1=k))=true then kvs.map (λp=>if p.1=k then(p.1,x) else p) else kvs++[(k,x)]
@[simp] noncomputable def Ht(y d:ED):ED:=λa=>ap (y a) λk=>ap (d a) λx=>match k,x with
  | .int i,.ref n=>ap (hW n) λm=>ret (.bl (gi m i).isSome)
  | _,_=>stuck
@[simp] noncomputable def sDPut(d y e:ED):SD:=λa=>ap (e a) λv=>ap (d a) λx=>ap (y a) λk=>match x,k with
  | .ref n,.int i=>ap (hW n) λm=>G0 (m.length<LIM) (ap (jp n (.dI (n0 m i v))) λ_=>ret (.nx a))
  | _,_=>stuck
@[simp] noncomputable def kj(d y:ED):ED:=λa=>ap (d a) λx=>ap (y a) λk=>match x,k with
  | .ref n,.int i=>ap (hW n) λm=>match gi m i with
    | some v=>ret v
    | none=>stuck
  | _,_=>stuck
noncomputable def V6:List PV->Option (List Bool)
 | []=>some []
 | .bl b::r=>(V6 r).map (b :: ·)
 | _=>none
@[simp] noncomputable def gj(a:ED):ED:=λb=>ap (a b) λx=>match x with
  | .ref n=>ap (E4 n) λl=>match V6 l with
    | some bs=>ret (.bl (bs.all id))
    | none=>stuck
  | _=>stuck
@[simp] noncomputable def n4(a:ED):ED:=λb=>ap (a b) λx=>match x with
  | .ref n=>ap (E4 n) λl=>G0 (l.length<=LIM) (ret (.tup l))
  | _=>stuck
@[simp] noncomputable def py(a e:ED):ED:=λb=>ap (a b) λx=>match x with
  | .ref n=>ap (S7 n) λ_=>ap (e b) λv=>match v with
    | .ref k=>ap (S7 n) λl=>ap (S7 k) λm=>G0 (l.length+m.length<=LIM) (ap (jp n (.lst (l++m))) λ_=>ret .non)
    | _=>stuck
  | _=>stuck
noncomputable def pz:List Int->List (List Int)
 | []=>[[]]
 | a::r=>pz r++(pz r).map (a :: ·)
noncomputable def eX(l:List Int)(a:Int):List Int:=if l.any (·== a)=true then l else l++[a]
noncomputable def gs(ns:List Int):Nat:=(ns.foldl eX []).length
@[simp] noncomputable def pD(a:ED):ED:=λb=>ap (a b) λx=>ap (N6 x) λl=>match N1 l with
  | some ns=>G0 (ns.length<1000) (ret (.int (gs ns)))
  | none=>stuck
theorem metI_cases(l:List Int)(a:Int):(a∈l/\eX l a=l)\/(a∉l/\eX l a=l++[a]):=by
 unfold eX;by_cases h:a∈l
 ·exact .inl ⟨h,if_pos (LM.mpr ⟨a,h,by simp⟩)⟩
 ·refine .inr ⟨h,if_neg λz=>?_⟩;obtain⟨x,b,e⟩:=LM.mp z;exact h (by rw[←(beq_iff_eq.mp e)];exact b)
theorem nq:∀(r l:List Int),l.Nodup->(r.foldl eX l).length<=l.length+r.length/\((r.foldl eX l).length=l.length+r.length↔(l++r).Nodup)
 | [],l,h=>by simp[h]
 | a::r,l,h=>by
   rw[Nh];rcases metI_cases l a with⟨c,e⟩ | ⟨c,e⟩
   ·rw[e];obtain⟨d,b⟩:=nq r l h;refine⟨by simp;omega,⟨λz=>by simp at z;omega,λz=>?_⟩⟩;exact absurd rfl ((Jy.mp z).2.2 a c a HM)
   ·rw[e];have g:(l++[a]).Nodup:=by
     rw[Jy];exact⟨h,by simp,λx i y f z=>by simp at f;exact c (by rw[←f,←z];exact i)⟩
    obtain⟨d,b⟩:=nq r (l++[a]) g;have j:l++[a]++r=l++a::r:=by simp
    rw[j]at b;simp only[Ie,Il,Jm]at d b ⊢;exact⟨by omega,⟨λz=>b.mp (by omega),λz=>by have:=b.mpr z;omega⟩⟩
theorem tP(ns:List Int):gs ns<=ns.length:=by have:=(nq ns [] Mz).1;simpa[gs]using this
theorem tQ(ns:List Int):gs ns<ns.length↔¬ns.Nodup:=by
 have h:=(nq ns [] Mz).2;have a:=tP ns;simp only[Jm,Qa,Ni]at h;unfold gs at *;constructor
 ·intro z y;have:=h.mpr y;omega
 ·intro z;rcases Qb (ns.foldl eX []).length ns.length with q | q
  ·exact q
  ·exact absurd (h.mp (by omega)) z
@[simp] noncomputable def nr(a b:ED):ID:=λc=>ap (a c) λx=>ap (b c) λy=>ap (N6 x) λ_=>ap (N6 y) λ_=>ret (.zip x y)
noncomputable section
noncomputable def dP{b:Type}(m:M b):M b:=λA=>match m A with
 | .ok a c=>.ok a c
 | _=>.no
theorem Ar{b:Type}{m:M b}{A A':PHp}{a:b}(h:m A=.ok a A'):dP m A=.ok a A':=by unfold dP;rw[h]
noncomputable def jv(c:Nat)(f:Fun)(a:ED)(es:AD):ED:=λb=>ap (dP (a b)) λx=>match x with
 | .ref n=>ap (V3 n) λo=>G0 (o.1=c) (ap (dP (es b)) λd=>f (x::d))
 | _=>stuck
noncomputable def fD(s:SD):SD:=λa=>dP (s a)
noncomputable def hX(t:TD):TD:=λa=>dP (t a)
noncomputable def n5(c:Nat)(es:AD):SD:=λa=>ap (dP (es a)) λb A=>match b with
 | [v]=>.ex c v A
 | _=>.no
noncomputable def As(i:Nat):Fl->Fl
 | .nx a=>.nx (a.set i none)
 | .bk a=>.bk (a.set i none)
 | .ct a=>.ct (a.set i none)
 | .rt v=>.rt v
abbrev Hd:=Nat×Option Nat×SD
noncomputable def i3:List Hd->Nat->PV->PSt->M Fl
 | [],_,_,_=>stuck
 | (k,none,b)::r,c,v,a=>if gu c k=true then b a else i3 r c v a
 | (k,some i,b)::r,c,v,a=>if gu c k=true then ap (alloc (.exc c v)) λx=>ap (b (a.set i (some x))) λf=>ret (As i f) else i3 r c v a
noncomputable def kY(es:List Nat)(b:SD)(hs:List Hd):SD:=λd A=>match b d A with
 | .ok f a=>.ok f a
 | .ex c v a=>G0 (c∈es) (i3 hs c v d) a
 | .no=>.no
end
noncomputable section
end
noncomputable section
end
noncomputable section
noncomputable def Q1:PV->Option (List Int)
 | .tup l=>N1 l
 | _=>none
noncomputable def T4(n:Nat):M (List (List Int×PV)):=λA=>match A[n]? with
 | some (.dT m)=>.ok m A
 | _=>.no
noncomputable def M6:List (List Int×PV)->List Int->Option PV
 | [],_=>none
 | p::r,k=>if p.1=k then some p.2 else M6 r k
noncomputable def Z4(kvs:List (List Int×PV))(k:List Int)(x:PV):List (List Int×PV):=
 if(kvs.any λp=>decide (p.1=k))=true then kvs.map (λp=>if p.1=k then(p.1,x) else p) else kvs++[(k,x)]
noncomputable def jw(y d:ED):ED:=λa=>ap (y a) λk=>ap (d a) λx=>match Q1 k,x with
 | some i,.ref n=>ap (T4 n) λm=>ret (.bl (M6 m i).isSome)
 | _,_=>stuck
noncomputable def kZ(d y e:ED):SD:=λa=>ap (e a) λv=>ap (d a) λx=>ap (y a) λk=>match x,Q1 k with
 | .ref n,some i=>ap (T4 n) λm=>G0 (m.length<LIM) (ap (jp n (.dT (Z4 m i v))) λ_=>ret (.nx a))
 | _,_=>stuck
noncomputable def kl(d y:ED):ED:=λa=>ap (d a) λx=>ap (y a) λk=>match x,Q1 k with
 | .ref n,some i=>ap (T4 n) λm=>match M6 m i with
   | some v=>ret v
   | none=>stuck
 | _,_=>stuck
noncomputable def km:ED:=λ_=>alloc (.dT [])
noncomputable def pE(d y:ED):ED:=λa=>ap (d a) λx=>match x with
 | .ref n=>ap (T4 n) λ_=>ap (y a) λk=>match Q1 k with
   | some i=>ap (T4 n) λm=>ret ((M6 m i).getD .non)
   | _=>stuck
 | _=>stuck
noncomputable def pF(d y e:ED):ED:=λa=>ap (d a) λx=>match x with
 | .ref n=>ap (T4 n) λ_=>ap (y a) λk=>ap (e a) λv=>match Q1 k with
   | some i=>ap (T4 n) λm=>ret ((M6 m i).getD v)
   | _=>stuck
 | _=>stuck
noncomputable def Hu:OD
 | .int i,.int j=>G0 (0<=j) (ret (.int (i / 2 ^ j.toNat)))
 | _,_=>stuck
noncomputable def pG(a:ED):ED:=λb=>ap (a b) λx=>match x with
 | .int j=>G0 (-(2 ^ 62)<=j/\j<2 ^ 62/\j.toNat<=2 ^ 24) (alloc (.lst ((Iw j.toNat).map λk=>PV.int (k:Nat))))
 | _=>stuck
noncomputable def w4:List PV->Option (List (Int×PV))
 | []=>some []
 | .tup [.int i,v]::r=>(w4 r).map ((i,v) :: ·)
 | _=>none
noncomputable def nu(a:ED):ED:=λc=>ap (a c) λx=>match x with
 | .ref n=>ap (S7 n) λl=>match w4 l with
   | some m=>G0 (m.length<LIM) (alloc (.dI (m.foldl (λb p=>n0 b p.1 p.2) [])))
   | none=>stuck
 | _=>stuck
end
noncomputable section
noncomputable def small:List (List Int):=((Iw 10).map λa=>(Iw 10).map λb=>[((a:Nat):Int),((b:Nat):Int)]).flatten
noncomputable def Hv(a:ED):ED:=λb=>ap (a b) λx=>match x with
 | .ref n=>ap (T4 n) λm=>ret (.int m.length)
 | _=>stuck
noncomputable def pH(a:ED):ED:=λb=>ap (a b) λx=>match x with
 | .ref n=>ap (T4 n) λm=>G0 ((m.map (·.1)).Nodup/\∀p∈m,p.1∈small) (alloc (.dT m))
 | _=>stuck
end
noncomputable section
end
noncomputable section
end
noncomputable section
end
noncomputable section
end
noncomputable section
noncomputable def lc(x:PV):M Bool:=match x with
 | .str _=>ret true
 | .ref n=>ap (S7 n) λ_=>ret false
 | _=>ret false
noncomputable def nv(a:ED):ED:=λc=>ap (a c) λx=>ap (lc x) λb=>ret (.bl b)
end
noncomputable section
end
noncomputable section
noncomputable def pI(a:ED):ED:=λb=>ap (a b) λx=>match x with
 | .ref n=>ap (T4 n) λm=>G0 (m.length<64/\∀p∈m,p.1≠[]) (alloc (.lst ((J8 G7 (m.map (·.1))).map λt=>.tup (t.map .int))))
 | _=>stuck
end
noncomputable section
end
noncomputable section
end
noncomputable section
end
noncomputable def ko(d y e:ED):ED:=λa=>ap (d a) λx=>match x with
 | .ref n=>ap (T4 n) λ_=>ap (y a) λk=>ap (e a) λv=>match Q1 k with
   | some i=>ap (T4 n) λm=>match M6 m i with
     | some w=>ret w
     | none=>G0 (m.length<LIM) (ap (jp n (.dT (Z4 m i v))) λ_=>ret v)
   | _=>stuck
 | _=>stuck
noncomputable def le(a:ED):ED:=λb=>ap (a b) λx=>match x with
 | .ref n=>ap (E4 n) λl=>match V6 l with
   | some bs=>ret (.bl (bs.any id))
   | none=>stuck
 | _=>stuck
noncomputable def gv:List PV->Option (List (List Int×PV))
 | []=>some []
 | .tup [k,v]::r=>(Q1 k).bind λi=>(gv r).map ((i,v) :: ·)
 | _=>none
noncomputable def pJ(a:ED):ED:=λc=>ap (a c) λx=>match x with
 | .ref n=>ap (S7 n) λl=>match gv l with
   | some m=>G0 (m.length<LIM) (alloc (.dT (m.foldl (λb p=>Z4 b p.1 p.2) [])))
   | none=>stuck
 | _=>stuck
noncomputable def n6(M:List Int)(x:Int):Nat:=(M.takeWhile λy=>decide (y<x)).length
noncomputable def X5(M:List Int)(x:Int):List Int:=M.takeWhile (λy=>decide (y<x))++x::M.dropWhile (λy=>decide (y<x))
noncomputable def fE(M:List Int)(x:Int):List Int:=if x∈M then M else X5 M x
noncomputable def setL(l:List Int):List Int:=l.foldl fE []
noncomputable def pK(a:ED):ED:=λb=>ap (a b) λx=>match x with
 | .ref n=>ap (S7 n) λl=>match N1 l with
   | some ns=>G0 (∀x∈ns,0<=x/\x<=5) (alloc (.lst ((setL ns).map PV.int)))
   | none=>stuck
 | _=>stuck
noncomputable def pL(a:ED):ED:=λb=>ap (a b) λx=>match x with
 | .ref n=>ap (hW n) λm=>alloc (.dI m)
 | _=>stuck
noncomputable def nw:OD:=λx y=>match x,y with
 | .bl b,.ref n=>ap (E4 n) λl=>match V6 l with
   | some bs=>ret (.bl (bs.any (·== b)))
   | none=>stuck
 | _,_=>stuck
noncomputable def lf:OD:=λx y=>match x,y with
 | .bl b,.ref n=>ap (E4 n) λl=>match V6 l with
   | some bs=>ret (.bl (!bs.any (·== b)))
   | none=>stuck
 | _,_=>stuck
end Ws
namespace Ws
open PySem L2
noncomputable def At:Expr->Bool
 | .Starred _ _=>true
 | _=>false
theorem D8{e:Expr}{es:List Expr}{a:Env}(h:At e=false):starEach (e::es) a=(false,eval e a)::starEach es a:=by
 cases e<;>first | rfl | cases h
mutual
inductive RV (ρ:List Addr) (H:Hp):PV->V->Prop
 | non:RV ρ H .non .non
 | bl (b:Bool):RV ρ H (.bl b) (.bl b)
 | int (i:Int):RV ρ H (.int i) (.int i)
 | str (x:Str):RV ρ H (.str x) (.str x)
 | tup {l:List PV} {a:Addr} {vs:List V} (h:H a=some (.tup vs)) (r:aQ ρ H l vs):RV ρ H (.tup l) (.ref a)
 | ref {n:Nat} {a:Addr} (h:ρ[n]?=some a):RV ρ H (.ref n) (.ref a)
inductive aQ (ρ:List Addr) (H:Hp):List PV->List V->Prop
 | nil:aQ ρ H [] []
 | cons {x:PV} {v:V} {l:List PV} {vs:List V} (h:RV ρ H x v) (r:aQ ρ H l vs):aQ ρ H (x::l) (v::vs)
end
structure aC(ρ:List Addr)(H:Hp)(ρ':List Addr)(H':Hp):Prop where
 pre:ρ<+:ρ'
 tup:∀a vs,H a=some (.tup vs)->H' a=some (.tup vs)
 xd:∀a fs,H a=some (.xd fs)->H' a=some (.xd fs)
theorem aC.refl(a:List Addr)(H:Hp):aC a H a H:=⟨Iy _,λ_ _ h=>h,λ_ _ h=>h⟩
theorem aC.trans{g d e:List Addr}{H i j:Hp}(a:aC g H d i)(b:aC d i e j):aC g H e j:=⟨a.pre.trans b.pre,λc f h=>b.tup c f (a.tup c f h),λc f h=>b.xd c f (a.xd c f h)⟩
theorem lg{c b:List Addr}{n:Nat}{a:Addr}(h:c<+:b)(e:c[n]?=some a):b[n]?=some a:=by
 obtain⟨t,rfl⟩:=h;rw[Ix (HY.mp e).1];exact e
section
variable{ρ ρ':List Addr}{H H':Hp}
mutual
theorem RV.mono(e:aC ρ H ρ' H'):∀{x:PV}{v:V},RV ρ H x v->RV ρ' H' x v
 | _,_,.non=>.non
 | _,_,.bl b=>.bl b
 | _,_,.int i=>.int i
 | _,_,.str x=>.str x
 | _,_,.tup h r=>.tup (e.tup _ _ h) (aQ.mono e r)
 | _,_,.ref h=>.ref (lg e.pre h)
theorem aQ.mono(e:aC ρ H ρ' H'):∀{l:List PV}{vs:List V},aQ ρ H l vs->aQ ρ' H' l vs
 | _,_,.nil=>.nil
 | _,_,.cons h r=>.cons (RV.mono e h) (aQ.mono e r)
end
theorem aQ.length:∀{l:List PV}{vs:List V},aQ a H l vs->l.length=vs.length
 | _,_,.nil=>rfl
 | _,_,.cons _ r=>by simp[aQ.length r]
theorem aQ.get:∀{l:List PV}{vs:List V}{i:Nat}{x:PV},aQ a H l vs->l[i]?=some x->∃v,vs[i]?=some v/\RV a H x v
 | _,_,_,_,.nil,e=>by simp at e
 | _,_,0,_,.cons h _,e=>by simp at e;subst e;exact⟨_,rfl,h⟩
 | _,_,i+1,_,.cons _ r,e=>by
   obtain⟨v,b,c⟩:=aQ.get (i:=i) r (by simpa using e);exact⟨v,by simpa using b,c⟩
theorem aQ.get':∀{l:List PV}{vs:List V}{i:Nat}{v:V},aQ a H l vs->vs[i]?=some v->∃x,l[i]?=some x/\RV a H x v
 | _,_,_,_,.nil,e=>by simp at e
 | _,_,0,_,.cons h _,e=>by simp at e;subst e;exact⟨_,rfl,h⟩
 | _,_,i+1,_,.cons _ r,e=>by
   obtain⟨x,b,c⟩:=aQ.get' (i:=i) r (by simpa using e);exact⟨x,by simpa using b,c⟩
theorem aQ.append:∀{l m:List PV}{vs ws:List V},aQ a H l vs->aQ a H m ws->aQ a H (l++m) (vs++ws)
 | _,_,_,_,.nil,s=>s
 | _,_,_,_,.cons h r,s=>.cons h (aQ.append r s)
theorem aQ.take:∀{l:List PV}{vs:List V}(n:Nat),aQ a H l vs->aQ a H (l.take n) (vs.take n)
 | _,_,0,_=>by simpa using .nil
 | _,_,_+1,.nil=>.nil
 | _,_,n+1,.cons h r=>.cons h (aQ.take n r)
theorem aQ.drop:∀{l:List PV}{vs:List V}(n:Nat),aQ a H l vs->aQ a H (l.drop n) (vs.drop n)
 | _,_,0,r=>r
 | _,_,_+1,.nil=>.nil
 | _,_,n+1,.cons _ r=>aQ.drop n r
theorem aQ.ints(ns:List Int):aQ a H (ns.map .int) (ns.map .int):=by
 induction ns with
 | nil=>exact .nil
 | cons i r ih=>exact .cons (.int i) ih
end
def Fz(K:HE)(H:Hp)(a:Addr)(xs:List V):Prop:=
 (∃o,H a=some (.frz o (.lst xs)))\/∃(o:Obj)(b:Array HD)(n:Nat),K.lookup a=some o/\o.cls=.type "list"/\o.dict=none/\o.data=.seq b n/\b.size<=sizeLine/\aE xs b.toList
theorem Fz.sq{K:HE}{H:Hp}{a:Addr}{xs:List V}(h:Fz K H a xs):bv K H a xs:=by
 rcases h with⟨o,h⟩ | h
 ·exact .inl (.inr ⟨o,h⟩)
 ·exact .inr h
noncomputable def X6:PO->Bool
 | .ro _=>false
 | _=>true
structure Pairs{κ κ':Type}(f:κ->κ')(ρ:List Addr)(H:Hp)(kvs:List (κ×PV))(kv:List (κ'×V)):Prop where
 keys:kv.map (·.1)=kvs.map λp=>f p.1
 vals:aQ ρ H (kvs.map (·.2)) (kv.map (·.2))
theorem Pairs.mono{c a:Type}{f:c->a}{d b:List Addr}{H H':Hp}{kvs:List (c×PV)}{kv:List (a×V)}(h:Pairs f d H kvs kv)(e:aC d H b H'):Pairs f b H' kvs kv:=⟨h.keys,h.vals.mono e⟩
section
variable(K:HE)(cm:Nat->Addr)
noncomputable def RO(f:List Addr)(H:Hp)(a:Addr):PO->Prop
 | .lst l=>∃g,H a=some (.lst g)/\aQ f H l g
 | .ro l=>∃g,Fz K H a g/\aQ f H l g
 | .dI e=>∃b,H a=some (.dK b)/\Pairs (Jq:Int->Key) f H e b
 | .ins c fs=>(c<7/\∀p∈fs,p.1<19)/\∃i b,H a=some (.ins (cm c) i b)/\Pairs cs f H fs b
 | .dT e=>∃b,H a=some (.dT b)/\Pairs (Nz Jq:List Int->List Key) f H e b
 | .exc c v=>∃o d h,H a=some (.frz o (.own a))/\o.cls=.ref (cm c)/\o.dict=some d/\(∃vs:Array HD,o.data=.fields vs/\vs[2]?=some .none)/\H d=some (.xd [("at",h)])/\RV f H v h
structure aV(ρ:List Addr)(A:PHp)(H:Hp):Prop where
 len:ρ.length=A.length
 obj:∀(n:Nat)(o:PO)(a:Addr),A[n]?=some o->ρ[n]?=some a->RO K cm ρ H a o
 inj:∀(m n:Nat)(a:Addr)(o p:PO),ρ[m]?=some a->ρ[n]?=some a->A[m]?=some o->A[n]?=some p->X6 o=true->X6 p=true->m=n
end
section
variable{K:HE}{cm:Nat->Addr}{ρ ρ':List Addr}{H H':Hp}{A:PHp}{a p:Addr}{o:PO}{n:Nat}
theorem RO.keep(r:RO K cm ρ H a o)(e:aC ρ H ρ' H')(b:∀u,H a=some u->H' a=some u):RO K cm ρ' H' a o:=by
 cases o with
 | lst l=>obtain⟨g,h,q⟩:=r;exact⟨g,b _ h,q.mono e⟩
 | ro l=>
   obtain⟨g,h,q⟩:=r;rcases h with⟨u,h⟩ | h
   ·exact⟨g,.inl ⟨u,b _ h⟩,q.mono e⟩
   ·exact⟨g,.inr h,q.mono e⟩
 | dI i=>obtain⟨f,h,q⟩:=r;exact⟨f,b _ h,q.mono e⟩
 | ins c fs=>obtain⟨j,m,f,h,q⟩:=r;exact⟨j,m,f,b _ h,q.mono e⟩
 | dT i=>obtain⟨f,h,q⟩:=r;exact⟨f,b _ h,q.mono e⟩
 | exc c v=>obtain⟨o,d,s,h,w,x,y,z,q⟩:=r;exact⟨o,d,s,b _ h,w,x,y,e.xd _ _ z,q.mono e⟩
theorem RO.some(r:RO K cm ρ H a o)(m:X6 o=true):∃u,H a=some u:=by
 cases o with
 | lst l=>obtain⟨f,h,q⟩:=r;exact⟨_,h⟩
 | ro l=>simp[X6]at m
 | dI b=>obtain⟨e,h,q⟩:=r;exact⟨_,h⟩
 | ins c fs=>obtain⟨_,g,e,h,q⟩:=r;exact⟨_,h⟩
 | dT b=>obtain⟨e,h,q⟩:=r;exact⟨_,h⟩
 | exc c v=>obtain⟨o,d,i,h,q⟩:=r;exact⟨_,h⟩
theorem S8{u:HO}(c:H p=none):∀b v,H b=some v->aF H p u b=some v:=λb v h=>by
 rw[D3 (I9 h c)];exact h
theorem aC.same{u:HO}(b:H p=none):aC ρ H ρ (aF H p u):=⟨Iy _,λa c h=>S8 b a _ h,λa c h=>S8 b a _ h⟩
theorem aC.new{u:HO}(b:H p=none):aC ρ H (ρ++[p]) (aF H p u):=⟨HN _ _,λa c h=>S8 b a _ h,λa c h=>S8 b a _ h⟩
theorem aV.grow(r:aV K cm ρ A H)(e:aC ρ H ρ H')(c:∀b v,H b=some v->H' b=some v):aV K cm ρ A H':=
 ⟨r.len,λn o a d f=>(r.obj n o a d f).keep e (c a),r.inj⟩
theorem aV.tup{vs:List V}(r:aV K cm ρ A H)(b:H p=none):aV K cm ρ A (aF H p (.tup vs)):=r.grow (aC.same b) (S8 b)
theorem aV.alloc{u:HO}(r:aV K cm ρ A H)(C:H p=none)(D:RO K cm (ρ++[p]) (aF H p u) p o)(Q:X6 o=true):aV K cm (ρ++[p]) (A++[o]) (aF H p u):=by
 have e:aC ρ H (ρ++[p]) (aF H p u):=aC.new C;have b:∀(n:Nat)(q:PO),ρ[n]?=some p->A[n]?=some q->X6 q=true->False:=λn q d c O=>by
  obtain⟨v,J⟩:=(r.obj n q p c d).some O;rw[C]at J;cases J
 have split:∀{E:Type}{l:List E}{x y:E}{n:Nat},(l++[x])[n]?=some y->l[n]?=some y\/(n=l.length/\y=x):=λ{E l x y n} h=>by
  by_cases D:n<l.length
  ·rw[Ix D]at h;exact .inl h
  ·rw[JV (by omega)]at h;have:n - l.length=0:=by
    by_cases z:n - l.length=0
    ·exact z
    ·rw[IZ (by simp;omega)]at h;cases h
   rw[this]at h;simp at h;exact .inr ⟨by omega,h.symm⟩
 refine⟨by simp[r.len],λn q a d c=>?_,λm n a q B d c s w L N=>?_⟩
 ·rcases split d with d | ⟨rfl,rfl⟩
  ·rcases split c with c | ⟨rfl,rfl⟩
   ·exact(r.obj n q a d c).keep e (S8 C a)
   ·rw[r.len,IZ (HG _)]at d;cases d
  ·rcases split c with c | ⟨_,rfl⟩
   ·rw[←r.len,IZ (HG _)]at c;cases c
   ·exact D
 ·rcases split d with f | ⟨rfl,G⟩<;>rcases split c with g | ⟨rfl,I⟩
  ·have i:A[m]?=some q:=by
    rcases split s with s | ⟨rfl,_⟩
    ·exact s
    ·rw[←r.len,IZ (HG _)]at f;cases f
   have j:A[n]?=some B:=by
    rcases split w with w | ⟨rfl,_⟩
    ·exact w
    ·rw[←r.len,IZ (HG _)]at g;cases g
   exact r.inj m n a q B f g i j L N
  ·have i:A[m]?=some q:=by
    rcases split s with s | ⟨rfl,_⟩
    ·exact s
    ·rw[←r.len,IZ (HG _)]at f;cases f
   rw[I]at f;exact(b m q f i L).elim
  ·have j:A[n]?=some B:=by
    rcases split w with w | ⟨rfl,_⟩
    ·exact w
    ·rw[←r.len,IZ (HG _)]at g;cases g
   rw[G]at g;exact(b n B g j N).elim
  ·rfl
theorem aC.put{u:HO}(r:aV K cm ρ A H)(s:ρ[n]?=some a)(x:A[n]?=some o)(m:X6 o=true):aC ρ H ρ (aF H a u):=by
 have e:∀b w,H b=some w->((∃g,w=.tup g)\/∃fs,w=.xd fs)->aF H a u b=some w:=λb w h f=>by
  have ne:b≠a:=by
   rintro rfl;have q:=r.obj n o b x s;cases o with
   | lst l=>obtain⟨i,z,_⟩:=q;rw[h]at z;cases z;rcases f with⟨_,y⟩ | ⟨_,y⟩<;>cases y
   | ro l=>simp[X6]at m
   | dI j=>obtain⟨i,z,_⟩:=q;rw[h]at z;cases z;rcases f with⟨_,y⟩ | ⟨_,y⟩<;>cases y
   | ins c fs=>obtain⟨_,B,i,z,_⟩:=q;rw[h]at z;cases z;rcases f with⟨_,y⟩ | ⟨_,y⟩<;>cases y
   | dT j=>obtain⟨i,z,_⟩:=q;rw[h]at z;cases z;rcases f with⟨_,y⟩ | ⟨_,y⟩<;>cases y
   | exc c v=>obtain⟨o,d,C,z,_⟩:=q;rw[h]at z;cases z;rcases f with⟨_,y⟩ | ⟨_,y⟩<;>cases y
  rw[D3 ne];exact h
 exact⟨Iy _,λb g h=>e b _ h (.inl ⟨_,rfl⟩),λb g h=>e b _ h (.inr ⟨_,rfl⟩)⟩
theorem aV.put{u:HO}{E:PO}(r:aV K cm ρ A H)(B:ρ[n]?=some a)(s:A[n]?=some o)(m:X6 o=true)(m':X6 E=true)(Q:RO K cm ρ (aF H a u) a E):aV K cm ρ (A.set n E) (aF H a u):=by
 have e:aC ρ H ρ (aF H a u):=aC.put r B s m;have T:=G1 s;refine⟨by simp[r.len],λk q b h G=>?_,λi j b q U Y Z e3 e4 m1 m2=>?_⟩
 ·by_cases g:k=n
  ·subst g;rw[aM s]at h;cases h;rw[B]at G;cases G;exact Q
  ·rw[D4 g]at h;have J:=r.obj k q b h G;by_cases C:b=a
   ·subst C;cases L:X6 q with
    | true=>exact absurd (r.inj k n b q o G B h s L m) g
    | false=>
      cases q with
      | ro l=>
        obtain⟨D,z,w⟩:=J;rcases z with⟨v,z⟩ | z
        ·obtain⟨v',N⟩:=(r.obj n o b s B).some m;have:=r.obj n o b s B;rw[z]at N;cases N;cases o with
         | lst l=>obtain⟨D,f,_⟩:=this;rw[z]at f;cases f
         | ro l=>simp[X6]at m
         | dI I=>obtain⟨D,f,_⟩:=this;rw[z]at f;cases f
         | ins c fs=>obtain⟨_,dx,D,f,_⟩:=this;rw[z]at f;cases f
         | dT I=>obtain⟨D,f,_⟩:=this;rw[z]at f;cases f
         | exc c v=>obtain⟨o,d,v',f,_⟩:=this;rw[z]at f;cases f
        ·exact⟨D,.inr z,w.mono e⟩
      | _=>simp[X6]at L
   ·exact J.keep e λv hv=>by rw[D3 C];exact hv
 ·have O:∀(k:Nat)(x:PO),(A.set n E)[k]?=some x->X6 x=true->∃y,A[k]?=some y/\X6 y=true:=λk x h hx=>by
   by_cases g:k=n
   ·subst g;exact⟨o,s,m⟩
   ·rw[D4 g]at h;exact⟨x,h,hx⟩
  obtain⟨y,y1,y2⟩:=O i q e3 m1;obtain⟨z,z1,z2⟩:=O j U e4 m2;exact r.inj i j b y z Y Z y1 z1 y2 z2
end
structure bV(ρ:List Addr)(H:Hp)(σp:PSt)(σ:L2.St):Prop where
 len:σ.length=σp.length
 get:∀(i:Nat)(p:PV),σp[i]?=some (some p)->∃v,σ[i]?=some (some v)/\RV ρ H p v
theorem bV.mono{c a:List Addr}{H H':Hp}{b:PSt}{σ:L2.St}(h:bV c H b σ)(e:aC c H a H'):bV a H' b σ:=
 ⟨h.len,λi p d=>let⟨v,f,g⟩:=h.get i p d;⟨v,f,g.mono e⟩⟩
theorem bV.set{d:List Addr}{H:Hp}{a:PSt}{σ:L2.St}(h:bV d H a σ)(i:Nat){x:PV}{v:V}(r:RV d H x v):bV d H (a.set i (some x)) (σ.set i (some v)):=by
 refine⟨by simp[h.len],λj p b=>?_⟩;by_cases c:i=j
 ·subst c;by_cases e:i<a.length
  ·rw[Mt]at b;simp[e]at b;subst b;exact⟨v,by rw[Mt];simp[h.len,e],r⟩
  ·rw[IZ (by simp;omega)]at b;cases b
 ·rw[MO c]at b ⊢;exact h.get j p b
section
variable(K:HE)(cm:Nat->Addr)
noncomputable def aB(d:ED):TE:=λg H Q=>∃(e:List Addr)(A:PHp)(b:PSt)(v:PV)(A':PHp),aV K cm e A H/\bV e H b g/\d b A=.ok v A'/\
 ∀a c f,aC e H a c->aV K cm a A' c->RV a c v f->Q f c
noncomputable def cQ(d:TD):TT:=λg H Q=>∃(e:List Addr)(A:PHp)(a:PSt)(b:Bool)(A':PHp),aV K cm e A H/\bV e H a g/\d a A=.ok b A'/\
 ∀c f,aC e H c f->aV K cm c A' f->Q b f
noncomputable def dQ(d:AD):TA:=λg H Q=>∃(f:List Addr)(A:PHp)(b:PSt)(vs:List PV)(A':PHp),aV K cm f A H/\bV f H b g/\d b A=.ok vs A'/\
 ∀a e c,aC f H a e->aV K cm a A' e->aQ a e vs c->Q c e
noncomputable def iP(g:GD):TG:=λv h H Q=>∃(e:List Addr)(A:PHp)(c:PSt)(x:PV)(a:PSt)(A':PHp),aV K cm e A H/\bV e H c h/\RV e H x v/\g x c A=.ok a A'/\
 ∀b f d,aC e H b f->aV K cm b A' f->bV b f a d->Q d f
noncomputable def ny(g:GDs):TGs:=λh i H Q=>∃(e:List Addr)(A:PHp)(c:PSt)(xs:List PV)(a:PSt)(A':PHp),aV K cm e A H/\bV e H c i/\aQ e H xs h/\g xs c A=.ok a A'/\
 ∀b f d,aC e H b f->aV K cm b A' f->bV b f a d->Q d f
noncomputable def pM(D:gh)(c:List Addr)(H:Hp):Fl->Prop
 | .nx a=>∀b,bV c H a b->D.nx b H
 | .bk a=>∀b,bV c H a b->D.bk b H
 | .ct a=>∀b,bV c H a b->D.ct b H
 | .rt v=>∀d,RV c H v d->D.rt d H
noncomputable def cu(s:SD):TS:=λD e H=>∃(c:List Addr)(A:PHp)(b:PSt)(f:Fl)(A':PHp),aV K cm c A H/\bV c H b e/\s b A=.ok f A'/\
 ∀a d,aC c H a d->aV K cm a A' d->pM D a d f
end
section
variable{X:Cx}{cm:Nat->Addr}
theorem E7{e:Expr}{t t':TE}(h:PE X e t)(k:∀a H Q,t' a H Q->t a H Q):PE X e t':=λb s a H Q I q=>h b s a H Q I (k a H Q q)
theorem kq{e:Expr}{t t':TT}(h:PT X e t)(k:∀a H Q,t' a H Q->t a H Q):PT X e t':=λb s a H Q I q=>h b s a H Q I (k a H Q q)
theorem tR{e:Expr}{t t':TT}(h:PW X e t)(k:∀a H Q,t' a H Q->t a H Q):PW X e t':=λw b s a H Q I q=>h w b s a H Q I (k a H Q q)
theorem tS{es:List Expr}{t t':TA}(h:PA X es t)(k:∀a H Q,t' a H Q->t a H Q):PA X es t':=λc b s a H Q I q=>h c b s a H Q I (k a H Q q)
theorem S9{st:Stmt}{t t':TS}(h:PS X st t)(k:∀D a H,t' D a H->t D a H):PS X st t':=λb s a H D I q=>h b s a H D I (k D a H q)
theorem nz{st:List Stmt}{t t':TS}(h:bL X st t)(k:∀D a H,t' D a H->t D a H):bL X st t':=λb s a H D I q=>h b s a H D I (k D a H q)
theorem tT{e:Expr}{t t':TG}(h:PG X e t)(k:∀v a H Q,t' v a H Q->t v a H Q):PG X e t':=λb s a H v u Q I r q=>h b s a H v u Q I r (k v a H Q q)
theorem tU{es:List Expr}{t t':TGs}(h:gR X es t)(k:∀v a H Q,t' v a H Q->t v a H Q):gR X es t':=λb s a H c d Q I r q=>h b s a H c d Q I r (k c a H Q q)
theorem Au{i:Nat}{e:Expr}(h:PE X e (gq i)):PE X e (aB X.K cm (aa i)):=E7 h λo H Q d=>by
 obtain⟨f,A,c,v,g,r,j,a,k⟩:=d;have:∃p,c[i]?=some (some p)/\v=p/\g=A:=by
  unfold aa at a;rcases b:c[i]? with _ | (_ | p)
  ·rw[b]at a;cases a
  ·rw[b]at a;cases a
  ·rw[b]at a;cases a;exact⟨_,rfl,rfl,rfl⟩
 obtain⟨p,l,rfl,rfl⟩:=this;obtain⟨u,m,n⟩:=j.get i _ l;exact⟨u,m,k f H u (aC.refl _ _) r n⟩
theorem kr{e:Expr}{x:PV}{u:V}(h:PE X e (tC u))(b:∀a H,RV a H x u):PE X e (aB X.K cm (eK x)):=E7 h λg H Q c=>by
 obtain⟨a,A,d,v,i,r,j,f,k⟩:=c;cases f;exact k a H u (aC.refl _ _) r (b a H)
theorem aq{i:Int}{j a}:PE X (.Constant (.int i) j a) (aB X.K cm (eK (.int i))):=kr rZ λ_ _=>.int i
theorem eY{b:Bool}{j a}:PE X (.Constant (.bool b) j a) (aB X.K cm (eK (.bl b))):=kr xK λ_ _=>.bl b
theorem Av{j a}:PE X (.Constant .none j a) (aB X.K cm (eK .non)):=kr xL λ_ _=>.non
def V7(K:HE)(cm:Nat->Addr)(f:OD)(r:R2):Prop:=∀b A H x y z d e g (Q:VK),aV K cm b A H->RV b H x e->RV b H y g->f x y A=.ok z d->
 (∀a c h,aC b H a c->aV K cm a d c->RV a c z h->Q h c)->r e g H Q
theorem nA{f:OD}{r:R2}{a b:ED}(B:V7 X.K cm f r){σ:L2.St}{H:Hp}{Q:VK}(h:aB X.K cm (ao f a b) σ H Q):kN r (aB X.K cm a) (aB X.K cm b) σ H Q:=by
 obtain⟨C,A,c,z,D,E,q,d,k⟩:=h;obtain⟨x,s,G,d⟩:=B0 d;obtain⟨y,u,I,d⟩:=B0 d;exact⟨C,A,c,x,s,E,q,G,λe Y J v g i=>⟨e,s,c,y,u,g,q.mono v,I,λj L N w l m=>B j u L x y z D J N Q l (i.mono w) m d λn O T U o p=>k n O T ((v.trans w).trans U) o p⟩⟩
theorem aI{d:Operator}{f:OD}{r:R2}{a b:Expr}{e g:ED}{c:Pos}(i:bY X (binaryOp d) r)(j:V7 X.K cm f r)(l:PE X a (aB X.K cm e))(m:PE X b (aB X.K cm g)):PE X (.BinOp a d b c) (aB X.K cm (ao f e g)):=
 E7 (yF i l m) λn H Q h=>nA j h
theorem R6{c:Qj}{f:OD}{r:R2}{a b:Expr}{e g:ED}{d:Pos}(i:bY X (compareOp c) r)(j:V7 X.K cm f r)(l:PE X a (aB X.K cm e))(m:PE X b (aB X.K cm g))(n:behindInMarks c b=false):PE X (.Compare a [c] [b] d) (aB X.K cm (ao f e g)):=
 E7 (yL i l m n) λo H Q h=>nA j h
theorem lh{d:ED}{t:TE}(h:∀σ H Q,aB X.K cm d σ H Q->t σ H Q){σ:L2.St}{H:Hp}{Q:Bool->Hp->Prop}(q:cQ X.K cm (E6 d) σ H Q):sB t σ H Q:=by
 obtain⟨j,A,e,b,s,l,m,a,k⟩:=q;obtain⟨x,n,o,a⟩:=B0 a;refine h σ H _ ⟨j,A,e,x,n,l,m,o,λf p u r g i=>?_⟩;cases x with
 | bl c=>
   cases a;cases i;exact⟨_,rfl,k f p r g⟩
 | _=>cases a
theorem E8{c:Qj}{f:OD}{r:R2}{a b:Expr}{e g:ED}{d:Pos}(i:bY X (compareOp c) r)(j:V7 X.K cm f r)(l:PE X a (aB X.K cm e))(m:PE X b (aB X.K cm g))(n:behindInMarks c b=false):PT X (.Compare a [c] [b] d) (cQ X.K cm (E6 (ao f e g))):=
 kq (yM i l m n) λo H Q h=>lh (λ_ _ _=>nA j) h
theorem J5{e:Expr}{d:ED}(h:PE X e (aB X.K cm d))(he:∀whole,isTrue e X.env whole=(do let v ←whole;standAt e.pos;holding [v] (truthy v)):=by intro _;rfl):PT X e (cQ X.K cm (E6 d)):=
 kq (xO h he) λa H Q q=>lh (λ_ _ _ z=>z) q
theorem pN{f:OD}{g:Int->Int->PV}{g':Int->Int->V}{C:Int->Int->Prop}(h:∀x y A z a,f x y A=.ok z a->∃i j,x=.int i/\y=.int j/\C i j/\z=g i j/\a=A)(c:∀b H i j,RV b H (g i j) (g' i j))(K:HE)(cm:Nat->Addr):V7 K cm f (rI C g'):=
 λb A H x y z a o p Q d e l m k=>by
  obtain⟨i,j,rfl,rfl,n,rfl,rfl⟩:=h _ _ _ _ _ m;cases e;cases l;exact⟨i,j,rfl,rfl,n,k b H _ (aC.refl _ _) d (c _ _ _ _)⟩
theorem li{f:OD}{g:Int->Int->PV}{g':Int->Int->V}(h:∀x y A z a,f x y A=.ok z a->∃i j,x=.int i/\y=.int j/\z=g i j/\a=A)(c:∀b H i j,RV b H (g i j) (g' i j))(K:HE)(cm:Nat->Addr):V7 K cm f (fx g'):=
 λb A H x y z a n o Q d e l m k=>by
  obtain⟨i,j,rfl,rfl,rfl,rfl⟩:=h _ _ _ _ _ m;cases e;cases l;exact⟨i,j,rfl,rfl,k b H _ (aC.refl _ _) d (c _ _ _ _)⟩
theorem Aw:V7 X.K cm pa (fx λi j=>.int (i - j)):=li (g:=λi j=>.int (i - j)) (λx y A z a h=>by cases x<;>cases y<;>first | (cases h;exact⟨_,_,rfl,rfl,rfl,rfl⟩) | cases h) (λ_ _ _ _=>.int _) _ _
theorem iQ:V7 X.K cm gS (fx λi j=>.bl (decide (i<j))):=li (g:=λi j=>.bl (decide (i<j))) (λx y A z a h=>by cases x<;>cases y<;>first | (cases h;exact⟨_,_,rfl,rfl,rfl,rfl⟩) | cases h) (λ_ _ _ _=>.bl _) _ _
theorem pO:V7 X.K cm ng (fx λi j=>.bl (decide (i<=j))):=li (g:=λi j=>.bl (decide (i<=j))) (λx y A z a h=>by cases x<;>cases y<;>first | (cases h;exact⟨_,_,rfl,rfl,rfl,rfl⟩) | cases h) (λ_ _ _ _=>.bl _) _ _
theorem lj:V7 X.K cm jq (fx λi j=>.bl (decide (j<i))):=li (g:=λi j=>.bl (decide (j<i))) (λx y A z a h=>by cases x<;>cases y<;>first | (cases h;exact⟨_,_,rfl,rfl,rfl,rfl⟩) | cases h) (λ_ _ _ _=>.bl _) _ _
theorem Ax:V7 X.K cm tt (fx λi j=>.bl (decide (j<=i))):=li (g:=λi j=>.bl (decide (j<=i))) (λx y A z a h=>by cases x<;>cases y<;>first | (cases h;exact⟨_,_,rfl,rfl,rfl,rfl⟩) | cases h) (λ_ _ _ _=>.bl _) _ _
theorem bB:V7 X.K cm cY (rI (λ_ j=>0<j) λi j=>.int (i%j)):=pN (g:=λi j=>.int (i%j)) (λx y A z a h=>by
 cases x<;>cases y<;>first | (obtain⟨c,h⟩:=C9 h;cases h;exact⟨_,_,rfl,rfl,c,rfl,rfl⟩) | cases h) (λ_ _ _ _=>.int _) _ _
theorem tV:V7 X.K cm nc (rI sy λi j=>.int (i / j)):=pN (g:=λi j=>.int (i / j)) (λx y A z a h=>by
 cases x<;>cases y<;>first | (obtain⟨c,h⟩:=C9 h;cases h;exact⟨_,_,rfl,rfl,c,rfl,rfl⟩) | cases h) (λ_ _ _ _=>.int _) _ _
theorem nB:V7 X.K cm kh (rI gZ λi j=>.int (i*j)):=pN (g:=λi j=>.int (i*j)) (λx y A z a h=>by
 cases x<;>cases y<;>first | (obtain⟨c,h⟩:=C9 h;cases h;exact⟨_,_,rfl,rfl,c,rfl,rfl⟩) | cases h) (λ_ _ _ _=>.int _) _ _
end
section
variable{K:HE}{ρ:List Addr}{H:Hp}{A:PHp}{n:Nat}{v:V}{l:List PV}
theorem K4{g:Nat->Addr}{A':PHp}(i:aV K g ρ A H)(r:RV ρ H (.ref n) v)(h:E4 n A=.ok l A'):A'=A/\∃a d,v=.ref a/\bv K H a d/\aQ ρ H l d:=by
 cases r with
 | ref j=>
   unfold E4 at h;rcases b:A[n]? with _ | o
   ·rw[b]at h;cases h
   ·have q:=i.obj n o _ b j;cases o with
    | lst m=>rw[b]at h;cases h;obtain⟨d,e,f⟩:=q;exact⟨rfl,_,d,rfl,bv.of e,f⟩
    | ro m=>rw[b]at h;cases h;obtain⟨d,e,f⟩:=q;exact⟨rfl,_,d,rfl,e.sq,f⟩
    | dI m=>rw[b]at h;cases h
    | ins c m=>rw[b]at h;cases h
    | dT m=>rw[b]at h;cases h
    | exc c m=>rw[b]at h;cases h
theorem N7{f:Nat->Addr}{A':PHp}(g:aV K f ρ A H)(r:RV ρ H (.ref n) v)(h:S7 n A=.ok l A'):A'=A/\A[n]?=some (.lst l)/\∃a d,v=.ref a/\ρ[n]?=some a/\H a=some (.lst d)/\aQ ρ H l d:=by
 cases r with
 | ref e=>
   unfold S7 at h;rcases b:A[n]? with _ | o
   ·rw[b]at h;cases h
   ·have q:=g.obj n o _ b e;cases o with
    | lst m=>rw[b]at h;cases h;obtain⟨d,i,j⟩:=q;exact⟨rfl,rfl,_,d,rfl,e,i,j⟩
    | ro m=>rw[b]at h;cases h
    | dI m=>rw[b]at h;cases h
    | ins c m=>rw[b]at h;cases h
    | dT m=>rw[b]at h;cases h
    | exc c m=>rw[b]at h;cases h
theorem lm{b:Nat->Addr}{c:Nat}{fs:List (Nat×PV)}{a:Addr}(d:aV K b ρ A H)(e:A[n]?=some (.ins c fs))(f:ρ[n]?=some a):c<7:=(d.obj n _ _ e f).1.1
theorem nC{f:Nat->Addr}{A':PHp}{o:Nat×List (Nat×PV)}(i:aV K f ρ A H)(r:RV ρ H (.ref n) v)(h:V3 n A=.ok o A'):A'=A/\A[n]?=some (.ins o.1 o.2)/\∃a e d,v=.ref a/\ρ[n]?=some a/\H a=some (.ins (f o.1) e d)/\Pairs cs ρ H o.2 d/\∀p∈o.2,p.1<19:=by
 cases r with
 | ref g=>
   unfold V3 at h;rcases b:A[n]? with _ | o
   ·rw[b]at h;cases h
   ·have q:=i.obj n o _ b g;cases o with
    | lst m=>rw[b]at h;cases h
    | ro m=>rw[b]at h;cases h
    | dI m=>rw[b]at h;cases h
    | ins c m=>rw[b]at h;cases h;obtain⟨j,e,d,s,u⟩:=q;exact⟨rfl,rfl,_,e,d,rfl,g,s,u,j.2⟩
    | dT m=>rw[b]at h;cases h
    | exc c m=>rw[b]at h;cases h
theorem n8{f:Nat->Addr}{x:PV}{A':PHp}(g:aV K f ρ A H)(r:RV ρ H x v)(h:N6 x A=.ok l A'):A'=A/\∃a b,v=.ref a/\(bv K H a b\/cD K H a b)/\aQ ρ H l b:=by
 cases x with
 | ref n=>
   obtain⟨e,a,b,c,d,i⟩:=K4 g r h;exact⟨e,a,b,c,.inl d,i⟩
 | tup m=>
   cases h;cases r with
   | tup c d=>exact⟨rfl,_,_,rfl,.inr (cD.of c),d⟩
 | _=>cases h
theorem Ay{a:Type}(xs:List a)(i:Int):L2.atI xs i=atI xs i:=rfl
theorem aQ.at{xs:List V}{i:Int}{x:PV}(r:aQ ρ H l xs)(h:atI l i=some x):∃u,L2.atI xs i=some u/\RV ρ H x u:=by
 rw[Ay];unfold atI at h ⊢;rw[←r.length];rcases e:ixN l.length i with _ | j
 ·rw[e]at h;cases h
 ·rw[e]at h;obtain⟨u,a,b⟩:=r.get (i:=j) h;exact⟨u,a,b⟩
theorem nE(n d:Nat)(o:Option Int):HT.sIx n d o=c7 n d o:=by
 cases o with
 | none=>rfl
 | some v=>
   have e:=HT.dN v n d;show HT.sIx n d (some v)=if v<0 then(max (v+n) 0).toNat else(min v n).toNat;by_cases h:v<0
   ·rw[if_pos h]at e ⊢;omega
   ·rw[if_neg h]at e ⊢;omega
theorem aQ.slc{xs:List V}(r:aQ ρ H l xs)(lo a:Option Int):aQ ρ H (eP l lo a) (hJ xs lo a):=by
 unfold eP hJ;rw[nE,nE,←r.length];exact(r.drop _).take _
end
theorem X7{n:Nat}(h:n<=LIM):n<=sizeLine:=Ih h (by unfold LIM;rw[JH];decide)
theorem ks{n:Nat}(h:n<LIM):n<sizeLine:=Ig h (by unfold LIM;rw[JH];decide)
section
variable{X:Cx}{cm:Nat->Addr}
noncomputable def tW(K:HE):R2:=λx y H Q=>(∃i j,x=.int i/\y=.int j/\Q (.int (i+j)) H)\/(sP K x y H Q\/rCat x y H Q)
theorem aJ:bY X (binaryOp .Add) (tW X.K):=op_add.or (op_catT.or zR)
theorem aS:V7 X.K cm bp (tW X.K):=λo A H x y z N O T Q f r s d k=>by
 cases x with
 | int i=>
   cases y with
   | int j=>cases d;cases r;cases s;exact .inl ⟨i,j,rfl,rfl,k o H _ (aC.refl _ _) f (.int _)⟩
   | _=>cases d
 | tup l=>
   cases y with
   | tup m=>
     obtain⟨c,d⟩:=C9 d;cases d;cases r with
     | tup B g=>
       cases s with
       | tup E q=>
         refine .inr (.inl ⟨_,_,_,_,rfl,rfl,cD.of B,cD.of E,?_,?_,?_⟩)
         ·intro e;subst e;have:=g.length;exact c.1 (List.length_eq_zero_iff.mp (by simpa using this))
         ·rw[←g.length,←q.length];exact X7 c.2
         ·refine⟨λz=>?_,λ_ p h=>?_⟩
          ·subst z;cases q;refine k o H _ (aC.refl _ _) f ?_;rw[IA];exact .tup B g
          ·refine k o _ _ (aC.same h) (f.tup h) (.tup C8 ?_);exact(g.mono (aC.same h)).append (q.mono (aC.same h))
   | _=>cases d
 | ref n=>
   cases y with
   | ref m=>
     obtain⟨U,Y,G,u⟩:=B0 d;obtain⟨rfl,_,a,C,rfl,_,I,g⟩:=N7 f r G;obtain⟨l2,Z,J,v⟩:=B0 u;obtain⟨rfl,_,b,D,rfl,_,L,q⟩:=N7 f s J;obtain⟨c,w⟩:=C9 v;cases w;refine .inr (.inr ⟨a,b,C,D,rfl,rfl,I,L,?_,λp h=>?_⟩)
     ·rw[←g.length,←q.length];exact X7 c
     ·have e:aC o H (o++[p]) (aF H p (.lst (C++D))):=aC.new h;exact k (o++[p]) _ _ e (f.alloc h ⟨_,C8,(g.mono e).append (q.mono e)⟩ rfl) (.ref (by rw[←f.len];simp))
   | _=>cases d
 | _=>cases y<;>cases d
noncomputable def tX(K:HE):R2:=λx y H Q=>sT K x y H Q\/sU K x y H Q
theorem Az:iM X (tX X.K):=ix_list.or zF
theorem AA:V7 X.K cm bx (tX X.K):=λg A H x y z r s v Q e n o h k=>by
 cases y with
 | int i=>
   obtain⟨l,B,p,b⟩:=B0 h;obtain⟨rfl,a,j,rfl,c,q⟩:=n8 e n p;rcases f:atI l i with _ | u
   ·rw[f]at b;cases b
   ·rw[f]at b;cases b;cases o;obtain⟨w,m,d⟩:=q.at f;rcases c with c | c
    ·exact .inl ⟨a,j,i,w,rfl,rfl,c,m,k g H w (aC.refl _ _) e d⟩
    ·exact .inr ⟨a,j,i,w,rfl,rfl,c,m,k g H w (aC.refl _ _) e d⟩
 | _=>cases h
theorem P1{a b:Expr}{d e:ED}{c:Pos}(f:PE X a (aB X.K cm d))(g:PE X b (aB X.K cm e))(hs:sR b):PE X (.Subscript a b c) (aB X.K cm (ao bx d e)):=
 E7 (zE Az f g hs) λi H Q h=>nA AA h
theorem pP{a:List Addr}{H:Hp}{x:PV}{v:V}(r:RV a H x v):decide (v=.non)=kR x:=by
 cases r<;>simp[kR]
theorem AB{a:Expr}{i:ED}{j:Nat}{c b:Pos}(l:PE X a (aB X.K cm i)):PE X (.Compare a [.Is] [.Constant .none j b] c) (aB X.K cm (ki i)):=
 E7 (si (sh l)) λw H Q m=>by
  obtain⟨n,A,d,v,o,p,q,e,k⟩:=m;obtain⟨x,y,r,e⟩:=B0 e;cases e;exact⟨n,A,d,x,o,p,q,r,λf s z u g h=>k f s _ u g (by rw[pP h];exact .bl _)⟩
theorem tY{a:Expr}{c:ED}{j:Nat}{d b:Pos}(l:PE X a (aB X.K cm c)):PT X (.Compare a [.Is] [.Constant .none j b] d) (cQ X.K cm (E6 (ki c))):=
 kq (oF (sh l)) λσ H Q q=>lh (t:=sf (aB X.K cm c)) (λσ H Q m=>by
  obtain⟨n,A,e,v,A',o,p,f,k⟩:=m;obtain⟨x,w,r,f⟩:=B0 f;cases f;exact⟨n,A,e,x,A',o,p,r,λg s y u h i=>k g s _ u h (by rw[pP i];exact .bl _)⟩) q
theorem AC{a:Expr}{c:ED}{j:Nat}{d b:Pos}(l:PE X a (aB X.K cm c)):PT X (.Compare a [.IsNot] [.Constant .none j b] d) (cQ X.K cm (E6 (tu c))):=
 kq (oF (xN l)) λσ H Q q=>lh (t:=sg (aB X.K cm c)) (λσ H Q m=>by
  obtain⟨n,A,e,v,A',o,p,f,k⟩:=m;obtain⟨x,w,r,f⟩:=B0 f;cases f;exact⟨n,A,e,x,A',o,p,r,λg s y u h i=>k g s _ u h (by rw[pP i];exact .bl _)⟩) q
theorem AE{f g:OD}{r L:R2}{a b c:ED}(hf:V7 X.K cm f r)(hg:V7 X.K cm g L){σ:L2.St}{H:Hp}{Q:VK}(h:aB X.K cm (ni f g a b c) σ H Q):sC r L (aB X.K cm a) (aB X.K cm b) (aB X.K cm c) σ H Q:=by
 obtain⟨ρ,A,e,z,A',rl,o,d,k⟩:=h;obtain⟨x,N,e1,d⟩:=B0 d;obtain⟨y,O,e2,d⟩:=B0 d;obtain⟨m,T,e3,d⟩:=B0 d;refine⟨ρ,A,e,x,N,rl,o,e1,λp H1 vx U q s=>⟨p,N,e,y,O,q,o.mono U,e2,λv H2 Y Z w j=>hf v O H2 x y m T vx Y _ w (s.mono Z) j e3 λl H3 v3 x3 n B=>?_⟩⟩;have i:=(U.trans Z).trans x3;cases m with
 | bl t=>
   cases B;refine⟨t,rfl,?_⟩;cases t with
   | true=>
     rw[if_pos rfl];obtain⟨u,A4,e4,d⟩:=B0 d;exact⟨l,T,e,u,A4,n,o.mono i,e4,λC H4 v4 x4 D E=>hg C A4 H4 y u z A' Y v4 Q D ((j.mono x3).mono x4) E d λG H5 v5 x5 I J=>k G H5 v5 ((i.trans x4).trans x5) I J⟩
   | false=>
     rw[if_neg (by simp)];cases d;exact k l H3 _ i n (.bl false)
 | _=>cases d
theorem tZ{e d:Qj}{f g:OD}{r l:R2}{a b c:Expr}{m n o:ED}{i:Pos}(p:bY X (compareOp e) r)(q:V7 X.K cm f r)(j:bY X (compareOp d) l)(s:V7 X.K cm g l)
 (u:PE X a (aB X.K cm m)) (v:PE X b (aB X.K cm n)) (w:PE X c (aB X.K cm o)) (x:lastMarks [e,d] [b,c]=false:=by with_unfolding_all rfl):PE X (.Compare a [e,d] [b,c] i) (aB X.K cm (ni f g m n o)):=
 E7 (yN p j u v w x) λy H Q h=>AE q s h
theorem P2{a:Expr}{t:TD}{d:Pos}(h:PT X a (cQ X.K cm t)):PT X (.UnaryOp .Not a d) (cQ X.K cm (tNot t)):=kq (xT h) λs H Q j=>by
 obtain⟨l,A,e,b,m,n,o,f,k⟩:=j;obtain⟨c,u,p,f⟩:=B0 f;cases f;exact⟨l,A,e,c,m,n,o,p,λg q r i=>k g q r i⟩
theorem u5{a:Expr}{t:TD}{b:Pos}(h:PT X a (cQ X.K cm t)):PW X (.BoolOp .And [a] b) (cQ X.K cm t):=xP h
theorem i4{a:Expr}{t:TD}{b:Pos}(h:PT X a (cQ X.K cm t)):PW X (.BoolOp .Or [a] b) (cQ X.K cm t):=xQ h
theorem kt{a b:Expr}{rest:List Expr}{t u:TD}{e:Pos}(o:PT X a (cQ X.K cm t))(p:PW X (.BoolOp .And (b::rest) e) (cQ X.K cm u)):PW X (.BoolOp .And (a::b::rest) e) (cQ X.K cm (tAnd t u)):=
 tR (xR o p) λC H Q q=>by
  obtain⟨r,A,f,z,s,v,m,d,k⟩:=q;obtain⟨c,n,w,d⟩:=B0 d;refine⟨r,A,f,c,n,v,m,w,λg x i h=>?_⟩;cases c with
  | true=>rw[if_pos rfl]at d ⊢;exact⟨g,n,f,z,s,h,m.mono i,d,λj y B l=>k j y (i.trans B) l⟩
  | false=>rw[if_neg (by simp)]at d ⊢;cases d;exact k g x i h
theorem w5{a b:Expr}{rest:List Expr}{t u:TD}{e:Pos}(o:PT X a (cQ X.K cm t))(p:PW X (.BoolOp .Or (b::rest) e) (cQ X.K cm u)):PW X (.BoolOp .Or (a::b::rest) e) (cQ X.K cm (tOr t u)):=
 tR (xS o p) λC H Q q=>by
  obtain⟨r,A,f,z,s,v,m,d,k⟩:=q;obtain⟨c,n,w,d⟩:=B0 d;refine⟨r,A,f,c,n,v,m,w,λg x i h=>?_⟩;cases c with
  | true=>rw[if_pos rfl]at d ⊢;cases d;exact k g x i h
  | false=>rw[if_neg (by simp)]at d ⊢;exact⟨g,n,f,z,s,h,m.mono i,d,λj y B l=>k j y (i.trans B) l⟩
theorem pQ{x:PV}{A A':PHp}{c:Bool}(h:kS x A=.ok c A'):x=.bl c/\A'=A:=by
 cases x with
 | bl b=>cases h;exact⟨rfl,rfl⟩
 | _=>cases h
theorem T8{a:Expr}{d:ED}{b:Pos}(h:PE X a (aB X.K cm d)):PE X (.BoolOp .And [a] b) (aB X.K cm d):=sj h
theorem AF{a:Expr}{d:ED}{b:Pos}(h:PE X a (aB X.K cm d)):PE X (.BoolOp .Or [a] b) (aB X.K cm d):=sj h
theorem X8{a b:Expr}{rest:List Expr}{d u:ED}{f:Pos}(q:PE X a (aB X.K cm d))(r:PE X (.BoolOp .And (b::rest) f) (aB X.K cm u)):PE X (.BoolOp .And (a::b::rest) f) (aB X.K cm (m7 d u)):=
 E7 (xX q r) λI H Q s=>by
  obtain⟨v,A,g,z,w,y,p,e,k⟩:=s;obtain⟨c,J,j,e⟩:=B0 e;obtain⟨x,L,B,j⟩:=B0 j;obtain⟨rfl,rfl⟩:=pQ j;refine⟨v,A,g,_,_,y,p,B,λh C N l i m=>?_⟩;cases m;refine⟨c,rfl,?_⟩;cases c with
  | true=>rw[if_pos rfl]at e ⊢;exact⟨h,_,g,z,w,i,p.mono l,e,λn D E G o=>k n D E (l.trans G) o⟩
  | false=>rw[if_neg (by simp)]at e ⊢;cases e;exact k h C _ l i (.bl false)
theorem AG{a b:Expr}{rest:List Expr}{d u:ED}{f:Pos}(q:PE X a (aB X.K cm d))(r:PE X (.BoolOp .Or (b::rest) f) (aB X.K cm u)):PE X (.BoolOp .Or (a::b::rest) f) (aB X.K cm (pd d u)):=
 E7 (xY q r) λI H Q s=>by
  obtain⟨v,A,g,z,w,y,p,e,k⟩:=s;obtain⟨c,J,j,e⟩:=B0 e;obtain⟨x,L,B,j⟩:=B0 j;obtain⟨rfl,rfl⟩:=pQ j;refine⟨v,A,g,_,_,y,p,B,λh C N l i m=>?_⟩;cases m;refine⟨c,rfl,?_⟩;cases c with
  | true=>rw[if_pos rfl]at e ⊢;cases e;exact k h C _ l i (.bl true)
  | false=>rw[if_neg (by simp)]at e ⊢;exact⟨h,_,g,z,w,i,p.mono l,e,λn D E G o=>k n D E (l.trans G) o⟩
theorem ua{a:Expr}{d:ED}{b:Pos}(l:PE X a (aB X.K cm d)):PE X (.UnaryOp .Not a b) (aB X.K cm (pe d)):=
 E7 (xZ l) λu H Q m=>by
  obtain⟨n,A,e,z,v,o,p,f,k⟩:=m;obtain⟨c,w,g,f⟩:=B0 f;obtain⟨x,y,q,g⟩:=B0 g;obtain⟨rfl,rfl⟩:=pQ g;cases f;refine⟨n,A,e,_,_,o,p,q,λh r B s i j=>?_⟩;cases j;exact⟨c,rfl,k h r _ s i (.bl _)⟩
theorem pR{c a b:Expr}{t:TD}{d u:ED}{m:Pos}(v:PT X c (cQ X.K cm t))(w:PE X a (aB X.K cm d))(x:PE X b (aB X.K cm u)):PE X (.IfExp c a b m) (aB X.K cm (kT t d u)):=
 E7 (yb v w x) λE H Q y=>by
  obtain⟨B,A,e,z,s,C,n,h,k⟩:=y;obtain⟨c,o,D,h⟩:=B0 h;refine⟨B,A,e,c,o,C,n,D,λi G l j=>?_⟩;cases c with
  | true=>rw[if_pos rfl]at h ⊢;exact⟨i,o,e,z,s,j,n.mono l,h,λf p q r g=>k f p q (l.trans r) g⟩
  | false=>rw[if_neg (by simp)]at h ⊢;exact⟨i,o,e,z,s,j,n.mono l,h,λf p q r g=>k f p q (l.trans r) g⟩
theorem am:PA X [] (dQ X.K cm av):=tS oQ λf H Q a=>by
 obtain⟨b,A,c,g,h,d,i,e,k⟩:=a;cases e;exact k b H [] (aC.refl _ _) d .nil
theorem ae{e:Expr}{es:List Expr}{d:ED}{m:AD}(h:PE X e (aB X.K cm d))(r:PA X es (dQ X.K cm m))(hs:starEach (e::es) X.env=(false,eval e X.env)::starEach es X.env:=by exact D8 rfl):PA X (e::es) (dQ X.K cm (ai d m)):=
 tS (kP h r hs) λE H Q s=>by
  obtain⟨u,A,a,G,v,w,n,b,k⟩:=s;obtain⟨x,o,y,b⟩:=B0 b;obtain⟨z,I,B,b⟩:=B0 b;cases b;exact⟨u,A,a,x,o,w,n,y,λc J L p f g=>⟨c,o,a,z,v,f,n.mono p,B,λi C D q j l=>k i C _ (p.trans q) j (.cons (g.mono q) l)⟩⟩
theorem V8{es:List Expr}{m:AD}{f:Nat}{g:Pos}(h:PA X es (dQ X.K cm m)):PE X (.Tuple es f g) (aB X.K cm (c6 m)):=
 E7 (zf h) λz H Q q=>by
  obtain⟨r,A,i,v,s,u,w,b,k⟩:=q;obtain⟨x,B,y,b⟩:=B0 b;obtain⟨c,b⟩:=C9 b;cases b;refine⟨r,A,i,x,s,u,w,y,λa n j f l d=>⟨by rw[←d.length];exact X7 c,λp o=>?_⟩⟩;have e:aC a n a (aF n p (.tup j)):=aC.same o;exact k a _ _ (f.trans e) (l.tup o) (.tup C8 (d.mono e))
theorem bw{es:List Expr}{l:AD}{g:Pos}(h:PA X es (dQ X.K cm l)):PE X (.List es g) (aB X.K cm (l4 l)):=
 E7 (zg h) λz H Q o=>by
  obtain⟨q,A,i,v,B,r,s,b,k⟩:=o;obtain⟨u,w,x,b⟩:=B0 b;obtain⟨c,b⟩:=C9 b;cases b;refine⟨q,A,i,u,w,r,s,x,λa m j y d f=>⟨by rw[←f.length];exact X7 c,λp n=>?_⟩⟩;have e:aC a m (a++[p]) (aF m p (.lst j)):=aC.new n;exact k (a++[p]) _ _ (y.trans e) (d.alloc n ⟨_,C8,f.mono e⟩ rfl) (.ref (by rw[←d.len];simp))
noncomputable def nF(K:HE)(cm:Nat->Addr)(d:LD):L2.TO:=λf H Q=>∃(c:List Addr)(A:PHp)(a:PSt)(v:Option Int)(A':PHp),aV K cm c A H/\bV c H a f/\d a A=.ok v A'/\
 ∀b e,aC c H b e->aV K cm b A' e->Q v e
theorem ub{e:Option Expr}{t t':L2.TO}(h:L2.PO X e t)(k:∀a H Q,t' a H Q->t a H Q):L2.PO X e t':=λb s a H Q I q=>h b s a H Q I (k a H Q q)
theorem eB:L2.PO X none (nF X.K cm jr):=ub zw λf H Q a=>by
 obtain⟨b,A,c,v,g,d,h,e,k⟩:=a;cases e;exact k b H (aC.refl _ _) d
theorem lq{e:Expr}{d:ED}(h:PE X e (aB X.K cm d)):L2.PO X (some e) (nF X.K cm (jt d)):=ub (zx h) λu H Q j=>by
 obtain⟨l,A,b,v,w,m,n,o,k⟩:=j;obtain⟨x,p,q,a⟩:=B0 o;refine⟨l,A,b,x,p,m,n,q,λc r y s f g=>?_⟩;cases x with
 | int i=>cases a;cases g;exact⟨i,rfl,k c r s f⟩
 | _=>cases a
theorem lr{e:Expr}{lo J:Option Expr}{d:ED}{dl L:LD}{p2 s:Pos}(he:PE X e (aB X.K cm d))(Z:L2.PO X lo (nF X.K cm dl))(hu:L2.PO X J (nF X.K cm L)):PE X (.Subscript e (.Slice lo J none p2) s) (aB X.K cm (ju d dl L)):=
 E7 (zA (sl_list.or zC) he Z hu) λσ H Q hq=>by
  obtain⟨ρ,A,g,v,A',rl,u,ev,k⟩:=hq;obtain⟨x,N,e1,w⟩:=B0 ev;obtain⟨l,O,e2,y⟩:=B0 w;obtain⟨h,A3,e3,i⟩:=B0 y;refine⟨ρ,A,g,x,N,rl,u,e1,λz H1 v1 B C D=>⟨z,N,g,l,O,C,u.mono B,e2,λE H2 G I=>⟨E,O,g,h,A3,I,(u.mono B).mono G,e3,λb T U f=>?_⟩⟩⟩;have o:=(B.trans G).trans U;have q:=D.mono (G.trans U);cases x with
  | ref n=>
    obtain⟨xs,A4,e4,j⟩:=B0 i;obtain⟨rfl,a,Y,rfl,hs,r⟩:=K4 f q e4;cases j;refine .inl ⟨a,Y,rfl,hs,λp m=>?_⟩;have e:aC b T (b++[p]) (aF T p (.lst (hJ Y l h))):=aC.new m;exact k (b++[p]) _ _ (o.trans e) (f.alloc m ⟨_,C8,(r.slc l h).mono e⟩ rfl) (.ref (by rw[←f.len];simp))
  | tup xs=>
    obtain⟨c,j⟩:=C9 i;cases j;cases q with
    | tup ha r=>
      refine .inr ⟨_,_,rfl,cD.of ha,by rw[nE,nE,←r.length];exact c,λp m=>?_⟩;exact k b _ _ (o.trans (aC.same m)) (f.tup m) (.tup C8 ((r.slc l h).mono (aC.same m)))
  | _=>cases i
theorem i5{d:ED}{f:PV->M PV}{r:List V->Hp->VK->Prop}{e:ED}(he:∀σ,e σ=ap (d σ) f)
 (y:∀b A H x z g v (Q:VK),aV X.K cm b A H->RV b H x v->f x A=.ok z g->(∀a i s,aC b H a i->aV X.K cm a g i->RV a i z s->Q s i)->r [v] H Q)
 {σ:L2.St} {H:Hp} {Q:VK} (h:aB X.K cm e σ H Q):oV r (dQ X.K cm (ai d av)) σ H Q:=by
 obtain⟨b,A,c,z,g,B,C,u,k⟩:=h;rw[he]at u;obtain⟨x,w,D,j⟩:=B0 u;refine⟨b,A,c,[x],w,B,C,by show ap (d c) _ A=_;rw[aD D];rfl,λl E G I m n=>?_⟩;cases n with
 | cons J L=>
   cases L;exact y l w E x z g _ Q m J j λo N O T p q=>k o N O (I.trans T) p q
theorem bS{e:Expr}{d:ED}{p b:Pos}(he:PE X e (aB X.K cm d))(i:Gl X "len")(j:X.mg "len" = none)(hs:starEach [e] X.env=(false,eval e X.env)::starEach [] X.env:=by exact D8 rfl):PE X (.Call (.Name "len" p) [e] [] b) (aB X.K cm (eV d)):=
 E7 (X1 zK i j PySem.boot_len (ae he am hs) (he:=hs)) λw H Q h=>i5 (f:=λx=>ap (N6 x) λl=>ret (.int l.length)) (λ_=>rfl) (λm A H x z A' v Q g n o k=>by
  obtain⟨l,A1,q,c⟩:=B0 o;obtain⟨rfl,a,s,rfl,u,r⟩:=n8 g n q;cases c;exact⟨a,s,rfl,u,k m H _ (aC.refl _ _) g (by rw[←r.length];exact .int _)⟩) h
theorem n9{e:Expr}{d:ED}{p b:Pos}(he:PE X e (aB X.K cm d))(n:Gl X "list")(o:X.mg "list" = none)(q:bootBuiltins "list" = some (.type "list"))(hs:starEach [e] X.env=(false,eval e X.env)::starEach [] X.env:=by exact D8 rfl):PE X (.Call (.Name "list" p) [e] [] b) (aB X.K cm (g7 d)):=
 E7 (t6 zL n o q (ae he am hs) (he:=hs)) λB H Q h=>i5 (f:=λx=>ap (N6 x) λl=>alloc (.lst l)) (λ_=>rfl) (λc A H x z A' v Q g s u k=>by
  obtain⟨l,A1,w,i⟩:=B0 u;obtain⟨rfl,a,j,rfl,y,r⟩:=n8 g s w;cases i;refine⟨a,j,rfl,y,λp m=>?_⟩;have e:aC c H (c++[p]) (aF H p (.lst j)):=aC.new m;exact k (c++[p]) _ _ e (g.alloc m ⟨_,C8,r.mono e⟩ rfl) (.ref (by rw[←g.len];simp))) h
theorem Pairs.look{f:Nat->Str}{l:List Addr}{H:Hp}(m:∀i j,f i=f j->i<19->j<19->i=j):∀{kvs:List (Nat×PV)}{kv:List (Str×V)}{i:Nat}{x:PV},Pairs f l H kvs kv->(∀p∈kvs,p.1<19)->i<19->b4 i kvs=some x->∃v,kv.lookup (f i)=some v/\RV l H x v
 | [],kv,i,x,h,_,_,e=>by cases e
 | (g,u)::r,kv,i,x,h,n,o,e=>by
   cases kv with
   | nil=>have:=h.keys;simp at this
   | cons p q=>
     have k:=h.keys;simp only[Ic,Lm]at k;have s:=h.vals;simp only[Ic]at s;cases s with
     | cons w y=>
       have A:g<19:=n _ HM;obtain⟨p1,p2⟩:=p;by_cases c:g=i
       ·subst c;simp[b4]at e;subst e;exact⟨p2,by rw[LN];simp[show p1=f g from k.1],w⟩
       ·have d:¬f i=p1:=λz=>c (m g i (by rw[z];exact k.1.symm) A o);simp only[b4,c,if_false]at e;obtain⟨v,a,b⟩:=Pairs.look m (kvs:=r) (kv:=q) ⟨k.2,y⟩ (λp B=>n p (HR _ B)) o e;refine⟨v,?_,b⟩;rw[LN,beq_eq_false_iff_ne.mpr d];exact a
end
theorem uc:∀i j,cs i=cs j->i<19->j<19->i=j:=by
 intro i j h b c;have a:∀i:_root_.Fin 19,∀j:_root_.Fin 19,cs i.1=cs j.1->i=j:=by decide +kernel
 exact congrArg (·.1) (a ⟨i,b⟩ ⟨j,c⟩ h)
section
variable{X:Cx}{cm:Nat->Addr}
theorem AH{o:Expr}{d:ED}{f:Str}{i:Nat}{j:Pos}(he:PE X o (aB X.K cm d))(z:cs i=f)(B:i<19)(C:∀c,c<7->eu X.K (cm c))(D:∀c,c<7->bA X.K (cm c) f)
 (E:attributeBase o f X.env (eval o X.env)=eval o X.env:=by rfl):PE X (.Attribute o f j) (aB X.K cm (J2 d i)):=
 E7 (yY he E) λσ H Q G=>by
  obtain⟨I,A,l,v,A',J,L,N,k⟩:=G;obtain⟨x,O,T,g⟩:=B0 N;refine⟨I,A,l,x,O,J,L,T,λm U v1 Y b p=>?_⟩;cases x with
  | ref n=>
    obtain⟨o,A2,Z,e⟩:=B0 g;obtain⟨rfl,s,a,dx,kv,rfl,h,hH,hp,hs⟩:=nC b p Z;rcases q:b4 i o.2 with _ | u
    ·rw[q]at e;cases e
    ·rw[q]at e;cases e;obtain⟨w,y,r⟩:=hp.look uc hs B q;rw[z]at y;exact⟨a,_,dx,kv,w,rfl,hH,C _ (lm b s h),D _ (lm b s h),y,k m U w Y b r⟩
  | _=>cases g
theorem Pairs.put{c:List Addr}{H:Hp}{i:Nat}{x:PV}{v:V}(j:i<19)(d:RV c H x v):∀{kvs:List (Nat×PV)}{kv:List (Str×V)},Pairs cs c H kvs kv->(∀p∈kvs,p.1<19)->Pairs cs c H (putFld i x kvs) (Z2 (cs i) v kv)
 | [],kv,h,_=>by
   cases kv with
   | nil=>exact⟨rfl,.cons d .nil⟩
   | cons p q=>have:=h.keys;simp at this
 | (g,u)::r,kv,h,l=>by
   cases kv with
   | nil=>have:=h.keys;simp at this
   | cons p q=>
     have k:=h.keys;simp only[Ic,Lm]at k;have m:=h.vals;simp only[Ic]at m;cases m with
     | cons o n=>
       obtain⟨p1,p2⟩:=p;have s:g<19:=l _ HM;have b:p1=cs g:=k.1;by_cases a:g=i
       ·subst a;have e:Z2 (cs g) v ((p1,p2)::q)=(p1,v)::q:=by
         show(if p1=cs g then _ else _)=_;rw[if_pos b]
        rw[e];simp only[putFld,if_true];exact⟨by simp[b,k.2],.cons d n⟩
       ·have f:¬p1=cs i:=λz=>a (uc g i (by rw[←z];exact b.symm) s j);have e:Z2 (cs i) v ((p1,p2)::q)=(p1,p2)::Z2 (cs i) v q:=by
         show(if p1=cs i then _ else _)=_;rw[if_neg f]
        rw[e];simp only[putFld,a,if_false];have ih:=Pairs.put j d (kvs:=r) (kv:=q) ⟨k.2,n⟩ λp w=>l p (HR _ w);exact⟨by simp only[Ic];rw[ih.keys,b],.cons o ih.vals⟩
theorem ud{i:Nat}{x:PV}(c:i<19):∀{kvs:List (Nat×PV)},(∀p∈kvs,p.1<19)->∀p∈putFld i x kvs,p.1<19
 | [],_,p,a=>by simp[putFld]at a;subst a;exact c
 | (g,u)::r,b,p,a=>by
   unfold putFld at a;split at a
   ·rcases HK.mp a with rfl | a
    ·exact b (g,u) HM
    ·exact b p (HR _ a)
   ·rcases HK.mp a with rfl | a
    ·exact b (g,u) HM
    ·exact ud c (λq d=>b q (HR _ d)) p a
theorem AI{o b:Expr}{d e:ED}{f:Str}{i:Nat}{m l:Pos}(ho:PE X o (aB X.K cm d))(hv:PE X b (aB X.K cm e))(hf:cs i=f)(U:i<19)(hc:∀c,c<7->eu X.K (cm c))(hn:∀c,c<7->bA X.K (cm c) f)
 (hs:swapsWith b (some (.Attribute o f l)) m.line X.env=pure false:=by rfl):PS X (.Assign [.Attribute o f l] b m) (cu X.K cm (sFld d i e)):=
 S9 (yZ ho hv hs) λD σ H hq=>by
  obtain⟨ρ,A,p,fl,A',rl,z,ev,k⟩:=hq;obtain⟨y,Y,e1,B⟩:=B0 ev;obtain⟨x,A2,e2,q⟩:=B0 B;refine⟨ρ,A,p,y,Y,rl,z,e1,λC H1 Z E G I=>⟨C,Y,p,x,A2,G,z.mono E,e2,λj J v2 L g N=>?_⟩⟩;cases x with
  | ref n=>
    obtain⟨o,A3,e3,O⟩:=B0 q;obtain⟨rfl,r,a,u,v,rfl,h,hH,hp,s⟩:=nC g N e3;obtain⟨c,Q⟩:=C9 O;cases Q;have c2:v.length=o.2.length:=by have:=congrArg List.length hp.keys;simpa using this
    refine⟨a,cm o.1,u,v,rfl,hH,hc _ (lm g r h),hn _ (lm g r h),by omega,?_⟩;rw[←hf];have w:aC j J j (aF J a (.ins (cm o.1) u (Z2 (cs i) Z v))):=aC.put g h r rfl;have T:aV X.K cm j (A3.set n (.ins o.1 (putFld i y o.2))) (aF J a (.ins (cm o.1) u (Z2 (cs i) Z v))):=
     g.put h r rfl rfl ⟨⟨lm g r h,ud U s⟩,u,_,C8,(hp.mono w).put U ((I.mono L).mono w) s⟩
    exact k j _ ((E.trans L).trans w) T σ (((z.mono E).mono L).mono w)
  | _=>cases q
theorem o0{o e:Expr}{d u:ED}{i b:Pos}(N:PE X o (aB X.K cm d))(he:PE X e (aB X.K cm u))
 (O:attributeBase o "append" X.env (eval o X.env)=eval o X.env:=by rfl) (hs:starEach [e] X.env=(false,eval e X.env)::starEach [] X.env:=by exact D8 rfl)
 (hfew:((backTo b (starEach [e] X.env)).all (λx=>!x.1)&&(backToKw b (keywordEach [] X.env)).all (λx=>x.1.isSome)&&decide ([e].length+([]:List Ob).length+(if([]:List Ob).isEmpty then 0 else 1)<30))=true:=by rfl)
 (hline:(i.endLine == b.line)=true:=by rfl):PE X (.Call (.Attribute o "append" i) [e] [] b) (aB X.K cm (Z5 d u)):=
 E7 (sW Og PySem.F.slot_list_append PySem.F.type_list_append zP N (ae he am hs) (hbase:=O) (hfew:=hfew) (hline:=hline) (hs:=hs)) λσ H Q T=>by
  obtain⟨U,A,j,v,A',Y,G,Z,k⟩:=T;obtain⟨x,A1,e1,m⟩:=B0 Z;refine⟨U,A,j,x,A1,Y,G,e1,λr H1 v1 I p q=>?_⟩;cases x with
  | ref n=>
    obtain⟨l0,A2,e2,s⟩:=B0 m;obtain⟨rfl,hA,a,xs,rfl,hn,hH,r0⟩:=N7 p q e2;refine⟨.inl ⟨rfl,xs,bv.of hH⟩,?_⟩;obtain⟨y,A3,e3,w⟩:=B0 s;obtain⟨l,A4,e4,z⟩:=B0 w;obtain⟨c,B⟩:=C9 z;cases B;refine⟨r,_,j,[y],A3,p,G.mono I,by show ap (u j) _ _=_;rw[aD e3];rfl,λC H2 a9 J f D=>?_⟩;cases D with
    | cons hv hr=>
      cases hr;obtain⟨rfl,g,a2,ys,e5,h,E,L⟩:=N7 f (q.mono J) e4;cases e5;refine⟨a,ys,_,rfl,rfl,E,by rw[←L.length];exact ks c,?_⟩;refine k C _ _ ((I.trans J).trans (aC.put f h g rfl)) (f.put h g rfl rfl ⟨_,C8,?_⟩) .non;exact(L.mono (aC.put f h g rfl)).append (.cons (hv.mono (aC.put f h g rfl)) .nil)
  | _=>cases m
theorem aA{i:Nat}{e:Expr}(h:PG X e (L2.gName i)):PG X e (iP X.K cm (gName i)):=tT h λv m H Q b=>by
 obtain⟨c,A,d,x,a,n,f,g,j,l,k⟩:=b;cases l;exact k c H _ (aC.refl _ _) f (g.set i j)
theorem cH:gR X [] (ny X.K cm gNil):=tU yl λj l H Q c=>by
 obtain⟨d,A,e,f,a,m,g,h,i,b,k⟩:=c;cases f with
 | nil=>cases b;cases i;exact⟨rfl,k d H _ (aC.refl _ _) g h⟩
 | cons y n=>cases b
theorem aW{e:Expr}{es:List Expr}{g:GD}{r:GDs}(s:PG X e (iP X.K cm g))(u:gR X es (ny X.K cm r))(hs:(assignEach (e::es) X.env).map (·.2)=assign e X.env::(assignEach es X.env).map (·.2):=by rfl):gR X (e::es) (ny X.K cm (gCons g r)):=
 tU (ym s u hs) λT U H Q v=>by
  obtain⟨w,A,c,x,a,z,B,C,D,o,k⟩:=v;cases x with
  | nil=>cases o
  | cons y E=>
    obtain⟨b,p,G,d⟩:=B0 o;cases D with
    | cons I J=>
      exact⟨_,_,rfl,w,A,c,y,b,p,B,C,I,G,λf Y L q h i=>⟨f,p,b,E,a,z,h,i,J.mono q,d,λj N l O m n=>k j N l (q.trans O) m n⟩⟩
theorem hY{es:List Expr}{j n:Nat}{g:GDs}{b:Pos}(m:X.calm=true)(h:gR X es (ny X.K cm g))(o:(assignEach es X.env).length=n:=by rfl)(d:(assignEach es X.env).findIdx? (·.1)=none:=by rfl):PG X (.Tuple es j b) (iP X.K cm (gTup n g)):=
 tT (yn m h o d) λv B H Q p=>by
  obtain⟨q,A,e,x,a,s,u,w,y,i,k⟩:=p;cases x with
  | tup l=>
    obtain⟨c,f⟩:=C9 i;cases y with
    | tup z r=>exact⟨_,_,rfl,cD.of z,by rw[←r.length];exact c,q,A,e,l,a,s,u,w,r,f,k⟩
  | _=>cases i
theorem AJ{a:Pos}:PS X (.Pass a) (cu X.K cm sPass):=S9 yf λD b H c=>by
 obtain⟨d,A,e,f,j,g,h,i,k⟩:=c;cases i;exact k d H (aC.refl _ _) g b h
theorem lu{st:Stmt}:PS X st (cu X.K cm sNever):=S9 yk λD c H ⟨d,A,a,f,e,g,h,b,k⟩=>by cases b
theorem E5:bL X [] (cu X.K cm sPass):=nz ye λD a H b=>by
 obtain⟨c,A,d,f,i,e,g,h,k⟩:=b;cases h;exact k c H (aC.refl _ _) e a g
theorem C3{st:Stmt}{s:SD}(h:PS X st (cu X.K cm s)):bL X [st] (cu X.K cm s):=oG h
theorem C2{st:Stmt}{rest:List Stmt}{s r:SD}(p:PS X st (cu X.K cm s))(q:bL X rest (cu X.K cm r)):bL X (st::rest) (cu X.K cm (D7 s r)):=
 nz (sk p q) λD L H u=>by
  obtain⟨w,A,i,f,x,y,z,B,k⟩:=u;obtain⟨o,n,C,b⟩:=B0 B;refine⟨w,A,i,o,n,y,z,C,λc j h d=>?_⟩;cases o with
  | nx g=>exact λe a=>⟨c,n,g,f,x,d,a,b,λl E G m=>k l E (h.trans G) m⟩
  | rt v=>cases b;exact λI J=>k c j h d I J
  | bk g=>cases b;exact λe a=>k c j h d e a
  | ct g=>cases b;exact λe a=>k c j h d e a
theorem b6{e:Expr}{d:ED}{a:Pos}(h:PE X e (aB X.K cm d))(hs:swapsWith e none a.line X.env=pure false:=by rfl):PS X (.Expr e a) (cu X.K cm (P9 d)):=
 S9 (sm h hs) λD m H n=>by
  obtain⟨o,A,b,f,p,q,j,r,k⟩:=n;obtain⟨x,w,s,c⟩:=B0 r;cases c;exact⟨o,A,b,x,p,q,j,s,λg u y l i v=>k g u l i m (j.mono l)⟩
theorem D9{e:Expr}{d:ED}{a:Pos}(h:PE X e (aB X.K cm d)):PS X (.Return (some e) a) (cu X.K cm (G6 d)):=
 S9 (yi h) λD w H l=>by
  obtain⟨m,A,b,f,n,o,p,q,k⟩:=l;obtain⟨x,y,r,c⟩:=B0 q;cases c;exact⟨m,A,b,x,n,o,p,r,λg s u v i j=>k g s v i u j⟩
theorem P4{c:Expr}{a b:List Stmt}{t:TD}{s u:SD}{m:Pos}(v:PT X c (cQ X.K cm t))(w:bL X a (cu X.K cm s))(y:bL X b (cu X.K cm u)):PS X (.If c a b m) (cu X.K cm (br t s u)):=
 S9 (so v w y) λD I H z=>by
  obtain⟨B,A,e,f,r,C,n,E,k⟩:=z;obtain⟨x,o,G,d⟩:=B0 E;refine⟨B,A,e,x,o,C,n,G,λi J l j=>?_⟩;cases x with
  | true=>rw[if_pos rfl]at d ⊢;exact⟨i,o,e,f,r,j,n.mono l,d,λg p q h=>k g p (l.trans q) h⟩
  | false=>rw[if_neg (by simp)]at d ⊢;exact⟨i,o,e,f,r,j,n.mono l,d,λg p q h=>k g p (l.trans q) h⟩
theorem AK{d:ED}{g:GD}{q:TE}{tg:TG}(he:∀σ H Q,aB X.K cm d σ H Q->q σ H Q)(w:∀v σ H Q,iP X.K cm g v σ H Q->tg v σ H Q){D:gh}{σ:L2.St}{H:Hp}(h:cu X.K cm (M5 d g) D σ H):ss q tg D σ H:=by
 obtain⟨y,A,a,f,z,B,r,C,k⟩:=h;obtain⟨x,s,E,b⟩:=B0 C;obtain⟨c,L,G,e⟩:=B0 b;cases e;exact he _ _ _ ⟨y,A,a,x,s,B,r,E,λi N O u j l=>w _ _ _ _ ⟨i,s,a,x,c,z,j,r.mono u,l,G,λm I n J o p=>k m I (u.trans J) o n p⟩⟩
theorem K5{i:Nat}{x:Str}{e:Expr}{d:ED}{b a:Pos}(f:X.N.Nodup)(g:X.N[i]?=some x)(j:L2.Loc X.env.scope x)(he:PE X e (aB X.K cm d))(hs:swapsWith e (some (.Name x a)) b.line X.env=pure false:=by rfl)
 (l:X.fn x=true\/X.env.scope.names.lookup x=some .local:=by first | exact .inl rfl | exact .inr rfl | assumption):PS X (.Assign [.Name x a] e b) (cu X.K cm (M5 d (gName i))):=
 S9 (yo f g j he hs l) λD σ H h=>AK (λ_ _ _ z=>z) (λv σ H Q m=>by
  obtain⟨n,A,o,x,c,A',p,q,r,s,k⟩:=m;cases s;exact k n H _ (aC.refl _ _) p (q.set i r)) h
end
noncomputable def aZ(K:HE)(d:Nat->Addr)(f:Fun)(n:Nat):Sp:=λg H Q _=>∃(c:List Addr)(A:PHp)(ps:List PV)(v:PV)(A':PHp),aV K d c A H/\aQ c H ps g/\ps.length=n/\f ps A=.ok v A'/\
 ∀a b e,aC c H a b->aV K d a A' b->RV a b v e->Q e b
theorem bV.start0{b:List Addr}{H:Hp}{ps:List PV}{vs:List V}{N:List Str}(r:aQ b H ps vs):bV b H (Ws.start N.length ps) (L2.start N vs):=by
 have d:=r.length;refine⟨by unfold Ws.start L2.start;simp[d],λi p a=>?_⟩;unfold Ws.start at a;by_cases c:i<ps.length
 ·rw[Ix (by simpa using c),Ij]at a;rcases e:ps[i]? with _ | q
  ·rw[e]at a;cases a
  ·rw[e]at a;cases a;obtain⟨v,f,g⟩:=r.get e;refine⟨v,?_,g⟩;unfold L2.start;rw[Ix (by simp;omega),Ij,f];rfl
 ·rw[JV (by simpa using c),NZ]at a;split at a<;>cases a
section
variable{P:Ib}{w:IW}{K:HE}{mg:Str->Option HD}{base:Heap}{cm:Nat->Addr}
theorem AL{x a:Str}{st:Stmt}{f:Addr}{p:Ia}{N ps:List Str}{k:Nat}{s:SD}(F:L2.Fun K x a st f p)(S:C6 N ps (B6 st))
 (d:∀(b:HD)(A:IN)(outer:List Env)(j:HF)(H:Hp)(E:L2.XK),aR k (A.deeper (IS a (B6 st) j.heap.objs.size f b))->
  bL (fz aX P w K mg base N a (B6 st) f b A outer j H E).nox (C4 st) (cu K cm s)) :
 az P w K mg base aX (k+1) f p ps (aZ K cm (fn N.length ps.length s) ps.length):=by
 refine F.ok S (λG H Q E ⟨q,A,r,v,Y,y,l,z,_,_⟩=>by rw[←l.length];exact z) λb A outer j H G Q E I h=>⟨_,d b A outer j H E I,?_⟩;obtain⟨q,B,r,v,Z,y,l,z,J,k⟩:=h;obtain⟨_,m⟩:=C9 J;obtain⟨o,L,O,c⟩:=B0 m;refine⟨q,B,Ws.start N.length r,o,L,y,bV.start0 l,O,λe C D g=>?_⟩;cases o with
 | nx i=>cases c;exact λT _=>k e C _ D g .non
 | rt u=>cases c;exact λU n=>k e C U D g n
 | bk i=>cases c
 | ct i=>cases c
end
section
variable{X:Cx}{cm:Nat->Addr}
theorem AM{f:Fun}{n:Nat}{o:AD}(s:∀p A v b,f p A=.ok v b->p.length=n){σ:L2.St}{H:Hp}{Q:VK}(h:aB X.K cm (G9 f o) σ H Q):sG (aZ X.K cm f n) [] E0 (dQ X.K cm o) σ H Q:=by
 obtain⟨u,A,c,v,b,w,x,y,k⟩:=h;obtain⟨q,r,z,a⟩:=B0 y;refine⟨u,A,c,q,r,w,x,z,λd B e C g i=>?_⟩;show aZ X.K cm f n (e++[]) B Q _;rw[IA];exact⟨d,r,q,v,b,g,i,s _ _ _ _ a,a,λj D E G l m=>k j D E (C.trans G) l m⟩
theorem pS{n p:Nat}{s:SD}{vs:List PV}{A A':PHp}{v:PV}(h:fn n p s vs A=.ok v A'):vs.length=p:=(C9 h).1
theorem AN{f:Fun}{n k:Nat}{b:Addr}{d:Ia}{ps:List Str}{x:Str}{e:Expr}{es:List Expr}{g:AD}{p a:Pos}(F:az X.prog X.w X.K X.mg X.base aX k b d ps (aZ X.K cm f n))(j:∀i A v l,f i A=.ok v l->i.length=n)(m:aR k X.A)(o:Gl X x)(q:X.mg x=some (.ref b))(r:Kq X.K (.ref b)=true)(s:L2.Binds X.K d ps [])
 (u:PA X (e::es) (dQ X.K cm g)) (c:(x == ("__debug__" : Str))=false:=by decide) (he:starEach (e::es) X.env=(false,eval e X.env)::starEach es X.env:=by exact D8 rfl) (hpl:(backTo a (starEach es X.env)).any (·.1)=false:=by rfl) :
 PE X (.Call (.Name x p) (e::es) [] a) (aB X.K cm (G9 f g)):=
 E7 (zh F m o q r s .nil mV u c he hpl) λy H Q h=>AM j h
theorem ue{c:Nat}{f:Fun}{n:Nat}{m:Str}{d:ED}{Z:AD}(hn:∀vs A v y,f vs A=.ok v y->vs.length=n)(hm:∀i,i<19->cs i≠m){σ:L2.St}{H:Hp}{Q:VK}(h:aB X.K cm (Q0 c f d Z) σ H Q) :
 oR (cm c) m (aZ X.K cm f n) [] E0 (aB X.K cm d) (dQ X.K cm Z) σ H Q:=by
 obtain⟨ρ,A,b,v,y,rl,rs,ev,k⟩:=h;obtain⟨x,A1,e1,e⟩:=B0 ev;refine⟨ρ,A,b,x,A1,rl,rs,e1,λB H1 v1 x1 g r=>?_⟩;cases x with
 | ref j=>
   obtain⟨o,A2,e2,C⟩:=B0 e;obtain⟨rfl,hA,a,dx,D,rfl,c0,hH,hp,hs⟩:=nC g r e2;obtain⟨hc,E⟩:=C9 C;obtain⟨xs,A3,e3,s⟩:=B0 E;subst hc;have G:D.lookup m=none:=by
    have I:∀(l:List (Str×V)),(∀z∈l.map (·.1),z≠m)->l.lookup m=none:=λl=>by
     induction l with
     | nil=>intro _;rfl
     | cons p q ih=>
       intro u;rw[LN,beq_eq_false_iff_ne.mpr (λz=>u p.1 (by simp) z.symm)];exact ih λz w=>u z (by simp at w ⊢;exact .inr w)
    refine I D λz u=>?_;rw[hp.keys]at u;obtain⟨q,hq,rfl⟩:=HQ.mp u;exact hm _ (hs q hq)
   refine⟨a,dx,D,rfl,hH,G,B,_,b,xs,A3,g,rs.mono x1,e3,λJ H2 L x2 N O=>?_⟩;show aZ X.K cm f n (.ref a::(L++[])) H2 Q _;rw[IA];exact⟨J,A3,.ref j::xs,v,y,N,.cons (r.mono x2) O,hn _ _ _ _ s,s,λT H3 v3 x3 U Y=>k T H3 v3 ((x1.trans x2).trans x3) U Y⟩
 | _=>cases e
theorem AO{c:Nat}{f:Fun}{n k:Nat}{l:Addr}{p:Ia}{ps:List Str}{m:Str}{o e:Expr}{es:List Expr}{d:ED}{q:AD}{b a:Pos}{pl:Sem Bool}(s:PE X o (aB X.K cm d))(u:eu X.K (cm c))(x:iL X.K (cm c) m l)
 (F:az X.prog X.w X.K X.mg X.base aX k l p ps (aZ X.K cm f n)) (y:∀r A v z,f r A=.ok v z->r.length=n) (g:∀i,i<19->cs i≠m) (B:aR k X.A) (C:L2.Binds X.K p ps []) (D:PA X (e::es) (dQ X.K cm q))
 (j:starEach (e::es) X.env=(false,eval e X.env)::starEach es X.env:=by exact D8 rfl) (hpl:(backTo a (starEach es X.env)).any (·.1)=false:=by rfl)
 (E:eval (.Call (.Attribute o m b) (e::es) [] a) X.env=(do
  let ov ←eval o X.env
  standAt b.atName
  let(f,first) ←holding [ov] (getMethod ov m pl)
  callWith a f first (backTo a (starEach (e::es) X.env)) (backToKw a (keywordEach [] X.env))):=by rfl) :
 PE X (.Call (.Attribute o m b) (e::es) [] a) (aB X.K cm (Q0 c f d q)):=
 E7 (zi (pl:=pl) s u x F B C .nil mV D j hpl E) λG H Q h=>ue y g h
theorem AQ{c:Nat}{f:Fun}{n:Nat}{G:AD}(U:c<7)(Y:∀I A v l,f I A=.ok v l->I.length=n/\v=.non){σ:L2.St}{H:Hp}{Q:VK}(h:aB X.K cm (hV c f G) σ H Q):sH (cm c) (aZ X.K cm f n) [] E0 (dQ X.K cm G) σ H Q:=by
 obtain⟨Z,A,m,v,l,rl,rs,ev,k⟩:=h;obtain⟨J,e,e1,o⟩:=B0 ev;obtain⟨x,A2,e2,p⟩:=B0 o;cases e2;obtain⟨u,A3,L,q⟩:=B0 p;cases q;refine⟨Z,A,m,J,e,rl,rs,e1,λa d a5 x1 g r x b hx i s=>?_⟩;rw[IA];have w:aC a d a (aF d b (.own x)):=aC.same i;have y:aV X.K cm a e (aF d b (.own x)):=g.grow w (S8 i);have j:aF d b (.own x) x=none:=by rw[D3 (JX s)];exact hx
 have N:aC a (aF d b (.own x)) (a++[x]) (aF (aF d b (.own x)) x (.ins (cm c) b [])):=aC.new j;have z:aV X.K cm (a++[x]) (e++[.ins c []]) (aF (aF d b (.own x)) x (.ins (cm c) b [])):=y.alloc j ⟨⟨U,by simp⟩,b,[],C8,⟨rfl,.nil⟩⟩ rfl;have O:(a++[x])[e.length]?=some x:=by rw[←g.len];simp
 obtain⟨B,rfl⟩:=Y _ _ _ _ L;refine⟨a++[x],_,.ref e.length::J,.non,l,z,.cons (.ref O) ((r.mono w).mono N),B,L,λC H4 v4 T D E=>?_⟩;cases E;exact⟨rfl,k C H4 _ (((x1.trans w).trans N).trans T) D (.ref (lg T.pre O))⟩
theorem AR{c:Nat}(l:c<7){f:Fun}{n k:Nat}{d:Addr}{g:Ia}{ps:List Str}{x:Str}{e:Expr}{es:List Expr}{i:AD}{p a:Pos}(Mk:L2.Mk X.K (cm c) d)(F:az X.prog X.w X.K X.mg X.base aX k d g ps (aZ X.K cm f n))(m:∀j A v o,f j A=.ok v o->j.length=n/\v=.non)(q:aR (k+1) X.A)
 (r:Gl X x) (s:X.mg x=some (.ref (cm c))) (u:L2.Binds X.K g ps []) (y:PA X (e::es) (dQ X.K cm i)) (b:(x == ("__debug__" : Str))=false:=by decide) (he:starEach (e::es) X.env=(false,eval e X.env)::starEach es X.env:=by exact D8 rfl) (hpl:(backTo a (starEach es X.env)).any (·.1)=false:=by rfl) :
 PE X (.Call (.Name x p) (e::es) [] a) (aB X.K cm (hV c f i)):=
 E7 (zl Mk F q r s u .nil mV y b he hpl) λz H Q h=>AQ l m h
noncomputable def pT(K:HE)(a:Addr):L2.It:=
 ⟨λi H=>∃b x,bv K H a b/\b[i]?=some x,λi H x c=>∃y p,(∀b,bv K H a b->b[i]?=some y)/\H p=none/\x=.ref p/\c=aF H p (.tup [.int i,y]),λi H=>∃b,bv K H a b/\b.length<=i⟩
noncomputable def AS(K:HE)(k:Nat)(a:Addr):L2.It:=
 ⟨λi H=>∃b x,bv K H a b/\b[i]?=some x,λi H x c=>∃y p,(∀b,bv K H a b->b[i]?=some y)/\H p=none/\x=.ref p/\c=aF H p (.tup [.int ((k+i:Nat):Int),y]),λi H=>∃b,bv K H a b/\b.length<=i⟩
noncomputable def AT(vs:List V):L2.It:=⟨λi _=>i<vs.length,λi H x a=>a=H/\vs[i]?=some x,λi _=>vs.length<=i⟩
def fF(k:Bool)(K:HE)(H:Hp)(a:Addr)(xs:List V):Prop:=match k with
 | true=>cD K H a xs
 | false=>bv K H a xs
noncomputable def kindOf:PV->Bool
 | .tup _=>true
 | _=>false
noncomputable def pU(K:HE)(e f:Bool)(a b:Addr):L2.It:=
 ⟨λi H=>∃c d x y,fF e K H a c/\fF f K H b d/\c[i]?=some x/\d[i]?=some y,
  λi H v g=>∃x y p,(∀c,fF e K H a c->c[i]?=some x)/\(∀d,fF f K H b d->d[i]?=some y)/\H p=none/\v=.ref p/\g=aF H p (.tup [x,y]),
  λi H=>∃c d,fF e K H a c/\fF f K H b d/\(c.length<=i\/d.length<=i)⟩
theorem c9{K:HE}{c:List Addr}{H:Hp}{A:PHp}{l:List PV}{v:V}{x:PV}{A':PHp}(g:aV K cm c A H)(r:RV c H x v)(h:N6 x A=.ok l A'):A'=A/\∃a b,v=.ref a/\fF (kindOf x) K H a b/\aQ c H l b:=by
 cases x with
 | ref n=>
   obtain⟨e,a,b,d,f,i⟩:=K4 g r h;exact⟨e,a,b,d,f,i⟩
 | tup m=>
   cases h;cases r with
   | tup d f=>exact⟨rfl,_,_,rfl,cD.of d,f⟩
 | _=>cases h
noncomputable def iR(K:HE)(c:List Addr)(H:Hp):It->L2.It->Prop
 | .rng lo n,j=>j=mP lo n
 | .lst m,j=>∃a,c[m]?=some a/\j=mN K a
 | .tup l,j=>∃a d,H a=some (.tup d)/\aQ c H l d/\j=mO K a
 | .enm m,j=>∃a,c[m]?=some a/\j=pT K a
 | .fix l,j=>∃d,aQ c H l d/\j=AT d
 | .zip x y,j=>∃a b,RV c H x (.ref a)/\RV c H y (.ref b)/\j=pU K (kindOf x) (kindOf y) a b
 | .enk k m,j=>∃a,c[m]?=some a/\j=AS K k a
theorem iR.mono{K:HE}{o f:List Addr}{H H':Hp}{J:It}{j:L2.It}(h:iR K o H J j)(e:aC o H f H'):iR K f H' J j:=by
 cases J with
 | rng lo n=>exact h
 | lst m=>obtain⟨a,c,d⟩:=h;exact⟨a,lg e.pre c,d⟩
 | tup l=>obtain⟨a,g,c,d,i⟩:=h;exact⟨a,g,e.tup _ _ c,d.mono e,i⟩
 | enm m=>obtain⟨a,c,d⟩:=h;exact⟨a,lg e.pre c,d⟩
 | fix l=>obtain⟨g,c,d⟩:=h;exact⟨g,c.mono e,d⟩
 | zip x y=>obtain⟨a,b,c,d,i⟩:=h;exact⟨a,b,c.mono e,d.mono e,i⟩
 | enk k m=>obtain⟨a,c,d⟩:=h;exact⟨a,lg e.pre c,d⟩
noncomputable def jx(K:HE)(cm:Nat->Addr)(d:ID):L2.TI:=λf H R=>∃(e:List Addr)(A:PHp)(b:PSt)(J:It)(A':PHp),aV K cm e A H/\bV e H b f/\d b A=.ok J A'/\
 ∀a c j,aC e H a c->aV K cm a A' c->iR K a c J j->R j c
noncomputable def pV(K:HE)(cm:Nat->Addr)(a:List Addr)(A:PHp)(H:Hp)(j:L2.It)(i:Nat):Option PV->Prop
 | none=>j.stop i H
 | some v=>j.go i H/\∀y b,j.yld i H y b->aC a H a b/\aV K cm a A b/\RV a b v y
theorem uf{K:HE}{O:List Addr}{H:Hp}{A A':PHp}{J:It}{j:L2.It}{i:Nat}{x:Option PV}(g:aV K cm O A H)(G:iR K O H J j)(e:item J i A=.ok x A') :
 A'=A/\pV K cm O A H j i x:=by
 cases J with
 | rng lo n=>
   cases e;cases G;refine⟨rfl,?_⟩;by_cases h:i<n
   ·show pV K cm O A H _ i (if i<n then some (PV.int (lo+i)) else none);rw[if_pos h];refine⟨h,λy N o=>?_⟩;obtain⟨B,C⟩:=o;subst B;subst C;exact⟨aC.refl _ _,g,.int _⟩
   ·show pV K cm O A H _ i (if i<n then some (PV.int (lo+i)) else none);rw[if_neg h];exact Nat.le_of_not_lt h
 | fix l=>
   cases e;obtain⟨Q,r,rfl⟩:=G;refine⟨rfl,?_⟩;rcases c:l[i]? with _ | v
   ·show Q.length<=i;rw[←r.length];exact Je.mp c
   ·obtain⟨u,d,q⟩:=r.get c;refine⟨(HY.mp d).1,λy N ⟨I,E⟩=>?_⟩;subst I;rw[d]at E;cases E;exact⟨aC.refl _ _,g,q⟩
 | zip x y=>
   obtain⟨a,b,ra,rb,rfl⟩:=G;obtain⟨l,A1,B,C⟩:=B0 e;obtain⟨rfl,a',f,h1,U,r1⟩:=c9 g ra B;cases h1;obtain⟨m,A2,I,E⟩:=B0 C;obtain⟨rfl,b',Y,s,Z,r2⟩:=c9 g rb I;cases s;cases E;refine⟨rfl,?_⟩;rcases c:l[i]? with _ | u
   ·exact⟨f,Y,U,Z,.inl (by rw[←r1.length];exact Je.mp c)⟩
   ·rcases hj:m[i]? with _ | v
    ·exact⟨f,Y,U,Z,.inr (by rw[←r2.length];exact Je.mp hj)⟩
    ·obtain⟨u',d,ru⟩:=r1.get c;obtain⟨v',hv,q⟩:=r2.get hj;refine⟨⟨f,Y,u',v',U,Z,d,hv⟩,λz N o=>?_⟩;obtain⟨x',y',p,g1,g2,g3,g4,g5⟩:=o;have g1:=g1 f U;have g2:=g2 Y Z;rw[d]at g1;cases g1;rw[hv]at g2;cases g2;subst g4;subst g5;exact⟨aC.same g3,g.tup g3,.tup C8 (.cons (ru.mono (aC.same g3)) (.cons (q.mono (aC.same g3)) .nil))⟩
 | lst m=>
   obtain⟨a,D,rfl⟩:=G;obtain⟨l,A1,B,C⟩:=B0 e;obtain⟨rfl,b,f,T,w,r⟩:=K4 g (.ref D) B;cases T;cases C;refine⟨rfl,?_⟩;rcases c:l[i]? with _ | v
   ·exact⟨f,w,by rw[←r.length];exact Je.mp c⟩
   ·obtain⟨u,d,q⟩:=r.get c;refine⟨⟨f,u,w,d⟩,λy N o=>?_⟩;obtain⟨I,E⟩:=o;subst I;have:=E f w;rw[d]at this;cases this;exact⟨aC.refl _ _,g,q⟩
 | tup l=>
   obtain⟨a,Q,D,r,rfl⟩:=G;cases e;refine⟨rfl,?_⟩;rcases c:l[i]? with _ | v
   ·exact⟨Q,cD.of D,by rw[←r.length];exact Je.mp c⟩
   ·obtain⟨u,d,q⟩:=r.get c;refine⟨⟨Q,u,cD.of D,d⟩,λy N o=>?_⟩;obtain⟨I,E⟩:=o;subst I;have:=E Q (cD.of D);rw[d]at this;cases this;exact⟨aC.refl _ _,g,q⟩
 | enm m=>
   obtain⟨a,D,rfl⟩:=G;obtain⟨l,A1,B,C⟩:=B0 e;obtain⟨rfl,b,f,T,w,r⟩:=K4 g (.ref D) B;cases T;cases C;refine⟨rfl,?_⟩;rcases c:l[i]? with _ | v
   ·exact⟨f,w,by rw[←r.length];exact Je.mp c⟩
   ·obtain⟨u,d,q⟩:=r.get c;refine⟨⟨f,u,w,d⟩,λy N o=>?_⟩;obtain⟨y',p,s,L,h4,h5⟩:=o;have s:=s f w;rw[d]at s;cases s;subst h4;subst h5;exact⟨aC.same L,g.tup L,.tup C8 (.cons (.int _) (.cons (q.mono (aC.same L)) .nil))⟩
 | enk k m=>
   obtain⟨a,D,rfl⟩:=G;obtain⟨l,A1,B,C⟩:=B0 e;obtain⟨rfl,b,f,T,w,r⟩:=K4 g (.ref D) B;cases T;cases C;refine⟨rfl,?_⟩;rcases c:l[i]? with _ | v
   ·exact⟨f,w,by rw[←r.length];exact Je.mp c⟩
   ·obtain⟨u,d,q⟩:=r.get c;refine⟨⟨f,u,w,d⟩,λy N o=>?_⟩;obtain⟨y',p,s,L,h4,h5⟩:=o;have s:=s f w;rw[d]at s;cases s;subst h4;subst h5;exact⟨aC.same L,g.tup L,.tup C8 (.cons (.int _) (.cons (q.mono (aC.same L)) .nil))⟩
theorem pW{J:It}{A A':PHp}{n:Nat}(h:m8 J A=.ok n A'):A'=A:=by
 have b:∀a,ap (E4 a) (λl=>ret l.length) A=.ok n A'->A'=A:=λa h=>by
  obtain⟨l,f,c,e⟩:=B0 h;cases e;unfold E4 at c;rcases d:A[a]? with _ | o
  ·rw[d]at c;cases c
  ·cases o<;>rw[d]at c<;>cases c<;>rfl
 cases J with
 | rng lo n=>cases h;rfl
 | lst m=>exact b m h
 | tup l=>cases h;rfl
 | fix l=>cases h;rfl
 | enm m=>exact b m h
 | enk k m=>exact b m h
 | zip x y=>
   cases x with
   | ref n=>
     exact b n h
   | tup l=>cases h;rfl
   | _=>cases h
theorem w6{tg iter:Expr}{C:List Stmt}{it:ID}{g:GD}{b:SD}{a6:Pos}(hp:Qk (model X.prog X.w) X.A X.env X.xe)(hc:X.calm=true)(hi:L2.PI X tg iter (jx X.K cm it))(hg:PG X tg (iP X.K cm g))(hb:bL X C (cu X.K cm b))
 (hs:∀x,foldedSetIterable iter X.env x=pure x:=by intro _;rfl):PS X (.For tg iter C [] a6) (cu X.K cm (v8 it g b)):=
 S9 (yD hp hc hi hg hb hs) λD σ H hq=>by
  obtain⟨ρ,A,Q,f,A',rl,rs,ev,k⟩:=hq;obtain⟨J,A1,e1,a7⟩:=B0 ev;obtain⟨n,A2,e2,a8⟩:=B0 a7;obtain rfl:=pW e2;refine⟨ρ,A,Q,J,A2,rl,rs,e1,λE H1 j x1 a9 rj=>?_⟩;refine⟨λi m G T=>∃d B a,aC E H1 d T/\aV X.K cm d B T/\bV d T a G/\c8 J g b (m+1) i a B=.ok f A',⟨n,E,A2,Q,aC.refl _ _,a9,rs.mono x1,a8⟩,?_⟩;rintro i m G T ⟨d,B,a,x2,U,Y,Z⟩;rw[T6]at Z;obtain⟨x,B1,e3,a0⟩:=B0 Z;obtain⟨rfl,I⟩:=uf U (rj.mono x2) e3;cases x with
  | none=>
    cases a0;exact .inl ⟨I,k d T (x1.trans x2) U G Y⟩
  | some v=>
    refine .inr ⟨I.1,λa1 O=>∃e B3 c,aC E H1 e O/\aV X.K cm e B3 O/\bV e O c a1/\c8 J g b m (i+1) c B3=.ok f A',?_,λy O hy=>?_⟩
    ·rintro a1 O ⟨e,B3,c,x3,L,b1,h⟩;cases m with
     | zero=>rw[tz]at h;cases h
     | succ m=>exact⟨m,Jl _,e,B3,c,x3,L,b1,h⟩
    ·obtain⟨x3,L,b2⟩:=I.2 y O hy;obtain⟨a2,B4,e4,h⟩:=B0 a0;obtain⟨o,B5,e5,p⟩:=B0 h;refine⟨d,B1,a,v,a2,B4,L,Y.mono x3,b2,e4,λb5 H4 h2 x4 c0 c1=>⟨b5,B4,a2,o,B5,c0,c1,e5,λq H5 x5 r=>?_⟩⟩;have s:=(((x2.trans x3).trans x4).trans x5);cases o with
     | nx z=>exact λN l=>⟨q,B5,z,s,r,l,p⟩
     | ct z=>exact λN l=>⟨q,B5,z,s,r,l,p⟩
     | bk z=>cases p;exact λN l=>k q H5 (x1.trans s) r N l
     | rt u=>cases p;exact λv' c2=>k q H5 (x1.trans s) r v' c2
theorem ug{c:Expr}{r:List Stmt}{t:TD}{b:SD}{N:Pos}(hp:Qk (model X.prog X.w) X.A X.env X.xe)(hc:PT X c (cQ X.K cm t))(hb:bL X r (cu X.K cm b)):PS X (.While c r [] N) (cu X.K cm (nk t b)):=
 S9 (yq hp hc hb) λD σ H hq=>by
  obtain⟨O,A,Q,f,Z,rl,rs,ev,k⟩:=hq;refine⟨λm v J=>∃e B a,aC O H e J/\aV X.K cm e B J/\bV e J a v/\m9 t b m a B=.ok f Z,⟨LIM,O,A,Q,aC.refl _ _,rl,rs,ev⟩,?_⟩;rintro m v J ⟨e,B,a,x1,T,y,i⟩;cases m with
  | zero=>rw[Al]at i;cases i
  | succ m=>
    rw[tD]at i;obtain⟨x,B1,e1,j⟩:=B0 i;refine⟨e,B,a,x,B1,T,y,e1,λE H2 L G=>?_⟩;cases x with
    | false=>
      rw[if_neg (by simp)]at j ⊢;cases j;exact k E H2 (x1.trans L) G v (y.mono L)
    | true=>
      rw[if_pos rfl]at j ⊢;obtain⟨o,U,e2,l⟩:=B0 j;refine⟨λI z=>∃d B3 s,aC O H d z/\aV X.K cm d B3 z/\bV d z s I/\m9 t b m s B3=.ok f Z,λI z h=>⟨m,Jl _,h⟩,E,B1,a,o,U,G,y.mono L,e2,λd z x3 n=>?_⟩;have p:=(x1.trans L).trans x3;cases o with
      | nx q=>exact λC g=>⟨d,U,q,p,n,g,l⟩
      | ct q=>exact λC g=>⟨d,U,q,p,n,g,l⟩
      | bk q=>cases l;exact λC g=>k d z p n C g
      | rt u=>cases l;exact λv' Y=>k d z p n v' Y
theorem uh{tg iter:Expr}{t t':L2.TI}(h:L2.PI X tg iter t)(k:∀a H R,t' a H R->t a H R):L2.PI X tg iter t':=λb s a H R I q=>h b s a H R I (k a H R q)
theorem bM{tg a:Expr}{d:ED}{p f:Pos}(m:Gl X "range")(n:X.mg "range" = none)(o:PE X a (aB X.K cm d))(hs:starEach [a] X.env=[(false,eval a X.env)]:=by rfl):L2.PI X tg (.Call (.Name "range" p) [a] [] f) (jx X.K cm (iRng1 d)):=
 uh (yA m n (ae o am hs) hs) λG H R q=>by
  obtain⟨r,A,b,J,I,s,u,v,k⟩:=q;obtain⟨x,w,y,e⟩:=B0 v;refine⟨r,A,b,[x],w,s,u,by show ap (d b) _ A=_;rw[aD y];rfl,λg z B C h j=>?_⟩;cases x with
  | int i=>
    obtain⟨c,l⟩:=C9 e;cases l;cases j with
    | cons D E=>cases E;cases D;exact⟨i,rfl,c.1,c.2,k g z _ C h rfl⟩
  | _=>cases e
noncomputable def AU(K:HE)(d:TE):L2.TI:=λe H R=>d e H λx b=>(∃a,x=.ref a/\(∃c,bv K b a c)/\R (mN K a) b)\/(∃a,x=.ref a/\(∃c,cD K b a c)/\R (mO K a) b)
theorem AV{tg l:Expr}{n:TE}(i:PE X l n):L2.PI X tg l (AU X.K n):=by
 intro f s w H R I h;have D:=yx (tg:=tg) i;have E:=yy (tg:=tg) i;refine aP (i f s w H _ I h) λv c y=>?_;obtain⟨x,r,d,u,z⟩:=y;rcases z with⟨a,e,⟨A,j⟩,q⟩ | ⟨a,e,⟨A,j⟩,q⟩
 ·subst e;cases u;obtain⟨g,B,p,C⟩:=d.list j;refine JY p.isList ?_;refine⟨c.heap.objs.size,[c.heap.objs.size],_,_,r,rfl,d.kept (t':=c.toks) λb o e=>HA _ e,sv a _,⟨_,HI _ rfl,rfl,rfl⟩,λb m=>?_,q⟩;have e:b=c.heap.objs.size:=by simpa using m
  subst e;exact d.fpOk (HG _) (d.hok.fresh (HG _))
 ·subst e;cases u;obtain⟨g,B,p,C⟩:=d.tuple j;refine Me (show c.heap.IsTuple a g.toArray from p) ?_;refine⟨c.heap.objs.size,[c.heap.objs.size],_,_,r,rfl,d.kept (t':=c.toks) λb o e=>HA _ e,sw a _,⟨_,HI _ rfl,rfl,rfl⟩,λb m=>?_,q⟩;have e:b=c.heap.objs.size:=by simpa using m
  subst e;exact d.fpOk (HG _) (d.hok.fresh (HG _))
theorem ba{tg l:Expr}{d:ED}(o:PE X l (aB X.K cm d)):L2.PI X tg l (jx X.K cm (X4 d)):=uh (AV o) λE H R p=>by
 obtain⟨q,A,g,J,G,s,u,v,k⟩:=p;obtain⟨x,w,y,b⟩:=B0 v;refine⟨q,A,g,x,w,s,u,y,λf i I j c e=>?_⟩;cases x with
 | ref n=>
   obtain⟨l,L,z,h⟩:=B0 b;obtain⟨rfl,a,B,rfl,C,r⟩:=K4 c e z;cases h;cases e with
   | ref D=>exact .inl ⟨a,rfl,⟨B,C⟩,k f i _ j c ⟨a,D,rfl⟩⟩
 | tup l=>
   cases b;cases e with
   | tup m r=>exact .inr ⟨_,rfl,⟨_,cD.of m⟩,k f i _ j c ⟨_,_,m,r,rfl⟩⟩
 | _=>cases b
end
section
variable{ρ:List Addr}{H:Hp}
mutual
theorem RV.uniq:∀{x y:PV}{v:V},RV ρ H x v->RV ρ H y v->f9 x=true->f9 y=true->x=y
 | _,_,_,.non,h,_,_=>by cases h;rfl
 | _,_,_,.bl b,_,n,_=>by simp[f9]at n
 | _,_,_,.int i,h,_,_=>by cases h;rfl
 | _,_,_,.str z,h,_,_=>by cases h;rfl
 | _,_,_,.tup d e,h,f,c=>by
   cases h with
   | tup a g=>
     rw[d]at a;cases a;rw[aQ.uniq e g (by simpa[f9]using f) (by simpa[f9]using c)]
   | ref a=>simp[f9]at c
 | _,_,_,.ref _,_,n,_=>by simp[f9]at n
theorem aQ.uniq:∀{l m:List PV}{vs:List V},aQ ρ H l vs->aQ ρ H m vs->hU l=true->hU m=true->l=m
 | _,_,_,.nil,h,_,_=>by cases h;rfl
 | _,_,_,.cons c d,h,a,b=>by
   cases h with
   | cons e f=>
     simp only[hU,HZ]at a b;rw[RV.uniq c e a.1 b.1,aQ.uniq d f a.2 b.2]
end
end
theorem nG:∀{l m:List PV},l.length≠m.length->W4 l m=false
 | [],[],h=>absurd rfl h
 | [],_::_,_=>rfl
 | _::_,[],_=>rfl
 | x::a,y::b,h=>by
   have:a.length≠b.length:=by simpa using h
   simp[W4,nG this]
theorem nH:∀{l m:List PV},l.length=m.length->W4 l m=(Iw l.length).all λj=>bq (l.getD j .non) (m.getD j .non)
 | [],[],_=>rfl
 | [],_::_,h=>by simp at h
 | _::_,[],h=>by simp at h
 | x::a,y::b,h=>by
   have e:a.length=b.length:=by simpa using h
   rw[Il,Mn,Lq,ME];simp only[W4,nH e];rfl
theorem pX{l m:List PV}:W4 l m=((Iw (min l.length m.length)).all (λj=>bq (l.getD j .non) (m.getD j .non))&&l.length == m.length):=by
 by_cases h:l.length=m.length
 ·rw[nH h,h];simp
 ·rw[nG h,beq_eq_false_iff_ne.mpr h,Bool.and_false]
section
variable{X:Cx}{pins:List (Addr×Obj)}{σ:L2.St}{H:Hp}{s:HF}{ρ:List Addr}{A:IN}
open PySem.SeqAt
theorem nI{x y:PV}{a b:V}{u v:HD}(d:RV ρ H x a)(f:RV ρ H y b)(i:N5 x=true)(j:N5 y=true)(g:L2.RelV a u)(h:L2.RelV b v):EqAt A s u v (bq x y):=by
 have c:=zJ (A:=A) (s:=s) g h (by cases d<;>simp_all [N5,mU]) (by cases f<;>simp_all [N5,mU]);have e:oW a b=bq x y:=by
  cases d<;>cases f<;>simp_all [N5,oW,bq]<;>(try (exact(MF _ _)))
 rw[←e];exact c
theorem pY{f:PV->Bool}{l m:List PV}{a b:Addr}{vs ws:List V}(I:L2.Inv X pins σ H s)(G:H a=some (.tup vs))(o:H b=some (.tup ws))(p:aQ ρ H l vs)(q:aQ ρ H m ws)(r:l.all f=true)(J:m.all f=true)(w:∀x,f x=true->f9 x=true)(Z:A.units<cLine)
 (ih:∀x y L N u v,RV ρ H x L->RV ρ H y N->f x=true->f y=true->L2.RelV L u->L2.RelV N v->EqAt A.in1 s u v (bq x y)) :
 (a≠b->RcAt A s (.ref a) (.ref b) (W4 l m))/\RcAt A s (.ref a) (.ref b) (W4 l m)/\EqAt A s (.ref a) (.ref b) (W4 l m):=by
 obtain⟨_,d,z,pi⟩:=I.hok a _ G;obtain⟨_,c,g,B⟩:=I.hok b _ o;have C:RcAt A s (.ref a) (.ref b) (W4 l m):=by
  have h:=RcAt.tuples (A:=A) (s:=s) (l:=a) (b:=b) (items:=d.toArray) (items2:=c.toArray) (e:=λj=>bq (l.getD j .non) (m.getD j .non)) pi B Z (λj D E=>by
   simp only[HU]at D E;have O:j<vs.length:=by rw[z.length];exact D
   have l2:j<ws.length:=by rw[g.length];exact E
   obtain⟨x,Q,rx⟩:=p.get' (i:=j) (v:=vs[j]) (by simp[O]);obtain⟨y,T,ry⟩:=q.get' (i:=j) (v:=ws[j]) (by simp[l2]);obtain⟨u,U,ru⟩:=z.get (i:=j) (x:=vs[j]) (by simp[O]);obtain⟨v,Y,rv⟩:=g.get (i:=j) (x:=ws[j]) (by simp[l2]);have d1:l.getD j .non=x:=by rw[IV,Q];rfl
   have d2:m.getD j .non=y:=by rw[IV,T];rfl
   have q1:d.toArray[j]=u:=by
    rw[HX D]at U;simpa using Iv U
   have q2:c.toArray[j]=v:=by
    rw[HX E]at Y;simpa using Iv Y
   rw[d1,d2,q1,q2];exact ih x y _ _ u v rx ry (Ik.mp r x (Io Q)) (Ik.mp J y (Io T)) ru rv)
  rw[pX];have z1:d.toArray.size=l.length:=by rw[HU,←z.length,p.length]
  have z2:c.toArray.size=m.length:=by rw[HU,←g.length,q.length]
  rw[z1,z2]at h;exact h
 refine⟨λ_=>C,C,?_⟩;by_cases n:a=b
 ·subst n;rw[G]at o;cases o;have e:=aQ.uniq p q (V4 w l r) (V4 w m J);subst e;rw[(t8 l l (V4 w l r)).mpr rfl];exact EqAt.same _
 ·exact EqAt.of_refs n C
theorem Q3{x y:PV}{p q:V}{u v:HD}(I:L2.Inv X pins σ H s)(w:RV ρ H x p)(z:RV ρ H y q)(c:A.units<cLine)(d:L2.RelV p u)(e:L2.RelV q v)
 (h:(∃l,x=.tup l/\N5 y=true)\/(∃m,y=.tup m/\N5 x=true)):EqAt A s u v (bq x y)/\RcAt A s u v (bq x y)/\LI A s u v (!bq x y):=by
 rcases h with⟨l,rfl,f⟩ | ⟨m,rfl,g⟩
 ·cases w with
  | tup j r=>
    obtain⟨_,n,B,a⟩:=I.hok _ _ j;cases d;cases z with
    | non=>cases e;exact⟨EqAt.tuple_none a c,RcAt.tuple_none a c,LI.tuple_none a c⟩
    | int i=>obtain⟨t,rfl⟩:=e;exact⟨EqAt.tuple_int _ _ a c,RcAt.tuple_int _ _ a c,LI.tuple_int _ _ a c⟩
    | str i=>obtain⟨t,rfl⟩:=e;exact⟨EqAt.tuple_str _ _ a c,RcAt.tuple_str _ _ a c,LI.tuple_str _ _ a c⟩
    | bl b=>simp[N5]at f
    | tup o C=>simp[N5]at f
    | ref o=>simp[N5]at f
 ·cases z with
  | tup j r=>
    obtain⟨_,n,B,a⟩:=I.hok _ _ j;cases e;cases w with
    | non=>cases d;exact⟨EqAt.none_tuple a c,RcAt.none_tuple a c,LI.none_tuple a c⟩
    | int i=>obtain⟨t,rfl⟩:=d;exact⟨EqAt.int_tuple _ _ a c,RcAt.int_tuple _ _ a c,LI.int_tuple _ _ a c⟩
    | str i=>obtain⟨t,rfl⟩:=d;exact⟨EqAt.str_tuple _ _ a c,RcAt.str_tuple _ _ a c,LI.str_tuple _ _ a c⟩
    | bl b=>simp[N5]at g
    | tup o C=>simp[N5]at g
    | ref o=>simp[N5]at g
theorem O1(A:IN)(n:Nat)(h:A.units+(n+1)<cLine):A.in1.units+n<cLine:=by
 show A.units+1+n<cLine;omega
theorem AW(I:L2.Inv X pins σ H s)(A:IN)(z:A.units+1<cLine)(x y:PV)(e f:V)(u v:HD)(a:RV ρ H x e)(b:RV ρ H y f)(g:nb x=true)(h:nb y=true)(c:L2.RelV e u)(d:L2.RelV f v):EqAt A s u v (bq x y):=by
 cases x with
 | tup l=>
   cases y with
   | tup m=>
     cases a with
     | tup i j=>
       cases b with
       | tup n o=>
         cases c;cases d;exact(pY I i n j o g h kW (by omega) (λx y e f u v a b p q r w=>nI a b p q r w)).2.2
   | _=>exact(Q3 I a b (by omega) c d (.inl ⟨_,rfl,h⟩)).1
 | _=>
   cases y with
   | tup m=>exact(Q3 I a b (by omega) c d (.inr ⟨_,rfl,g⟩)).1
   | _=>exact nI a b g h c d
theorem ui(I:L2.Inv X pins σ H s)(A:IN)(z:A.units+2<cLine)(x y:PV)(c d:V)(u v:HD)(a:RV ρ H x c)(b:RV ρ H y d)(g:jo x=true)(h:jo y=true)(e:L2.RelV c u)(f:L2.RelV d v):EqAt A s u v (bq x y):=by
 cases x with
 | tup l=>
   cases y with
   | tup m=>
     cases a with
     | tup i j=>
       cases b with
       | tup n o=>
         cases e;cases f;exact(pY I i n j o g h tI (by omega) (λx y c d u v a b p q r w=>AW I A.in1 (O1 A 1 (by omega)) x y c d u v a b p q r w)).2.2
   | _=>exact(Q3 I a b (by omega) e f (.inl ⟨_,rfl,h⟩)).1
 | _=>
   cases y with
   | tup m=>exact(Q3 I a b (by omega) e f (.inr ⟨_,rfl,g⟩)).1
   | _=>exact nI a b g h e f
theorem pZ(I:L2.Inv X pins σ H s)(A:IN)(z:A.units+3<cLine)(x y:PV)(c d:V)(u v:HD)(a:RV ρ H x c)(b:RV ρ H y d)(g:plain x=true)(h:plain y=true)(e:L2.RelV c u)(f:L2.RelV d v):EqAt A s u v (bq x y):=by
 cases x with
 | tup l=>
   cases y with
   | tup m=>
     cases a with
     | tup i j=>
       cases b with
       | tup n o=>
         cases e;cases f;exact(pY I i n j o g h tJ (by omega) (λx y c d u v a b p q r w=>ui I A.in1 (O1 A 2 (by omega)) x y c d u v a b p q r w)).2.2
   | _=>exact(Q3 I a b (by omega) e f (.inl ⟨_,rfl,h⟩)).1
 | _=>
   cases y with
   | tup m=>exact(Q3 I a b (by omega) e f (.inr ⟨_,rfl,g⟩)).1
   | _=>exact nI a b g h e f
end
end Ws
namespace Ws
open PySem PySem.SeqAt L2
section
variable{X:Cx}{cm:Nat->Addr}{pins:List (Addr×Obj)}{σ:L2.St}{H:Hp}{s:HF}{ρ:List Addr}{A:IN}
theorem uj{x y:PV}{f g:V}{u v:HD}(h:RV ρ H x f)(b:RV ρ H y g)(l:N5 x=true)(c:N5 y=true)(d:L2.RelV f u)(a:L2.RelV g v):RcAt A s u v (bq x y)/\LI A s u v (!bq x y):=by
 have m:∀(i j:Int),(i == j)=decide (i=j):=λi j=>by rw[MF]
 have n:∀(i j:Str),(i == j)=decide (i=j):=λi j=>by rw[MF]
 cases h with
 | non=>
   cases d;cases b with
   | non=>cases a;exact⟨RcAt.none_none,LI.none_none⟩
   | int i=>obtain⟨t,rfl⟩:=a;exact⟨RcAt.none_int _ _,LI.none_int _ _⟩
   | str i=>obtain⟨t,rfl⟩:=a;exact⟨RcAt.none_str _ _,LI.none_str _ _⟩
   | _=>simp[N5]at c
 | int i=>
   obtain⟨t,rfl⟩:=d;cases b with
   | non=>cases a;exact⟨RcAt.int_none _ _,LI.int_none _ _⟩
   | int j=>obtain⟨e,rfl⟩:=a;simp only[bq,←m];exact⟨RcAt.int_int _ _ _ _,LI.int_int _ _ _ _⟩
   | str j=>obtain⟨e,rfl⟩:=a;exact⟨RcAt.int_str _ _ _ _,LI.int_str _ _ _ _⟩
   | _=>simp[N5]at c
 | str i=>
   obtain⟨t,rfl⟩:=d;cases b with
   | non=>cases a;exact⟨RcAt.str_none _ _,LI.str_none _ _⟩
   | int j=>obtain⟨e,rfl⟩:=a;exact⟨RcAt.str_int _ _ _ _,LI.str_int _ _ _ _⟩
   | str j=>obtain⟨e,rfl⟩:=a;simp only[bq,←n];exact⟨RcAt.str_str _ _ _ _,LI.str_str _ _ _ _⟩
   | _=>simp[N5]at c
 | _=>simp[N5]at l
theorem qa{f:PV->Bool}{l m:List PV}{vs ws:List V}{b a:List HD}(z:aQ ρ H l vs)(B:aQ ρ H m ws)(g:aE vs b)(c:aE ws a)(C:l.all f=true)(D:m.all f=true)
 (ih:∀x y h n u v,RV ρ H x h->RV ρ H y n->f x=true->f y=true->L2.RelV h u->L2.RelV n v->EqAt A s u v (bq x y)) :
 ∀j (d:j<b.toArray.size) (e:j<a.toArray.size),EqAt A s b.toArray[j] a.toArray[j] (bq (l.getD j .non) (m.getD j .non)):=λj d e=>by
 simp only[HU]at d e;have o:j<vs.length:=by rw[g.length];exact d
 have l2:j<ws.length:=by rw[c.length];exact e
 obtain⟨x,p,E⟩:=z.get' (i:=j) (v:=vs[j]) (by simp[o]);obtain⟨y,q,G⟩:=B.get' (i:=j) (v:=ws[j]) (by simp[l2]);obtain⟨u,r,I⟩:=g.get (i:=j) (x:=vs[j]) (by simp[o]);obtain⟨v,w,J⟩:=c.get (i:=j) (x:=ws[j]) (by simp[l2]);have L:l.getD j .non=x:=by rw[IV,p];rfl
 have N:m.getD j .non=y:=by rw[IV,q];rfl
 have O:b.toArray[j]=u:=by
  rw[HX d]at r;simpa using Iv r
 have Q:a.toArray[j]=v:=by
  rw[HX e]at w;simpa using Iv w
 rw[L,N,O,Q];exact ih x y _ _ u v E G (Ik.mp C x (Io p)) (Ik.mp D y (Io q)) I J
noncomputable def jy(K:HE)(g:Bool->Bool):R2:=λd e H Q=>∃(ρ:List Addr),
 (∃x y,RV ρ H x d/\RV ρ H y e/\plain x=true/\plain y=true/\Q (.bl (g (bq x y))) H)\/(∃b c,d=.bl b/\e=.bl c/\Q (.bl (g (b == c))) H)\/
 (∃a b l m f h,d=.ref a/\e=.ref b/\bv K H a f/\bv K H b h/\aQ ρ H l f/\aQ ρ H m h/\K6 l=true/\K6 m=true/\Q (.bl (g (W4 l m))) H)
theorem uk(hr:X.A.units+64<cLine){B C:V}{u v:HD}{Q:VK}{g:Bool->Bool}(I:L2.Inv X pins σ H s)(r:L2.RelV B u)(w:L2.RelV C v)(h:jy X.K g B C H Q):∃b,RcAt X.A s u v b/\LI X.A s u v (!b)/\Q (.bl (g b)) H:=by
 obtain⟨ρ,h⟩:=h;rcases h with⟨x,y,i,n,Y,Z,q⟩ | ⟨b,c,rfl,rfl,q⟩ | ⟨a,b,l,m,xs,ys,rfl,rfl,D,E,N,O,p1,p2,q⟩
 ·refine⟨bq x y,?_,?_,q⟩<;>
  (cases x with
  | tup l=>
    cases y with
    | tup m=>
      cases i with
      | tup ha N=>
        cases n with
        | tup hb O=>
          cases r;cases w;obtain⟨_,G,T,J⟩:=I.hok _ _ ha;obtain⟨_,p,o,f⟩:=I.hok _ _ hb;have z:G.toArray.size=l.length:=by rw[HU,←T.length,N.length]
          have L:p.toArray.size=m.length:=by rw[HU,←o.length,O.length]
          have U:=qa (A:=X.A.in1) (s:=s) N O T o (show l.all jo=true from Y) (show m.all jo=true from Z) (λx y B C u v i n D E u1 u2=>ui I X.A.in1 (O1 X.A 2 (by omega)) x y B C u v i n D E u1 u2);first
           | (have h:=RcAt.tuples (A:=X.A) (s:=s) (e:=λj=>bq (l.getD j .non) (m.getD j .non)) J f (by omega) U
              rw[z,L,←pX]at h;exact h)
           | (have h:=LI.tuples (A:=X.A) (s:=s) (e:=λj=>bq (l.getD j .non) (m.getD j .non)) J f (by omega) U
              rw[z,L,←pX]at h;exact h)
    | _=>first | exact(Q3 I i n (by omega) r w (.inl ⟨_,rfl,Z⟩)).2.1 | exact(Q3 I i n (by omega) r w (.inl ⟨_,rfl,Z⟩)).2.2
  | _=>
    cases y with
    | tup m=>first | exact(Q3 I i n (by omega) r w (.inr ⟨_,rfl,Y⟩)).2.1 | exact(Q3 I i n (by omega) r w (.inr ⟨_,rfl,Y⟩)).2.2
    | _=>first | exact(uj i n Y Z r w).1 | exact(uj i n Y Z r w).2)
 ·cases r;cases w;exact⟨b == c,RcAt.bool_bool _ _,LI.bool_bool _ _,q⟩
 ·cases r;cases w;obtain⟨G,T,J,_⟩:=I.list D;obtain⟨p,o,f,_⟩:=I.list E;have z:G.toArray.size=l.length:=by rw[HU,←T.length,N.length]
  have L:p.toArray.size=m.length:=by rw[HU,←o.length,O.length]
  refine⟨W4 l m,?_,?_,q⟩
  ·by_cases d:l.length=m.length
   ·have U:=qa (A:=X.A.in1) (s:=s) N O T o p1 p2 (λx y B C u v i n D E u1 u2=>pZ I X.A.in1 (O1 X.A 3 (by omega)) x y B C u v i n D E u1 u2);have h:=RcAt.lists (A:=X.A) (s:=s) (e:=λj=>bq (l.getD j .non) (m.getD j .non)) J.isList f.isList (by rw[z,L,d]) (by omega) U;rw[z,←nH d]at h;exact h
   ·rw[nG d];exact RcAt.lists_lengths J.isList f.isList (by rw[z,L];exact bne_iff_ne.mpr d) (by omega)
  ·by_cases d:l.length=m.length
   ·have U:=qa (A:=X.A.in1) (s:=s) N O T o p1 p2 (λx y B C u v i n D E u1 u2=>pZ I X.A.in1 (O1 X.A 3 (by omega)) x y B C u v i n D E u1 u2);have h:=LI.lists (A:=X.A) (s:=s) (e:=λj=>bq (l.getD j .non) (m.getD j .non)) J.isList f.isList (by rw[z,L,d]) (by omega) U;rw[z,←nH d]at h;exact h
   ·rw[nG d];exact LI.lists_lengths J.isList f.isList (by rw[z,L];exact bne_iff_ne.mpr d) (by omega)
theorem M7(a:X.A.units+64<cLine):bY X (compareOp .Eq) (jy X.K id):=by
 intro pins s σ H x y v u Q I c d q;obtain⟨b,e,_,f⟩:=uk a I c d q;exact e _ _ _ _ ⟨.bl b,H,I,rfl,f⟩
theorem X9(a:X.A.units+64<cLine):bY X (compareOp .NotEq) (jy X.K not):=by
 intro pins s σ H x y v u Q I c d q;obtain⟨b,_,e,f⟩:=uk a I c d q;exact e _ _ _ _ ⟨.bl (!b),H,I,rfl,f⟩
theorem nJ{x y:PV}{B i:PHp}{b:Bool}{j o:V}{Q:VK}{g:Bool->Bool}(u:aV X.K cm ρ B H)(d:RV ρ H x j)(e:RV ρ H y o)(h:pc x y B=.ok b i)(q:Q (.bl (g b)) H):i=B/\jy X.K g j o H Q:=by
 have f:∀x y,RV ρ H x j->RV ρ H y o->G0 (nh x y=true\/(plain x=true/\plain y=true)) (ret (bq x y)) B=.ok b i->i=B/\jy X.K g j o H Q:=λx y d e h=>by
  obtain⟨c,h⟩:=C9 h;cases h;refine⟨rfl,ρ,?_⟩;rcases c with c | c
  ·cases x with
   | bl v=>
     cases y with
     | bl w=>cases d;cases e;exact .inr (.inl ⟨v,w,rfl,rfl,q⟩)
     | _=>simp[nh]at c
   | _=>simp[nh]at c
  ·exact .inl ⟨x,y,d,e,c.1,c.2,q⟩
 cases x with
 | ref n=>
   cases y with
   | ref k=>
     obtain⟨l,T,z,C⟩:=B0 h;obtain⟨rfl,a,D,rfl,E,r⟩:=K4 u d z;obtain⟨m,U,G,I⟩:=B0 C;obtain⟨rfl,J,L,rfl,p,N⟩:=K4 u e G;obtain⟨c,O⟩:=C9 I;cases O;exact⟨rfl,ρ,.inr (.inr ⟨a,J,l,m,D,L,rfl,rfl,E,p,r,N,c.1,c.2,q⟩)⟩
   | _=>exact f _ _ d e h
 | _=>cases y<;>exact f _ _ d e h
theorem Q4:V7 X.K cm cF (jy X.K id):=λρ B H x y z h l m Q a d e i k=>by
 obtain⟨b,n,f,c⟩:=B0 i;cases c;have j:h=B:=(nJ (g:=id) (Q:=λ_ _=>True) a d e f trivial).1;subst j;exact(nJ (g:=id) a d e f (k ρ H _ (aC.refl _ _) a (.bl b))).2
theorem o4:V7 X.K cm dO (jy X.K not):=λρ B H x y z h l m Q a d e i k=>by
 obtain⟨b,n,f,c⟩:=B0 i;cases c;have j:h=B:=(nJ (g:=not) (Q:=λ_ _=>True) a d e f trivial).1;subst j;exact(nJ (g:=not) a d e f (k ρ H _ (aC.refl _ _) a (.bl _))).2
noncomputable def nK(K:HE)(b:Bool):R2:=λc d H Q=>∃(ρ:List Addr)(x:PV)(a:Addr)(l:List PV)(xs:List V),RV ρ H x c/\d=.ref a/\(bv K H a xs\/cD K H a xs)/\aQ ρ H l xs/\plain x=true/\K6 l=true/\Q (.bl (if b then !fA x l else fA x l)) H
noncomputable def iS(ρ:List Addr)(H:Hp)(x:PV)(u:HD):Bool:=@decide (∃y a,L2.RelV a u/\RV ρ H y a/\plain y=true/\bq y x=true) (KW _)
theorem um{x y:PV}{a:V}{u:HD}(b:L2.RelV a u)(c:RV ρ H y a)(d:plain y=true):iS ρ H x u=bq y x:=by
 unfold iS;cases e:bq y x with
 | true=>exact@decide_eq_true _ (KW _) ⟨y,a,b,c,d,e⟩
 | false=>
   refine@decide_eq_false _ (KW _) λg=>?_;obtain⟨z,l,h,i,j,f⟩:=g;have:=h.inj b;subst this;have:=RV.uniq i c (i0 _ j) (i0 _ d);subst this;rw[e]at f;cases f
theorem o5{x:PV}:∀{l:List PV}{xs:List V}{us:List HD},aQ ρ H l xs->aE xs us->K6 l=true->us.any (iS ρ H x)=fA x l
 | _,_,_,.nil,.nil,_=>rfl
 | _,_,_,.cons h r,.cons b c,p=>by
   have a:=p;unfold K6 at a;rw[Lq,HZ]at a;rw[KC,um b h a.1,o5 r c a.2];rfl
theorem o6{x:PV}{d:V}{v:HD}(I:L2.Inv X pins σ H s)(A:IN)(b:A.units+3<cLine)(e:RV ρ H x d)(f:plain x=true)(g:L2.RelV d v):∀{l:List PV}{xs:List V}{us:List HD},aQ ρ H l xs->aE xs us->K6 l=true->∀u∈us,EqAt A s u v (iS ρ H x u)
 | _,_,_,.nil,.nil,_=>λu b=>by cases b
 | _,_,_,.cons h r,.cons i j,p=>λu c=>by
   have a:=p;unfold K6 at a;rw[Lq,HZ]at a;rcases HK.mp c with rfl | c
   ·rw[um i h a.1];exact pZ I A b _ _ _ _ _ _ h e a.1 f i g
   ·exact o6 I A b e f g r j a.2 u c
theorem i6(p:X.A.units+64<cLine):bY X (compareOp .In) (nK X.K false):=by
 intro pins s σ H x y v u Q I i n h;obtain⟨ρ,z,a,l,B,j,rfl,b,r,m,d,q⟩:=h;cases n;rcases b with b | b
 ·obtain⟨e,c,f,o⟩:=I.list b;refine in_listAt (iS ρ H z) f.isList (λw g=>o6 I X.A.in1 (O1 X.A 3 (by omega)) j m i r c d w (by simpa using g)) ⟨.bl _,H,I,rfl,?_⟩;rw[KZ,o5 r c d];exact q
 ·obtain⟨e,c,f,o⟩:=I.tuple b;refine in_tupleAt (iS ρ H z) f (λw g=>o6 I X.A.in1 (O1 X.A 3 (by omega)) j m i r c d w (by simpa using g)) ⟨.bl _,H,I,rfl,?_⟩;rw[KZ,o5 r c d];exact q
theorem uo(p:X.A.units+64<cLine):bY X (compareOp .NotIn) (nK X.K true):=by
 intro pins s σ H x y v u Q I i n h;obtain⟨ρ,z,a,l,B,j,rfl,b,r,m,d,q⟩:=h;cases n;rcases b with b | b
 ·obtain⟨e,c,f,o⟩:=I.list b;refine notIn_listAt (iS ρ H z) f.isList (λw g=>o6 I X.A.in1 (O1 X.A 3 (by omega)) j m i r c d w (by simpa using g)) ⟨.bl _,H,I,rfl,?_⟩;rw[KZ,o5 r c d];exact q
 ·obtain⟨e,c,f,o⟩:=I.tuple b;refine notIn_tupleAt (iS ρ H z) f (λw g=>o6 I X.A.in1 (O1 X.A 3 (by omega)) j m i r c d w (by simpa using g)) ⟨.bl _,H,I,rfl,?_⟩;rw[KZ,o5 r c d];exact q
theorem hZ:V7 X.K cm eU (nK X.K false):=λρ B H x y z n o p Q e f g h k=>by
 obtain⟨l,q,i,b⟩:=B0 h;obtain⟨rfl,a,j,rfl,m,r⟩:=n8 e g i;obtain⟨c,d⟩:=C9 b;cases d;exact⟨ρ,x,a,l,j,f,rfl,m,r,c.1,c.2,k ρ H _ (aC.refl _ _) e (.bl _)⟩
theorem uq:V7 X.K cm kQ (nK X.K true):=λρ B H x y z n o p Q e f g h k=>by
 obtain⟨l,q,i,b⟩:=B0 h;obtain⟨rfl,a,j,rfl,m,r⟩:=n8 e g i;obtain⟨c,d⟩:=C9 b;cases d;exact⟨ρ,x,a,l,j,f,rfl,m,r,c.1,c.2,k ρ H _ (aC.refl _ _) e (.bl _)⟩
noncomputable def jz:Ty->String
 | .int=>"int"
 | .bool=>"bool"
 | .tuple=>"tuple"
 | .list=>"list"
structure nL(K:HE):Prop where
 t (a b:String) (ha:a∈["NoneType","bool","int","str","list","tuple"]) (hb:b∈["int","bool","tuple","list"]):Pb K (.type a) (.type b)=some (a == b||(a == "bool"&&b == "int"))
noncomputable def AX(K:HE)(t:Ty):List V->Hp->VK->Prop:=λb H Q=>∃v a,b=[v,.ty (jz t)]/\a∈["NoneType","bool","int","str","list","tuple"]/\fy K H v (.type a)/\Q (.bl (a == jz t||(a == "bool"&&jz t == "int"))) H
theorem AY(a:nL X.K)(t:Ty):bo X (.builtin "isinstance") (AX X.K t):=by
 intro pins s σ H i j Q I r h;obtain⟨v,d,rfl,e,b,q⟩:=h;obtain⟨u,w,rfl,f,c⟩:=mS r;cases c;exact sF I f b (a.t d (jz t) e (by cases t<;>simp[jz])) λg=>⟨.bl _,H,I.tok g,rfl,q⟩
theorem V9{e:Expr}{d:ED}{t:Ty}{j:Str}{p p2 u:Pos}(w:nL X.K)(he:PE X e (aB X.K cm d))(N:Gl X "isinstance")(O:X.mg "isinstance" = none)(y:Gl X j)(B:X.mg j=none)(C:bootBuiltins j=some (.type (jz t)))
 (hs:starEach [e,.Name j p2] X.env=(false,eval e X.env)::starEach [.Name j p2] X.env:=by exact D8 rfl) (D:starEach [Qm j p2] X.env=(false,eval (.Name j p2) X.env)::starEach [] X.env:=by exact D8 rfl) (hpl:(backTo u (starEach [Qm j p2] X.env)).any (·.1)=false:=by rfl)
 (L:j≠"__name__":=by decide) (E:(j == ("__debug__" : Str))=false:=by decide) :
 PE X (.Call (.Name "isinstance" p) [e,.Name j p2] [] u) (aB X.K cm (g8 d t)):=
 E7 (X1 (AY w t) N O MU (kP he (kP (se (v:=.ty (jz t)) y B C rfl L E) oQ D) hs) (he:=hs) (hpl:=hpl)) λσ H Q T=>by
  obtain⟨ρ,A,G,v,A',U,Y,Z,k⟩:=T;obtain⟨x,A1,e1,I⟩:=B0 Z;obtain⟨b,A2,m,J⟩:=B0 I;cases J;refine⟨ρ,A,G,x,A1,U,Y,e1,λg o v1 q f h=>?_⟩;cases x with
  | non=>cases h;cases t<;>cases m<;>exact⟨_,"NoneType",rfl,by simp,.non,k g o _ q f (.bl _)⟩
  | bl c=>cases h;cases t<;>cases m<;>exact⟨_,"bool",rfl,by simp,.bl c,k g o _ q f (.bl _)⟩
  | int i=>cases h;cases t<;>cases m<;>exact⟨_,"int",rfl,by simp,.int i,k g o _ q f (.bl _)⟩
  | str z=>cases h;cases t<;>cases m<;>exact⟨_,"str",rfl,by simp,.str z,k g o _ q f (.bl _)⟩
  | tup l=>
    cases h with
    | tup ha r=>cases t<;>cases m<;>exact⟨_,"tuple",rfl,by simp,.tup ha,k g o _ q f (.bl _)⟩
  | ref n=>
    cases t<;>
    (obtain⟨l,A3,e3,e4⟩:=B0 m
     obtain⟨rfl,hA,a,xs,rfl,L,hH,r⟩:=N7 f h e3;cases e4;exact⟨_,"list",rfl,by simp,.lst hH,k g o _ q f (.bl _)⟩)
end
end Ws
namespace Ws
open PySem L2
theorem ur{X:Cx}{a:List (Addr×Obj)}{σ:L2.St}{H:Hp}{s:HF}{h':Heap}{t':Nat}{fp:List Addr}{T:Addr}{o:HO}(I:L2.Inv X a σ H s)(i:∀b∈fp,fw X a H b)
 (k:∀b u,b∉fp->s.heap.get? b=some u->h'.get? b=some u) (j:s.heap.objs.size<=T) (new:aO X.prog X.w (aF H T o) h' T o):L2.Inv X a σ (aF H T o) { s with heap:=h',toks:=t' }:=by
 have f:H T=none:=I.hok.fresh j;have neT:∀b u,s.heap.get? b=some u->b≠T:=λb u e=>HS (Ig (HJ e) j);have g:∀b u,H b=some u->b∉fp:=λb u e z=>by rw[(i b z).1]at e;cases e
 refine I.step (g':=s.gens) (d':=s.drawn) (ch:=fp) (λb h=>?_) (λb u _ _ d e _=>k b u d e) (λb u _ _ d e _=>⟨u.slots,k b u d e⟩) (λb u d e n=>by rw[D3 (neT b u e)];exact n) (λb u d e=>⟨u,k b u d e⟩)
  (λb x e=>by rw[D3 (I9 e f)];exact e) (λb u x e=>by rw[D3 (I9 e f)];exact e) (λb N e=>⟨#[],by rw[D3 (I9 e f),e];simp⟩) (λm A=>?_) (λb u e=>?_) I.bare
 ·obtain⟨_,B,_,C,D,E⟩:=i b h;exact⟨C,B,D,E⟩
 ·obtain⟨y,G,J,L,r⟩:=A;exact⟨y,G,J,k _ y (λz=>(i _ z).2.1 rfl) L,r⟩
 ·by_cases h:b=T
  ·subst h;rw[C8]at e;cases e;exact new
  ·rw[D3 h]at e;refine(I.hok b u e).stay (λc v d q=>k c v ?_ q) (λc q=>by rw[D3 (I9 q f)];exact q) λc x q=>by rw[D3 (I9 q f)];exact q
   rcases d with rfl | d
   ·exact g c u e
   ·exact g c _ d
theorem ut{X:Cx}{a:List (Addr×Obj)}{σ:L2.St}{H:Hp}{s:HF}{h':Heap}{t':Nat}{fp:List Addr}(I:L2.Inv X a σ H s)(g:∀b∈fp,fw X a H b)
 (k:∀b u,b∉fp->s.heap.get? b=some u->h'.get? b=some u):L2.Inv X a σ H { s with heap:=h',toks:=t' }:=by
 have f:∀b u,H b=some u->b∉fp:=λb u e z=>by rw[(g b z).1]at e;cases e
 refine I.step (g':=s.gens) (d':=s.drawn) (ch:=fp) (λb o=>?_) (λb u _ _ d e _=>k b u d e) (λb u _ _ d e _=>⟨u.slots,k b u d e⟩) (λb u d e n=>n) (λb u d e=>⟨u,k b u d e⟩)
  (λb j e=>e) (λb u j e=>e) (λb E e=>⟨#[],by rw[e];simp⟩) (λm p=>?_) (λb u e=>?_) I.bare
 ·obtain⟨_,w,_,x,y,A⟩:=g b o;exact⟨x,w,y,A⟩
 ·obtain⟨l,B,C,D,r⟩:=p;exact⟨l,B,C,k _ l (λz=>(g _ z).2.1 rfl) D,r⟩
 ·refine(I.hok b u e).stay (λc v d q=>k c v ?_ q) (λc q=>q) λc j q=>q;rcases d with rfl | d
  ·exact f c u e
  ·exact f c _ d
theorem AZ{P:Ib}{w:IW}{K:HE}{elts:List Expr}{x1:Nat}{pos:Pos}(a e it:Addr)(hei:e≠it):jj P w K (.Tuple elts x1 pos) (pT K a) [e,it] e (λi h=>(∃old,IsEnum h e it i old)/\h.IsListIter it a i) where
 mem:=by simp
 obj:=λi h st b hb=>by
  obtain⟨⟨old,he⟩,o,e1,c,d⟩:=st;rcases HK.mp hb with rfl | hb
  ·exact⟨_,he,λv z=>by cases z⟩
  ·have e2:b=it:=by simpa using hb
   subst e2;exact⟨o,e1,λv z=>by rw[d]at z;cases z⟩
 keep:=λi h h' st k=>by
  obtain⟨⟨old,he⟩,hit⟩:=st;exact⟨⟨old,k e (by simp) _ he⟩,hit.at λo x=>k it (by simp) o x⟩
 item:=by
  intro X hP hw hK hc i pins s σ H E I hf st hg;subst hP hw hK;obtain⟨xs,x,hq,hx⟩:=hg;obtain⟨its,rv,p,hz⟩:=I.list hq;obtain⟨u,hu,ru⟩:=rv.get hx;obtain⟨⟨old,he⟩,hit⟩:=st;have el:=HJ he;refine wpAny_pyNext_enum_item he hit p.isList (x:=u) (by simpa using hu) hei λh' ho hit' hT hsz hk=>?_;refine⟨.ref s.heap.objs.size,rfl,wpAny_letOwnedTupleGo_enum (s:={ s with heap:=h',toks:=s.toks+1 }) ho λh2 he2 hs2=>?_⟩;have sb:∀b u,b≠e->h'.get? b=some u->h2.get? b=some u:=λb u hb q=>(hs2.2 b hb).trans q;have hTe:s.heap.objs.size≠e:=JU el;have I2:L2.Inv X pins σ (aF H s.heap.objs.size (.tup [.int i,x])) { s with heap:=h2,toks:=s.toks+1 }:=by
   refine ur (s:=s) (t':=s.toks+1) I hf (λb u hb q=>?_) (HG _) ?_
   ·have h1:b≠e:=λz=>hb (by simp[z]);have h2:b≠it:=λz=>hb (by simp[z]);exact sb b u h1 (hk b u h1 h2 q)
   ·exact⟨by show 2<=sizeLine;decide,[.int i s.toks,u],.cons ⟨_,rfl⟩ (.cons ru .nil),_,sb _ _ hTe hT,rfl,_,rfl⟩
  refine⟨.ref s.heap.objs.size,aF H s.heap.objs.size (.tup [.int i,x]),I2,rfl,⟨x,s.heap.objs.size,λys hy=>by rw[I.list_inj hy hq];exact hx,I.hok.fresh (HG _),rfl,rfl⟩,⟨⟨u,by exact_mod_cast he2⟩,hit'.at λo y=>sb it o hei.symm y⟩,λb hb=>?_⟩
  ·rw[D3]
   ·exact(hf b hb).1
   ·rcases HK.mp hb with rfl | hb
    ·exact hTe.symm
    ·have e2:b=it:=by simpa using hb
     subst e2;obtain⟨_,y,_⟩:=hit;exact HS (HJ y)
 done:=by
  intro X hP hw hK hc i pins s σ H E I hf st hg;subst hP hw hK;obtain⟨xs,hq,hx⟩:=hg;obtain⟨its,rv,p,hz⟩:=I.list hq;obtain⟨⟨old,he⟩,hit⟩:=st;have hl:=rv.length;exact wpAny_pyNext_enum_end (I.ok.hd hc) he hit p.isList (by rw[JC];simp;omega) λh' eb=>⟨rfl,ut (t':=s.toks) I hf λb u hb q=>eb b u (λz=>hb (by simp[z])) q⟩
 self:=λ_ _ _ _ _ st h=>by
  obtain⟨⟨old,he⟩,_⟩:=st;exact wpAny_pyIter_enum he h
section
variable{X:Cx}{cm:Nat->Addr}
theorem uu{l:Expr}{d:ED}{g:List Expr}{C:Nat}{i p j:Pos}(hg:Gl X "enumerate")(hm:X.mg "enumerate" = none)(hl:PE X l (aB X.K cm d))(hs:starEach [l] X.env=(false,eval l X.env)::starEach [] X.env:=by exact D8 rfl):L2.PI X (.Tuple g C i) (.Call (.Name "enumerate" p) [l] [] j) (jx X.K cm (nj d)):=by
 intro c s Q H R I h;obtain⟨ρ,A,o,J,A',rl,rs,ev,k⟩:=h;obtain⟨x,A1,e1,v⟩:=B0 ev;refine NA (S6 I hg hm PyProof.Rows.boot_enumerate (JP (aP ((ae hl am hs) j c s Q H (λT e=>∃a z,T=[.ref a]/\bv X.K e a z/\R (pT X.K a) e) I ⟨ρ,A,o,[x],A1,rl,rs,by show ap (d o) _ A=_;rw[aD e1];rfl,λD e a9 C w E=>?_⟩) λus f zq=>?_) hs rfl))
 ·cases x with
  | ref n=>
    obtain⟨m,A2,e2,G⟩:=B0 v;cases E with
    | cons U hr=>
      cases hr;obtain⟨rfl,a,z,rfl,L,r⟩:=K4 w U e2;cases G;cases U with
      | ref hn=>exact⟨a,z,rfl,L,k D e _ C w ⟨a,hn,rfl⟩⟩
  | _=>cases v
 ·obtain⟨T,e,B,r1,q1⟩:=zq;obtain⟨a,z,rfl,L,q⟩:=q1;obtain⟨u,rfl,rx⟩:=l9 r1;cases rx;obtain⟨c2,rv,pl,hz⟩:=B.list L;refine call_enumerate_list pl.isList λh' Y N d1 kp=>?_;refine wpAny_pyIter_enum Y ?_;have I2:L2.Inv X c Q e { f with heap:=h' }:=B.kept (t':=f.toks) kp;refine⟨f.heap.objs.size+1,[f.heap.objs.size+1,f.heap.objs.size],_,_,e,rfl,I2,AZ a _ _ (Nat.succ_ne_self _),⟨⟨_,Y⟩,N⟩,λb O=>?_,q⟩;have y:f.heap.objs.size<=b:=by
   rcases HK.mp O with rfl | O
   ·exact JQ _
   ·have:b=f.heap.objs.size:=by simpa using O
    exact OK this.symm
  exact B.fpOk y (B.hok.fresh y)
end
structure ck(P:Ib)(w:IW)(K:HE)(mg:Str->Option HD)(base:Heap)(cm:Nat->Addr)(x:Str)(k:Nat)(ps:List Str)(f:Fun)(n:Nat):Prop where
 ex:∃(fa:Addr)(fd:Ia),az P w K mg base aX k fa fd ps (aZ K cm f n)/\mg x=some (.ref fa)/\Kq K (.ref fa)=true/\L2.Binds K fd ps []
 len:∀vs A v A',f vs A=.ok v A'->vs.length=n
structure i7(P:Ib)(w:IW)(K:HE)(mg:Str->Option HD)(base:Heap)(cm:Nat->Addr)(c:Nat)(m:Str)(k:Nat)(ps:List Str)(f:Fun)(n:Nat):Prop where
 ex:∃(fa:Addr)(fd:Ia),az P w K mg base aX k fa fd ps (aZ K cm f n)/\iL K (cm c) m fa/\L2.Binds K fd ps []
 len:∀vs A v A',f vs A=.ok v A'->vs.length=n
structure jA(P:Ib)(w:IW)(K:HE)(mg:Str->Option HD)(base:Heap)(cm:Nat->Addr)(c:Nat)(x:Str)(k:Nat)(ps:List Str)(f:Fun)(n:Nat):Prop where
 ex:∃(fa:Addr)(fd:Ia),az P w K mg base aX k fa fd ps (aZ K cm f n)/\L2.Mk K (cm c) fa/\mg x=some (.ref (cm c))/\L2.Binds K fd ps []
 len:∀vs A v A',f vs A=.ok v A'->vs.length=n/\v=.non
section
variable{X:Cx}{cm:Nat->Addr}
theorem ay{f:Fun}{n k d:Nat}{ps:List Str}{x:Str}{e:Expr}{es:List Expr}{g:AD}{p a:Pos}(D:ck X.prog X.w X.K X.mg X.base cm x k ps f n)(h:k<=d)(i:aR d X.A)(j:Gl X x)
 (l:PA X (e::es) (dQ X.K cm g)) (b:(x == ("__debug__" : Str))=false:=by decide) (he:starEach (e::es) X.env=(false,eval e X.env)::starEach es X.env:=by exact D8 rfl) (hpl:(backTo a (starEach es X.env)).any (·.1)=false:=by rfl) :
 PE X (.Call (.Name x p) (e::es) [] a) (aB X.K cm (G9 f g)):=by
 obtain⟨q,r,F,m,c,o⟩:=D.ex;exact AN F D.len (i.mono h) j m c o l b he hpl
theorem bg{c:Nat}{f:Fun}{n k j:Nat}{ps:List Str}{m:Str}{o e:Expr}{es:List Expr}{d:ED}{l:AD}{b a:Pos}{pl:Sem Bool}(D:i7 X.prog X.w X.K X.mg X.base cm c m k ps f n)(p:k<=j)(q:aR j X.A)(r:eu X.K (cm c))(s:PE X o (aB X.K cm d))(u:PA X (e::es) (dQ X.K cm l))(g:∀i,i<19->cs i≠m)
 (h:starEach (e::es) X.env=(false,eval e X.env)::starEach es X.env:=by exact D8 rfl) (hpl:(backTo a (starEach es X.env)).any (·.1)=false:=by rfl)
 (v:eval (.Call (.Attribute o m b) (e::es) [] a) X.env=(do
  let ov ←eval o X.env
  standAt b.atName
  let(f,first) ←holding [ov] (getMethod ov m pl)
  callWith a f first (backTo a (starEach (e::es) X.env)) (backToKw a (keywordEach [] X.env))):=by rfl) :
 PE X (.Call (.Attribute o m b) (e::es) [] a) (aB X.K cm (Q0 c f d l)):=by
 obtain⟨z,B,F,x,y⟩:=D.ex;exact AO (pl:=pl) s r x F D.len g (q.mono p) y u h hpl v
theorem lv{c:Nat}{f:Fun}{n k d:Nat}{ps:List Str}{x:Str}{e:Expr}{es:List Expr}{g:AD}{p a:Pos}(D:jA X.prog X.w X.K X.mg X.base cm c x k ps f n)(h:k+1<=d)(i:aR d X.A)
 (j:Gl X x) (l:PA X (e::es) (dQ X.K cm g)) (b:(x == ("__debug__" : Str))=false:=by decide) (he:starEach (e::es) X.env=(false,eval e X.env)::starEach es X.env:=by exact D8 rfl) (hpl:(backTo a (starEach es X.env)).any (·.1)=false:=by rfl) (m:c<7:=by decide) :
 PE X (.Call (.Name x p) (e::es) [] a) (aB X.K cm (hV c f g)):=by
 obtain⟨s,u,F,o,q,r⟩:=D.ex;exact AR m o F D.len (i.mono h) j q r l b he hpl
theorem uv{x:Str}{i:Int}{a:Pos}(c:Gl X x)(b:∃t,X.mg x=some (.int i t))(d:(x == ("__debug__" : Str))=false:=by decide):PE X (.Name x a) (aB X.K cm (eK (.int i))):=by
 obtain⟨t,b⟩:=b;exact kr (sd c b (show L2.RelV (.int i) (.int i t)from⟨t,rfl⟩) d) λ_ _=>.int i
end
structure K0(K:HE)(mg:Str->Option HD)(cm:Nat->Addr):Prop where
 kit:nL K
 cls:∀c,c<7->eu K (cm c)
 na:∀c i,i<19->c<7->bA K (cm c) (cs i)
 b_len:mg "len" = none
 b_range:mg "range" = none
 b_list:mg "list" = none
 b_sorted:mg "sorted" = none
 b_isinstance:mg "isinstance" = none
 b_int:mg "int" = none
 b_bool:mg "bool" = none
 b_tuple:mg "tuple" = none
 b_enumerate:mg "enumerate" = none
 b_reversed:mg "reversed" = none
 b_max:mg "max" = none
 b_min:mg "min" = none
 b_all:mg "all" = none
 b_any:mg "any" = none
 b_set:mg "set" = none
 b_zip:mg "zip" = none
 b_dict:mg "dict" = none
section
variable{prog:Ib}{w:IW}{A:IN}{R:PL->HF->Prop}{s:HF}
abbrev uw(b:List Expr)(a:Env):Sem Bool:=forIn b true λc r=>if r=true then do let ok ←isTrue c a (eval c a);pure (ForInStep.yield ok) else pure (ForInStep.yield r)
theorem Ba{u a iter:Expr}{y:List Expr}{c:NW}{B:Pos}{J z:HD}{b:Env}(I:Nat->HF->Prop)
 (C:∀n s,I n s->wpAny (model prog w) A (pyNext J) (λr d=>match r with
  | none=>R (.ok .next) d
  | some v=>wpAny (model prog w) A (letOwnedTupleGo a J v) (λ_ i=>wpAny (model prog w) A (assign a b v) (λ_ j=>
   wpAny (model prog w) A (uw y b) (λok f=>
    if ok=true then wpAny (model prog w) A (eval u b) (λx l=>
     wpAny (model prog w) A (call (.builtin "list.append") [z,x]) (λ_ o=>∃m,m<n/\I m o) (λ_ _=>False) l) (λ_ _=>False) f
    else ∃m,m<n/\I m f) (λ_ _=>False) j) (λ_ _=>False) i) (λ_ _=>False) d) (λ_ _=>False) s)
 (n:Nat) (h:I n s):codeAny (model prog w) A (.compLoop (.ListComp u [⟨a,iter,y,0⟩] c B) 0 J z b) R s:=by
 have Q:∀{L:HD->HF->Prop}{e:HD}{N:HF},False->L e N:=λh=>h.elim;refine codeAny_loop rfl I (λn s O=>?_) n h;show wpAny _ A ((compTurn (.ListComp u [⟨a,iter,y,0⟩] c B) 0 J z b).onRaise (λx=>do noteFrame x b;theTreesLotGoes x)) _ _ s;refine wpAny_noted ?_;rw[compTurn_list];refine Hz (Oh (Hz (IJ (C n s O) (λr d p=>?_) λ_ _ g=>g.elim)));cases r with
 | none=>exact HB p
 | some v=>
   refine Hz (IJ p (λ_ i D=>?_) λ_ _ g=>g.elim);refine Hz (IJ D (λ_ j E=>Hz (IJ E (λok f q=>?_) λ_ _ g=>g.elim)) λ_ _ g=>g.elim);cases ok with
   | false=>exact HB ⟨rfl,q⟩
   | true=>
     exact Hz (Hz (IJ q (λx l G=>Hz (IJ G (λ_ o H=>HB (HB ⟨rfl,H⟩)) λ_ _ g=>g.elim)) λ_ _ g=>g.elim))
end
noncomputable def fG(X:Cx)(N:List Str)(scope:NW)(cl:List (Str×Addr))(C:Addr)(s₀:HF)(H₀:Hp)(fp:List Addr):Cx where
 prog:=X.prog
 w:=X.w
 K:=X.K
 mg:=X.mg
 base:=X.base
 A:=X.A
 N:=N
 s₀:=s₀
 H₀:=H₀
 env:=compEnvC scope cl C X.env
 outer:=X.stack
 stack:=X.stack
 ex:=fp
 fn:=λ_=>false
 calm:=X.calm
 pn:=[]
 xe:=λ_ _=>False
inductive bc (X:Cx) (scope:NW) (cl:List (Str×Addr)):List Str->List (Option Nat)->Prop where
 | nil:bc X scope cl [] []
 | own {x:Str} {N:List Str} {js:List (Option Nat)} (h:bc X scope cl N js):bc X scope cl (x::N) (none::js)
 | free {x:Str} {j:Nat} {N:List Str} {js:List (Option Nat)} (h1:X.N[j]?=some x) (h2:X.env.kindOf x=some .cell\/X.env.kindOf x=some .free) (h3:kg X.env.scope x) (h4:cl.lookup x=X.env.cells.lookup x) (h5:(relabel scope X.env).names.lookup x=some .cell\/(relabel scope X.env).names.lookup x=some .free) (h:bc X scope cl N js):bc X scope cl (x::N) (some j::js)
theorem bc.len{X:Cx}{a:NW}{c:List (Str×Addr)}:∀{N:List Str}{b:List (Option Nat)},bc X a c N b->b.length=N.length
 | _,_,.nil=>rfl
 | _,_,.own h=>by simp[h.len]
 | _,_,.free _ _ _ _ _ h=>by simp[h.len]
theorem bc.get{X:Cx}{f:NW}{m:List (Str×Addr)}:∀{N:List Str}{n:List (Option Nat)}{i j:Nat}{x:Str},bc X f m N n->N[i]?=some x->n[i]?=some (some j)->X.N[j]?=some x/\(X.env.kindOf x=some .cell\/X.env.kindOf x=some .free)/\kg X.env.scope x/\m.lookup x=X.env.cells.lookup x/\((relabel f X.env).names.lookup x=some .cell\/(relabel f X.env).names.lookup x=some .free)
 | _,_,_,_,_,.nil,h,_=>by simp at h
 | _,_,0,_,_,.own _,_,h=>by simp at h
 | _,_,i+1,_,_,.own h,g,l=>bc.get (i:=i) h (by simpa using g) (by simpa using l)
 | _,_,0,_,_,.free a b c d e _,g,l=>by simp at g l;subst g;subst l;exact⟨a,b,c,d,e⟩
 | _,_,i+1,_,_,.free _ _ _ _ _ h,g,l=>bc.get (i:=i) h (by simpa using g) (by simpa using l)
theorem ux{c:Type}{b:List (Option Nat)}{σ:List (Option c)}{i:Nat}{v:c}(h:(bU b σ)[i]?=some (some v)):∃j,b[i]?=some (some j)/\σ[j]?=some (some v):=by
 unfold bU at h;rw[Ij]at h;rcases e:b[i]? with _ | (_ | j)
 ·rw[e]at h;cases h
 ·rw[e]at h;cases h
 ·rw[e]at h;refine⟨j,rfl,?_⟩;have a:σ.getD j none=some v:=Iv h;rw[IV]at a;rcases d:σ[j]? with _ | o
  ·rw[d]at a;cases a
  ·rw[d]at a;exact congrArg some a
theorem bV.bst{b:List Addr}{H:Hp}{a:PSt}{σ:L2.St}(h:bV b H a σ)(c:List (Option Nat)):bV b H (Ws.bU c a) (Ws.bU c σ):=by
 refine⟨by simp[Ws.bU],λi p d=>?_⟩;obtain⟨j,e,f⟩:=ux d;obtain⟨v,g,l⟩:=h.get j p f;refine⟨v,?_,l⟩;unfold Ws.bU;rw[Ij,e];show some (σ.getD j none)=_;rw[IV,g];rfl
structure lw(X:Cx)(scope:NW)(cl:List (Str×Addr)):Prop where
 kind:scope.kind=.function
 clos:closureFor scope X.env=pure cl
 nocell:∀y∈scope.names,y.2≠.cell
 names:∀y∈scope.names,y.2=.local->scope.names.lookup y.1=some .local
 sub:∀p∈cl,X.env.cells.lookup p.1=some p.2
 has:∀y∈scope.names,y.2=.free->(cl.lookup y.1).isSome=true
theorem Bb{X:Cx}{a:NW}{f:List (Str×Addr)}(S:lw X a f){x:Str}(h:(relabel a X.env).names.lookup x=some .cell\/(relabel a X.env).names.lookup x=some .free):∃c,f.lookup x=some c:=by
 have d:∀k,(x,k)∈(relabel a X.env).names->k=.cell\/k=.free->∃c,f.lookup x=some c:=λk g l=>by
  unfold relabel at g;obtain⟨⟨n,m⟩,i,e⟩:=HQ.mp g;dsimp only at e;have b:n=x/\m=.free:=by
   split at e
   ·rename_i j;cases e;simp only[HZ,beq_iff_eq]at j;exact⟨rfl,j.1.1⟩
   ·cases e;rcases l with rfl | rfl
    ·exact absurd rfl (S.nocell _ i)
    ·exact⟨rfl,rfl⟩
  obtain⟨rfl,rfl⟩:=b;exact LW.mp (S.has _ i rfl)
 rcases h with h | h
 ·exact d _ (Ju h) (.inl rfl)
 ·exact d _ (Ju h) (.inr rfl)
section
variable{X:Cx}{cm:Nat->Addr}{pins:List (Addr×Obj)}{σ:L2.St}{H:Hp}{s:HF}
theorem Bc{N:List Str}{J:List (Option Nat)}{a:NW}{l:List (Str×Addr)}{C:Addr}{fp:List Addr}{h':Heap}{t':Nat}{m:Str->Option HD}(S:lw X a l)(Fr:bc X a l N J)(I:L2.Inv X pins σ H s)(n:∀b∈fp,fw X pins H b)(w:∀b∈fp,b<s.heap.objs.size)
 (A:s.heap.objs.size<=C) (L:∀b u,s.heap.get? b=some u->h'.get? b=some u) (B:h'.Ns C m):L2.Inv (fG X N a l C s H fp) [] (Ws.bU J σ) H { s with heap:=h',toks:=t' }:=by
 have D:L2.Inv X pins σ H { s with heap:=h',toks:=t' }:=I.kept L;have sub:∀x c,l.lookup x=some c->X.env.cells.lookup x=some c:=λx c e=>S.sub (x,c) (Ju e);refine⟨⟨I.ok.mod,S.kind,I.ok.glob,I.ok.blt,A,λx y c E G=>I.ok.inj x y c (sub x c E) (sub y c G),λx O=>Bb S O,λx c h=>(nomatch h),I.ok.hd,I.ok.frames,.inl rfl,λb d=>⟨HS (Ig (w b d) A),λx c e=>(n b d).2.2.2.2.1 x c (sub x c e)⟩,
  I.bs,Ih I.ok.bsz I.sz,λb o e d=>?_,λb d Q=>?_,I.stack,I.stkFree⟩,rfl,I.bare,Un.kept L,⟨m,B,λi x v E G h3=>?_⟩,λx c e=>D.cell x c (sub x c e),I.hok.fresh A,λx c e=>I.freeC x c (sub x c e),λp T=>absurd (show p∈([]:List (Addr×Obj))from T) (by simp),D.hok,by simp[Ws.bU,Fr.len,fG]⟩
 ·rcases(n b d).2.2.2.1 with z | z
  ·exact I.ok.noex b o e z
  ·exact absurd (Ig (HJ e) (Ih I.ok.bsz z)) (JO _)
 ·rcases HK.mp (I.stkSub b Q)with z | z
  ·exact(n b d).2.1 z
  ·exact(n b d).2.2.1 z
 ·obtain⟨j,U,Y⟩:=ux G;obtain⟨Z,r,a3,a4,a5⟩:=Fr.get E U;obtain⟨m0,_,hl⟩:=D.loc;obtain⟨u,ru,lk⟩:=hl j x v Z Y a3;refine⟨u,ru,?_⟩;rcases lk with⟨q,_⟩ | ⟨_,c,e1,e2⟩
  ·rcases r with r | r<;>(rw[r]at q;cases q)
  ·exact .inr ⟨a5,c,a4.trans e1,e2⟩
theorem Bd{D:Addr}{o:HO}{fp:List Addr}(I:L2.Inv X pins σ H s)(a:fw X pins H D)(new:aO X.prog X.w (aF H D o) s.heap D o):L2.Inv X pins σ (aF H D o) s:=by
 have i:=a.1;have ne:∀b u,H b=some u->b≠D:=λb u e z=>by rw[z,i]at e;cases e
 obtain⟨j,g,d,l,os⟩:=s;refine I.step (g':=g) (d':=d) (t':=l) (h':=j) (ch:=[D]) (λb f=>?_) (λb u _ _ _ e _=>e) (λb u _ _ _ e _=>⟨u.slots,e⟩) (λb u p e n=>by rw[D3 (λz=>p (by simp[z]))];exact n) (λb u _ e=>⟨u,e⟩)
  (λb h e=>by rw[D3 (ne b _ e)];exact e) (λb u h e=>by rw[D3 (ne b _ e)];exact e) (λb x e=>⟨#[],by rw[D3 (ne b _ e),e];simp⟩) (λm r=>r) (λb u e=>?_) I.bare
 ·have e:b=D:=by simpa using f
  subst e;exact⟨a.2.2.2.1,a.2.1,a.2.2.2.2.1,a.2.2.2.2.2⟩
 ·by_cases f:b=D
  ·subst f;rw[C8]at e;cases e;exact new
  ·rw[D3 f]at e;exact(I.hok b u e).stay (λc v _ q=>q) (λc q=>by rw[D3 (ne c _ q)];exact q) λc h q=>by rw[D3 (ne c _ q)];exact q
end
section
variable{X:Cx}{cm:Nat->Addr}
def lx(X:Cx)(b:List Expr)(t:TT):Prop:=
 ∀(a:List (Addr×Obj))(s:HF)(σ:L2.St)(H:Hp)(Q:Bool->Hp->Prop),L2.Inv X a σ H s->t σ H Q->wpAny (model X.prog X.w) X.A (uw b X.env) (TP X a σ Q) X.xe s
theorem Q8:lx X [] (cQ X.K cm T3):=λa s h H Q I c=>by
 obtain⟨d,A,e,b,i,f,j,g,k⟩:=c;cases g;exact wpAny_tests_nil ⟨H,I,k d H (aC.refl _ _) f⟩
theorem i8{c:Expr}{t:TD}(h:PT X c (cQ X.K cm t)):lx X [c] (cQ X.K cm t):=λa s b H Q I q=>wpAny_tests_one (h a s b H Q I q)
theorem uy{h6 tg iter:Expr}{h7:List Expr}{a:NW}{l1:Pos}{cl:List (Str×Addr)}{N:List Str}{js:List (Option Nat)}{g:GD}{t:TD}{e:ED}{L:List (Addr×Obj)}{σ:L2.St}{H:Hp}{s:HF}
 {it:Addr} {fp:List Addr} {tn:Nat->Heap->Prop} {j:L2.It} {J:It} {ρ:List Addr} {A A':PHp} {h9:PSt} {n:Nat} {ys:List PV} {RR:HD->Addr->PL->HF->Prop} {E:HD->HF->Prop}
 (hc:X.calm=true) (S:lw X a cl) (Fr:bc X a cl N js)
 (hg:∀C s0 H0 fp,PG (fG X N a cl C s0 H0 fp) tg (iP X.K cm g)) (ht:∀C s0 H0 fp,lx (fG X N a cl C s0 H0 fp) h7 (cQ X.K cm t)) (he:∀C s0 H0 fp,PE (fG X N a cl C s0 H0 fp) h6 (aB X.K cm e))
 (I:L2.Inv X L σ H s) (T:jj X.prog X.w X.K tg j fp it tn) (st:tn 0 s.heap) (hf:∀b∈fp,fw X L H b) (rj:iR X.K ρ H J j) (rl:aV X.K cm ρ A H) (rs:bV ρ H h9 σ)
 (ev:g9 J g t e (n+1) 0 (Ws.bU js h9) A=.ok ys A') (hy:ys.length<=LIM)
 (s3:∀D C s' m,s'.heap.Ns C m->C≠X.env.locals->(∀n1,Jr C s'.heap n1->∃G H',aC ρ H G H'/\aV X.K cm G (A'++[.lst ys]) H'/\G[A'.length]?=some D/\L2.Inv X L σ H' { s' with heap:=n1 }/\fw X L H' C)->RR (.ref D) C (.ok .next) s') :
 wpAny (model X.prog X.w) X.A (newList []) (λn2 a2=>wpAny (model X.prog X.w) X.A (newFunctionEnv a X.env.globals cl [] X.env.qual none .none (some X.env)) (λg6 n3=>
  codeAny (model X.prog X.w) X.A (.compStart (.ListComp h6 [⟨tg,iter,h7,0⟩] a l1) 0 (.ref it) n2 { g6 with scope:=relabel a X.env }) (RR n2 g6.locals) n3) E a2) E s:=by
 refine Ja (wpAny_newFunctionEnv S.nocell (by intro y hy;simp at hy) (λa3 Z U=>?_) S.kind);dsimp only at Z U ⊢;generalize i1:s.heap.push { cls:=.type "list",dict:=none,data:=.seq ([]:List HD).toArray }=H2 at Z U ⊢;have i2:H2.objs.size=s.heap.objs.size+1:=by rw[←i1,Jg]
 have j1:∀b∈fp,b<s.heap.objs.size:=λb d=>by
  obtain⟨o,ho,_⟩:=T.obj 0 _ st b d;exact HJ ho
 have d1:s.heap.objs.size≠H2.objs.size:=by rw[i2];exact HS (Jl _)
 have Q:s.heap.objs.size<=H2.objs.size:=by rw[i2];exact JQ _
 have o1:∀b o,s.heap.get? b=some o->a3.get? b=some o:=λb o q=>U.extBut b o (by rw[i2];exact HS (JL (HJ q))) (HA _ (i1 ▸ HA _ q));have o2:a3.PlainList s.heap.objs.size #[]:=⟨_,U.extBut _ _ d1 (HA _ (i1 ▸ HI _ rfl))⟩;generalize a7:s.heap.objs.size=D at *;generalize B3:H2.objs.size=C at *;let Y:=fG X N a cl C s H fp;have d2:∀b∈fp,b≠D:=λb d=>HS (j1 b d);have e0:∀b o,s.heap.get? b=some o->b<D:=λb o q=>by rw[←a7];exact HJ q
 have nD:D∉frs X.stack:=λz=>by
  obtain⟨_,o,ho,_⟩:=I.stack.mem z;exact JO _ (e0 _ _ ho)
 have j2:∀x c,X.env.cells.lookup x=some c->c<D:=λx c q=>by
  obtain⟨v,o,ho,_⟩:=I.cell x c q;exact e0 _ _ ho
 have h0:∀x c,cl.lookup x=some c->X.env.cells.lookup x=some c:=λx c q=>S.sub (x,c) (Ju q);have o3:∀(ps:List (Addr×Obj))(H':Hp),(∀p∈ps,∀b∈fp,p.1≠b)->(∀b∈fp,H' b=none)->∀b∈fp,fw Y ps H' b:=λps H' s4 hn b d=>
  ⟨hn b d,HS (Ig (j1 b d) Q),λhz=>(HK.mp (I.stkSub b hz)).elim (hf b d).2.1 (hf b d).2.2.1,.inl d,λx c q=>(hf b d).2.2.2.2.1 x c (h0 x c q),λp hp=>s4 p (by simpa[Y,fG]using hp) b d⟩
 have I0:L2.Inv Y [] (Ws.bU js σ) H { s with heap:=a3,toks:=s.toks+([]:List (Str×HD)).length }:=Bc S Fr I hf (λb d=>by rw[a7];exact j1 b d) (by rw[a7];exact Q) o1 Z;have p3:tn 0 a3:=T.keep 0 _ _ st λb d o q=>o1 b o q;have h1:∀a2:HF,a2={ s with heap:=a3,toks:=s.toks+([]:List (Str×HD)).length }->
  codeAny (model X.prog X.w) X.A (.compLoop (.ListComp h6 [⟨tg,iter,h7,0⟩] a l1) 0 (.ref it) (.ref D) (compEnvC a cl C X.env)) (RR (.ref D) C) a2:=by
  rintro a2 rfl;refine Ba (λm s'=>∃i a8 H' G B b1 b2 a4 l f,L2.Inv Y [] a8 H' s'/\tn i s'.heap/\(∀b∈fp,H' b=none)/\aC ρ H G H'/\aV X.K cm G B H'/\bV G H' b1 a8/\g9 J g t e (m+1) i b1 B=.ok b2 A'/\
   s'.heap.PlainList D (KS f)/\H' D=none/\aE l f/\aQ G H' a4 l/\a4++b2=ys) ?_ n ⟨0,_,H,ρ,A,Ws.bU js h9,ys,[],[],[],I0,p3,λb d=>(hf b d).1,aC.refl _ _,rl,rs.bst js,ev,o2,by rw[←a7];exact I.hok.fresh (HG _),.nil,.nil,rfl⟩
  rintro m s' ⟨i,a8,H',G,B,b1,b2,a4,l,f,I1,p4,t2,x1,j3,t3,p5,pl,g2,va,ra,e3⟩;obtain⟨O,u0⟩:=id pl;have dD:∀v,({ cls:=.type "list",data:=.seq f.toArray O }:Obj).data≠.cell v:=λv z=>nomatch z;have I2:L2.Inv Y [(D,{ cls:=.type "list",data:=.seq f.toArray O })] a8 H' s':=I1.pins_of λp hp=>by
   have e:p=(D,{ cls:=.type "list",data:=.seq f.toArray O }):=by simpa using hp
   subst e;exact⟨u0,g2,d1,nD,dD⟩
  have f2:=o3 [(D,{ cls:=.type "list",data:=.seq f.toArray O })] H' (λp hp b d=>by
   have e:p=(D,{ cls:=.type "list",data:=.seq f.toArray O }):=by simpa using hp
   subst e;exact(d2 b d).symm) t2
  rw[Z6]at p5;obtain⟨x,B1,e1,q0⟩:=B0 p5;obtain⟨rfl,k0⟩:=uf j3 (rj.mono x1) e1;cases x with
  | none=>
    cases q0;rw[IA]at e3;subst e3;refine aP (T.done Y rfl rfl rfl hc i _ s' a8 H' (λ_ _=>False) I2 f2 p4 k0) λr s1 zq=>?_;obtain⟨hr,I3⟩:=zq;subst hr;have v1:=I3.pin (D,{ cls:=.type "list",data:=.seq f.toArray O }) (by simp);obtain⟨mC,v2,_⟩:=id I3.loc;refine s3 D C s1 mC v2 (λz=>?_) λh2 sb=>?_
    ·have:=I.lt;rw[←z,a7]at this;exact absurd (Ig this Q) (JO _)
    ·have ch:∀b∈fp,(b∈X.ex\/X.s₀.heap.objs.size<=b)/\b≠X.env.locals/\(∀x c,X.env.cells.lookup x=some c->c≠b)/\∀p∈X.pn++L,p.1≠b:=λb d=>⟨(hf b d).2.2.2.1,(hf b d).2.1,(hf b d).2.2.2.2.1,(hf b d).2.2.2.2.2⟩;have IX:L2.Inv X L σ H' s1:=I.call' I3.os I3.base I3.hok I3.bare ch;have c0:∀(g3:Hp) b,D<=b->g3 b=none->fw X L g3 b:=λg3 b d hn=>by
      rw[←a7]at d;exact I.fpOk (H':=g3) d hn
     have v3:L2.Inv X L σ H' { s1 with heap:=h2 }:=IX.turned (t':=s1.toks) (λb o d q=>(sb.2 b d).trans q) I3.free (c0 H' C Q I3.free).2.1 (c0 H' C Q I3.free).2.2.2.1 (c0 H' C Q I3.free).2.2.2.2.1 (c0 H' C Q I3.free).2.2.2.2.2;have e9:l.length<=sizeLine:=by rw[←ra.length];exact X7 hy
     have v4:L2.Inv X L σ (aF H' D (.lst l)) { s1 with heap:=h2 }:=Bd (fp:=fp) v3 (c0 H' D (HG _) g2) ⟨e9,f,O,va,(sb.2 D d1).trans v1.1⟩;have ex:aC G H' (G++[D]) (aF H' D (.lst l)):=aC.new g2;refine⟨G++[D],aF H' D (.lst l),x1.trans ex,j3.alloc g2 ⟨l,C8,ra.mono ex⟩ rfl,by rw[←j3.len];simp,v4,c0 _ C Q ?_⟩;rw[D3 (JX d1)];exact I3.free
  | some v=>
    refine aP (T.item Y rfl rfl rfl hc i _ s' a8 H' (λ_ _=>False) I2 f2 p4 k0.1) λr s1 zq=>?_;obtain⟨u,hr,h4⟩:=zq;subst hr;refine aP h4 λ_ s2 zq=>?_;obtain⟨xv,H3,I3,ru,w0,g4,w1⟩:=zq;obtain⟨x2,w2,w3⟩:=k0.2 xv H3 w0;have f3:=o3 [(D,{ cls:=.type "list",data:=.seq f.toArray O })] H3 (λp hp b d=>by
     have e:p=(D,{ cls:=.type "list",data:=.seq f.toArray O }):=by simpa using hp
     subst e;exact(d2 b d).symm) w1
    have I4:=I3.pinned f3 (T.obj _ _ g4);obtain⟨c1,B4,e4,x0⟩:=B0 q0;obtain⟨b5,B5,e5,c2⟩:=B0 x0;refine aP (hg C s H fp _ s2 a8 H3 xv u (λa5 H5=>∃a6,aC G H3 a6 H5/\aV X.K cm a6 B4 H5/\bV a6 H5 c1 a5) I4 ru ⟨G,B1,b1,v,c1,B4,w2,t3.mono x2,w3,e4,λa6 H5 a5 x5 k2 c3=>⟨a6,x5,k2,c3⟩⟩) λ_ s5 zq=>?_;obtain⟨a5,H5,I5,a6,x5,k2,c3⟩:=zq;refine aP (ht C s H fp _ s5 a5 H5 (λb H6=>b=b5/\∃a0,aC a6 H5 a0 H6/\aV X.K cm a0 B5 H6) I5 ⟨a6,B4,c1,b5,B5,k2,c3,e5,λa0 H6 x6 g5=>⟨rfl,a0,x6,g5⟩⟩) λok s6 zq=>?_;obtain⟨H6,I6,x8,a0,x6,g5⟩:=zq;subst x8;have k3:aC G H' a0 H6:=(x2.trans x5).trans x6;have f0:∀{f1:L2.St}{H7:Hp}{s7:HF},L2.Inv Y ([(D,{ cls:=.type "list",data:=.seq f.toArray O })]++kM fp s2.heap) f1 H7 s7->(s7.heap.get? D=some { cls:=.type "list",data:=.seq f.toArray O }/\H7 D=none)/\(∀b∈fp,H7 b=none)/\(∀b∈fp,∀o,s2.heap.get? b=some o->s7.heap.get? b=some o):=λ{f1 H7 s7} I7=>by
     have p1:=I7.pin (D,{ cls:=.type "list",data:=.seq f.toArray O }) (IF _ (Jo _ (by simp)));refine⟨⟨p1.1,p1.2.1⟩,λb d=>?_,λb d o q=>?_⟩
     ·obtain⟨o,q,_⟩:=T.obj _ _ g4 b d;exact(I7.pin (b,o) (IF _ (IF _ (f8 d q)))).2.1
     ·exact(I7.pin (b,o) (IF _ (IF _ (f8 d q)))).1
    have f4:∀{ps:List (Addr×Obj)}{f1:L2.St}{H7:Hp}{s7:HF},L2.Inv Y ps f1 H7 s7->L2.Inv Y [] f1 H7 s7:=λI7=>I7.pins_of λp hp=>absurd hp (by simp);cases ok with
    | false=>
      rw[if_neg (by simp)];rw[if_neg (by simp)]at c2;cases m with
      | zero=>rw[tE]at c2;cases c2
      | succ m=>
        obtain⟨⟨u1,u2⟩,u3,u4⟩:=f0 I6;exact⟨m,Jl _,i+1,a5,H6,a0,B5,c1,b2,a4,l,f,f4 I6,T.keep _ _ _ g4 u4,u3,x1.trans k3,g5,c3.mono x6,c2,⟨O,u1⟩,u2,va,ra.mono k3,e3⟩
    | true=>
      rw[if_pos rfl];rw[if_pos rfl]at c2;obtain⟨y,B7,e7,y4⟩:=B0 c2;obtain⟨q1,B8,e8,y6⟩:=B0 y4;cases y6;refine aP (he C s H fp _ s6 a5 H6 (λyv H7=>∃b0,aC a0 H6 b0 H7/\aV X.K cm b0 B7 H7/\RV b0 H7 y yv) I6 ⟨a0,B5,c1,y,B7,g5,c3.mono x6,e7,λb0 H7 yv x7 k4 k5=>⟨b0,x7,k4,k5⟩⟩) λyu s7 zq=>?_;obtain⟨yv,H7,I7,ry,b0,x7,k4,k5⟩:=zq;obtain⟨⟨u1,u2⟩,u3,u4⟩:=f0 I7;have e9:f.length<=sizeLine:=by
       rw[←va.length,←ra.length];refine X7 (Ih ?_ hy);rw[←e3,Ie];exact Ky _ _
      refine wpAny_list_append_plain (items:=f.toArray) ⟨O,u1⟩ (λh8 y8 q2=>?_) (by rw[HU];exact e9);have I8:L2.Inv Y [] a5 H7 { s7 with heap:=h8 }:=(f4 I7).turned (t':=s7.toks) (λb o d q=>(q2.2 b d).trans q) u2 d1 (.inr (by show s.heap.objs.size<=D;rw[a7];exact HG _)) (λx c q=>HS (j2 x c (h0 x c q))) (λp hp=>absurd (show p∈([]:List (Addr×Obj))from hp) (by simp));cases m with
      | zero=>rw[tE]at e8;cases e8
      | succ m=>
        have q3:=k3.trans x7;refine⟨m,Jl _,i+1,a5,H7,b0,B7,c1,q1,a4++[y],l++[yv],f++[yu],I8,T.keep _ _ _ g4 λb d o q=>(q2.2 b (d2 b d)).trans (u4 b d o q),u3,x1.trans q3,k4,(c3.mono x6).mono x7,e8,by simpa using y8,u2,va.append (.cons ry .nil),(ra.mono q3).append (.cons k5 .nil),by rw[←e3];simp⟩
 exact codeAny_compStart_list (h1 _ rfl) (T.self X.A 0 _ _ _ p3 (h1 _ rfl))
theorem N2{i tg iter:Expr}{l:List Expr}{a:NW}{B:Pos}{o:List (Str×Addr)}{N:List Str}(js:List (Option Nat)){it:ID}{g:GD}{t:TD}{e:ED}(hc:X.calm=true)(S:lw X a o)(Fr:bc X a o N js)(hi:L2.PI X tg iter (jx X.K cm it))
 (hg:∀C p q h,PG (fG X N a o C p q h) tg (iP X.K cm g)) (ht:∀C p q h,lx (fG X N a o C p q h) l (cQ X.K cm t)) (he:∀C p q h,PE (fG X N a o C p q h) i (aB X.K cm e))
 (hs:∀x,foldedSetIterable iter X.env x=pure x:=by intro _;rfl):PE X (.ListComp i [⟨tg,iter,l,0⟩] a B) (aB X.K cm (L4 it (Ws.bU js) g t e)):=by
 intro d s σ H Q I ⟨ρ,A,E,v,A',rl,rs,ev,k⟩;obtain⟨J,A1,e1,G⟩:=B0 ev;obtain⟨n,A2,e2,L⟩:=B0 G;obtain rfl:=pW e2;obtain⟨ys,A3,e3,O⟩:=B0 L;obtain⟨c,U⟩:=C9 O;cases U;rw[eval_ListComp];refine NP (use:=none) rfl hs S.clos S.kind S.names (IJ (hi d s σ H (λj r=>∃b,aC ρ H b r/\aV X.K cm b A2 r/\iR X.K b r J j) I ⟨ρ,A,E,J,A2,rl,rs,e1,λb r j y f Y=>⟨b,y,f,Y⟩⟩) (λxv s1 h1=>IJ h1 (λd1 s2 h2=>?_) λ_ _ z=>z) λ_ _ z=>z);obtain⟨e0,h,tn,j,r,rfl,I1,T,st,hf,b,y,f,Y⟩:=h2;refine uy (RR:=λZ C=>compPost (model X.prog X.w) X.A X.xe none (EP X d σ Q) Z C) hc S Fr hg ht he I1 T st hf Y f (rs.mono y) e3 c λD C s' m hn e7 u=>⟨m,hn,λa0 sb=>?_⟩;obtain⟨a1,H2,x2,a2,hD,I2,_⟩:=u a0 sb;exact⟨.ref D,H2,I2,rfl,k a1 H2 _ (y.trans x2) a2 (.ref hD)⟩
theorem ly{h tg iter:Expr}{l:List Expr}{a:NW}{B r O:Pos}{y:Str}{i:Nat}{Y:List (Str×Addr)}{N:List Str}(js:List (Option Nat)){it:ID}{g:GD}{t:TD}{e:ED}(hc:X.calm=true)(S:lw X a Y)(Fr:bc X a Y N js)(hi:L2.PI X tg iter (jx X.K cm it))
 (hg:∀C Z H0 U,PG (fG X N a Y C Z H0 U) tg (iP X.K cm g)) (ht:∀C Z H0 U,lx (fG X N a Y C Z H0 U) l (cQ X.K cm t)) (he:∀C Z H0 U,PE (fG X N a Y C Z H0 U) h (aB X.K cm e))
 (hN:X.N.Nodup) (a8:X.N[i]?=some y) (hy:L2.Loc X.env.scope y)
 (a9:swapsWith (.ListComp h [⟨tg,iter,l,0⟩] a B) (some (.Name y O)) r.line X.env=pure true:=by rfl)
 (b0:X.fn y=true\/X.env.scope.names.lookup y=some .local:=by first | exact .inl rfl | exact .inr rfl)
 (hs:∀x,foldedSetIterable iter X.env x=pure x:=by intro _;rfl):PS X (.Assign [.Name y O] (.ListComp h [⟨tg,iter,l,0⟩] a B) r) (cu X.K cm (M5 (L4 it (Ws.bU js) g t e) (gName i))):=by
 intro d s σ H Dn I ⟨ρ,A,b1,fl,A',rl,rs,ev,k⟩;obtain⟨v,A0,e0,b3⟩:=B0 ev;obtain⟨h6,A9,e9,b5⟩:=B0 b3;cases e9;cases b5;obtain⟨J,A1,e1,c0⟩:=B0 e0;obtain⟨n,A2,e2,c1⟩:=B0 c0;obtain rfl:=pW e2;obtain⟨ys,A3,e3,c2⟩:=B0 c1;obtain⟨c,c3⟩:=C9 c2;cases c3;rw[exec_Assign_Name_used _ _ _ _ a9];refine Hz (Oh (Hz ?_));show wpAny _ X.A (do let _ ←comprehension (.ListComp h [⟨tg,iter,l,0⟩] a B) a X.env _ (newList []) false (eval iter X.env) (some (assign (.Name y O) X.env))) _ _ s;refine Hz (IJ (NP (use:=some (assign (.Name y O) X.env)) (Q:=λ_ E=>SP X d Dn .next E) rfl hs S.clos S.kind S.names (IJ (hi d s σ H (λj H1=>∃f,aC ρ H f H1/\aV X.K cm f A2 H1/\iR X.K f H1 J j) I ⟨ρ,A,b1,J,A2,rl,rs,e1,λf H1 j x1 G rj=>⟨f,x1,G,rj⟩⟩) (λxv s1 h1=>IJ h1 (λj1 s2 h2=>?_) λ_ _ z=>z) λ_ _ z=>z)) (λ_ E hq=>HB (HB hq)) λ_ _ z=>z);obtain⟨k0,U,tn,j,H1,rfl,I1,T,st,hf,f,x1,G,rj⟩:=h2;refine uy (RR:=λd1 C=>compPost (model X.prog X.w) X.A X.xe (some (assign (.Name y O) X.env)) (λ_ E=>SP X d Dn .next E) d1 C) hc S Fr hg ht he I1 T st hf rj G (rs.mono x1) e3 c λD C E m hn k4 a4=>?_;show wpAny _ X.A (assign (.Name y O) X.env (.ref D)) _ _ _;obtain⟨d2,H2,x2,e4,hD,I2,u⟩:=a4 E.heap (.refl ..);obtain⟨oC,es,ep,e5,a6,rC⟩:=id hn;have I3:L2.Inv X (d++[(C,oC)]) σ H2 E:=L2.Inv.pins_of (I:=I2) λp L=>by
  rcases Ir.mp L with L | L
  ·exact I2.pin p (IF _ L)
  ·have e:p=(C,oC):=by simpa using L
   subst e;exact⟨e5,u.1,u.2.1,u.2.2.1,λv z=>by rw[a6]at z;cases z⟩
 refine wpAny_assign_Name (oE I3 hN a8 hy (show L2.RelV (.ref D) (.ref D)from rfl) (λs3 I4=>?_) b0);have pC:=I4.pin (C,oC) (by simp);refine⟨m,⟨oC,es,ep,pC.1,a6,rC⟩,λh4 sb=>?_⟩;have I5:L2.Inv X d (σ.set i (some (.ref D))) H2 s3:=I4.pins_of λp L=>I4.pin p (IF _ (Jo _ L));have I6:L2.Inv X d (σ.set i (some (.ref D))) H2 { s3 with heap:=h4 }:=I5.turned (t':=s3.toks) (λb o hb q=>(sb.2 b hb).trans q) u.1 u.2.1 u.2.2.2.1 u.2.2.2.2.1 u.2.2.2.2.2;exact⟨σ.set i (some (.ref D)),H2,I6,k d2 H2 (x1.trans x2) e4 _ (((rs.mono x1).mono x2).set i (.ref hD))⟩
end
theorem ax{a:Type}{P:a->Prop}:∀x∈([]:List a),P x:=λ_ h=>nomatch h
theorem af{b:Type}{P:b->Prop}{a:b}{l:List b}(h:P a)(r:∀x∈l,P x):∀x∈a::l,P x:=λx c=>(HK.mp c).elim (λe=>e ▸ h) (r x)
end Ws
namespace Ws
open PySem PySem.W PyProof.Rows L2
noncomputable def fH{b:Type}(n:Nat)(lt:Nat->Nat->Bool):KasT b->(b->Prop)->Prop
 | .ret a,Q=>Q a
 | .ask i j k,Q=>i<n/\j<n/\fH n lt (k (lt i j)) Q
theorem d0{b c:Type}{n:Nat}{lt:Nat->Nat->Bool}{f:b->KasT c}{Q:c->Prop}:∀{t:KasT b},fH n lt t (λa=>fH n lt (f a) Q)->fH n lt (t.bind f) Q
 | .ret _,h=>h
 | .ask _ _ k,⟨d,e,g⟩=>⟨d,e,d0 (t:=k _) g⟩
theorem uz{c:Type}{n:Nat}{lt:Nat->Nat->Bool}{b:Nat->Nat->(Bool->HF->Prop)->HF->Prop}{G:c->HF->Prop}{s:HF}(e:∀i j C,i<n->j<n->C (lt i j) s->b i j C s):∀{t:KasT c}{Q:c->Prop},fH n lt t Q->(∀a,Q a->G a s)->t.kasWp b G s
 | .ret a,Q,h,d=>d a h
 | .ask i j k,Q,⟨f,g,l⟩,d=>e i j _ f g (uz e (t:=k _) l d)
section
variable{n:Nat}{α:Type}{key:Nat->α}{lt:Nat->Nat->Bool}
structure Ord(key:Nat->α)(lt:Nat->Nat->Bool):Prop where
 asym:∀a b,lt a b=true->lt b a=false
 tr:∀a b c,lt b a=false->lt c b=false->lt c a=false
 tot:∀a b,lt a b=false->lt b a=false->key a=key b
 cong:∀a b c d,key a=key b->key c=key d->lt a c=lt b d
structure Pm(n:Nat)(p:Array Nat):Prop where
 size:p.size=n
 perm:p.Perm (KS (Iw n))
theorem Pm.bd{p:Array Nat}(h:Pm n p)(b:0<n)(i:Nat):p.getD i 0<n:=by
 by_cases a:i<p.size
 ·have e:p.getD i 0=p[i]:=by simp[Array.getD,a]
  rw[e];have c:p[i]∈p.toList:=by simp
  have:=(Nu.mp h.perm).mem_iff.mp c;simpa using this
 ·have e:p.getD i 0=0:=by simp[Array.getD,a]
  rw[e];exact b
theorem lz{p q:Array Nat}{i j:Nat}(h:p[i]?=q[j]?):p.getD i 0=q.getD j 0:=by
 rw[Nj,Nj,h]
theorem Pm.rev{p:Array Nat}(h:Pm n p)(i j:Nat):Pm n (Qn p i j):=⟨by unfold Qn;rw[mirror_size];exact h.size,(mirror_perm _ _ _ _).trans h.perm⟩
theorem qb{p:Array Nat}{i j:Nat}(a:j<=p.size)(k:Nat):(Qn p i j).getD k 0=if i<=k/\k<j then p.getD (i+j - 1 - k) 0 else p.getD k 0:=by
 have e:=getElem?_mirror_all (xs:=p) (i:=i) a k;unfold Qn;by_cases h:i<=k/\k<j
 ·rw[if_pos h]at e ⊢;exact lz e
 ·rw[if_neg h]at e ⊢;exact lz e
theorem Pm.bub{p:Array Nat}(h:Pm n p)(i d:Nat):Pm n (bubble p i d):=⟨by rw[bubble_size];exact h.size,(bubble_perm _ _ _).trans h.perm⟩
theorem uA{p:Array Nat}{a d:Nat}(hs:a<p.size)(f:d<=a)(k:Nat):(bubble p a d).getD k 0=if k=a - d then p.getD a 0 else if a - d<k/\k<=a then p.getD (k - 1) 0 else p.getD k 0:=by
 have e:=getElem?_bubble hs d f k;by_cases b:k=a - d
 ·rw[if_pos b]at e ⊢;exact lz e
 ·rw[if_neg b]at e ⊢;by_cases c:a - d<k/\k<=a
  ·rw[if_pos c]at e ⊢;exact lz e
  ·rw[if_neg c]at e ⊢;exact lz e
def gk(lt:Nat->Nat->Bool)(p:Array Nat)(m:Nat):Prop:=∀i j,i<=j->j<m->lt (p.getD j 0) (p.getD i 0)=false
def iT(lt:Nat->Nat->Bool)(p:Array Nat)(m:Nat):Prop:=∀i j,i<=j->j<m->lt (p.getD i 0) (p.getD j 0)=false
variable(O:Ord key lt)(hn:0<n)
include O hn
theorem Ord.irr(a:Nat):lt a a=false:=by
 cases h:lt a a with
 | false=>rfl
 | true=>have:=O.asym a a h;rw[h]at this;exact this
theorem Be{p:Array Nat}{m:Nat}(h:gk lt p m)(a:m=0\/lt (p.getD m 0) (p.getD (m - 1) 0)=false):gk lt p (m+1):=λi j b d=>by
 by_cases e:j=m
 ·subst e;by_cases c:i=j
  ·subst c;exact O.irr hn _
  ·rcases a with a | a
   ·omega
   ·exact O.tr _ _ _ (h i (j - 1) (by omega) (by omega)) a
 ·exact h i j b (by omega)
theorem o7{p:Array Nat}{m:Nat}(h:iT lt p m)(a:m=0\/lt (p.getD (m - 1) 0) (p.getD m 0)=false):iT lt p (m+1):=λi j b d=>by
 by_cases e:j=m
 ·subst e;by_cases c:i=j
  ·subst c;exact O.irr hn _
  ·rcases a with a | a
   ·omega
   ·exact O.tr _ _ _ a (h i (j - 1) (by omega) (by omega))
 ·exact h i j b (by omega)
theorem qc{p:Array Nat}(i:Pm n p){Q:Nat->Prop}:∀f m,1<=m->gk lt p m->(∀e,m<=e->e<=m+f->gk lt p e->(e<m+f->lt (p.getD e 0) (p.getD (e - 1) 0)=true)->Q e)->fH n lt (kas_asc p f m) Q
 | 0,m,_,g,h=>h m (HG _) (HG _) g λz=>by omega
 | f+1,m,l,g,h=>by
   refine⟨i.bd hn m,i.bd hn (m - 1),?_⟩;cases j:lt (p.getD m 0) (p.getD (m - 1) 0)with
   | true=>exact h m (HG _) (by omega) g λ_=>j
   | false=>
     simp only[IB,if_false];exact qc i f (m+1) (by omega) (Be O hn g (.inr j)) λe a b c d=>h e (by omega) (by omega) c λz=>d (by omega)
theorem qd{p:Array Nat}{i j:Nat}(a:j<=p.size)(he:∀k,i<=k->k<j->key (p.getD k 0)=key (p.getD (j - 1) 0))(k:Nat):key ((Qn p i j).getD k 0)=key (p.getD k 0):=by
 rw[qb a];by_cases h:i<=k/\k<j
 ·rw[if_pos h,he (i+j - 1 - k) (by omega) (by omega),he k h.1 h.2]
 ·rw[if_neg h]
theorem qe{p q:Array Nat}{m:Nat}(h:∀k,key (p.getD k 0)=key (q.getD k 0))(b:iT lt q m):iT lt p m:=λi j a c=>by rw[O.cong _ _ _ _ (h i) (h j)];exact b i j a c
def qf(key:Nat->α)(p:Array Nat)(m q:Nat):Prop:=q+1<=m/\∀k,m - (q+1)<=k->k<m->key (p.getD k 0)=key (p.getD (m - 1) 0)
omit O hn in
theorem qg{p:Array Nat}{m:Nat}(h:1<=m):qf key p m 0:=⟨h,λk a b=>by rw[show k=m - 1 by omega]⟩
theorem nM{Q:Array Nat×Nat×Nat->Prop}:∀f (p:Array Nat) m q,Pm n p->m+f<=n->iT lt p m->qf key p m q->(∀o g r,Pm n o->m<=g->g<=m+f->iT lt o g->qf key o g r->Q (o,g,r))->fH n lt (kas_desc f p m q) Q
 | 0,p,m,q,l,w,s,u,h=>h p m q l (HG _) (HG _) s u
 | f+1,p,m,q,l,w,s,u,h=>by
   refine⟨l.bd hn m,l.bd hn (m - 1),?_⟩;have A:=u.1;cases x:lt (p.getD m 0) (p.getD (m - 1) 0)with
   | true=>
     simp only[if_true];by_cases y:q > 0
     ·rw[if_pos y];have z:=qd O hn (p:=p) (i:=m - (q+1)) (j:=m) (by rw[l.size];omega) u.2;refine nM f _ (m+1) 0 (l.rev _ _) (by omega) ?_ (qg (by omega)) λo g r a b c d e=>h o g r a (by omega) (by omega) d e;exact qe O hn z (o7 O hn s (.inr (O.asym _ _ x)))
     ·rw[if_neg y];exact nM f p (m+1) 0 l (by omega) (o7 O hn s (.inr (O.asym _ _ x))) (qg (by omega)) λo g r a b c d e=>h o g r a (by omega) (by omega) d e
   | false=>
     simp only[IB,if_false];refine⟨l.bd hn (m - 1),l.bd hn m,?_⟩;cases v:lt (p.getD (m - 1) 0) (p.getD m 0)with
     | true=>exact h p m q l (HG _) (by omega) s u
     | false=>
       simp only[IB,if_false];refine nM f p (m+1) (q+1) l (by omega) (o7 O hn s (.inr v)) ⟨by omega,λk B C=>?_⟩ λo g r a b c d e=>h o g r a (by omega) (by omega) d e;rw[Nat.add_sub_cancel];by_cases e:k=m
       ·rw[e]
       ·rw[u.2 k (by omega) (by omega)];exact O.tot _ _ v x
theorem uB{p:Array Nat}{m:Nat}(f:Pm n p)(l:1<=m)(e:m<=n)(o:iT lt p m){Q:Nat×Array Nat->Prop}(h:∀d g,Pm n g->1<=d->d<=n->gk lt g d->Q (d,g)):fH n lt (kas_tail3 m n p) Q:=by
 refine d0 ?_;have q:gk lt (Qn p 0 m) m:=λi j r s=>by
  rw[qb (by rw[f.size];exact e),qb (by rw[f.size];exact e),if_pos ⟨by omega,s⟩,if_pos ⟨by omega,by omega⟩];exact o _ _ (by omega) (by omega)
 exact qc O hn (f.rev 0 m) (n - m) m l q λd a b c _=>h d _ (f.rev 0 m) (by omega) (by omega) c
theorem uC{p:Array Nat}{m:Nat}(q:Pm n p)(v:1<=m)(r:m<n)(s:iT lt p (m+1)){Q:Nat×Array Nat->Prop}(h:∀f g,Pm n g->1<=f->f<=n->gk lt g f->Q (f,g)):fH n lt (kas_descPart m n p) Q:=by
 refine d0 (nM O hn (n - (m+1)) p (m+1) 0 q (by omega) s (qg (by omega)) λg f l a b c d e=>?_);have w:=e.1;dsimp only;by_cases o:l > 0
 ·rw[if_pos o];have u:=qd O hn (p:=g) (i:=f - (l+1)) (j:=f) (by rw[a.size];omega) e.2;exact uB O hn (a.rev _ _) (by omega) (by omega) (qe O hn u d) h
 ·rw[if_neg o];exact uB O hn a (by omega) (by omega) d h
theorem Bf{p:Array Nat}(f:Pm n p)(A:2<=n){Q:Nat×Array Nat->Prop}(h:∀q r,Pm n r->1<=q->q<=n->gk lt r q->Q (q,r)):fH n lt (kas_count n p) Q:=by
 refine d0 (qc O hn f (n - 1) 1 (HG _) (λi j l s=>by rw[show i=j by omega];exact O.irr hn _) λm a b c d=>?_);by_cases u:(m == n)=true
 ·rw[if_pos u];exact h m p f a (by omega) c
 ·rw[if_neg u];have o:m<n:=by have:m≠n:=λz=>u (by simp[z]);omega
  have e:=d (by omega);by_cases v:m > 1
  ·rw[if_pos v];refine⟨f.bd hn 0,f.bd hn (m - 1),?_⟩;cases w:lt (p.getD 0 0) (p.getD (m - 1) 0)with
   | true=>exact h m p f a (by omega) c
   | false=>
     simp only[IB,if_false];have g:∀k,0<=k->k<m->key (p.getD k 0)=key (p.getD (m - 1) 0):=λk _ x=>by
      refine O.tot _ _ ?_ (c k (m - 1) (by omega) (by omega));exact O.tr _ _ _ w (c 0 k (by omega) x)
     have y:=qd O hn (p:=p) (i:=0) (j:=m) (by rw[f.size];omega) g;refine uC O hn (f.rev 0 m) a o (qe O hn y (o7 O hn (λi j l s=>?_) (.inr (O.asym _ _ e)))) h;rw[O.cong _ _ _ _ (g i (by omega) (by omega)) (g j (by omega) s)];exact O.irr hn _
  ·rw[if_neg v];have:m=1:=by omega
   subst this;refine uC O hn f a o (o7 O hn (λi j l s=>by rw[show i=j by omega];exact O.irr hn _) (.inr (O.asym _ _ e))) h
theorem qh{p:Array Nat}(d:Pm n p){k:Nat}(g:gk lt p k){Q:Nat->Prop}:∀f l r,l<=r->r<=k->r - l<=f->(∀i,i<l->lt (p.getD k 0) (p.getD i 0)=false)->(∀i,r<=i->i<k->lt (p.getD k 0) (p.getD i 0)=true)->
 (∀j,j<=k->(∀i,i<j->lt (p.getD k 0) (p.getD i 0)=false)->(∀i,j<=i->i<k->lt (p.getD k 0) (p.getD i 0)=true)->Q j)->fH n lt (kas_place p k f l r) Q
 | 0,l,r,q,c,v,m,o,h=>h l (by omega) m λi a b=>o i (by omega) b
 | f+1,l,r,q,c,v,m,o,h=>by
   unfold kas_place;by_cases s:l≥r
   ·rw[if_pos s];exact h l (by omega) m λi a b=>o i (by omega) b
   ·rw[if_neg s];refine⟨d.bd hn k,d.bd hn _,?_⟩;cases u:lt (p.getD k 0) (p.getD ((l+r) / 2) 0)with
    | true=>
      simp only[if_true];refine qh d g f l ((l+r) / 2) (by omega) (by omega) (by omega) m (λi a b=>?_) h;cases e:lt (p.getD k 0) (p.getD i 0)with
      | true=>rfl
      | false=>
        have:=O.tr _ _ _ (g ((l+r) / 2) i a b) e;rw[u]at this;exact this.symm
    | false=>
      simp only[IB,if_false];refine qh d g f ((l+r) / 2+1) r (by omega) c (by omega) (λi a=>?_) o h;exact O.tr _ _ _ (g i ((l+r) / 2) (by omega) (by omega)) u
theorem uD{Q:Array Nat->Prop}:∀f (p:Array Nat) k,Pm n p->k+f=n->gk lt p k->(∀r,Pm n r->gk lt r n->Q r)->fH n lt (kas_bin f p k) Q
 | 0,p,k,e,v,d,h=>h p e (by rw[←v];exact d)
 | f+1,p,k,e,v,d,h=>by
   refine d0 (qh O hn e d k 0 k (by omega) (by omega) (by omega) (λi a=>by omega) (λi a b=>by omega) λl z w x=>?_);refine uD f _ (k+1) (e.bub _ _) (by omega) (λi j s A=>?_) h;have g:k<p.size:=by rw[e.size];omega
   have u:k - (k - l)=l:=by omega
   rw[uA g (by omega),uA g (by omega),u];by_cases m:j=l
   ·rw[if_pos m];by_cases c:i=l
    ·rw[if_pos c];exact O.irr hn _
    ·rw[if_neg c,if_neg (by omega)];exact w i (by omega)
   ·rw[if_neg m];by_cases o:l<j/\j<=k
    ·rw[if_pos o];by_cases c:i=l
     ·rw[if_pos c];exact O.asym _ _ (x (j - 1) (by omega) (by omega))
     ·rw[if_neg c];by_cases q:l<i/\i<=k
      ·rw[if_pos q];exact d (i - 1) (j - 1) (by omega) (by omega)
      ·rw[if_neg q];exact d i (j - 1) (by omega) (by omega)
    ·rw[if_neg o];have y:j<l:=by omega
     rw[if_neg (by omega),if_neg (by omega)];exact d i j s (by omega)
theorem Bg(g:2<=n){Q:Array Nat->Prop}(h:∀e,Pm n e->gk lt e n->Q e):fH n lt (kas_sort n) Q:=by
 refine d0 (Bf O hn (p:=KS (Iw n)) ⟨by simp,.refl _⟩ g λm p a b c d=>?_);dsimp only;by_cases f:m<n
 ·rw[if_pos f,Nat.max_eq_left b];exact uD O hn (n - m) p m a (by omega) d h
 ·rw[if_neg f];have:m=n:=by omega
  subst this;exact h p a d
end
noncomputable def gT(fin:Bool):List Int->List Int->Bool
 | x::a,y::b=>if x=y then gT fin a b else decide (x<y)
 | _,_=>fin
theorem uE:∀a b:List Int,gT (decide (a.length<b.length)) a b=G7 a b
 | [],[]=>rfl
 | [],_::_=>by simp[gT,G7]
 | _::_,[]=>by simp[gT,G7]
 | x::a,y::b=>by
   simp only[gT,G7,Il,Nat.add_lt_add_iff_right];rw[uE a b]
section
variable{prog:Ib}{w:IW}{A:IN}{E:HD->HF->Prop}{s:HF}
theorem uF{fin:Bool}{Q:Bool->HF->Prop}:∀{vs us:List HD}{ns b:List Int}(i:Nat),Ko vs ns->Ko us b->Q (gT fin ns b) s->KatLex prog w A true fin Q (vs.zip us) i s
 | _,_,_,_,i,.nil,_,h=>by simpa[gT]using kat_nil h
 | _,_,_,_,i,.cons _ _ _,.nil,h=>by simpa[gT]using kat_nil h
 | _,_,_,_,i,.cons a t d,.cons c u f,h=>by
   rw[List.zip_cons_cons];refine kat_cons (wpAny_eqBool_int ?_);by_cases e:a=c
   ·subst e;simp only[gT,if_true]at h;rw[beq_self_eq_true];exact kat_yes (uF (i+1) d f h)
   ·rw[beq_eq_false_iff_ne.mpr e];simp only[gT,e,if_false]at h;refine kat_no ?_;cases g:(true&&i == 0)with
    | true=>exact oneLt_int h
    | false=>exact kat_one _ _ (lt_int h)
def ia(h:Heap)(v:HD)(t:List Int):Prop:=∃a o b n,v=.ref a/\h.get? a=some o/\o.cls=.type "tuple"/\o.data=.seq b n/\Ko b.toList t/\t≠[]
theorem qi{h:Heap}:∀{vs:List HD}{b:List (List Int)}{i:Nat},Paired (ia h) vs b->i<vs.length->ia h (vs.getD i .none) (b.getD i [])
 | _,_,_,.nil,a=>by simp at a
 | _,_,0,.cons r _,_=>r
 | _,_,i+1,.cons _ t,a=>by
   have:=qi (i:=i) t (by simpa using a);simpa using this
theorem uG{h:Heap}:∀{vs:List HD}{j:List (List Int)},Paired (ia h) vs j->∃fs,KatTups h vs fs/\fs.length=vs.length/\∀f∈fs,∃i t,f=Kz i t
 | _,_,.nil=>⟨[],KatTups.nil,rfl,by simp⟩
 | _,_,.cons r t=>by
   obtain⟨a,o,c,n,rfl,l,m,p,b,d⟩:=r;obtain⟨fs,k,q,u⟩:=uG t;cases e:c.toList with
   | nil=>rw[e]at b;cases b;exact absurd rfl d
   | cons v r=>
     rw[e]at b;cases b with
     | cons i x y=>
       refine⟨.int i x::fs,KatTups.cons l m p (by rw[←Jv,e];rfl) k,by simp[q],λf g=>?_⟩;rcases HK.mp g with rfl | g
       ·exact⟨_,_,rfl⟩
       ·exact u f g
theorem Bh(b:List (List Int)):Ord (λi=>b.getD i []) (λi j=>G7 (b.getD i []) (b.getD j [])):=
 ⟨λ_ _ h=>pw _ _ h,λ_ _ _ h a=>px _ _ _ h a,λ_ _ h a=>kX _ _ h a,λ_ _ _ _ h a=>congr (congrArg G7 h) a⟩
def V0(a:List (List Int))(n:Nat)(p:List Nat):Prop:=p.Perm (Iw n)/\(p.map λi=>a.getD i []).Pairwise (λx y=>G7 y x=false)
theorem o8{a:Addr}{vs:List HD}{g:List (List Int)}{n:Nat}{P:PySem.Fin->HF->Prop}(D:s.heap.get? a=some (seqObj "list" vs.toArray n))(ht:Paired (ia s.heap) vs g)(Z:vs.length<64)
 (h:∀p,V0 g vs.length p->P (.done (.ret .none)) { s with heap:=sortedHeap s.heap a vs (KS (p.map λi=>vs.getD i Iu)) }) :
 wpAny (model prog w) A (Ji.«list.sort» ⟨[.ref a],[]⟩) P E s:=by
 rw[list_sort_plain];have ha:a<s.heap.objs.size:=HJ D;refine Hz (listItems_at D rfl ?_);refine Hz (PP D rfl ?_);obtain⟨e1,G⟩:∃e1,(s.heap.update a (Ks λ_=>#[])).get? a=some (seqObj "list" #[] e1):=⟨_,get?_update_seq D (λ_=>#[])⟩;refine Hz (Qo G rfl ?_);refine Hz (Pd ?_);refine Hz (Oi ?_);refine IY ?_;have m:(((s.heap.update a (Ks λ_=>#[])).push (seqObj "tuple" vs.toArray 0)).push (seqObj "list" #[] 0)).get? a=some (seqObj "list" #[] e1):=by
  rw[Mu _ _ _ (by rw[OU,MN];exact HS (JL ha)),Mu _ _ _ (by rw[MN];exact HS ha)];exact G
 show wpAny (model prog w) A _ P E { s with heap:=((s.heap.update a (Ks λ_=>#[])).push (seqObj "tuple" vs.toArray 0)).push (seqObj "list" #[] 0) };dsimp only;have a5:vs.toArray.size=vs.length:=by simp
 have a6:∀v t,ia s.heap v t->ia (((s.heap.update a (Ks λ_=>#[])).push (seqObj "tuple" vs.toArray 0)).push (seqObj "list" #[] 0)) v t:=λv t hq=>by
  obtain⟨b,o,y,k,e,q,c,d,r⟩:=hq;have hb:b≠a:=by
   rintro rfl;rw[D]at q;cases q;exact absurd (HD.type.inj (show HD.type "list" = HD.type "tuple" from c)) (by decide)
  exact⟨b,o,y,k,e,HA _ (HA _ (by rw[Pt _ _ _ _ hb];exact q)),c,d,r⟩
 have z:Paired (ia (((s.heap.update a (Ks λ_=>#[])).push (seqObj "tuple" vs.toArray 0)).push (seqObj "list" #[] 0))) vs g:=L2.Paired.mapP ht a6;by_cases B:vs.toArray.size<2
 ·rw[if_pos B,if_pos B];refine Hz (HB ?_);rw[StateT.run_pure];refine Hz (HB ?_);dsimp only;refine Hz (Qo m rfl ?_);refine Hz (PP m rfl ?_ (hsz2:=by rw[Array.size_map];show(pairsOf vs).size<=_;rw[pairsOf_size,JH];omega));simp only[bne_self_eq_false,IB,if_false];have x:V0 g vs.length (Iw vs.length):=by
   refine⟨.refl _,?_⟩;rw[a5]at B;match hl:vs.length,B with
   | 0,_=>simp
   | 1,_=>simp[List.range_succ]
  have l:(arrOf (SortSt.mk' general' (vs.toArray.zip vs.toArray) #[] 7 none)).map (·.2)=KS ((Iw vs.length).map λi=>vs.getD i Iu):=by
   apply Ou.mp;show((vs.toArray.zip vs.toArray).map (·.2)).toList=_;apply List.ext_getElem
   ·simp
   ·intro i h1 B;have H:i<vs.length:=by simpa using h1
    simp[H]
  have:=h _ x;rw[←l]at this;exact HB this
 ·rw[if_neg B,if_neg B];have I:2<=vs.length:=by omega
  obtain⟨fs,hk,c4,a7⟩:=uG z;refine Hz (kat_kind (T:=.type "int") hk (by omega) (λv hv=>by
   obtain⟨i,t,rfl⟩:=a7 v hv;exact Looks.of_pure rfl) (by rfl) ?_)
  have ev:(kas_sort vs.length).kasWp (kas_ask prog w A (tuples' (HD.type "int" != HD.type "tuple")) vs) (λp J=>V0 g vs.length p.toList/\J={ s with heap:=((s.heap.update a (Ks λ_=>#[])).push (seqObj "tuple" vs.toArray 0)).push (seqObj "list" #[] 0) }) { s with heap:=((s.heap.update a (Ks λ_=>#[])).push (seqObj "tuple" vs.toArray 0)).push (seqObj "list" #[] 0) }:=by
   refine uz (n:=vs.length) (lt:=λi j=>G7 (g.getD i []) (g.getD j [])) (λi j C H Y hC=>?_) (Bg (Bh g) (by omega) I (Q:=λp=>V0 g vs.length p.toList) λp x L=>?_) λp x=>⟨x,rfl⟩
   ·obtain⟨b,o,y,k,e,q,c,d,r,_⟩:=qi z H;obtain⟨b',o',N,k',e',q',c',d',r',_⟩:=qi z Y;unfold kas_ask;rw[e,e'];refine kat_lt (b:=true) q d q' d' (uF 0 r r' ?_);have z1:y.size=(g.getD i []).length:=by rw[←r.length];simp
    have z2:N.size=(g.getD j []).length:=by rw[←r'.length];simp
    rw[z1,z2,uE];exact hC
   ·refine⟨by simpa using Nu.mp x.perm,?_⟩;rw[Lr,JF];intro i j H Y e7;have:=L i j (by omega) (by rw[←x.size];simpa using Y);have a8:i<p.size:=by simpa using H
    have a9:j<p.size:=by simpa using Y
    simpa[Array.getD,a8,a9]using this
  refine Hz (IJ (kat_run (Q:=λu J=>∃p:Array Nat,p.size=vs.length/\arrOf u=p.map (kas_item (vs.toArray.zip vs.toArray))/\failedOf u=none/\V0 g vs.length p.toList/\J={ s with heap:=((s.heap.update a (Ks λ_=>#[])).push (seqObj "tuple" vs.toArray 0)).push (seqObj "list" #[] 0) })
   rfl I Z (λp' u J a1 a2 a3 a4=>⟨p',a1,a2,a3,a4.1,a4.2⟩) ev) ?_ λ_ _ e=>e)
  rintro⟨⟨⟩,u⟩ J ⟨p,x,b0,hf,O,rfl⟩;dsimp only;have l:=kat_snds rfl b0;have U:(KS (p.toList.map λi=>vs.getD i Iu)).size=vs.length:=by rw[HU,HC,Js,x]
  refine Hz (Qo m rfl ?_);rw[l];refine Hz (PP m rfl ?_ (hsz2:=by rw[U,JH];omega));rw[hf];simp only[bne_self_eq_false,IB,if_false];exact HB (h p.toList O)
theorem Bi{l:Addr}{vs:List HD}{n:List (List Int)}{Q:HD->HF->Prop}(u:s.heap.IsList l vs.toArray)(x:Paired (ia s.heap) vs n)(g:vs.length<64)
 (h:∀p,V0 n vs.length p->Q (.ref (s.heap.objs.size+1)) { s with heap:=sortedAll s.heap vs (KS (p.map λi=>vs.getD i Iu)) }) :
 wpAny (model prog w) A (call (.builtin "sorted") [.ref l]) Q E s:=by
 refine LJ Qp Qc Qd (Qe _) ?_;unfold Ji.«sorted»;refine Hz (m:=checkCount "sorted" 1 1 _) (HB ?_);refine Hz (collect_list u ?_);refine Hz (Oi ?_);have a:((s.heap.push (seqObj "list" #[] 0)).update s.heap.objs.size (Ks (·++vs.toArray))).objs.size=s.heap.objs.size+1:=by
  rw[MN,OU]
 have f:(((s.heap.push (seqObj "list" #[] 0)).update s.heap.objs.size (Ks (·++vs.toArray))).push (seqObj "list" vs.toArray 0)).get? (s.heap.objs.size+1)=some (seqObj "list" vs.toArray 0):=by
  rw[←a];exact HI _ rfl
 show wpAny _ _ _ _ _ { s with heap:=((s.heap.push (seqObj "list" #[] 0)).update s.heap.objs.size (Ks (·++vs.toArray))).push (seqObj "list" vs.toArray 0) };rw[a];have keep:∀b o,s.heap.get? b=some o->(((s.heap.push (seqObj "list" #[] 0)).update s.heap.objs.size (Ks (·++vs.toArray))).push (seqObj "list" vs.toArray 0)).get? b=some o:=λb o q=>by
  have c:b<s.heap.objs.size:=HJ q;rw[Mu _ _ _ (by rw[a];exact HS (JL c)),Pt _ _ _ _ (HS c),Mu _ _ _ (HS c)];exact q
 refine Hz (IY (II Pe ⟨_,f,rfl⟩ OO (o8 f (L2.Paired.mapP x λv t ⟨b,o,j,k,e,q,r⟩=>⟨b,o,j,k,e,keep b o q,r⟩) g λp y=>⟨_,rfl,?_⟩) (Pf _)));exact HB ⟨_,rfl,h p y⟩
end
section
variable{X:Cx}{cm:Nat->Addr}
noncomputable def Bj(K:HE):List V->Hp->VK->Prop:=λb H Q=>∃a ns,b=[.ref a]/\bv K H a (ns.map V.int)/\ns.length<64/\∀l,H l=none->Q (.ref l) (aF H l (.lst ((J8 gr ns).map V.int)))
theorem call_sortI:bo X (.builtin "sorted") (Bj X.K):=by
 intro l s B H C D Q I r h;obtain⟨a,ns,rfl,n,p,q⟩:=h;obtain⟨u,rfl,v⟩:=l9 r;cases v;obtain⟨d,w,x,E⟩:=I.list n;have m:Ko d ns:=X2 w;have G:d.length=ns.length:=m.length;refine sorted_ints x.isList m (by omega) λf i y z A=>?_;have e:i=J8 gr ns:=pu (z.trans (R5 _ _).symm) A (Aq ns);subst e;obtain⟨c,j⟩:=sortedAll_at s.heap d f;have g:(J8 gr ns).length=ns.length:=(R5 _ _).length_eq;refine⟨.ref (s.heap.objs.size+1),_,I.laid (t':=s.toks) (a:=s.heap.objs.size+1) (o:=.lst ((J8 gr ns).map V.int)) (λb o e=>sortedAll_old e) (JQ _) ?_,rfl,q _ (I.hok.fresh (JQ _))⟩;refine⟨by rw[HC,g,JH];omega,f.toList,c,t7 y,?_⟩;rw[MP];exact j
def gw(H:Hp)(x:V)(t:List Int):Prop:=∃b,x=.ref b/\H b=some (.tup (t.map V.int))/\t≠[]
noncomputable def Bk(K:HE):List V->Hp->VK->Prop:=λd H Q=>∃a b c,d=[.ref a]/\bv K H a b/\Paired (gw H) b c/\b.length<64/\∀l p,V0 c b.length p->H l=none->Q (.ref l) (aF H l (.lst (p.map λi=>b.getD i .non)))
theorem qj{a:List (Addr×Obj)}{σ:L2.St}{H:Hp}{s:HF}(I:L2.Inv X a σ H s):∀{xs:List V}{c:List HD}{f:List (List Int)},aE xs c->Paired (gw H) xs f->Paired (ia s.heap) c f
 | _,_,_,.nil,.nil=>.nil
 | _,_,_,.cons r t,.cons h k=>by
   refine .cons ?_ (qj I t k);obtain⟨b,rfl,g,e⟩:=h;cases r;obtain⟨_,d,i,j,l,m,n,o⟩:=I.hok b _ g;exact⟨b,j,d.toArray,n,rfl,l,m,o,by simpa using X2 i,e⟩
theorem qk{xs:List V}{a:List HD}(r:aE xs a):∀p:List Nat,(∀i∈p,i<xs.length)->aE (p.map λi=>xs.getD i .non) (p.map λi=>a.getD i .none)
 | [],_=>.nil
 | i::p,h=>by
   have b:=h i HM;obtain⟨u,c,d⟩:=r.get (i:=i) (x:=xs[i]) (by simp[b]);refine .cons ?_ (qk r p λj e=>h j (HR _ e));have f:xs.getD i .non=xs[i]:=by simp[b]
   have g:a.getD i .none=u:=by rw[IV,c];rfl
   show L2.RelV (xs.getD i .non) (a.getD i .none);rw[f,g];exact d
theorem Bl:bo X (.builtin "sorted") (Bk X.K):=by
 intro n s E H G J Q I r h;obtain⟨a,g,v,rfl,w,x,y,q⟩:=h;obtain⟨u,rfl,z⟩:=l9 r;cases z;obtain⟨d,j,A,L⟩:=I.list w;have B:g.length=d.length:=j.length;refine Bi A.isList (qj I j x) (by omega) λp C=>?_;have f:V0 v g.length p:=by rw[B];exact C
 obtain⟨c,l⟩:=sortedAll_at s.heap d (KS (p.map λi=>d.getD i Iu));have m:p.length=g.length:=by rw[f.1.length_eq];simp
 refine⟨.ref (s.heap.objs.size+1),_,I.laid (t':=s.toks) (a:=s.heap.objs.size+1) (o:=.lst (p.map λi=>g.getD i .non)) (λb o e=>sortedAll_old e) (JQ _) ?_,rfl,q _ p f (I.hok.fresh (JQ _))⟩;refine⟨by rw[HC,m,JH];omega,p.map λi=>d.getD i Iu,c,qk j p λi D=>?_,l⟩;have:=f.1.mem_iff.mp D;simpa using this
theorem T9:∀{l:List PV}{ns:List Int},N1 l=some ns->l=ns.map .int
 | [],ns,h=>by simp[N1]at h;subst h;rfl
 | x::r,ns,h=>by
   cases x with
   | int i=>
     simp only[N1,Ip]at h;obtain⟨m,a,rfl⟩:=h;rw[T9 a];rfl
   | _=>simp[N1]at h
theorem uH:∀{l:List PV}{c:List (List Int)},X3 l=some c->l=c.map (λt=>PV.tup (t.map .int))/\∀t∈c,t≠[]
 | [],c,h=>by simp[X3]at h;subst h;simp
 | x::r,c,h=>by
   cases x with
   | tup m=>
     cases m with
     | nil=>simp[X3]at h
     | cons y i=>
       unfold X3 at h;rcases d:N1 (y::i)with _ | z
       ·rw[d]at h;cases h
       ·rcases e:X3 r with _ | j
        ·rw[d,e]at h;cases h
        ·rw[d,e]at h;cases h;obtain⟨a,b⟩:=uH e;have g:=T9 d;refine⟨by rw[a,g];rfl,λt f=>?_⟩;rcases HK.mp f with rfl | f
         ·rintro rfl;simp at g
         ·exact b t f
   | _=>simp[X3]at h
theorem aQ.ints_inv{a:List Addr}{H:Hp}:∀{ns:List Int}{xs:List V},aQ a H (ns.map .int) xs->xs=ns.map V.int
 | [],_,h=>by cases h;rfl
 | i::ns,_,h=>by cases h with | cons h r=>cases h;rw[aQ.ints_inv r];rfl
theorem uI{d:List Addr}{H:Hp}:∀{b:List (List Int)}{xs:List V},aQ d H (b.map λt=>PV.tup (t.map .int)) xs->(∀t∈b,t≠[])->Paired (gw H) xs b
 | [],_,h,_=>by cases h;exact .nil
 | t::b,_,h,a=>by
   cases h with
   | cons h r=>
     cases h with
     | tup c e=>
       rw[aQ.ints_inv e]at c;exact .cons ⟨_,rfl,c,a t HM⟩ (uI r λu f=>a u (HR _ f))
theorem ql{a:List Addr}{H:Hp}{l:List PV}{xs:List V}(r:aQ a H l xs):∀p:List Nat,(∀i∈p,i<l.length)->aQ a H (p.map λi=>l.getD i .non) (p.map λi=>xs.getD i .non)
 | [],_=>.nil
 | i::p,h=>by
   have b:=h i HM;obtain⟨u,c,d⟩:=r.get (i:=i) (x:=l[i]) (by simp[b]);refine .cons ?_ (ql r p λj e=>h j (HR _ e));have f:l.getD i .non=l[i]:=by simp[b]
   have g:xs.getD i .non=u:=by rw[IV,c];rfl
   show RV a H (l.getD i .non) (xs.getD i .non);rw[f,g];exact d
theorem uJ{b:Type}(a:List b)(d:b){p:List Nat}(c:p.Perm (Iw a.length)):(p.map λi=>a.getD i d).Perm a:=by
 refine(c.map _).trans ?_;have:(Iw a.length).map (λi=>a.getD i d)=a:=by
  apply List.ext_getElem
  ·simp
  ·intro i f e;simp[e]
 rw[this]
theorem Bm{e:Expr}{d:ED}{p C:Pos}(hr:X.A.units+64<cLine)(he:PE X e (aB X.K cm d))(T:Gl X "sorted")(U:X.mg "sorted" = none)(hs:starEach [e] X.env=(false,eval e X.env)::starEach [] X.env:=by exact D8 rfl):PE X (.Call (.Name "sorted" p) [e] [] C) (aB X.K cm (tw d)):=
 E7 (X1 (call_sortI.or Bl) T U Ma (ae he am hs) (he:=hs)) λσ H Q h=>i5 (f:=λx=>match x with | .ref n=>ap (E4 n) λl=>ap (kU l) λm=>alloc (.lst m) | _=>stuck) (λ_=>rfl) (λg A H x z A' v Q o Y N k=>by
  cases x with
  | ref n=>
    obtain⟨l,A1,Z,E⟩:=B0 N;obtain⟨rfl,a,G,rfl,O,r⟩:=K4 o Y Z;obtain⟨m,A2,e2,q⟩:=B0 E;obtain⟨s,j⟩:=C9 e2;rcases b:N1 l with _ | ns
    ·rcases I:X3 l with _ | c
     ·rw[b,I]at j;cases j
     ·rw[b,I]at j;cases j;cases q;obtain⟨rfl,J⟩:=uH I;have L:G.length=c.length:=by rw[←r.length];simp
      refine .inr ⟨a,G,c,rfl,O,uI r J,by rw[←r.length];exact s,λD p y u=>?_⟩;rw[L]at y;have es:(p.map λi=>c.getD i [])=J8 G7 c:=t9 (lt:=G7) kX ((uJ c [] y.1).trans (R5 _ _).symm) y.2 (tO c);have w:∀i∈p,i<c.length:=λi b=>by simpa using y.1.mem_iff.mp b
      have ep:(J8 G7 c).map (λt=>PV.tup (t.map .int))=p.map λi=>(c.map λt=>PV.tup (t.map .int)).getD i .non:=by
       rw[←es,HV];refine Jj λi b=>?_;have:=w i b;simp[this]
      have B:aC g H (g++[D]) (aF H D (.lst (p.map λi=>G.getD i .non))):=aC.new u;refine k (g++[D]) _ _ B (o.alloc u ⟨_,C8,?_⟩ rfl) (.ref (by rw[←o.len];simp));rw[ep];exact(ql r p λi b=>by rw[HC];exact w i b).mono B
    ·rw[b]at j;cases j;cases q;have L:=T9 b;subst L;have hx:=aQ.ints_inv r;subst hx;refine .inl ⟨a,ns,rfl,O,by simpa using s,λD u=>?_⟩;have B:aC g H (g++[D]) (aF H D (.lst ((J8 gr ns).map V.int))):=aC.new u;exact k (g++[D]) _ _ B (o.alloc u ⟨_,C8,aQ.ints _⟩ rfl) (.ref (by rw[←o.len];simp))
  | _=>cases N) h
end
end Ws
namespace Ws
open PySem L2
theorem Bn(K:HE):nL K:=⟨λa b c d=>by
 simp only[HK,IT,or_false]at c d;rcases c with rfl | rfl | rfl | rfl | rfl | rfl<;>rcases d with rfl | rfl | rfl | rfl<;>with_unfolding_all rfl⟩
def v9(s:SD):Prop:=∀a A v b,s a A≠.ok (.rt v) b
theorem J6{a b:SD}(e:v9 a)(f:v9 b):v9 (D7 a b):=λi A v j h=>by
 obtain⟨o,l,g,d⟩:=B0 h;cases o with
 | nx c=>exact f _ _ _ _ d
 | rt u=>exact e _ _ _ _ g
 | bk c=>cases d
 | ct c=>cases d
theorem lA{t:TD}{a b:SD}(e:v9 a)(f:v9 b):v9 (br t a b):=λg A v i h=>by
 obtain⟨c,j,l,d⟩:=B0 h;cases c with
 | true=>rw[if_pos rfl]at d;exact e _ _ _ _ d
 | false=>rw[if_neg (by simp)]at d;exact f _ _ _ _ d
theorem o9:v9 sPass:=λa A v b h=>by cases h
theorem u6:v9 sNever:=λa A v b h=>by cases h
theorem qm{e:ED}{g:GD}:v9 (M5 e g):=λc A v d h=>by
 obtain⟨x,f,i,a⟩:=B0 h;obtain⟨y,j,l,b⟩:=B0 a;cases b
theorem M3{a e:ED}{f:Nat}:v9 (sFld a f e):=λi A v j h=>by
 obtain⟨x,l,m,c⟩:=B0 h;obtain⟨y,p,q,b⟩:=B0 c;cases y with
 | ref n=>
   obtain⟨o,r,s,d⟩:=B0 b;obtain⟨_,g⟩:=C9 d;cases g
 | _=>cases b
theorem lB{n p:Nat}{s:SD}(hs:v9 s){vs:List PV}{A A':PHp}{v:PV}(h:fn n p s vs A=.ok v A'):v=.non:=by
 obtain⟨_,c⟩:=C9 h;obtain⟨o,e,d,b⟩:=B0 c;cases o with
 | nx a=>cases b;rfl
 | rt u=>exact absurd d (hs _ _ _ _)
 | bk a=>cases b
 | ct a=>cases b
noncomputable def qp(K:HE):Sp:=λb H Q _=>∃(a:Addr)(ns:List Int),b=[.ref a]/\bv K H a (ns.map V.int)/\ns.length<=63/\oX H/\∀c,Q (.bl true) c
theorem Bo{K:HE}{j:Nat->Addr}{f:Fun}(h:∀ns:List Int,∃g,f [.ref 0] [.ro (ns.map .int)]=.ok (.bl true) g)(vs:List V)(H:Hp)(Q:VK)(E:L2.XK)(q:qp K vs H Q E):aZ K j f 1 vs H Q E:=by
 obtain⟨a,ns,rfl,c,_,l,k⟩:=q;obtain⟨g,e⟩:=h ns;have r:Fz K H a (ns.map V.int):=by
  rcases c with(c | c) | c
  ·rcases l a with z | ⟨o,y,z⟩<;>(rw[c]at z;cases z)
  ·exact .inl c
  ·exact .inr c
 refine⟨[a],[.ro (ns.map .int)],[.ref 0],.bl true,g,⟨rfl,λn o b d i=>?_,λm n b o p d i s u A B=>?_⟩,.cons (.ref rfl) .nil,rfl,e,λv w C _ _ x=>by cases x;exact k w⟩
 ·cases n with
  | zero=>simp at d i;subst d;subst i;exact⟨_,r,aQ.ints ns⟩
  | succ n=>simp at d
 ·cases m with
  | zero=>cases n with
    | zero=>rfl
    | succ n=>simp at u
  | succ m=>simp at s
end Ws
namespace Ws
open PySem PySem.W
theorem Bp{tb:String->Option Ji}{p:Ib}{w:IW}{m:Nat}{e:Option HD}:∀(n:Nat)(S:Ld)(t:Qf)(R:Ld),
 nN (stepOk m e) (stepT (denote tb) p w) n S t=some R->topRun tb p w m e n S.abs t=some R.abs:=by
 intro n;induction n with
 | zero=>intro S t R h;cases h
 | succ n ih=>
   intro S t R h;unfold topRun;have d:@Bool.rec (λ_=>Option Ld) (@Bool.rec (λ_=>Option Ld) none (@Option.rec _ (λ_=>Option Ld) none (λr=>nN (stepOk m e) (stepT (denote tb) p w) n r.1 r.2) (stepT (denote tb) p w S t)) (stepOk m e t)) (some S) (through t)=some R:=h;cases a:through t with
   | true=>rw[a]at d;cases d;rfl
   | false=>
     rw[a]at d;cases b:stepOk m e t with
     | false=>rw[b]at d;cases d
     | true=>
       rw[b]at d;cases c:stepT (denote tb) p w S t with
       | none=>rw[c]at d;cases d
       | some r=>
         rw[c]at d;obtain⟨f,g⟩:=r;show(match step (denote tb) p w S.abs t with | .go i j=>topRun tb p w m e n i j | .halt _ _=>none)=_;rw[stepT_spec c];exact ih f g R d
theorem Bq(w:IW)(os:Qy):(qr w os).abs=⟨Ln w.params,#[],PX,Qq,os⟩:=by kernel_rfl
theorem Br(P:Params):((Ln P).isNs mainGlobals,(Ln P).objs.size,(Ln P).nsMap mainGlobals "__annotations__")=(true,11,some (.ref 6)):=by kernel_rfl
noncomputable def iU(h:Heap):Frag:=(Iw h.objs.size).filterMap λa=>(h.get? a).map λo=>(a,o)
theorem qs{h:Heap}:∀(l:List Nat){a:Addr}{o:Obj},(l.filterMap λa=>(h.get? a).map λo=>(a,o)).lookup a=some o->h.get? a=some o
 | [],_,_,e=>by cases e
 | b::l,a,o,e=>by
   rw[JG]at e;cases q:h.get? b with
   | none=>rw[q]at e;exact qs l e
   | some x=>
     rw[q]at e;change ((b,x)::_).lookup a=some o at e;rw[LN]at e;by_cases z:(a == b)=true
     ·rw[z]at e;cases e;rw[beq_iff_eq.mp z];exact q
     ·have c:(a == b)=false:=by simpa using z
      rw[c]at e;exact qs l e
theorem Bs(h:Heap):(iU h).In h:=λa o e=>qs _ e
theorem Bt(S:Ld):iU S.abs.heap=lC S:=by
 have g:S.abs.heap.objs.size=S.n:=absHeap_size ..;unfold iU lC;rw[g];have e:∀l:List Nat,(∀a∈l,a<S.n)->(l.filterMap λa=>(S.abs.heap.get? a).map λo=>(a,o))=l.filterMap λa=>(alive ((S.tree.get a).getD default)).map λo=>(a,o):=by
  intro l;induction l with
  | nil=>intro _;rfl
  | cons a l ih=>
    intro h;have f:S.abs.heap.get? a=alive ((S.tree.get a).getD default):=by
     show(absHeap S.tree S.n S.life).get? a=_;unfold Heap.get?;rw[absHeap_at,if_pos (h a (.head _))];cases(S.tree.get a).getD default with
     | mk c d i m=>cases i<;>rfl
    rw[JG,JG,f,ih λb j=>h b (.tail _ j)]
 exact e _ λa f=>JD.mp f
noncomputable def Kw(p:Ib)(N:Nat)(w:IW):Frag:=match openEnds treeTable p w N with
 | some s=>iU s.heap
 | none=>[]
theorem Bu{p f:Ib}{q:Ib->Ib}{a:List Str}{Xt:Ib->HF->Bool}{N:Nat}{v:Type}{ob:Frag->v}{va:Ib->v}
 {ok:Nat->Option HD->Qf->Bool} {st:(Code->Sem Fin)->Ib->IW->Ld->Qf->Option (Ld×Qf)} {x:(String->Option Ji)->Code->Sem Fin} {tb:String->Option Ji}
 {y:Ib->List Str->List Str->(HF->Bool)->Bool->HF->_}
 (B:p=f) (i:stepOk=ok) (j:stepT=st) (l:denote=x) (m:treeTable=tb) (n:openSeen=y)
 (C:∀w:IW,(fencedOpening treeTable p w N).map (λs=>(s.heap,s.gens,s.drawn,s.toks))=some (Ln w.params,#[],PX,Qq))
 (D:∀(w:IW)(os:Qy),(nN (ok 11 (some (.ref 6))) (st (x tb) f w) N (qr w os) (topStub f)).map (λS=>(lk y f (q f) a (Xt f) w S.abs,ob (lC S)))=some ((true,openGood (q f) a),va f)) :
 LeftO p (q p) a (Xt p) (λs=>iU s.heap) (Kw p N) N/\∀w,ob (Kw p N w)=va p:=by
 subst B i j l m n;have g:∀w,∃s,openEnds treeTable p w N=some s/\openSeen (q p) a (importedModules p.main.body) (Xt p) true s=openGood (q p) a/\ob (iU s.heap)=va p:=by
  intro w;obtain⟨⟨h,J,d,k,os⟩,e,z⟩:=Ip.mp (C w);simp only[PQ]at z;obtain⟨rfl,rfl,rfl,rfl⟩:=z;obtain⟨S,r,c⟩:=Ip.mp (D w os);simp only[lk,PQ]at c;obtain⟨⟨E,o⟩,u⟩:=c;have A:=Bp N _ _ _ r;rw[Bq]at A;have b:=Br w.params;simp only[PQ]at b;obtain⟨G,H,I⟩:=b;refine⟨S.abs,?_,o,by rw[Bt];exact u⟩;unfold openEnds;rw[e];show topFrom treeTable p w N _=_;unfold topFrom;dsimp only;rw[G,H,I,A];show(match staticsOk (importedModules p.main.body) (Ln w.params) S.abs.heap&&namesBound p S.abs.heap&&gensDone S.abs&&laidKept (Ln w.params) S.abs.heap with | true=>some S.abs | false=>none)=_;rw[E]
 refine⟨λw=>?_,λw=>?_⟩
 ·obtain⟨s,e,o,_⟩:=g w;rw[e];show some _=some _;unfold Kw;rw[e];exact congrArg some (Prod.ext o rfl)
 ·obtain⟨s,e,_,u⟩:=g w;unfold Kw;rw[e];exact u
noncomputable def Bv:Stmt->Pos
 | .FunctionDef _ _ _ _ _ _ _ _ _ p=>p
 | _=>⟨0,0,0,0⟩
theorem Bw{l:Qx}{q:Ib}{loose:List Str}{N:Nat}{d:DefRec}
 (left:LeftO l.row.prog q loose (λs=>xlAt q [] s&&recOk (RowW.records l.row.toRowW) s) (λs=>iU s.heap) (Kw l.row.prog N) N)
 (hdef:defOf q l.row.name=some (d,[])) (hp:l.row.prog.theDef l.row.name=some (d.params,d.body,d.scope)) (hk:kwWritten? d.params.kwonlyargs d.params.kw_defaults=some [])
 (hwr:(!l.row.writes||l.row.records.isEmpty)=true) (k1:l.row.wellSaid=true) (ok:(chainsOk q&&opensWell l.row.prog&&(frees l.row.toRowW&&l.row.within.isEmpty))=true) (hb:l.row.prog.bare) (hw:l.row.toRowW.promised)
 (call:WalkO q loose (XL q []) (λw h=>(Kw l.row.prog N w).In h) l.row.toRowW d [] λf vs=>PySem.call f vs):l.row.Holds:=
 holds_open left (λw s e=>by rw[←e];exact Bs _) (λw h h' x k=>x.keeps k) (λs e=>xl_of s (MQ.mp e).1) XL.keeps hdef hp hk (λs e=>recFacts_of (MQ.mp e).2) hwr k1 ok hb hw call
theorem p1{d e:Type}{a c:d}{b f:e}(h:(a,b)=(c,f)):a=c:=(Qr h).1
theorem p2{d e:Type}{a f:d}{b c:e}(h:(a,b)=(f,c)):b=c:=(Qr h).2
end Ws
namespace Ws
open PySem L2
theorem Bx{l:PySem.W.OpenLaw}{q:Ib}{j:List Str}{XP:(Str->Option HD)->Heap->Prop}{A:IW->Heap->Prop}{d:DefRec}{K:IW->HE}{k:Nat}{x:Str}(I:l.most=some 63)(r:d.params.defaults=[])(J:aR k PySem.callerA)
 (B:∀(w:IW)(h:Heap),A w h->(K w).In h)
 (F:∀(w:IW)(mg:Str->Option HD)(p:Addr)(h:Heap),(K w).In h->h.Ns mainGlobals mg->mg d.name=some (.ref p)->
  ∃v:Ia,(∀(s:HF)(u:HD),Qv s v ⟨[u],[]⟩ [(x,u)])/\∀c:Heap,(K w).In c->c.Ns mainGlobals mg->az l.prog w (K w) mg c aX k p v [x] (qp (K w))) :
 PySem.W.WalkO q j XP A l.row.toRowW d [] (λf C=>PySem.call f C):=by
 refine Att.zV I r λw D E mg mb p o pm cd L a C ns G Y ho hd N y n m i O=>?_;obtain⟨v,Q,U⟩:=F w mg p _ (B w _ Y) G.T.g y;exact zW (B w _ Y) G.T.g G.T.b G.T.builtins G.T.nolimit O n m (Ih i (by decide)) J U Q (λH Z hS=>⟨a,ns,rfl,hS,i,Z,λ_=>rfl⟩) λH e s' z=>z
end Ws
open PySem PySem.Spec PyProof.Rows
namespace Ws
open PySem L2
section
variable{ρ:List Addr}{H:Hp}{K:HE}{A:PHp}{n:Nat}{v:V}
theorem Pairs.cons_inv{c a:Type}{f:c->a}{p:c×PV}{r:List (c×PV)}{kv:List (a×V)}(h:Pairs f ρ H (p::r) kv):∃u b,kv=(f p.1,u)::b/\RV ρ H p.2 u/\Pairs f ρ H r b:=by
 obtain⟨k,v⟩:=h;cases kv with
 | nil=>cases k
 | cons q t=>
   obtain⟨g,u⟩:=q;simp only[Ic,Lm]at k;cases v with
   | cons d e=>exact⟨u,t,by rw[←k.1],d,k.2,e⟩
theorem Pairs.nil_inv{b a:Type}{f:b->a}{kv:List (a×V)}(h:Pairs f ρ H [] kv):kv=[]:=by
 obtain⟨k,v⟩:=h;cases kv with
 | nil=>rfl
 | cons q t=>cases k
theorem Pairs.cons'{b a:Type}{f:b->a}{p:b×PV}{u:V}{r:List (b×PV)}{kv:List (a×V)}(h:RV ρ H p.2 u)(t:Pairs f ρ H r kv):Pairs f ρ H (p::r) ((f p.1,u)::kv):=
 ⟨by rw[Ic,Ic,t.keys],.cons h t.vals⟩
abbrev PI(ρ:List Addr)(H:Hp)(m:List (Int×PV))(kv:List (Key×V)):Prop:=Pairs (Jq:Int->Key) ρ H m kv
theorem PI.len{m:List (Int×PV)}{kv:List (Key×V)}(h:PI ρ H m kv):m.length=kv.length:=by
 have:=congrArg List.length h.keys;simpa using this.symm
theorem PI.val:∀{m:List (Int×PV)}{kv:List (Key×V)}(i:Int),PI ρ H m kv->(gi m i=none/\Z3 kv (.inl i)=none)\/∃x u,gi m i=some x/\Z3 kv (.inl i)=some u/\RV ρ H x u
 | [],kv,i,h=>by obtain rfl:=h.nil_inv;exact .inl ⟨rfl,rfl⟩
 | p::r,kv,i,h=>by
   obtain⟨u,a,rfl,b,t⟩:=h.cons_inv;unfold gi;by_cases e:p.1=i
   ·rw[if_pos e,m3 (by rw[e])];exact .inr ⟨_,_,rfl,rfl,b⟩
   ·rw[if_neg e,m4 (λz=>e (Ps z))];exact PI.val i t
theorem PI.some_eq{m:List (Int×PV)}{kv:List (Key×V)}(i:Int)(h:PI ρ H m kv):(Z3 kv (.inl i)).isSome=(gi m i).isSome:=by
 rcases PI.val i h with⟨a,b⟩ | ⟨x,u,a,b,_⟩<;>rw[a,b]<;>rfl
theorem uL(i:Int):∀m:List (Int×PV),(m.any λp=>decide (p.1=i))=(gi m i).isSome
 | []=>rfl
 | p::r=>by
   unfold gi;rw[KC];by_cases e:p.1=i
   ·rw[if_pos e,decide_eq_true e];rfl
   ·rw[if_neg e,decide_eq_false e,Od];exact uL i r
theorem PI.repl{x:PV}{u:V}(a:RV ρ H x u)(i:Int):∀{m:List (Int×PV)}{kv:List (Key×V)},PI ρ H m kv->PI ρ H (m.map λp=>if p.1=i then(p.1,x) else p) (kv.map λp=>if p.1=(.inl i) then(p.1,u) else p)
 | [],kv,h=>by obtain rfl:=h.nil_inv;exact⟨rfl,.nil⟩
 | p::r,kv,h=>by
   obtain⟨w,b,rfl,c,t⟩:=h.cons_inv;have ih:=PI.repl a i t;rw[Ic,Ic];by_cases e:p.1=i
   ·rw[if_pos e,if_pos (by rw[e])];exact Pairs.cons' (p:=(p.1,x)) a ih
   ·rw[if_neg e,if_neg (λz=>e (Ps z))];exact Pairs.cons' c ih
theorem PI.snoc{x:PV}{u:V}(a:RV ρ H x u)(i:Int):∀{m:List (Int×PV)}{kv:List (Key×V)},PI ρ H m kv->PI ρ H (m++[(i,x)]) (kv++[(.inl i,u)])
 | [],kv,h=>by obtain rfl:=h.nil_inv;exact Pairs.cons' (p:=(i,x)) a ⟨rfl,.nil⟩
 | p::r,kv,h=>by
   obtain⟨w,b,rfl,c,t⟩:=h.cons_inv;exact Pairs.cons' c (PI.snoc a i t)
theorem PI.put{x:PV}{u:V}(b:RV ρ H x u)(i:Int){m:List (Int×PV)}{kv:List (Key×V)}(h:PI ρ H m kv):PI ρ H (n0 m i x) (S5 kv (.inl i) u):=by
 unfold n0 S5;have e:(kv.any λp=>decide (p.1=(.inl i)))=(m.any λp=>decide (p.1=i)):=by
  rw[uL,mW];exact h.some_eq i
 rw[e];by_cases a:(m.any λp=>decide (p.1=i))=true
 ·rw[if_pos a,if_pos a];exact h.repl b i
 ·rw[if_neg a,if_neg a];exact h.snoc b i
theorem qt{e:Nat->Addr}{m:List (Int×PV)}{A':PHp}(f:aV K e ρ A H)(r:RV ρ H (.ref n) v)(h:hW n A=.ok m A'):A'=A/\A[n]?=some (.dI m)/\∃a c,v=.ref a/\ρ[n]?=some a/\H a=some (.dK c)/\PI ρ H m c:=by
 cases r with
 | ref d=>
   unfold hW at h;rcases b:A[n]? with _ | o
   ·rw[b]at h;cases h
   ·have q:=f.obj n o _ b d;cases o with
    | dI m=>rw[b]at h;cases h;obtain⟨g,i,j⟩:=q;exact⟨rfl,rfl,_,g,rfl,d,i,j⟩
    | _=>rw[b]at h;cases h
end
section
variable{X:Cx}{cm:Nat->Addr}
theorem uM{a:List Addr}{H:Hp}{i:Int}{v:V}(r:RV a H (.int i) v):v=L2.kV (.inl i):=by cases r;rfl
theorem By{o i b:Expr}{d y e:ED}{r h:Pos}(hu:X.A.units+1<cLine)(ho:PE X o (aB X.K cm d))(hi:PE X i (aB X.K cm y))(hv:PE X b (aB X.K cm e))(hs:swapsWith b (some (.Subscript o i h)) r.line X.env=pure false:=by rfl) :
 PS X (.Assign [.Subscript o i h] b r) (cu X.K cm (sDPut d y e)):=
 S9 (tq hu ho hi hv hs) λD σ H hq=>by
  obtain⟨ρ,A,l,f,A',rl,s,ev,k⟩:=hq;obtain⟨w,A1,e1,C⟩:=B0 ev;obtain⟨x,A2,e2,E⟩:=B0 C;obtain⟨kx,A3,e3,p⟩:=B0 E;refine⟨ρ,A,l,w,A1,rl,s,e1,λG H1 v1 u I J=>⟨G,A1,l,x,A2,I,s.mono u,e2,λL H2 v2 v N O=>⟨L,A2,l,kx,A3,N,(s.mono u).mono v,e3,λg Q v3 z q T=>?_⟩⟩⟩;cases x with
  | ref n=>
    cases kx with
    | int j=>
      obtain⟨m,A4,e4,U⟩:=B0 p;obtain⟨rfl,hA,a,kv,rfl,hn,hH,hp⟩:=qt q (O.mono z) e4;obtain⟨c,Y⟩:=C9 U;cases Y;rw[uM T];refine⟨a,_,rfl,ez.k hH (by rw[←hp.len];exact ks c),?_⟩;have B:aC g Q g (aF Q a (.dK (S5 kv (.inl j) v1))):=aC.put q hn hA rfl;have Z:aV X.K cm g (A4.set n (.dI (n0 m j w))) (aF Q a (.dK (S5 kv (.inl j) v1))):=
       q.put hn hA rfl rfl ⟨_,C8,PI.put ((((J.mono v).mono z)).mono B) j (hp.mono B)⟩
      exact k g _ (((u.trans v).trans z).trans B) Z σ ((((s.mono u).mono v).mono z).mono B)
    | _=>cases p
  | _=>cases p
theorem dR{o i:Expr}{d y:ED}{g:Pos}(J:X.A.units+1<cLine)(L:PE X o (aB X.K cm d))(N:PE X i (aB X.K cm y))(hs:mY i):PE X (.Subscript o i g) (aB X.K cm (kj d y)):=
 E7 (tm J L N hs) λσ H Q O=>by
  obtain⟨T,A,e,v,A',U,B,Y,k⟩:=O;obtain⟨x,C,Z,h⟩:=B0 Y;obtain⟨D,A2,e2,c⟩:=B0 h;refine⟨T,A,e,x,C,U,B,Z,λl H1 v1 E p q=>⟨l,C,e,D,A2,p,B.mono E,e2,λr H2 v2 G f s=>?_⟩⟩;cases x with
  | ref n=>
    cases D with
    | int j=>
      obtain⟨m,A3,e3,b⟩:=B0 c;obtain⟨rfl,hA,a,kv,rfl,hn,hH,hp⟩:=qt f (q.mono G) e3;rcases hp.val j with⟨w,I⟩ | ⟨z,u,w,I,ru⟩
      ·rw[w]at b;cases b
      ·rw[w]at b;cases b;rw[uM s];exact⟨a,u,rfl,by rw[←I];exact bT.k hH,k r H2 _ (E.trans G) f ru⟩
    | _=>cases c
  | _=>cases c
end
end Ws
namespace Ws
open PySem PySem.W PyProof.Rows L2
section
variable{X:Cx}{cm:Nat->Addr}
theorem uN:∀{ns:List Int}{us:List HD},us.length=ns.length->(∀(j:Nat)(u:HD),us[j]?=some u->∃i t,ns[j]?=some i/\u=Kz i t)->aE (ns.map V.int) us
 | [],[],_,_=>.nil
 | i::ns,u::us,a,h=>by
   obtain⟨j,t,b,c⟩:=h 0 u rfl;cases b;exact .cons ⟨t,c⟩ (uN (by simpa using a) λj v d=>h (j+1) v d)
 | [],_::_,a,_=>by cases a
 | _::_,[],a,_=>by cases a
theorem Z7{M:QC}{A:IN}{E:HD->HF->Prop}{s:HF}{e:Expr}{a:Env}{b:Pos}{Q:List HD->HF->Prop}(hs:starEach [e] a=(false,eval e a)::starEach [] a)(h:wpAny M A (eval e a) (λu c=>Q [u] c) E s):wpAny M A (spliced (backTo b (starEach [e] a))) Q E s:=by
 rw[hs];exact Kh (aP h λu c q=>Lp q)
theorem Bz{σ:L2.St}{H:Hp}{Q:List V->Hp->Prop}(h:dQ X.K cm av σ H Q):tNil σ H Q:=by
 obtain⟨a,A,b,e,f,c,g,d,k⟩:=h;cases d;exact k a H [] (aC.refl _ _) c .nil
theorem bZ{c:Nat}{f:Fun}{n k r:Nat}{ps:List Str}{m:Str}{o:Expr}{d:ED}{b e:Pos}{pl:Sem Bool}(D:i7 X.prog X.w X.K X.mg X.base cm c m k ps f n)(s:k<=r)(u:aR r X.A)(x:eu X.K (cm c))(y:PE X o (aB X.K cm d))(g:∀i,i<19->cs i≠m)
 (z:eval (.Call (.Attribute o m b) [] [] e) X.env=(do
  let ov ←eval o X.env
  standAt b.atName
  let(f,first) ←holding [ov] (getMethod ov m pl)
  callWith e f first (backTo e (starEach [] X.env)) (backToKw e (keywordEach [] X.env))):=by rfl) :
 PE X (.Call (.Attribute o m b) [] [] e) (aB X.K cm (Q0 c f d av)):=by
 obtain⟨fa,fd,F,B,C⟩:=D.ex;refine E7 (zj (pl:=pl) y x B F (u.mono s) C (dvs:=[]) .nil mV z) λσ H Q h=>?_;obtain⟨E,A,j,v,G,I,J,L,k⟩:=ue (n:=n) D.len g h;exact⟨E,A,j,v,G,I,J,L,λl N O T p q=>by
  obtain⟨a,U,fs,Y,Z,h3,h4⟩:=k l N O T p q;exact⟨a,U,fs,Y,Z,h3,Bz h4⟩⟩
end
structure eZ(K:HE)(x qual:Str)(st:Stmt)(f:Addr)(fd:Ia)(items:Array HD):Prop where
 ex:∃(T:Addr)(oc:HD)(od:Option Addr)(kV doc pm:HD)(an:Option Addr)(cdv ct:HD)(osl:Array (Option HD))(tc:HD)(td:Option Addr)(tn:Nat)(ts:Array (Option HD)),
  fd=KA x qual (C5 st) (C4 st) (B6 st) (.ref T) kV doc pm an cdv ct/\K.lookup f=some ⟨oc,od,.func fd,osl⟩/\My K cdv qual=true/\K.lookup T=some ⟨tc,td,.seq items tn,ts⟩
 kp:Kq K (.ref f)=true
section
variable{P:Ib}{w:IW}{K:HE}{mg:Str->Option HD}{base:Heap}{cm:Nat->Addr}
theorem eZ.binds{x a:Str}{st:Stmt}{f:Addr}{i:Ia}{items:Array HD}{ps:List Str}{d:List HD}(F:eZ K x a st f i items)(n:Nat)(q:n+d.length=ps.length)
 (h:∀(T:Addr)(kV b e:HD)(g:Option Addr)(c ct:HD)(us:List HD),us.length=n->∃k,bindArgs (KA x a (C5 st) (C4 st) (B6 st) (.ref T) kV b e g c ct) ⟨us,[]⟩=(seqItems? (.ref T)>>=k)/\k (some items)=pure (ps.zip (us++d))):L2.Binds K i ps d:=by
 obtain⟨T,oc,r,kV,b,e,g,c,ct,j,u,v,y,z,rfl,lk,l,lt⟩:=F.ex;intro s us X m;obtain⟨k,o,p⟩:=h T kV b e g c ct us (by rw[Ie]at m;omega);exact binds_K X rfl lt rfl o p
theorem BA{x a:Str}{st:Stmt}{f T:Addr}{items:Array HD}{oc:HD}{i g:Option Addr}{e:Array (Option HD)}{kV d h b ct:HD}{j:HD}{m:Option Addr}{n:Nat}{o:Array (Option HD)}
 (l:K.lookup f=some ⟨oc,i,.func (KA x a (C5 st) (C4 st) (B6 st) (.ref T) kV d h g b ct),e⟩) (c:My K b a=true) (k:Kq K (.ref f)=true) (lt:K.lookup T=some ⟨j,m,.seq items n,o⟩) :
 eZ K x a st f (KA x a (C5 st) (C4 st) (B6 st) (.ref T) kV d h g b ct) items:=⟨⟨T,oc,i,kV,d,h,g,b,ct,e,j,m,n,o,rfl,l,c,lt⟩,k⟩
theorem BB{x a:Str}{st:Stmt}{f:Addr}{q:Ia}{items:Array HD}{N ps:List Str}{k:Nat}{s:SD}(F:eZ K x a st f q items)(S:C6 N ps (B6 st))
 (d:∀(b:HD)(A:IN)(outer:List Env)(j:HF)(H:Hp)(E:L2.XK),aR k (A.deeper (IS a (B6 st) j.heap.objs.size f b))->
  bL (fz aX P w K mg base N a (B6 st) f b A outer j H E).nox (C4 st) (cu K cm s)) :
 az P w K mg base aX (k+1) f q ps (aZ K cm (fn N.length ps.length s) ps.length):=by
 obtain⟨T,oc,od,kV,I,pm,an,b,ct,J,tc,td,tn,ts,rfl,lk,l,lt⟩:=F.ex;refine oU lk l S (λL H Q E ⟨r,A,y,v,A',z,m,C,_,_⟩=>by rw[←m.length];exact C) λA outer j H L Q E O h=>⟨_,(d b A outer j H E O).nox,?_⟩;obtain⟨r,B,y,v,B',z,m,C,U,k⟩:=h;obtain⟨_,n⟩:=C9 U;obtain⟨o,Y,Z,c⟩:=B0 n;refine⟨r,B,Ws.start N.length y,o,Y,z,bV.start0 m,Z,λe D G g=>?_⟩;cases o with
 | nx i=>cases c;exact λa0 _=>k e D _ G g .non
 | rt u=>cases c;exact λv' p=>k e D v' G g p
 | bk i=>cases c
 | ct i=>cases c
end
section
variable{X:Cx}{cm:Nat->Addr}
theorem qu:∀{bs:List Bool}{us:List HD},aE (bs.map V.bl) us->∀(i:Nat)(v:HD),us[i]?=some v->∃b,bs[i]?=some b/\v=.bool b
 | [],_,.nil,i,v,h=>by simp at h
 | b::bs,_,.cons r t,0,v,h=>by
   cases r;simp at h;subst h;exact⟨b,rfl,rfl⟩
 | b::bs,_,.cons r t,i+1,v,h=>qu t i v (by simpa using h)
theorem BC(bs:List Bool):((Iw bs.length).all λi=>(bs[i]?).getD true)=bs.all id:=by
 induction bs with
 | nil=>rfl
 | cons b r ih=>
   rw[Il,Mn,Lq,ME,Lq,←ih];rfl
noncomputable def BD(K:HE):List V->Hp->VK->Prop:=λb H Q=>∃(a:Addr)(bs:List Bool),b=[.ref a]/\bv K H a (bs.map V.bl)/\Q (.bl (bs.all id)) H
theorem BE(d:X.calm=true):bo X (.builtin "all") (BD X.K):=by
 intro p s L H N O Q I r h;obtain⟨a,bs,rfl,x,q⟩:=h;obtain⟨u,rfl,y⟩:=l9 r;cases y;obtain⟨c,w,z,T⟩:=I.list x;have f:=z.isList;have l:a<s.heap.objs.size:=by
  obtain⟨_,e,_⟩:=f;exact HJ e
 have g:c.length=bs.length:=by
  have:=w.length;simpa using this.symm
 refine call_all_walk (JY f ⟨s.heap.objs.size,[s.heap.objs.size,a],[s.heap.objs.size],c.toArray.size,_,_,λi=>(bs[i]?).getD true,rfl,
  Qz.list (A:=X.A.in1) (I.ok.hd d) _ a (HS l) c.toArray,⟨⟨_,HI _ rfl,rfl,rfl⟩,f.push _⟩,?_,?_⟩)
 ·intro i v B C U D m;obtain⟨b,n,rfl⟩:=qu w i v (by simpa using D);have j:C ((bs[i]?).getD true) B:=m;rw[n]at j;exact JJ j
 ·intro Y E G;have n:c.toArray.size=bs.length:=by rw[HU];exact g
  rw[n,BC];exact⟨.bl _,H,I.kept (t':=E) (λb o e=>G b o (λJ=>by rw[HH.mp J]at e;exact absurd (HJ e) (JO _)) (HA _ e)),rfl,q⟩
theorem d3:∀{l:List PV}{bs:List Bool},V6 l=some bs->l=bs.map .bl
 | [],bs,h=>by simp[V6]at h;subst h;rfl
 | x::r,bs,h=>by
   cases x with
   | bl b=>
     simp only[V6,Ip]at h;obtain⟨m,a,rfl⟩:=h;rw[d3 a];rfl
   | _=>simp[V6]at h
theorem lD:∀{a:List Addr}{H:Hp}{bs:List Bool}{xs:List V},aQ a H (bs.map PV.bl) xs->xs=bs.map V.bl
 | _,_,[],_,.nil=>rfl
 | _,_,b::bs,_,.cons h t=>by cases h;rw[lD t];rfl
theorem w8{e:Expr}{d:ED}{p g:Pos}(c:X.calm=true)(he:PE X e (aB X.K cm d))(q:Gl X "all")(r:X.mg "all" = none)(hs:starEach [e] X.env=(false,eval e X.env)::starEach [] X.env:=by exact D8 rfl):PE X (.Call (.Name "all" p) [e] [] g) (aB X.K cm (gj d)):=
 E7 (X1 (BE c) q r (by rfl) (ae he am hs) (he:=hs)) λB H Q h=>i5 (f:=λx=>match x with | .ref n=>ap (E4 n) λl=>(match V6 l with | some bs=>ret (.bl (bs.all id)) | none=>stuck) | _=>stuck) (λ_=>rfl) (λs A H x z A' v Q j u m k=>by
  cases x with
  | ref n=>
    obtain⟨l,A1,w,b⟩:=B0 m;obtain⟨rfl,a,C,rfl,y,o⟩:=K4 j u w;cases i:V6 l with
    | none=>rw[i]at b;cases b
    | some bs=>
      rw[i]at b;cases b;rw[d3 i]at o;exact⟨a,bs,rfl,by rw[←lD o];exact y,k s H _ (aC.refl _ _) j (.bl _)⟩
  | _=>cases m) h
theorem nO:∀{a:List Addr}{H:Hp}{ns:List Int}{xs:List V},aQ a H (ns.map PV.int) xs->xs=ns.map V.int
 | _,_,[],_,.nil=>rfl
 | _,_,i::ns,_,.cons h t=>by cases h;rw[nO t];rfl
theorem nP{i:Int}{j:Nat}{b a:Pos}:PE X (.UnaryOp .USub (.Constant (.int i) j b) a) (aB X.K cm (eK (.int (-i)))):=
 E7 (yG yJ rZ) λh H Q c=>by
  obtain⟨d,A,e,v,l,f,m,g,k⟩:=c;cases g;exact⟨i,rfl,k d H _ (aC.refl _ _) f (.int _)⟩
end
end Ws
namespace Ws
open PySem PySem.W PyProof.Rows L2
section
variable{X:Cx}{cm:Nat->Addr}
noncomputable def BF(K:HE):List V->Hp->VK->Prop:=λb H Q=>∃(a:Addr)(xs:List V),b=[.ref a]/\bv K H a xs/\∀p,H p=none->Q (.ref p) (aF H p (.tup xs))
theorem BG:bo X (.type "tuple") (BF X.K):=by
 intro d s x H y z Q I r h;obtain⟨a,f,rfl,m,q⟩:=h;obtain⟨u,rfl,n⟩:=l9 r;cases n;obtain⟨c,g,p,i⟩:=I.list m;have v:f.length=c.length:=g.length;refine call_tuple_list p.isList (λj w=>?_) (by rw[HU,←v];exact i);have l:=I.kept (t':=s.toks) w;exact⟨.ref j.objs.size,_,l.laid (t':=s.toks) (a:=j.objs.size) (o:=.tup f) (λb o e=>HA _ e) (HG _) ⟨i,c,g,_,HI _ rfl,rfl,_,rfl⟩,rfl,q _ (l.hok.fresh (HG _))⟩
theorem qv{e:Expr}{d:ED}{p b:Pos}(he:PE X e (aB X.K cm d))(w:Gl X "tuple")(y:X.mg "tuple" = none)(g:bootBuiltins "tuple" = some (.type "tuple"))(hs:starEach [e] X.env=(false,eval e X.env)::starEach [] X.env:=by exact D8 rfl):PE X (.Call (.Name "tuple" p) [e] [] b) (aB X.K cm (n4 d)):=
 E7 (t6 BG w y g (ae he am hs) (he:=hs)) λE H Q h=>i5 (f:=λx=>match x with | .ref n=>ap (E4 n) λl=>G0 (l.length<=LIM) (ret (.tup l)) | _=>stuck) (λ_=>rfl) (λi A H x z A' v Q o B q k=>by
  cases x with
  | ref n=>
    obtain⟨l,A1,C,j⟩:=B0 q;obtain⟨rfl,a,r,rfl,D,g⟩:=K4 o B C;obtain⟨c,m⟩:=C9 j;cases m;refine⟨a,r,rfl,D,λp s=>?_⟩;have u:aC i H i (aF H p (.tup r)):=aC.same s;exact k i _ _ u (o.tup s) (.tup C8 (g.mono u))
  | _=>cases q) h
theorem BH{o e:Expr}{d u:ED}{p f:Pos}(ho:PE X o (aB X.K cm d))(he:PE X e (aB X.K cm u))
 (hb:attributeBase o "extend" X.env (eval o X.env)=eval o X.env:=by rfl) (hs:starEach [e] X.env=(false,eval e X.env)::starEach [] X.env:=by exact D8 rfl)
 (hfew:((backTo f (starEach [e] X.env)).all (λx=>!x.1)&&(backToKw f (keywordEach [] X.env)).all (λx=>x.1.isSome)&&decide ([e].length+([]:List Ob).length+(if([]:List Ob).isEmpty then 0 else 1)<30))=true:=by rfl)
 (hline:(p.endLine == f.line)=true:=by rfl):PE X (.Call (.Attribute o "extend" p) [e] [] f) (aB X.K cm (py d u)):=
 E7 (sW Og PySem.F.slot_list_extend PySem.F.type_list_extend zQ ho (ae he am hs) (hbase:=hb) (hfew:=hfew) (hline:=hline) (hs:=hs)) λσ H Q hq=>by
  obtain⟨ρ,A,q,v,A',rl,O,ev,k⟩:=hq;obtain⟨x,A1,e1,r⟩:=B0 ev;refine⟨ρ,A,q,x,A1,rl,O,e1,λB H1 v1 T s w=>?_⟩;cases x with
  | ref n=>
    obtain⟨l0,A2,e2,C⟩:=B0 r;obtain⟨rfl,hA,a,xs,rfl,hn,hH,r0⟩:=N7 s w e2;refine⟨.inl ⟨rfl,xs,bv.of hH⟩,?_⟩;obtain⟨y,A3,e3,z⟩:=B0 C;refine⟨B,_,q,[y],A3,s,O.mono T,by show ap (u q) _ _=_;rw[aD e3];rfl,λD H2 b5 U g E=>?_⟩;cases E with
    | cons hv hr=>
      cases hr;cases y with
      | ref j=>
        obtain⟨l,A4,e4,G⟩:=B0 z;obtain⟨rfl,h,a2,ys,e5,i,I,Y⟩:=N7 g (w.mono U) e4;cases e5;obtain⟨m,A5,e6,J⟩:=B0 G;obtain⟨rfl,d2,b,zs,rfl,e7,L,Z⟩:=N7 g hv e6;obtain⟨c,N⟩:=C9 J;cases N;refine⟨a,b,ys,zs,rfl,rfl,I,L,by rw[←Y.length,←Z.length];exact X7 c,?_⟩;refine k D _ _ ((T.trans U).trans (aC.put g i h rfl)) (g.put i h rfl rfl ⟨_,C8,?_⟩) .non;exact(Y.mono (aC.put g i h rfl)).append (Z.mono (aC.put g i h rfl))
      | _=>cases z
  | _=>cases r
end
section
variable{prog:Ib}{w:IW}{A:IN}{E:HD->HF->Prop}{s:HF}
theorem BI{a t:Addr}{i:Nat}{b:Array HD}{x:HD}{Q:HD->HF->Prop}(e:s.heap.IsTupleIter a t i)(l:s.heap.IsTuple t b)(m:b[i]?=some x)
 (n:∀f,f.IsTupleIter a t (i+1)->Jr a s.heap f->Q x { s with heap:=f }):wpAny (model prog w) A (Im (.ref a)) Q E s:=by
 obtain⟨o,d,p,c⟩:=id e;obtain⟨q,g,_,r,h⟩:=l;unfold Im;refine Hz (Jd (name:=KR "__next__") e.typeIs Kx (II Kx e.typeIs Nk ?_ (MV _)));show wpAny _ _ (field (.ref a) 0>>=_) _ _ s;refine Hz (Jf d c (x:=.ref t) rfl ?_);show wpAny _ _ (if(HW t == Iu)=true then _ else _) _ _ s;rw[if_neg (show ¬((HW t == Iu)=true)from IP)];show wpAny _ _ (field (.ref a) 1>>=_) _ _ s;refine Hz (Jf d c (x:=.int i 0) rfl ?_);show wpAny _ _ (seqItems? (.ref t)>>=_) _ _ s;refine Hz (Kb g h ?_);simp only[KN,m];refine Hz (Kc d c (by simp) (HB ⟨x,rfl,HB (n _ ⟨_,IM _ d (JM (IQ c _)),(Ls ..).trans p,by rw[IQ c];simp[rawInt]⟩ (IH ..))⟩))
theorem BJ{b t:Addr}{i:Nat}{c:Array HD}{Q:HD->HF->Prop}(n:A.handled=none)(d:s.heap.IsTupleIter b t i)(q:s.heap.IsTuple t c)(r:c[i]?=none)
 (u:∀f e,Pu b s.heap f->(∃o,f.get? e=some o/\o.cls=.type "StopIteration")->E (.ref e) { s with heap:=f }):wpAny (model prog w) A (Im (.ref b)) Q E s:=by
 obtain⟨o,g,v,h⟩:=id d;obtain⟨y,j,_,z,l⟩:=q;unfold Im;refine Hz (Jd (name:=KR "__next__") d.typeIs Kx (II Kx d.typeIs Nk ?_ (MV _)));show wpAny _ _ (field (.ref b) 0>>=_) _ _ s;refine Hz (Jf g h (x:=.ref t) rfl ?_);show wpAny _ _ (if(HW t == Iu)=true then _ else _) _ _ s;rw[if_neg (show ¬((HW t == Iu)=true)from IP)];show wpAny _ _ (field (.ref b) 1>>=_) _ _ s;refine Hz (Jf g h (x:=.int i 0) rfl ?_);show wpAny _ _ (seqItems? (.ref t)>>=_) _ _ s;refine Hz (Kb j l ?_);simp only[KN,r];refine Hz (Lu (Hz (Kc g h (by simp) ?_)));show wpAny _ _ (newExc (.type "StopIteration") []>>=_) _ _ _;refine Hz ?_;simp only[newExc,newTuple];refine Hz (Ja ?_ (by size_fits));refine Hz (m:=firstArgMember _ _) (Pw (a:=Iu) (by first | rfl | (simp only[firstArgMember];rfl)) ?_);refine Ja ?_ (by size_fits);simp only[raiseNew];refine Hz (PR ?_);first | rw[show A.in1.handled=none from n] | rw[n]
 refine Hz (HB (Qs ?_));exact u _ _ (((IH ..).extBut.push _).push _) ⟨_,HI _ rfl,rfl⟩
def aU(k:Bool)(h:Heap)(a l:Addr)(i:Nat):Prop:=match k with
 | true=>h.IsTupleIter a l i
 | false=>h.IsListIter a l i
def SeqAt(k:Bool)(h:Heap)(l:Addr)(a:Array HD):Prop:=match k with
 | true=>h.IsTuple l a
 | false=>h.IsList l a
theorem aU.at{k:Bool}{h h':Heap}{a l:Addr}{i:Nat}(x:aU k h a l i)(e:∀o,h.get? a=some o->h'.get? a=some o):aU k h' a l i:=by
 cases k with
 | true=>exact Heap.IsTupleIter.at x e
 | false=>exact Heap.IsListIter.at x e
theorem SeqAt.at{k:Bool}{h h':Heap}{l:Addr}{a:Array HD}(x:SeqAt k h l a)(e:∀o,h.get? l=some o->h'.get? l=some o):SeqAt k h' l a:=by
 cases k with
 | true=>obtain⟨o,b,c⟩:=x;exact⟨o,e o b,c⟩
 | false=>exact Heap.IsList.at x e
theorem aU.obj{k:Bool}{h:Heap}{c l:Addr}{i:Nat}(x:aU k h c l i):∃o d,h.get? c=some o/\o.data=.fields d:=by
 cases k with
 | true=>obtain⟨o,a,_,b⟩:=x;exact⟨o,_,a,b⟩
 | false=>obtain⟨o,a,_,b⟩:=x;exact⟨o,_,a,b⟩
theorem SeqAt.lt{k:Bool}{h:Heap}{l:Addr}{a:Array HD}(x:SeqAt k h l a):l<h.objs.size:=by
 cases k with
 | true=>obtain⟨o,b,_⟩:=x;exact HJ b
 | false=>obtain⟨o,b,_⟩:=x;exact HJ b
theorem u7{k:Bool}{b t:Addr}{i:Nat}{a:Array HD}{x:HD}{Q:HD->HF->Prop}(d:aU k s.heap b t i)(e:SeqAt k s.heap t a)(f:a[i]?=some x)
 (g:∀c,aU k c b t (i+1)->Jr b s.heap c->Q x { s with heap:=c }):wpAny (model prog w) A (Im (.ref b)) Q E s:=by
 cases k with
 | true=>exact BI d e f g
 | false=>exact wpAny_nextOf_list_item d e f g
theorem nQ{k:Bool}{b t:Addr}{i:Nat}{a:Array HD}{Q:HD->HF->Prop}(d:A.handled=none)(f:aU k s.heap b t i)(g:SeqAt k s.heap t a)(h:a[i]?=none)
 (j:∀c e,Pu b s.heap c->(∃o,c.get? e=some o/\o.cls=.type "StopIteration")->E (.ref e) { s with heap:=c }):wpAny (model prog w) A (Im (.ref b)) Q E s:=by
 cases k with
 | true=>exact BJ d f g h j
 | false=>exact wpAny_nextOf_list_end d f g h j
noncomputable def lE(k:Bool)(l:Addr):Obj:={ cls:=.type (match k with | true=>"tuple_iterator" | false=>"list_iterator"),data:=.fields #[.ref l,.int 0 0] }
theorem uO(k:Bool)(h:Heap)(l:Addr):aU k (h.push (lE k l)) h.objs.size l 0:=by
 cases k with
 | true=>exact⟨_,HI _ rfl,rfl,rfl⟩
 | false=>exact⟨_,HI _ rfl,rfl,rfl⟩
theorem uP{k:Bool}{l:Addr}{a:Array HD}{Q:HD->HF->Prop}(b:SeqAt k s.heap l a)(c:Q (.ref s.heap.objs.size) { s with heap:=s.heap.push (lE k l) }):wpAny (model prog w) A (pyIter (.ref l)) Q E s:=by
 cases k with
 | true=>exact Me b c
 | false=>exact JY b c
def qw(h:Heap)(z TI TO:Addr):Prop:=∃(a:HD)(e:Bool),(a=.none\/∃T:Addr,a=rawInt T)/\h.get? z=some { cls:=.type "zip",dict:=none,data:=.fields #[a,.bool e,.bool false,.ref TI,.ref TO],slots:=#[] }
abbrev gx(d:HD)(e:Bool)(TI TO:Addr):Obj:={ cls:=.type "zip",dict:=none,data:=.fields #[d,.bool e,.bool false,.ref TI,.ref TO],slots:=#[] }
structure fJ(k1 k2:Bool)(z TI TO i1 i2 l1 l2:Addr)(i:Nat)(h:Heap):Prop where
 zr:qw h z TI TO
 ti:NQ h TI (.ref i1) (.ref i2)
 to:∃a b,NQ h TO a b
 j1:aU k1 h i1 l1 i
 j2:aU k2 h i2 l2 i
abbrev Kp(z TO a b:Addr)(h h':Heap):Prop:=∀c o,c≠z->c≠TO->c≠a->c≠b->h.get? c=some o->h'.get? c=some o
structure ZA(z TI TO i1 i2 l1 l2:Addr):Prop where
 TIz:TI≠z
 TOz:TO≠z
 i1z:i1≠z
 i2z:i2≠z
 TITO:TI≠TO
 TIi1:TI≠i1
 TIi2:TI≠i2
 TOi1:TO≠i1
 TOi2:TO≠i2
 i12:i1≠i2
 l1z:l1≠z
 l1TO:l1≠TO
 l1i1:l1≠i1
 l1i2:l1≠i2
 l2z:l2≠z
 l2TO:l2≠TO
 l2i1:l2≠i1
 l2i2:l2≠i2
theorem fJ.keep{f g:Bool}{z TI TO c d j l2:Addr}{i:Nat}{h h':Heap}(S:fJ f g z TI TO c d j l2 i h)(k:∀b∈[z,TI,TO,c,d],∀o,h.get? b=some o->h'.get? b=some o):fJ f g z TI TO c d j l2 i h':=by
 obtain⟨⟨l,m,n,p⟩,q,⟨a,b,r⟩,u,v⟩:=S;exact⟨⟨l,m,n,k z (by simp) _ p⟩,k TI (by simp) _ q,⟨a,b,k TO (by simp) _ r⟩,u.at λo e=>k c (by simp) o e,v.at λo e=>k d (by simp) o e⟩
theorem BK{a:Addr}{Q:Option Obj->HF->Prop}(h:Q (s.heap.get? a) s):wpAny (model prog w) A (loadIfAlive a) Q E s:=λ_ _ _=>h
theorem uQ{z TI TO:Addr}{Q:Bool->HF->Prop}(hz:qw s.heap z TI TO)(h:∀b c d a,c.get? z=some (gx d a TI TO)->(b=false->∃T:Addr,d=rawInt T)->Jr z s.heap c->Q b { s with heap:=c }) :
 wpAny (model prog w) A (JI (.ref z)) Q E s:=by
 obtain⟨d,a,j,hz⟩:=hz;unfold JI;rcases j with rfl | ⟨T,rfl⟩
 ·exact Hz (Jf hz rfl (x:=.none) rfl (HB (h true s.heap _ _ hz (by simp) ⟨rfl,λ_ _=>rfl⟩)))
 ·refine Hz (Jf hz rfl (x:=rawInt T) rfl ?_);refine Hz (BK ?_);by_cases i:(s.heap.get? ((T:Int).toNat)).isNone=true
  ·rw[if_pos i];exact HB (h true s.heap _ _ hz (by simp) ⟨rfl,λ_ _=>rfl⟩)
  ·rw[if_neg i];refine Hz (Jf hz rfl (x:=.bool a) rfl ?_);cases a with
   | true=>
     rw[if_neg (by simp)];exact HB (h false s.heap _ _ hz (λ_=>⟨T,rfl⟩) ⟨rfl,λ_ _=>rfl⟩)
   | false=>
     rw[if_pos (by decide)];refine Hz (JR hz (by simp) λl e f=>HB (h false l (rawInt T) true e (λ_=>⟨T,rfl⟩) f))
theorem BL{k1 k2:Bool}{z TI TO L N l1 l2:Addr}{k:Nat}{xs ys:Array HD}{x y:HD}{Q:HD->HF->Prop}(D:ZA z TI TO L N l1 l2)(S:fJ k1 k2 z TI TO L N l1 l2 k s.heap)
 (f2:SeqAt k1 s.heap l1 xs) (f3:SeqAt k2 s.heap l2 ys) (hx:xs[k]?=some x) (hy:ys[k]?=some y)
 (hQ:∀h',fJ k1 k2 z TI TO L N l1 l2 (k+1) h'->NQ h' s.heap.objs.size x y->Kp z TO L N s.heap h'->Q (.ref s.heap.objs.size) { s with heap:=h' }) :
 wpAny (model prog w) A (Ji.«zip.__next__» ⟨[.ref z],[]⟩) (λfin s'=>∃v,fin=.done (.ret v)/\Q v s') E s:=by
 obtain⟨hz,a2,⟨a,b,f4⟩,h1,h2⟩:=S;obtain⟨g0,g1,_,e1⟩:=id hz;show wpAny _ _ (field (.ref z) 2>>=_) _ _ _;refine Hz (Jf e1 rfl (x:=.bool false) rfl ?_);show wpAny _ _ (field (.ref z) 3>>=_) _ _ _;refine Hz (Jf e1 rfl (x:=.ref TI) rfl ?_);refine Hz (Kb a2 rfl ?_);show wpAny _ _ (JI (.ref z)>>=_) _ _ _;refine Hz (uQ hz λfr h0 f0 f1 a8 f5 n=>?_);have a4:NQ h0 TO a b:=n.extBut _ _ D.TOz f4;have g6:NQ h0 TI (.ref L) (.ref N):=n.extBut _ _ D.TIz a2;have j1:aU k1 h0 L l1 k:=h1.at λo e=>n.extBut _ _ D.i1z e;have j2:aU k2 h0 N l2 k:=h2.at λo e=>n.extBut _ _ D.i2z e;have q1:SeqAt k1 h0 l1 xs:=f2.at λo e=>n.extBut _ _ D.l1z e;have q2:SeqAt k2 h0 l2 ys:=f3.at λo e=>n.extBut _ _ D.l2z e;cases fr with
 | true=>
   simp only[if_true];refine Hz (Lu ?_);refine Hz (Jf a8 rfl (x:=.ref TO) rfl ?_);refine Hz (JR a8 (by simp) λe3 q h=>?_);replace q:e3.get? z=some (gx .ellipsis f1 TI TO):=q;refine Hz ?_;simp only[List.zipIdx_cons,List.zipIdx_nil,Nl,NE];refine Hz (Hz (Oj ?_));show wpAny _ _ (Im (.ref L)>>=_) _ _ _;refine Hz (u7 (j1.at λo e=>h.extBut _ _ D.i1z e) (q1.at λo e=>h.extBut _ _ D.l1z e) hx λO r d=>HB ?_);have G:NQ O TO a b:=d.extBut _ _ D.TOi1 (h.extBut _ _ D.TOz a4);refine Hz (Kb G rfl ?_);refine Hz (MR G λe4 p i=>?_);replace p:NQ e4 TO x b:=p;refine Hz (Qt (HB ?_));refine Hz (Hz (Oj ?_));show wpAny _ _ (Im (.ref N)>>=_) _ _ _;refine Hz (u7 (j2.at λo e=>i.extBut _ _ D.TOi2.symm (d.extBut _ _ D.i12.symm (h.extBut _ _ D.i2z e))) (q2.at λo e=>i.extBut _ _ D.l2TO (d.extBut _ _ D.l2i1 (h.extBut _ _ D.l2z e))) hy λj u f=>HB ?_);have H:NQ j TO x b:=f.extBut _ _ D.TOi2 p;refine Hz (Kb H rfl ?_);refine Hz (MR H λg l m=>?_);replace l:NQ g TO x y:=l;refine Hz (Qt (HB (HB ?_)));refine Hz (Kb l rfl ?_);refine Hz (Pd ?_);have a9:g.objs.size=s.heap.objs.size:=by rw[m.1,f.1,i.1,d.1,h.1,n.1]
   have U:g.get? z=some (gx .ellipsis f1 TI TO):=m.extBut _ _ D.TOz.symm (f.extBut _ _ D.i2z.symm (i.extBut _ _ D.TOz.symm (d.extBut _ _ D.i1z.symm q)));have Y:Kp z TO L N s.heap g:=λc o J c2 c3 c4 e=>
    m.extBut _ _ c2 (f.extBut _ _ c4 (i.extBut _ _ c2 (d.extBut _ _ c3 (h.extBut _ _ J (n.extBut _ _ J e)))))
   have b3:aU k1 g L l1 (k+1):=r.at λo e=>m.extBut _ _ D.TOi1.symm (f.extBut _ _ D.i12 (i.extBut _ _ D.TOi1.symm e));have b5:aU k2 g N l2 (k+1):=u.at λo e=>m.extBut _ _ D.TOi2.symm e;have a5:z<g.objs.size:=HJ U;show wpAny _ _ (LK (.ref z) (.ref g.objs.size)>>=_) _ _ _;refine Hz ?_;unfold LK;have c0:(g.push { cls:=.type "tuple",data:=.seq #[x,y] }).get? z=some (gx .ellipsis f1 TI TO):=HA _ U;refine Hz (JR c0 (by simp) λe6 B Z=>?_);replace B:e6.get? z=some (gx (rawInt g.objs.size) f1 TI TO):=B;refine JR B (by simp) λI C a0=>?_;replace C:I.get? z=some (gx (rawInt g.objs.size) false TI TO):=C;have up:∀c o,c≠z->g.get? c=some o->I.get? c=some o:=λc o J e=>a0.extBut _ _ J (Z.extBut _ _ J (HA _ e));have a1:NQ I g.objs.size x y:=a0.extBut _ _ (JU a5) (Z.extBut _ _ (JU a5) (HI _ rfl));refine HB ⟨_,rfl,?_⟩;show Q (.ref g.objs.size) _;rw[a9]at a1 ⊢;exact hQ I ⟨⟨_,_,.inr ⟨_,rfl⟩,C⟩,up _ _ D.TIz (Y _ _ D.TIz D.TITO D.TIi1 D.TIi2 a2),⟨_,_,up _ _ D.TOz l⟩,b3.at λo e=>up _ o D.i1z e,b5.at λo e=>up _ o D.i2z e⟩ a1 λc o J c2 c3 c4 e=>up c o J (Y c o J c2 c3 c4 e)
 | false=>
   simp only[IB,if_false];obtain⟨T,hT⟩:=f5 rfl;refine Hz ?_;simp only[NB.symm,Nl,NE];refine Hz (Hz (IY ?_));show wpAny _ _ (Im (.ref L)>>=_) _ _ _;refine Hz (u7 (s:={ s with heap:=h0 }) j1 q1 hx λO r d=>HB (HB ?_));refine Hz (Hz (IY ?_));show wpAny _ _ (Im (.ref N)>>=_) _ _ _;refine Hz (u7 (s:={ s with heap:=O }) (j2.at λo e=>d.extBut _ _ D.i12.symm e) (q2.at λo e=>d.extBut _ _ D.l2i1 e) hy λj u f=>HB (HB (HB ?_)));refine Hz (Pd ?_ (by show 2<=sizeLine;decide));have a9:j.objs.size=s.heap.objs.size:=by rw[f.1,d.1,n.1]
   refine HB ⟨_,rfl,?_⟩;show Q (.ref j.objs.size) _;have hk:Kp z TO L N s.heap j:=λc o J c2 c3 c4 e=>f.extBut _ _ c4 (d.extBut _ _ c3 (n.extBut _ _ J e));have d1:j.get? z=some (gx f0 f1 TI TO):=f.extBut _ _ D.i2z.symm (d.extBut _ _ D.i1z.symm a8);have hp:NQ (j.push { cls:=.type "tuple",data:=.seq #[x,y] }) j.objs.size x y:=HI _ rfl;rw[a9]at hp ⊢;refine hQ _ ⟨⟨_,_,.inr ⟨T,hT⟩,HA _ d1⟩,HA _ (hk _ _ D.TIz D.TITO D.TIi1 D.TIi2 a2),⟨a,b,HA _ (f.extBut _ _ D.TOi2 (d.extBut _ _ D.TOi1 a4))⟩,
    r.at λo e=>HA _ (f.extBut _ _ D.i12 e),u.at λo e=>HA _ e⟩ hp λc o J c2 c3 c4 e=>HA _ (hk c o J c2 c3 c4 e)
theorem BM{k1 k2:Bool}{z TI TO U Y Z l2:Addr}{k:Nat}{xs ys:Array HD}{Q:Fin->HF->Prop}(hh:A.handled=none)(D:ZA z TI TO U Y Z l2)(S:fJ k1 k2 z TI TO U Y Z l2 k s.heap)
 (b3:SeqAt k1 s.heap Z xs) (b5:SeqAt k2 s.heap l2 ys) (G:xs[k]?=none\/ys[k]?=none)
 (hE:∀h' e,Kp z TO U Y s.heap h'->(∃o,h'.get? e=some o/\o.cls=.type "StopIteration")->E (.ref e) { s with heap:=h' }) :
 wpAny (model prog w) A (Ji.«zip.__next__» ⟨[.ref z],[]⟩) Q E s:=by
 obtain⟨hz,d1,⟨a,b,d2⟩,h1,h2⟩:=S;obtain⟨g0,g1,_,a1⟩:=id hz;show wpAny _ _ (field (.ref z) 2>>=_) _ _ _;refine Hz (Jf a1 rfl (x:=.bool false) rfl ?_);show wpAny _ _ (field (.ref z) 3>>=_) _ _ _;refine Hz (Jf a1 rfl (x:=.ref TI) rfl ?_);refine Hz (Kb d1 rfl ?_);show wpAny _ _ (JI (.ref z)>>=_) _ _ _;refine Hz (uQ hz λfr I f0 f1 a2 f2 j=>?_);have a3:NQ I TO a b:=j.extBut _ _ D.TOz d2;have j1:aU k1 I U Z k:=h1.at λo e=>j.extBut _ _ D.i1z e;have j2:aU k2 I Y l2 k:=h2.at λo e=>j.extBut _ _ D.i2z e;have q1:SeqAt k1 I Z xs:=b3.at λo e=>j.extBut _ _ D.l1z e;have q2:SeqAt k2 I l2 ys:=b5.at λo e=>j.extBut _ _ D.l2z e;cases fr with
 | true=>
   simp only[if_true];refine Hz (Lu ?_);refine Hz (Jf a2 rfl (x:=.ref TO) rfl ?_);refine Hz (JR a2 (by simp) λa4 l f=>?_);replace l:a4.get? z=some (gx .ellipsis f1 TI TO):=l;refine Hz ?_;simp only[List.zipIdx_cons,List.zipIdx_nil,Nl,NE];refine Hz (Hz (Oj ?_));show wpAny _ _ (Im (.ref U)>>=_) _ _ _;cases J:xs[k]? with
   | none=>
     refine Hz (nQ hh (j1.at λo e=>f.extBut _ _ D.i1z e) (q1.at λo e=>f.extBut _ _ D.l1z e) J λi e d L=>?_);obtain⟨oe,n,r⟩:=L;have u:i.get? z=some (gx .ellipsis f1 TI TO):=d _ _ D.i1z.symm l;have N:e≠z:=λx=>by subst x;rw[u]at n;cases n;simp at r
     refine JR u (by simp) λH _ g=>hE H e (λc o v _ O _ x=>g.extBut _ _ v (d _ _ O (f.extBut _ _ v (j.extBut _ _ v x)))) ⟨oe,g.extBut _ _ N n,r⟩
   | some x=>
     have hy:ys[k]?=none:=by rcases G with h | h;· rw[J]at h;cases h
                             ·exact h
     refine Hz (u7 (j1.at λo e=>f.extBut _ _ D.i1z e) (q1.at λo e=>f.extBut _ _ D.l1z e) J λi T d=>HB ?_);have p:NQ i TO a b:=d.extBut _ _ D.TOi1 (f.extBut _ _ D.TOz a3);refine Hz (Kb p rfl ?_);refine Hz (MR p λH b2 g=>?_);refine Hz (Qt (HB ?_));refine Hz (Hz (Oj ?_));show wpAny _ _ (Im (.ref Y)>>=_) _ _ _;refine Hz (nQ hh (j2.at λo e=>g.extBut _ _ D.TOi2.symm (d.extBut _ _ D.i12.symm (f.extBut _ _ D.i2z e))) (q2.at λo e=>g.extBut _ _ D.l2TO (d.extBut _ _ D.l2i1 (f.extBut _ _ D.l2z e))) hy λy e m L=>?_);obtain⟨oe,n,r⟩:=L;have B:y.get? z=some (gx .ellipsis f1 TI TO):=m _ _ D.i2z.symm (g.extBut _ _ D.TOz.symm (d.extBut _ _ D.i1z.symm l));have N:e≠z:=λx=>by subst x;rw[B]at n;cases n;simp at r
     refine JR B (by simp) λa5 _ C=>hE a5 e (λc o v c2 O c4 x=>C.extBut _ _ v (m _ _ c4 (g.extBut _ _ c2 (d.extBut _ _ O (f.extBut _ _ v (j.extBut _ _ v x)))))) ⟨oe,C.extBut _ _ N n,r⟩
 | false=>
   simp only[IB,if_false];refine Hz ?_;simp only[NB.symm,Nl,NE];refine Hz (Hz (IY ?_));show wpAny _ _ (Im (.ref U)>>=_) _ _ _;cases J:xs[k]? with
   | none=>exact Hz (nQ (s:={ s with heap:=I }) hh j1 q1 J λi e d L=>hE i e (λc o v _ O _ x=>d _ _ O (j.extBut _ _ v x)) L)
   | some x=>
     have hy:ys[k]?=none:=by rcases G with h | h;· rw[J]at h;cases h
                             ·exact h
     refine Hz (u7 (s:={ s with heap:=I }) j1 q1 J λi T d=>HB (HB ?_));refine Hz (Hz (IY ?_));show wpAny _ _ (Im (.ref Y)>>=_) _ _ _;exact Hz (nQ (s:={ s with heap:=i }) hh (j2.at λo e=>d.extBut _ _ D.i12.symm e) (q2.at λo e=>d.extBut _ _ D.l2i1 e) hy λy e m L=>hE y e (λc o v _ O c4 x=>m _ _ c4 (d.extBut _ _ O (j.extBut _ _ v x))) L)
theorem BN{e f:Bool}{z TI TO b c d l2:Addr}{k:Nat}{xs j:Array HD}{x y:HD}{Q:Option HD->HF->Prop}(D:ZA z TI TO b c d l2)(S:fJ e f z TI TO b c d l2 k s.heap)
 (g:SeqAt e s.heap d xs) (i:SeqAt f s.heap l2 j) (n:xs[k]?=some x) (o:j[k]?=some y)
 (p:∀a,fJ e f z TI TO b c d l2 (k+1) a->NQ a s.heap.objs.size x y->Kp z TO b c s.heap a->Q (some (.ref s.heap.objs.size)) { s with heap:=a }) :
 wpAny (model prog w) A (pyNext (.ref z)) Q E s:=by
 have m:s.TypeIs (.ref z) "zip":=by obtain⟨_,_,_,h⟩:=S.zr;exact⟨_,h,rfl⟩
 unfold pyNext;refine Hz (Mi (Jd (name:=KR "__next__") m Mj (II Mj m F.entry_zip_next (BL D S g i n o λa q r u=>HB (p a q r u)) (F.args_zip_next_1 _))))
theorem BO{l m:Bool}{z TI TO c d f l2:Addr}{k:Nat}{xs n:Array HD}{Q:Option HD->HF->Prop}(r:A.handled=none)(D:ZA z TI TO c d f l2)(S:fJ l m z TI TO c d f l2 k s.heap)
 (g:SeqAt l s.heap f xs) (i:SeqAt m s.heap l2 n) (a:xs[k]?=none\/n[k]?=none) (u:∀j,Kp z TO c d s.heap j->Q none { s with heap:=j }) :
 wpAny (model prog w) A (pyNext (.ref z)) Q E s:=by
 have q:s.TypeIs (.ref z) "zip":=by obtain⟨_,_,_,h⟩:=S.zr;exact⟨_,h,rfl⟩
 unfold pyNext;refine Hz (Mi (Jd (name:=KR "__next__") q Mj (II Mj q F.entry_zip_next (BM (A:=_) r D S g i a λj e v x=>?_) (F.args_zip_next_1 _))));obtain⟨o,y,B⟩:=x;exact Hz (LO (T:="StopIteration") (b:=true) ⟨o,y,B⟩ Pg (HB (u _ v)))
theorem BP{n q:Bool}{tg:Expr}{z TI TO g h i l2 T:Addr}{k:Nat}{Q:Unit->HF->Prop}(G:∀r p,tg≠.List r p)(D:ZA z TI TO g h i l2)(S:fJ n q z TI TO g h i l2 k s.heap)
 (u:∀f,fJ n q z TI TO g h i l2 k f->Jr z s.heap f->Q () { s with heap:=f }) :
 wpAny (model prog w) A (letOwnedTupleGo tg (.ref z) (.ref T)) Q E s:=by
 have x:Q () s:=u s.heap S ⟨rfl,λ_ _=>rfl⟩;unfold letOwnedTupleGo;cases tg with
 | Tuple y N H=>
   obtain⟨⟨I,B,O,C⟩,j,⟨a,b,l⟩,J,L⟩:=S;refine Hz (wpAny_load C ?_);by_cases c:(["enumerate","zip","dict_itemiterator","dict_reverseitemiterator","odict_iterator","itertools.zip_longest","itertools.pairwise"].contains "zip"&&(#[I,.bool B,.bool false,.ref TI,.ref TO]:Array HD)[0]? == some (rawInt T))=true
   ·show wpAny _ _ (if _ then _ else _) Q E s;rw[if_pos c];refine Hz (Lu ?_);show wpAny _ _ (setField (.ref z) 0 .none) Q E s;refine JR C (by simp) λf m d=>u f ⟨⟨.none,B,.inl rfl,m⟩,d.extBut _ _ D.TIz j,⟨a,b,d.extBut _ _ D.TOz l⟩,J.at λo e=>d.extBut _ _ D.i1z e,L.at λo e=>d.extBut _ _ D.i2z e⟩ d
   ·show wpAny _ _ (if _ then _ else _) Q E s;rw[if_neg c];exact HB x
 | List r p=>exact absurd rfl (G _ _)
 | _=>exact HB x
theorem uR{z TI TO:Addr}{Q:HD->HF->Prop}(hz:qw s.heap z TI TO)(h:Q (.ref z) s):wpAny (model prog w) A (pyIter (.ref z)) Q E s:=by
 have a:s.TypeIs (.ref z) "zip":=by obtain⟨_,_,_,h⟩:=hz;exact⟨_,h,rfl⟩
 refine Mv a F.slot_zip_iter (II F.slot_zip_iter a F.entry_zip_iter ?_ (F.args_zip_iter_1 _));show wpAny _ _ (PySem.ret (.ref z)) _ _ s;exact HB ⟨_,rfl,"zip",_,a,Mj.lookup,h⟩
end
section
variable{X:Cx}{cm:Nat->Addr}
theorem ku{k:Bool}{c:List (Addr×Obj)}{σ:L2.St}{H:Hp}{s:HF}{a:Addr}{xs:List V}(I:L2.Inv X c σ H s)(h:fF k X.K H a xs):∃b:List HD,aE xs b/\SeqAt k s.heap a b.toArray:=by
 cases k with
 | true=>obtain⟨b,r,p,_⟩:=I.tuple h;exact⟨b,r,p⟩
 | false=>obtain⟨b,r,p,_⟩:=I.list h;exact⟨b,r,p.isList⟩
theorem uS{k:Bool}{b:List (Addr×Obj)}{σ:L2.St}{H:Hp}{s:HF}{a:Addr}{xs c:List V}(I:L2.Inv X b σ H s)(h:fF k X.K H a xs)(h':fF k X.K H a c):xs=c:=by
 cases k with
 | true=>exact I.tuple_inj h h'
 | false=>exact I.list_inj h h'
end
theorem BQ{P:Ib}{w:IW}{K:HE}{tg:Expr}(ht:∀es p,tg≠.List es p)(k1 k2:Bool)(a b z TI TO i1 i2:Addr)(D:ZA z TI TO i1 i2 a b) :
 jj P w K tg (pU K k1 k2 a b) [z,TI,TO,i1,i2] z (λi h=>fJ k1 k2 z TI TO i1 i2 a b i h) where
 mem:=by simp
 obj:=λi h S c hc=>by
  obtain⟨⟨f0,f1,_,hz⟩,ti,⟨x,y,to⟩,j1,j2⟩:=S;simp only[HK,IT,or_false]at hc;rcases hc with rfl | rfl | rfl | rfl | rfl
  ·exact⟨_,hz,λv z=>by cases z⟩
  ·exact⟨_,ti,λv z=>by cases z⟩
  ·exact⟨_,to,λv z=>by cases z⟩
  ·obtain⟨o,vs,h1,h2⟩:=j1.obj;exact⟨o,h1,λv z=>by rw[h2]at z;cases z⟩
  ·obtain⟨o,vs,h1,h2⟩:=j2.obj;exact⟨o,h1,λv z=>by rw[h2]at z;cases z⟩
 keep:=λi h h' S k=>S.keep k
 item:=by
  intro X hP hw hK hc i pins s σ H E I hf S hg;subst hP hw hK;obtain⟨xs,ys,x,y,hq1,hq2,hx,hy⟩:=hg;obtain⟨its1,r1,p1⟩:=ku I hq1;obtain⟨its2,r2,p2⟩:=ku I hq2;obtain⟨u,hu,ru⟩:=r1.get hx;obtain⟨v,hv,rv⟩:=r2.get hy;refine BN D S p1 p2 (x:=u) (y:=v) (by simpa using hu) (by simpa using hv) λh' S' hT hk=>?_;refine⟨.ref s.heap.objs.size,rfl,BP (s:={ s with heap:=h' }) ht D S' λh2 S2 hs2=>?_⟩;have zlt:z<s.heap.objs.size:=by obtain⟨_,_,_,e⟩:=S.zr;exact HJ e
  have I2:L2.Inv X pins σ (aF H s.heap.objs.size (.tup [x,y])) { s with heap:=h2 }:=by
   refine ur (s:=s) (t':=s.toks) I hf (λb u hb q=>?_) (HG _) ?_
   ·have n1:b≠z:=λe=>hb (by simp[e]);exact hs2.extBut _ _ n1 (hk b u n1 (λe=>hb (by simp[e])) (λe=>hb (by simp[e])) (λe=>hb (by simp[e])) q)
   ·exact⟨by show 2<=sizeLine;decide,[u,v],.cons ru (.cons rv .nil),_,hs2.extBut _ _ (JU zlt) hT,rfl,_,rfl⟩
  refine⟨.ref s.heap.objs.size,aF H s.heap.objs.size (.tup [x,y]),I2,rfl,⟨x,y,s.heap.objs.size,λzs hz=>by rw[uS I hz hq1];exact hx,λzs hz=>by rw[uS I hz hq2];exact hy,I.hok.fresh (HG _),rfl,rfl⟩,S2,λb hb=>?_⟩;rw[D3]
  ·exact(hf b hb).1
  ·intro e;subst e;have:∃o,s.heap.get? s.heap.objs.size=some o:=by
    obtain⟨⟨f0,f1,_,hz⟩,ti,⟨x,y,to⟩,j1,j2⟩:=S;simp only[HK,IT,or_false]at hb;rcases hb with e | e | e | e | e
    ·rw[e];exact⟨_,hz⟩
    ·rw[e];exact⟨_,ti⟩
    ·rw[e];exact⟨_,to⟩
    ·rw[e];obtain⟨o,vs,h1,h2⟩:=j1.obj;exact⟨o,h1⟩
    ·rw[e];obtain⟨o,vs,h1,h2⟩:=j2.obj;exact⟨o,h1⟩
   obtain⟨o,ho⟩:=this;exact absurd (HJ ho) (JO _)
 done:=by
  intro X hP hw hK hc i pins s σ H E I hf S hg;subst hP hw hK;obtain⟨xs,ys,hq1,hq2,hx⟩:=hg;obtain⟨its1,r1,p1⟩:=ku I hq1;obtain⟨its2,r2,p2⟩:=ku I hq2;have l1:=r1.length;have l2:=r2.length;refine BO (I.ok.hd hc) D S p1 p2 ?_ λh' hk=>⟨rfl,ut (t':=s.toks) I hf λb u hb q=>hk b u (λe=>hb (by simp[e])) (λe=>hb (by simp[e])) (λe=>hb (by simp[e])) (λe=>hb (by simp[e])) q⟩;rcases hx with hx | hx
  ·left;rw[JC];simp;omega
  ·right;rw[JC];simp;omega
 self:=λ_ _ _ _ _ S h=>uR S.zr h
abbrev lF(a:Bool)(h:Heap)(b:Addr):Heap:=h.push (lE a b)
abbrev nR(a b:Bool)(h:Heap)(c l2:Addr):Heap:=(lF a h c).push (lE b l2)
abbrev nS(a d:Bool)(h:Heap)(b l2:Addr):Heap:=(nR a d h b l2).push { cls:=.type "tuple",data:=.seq #[.ref h.objs.size,.ref (lF a h b).objs.size] }
abbrev nT(b c:Bool)(h:Heap)(d l2:Addr):Heap:=(nS b c h d l2).push { cls:=.type "tuple",data:=.seq #[.none,.none] }
abbrev kw(a b:Bool)(h:Heap)(c l2:Addr):Heap:=(nT a b h c l2).push (gx .none false (nR a b h c l2).objs.size (nS a b h c l2).objs.size)
theorem BR(b c:Bool)(a l2:Addr)(xs m:Array HD) :
 Meets (Ji.«zip.__new__» ⟨[.type "zip",.ref a,.ref l2],[]⟩) (λ_ R s=>SeqAt b s.heap a xs/\SeqAt c s.heap l2 m/\R (.ok (.ret (.ref (nT b c s.heap a l2).objs.size))) { s with heap:=kw b c s.heap a l2 }):=
 .of_wp λp w A R s h=>by
  obtain⟨q,g,d,r,os⟩:=s;obtain⟨f,i,h⟩:=h;have u:=sub_zip;have j:SeqAt b (HF.heap ⟨q,g,d,r,os⟩) a xs:=f;have l:SeqAt c (HF.heap ⟨q.push (lE b a),g,d,r,os⟩) l2 m:=i.at λo e=>HA _ e
  wp_walk using uP j,uP l
  exact⟨_,rfl,h⟩
section
variable{prog:Ib}{w:IW}{A:IN}{E:HD->HF->Prop}{s:HF}
theorem BU{b d:Bool}{a l2:Addr}{xs p:Array HD}{Q:HD->HF->Prop}(f:SeqAt b s.heap a xs)(g:SeqAt d s.heap l2 p)
 (h:∀i,fJ b d (s.heap.objs.size+4) (s.heap.objs.size+2) (s.heap.objs.size+3) s.heap.objs.size (s.heap.objs.size+1) a l2 0 i->(∀c o,s.heap.get? c=some o->i.get? c=some o)->Q (.ref (s.heap.objs.size+4)) { s with heap:=i }) :
 wpAny (model prog w) A (call (.type "zip") [.ref a,.ref l2]) Q E s:=by
 refine callType_new F.called_zip (by decide) (F.typeCall_zip_2 _ _) (F.newCall_zip_2 _ _) (λobj=>F.args_object_init_3 obj _ _) F.entry_zip_new (BR b d a l2 xs p) ⟨f,g,?_⟩;have j:(lF b s.heap a).objs.size=s.heap.objs.size+1:=Jg ..;have l:(nR b d s.heap a l2).objs.size=s.heap.objs.size+2:=by rw[Jg,j]
 have m:(nS b d s.heap a l2).objs.size=s.heap.objs.size+3:=by rw[Jg,l]
 have r:(nT b d s.heap a l2).objs.size=s.heap.objs.size+4:=by rw[Jg,m]
 have n:(kw b d s.heap a l2).get? (nT b d s.heap a l2).objs.size=some _:=HI _ rfl;have u:(kw b d s.heap a l2).get? (nS b d s.heap a l2).objs.size=some _:=HA _ (HI _ rfl);have v:(kw b d s.heap a l2).get? (nR b d s.heap a l2).objs.size=some _:=HA _ (HA _ (HI _ rfl));have y:aU d (kw b d s.heap a l2) (lF b s.heap a).objs.size l2 0:=(uO d (lF b s.heap a) l2).at λo e=>HA _ (HA _ (HA _ e));have z:aU b (kw b d s.heap a l2) s.heap.objs.size a 0:=(uO b s.heap a).at λo e=>HA _ (HA _ (HA _ (HA _ e)));show _/\_;rw[l,m,r]at n;rw[j,l]at v;rw[m]at u;rw[j]at y;rw[r];exact⟨⟨_,n,rfl⟩,h _ ⟨⟨_,_,.inl rfl,n⟩,v,⟨_,_,u⟩,z,y⟩ λc o x=>HA _ (HA _ (HA _ (HA _ (HA _ x))))⟩
end
section
variable{X:Cx}{cm:Nat->Addr}
theorem iV{a b tg:Expr}{d e:ED}{p u:Pos}(ht:∀es p,tg≠.List es p)(hg:Gl X "zip")(hm:X.mg "zip" = none)(ha:PE X a (aB X.K cm d))(hb:PE X b (aB X.K cm e))
 (hs:starEach [a,b] X.env=(false,eval a X.env)::starEach [b] X.env:=by exact D8 rfl) (v:starEach [b] X.env=(false,eval b X.env)::starEach [] X.env:=by exact D8 rfl):L2.PI X tg (.Call (.Name "zip" p) [a,b] [] u) (jx X.K cm (nr d e)):=by
 intro i s Y H R I h;obtain⟨ρ,A,g,J,A',rl,rs,ev,k⟩:=h;obtain⟨x,Z,e1,E⟩:=B0 ev;obtain⟨y,A2,e2,G⟩:=B0 E;refine NA (S6 I hg hm (show bootBuiltins "zip" = some (.type "zip")from by rfl) (callWith_type1 (aP ((ae ha (ae hb am v) hs) u i s Y H (λvs j=>∃a C b D,vs=[.ref a,.ref b]/\fF (kindOf x) X.K j a C/\fF (kindOf y) X.K j b D/\R (pU X.K (kindOf x) (kindOf y) a b) j) I ⟨ρ,A,g,[x,y],A2,rl,rs,by show ap (d g) _ A=_;rw[aD e1];show ap (ap (e g) _) _ Z=_;rw[aD (show ap (e g) _ Z=.ok [y] A2 by rw[aD e2];rfl)];rfl,λL j e0 x1 n N=>?_⟩) λus f zq=>?_) hs (by rw[v];rfl)))
 ·cases N with
  | cons hv hr=>
    cases hr with
    | cons w O=>
      cases O;obtain⟨l,A3,e3,Q⟩:=B0 G;obtain⟨rfl,a,C,rfl,T,r⟩:=c9 n hv e3;obtain⟨m,A4,e4,U⟩:=B0 Q;obtain⟨rfl,b,D,rfl,o,r2⟩:=c9 n w e4;cases U;exact⟨a,C,b,D,rfl,T,o,k L j _ x1 n ⟨a,b,hv,w,rfl⟩⟩
 ·obtain⟨vs,j,z,r1,q1⟩:=zq;obtain⟨a,C,b,D,rfl,T,o,q⟩:=q1;cases r1 with
  | cons h1 t1=>
    cases t1 with
    | cons h2 t2=>
      cases t2;cases h1;cases h2;obtain⟨a4,r1,p1⟩:=ku z T;obtain⟨a5,r2,p2⟩:=ku z o;refine BU p1 p2 λh' S kp=>?_;refine uR S.zr ?_;have I2:L2.Inv X i Y j { f with heap:=h' }:=z.kept (t':=f.toks) kp;have la:=p1.lt;have lb:=p2.lt;refine⟨f.heap.objs.size+4,[f.heap.objs.size+4,f.heap.objs.size+2,f.heap.objs.size+3,f.heap.objs.size,f.heap.objs.size+1],_,_,j,rfl,I2,BQ ht (kindOf x) (kindOf y) a b _ _ _ _ _ ?_,S,λc hc=>?_,q⟩
      ·have la:@LT.lt Nat _ a f.heap.objs.size:=la;have lb:@LT.lt Nat _ b f.heap.objs.size:=lb;constructor<;>first | exact HS (by omega) | exact JU (by omega)
      ·have B:f.heap.objs.size<=c:=by
        simp only[HK,IT,or_false]at hc;rcases hc with rfl | rfl | rfl | rfl | rfl
        ·exact Ky _ 4
        ·exact Ky _ 2
        ·exact Ky _ 3
        ·exact HG _
        ·exact Ky _ 1
       exact z.fpOk B (z.hok.fresh B)
end
abbrev gy(led:Bool):Obj:={ cls:=.type "set",dict:=none,data:=.set #[] 0 (.fresh 0 0 led) }
section
variable{prog:Ib}{w:IW}{A:IN}{E:HD->HF->Prop}{s:HF}
set_option maxHeartbeats 3200000 in
theorem BV{l:Addr}{d:Array HD}{ns:List Int}{Q:HD->HF->Prop}(hh:A.handled=none)(hl:s.heap.IsTuple l d)(hi:Ko d.toList ns)(N:d.size+1<scanBound)
 (h:∀(h':Heap)(O:Nat),h'.SetOf (intKind prog w) s.heap.objs.size (λU=>(firstMet (λi=>ns.getD i 0) d.size).any (·== U)) (firstMet (λi=>ns.getD i 0) d.size).length->(∀b o,b<s.heap.objs.size->s.heap.get? b=some o->h'.get? b=some o)->Q (.ref s.heap.objs.size) { s with heap:=h',toks:=O }) :
 wpAny (model prog w) A (call (.type "set") [.ref l]) Q E s:=by
 obtain⟨c,tl,b0⟩:=IC.mro;have Y:=IC.made;have b1:=IC.sub;refine Mr (Nm ?_);show wpAny _ _ (callAny (.type "set") _) _ _ _;refine HB ⟨Ml _ (by decide +kernel),Kg Ol ?_⟩;rw[IN.under_plain (OP "set" [.ref l] []) rfl];have h1:=IC.notType;have h2:=IC.canCreate;have d2:=OB (.ref l);repeat (any_goals (first | assumption | wp_step))
 refine Kr (code_set_new_1 (.ref l) (E:=E) (Q₁:=λobj m=>∃a:Bool,obj=.ref s.heap.objs.size/\m={ s with heap:=s.heap.push (gy a) }) λa=>⟨a,rfl,rfl⟩) λr m Z=>?_;cases r with
 | error e=>exact Z
 | ok fl=>
   cases fl with
   | ret obj=>
     obtain⟨a,rfl,rfl⟩:=Z;have hS:(s.heap.push (gy a)).get? s.heap.objs.size=some (gy a):=HI _ rfl;have hT:Lv { s with heap:=s.heap.push (gy a) } (.ref s.heap.objs.size) "set":=⟨_,hS,rfl⟩;have e2:=IC.init.lookup;have e3:=IC.init.bind (.ref s.heap.objs.size);repeat (any_goals (first | assumption | wp_step))
     refine Kr (MS (R:=wants (λr n=>r=.none/\∃h' O,n={ s with heap:=h',toks:=O }/\
      h'.SetOf (intKind prog w) s.heap.objs.size (λU=>(firstMet (λi=>ns.getD i 0) d.size).any (·== U)) (firstMet (λi=>ns.getD i 0) d.size).length/\
      (∀b o,b<s.heap.objs.size->s.heap.get? b=some o->h'.get? b=some o)) E) IC.init.plain OC (check_set_init_1 hT ?_)) λy n f=>?_
     ·obtain⟨ol,z,B,nl,hdl⟩:=hl;obtain⟨b5,p,a0,j⟩:=ol;simp only at B hdl;subst B;subst hdl;have C:(s.heap.push (gy a)).get? l=some { cls:=.type "tuple",dict:=p,data:=.seq d nl,slots:=j }:=HA _ z;have c1:=PySem.F.sub_tuple_set;have c2:=PySem.F.sub_tuple_frozenset;have e5:(HD.type "tuple" == HD.type "dict")=false:=by decide
      have G:(s.heap.push (gy a)).IsTuple l d:=⟨_,C,rfl,nl,rfl⟩;unfold Ji.«set.__init__» noKeywords MW;generalize a2:pyIter=PI
      wp_walk
      subst a2;refine Me G ?_;refine Hz (wpAny_runValue ?_);have H:l<s.heap.objs.size:=HJ z;have a3:A.in1.in1.in1.handled=none:=by simp[hh]
      have I:l≠(s.heap.push (gy a)).objs.size:=by
       rw[Jg];exact HS (JL H)
      have a4:s.heap.objs.size∉[(s.heap.push (gy a)).objs.size,l]:=by
       rw[Jg];simp only[HK,HH,IT,or_false,not_or];exact⟨HS (Jl _),JU H⟩
      have J:∀(i:Nat)(v:HD),d[i]?=some v->∃t,v=.int ((λi=>ns.getD i 0) i) t:=λi v hv=>Ph hi i v (by rw[Jv];exact hv);refine codeAny_set_update_loopS ((Qz.tuple a3 _ l I d).toS) s.heap.objs.size a4 (λi=>ns.getD i 0) J N (d.size - 0) 0 _ (by omega) (KU _)
       ⟨⟨_,HI _ rfl,rfl,rfl⟩,(G.push _)⟩ ?hS0 ?hR
      case hS0=>
       have L:((s.heap.push (gy a)).push { cls:=.type "tuple_iterator",data:=.fields #[.ref l,.int 0 0] }).get? s.heap.objs.size=some (gy a):=HA _ hS;exact SetOf_congr ((setObjOf_fresh (knd:=intKind prog w) a).setOf L (by unfold scanBound;omega)) (λ_=>rfl) rfl
      case hR=>
       intro s' T q;obtain⟨h',g',d',a5,a6⟩:=s';have eg:g'=s.gens:=T.gens;have ed:d'=s.drawn:=T.drawn;have eo:a6=s.os:=T.os;subst eg;subst ed;subst eo;show wpAny _ _ _ _ _ _;refine HB ?_;show wpAny _ _ (PySem.ret Iu) _ _ _;refine HB ⟨rfl,h',a5,rfl,q,λb o N e=>?_⟩;have a7:b≠s.heap.objs.size:=HS N;have a8:b≠(s.heap.push (gy a)).objs.size:=by
        rw[Jg];exact HS (JL N)
       exact T.heap b o (by simp only[HK,HH,IT,or_false,not_or];exact⟨a7,a8⟩) (HA _ (HA _ e))
     ·cases y with
      | error e=>exact f
      | ok u=>
        cases u with
        | ret r=>
          obtain⟨rfl,h',O,rfl,q,a9⟩:=f;repeat (any_goals (first | assumption | wp_step))
          exact h _ _ q a9
        | _=>exact f.elim
   | _=>exact Z.elim
end
theorem BW(ns:List Int):(firstMet (λi=>ns.getD i 0) ns.length).length=gs ns:=by
 unfold firstMet gs;have e:(Iw ns.length).map (λi=>ns.getD i 0)=ns:=by
  refine NR λk=>?_;rw[Ij];by_cases a:k<ns.length
  ·rw[List.getElem?_range a];simp[a]
  ·simp[a]
 rw[e];rfl
section
variable{X:Cx}{cm:Nat->Addr}
theorem BX{e:Expr}{d:ED}{p1 p2 q1 Y:Pos}(j:X.calm=true)(he:PE X e (aB X.K cm d))(Z:Gl X "len")(a0:X.mg "len" = none)(a1:Gl X "set")(a2:X.mg "set" = none)
 (D:starEach [e] X.env=(false,eval e X.env)::starEach [] X.env:=by exact D8 rfl)
 (E:starEach [.Call (.Name "set" p2) [e] [] Y] X.env=(false,eval (.Call (.Name "set" p2) [e] [] Y) X.env)::starEach [] X.env:=by rfl) :
 PE X (.Call (.Name "len" p1) [.Call (.Name "set" p2) [e] [] Y] [] q1) (aB X.K cm (pD d)):=by
 intro y s σ H Q I h;obtain⟨ρ,A,a3,v,A',rl,rs,ev,k⟩:=h;obtain⟨x,A1,e1,a4⟩:=B0 ev;refine NA (S6 I Z a0 PySem.boot_len (callWith_builtin1 (Z7 E ?_) E rfl));refine NA (S6 I a1 a2 (show bootBuiltins "set" = some (.type "set")from by rfl) (callWith_type1 (Z7 D ?_) D rfl));refine aP (he y s σ H (λv B=>∃(a:Addr)(ns:List Int),v=.ref a/\fF (kindOf x) X.K B a (ns.map V.int)/\ns.length<1000/\Q (.int (gs ns)) B) I ⟨ρ,A,a3,x,A1,rl,rs,e1,λa5 B v1 x1 G a6=>?_⟩) λu C zq=>?_
 ·obtain⟨l,A2,e2,p⟩:=B0 a4;obtain⟨rfl,a,xs,rfl,hH,r0⟩:=c9 G a6 e2;cases r:N1 l with
  | none=>rw[r]at p;cases p
  | some ns=>
    rw[r]at p;obtain⟨c,a7⟩:=C9 p;cases a7;rw[T9 r]at r0;exact⟨a,ns,rfl,by rw[←nO r0];exact hH,c,k a5 B _ x1 G (.int _)⟩
 ·obtain⟨w1,B,J,r1,a,ns,ew,U,L,q⟩:=zq;subst ew;obtain rfl:u=HW a:=r1;have fin:∀(h':Heap)(z:Nat)(n:Nat),n=ns.length->h'.SetOf (intKind X.prog X.w) C.heap.objs.size (λk'=>(firstMet (λi=>ns.getD i 0) n).any (·== k')) (firstMet (λi=>ns.getD i 0) n).length->
   (∀b o,b<C.heap.objs.size->C.heap.get? b=some o->h'.get? b=some o)->wpAny (model X.prog X.w) X.A (call (.builtin "len") [.ref C.heap.objs.size]) (EP X y σ Q) X.xe { C with heap:=h',toks:=z }:=by
   intro h' z n hn f g;subst hn;obtain⟨o,es,ep,t,ho,hex,hd,_,_,_,hf,a9⟩:=f;have hn:es.size=gs ns:=by rw[a9];exact BW ns
   have f3:=tP ns;refine call_len_set (s:={ C with heap:=h',toks:=z }) ho hex hd hf (by omega) ?_;rw[hn];exact⟨.int (gs ns),B,J.kept (h':=h') (t':=z+1+1) (λb ob e=>g b ob (HJ e) e),⟨_,rfl⟩,q⟩
  cases hk:kindOf x with
  | true=>
    rw[hk]at U;obtain⟨m,ri,pl,hz⟩:=J.tuple U;have r:Ko m ns:=X2 ri;have T:m.length=ns.length:=r.length;refine BV (J.ok.hd j) pl (by simpa using r) (by rw[HU,T];exact Ig (Nat.succ_lt_succ L) (by decide)) λh' z f g=>fin h' z _ (by rw[HU,T]) f g
  | false=>
    rw[hk]at U;obtain⟨m,ri,pl,hz⟩:=J.list U;have r:Ko m ns:=X2 ri;have T:m.length=ns.length:=r.length;refine call_set_list (J.ok.hd j) pl.isList (by simpa using r) (by rw[HU,T];exact Ig (Nat.succ_lt_succ L) (by decide)) λh' z f g=>fin h' z _ (by rw[HU,T]) f g
end
end Ws
namespace Ws
open PySem PySem.W PyProof.Rows PySem.Calls
structure lG(h:Heap)(C:Addr)(newId:String):Prop where
 obj:∃nm q N bs bm hdct sn sub ab col dd k0 k1 k2 k3 k5,h.get? C=some (excClassObj nm q C N bs bm hdct sn sub ab col dd k0 k1 k2 k3 k5 newId)/\bm.contains (.type "ValueError")=true/\bm.contains (.type "BaseException")=true/\bm.contains (.type "AttributeError")=false/\bm.contains (.type "NameError")=false
abbrev iW(C t:Addr):Obj:={ cls:=.ref C,data:=.fields #[.ref t,.none,.none,.none,.bool false,.none] }
section
variable{prog:Ib}{w:IW}{A:IN}{R:PL->HF->Prop}{h:Heap}{g:Array Ny}{d:Drawn}{t:Nat}{os:Qy}{C fI:Addr}{rest:List HD}
theorem VEF:ExcBaseFacts "ValueError" "ValueError.__new__" "ValueError.__init__" [.type "ValueError",.type "Exception",.type "BaseException",.type "object"]:=PySem.F.excBase_ValueError
theorem BY(Y:lG h C "ValueError.__new__")(r:R (.ok (.ret (.ref (h.objs.size+1)))) ⟨(h.push { cls:=.type "tuple",data:=.seq rest.toArray }).push (iW C h.objs.size),g,d,t,os⟩)(c:rest.length<=sizeLine) :
 codeAny (model prog w) A (.call (.builtin "ValueError.__new__") ⟨.ref C::rest,[]⟩) R ⟨h,g,d,t,os⟩:=by
 obtain⟨y,q,N,bs,e,o,z,sub,B,s,D,E,G,H,I,J,a,u,L,v,x⟩:=Y.obj;have b:(HW C::e).contains (.type "ValueError")=true:=by rw[Kj,u,MG]
 have f:(HW C::e).contains (.type "AttributeError")=false:=by rw[Kj,v];rfl
 have i:(HW C::e).contains (.type "NameError")=false:=by rw[Kj,x];rfl
 have j:=VEF.noStar;refine codeAny_call_builtin_code (Ml _ VEF.quiet) ?_;simp only[checkBuiltinCall,VEF.newKind,VEF.newSplit,VEF.newRow];repeat (first | refine JN a ?_ | (refine Ku a ?_;rw[b]) | refine wpAny_staticBase_exc a ?_ | refine wpAny_madeBy_exc a ?_ | simp only[bne_self_eq_false,IB,if_false] | wp_step)
 have l:=VEF.ends;refine codeAny_builtinAt VEF.entry ?_;unfold Ji.«BaseException.__new__»;refine PySem.wpAt_bind ?_;show PySem.wpAt _ _ _ (stack>>=_) _ _ _;refine PySem.wpAt_bind (PySem.wpAt_stack λp m=>Px ?_)
 wp_walk
 refine Px ?_;rw[VEF.owner];repeat (first | with_reducible refine wpAny_madeHere_exc VEF.canon a ?_ | with_reducible refine JN a ?_ | (with_reducible refine Ku a ?_;first | rw[b] | rw[f] | rw[i]) | wp_step)
 show R _ _;rw[Jg];exact r
theorem BZ(Y:lG h C "ValueError.__new__")(s:Looks (model prog w) h (typeLookup (.ref C) "__init__") (some (.ref fI)))(u:∀a,Looks (model prog w) h (bindSpecial (.ref fI) a) (.ref fI,[a]))(f:rest.length<=sizeLine)
 (x:codeAny (model prog w) (A.under (.builtin "type.__call__" ⟨.ref C::rest,[]⟩)) (.call (.ref fI) ⟨.ref (h.objs.size+1)::rest,[]⟩) (InitBack (h.objs.size+1) R) ⟨(h.push { cls:=.type "tuple",data:=.seq rest.toArray }).push (iW C h.objs.size),g,d,t,os⟩) :
 codeAny (model prog w) A (.call (.ref C) ⟨rest,[]⟩) R ⟨h,g,d,t,os⟩:=by
 have y:=Y;obtain⟨H,q,N,bs,B,p,I,sub,J,D,L,O,Q,T,U,Z,j,c1,c2,c3,c4⟩:=Y.obj;have f1:=tc_lookup;have f2:=tc_bind (.ref C);have hT:(⟨h,g,d,t,os⟩:HF).TypeIs (.ref C) "type":=⟨_,j,rfl⟩;refine Nm ?_;show wpAny _ _ (callAny (.ref C) _) _ _ _;repeat (any_goals (first | assumption | with_reducible refine JN j ?_ | wp_step))
 refine⟨rfl,?_⟩;refine codeAny_call_builtin_at (Ml _ (by decide +kernel)) entry_typeCall (wpAny_check_type_call_sub j ?_);repeat (first | with_reducible refine JN j ?_ | with_reducible refine wpAny_madeBy_exc j ?_ | with_reducible refine Mr ?_ | wp_step)
 refine BY (rest:=rest) y ?_ f;show wpAny _ _ _ _ _ _;have m:∀b o,h.get? b=some o->((h.push { cls:=.type "tuple",data:=.seq rest.toArray }).push (iW C h.objs.size)).get? b=some o:=λb o e=>HA _ (HA _ e);have i:=m _ _ j;have l:((h.push { cls:=.type "tuple",data:=.seq rest.toArray }).push (iW C h.objs.size)).get? (h.objs.size+1)=some (iW C h.objs.size):=by heap_get
 have n:(HW C::B).contains (.ref C)=true:=by simp
 unfold isInstance;repeat (first | with_reducible refine JN l ?_ | (with_reducible refine Ku i ?_;rw[n]) | wp_step)
 have E:=s.keeps m;have G:=(u (.ref (h.objs.size+1))).keeps m;show wpAny _ _ (typeLookup (.ref C) "__init__") _ _ _;refine E.here ?_;refine IY (Hz (G.here ?_));refine Hz (Mr ?_);refine Kr x λr s' z=>?_;rcases r with e | (v | _ | _ | _)<;>first | exact z | exact z.elim | skip
 obtain⟨rfl,z⟩:=z;exact HB (HB z)
end
end Ws
namespace Ws
open PySem PySem.W PyProof.Rows PySem.Calls Builtin Builtin.ObjectAttr
noncomputable def lH:List HD:=[.type "ValueError",.type "Exception",.type "BaseException",.type "object"]
noncomputable def V1:List HD->Bool
 | .ref _::r=>V1 r
 | l=>l == lH
theorem Ca(a:HD):refuseLoop a "__setattr__" lH=pure ():=by kernel_rfl
theorem uT(a:HD):∀{l:List HD},V1 l=true->refuseLoop a "__setattr__" l=pure ()
 | .ref c::r,e=>by rw[refuseLoop_ref];exact uT a (by cases r<;>exact e)
 | [],e=>by cases e
 | .type n::r,e=>by rw[show HD.type n::r=lH from beq_iff_eq.mp e];exact Ca a
 | .none::r,e=>by cases e
 | .bool _::r,e=>by cases e
 | .int _ _::r,e=>by cases e
 | .str _ _::r,e=>by cases e
 | .bytes _ _::r,e=>by cases e
 | .float _ _::r,e=>by cases e
 | .builtin _::r,e=>by cases e
 | .ellipsis::r,e=>by cases e
 | .notImplemented::r,e=>by cases e
theorem uU:∀{l:List HD},V1 l=true->l.contains (.type "object")=true
 | .ref c::r,e=>by rw[Kj,uU (l:=r) (by cases r<;>exact e),MG]
 | [],e=>by cases e
 | .type n::r,e=>by rw[show HD.type n::r=lH from beq_iff_eq.mp e];rfl
 | .none::r,e=>by cases e
 | .bool _::r,e=>by cases e
 | .int _ _::r,e=>by cases e
 | .str _ _::r,e=>by cases e
 | .bytes _ _::r,e=>by cases e
 | .float _ _::r,e=>by cases e
 | .builtin _::r,e=>by cases e
 | .ellipsis::r,e=>by cases e
 | .notImplemented::r,e=>by cases e
section
variable{prog:Ib}{w:IW}{A:IN}{E:HD->HF->Prop}{R:PL->HF->Prop}{s:HF}{K:Frag}{x C:Addr}{ox:Obj}{cd:ClassData}{name:Str}{v:HD}
theorem Cb{J:Tok}(X:K.In s.heap)(I:InstAt s.heap x ox C none)(L:clsIn K C=some cd)(H:V1 cd.mro=true)(hh:cd.hasDict=true)(ht:findIn K (.ref C) name=some none){vs:Array HD}(d:ox.data=.fields vs)(f:ox.dict=none)
 (h:∀i,i.get? x=some { ox with dict:=some s.heap.objs.size }->i.Ns1 s.heap.objs.size (λy=>if y=name then some v else none)->(∀b o,b≠x->s.heap.get? b=some o->i.get? b=some o)->R (.ok (.ret .none)) { s with heap:=i,toks:=s.toks+1 }) :
 codeAny (model prog w) A (.call (.builtin "object.__setattr__") ⟨[.ref x,.str name J,v],[]⟩) R s:=by
 have l:=PySem.F.store_object;have ne:cd.mro.isEmpty=false:=by cases q:cd.mro with
  | nil=>rw[q]at H;cases H
  | cons _ _=>rfl
 have sub:Looks (model prog w) s.heap (isInstance (.ref x) (.type "object")) true:=I.type.andThen (looks_mroIn X (by unfold mroIn;rw[L,Option.bind_some,if_neg (by rw[ne];decide),uU H]));refine MS l.slot.plain l.entry (@check_slot (model prog w) _ _ s "object.__setattr__" "object" "__setattr__" (.ref x) [.str name J,v] [] _ l.kind l.split sub (l.args (.ref x) (.str name J) v) ?_);have hm:Looks (model prog w) s.heap (mroOf (.ref C)) cd.mro:=(looks_clsIn X L).andThen .now;rw[osa_eq,refuse_eq];refine Hz (Hz (I.type.here (Hz (hm.here ?_))));rw[uT _ H];refine HB (Hz (I.type.here (Hz ((looks_findIn X ht).here (Hz (HB ?_))))));obtain⟨N,m,hn,_⟩:=I;obtain⟨oc,a4,a5,n⟩:=ox;dsimp only at m d f;subst m d f;refine Hz (HB (Hz (Hz (wpAny_loadPart N (Hz ((looks_clsIn X L).here ?_))))));rw[hh];show wpAny _ _ (PySem.alloc { cls:=HD.type "dict",data:=LH #[] }>>=_) _ _ _;refine Hz (wpAny_alloc ?_);have p:(s.heap.push { cls:=HD.type "dict",data:=LH #[] }).get? x=some { cls:=.ref C,data:=.fields vs,slots:=n }:=HA _ N;have g:x<s.heap.objs.size:=HJ N;refine Hz (wpAny_update p ?_);show wpAny _ _ (pure (some s.heap.objs.size)) _ _ _;refine HB ?_;have O:(s.heap.push { cls:=HD.type "dict",data:=LH #[] }).get? s.heap.objs.size=some { cls:=HD.type "dict",data:=LH #[] }:=HI _ rfl;have r:((s.heap.push { cls:=HD.type "dict",data:=LH #[] }).update x λo=>{ cls:=o.cls,dict:=some s.heap.objs.size,data:=o.data,slots:=o.slots }).get? s.heap.objs.size=some { cls:=HD.type "dict",data:=LH #[] }:=by
  rw[JB _ _ (HS g)];exact O
 have u:((s.heap.push { cls:=HD.type "dict",data:=LH #[] }).update x λo=>{ cls:=o.cls,dict:=some s.heap.objs.size,data:=o.data,slots:=o.slots }).get? x=some { cls:=.ref C,dict:=some s.heap.objs.size,data:=.fields vs,slots:=n }:=by
  rw[IM _ p rfl]
 have B:((s.heap.push { cls:=HD.type "dict",data:=LH #[] }).update x λo=>{ cls:=o.cls,dict:=some s.heap.objs.size,data:=o.data,slots:=o.slots }).Ns1 s.heap.objs.size (λ_=>none):=⟨_,#[],_,r,rfl,(λe he=>absurd he (by simp)),Oc.nil,λ_=>rfl⟩;have kp:∀b o,b≠x->s.heap.get? b=some o->((s.heap.push { cls:=HD.type "dict",data:=LH #[] }).update x λo=>{ cls:=o.cls,dict:=some s.heap.objs.size,data:=o.data,slots:=o.slots }).get? b=some o:=λb o Q e=>by
  rw[JB _ _ (JX Q)];exact HA _ e
 generalize(s.heap.push { cls:=HD.type "dict",data:=LH #[] }).update x (λo=>{ cls:=o.cls,dict:=some s.heap.objs.size,data:=o.data,slots:=o.slots })=h2 at r u B kp;refine Hz (HB (Hz ?_));refine wpAny_nsSet1 (s:={ s with heap:=h2 }) B λi D G=>?_;obtain⟨oD,a8,a9,T,U,Y⟩:=D.count (Nw.cons name v (ns:=[]) (λ_ z=>absurd rfl z));refine Hz (wpAny_lookBehind T (by rw[U];exact pastItsLine_dict (Ih Y (by simp))) ?_);refine HB (h _ ((G.2 _ (HS g)).trans u) D λb o Q e=>?_);exact(G.2 _ (HS (HJ e))).trans (kp b o Q e)
end
end Ws
namespace Ws
open PySem PySem.W PyProof.Rows PySem.Calls L2
noncomputable def gU:Option Addr->HD
 | none=>.none
 | some T=>.ref T
def qx(C:Addr)(d tb:Option Addr)(e:Addr)(h:Heap):Prop:=∃a b,h.get? e=some a/\a.cls=.ref C/\a.dict=d/\a.data=.fields b/\b[1]?=some (gU tb)/\b[2]?=some .none
noncomputable def XO(C:Addr)(d tb:Option Addr)(e:Addr):HO:=.ext (qx C d tb e)
def uV(T:Addr)(c:HD)(h:Heap):Prop:=∃a b,h.get? T=some a/\a.data=.fields b/\b[3]?=some c
noncomputable def TO(T:Addr)(a:HD):HO:=.ext (uV T a)
theorem qy{P:Ib}{w:IW}{H:Hp}{h:Heap}{C e:Addr}{d tb:Option Addr}(x:qx C d tb e h):aO P w H h e (XO C d tb e):=by
 obtain⟨a,i,b,j⟩:=id x;refine⟨x,⟨a,b⟩,λl m y k=>?_⟩;obtain⟨o,c,f,g⟩:=y;exact⟨o,c,k _ f,g⟩
theorem qz{P:Ib}{w:IW}{H:Hp}{h:Heap}{T:Addr}{a:HD}(x:uV T a h):aO P w H h T (TO T a):=by
 obtain⟨b,g,c,i⟩:=id x;refine⟨x,⟨b,c⟩,λj l y k=>?_⟩;obtain⟨o,d,e,f⟩:=y;exact⟨o,d,k _ e,f⟩
theorem qA{X:Cx}{a:List (Addr×Obj)}{σ:L2.St}{H:Hp}{s:HF}{C e:Addr}{d tb:Option Addr}(I:L2.Inv X a σ H s)(h:H e=some (XO C d tb e)):qx C d tb e s.heap:=(I.hok e _ h).1
structure XK(K:HE)(C fI:Addr):Prop where
 obj:∃nm q N bs bm hdct sn sub ab col dd k0 k1 k2 k3 k5,K.lookup C=some (excClassObj nm q C N bs bm hdct sn sub ab col dd k0 k1 k2 k3 k5 "ValueError.__new__")/\V1 bm=true/\hdct=true
 init:findIn K (.ref C) "__init__" = some (some (.ref fI))
 fn:isFn K (.ref fI)=true
 kp:keepIn K (.ref C)=true
 sa:findIn K (.ref C) "__setattr__" = some (some (.builtin "object.__setattr__"))
 na:findIn K (.ref C) "at" = some none
theorem qB:∀{l:List HD},V1 l=true->l.contains (.type "ValueError")=true/\l.contains (.type "BaseException")=true/\l.contains (.type "AttributeError")=false/\l.contains (.type "NameError")=false
 | .ref c::r,e=>by
   obtain⟨a,b,d,f⟩:=qB (l:=r) (by cases r<;>exact e);refine⟨?_,?_,?_,?_⟩<;>rw[Kj]<;>first | rw[a] | rw[b] | rw[d] | rw[f]
   ·exact MG _
   ·exact MG _
   ·rfl
   ·rfl
 | [],e=>by cases e
 | .type n::r,e=>by rw[show HD.type n::r=lH from beq_iff_eq.mp e];exact⟨rfl,rfl,rfl,rfl⟩
 | .none::r,e=>by cases e
 | .bool _::r,e=>by cases e
 | .int _ _::r,e=>by cases e
 | .str _ _::r,e=>by cases e
 | .bytes _ _::r,e=>by cases e
 | .float _ _::r,e=>by cases e
 | .builtin _::r,e=>by cases e
 | .ellipsis::r,e=>by cases e
 | .notImplemented::r,e=>by cases e
theorem XK.cls{K:HE}{C c:Addr}{h:Heap}(x:XK K C c)(X:K.In h):lG h C "ValueError.__new__":=by
 obtain⟨d,q,N,bs,e,a,f,sub,g,b,i,j,l,m,n,o,p,r,_⟩:=x.obj;exact⟨d,q,N,bs,e,a,f,sub,g,b,i,j,l,m,n,o,X _ _ p,qB r⟩
theorem XK.cd{K:HE}{C b:Addr}(x:XK K C b):∃cd,clsIn K C=some cd/\V1 cd.mro=true/\cd.hasDict=true:=by
 obtain⟨g,q,N,bs,h,a,i,sub,j,c,l,m,n,o,p,r,d,e,f⟩:=x.obj;refine⟨_,by unfold clsIn;rw[d],?_,f⟩;exact e
theorem qC{P:Ib}{w:IW}{fs:List Addr}{H H':Hp}{h h':Heap}(ch:List Addr)(ok:bK P w H h)(r:∀b∈ch,∃a,H b=some (.ext a))(m:∀b∈fs,H b=none)
 (k:∀b u,b∉ch->b∉fs->h.get? b=some u->h'.get? b=some u) (j:∀b u,b∈fs->h.get? b=some u->∃j,h'.get? b=some { u with slots:=j })
 (C:∀b∈ch,∃o,h'.get? b=some o) (f:∀b u,b∉ch->H b=some u->H' b=some u) (x:∀b,b<h.objs.size->H b=none->H' b=none)
 (new:∀b u,b∈ch\/h.objs.size<=b->H' b=some u->aO P w H' h' b u):Un fs [] H H' h h'/\bK P w H' h':=by
 have p:∀b,H b=none->b∉ch:=λb n z=>by obtain⟨a,e⟩:=r b z;rw[n]at e;cases e
 have i:∀b u,H b=some u->b∉fs:=λb u e z=>by rw[m b z]at e;cases e
 have nx:∀b u,H b=some u->(∀a,u≠.ext a)->b∉ch:=λb u e q z=>by obtain⟨a,y⟩:=r b z;rw[e]at y;exact q a (Iv y)
 refine⟨⟨λb o e n d _=>k b o (p b n) d e,λb o e n d _=>j b o d e,λb o e n _=>x b (HJ e) n,λb o e _=>?_,λb D e=>f b _ (nx b _ e (by intro a q;cases q)) e,λb o u e=>f b _ (nx b _ e (by intro a q;cases q)) e,λb G e=>⟨#[],by rw[f b _ (nx b _ e (by intro a q;cases q)) e];simp⟩⟩,λb u e=>?_⟩
 ·by_cases d:b∈ch
  ·exact C b d
  ·by_cases A:b∈fs
   ·obtain⟨s,q⟩:=j b o A e;exact⟨_,q⟩
   ·exact⟨o,k b o d A e⟩
 ·by_cases d:b∈ch
  ·exact new b u (.inl d) e
  ·by_cases E:h.objs.size<=b
   ·exact new b u (.inr E) e
   ·rcases l:H b with _ | v
    ·rw[x b (by omega) l]at e;cases e
    ·have B:=f b v d l;rw[e]at B;cases B;refine(ok b u l).stay (λc o g q=>k c o ?_ ?_ q) (λc q=>f c _ (nx c _ q (by intro a z;cases z)) q) λc D q=>f c _ (nx c _ q (by intro a z;cases z)) q
     ·rcases g with rfl | g
      ·exact d
      ·exact nx c _ g (by intro a z;cases z)
     ·rcases g with rfl | g
      ·exact i _ _ l
      ·exact i _ _ g
section
variable{X:Cx}{o value:Expr}{pos pos':Pos}{to tv:TE}
noncomputable def uW(K:HE)(to tv:TE):TS:=λD a H=>tv a H λy c=>to a c λx b=>∃e C f,x=.ref e/\b e=some (XO C none none e)/\XK K C f/\∀d,b d=none->d≠e->D.nx a (aF (aF b e (XO C (some d) none e)) d (.xd [("at",y)]))
theorem Cc(T:PE X o to)(U:PE X value tv)(hs:swapsWith value (some (.Attribute o "at" pos')) pos.line X.env=pure false):PS X (.Assign [.Attribute o "at" pos'] value pos) (uW X.K to tv):=by
 intro g s m H D I h;refine Mq (aP (U g s m H _ I h) λu Y ⟨y,Z,I1,ry,q⟩=>aP (T g Y m Z _ I1 q) λov c zq=>?_) hs;obtain⟨x,n,i,rx,e,C,fI,ex,p,r,q2⟩:=zq;subst ex;obtain rfl:ov=HW e:=rx;obtain⟨oe,vs,L,N,O,A,h5⟩:=qA i p;obtain⟨cd,c1,c2,c3⟩:=r.cd;have J:InstAt c.heap e oe C none:=⟨L,N,by unfold notCls;rw[A],by rw[O];trivial⟩;refine set_plain i.kIn J r.sa (Cb (s:={ c with toks:=c.toks+1 }) i.kIn J c1 c2 c3 r.na A O λh' Q g2 g3=>?_);have l:n c.heap.objs.size=none:=i.hok.fresh (HG _);have B:c.heap.objs.size≠e:=JU (HJ L);refine⟨m,_,?_,q2 c.heap.objs.size l B⟩;have E:L2.RelV y u:=ry;obtain⟨u1,u2⟩:=qC (P:=X.prog) (w:=X.w) (fs:=[]) (H:=n) (H':=aF (aF n e (XO C (some c.heap.objs.size) none e)) c.heap.objs.size (.xd [("at",y)])) (h:=c.heap) (h':=h') [e] i.hok (λb a=>by
  rw[HH.mp a];exact⟨_,p⟩) (λ_ z=>nomatch z) (λb o a _ q=>g3 b o (λz=>a (by simp[z])) q) (λ_ _ z=>nomatch z) (λb a=>by rw[HH.mp a];exact⟨_,Q⟩)
  (λb v a q=>by rw[D3 (I9 q l),D3 (λz=>a (by simp[z]))];exact q)
  (λb a q=>by rw[D3 (HS a),D3 (λz=>by rw[z,p]at q;cases q)];exact q)
  (λb v a q=>by
   by_cases j:b=c.heap.objs.size
   ·rw[j,C8]at q;cases q;rw[j];refine⟨_,g2,λf=>?_⟩;by_cases G:f="at"
    ·subst G;simp[Lj,bC];exact E
    ·have:(f == "at")=false:=beq_eq_false_iff_ne.mpr G;simp[Lj,G,this,bC]
   ·rw[D3 j]at q;by_cases d:b=e
    ·rw[d,C8]at q;cases q;rw[d];exact qy ⟨_,vs,Q,N,rfl,A,h5⟩
    ·rw[D3 d]at q;rcases a with a | a
     ·exact absurd (HH.mp a) d
     ·rw[i.hok.fresh a]at q;cases q)
 exact i.un (u1.mono (λ_ z=>nomatch z) λ_ z=>z) u2
end
theorem Cd(f:Array HD->Array HD)(o:Obj):(Jz f o).dict=o.dict:=by
 obtain⟨c,d,a,b⟩:=o;cases a<;>rfl
def W6(b:HD)(H:Hp)(e C:Addr)(v:V):Prop:=∃d a,H e=some (XO C (some d) a e)/\H d=some (.xd [("at",v)])/\∀T,a=some T->H T=some (TO T b)/\T≠e
def cA(H H':Hp):Prop:=∀b u,H b=some u->(∀a,u≠.ext a)->H' b=some u
theorem cA.refl(H:Hp):cA H H:=λ_ _ e _=>e
theorem cA.trans{H d f:Hp}(a:cA H d)(b:cA d f):cA H f:=λc u e n=>b c u (a c u e n) n
section
variable{M:QC}{A:IN}{E:HD->HF->Prop}{s:HF}{P:Ib}{w:IW}
theorem uX{base:Heap}{f:Env}{outer:List Env}{L e:Addr}{D:Obj}{vs:Array HD}{g:HD}{i:Bool}{Q:Unit->HF->Prop}
 (H:A.frames=some (f::outer)) (Y:s.heap.FunFrames base (f::outer)) (hf:f.frame=some L)
 (he:s.heap.get? e=some D) (I:D.data=.fields vs) (hsz:1<vs.size)
 (h:∀y T Z ts,(∀b o,b≠e->b∉frs (f::outer)->s.heap.get? b=some o->y.get? b=some o)->(∀b o,b≠e->b∈frs (f::outer)->s.heap.get? b=some o->∃J,y.get? b=some { o with slots:=J })->
  s.heap.objs.size<=T->y.get? e=some (Jz (·.setIfInBounds 1 (HW T)) D)->y.get? T=some Z->Z.data=.fields ts->ts[3]?=some (rawInt L)->Q () { s with heap:=y }) :
 wpAny M A (do let a ←frameOf f;let n ←entryPlaceOf L i;let b ←Py g a .none (rawInt L) .none n;setField (.ref e) 1 b) Q E s:=by
 have z:e∉(f::outer).filterMap (·.frame):=λhm=>by
  obtain⟨_,o,G,N⟩:=Y.mem hm;rw[he]at G;injection G with G;subst G;exact N vs I
 refine Hz (wpAny_frameOf_fun H Y hf λc d=>?_);refine Hz (wpAny_entryPlaceOf λn B=>?_);unfold Py newFields;refine Hz (Ja ?_ (B.sizeOk5 _ _ _ _ _));have j:c.get? e=some D:=(d.2.1 e z).trans he;have l:=HA (h:=c) { cls:=.type "traceback",dict:=none,data:=.fields ([g,.ref L,.none,rawInt L,.none]++(if n.isEmpty then LF 6 Iu else n)).toArray } j;have O:c.objs.size≠e:=JU (HJ j);have u:=IQ I (·.setIfInBounds 1 (HW c.objs.size));have v:=IM (Jz (·.setIfInBounds 1 (HW c.objs.size))) l (JM u);have x:=(JB (c.push { cls:=.type "traceback",dict:=none,data:=.fields ([g,.ref L,.none,rawInt L,.none]++(if n.isEmpty then LF 6 Iu else n)).toArray })
  (Jz (·.setIfInBounds 1 (HW c.objs.size))) (JX O)).trans (HI c rfl)
 have keep:∀b o,b≠e->c.get? b=some o->
  ((c.push { cls:=.type "traceback",dict:=none,data:=.fields ([g,.ref L,.none,rawInt L,.none]++(if n.isEmpty then LF 6 Iu else n)).toArray }).update e (Jz (·.setIfInBounds 1 (HW c.objs.size)))).get? b=some o:=
  λb o m C=>by
   rw[JB _ _ (JX m)];exact HA _ C
 refine Kc l I hsz (h _ c.objs.size _ _ (λb o m U C=>keep b o m ((d.2.1 b U).trans C)) (λb o m _ C=>?_) (by rw[d.1];exact HG _) v x rfl (by first | (simp;done) | (rcases B with rfl | ⟨_,_,_,_,_,_,_,rfl⟩<;>simp)));obtain⟨J,q⟩:=d.2.2 b o C;exact⟨J,keep b _ m q⟩
theorem qD{J:HD}{H:Hp}{e C:Addr}{v:V}{Q:Unit->HF->Prop}(ok:bK P w H s.heap)(f:W6 J H e C v)
 (h:∀h' H',Un [] [] H H' s.heap h'->bK P w H' h'->W6 .none H' e C v->cA H H'->Q () { s with heap:=h' }):wpAny M A (setFlight (.ref e) none) Q E s:=by
 obtain⟨d,L,p,m,N⟩:=f;obtain⟨oe,vs,y,g2,g3,B,D,g6⟩:=(ok e _ p).1;unfold setFlight;cases L with
 | none=>
   refine Hz (Jf y B D ?_);rw[if_neg (show ¬((gU none != Iu)=true)from by simp[gU])];obtain⟨hp,gg,dd,tk,os⟩:=s;exact HB (h _ H Un.refl ok ⟨d,none,p,m,λT z=>nomatch z⟩ (cA.refl H))
 | some T=>
   obtain⟨l,G⟩:=N T rfl;obtain⟨oT,O,I,r,U⟩:=(ok T _ l).1;have g:3<O.size:=(Ly.mp U).1;refine Hz (Jf y B D ?_);rw[if_pos (show(gU (some T) != Iu)=true from by simp[gU])];have j:∀b,b≠T->(s.heap.update T (Jz (·.setIfInBounds 3 ((none:Option Addr).elim Iu λf=>rawInt f)))).get? b=s.heap.get? b:=λb a=>JB _ _ (JX a);have i:=IM (Jz (·.setIfInBounds 3 ((none:Option Addr).elim Iu λf=>rawInt f))) I (JM (IQ r _));obtain⟨Y,Z⟩:=qC (P:=P) (w:=w) (fs:=[]) (H:=H) (H':=aF H T (TO T .none)) (h:=s.heap) (h':=s.heap.update T (Jz (·.setIfInBounds 3 ((none:Option Addr).elim Iu λf=>rawInt f)))) [T] ok
    (λb a=>by rw[HH.mp a];exact⟨_,l⟩) (λ_ z=>nomatch z) (λb o a _ q=>(j b (λz=>a (by simp[z]))).trans q) (λ_ _ z=>nomatch z) (λb a=>by rw[HH.mp a];exact⟨_,i⟩)
    (λb u a q=>by rw[D3 (λz=>a (by simp[z]))];exact q) (λb _ q=>by rw[D3 (λz=>by rw[z,l]at q;cases q)];exact q)
    (λb u a q=>by
     by_cases c:b=T
     ·rw[c,C8]at q;cases q;rw[c];exact qz ⟨_,_,i,IQ r _,by simp[g]⟩
     ·rw[D3 c]at q;rcases a with a | a
      ·exact absurd (HH.mp a) c
      ·rw[ok.fresh a]at q;cases q)
   refine Kc I r g (h _ _ Y Z ⟨d,some T,by rw[D3 (JX G)];exact p,by rw[D3 (λz=>by rw[z,l]at m;cases m)];exact m,λT' z=>?_⟩ λb u q n=>?_)
   ·cases z;exact⟨C8,G⟩
   ·rw[D3 (λz=>by rw[z,l]at q;exact n _ (Iv q).symm)];exact q
theorem uY{base:Heap}{c:Env}{outer:List Env}{L e C:Addr}{H:Hp}{v:V}{Q:Unit->HF->Prop}(O:A.frames=some (c::outer))(hl:s.heap.FunFrames base (c::outer))(hf:c.frame=some L)
 (B:∀b∈frs (c::outer),H b=none) (ok:bK P w H s.heap) (f:W6 .none H e C v)
 (h:∀h' H',Un (frs (c::outer)) [] H H' s.heap h'->bK P w H' h'->W6 (rawInt L) H' e C v->cA H H'->Q () { s with heap:=h' }):wpAny M A (noteFrame (.ref e) c) Q E s:=by
 obtain⟨d,tb,p,f2,f3⟩:=f;obtain⟨oe,vs,g1,g2,g3,g4,g5,g6⟩:=(ok e _ p).1;have D:1<vs.size:=(Ly.mp g5).1;unfold noteFrame;simp only[hf];refine Hz (Jf g1 g4 g5 ?_);have fin:∀(ch:List Addr)(h0 h':Heap)(T:Addr)(N:Obj)(x:Array HD),(∀b∈ch,∃φ,H b=some (.ext φ))->e∈ch->(∀b∈ch,b≠e->∃o,h'.get? b=some o/\∀u,H b=some u->aO P w (aF (aF H e (XO C (some d) (some T) e)) T (TO T (rawInt L))) h' b u)->
  (∀b o,b∉ch->b∉frs (c::outer)->s.heap.get? b=some o->h'.get? b=some o)->(∀b o,b∈frs (c::outer)->s.heap.get? b=some o->∃sl,h'.get? b=some { o with slots:=sl })->
  s.heap.objs.size<=T->h'.get? e=some (Jz (·.setIfInBounds 1 (HW T)) oe)->h'.get? T=some N->N.data=.fields x->x[3]?=some (rawInt L)->Q () { s with heap:=h' }:=by
  intro ch h0 h' T N x hx b0 Y hk hs hT he b1 b2 b3;have l:H T=none:=ok.fresh hT;have Z:T≠e:=λz=>by rw[z,p]at l;cases l
  obtain⟨u1,u2⟩:=qC (P:=P) (w:=w) (fs:=frs (c::outer)) (H:=H) (H':=aF (aF H e (XO C (some d) (some T) e)) T (TO T (rawInt L))) (h:=s.heap) (h':=h') ch ok hx B hk hs
   (λb a=>by
    by_cases i:b=e
    ·rw[i];exact⟨_,he⟩
    ·obtain⟨o,q,_⟩:=Y b a i;exact⟨o,q⟩)
   (λb u a q=>by rw[D3 (I9 q l),D3 (λz=>a (by rw[z];exact b0))];exact q)
   (λb a q=>by rw[D3 (HS (Ig a hT)),D3 (λz=>by rw[z,p]at q;cases q)];exact q)
   (λb u a q=>by
    by_cases G:b=T
    ·rw[G,C8]at q;cases q;rw[G];exact qz ⟨_,_,b1,b2,b3⟩
    ·rw[D3 G]at q;by_cases i:b=e
     ·rw[i,C8]at q;cases q;rw[i];exact qy ⟨_,_,he,(Ls _ _).trans g2,(Cd _ _).trans g3,IQ g4 _,by simp[D,gU],by rw[Array.getElem?_setIfInBounds_ne (by decide)];exact g6⟩
     ·rw[D3 i]at q;rcases a with a | a
      ·obtain⟨o,_,r⟩:=Y b a i;exact r u q
      ·rw[ok.fresh a]at q;cases q)
  refine h h' _ u1 u2 ⟨d,some T,by rw[D3 (JX Z)];exact C8,?_,λT' z=>?_⟩ λb u q n=>?_
  ·rw[D3 (I9 f2 l),D3 (λz=>by rw[z,p]at f2;cases f2)];exact f2
  ·cases z;exact⟨C8,Z⟩
  ·rw[D3 (I9 q l),D3 (λz=>by rw[z,p]at q;exact n _ (Iv q).symm)];exact q
 have fe:e∉frs (c::outer):=λz=>by rw[B e z]at p;cases p
 cases tb with
 | none=>
   rw[if_neg (show ¬((gU none != Iu)=true)from by simp[gU])];refine uX O hl hf g1 g4 D λh' T N x k1 k2 k3 k4 k5 k6 k7=>fin [e] s.heap h' T N x (λb a=>by rw[HH.mp a];exact⟨_,p⟩) (by simp) (λb a z=>absurd (HH.mp a) z) (λb o a I q=>k1 b o (λz=>a (by simp[z])) I q) (λb o a q=>k2 b o (λz=>fe (by rw[←z];exact a)) a q) k3 k4 k5 k6 k7
 | some m=>
   obtain⟨f4,f5⟩:=f3 m rfl;obtain⟨N,x,t1,t2,t3⟩:=(ok m _ f4).1;have y:3<x.size:=(Ly.mp t3).1;have fT:m∉frs (c::outer):=λz=>by rw[B m z]at f4;cases f4
   rw[if_pos (show(gU (some m) != Iu)=true from by simp[gU])];refine Hz (Jf t1 t2 t3 ?_);rw[if_neg (show ¬((Iu == rawInt L)=true)from by simp[rawInt])];refine Hz (Kc t1 t2 y ?_);have g:∀b,b≠m->(s.heap.update m (Jz (·.setIfInBounds 3 Iu))).get? b=s.heap.get? b:=λb a=>JB _ _ (JX a);have a2:=IM (Jz (·.setIfInBounds 3 Iu)) t1 (JM (IQ t2 _));have j:∀b o,s.heap.get? b=some o->(∀vs,o.data≠.fields vs)->b≠m:=λb o a J q=>by
    rw[q,t1]at a;injection a with a;subst a;exact J x t2
   refine uX O (hl.of_keeps λb o a J=>⟨o,(g b (j b o a J)).trans a,rfl⟩) hf ((g e (JX f5)).trans g1) g4 D λh' T d1 d2 k1 k2 k3 k4 k5 k6 k7=>fin [e,m] s.heap h' T d1 d2 (λb a=>?_) (by simp) (λb a z=>?_) (λb o a I q=>?_) (λb o a q=>?_) ?_ k4 k5 k6 k7
   ·rcases HK.mp a with rfl | a
    ·exact⟨_,p⟩
    ·rw[HH.mp a];exact⟨_,f4⟩
   ·obtain rfl:b=m:=by
     rcases HK.mp a with a | a
     ·exact absurd a z
     ·exact HH.mp a
    have q:=k1 b _ z fT a2;refine⟨_,q,λu hu=>?_⟩;rw[f4]at hu;cases hu;exact qz ⟨_,_,q,IQ t2 _,by simp[y]⟩
   ·exact k1 b o (λz=>a (by simp[z])) I ((g b (λz=>a (by simp[z]))).trans q)
   ·exact k2 b o (λz=>fe (by rw[←z];exact a)) a ((g b (λz=>fT (by rw[←z];exact a))).trans q)
   ·have:=k3;rw[MN]at this;exact this
theorem Ce{base:Heap}{a:Env}{outer:List Env}{L e C:Addr}{H:Hp}{v:V}{Q:Unit->HF->Prop}(g:A.frames=some (a::outer))(l:s.heap.FunFrames base (a::outer))(m:a.frame=some L)
 (i:∀b∈frs (a::outer),H b=none) (ok:bK P w H s.heap) (f:W6 .none H e C v)
 (h:∀j d,Un (frs (a::outer)) [] H d s.heap j->bK P w d j->W6 .none d e C v->cA H d->Q () { s with heap:=j }):wpAny M A (leaving a (.ref e)) Q E s:=by
 unfold leaving;refine Hz (uY g l m i ok f λn I o p q r=>?_);exact qD (s:={ s with heap:=n }) p q λu x y B D G=>h u x (o.trans (y.mono (λ_ z=>nomatch z) λ_ z=>z)) B D (r.trans G)
end
section
variable(K:HE)(cm:Nat->Addr)
def cW(f:List Addr)(H:Hp)(c:Nat)(v:PV)(A':PHp)(g:Addr->Hp->Prop):Prop:=∀b d a e,aC f H b d->aV K cm b A' d->RV b d v e->W6 .none d a (cm c) e->g a d
noncomputable def dS(e:List Addr)(H:Hp)(g:Addr->Hp->Prop)(Q:VK):R PV->Prop
 | .ok v d=>∀a b f,aC e H a b->aV K cm a d b->RV a b v f->Q f b
 | .ex c v d=>cW K cm e H c v d g
 | .no=>False
noncomputable def uZ(c:Addr->Hp->Prop)(d:ED):TE:=λe H Q=>∃(b:List Addr)(A:PHp)(a:PSt),aV K cm b A H/\bV b H a e/\dS K cm b H c Q (d a A)
noncomputable def iX(f:Fun)(n:Nat):Sp:=λc H Q E=>∃(b:List Addr)(A:PHp)(ps:List PV),aV K cm b A H/\aQ b H ps c/\ps.length=n/\dS K cm b H (λa d=>E (.ref a) none d) Q (f ps A)
noncomputable def cZ(e:List Addr)(H:Hp)(g:Addr->Hp->Prop)(D:gh):R Fl->Prop
 | .ok f b=>∀a d,aC e H a d->aV K cm a b d->pM D a d f
 | .ex c v b=>cW K cm e H c v b g
 | .no=>False
noncomputable def fb(c:Addr->Hp->Prop)(s:SD):TS:=λD d H=>∃(b:List Addr)(A:PHp)(a:PSt),aV K cm b A H/\bV b H a d/\cZ K cm b H c D (s a A)
end
section
variable{K:HE}{cm:Nat->Addr}{ρ ρ1:List Addr}{H H1:Hp}{XQ:Addr->Hp->Prop}{Q:VK}{D:gh}
theorem cW.ext{c:Nat}{v:PV}{A':PHp}(h:cW K cm ρ H c v A' XQ)(x:aC ρ H ρ1 H1):cW K cm ρ1 H1 c v A' XQ:=λb d a e y r g f=>h b d a e (x.trans y) r g f
theorem dS.ext{r:R PV}(h:dS K cm ρ H XQ Q r)(x:aC ρ H ρ1 H1):dS K cm ρ1 H1 XQ Q r:=by
 cases r with
 | ok v b=>exact λa d e y f g=>h a d e (x.trans y) f g
 | ex c v b=>exact cW.ext h x
 | no=>exact h
theorem cZ.ext{r:R Fl}(h:cZ K cm ρ H XQ D r)(x:aC ρ H ρ1 H1):cZ K cm ρ1 H1 XQ D r:=by
 cases r with
 | ok v b=>exact λa d y e=>h a d (x.trans y) e
 | ex c v b=>exact cW.ext h x
 | no=>exact h
theorem cA.ext{H':Hp}(c:cA H H'):aC ρ H ρ H':=⟨Iy _,λa b h=>c a _ h (by intro d z;cases z),λa b h=>c a _ h (by intro d z;cases z)⟩
theorem Cf{H':Hp}{a:Addr}{o:PO}(r:RO K cm ρ H a o)(c:cA H H'):RO K cm ρ H' a o:=by
 have e:aC ρ H ρ H':=c.ext;cases o with
 | lst l=>obtain⟨g,h,q⟩:=r;exact⟨g,c _ _ h (by intro b z;cases z),q.mono e⟩
 | ro l=>
   obtain⟨g,h,q⟩:=r;rcases h with⟨u,h⟩ | h
   ·exact⟨g,.inl ⟨u,c _ _ h (by intro b z;cases z)⟩,q.mono e⟩
   ·exact⟨g,.inr h,q.mono e⟩
 | dI i=>obtain⟨f,h,q⟩:=r;exact⟨f,c _ _ h (by intro b z;cases z),q.mono e⟩
 | ins j fs=>obtain⟨m,n,f,h,q⟩:=r;exact⟨m,n,f,c _ _ h (by intro b z;cases z),q.mono e⟩
 | dT i=>obtain⟨f,h,q⟩:=r;exact⟨f,c _ _ h (by intro b z;cases z),q.mono e⟩
 | exc j v=>obtain⟨o,d,p,h,s,w,x,y,q⟩:=r;exact⟨o,d,p,c _ _ h (by intro b z;cases z),s,w,x,c _ _ y (by intro b z;cases z),q.mono e⟩
theorem aV.calm{H':Hp}{A:PHp}(r:aV K cm ρ A H)(c:cA H H'):aV K cm ρ A H':=⟨r.len,λn o a b d=>Cf (r.obj n o a b d) c,r.inj⟩
end
noncomputable def fK(P:Ib)(w:IW):CXT:=λb H s E e c=>∃a C v d,e=.ref a/\c.os=s.os/\NX c.gens/\Un (frs b) [] H d s.heap c.heap/\bK P w d c.heap/\W6 .none d a C v/\E (.ref a) none d
def ky(X:Cx)(b:List (Addr×Obj))(σ:L2.St)(d:Addr->Hp->Prop)(e:HD)(f:HF):Prop:=∃a C v c,e=.ref a/\L2.Inv X b σ c f/\W6 .none c a C v/\d a c
def lI(X:Cx)(c:Nat->Addr)(e:Expr)(d:ED):Prop:=
 ∀(a:List (Addr×Obj))(s:HF)(σ:L2.St)(H:Hp)(Q:VK)(b:Addr->Hp->Prop),L2.Inv X a σ H s->uZ X.K c b d σ H Q->wpAny (model X.prog X.w) X.A (eval e X.env) (EP X a σ Q) (ky X a σ b) s
section
variable{X:Cx}{cm:Nat->Addr}{pins:List (Addr×Obj)}{σ:L2.St}{H:Hp}{s s':HF}
theorem Cg{E:L2.XK}{e:HD}(I:L2.Inv X pins σ H s)(h:fK X.prog X.w X.stack H s E e s'):ky X pins σ (λa i=>E (.ref a) none i) e s':=by
 obtain⟨a,C,v,i,rfl,os,c,un,j,f,q⟩:=h;obtain⟨m,g,d,t,l⟩:=s';obtain rfl:l=s.os:=os;exact⟨a,C,v,i,rfl,I.call (h':=m) (g':=g) (d':=d) (t':=t) (ch:=[]) un j c (λb z=>absurd z (by simp)),f,q⟩
theorem Ch{k:Nat}{f:Addr}{d:Ia}{ps:List Str}{g:Sp}{Q:VK}{E:L2.XK}{us:List HD}{vs:List V}(F:az X.prog X.w X.K X.mg X.base (fK X.prog X.w) k f d ps g)(i:aR k X.A)(j:L2.Binds X.K d ps [])
 (I:L2.Inv X pins σ H s) (r:aE vs us) (h:g vs H Q E):wpAny (model X.prog X.w) X.A (call (.ref f) us) (EP X pins σ Q) (ky X pins σ λa l=>E (.ref a) none l) s:=by
 have m:us.length=ps.length:=by rw[←r.length];exact F.len _ _ _ _ h
 have b:=j s us I.kIn (by rw[IA];exact m);rw[IA]at b;refine Mr (Kr (F.run X.A X.stack s H ⟨us,[]⟩ us vs Q E i I.env0 b r h) λr s' c=>?_);cases r with
 | error e=>exact Cg I c
 | ok n=>
   cases n with
   | ret u=>exact I.after c
   | next=>exact Iq c
   | brk=>exact Iq c
   | cont=>exact Iq c
theorem Ci{d:Addr->Hp->Prop}{e:HD}(h:ky X pins σ (λa c=>∃b,HW a=.ref b/\d b c) e s'):ky X pins σ d e s':=by
 obtain⟨a,C,v,c,f,I,g,b,i,j⟩:=h;cases i;exact⟨a,C,v,c,f,I,g,j⟩
end
section
variable{X:Cx}{cm:Nat->Addr}
theorem Cj{c:Nat}{f:Fun}{n k:Nat}{fa:Addr}{fd:Ia}{ps:List Str}{m:Str}{o e:Expr}{es:List Expr}{d:ED}{ds:AD}{J C:Pos}{pl:Sem Bool}(ho:PE X.nox o (aB X.K cm d))(hc:eu X.K (cm c))(hm:iL X.K (cm c) m fa)
 (F:az X.prog X.w X.K X.mg X.base (fK X.prog X.w) k fa fd ps (iX X.K cm f n)) (hn:∀vs A,f vs A≠.no->vs.length=n) (c2:∀i,i<19->cs i≠m) (hr:aR k X.A) (hb:L2.Binds X.K fd ps []) (ha:PA X.nox (e::es) (dQ X.K cm ds))
 (c3:starEach (e::es) X.env=(false,eval e X.env)::starEach es X.env:=by exact D8 rfl) (hpl:(backTo C (starEach es X.env)).any (·.1)=false:=by rfl)
 (ht:eval (.Call (.Attribute o m J) (e::es) [] C) X.env=(do
  let ov ←eval o X.env
  standAt J.atName
  let(f,first) ←holding [ov] (getMethod ov m pl)
  callWith C f first (backTo C (starEach (e::es) X.env)) (backToKw C (keywordEach [] X.env))):=by rfl) :
 lI X cm (.Call (.Attribute o m J) (e::es) [] C) (jv c f d ds):=by
 intro U s σ H Q XQ I ⟨ρ,A,D,rl,rs,g⟩;unfold jv ap dP at g;rcases hd:d D A with⟨x,A1⟩ | ⟨c',v,A1⟩ | _
 case ex=>rw[hd]at g;exact Iq g
 case no=>rw[hd]at g;exact Iq g
 rw[hd]at g;refine MB (pl:=pl) (IJ (ho U s σ H (λv1 Y=>∃B,aC ρ H B Y/\aV X.K cm B A1 Y/\RV B Y x v1) (I.wish _) ⟨ρ,A,D,x,A1,rl,rs,hd,λB Y v1 x1 N O=>⟨B,x1,N,O⟩⟩) (λu s1 zq=>?_) λ_ _ z=>Iq z) ht;obtain⟨x',Y,I1,rx,B,x1,N,O⟩:=zq;cases x with
 | ref j=>
   rcases Z:V3 j A1 with⟨ob,A2⟩ | ⟨c',v,A2⟩ | _
   case ex=>simp only[ap]at g;rw[Z]at g;unfold V3 at Z;split at Z<;>cases Z
   case no=>simp only[ap]at g;rw[Z]at g;exact Iq g
   obtain⟨rfl,hA,a,dx,kv,rfl,h0,hH,hp,hs⟩:=nC N O Z;have L:dS X.K cm ρ H XQ Q (ap (V3 j) (λo=>G0 (o.1=c) (ap (dP (ds D)) λvs=>f (.ref j::vs))) A2):=g;rw[aD Z]at L;have h:dS X.K cm ρ H XQ Q (G0 (ob.1=c) (ap (dP (ds D)) λvs=>f (.ref j::vs)) A2):=L;clear g L;by_cases a0:ob.1=c
   case neg=>rw[show G0 (ob.1=c) (ap (dP (ds D)) λvs=>f (.ref j::vs))=stuck from if_neg a0]at h;exact Iq h
   rw[T5 a0]at h;subst a0;have d1:kv.lookup m=none:=by
    have d2:∀(l:List (Str×V)),(∀z∈l.map (·.1),z≠m)->l.lookup m=none:=λl=>by
     induction l with
     | nil=>intro _;rfl
     | cons p q ih=>
       intro hz;rw[LN,beq_eq_false_iff_ne.mpr (λz=>hz p.1 (by simp) z.symm)];exact ih λz a8=>hz z (by simp at a8 ⊢;exact .inr a8)
    refine d2 kv λz hz=>?_;rw[hp.keys]at hz;obtain⟨q,hq,rfl⟩:=HQ.mp hz;exact c2 _ (hs q hq)
   obtain rfl:u=HW a:=rx;refine oP I1.unwish hH hc hm d1 ?_;unfold ap dP at h;rcases T:ds D A2 with⟨xs,A3⟩ | ⟨c',v,A3⟩ | _
   case ex=>rw[T]at h;exact Iq h
   case no=>rw[T]at h;exact Iq h
   rw[T]at h;have g:dS X.K cm ρ H XQ Q (f (.ref j::xs) A3):=h;refine Lh (first:=[.ref a]) (h₀:=X.base) I.ok.mod.kin hm.kp (IJ (ha C U s1 σ Y (λb0 H2=>∃G,aC B Y G H2/\aV X.K cm G A3 H2/\aQ G H2 xs b0) I1 ⟨B,A2,D,xs,A3,N,rs.mono x1,T,λG H2 b0 x2 a2 a3=>⟨G,x2,a2,a3⟩⟩) (λus s2 ⟨vs,H2,I2,r,G,x2,a2,a3⟩=>⟨I2.kIn,?_⟩) λ_ _ z=>Iq z) c3 hpl;refine IJ (Ch (us:=.ref a::us) (vs:=.ref a::vs) (Q:=Q) (E:=λe _ H'=>∃b,e=.ref b/\XQ b H') F hr hb I2.unwish (.cons rfl r) ⟨G,A3,.ref j::xs,a2,.cons (O.mono x2) a3,hn _ A3 (λz=>by rw[z]at g;exact g),?_⟩) (λ_ _ z=>z) λ_ _ z=>Ci z;have o2:=(g.ext x1).ext x2;revert o2;cases f (.ref j::xs) A3 with
   | ok v A'=>exact λz=>z
   | ex c v A'=>exact λz e1 H' a v' y r rv fl=>⟨a,rfl,z e1 H' a v' y r rv fl⟩
   | no=>exact λz=>z
 | _=>exact Iq g
end
def nU(X:Cx)(c:Addr->Hp->Prop):Prop:=∀(b:List (Addr×Obj))(σ:L2.St)(H:Hp)(s:HF)(a C:Addr)(v:V),L2.Inv X b σ H s->W6 .none H a C v->c a H->X.xe (.ref a) s
section
variable{X:Cx}{cm:Nat->Addr}{XE:Addr->Hp->Prop}
theorem noX_inv{c:Type}{m:M c}{A:PHp}{r:R c}(h:dP m A=r):(∃a b,m A=.ok a b/\r=.ok a b)\/r=.no:=by
 unfold dP at h;rcases d:m A with⟨a,b⟩ | _ | _<;>rw[d]at h
 ·exact .inl ⟨a,b,rfl,h.symm⟩
 ·exact .inr h.symm
 ·exact .inr h.symm
theorem Ck{st:Stmt}{t:TS}(h:PS X.nox st t):PS X st t:=λa s b H D I c=>
 IJ (h a s b H D (I.wish _) c) (λ_ _ q=>q.unwish) λ_ _ z=>Iq z
theorem lJ{st:Stmt}{s:SD}(h:PS X.nox st (cu X.K cm s)):PS X st (fb X.K cm XE (fD s)):=S9 (Ck h) λD j H c=>by
 obtain⟨b,A,a,d,g,o⟩:=c;rcases noX_inv (m:=s a) (A:=A) rfl with⟨f,i,e,q⟩ | q
 ·have o:cZ X.K cm b H XE D (dP (s a) A):=o;rw[q]at o;exact⟨b,A,a,f,i,d,g,e,o⟩
 ·have o:cZ X.K cm b H XE D (dP (s a) A):=o;rw[q]at o;exact Iq o
theorem lK{st:List Stmt}{s:SD}(h:bL X.nox st (cu X.K cm s)):bL X st (fb X.K cm XE (fD s)):=nz (bL.nox h) λD j H c=>by
 obtain⟨b,A,a,d,g,o⟩:=c;rcases noX_inv (m:=s a) (A:=A) rfl with⟨f,i,e,q⟩ | q
 ·have o:cZ X.K cm b H XE D (dP (s a) A):=o;rw[q]at o;exact⟨b,A,a,f,i,d,g,e,o⟩
 ·have o:cZ X.K cm b H XE D (dP (s a) A):=o;rw[q]at o;exact Iq o
theorem V2{st:Stmt}{s:SD}(h:PS X st (fb X.K cm XE s)):bL X [st] (fb X.K cm XE s):=oG h
theorem W0{st:Stmt}{rest:List Stmt}{s r:SD}(m:PS X st (fb X.K cm XE s))(n:bL X rest (fb X.K cm XE r)):bL X (st::rest) (fb X.K cm XE (D7 s r)):=
 nz (sk m n) λD B H p=>by
  obtain⟨q,A,h,u,w,o⟩:=p;refine⟨q,A,h,u,w,?_⟩;unfold D7 ap at o;rcases x:s h A with⟨f,l⟩ | ⟨c,v,l⟩ | _<;>rw[x]at o
  ·intro b j i d;cases f with
   | nx g=>exact λe a=>⟨b,l,g,d,a,cZ.ext o i⟩
   | rt v=>exact λy z=>o b j i d y z
   | bk g=>exact λe a=>o b j i d e a
   | ct g=>exact λe a=>o b j i d e a
  ·exact o
  ·exact o
theorem kz{c:Expr}{a b:List Stmt}{t:TD}{s u:SD}{h:Pos}(l:PT X.nox c (cQ X.K cm t))(n:bL X a (fb X.K cm XE s))(p:bL X b (fb X.K cm XE u)):PS X (.If c a b h) (fb X.K cm XE (br (hX t) s u)):=
 S9 (so (PT.nox l) n p) λD z H r=>by
  obtain⟨v,A,d,w,i,o⟩:=r;unfold br hX ap at o;rcases noX_inv (m:=t d) (A:=A) rfl with⟨x,j,y,q⟩ | q<;>rw[q]at o
  ·refine⟨v,A,d,x,j,w,i,y,λe B g f=>?_⟩;cases x with
   | true=>rw[if_pos rfl];exact⟨e,j,d,f,i.mono g,cZ.ext o g⟩
   | false=>rw[if_neg (by simp)];exact⟨e,j,d,f,i.mono g,cZ.ext o g⟩
  ·exact Iq o
theorem Cm{e:Expr}{d:ED}(i:nU X XE)(h:lI X cm e d):PE X e (uZ X.K cm XE d):=λb s g H Q I ⟨j,A,c,l,m,o⟩=>
 IJ (h b s g H Q XE I ⟨j,A,c,l,m,o⟩) (λ_ _ z=>z) λw n ⟨a,C,v,p,r,u,f,q⟩=>by subst r;exact i b g p n a C v u f q
theorem vb{e:Expr}{d:ED}{a:Pos}(m:nU X XE)(h:lI X cm e d)(hs:swapsWith e none a.line X.env=pure false:=by rfl):PS X (.Expr e a) (fb X.K cm XE (P9 d)):=
 S9 (sm (Cm m h) hs) λD n H p=>by
  obtain⟨q,A,b,r,j,o⟩:=p;refine⟨q,A,b,r,j,?_⟩;unfold P9 ap at o;rcases hs:d b A with⟨f,s⟩ | ⟨c,v,s⟩ | _<;>rw[hs]at o
  ·exact λg u x l i w=>o g u l i n (j.mono l)
  ·exact o
  ·exact o
end
theorem Cn{fs:List Addr}{L:Addr}{p H H':Hp}{i h h':Heap}(a:Un fs [] p H i h)(b:Un (L::fs) [] H H' h h')(r:i.objs.size<=L):Un fs [] p H' i h':=by
 have ne:∀b o,i.get? b=some o->b≠L:=λb o e=>HS (Ig (HJ e) r);refine⟨λc o e n g d=>?_,λc o e n g d=>?_,λc o e n d=>?_,λc o e d=>?_,λc q e=>b.tups c q (a.tups c q e),λc o u e=>b.frzs c o u (a.frzs c o u e),λc s e=>?_⟩
 ·exact b.keep c o (a.keep c o e n g d) (a.free c o e n d) (λz=>(HK.mp z).elim (ne c o e) g) d
 ·obtain⟨x,f⟩:=a.slot c o e n g d;obtain⟨j,l⟩:=b.slot c _ f (a.free c o e n d) (HR _ g) d;exact⟨j,l⟩
 ·obtain⟨m,f⟩:=a.there c o e d;exact b.free c m f (a.free c o e n d) d
 ·obtain⟨m,f⟩:=a.there c o e d;exact b.there c m f d
 ·obtain⟨v,f⟩:=a.tbls c s e;obtain⟨w,l⟩:=b.tbls c _ f;exact⟨v++w,by rw[l,Nx]⟩
def nV(E:L2.XK)(a:Addr)(H':Hp):Prop:=∃C v,W6 .none H' a C v/\∀b,cA H' b->W6 .none b a C v->E (.ref a) none b
section
variable{P:Ib}{w:IW}{K:HE}{mg:Str->Option HD}{base:Heap}{cm:Nat->Addr}
theorem jB{N:List Str}{d:Str}{b:NW}{f:Addr}{g:HD}{A:IN}{outer:List Env}{h:HF}{l:Hp}{E:L2.XK}:nU (fz (fK P w) P w K mg base N d b f g A outer h l E) (nV E):=by
 intro i n H s a o p I _ ⟨C,v,m,q⟩;refine Ce (P:=P) (w:=w) (base:=base) (outer:=outer) (L:=h.heap.objs.size) (H:=H) I.ok.frames I.stack rfl I.stkFree I.hok m λr j u ok e c=>?_;refine⟨a,C,v,j,rfl,I.os,I.bare,?_,ok,e,q j c e⟩;exact Cn I.base (u.mono I.stkSub λ_ z=>z) (HG _)
theorem Co{n p:Nat}{s:SD}{e:List PV}{B:PHp}{A:List Addr}{H:Hp}{Q:VK}{E:L2.XK}(h:dS K cm A H (λa i=>E (.ref a) none i) Q (fn n p s e B)) :
 cZ K cm A H (nV E) { nx:=λ_ i=>Q .non i,rt:=Q } (s (Ws.start n e) B):=by
 unfold fn at h;by_cases C:e.length=p
 case neg=>rw[show G0 (e.length=p) (ap (s (Ws.start n e)) fin)=stuck from if_neg C]at h;exact Iq h
 rw[T5 C]at h;unfold ap at h;rcases D:s (Ws.start n e) B with⟨o,G⟩ | ⟨c,v,G⟩ | _<;>rw[D]at h
 ·cases o with
  | nx f=>exact λb l m d I _=>h b l _ m d .non
  | rt u=>exact λb l m d j q=>h b l j m d q
  | bk f=>exact Iq h
  | ct f=>exact Iq h
 ·exact λr i a j x J L y=>⟨cm c,j,y,λz calm g=>h r z a j (x.trans calm.ext) (J.calm calm) (L.mono calm.ext) g⟩
 ·exact h
theorem Cp{x a:Str}{st:Stmt}{f:Addr}{i:Ia}{N ps:List Str}{k:Nat}{s:SD}(F:L2.Fun K x a st f i)(S:C6 N ps (B6 st))
 (c:∀(b:HD)(A:IN)(outer:List Env)(d:HF)(H:Hp)(E:L2.XK),aR k (A.deeper (IS a (B6 st) d.heap.objs.size f b))->
  bL (fz (fK P w) P w K mg base N a (B6 st) f b A outer d H E) (C4 st) (fb K cm (nV E) s)) :
 az P w K mg base (fK P w) (k+1) f i ps (iX K cm (fn N.length ps.length s) ps.length):=by
 obtain⟨oc,v,kV,p,y,z,b,C,q,rfl,lk,e⟩:=F.ex;refine oU lk e S (λr H Q E ⟨j,A,l,m,g,n,_⟩=>by rw[←g.length];exact n) λA outer d H r Q E u h=>⟨_,c b A outer d H E u,?_⟩;obtain⟨j,B,l,m,g,n,o⟩:=h;exact⟨j,B,Ws.start N.length l,m,bV.start0 g,Co o⟩
end
theorem Cq{n p:Nat}{s:SD}{vs:List PV}{A:PHp}(h:fn n p s vs A≠.no):vs.length=p:=by
 by_cases a:vs.length=p
 ·exact a
 ·exfalso;apply h;show G0 (vs.length=p) (ap (s (Ws.start n vs)) fin) A=_;rw[show G0 (vs.length=p) (ap (s (Ws.start n vs)) fin)=stuck from if_neg a];rfl
structure lL(P:Ib)(w:IW)(K:HE)(mg:Str->Option HD)(base:Heap)(cm:Nat->Addr)(c:Nat)(m:Str)(k:Nat)(ps:List Str)(f:Fun)(n:Nat):Prop where
 ex:∃(fa:Addr)(fd:Ia),az P w K mg base (fK P w) k fa fd ps (iX K cm f n)/\iL K (cm c) m fa/\L2.Binds K fd ps []
 len:∀vs A,f vs A≠.no->vs.length=n
section
variable{X:Cx}{cm:Nat->Addr}
theorem qE{c:Nat}{f:Fun}{n k j:Nat}{ps:List Str}{m:Str}{o e:Expr}{es:List Expr}{d:ED}{l:AD}{b a:Pos}{pl:Sem Bool}(D:lL X.prog X.w X.K X.mg X.base cm c m k ps f n)(p:k<=j)(q:aR j X.A)(r:eu X.K (cm c))(s:PE X.nox o (aB X.K cm d))(u:PA X.nox (e::es) (dQ X.K cm l))(g:∀i,i<19->cs i≠m)
 (h:starEach (e::es) X.env=(false,eval e X.env)::starEach es X.env:=by exact D8 rfl) (hpl:(backTo a (starEach es X.env)).any (·.1)=false:=by rfl)
 (v:eval (.Call (.Attribute o m b) (e::es) [] a) X.env=(do
  let ov ←eval o X.env
  standAt b.atName
  let(f,first) ←holding [ov] (getMethod ov m pl)
  callWith a f first (backTo a (starEach (e::es) X.env)) (backToKw a (keywordEach [] X.env))):=by rfl) :
 lI X cm (.Call (.Attribute o m b) (e::es) [] a) (jv c f d l):=by
 obtain⟨z,B,F,x,y⟩:=D.ex;exact Cj (pl:=pl) s r x F D.len g (q.mono p) y u h hpl v
end
noncomputable def kA(K:HE):Sp:=λa H Q _=>∃e C b v,a=[.ref e,v]/\H e=some (XO C none none e)/\XK K C b/\∀d,H d=none->d≠e->Q .non (aF (aF H e (XO C (some d) none e)) d (.xd [("at",v)]))
theorem Cr{P:Ib}{w:IW}{K:HE}{mg:Str->Option HD}{base:Heap}{x a:Str}{st:Stmt}{f:Addr}{i:Ia}{k:Nat}{N:List Str}(F:L2.Fun K x a st f i)(S:C6 N N (B6 st))(l:N.length=2)
 (c:∀(b:HD)(A:IN)(outer:List Env)(g:HF)(H:Hp)(E:L2.XK),aR k (A.deeper (IS a (B6 st) g.heap.objs.size f b))->
  bL (fz aX P w K mg base N a (B6 st) f b A outer g H E).nox (C4 st) (uW K (gq 0) (gq 1))) :
 az P w K mg base aX (k+1) f i N (kA K):=by
 refine F.ok S (λm H Q E ⟨e,C,j,v,h,_⟩=>by rw[h,l];rfl) λb A outer g H m Q E n h=>⟨_,c b A outer g H E n,?_⟩;obtain⟨e,C,j,v,rfl,o,p,q⟩:=h;have r:(L2.start N [V.ref e,v])[0]?=some (some (V.ref e)):=by unfold L2.start;simp
 have s:(L2.start N [V.ref e,v])[1]?=some (some v):=by unfold L2.start;simp
 exact⟨v,s,.ref e,r,e,C,j,rfl,o,p,λd u y=>q d u y⟩
section
variable{X:Cx}{pins:List (Addr×Obj)}{σ:L2.St}{H:Hp}{s:HF}{E:HD->HF->Prop}
theorem Cs{C p:Addr}{z:Ia}{k:Nat}{ps:List Str}{v:V}{u:HD}{Q:VK}(n:XK X.K C p)(F:az X.prog X.w X.K X.mg X.base aX k p z ps (kA X.K))(J:aR (k+1) X.A)(L:L2.Binds X.K z ps [])
 (I:L2.Inv X pins σ H s) (r:L2.RelV v u) (h:∀e d,H e=none->H d=none->d≠e->Q (.ref e) (aF (aF H e (XO C (some d) none e)) d (.xd [("at",v)]))) :
 wpAny (model X.prog X.w) X.A (call (.ref C) [u]) (EP X pins σ Q) E s:=by
 have N:∀b o,s.heap.get? b=some o->(s.heap.push { cls:=.type "tuple",data:=.seq [u].toArray }).get? b=some o:=λb o e=>HA _ e;have O:((s.heap.push { cls:=.type "tuple",data:=.seq [u].toArray }).push (iW C s.heap.objs.size)).get? (s.heap.objs.size+1)=some (iW C s.heap.objs.size):=by heap_get
 have T:=I.kept (t':=s.toks) N;have x:=T.laid (a:=s.heap.objs.size+1) (o:=XO C none none (s.heap.objs.size+1)) (h':=(s.heap.push { cls:=.type "tuple",data:=.seq [u].toArray }).push (iW C s.heap.objs.size)) (t':=s.toks) (λb o q=>HA _ q) (OK (Jg _ _))
  (qy ⟨_,_,O,rfl,rfl,rfl,rfl,rfl⟩)
 have y:H (s.heap.objs.size+1)=none:=I.hok.fresh (JQ _);have i:kA X.K [.ref (s.heap.objs.size+1),v] (aF H (s.heap.objs.size+1) (XO C none none (s.heap.objs.size+1))) (λw U=>w=.non/\Q (.ref (s.heap.objs.size+1)) U) E0:=
  ⟨s.heap.objs.size+1,C,p,v,rfl,C8,n,λd B j=>⟨rfl,by
   rw[xC];exact h _ d y (by rw[D3 j]at B;exact B) j⟩⟩
 have D:aE [V.ref (s.heap.objs.size+1),v] [HW (s.heap.objs.size+1),u]:=.cons rfl (.cons r .nil);have Y:[HW (s.heap.objs.size+1),u].length=ps.length:=by
  have e:=D.length;rw[F.len _ _ _ _ i]at e;exact e.symm
 have l:=L _ [HW (s.heap.objs.size+1),u] x.kIn (by rw[IA];exact Y);rw[IA]at l;obtain⟨G,g,d,t,os⟩:=s;refine Mr (BZ (n.cls I.kIn) (OW I.kIn n.init) (λm=>PySem.W.bind_fn I.kIn m (beq_iff_eq.mp n.fn)) (by simp[sizeLine]) (Kr (F.run _ X.stack _ _ ⟨[HW (G.objs.size+1),u],[]⟩ _ _ _ E0 (J.make C [u] [])
  (x.env0.make C [u] []) l D i) λr s' c=>?_))
 cases r with
 | error e=>exact Iq c
 | ok Z=>
   cases Z with
   | ret u=>
     obtain⟨v,H',I3,rv,ev,q3⟩:=x.after c;subst ev;exact⟨rv,⟨V.ref (G.objs.size+1),H',I3,rfl,q3⟩⟩
   | next=>exact Iq c
   | brk=>exact Iq c
   | cont=>exact Iq c
end
section
variable{M:QC}{A:IN}{E:HD->HF->Prop}{env:Env}
theorem Ct{s:HF}{x:Sem HD}{C:Addr}{Q:Flow->HF->Prop}(r:A.handled=none)
 (h:wpAny M A x (λv a=>∃e i j,v=.ref e/\lG a.heap C "ValueError.__new__"/\a.heap.get? e=some i/\i.cls=.ref C/\i.data=.fields j/\j[1]?=some .none/\E (.ref e) a) E s) :
 wpAny M A (raiseStmt env (some x) none) Q E s:=by
 unfold raiseStmt;refine Hz (IJ h (λv a c=>?_) λ_ _ x=>x);obtain⟨e,i,j,rfl,u,m,f,n,w,y⟩:=c;obtain⟨D,q,N,bs,z,o,G,sub,H,B,I,J,L,O,T,U,p,_,b,_⟩:=u.obj;have l:(HW C::z).contains (.type "BaseException")=true:=by rw[Kj,b,MG]
 obtain⟨Y,g,d,Z,os⟩:=a;repeat (first | (with_reducible refine JN m ?_;first | rw[f] | rw[n]) | with_reducible refine JN p ?_ | (with_reducible refine Ku p ?_;rw[l]) | with_reducible refine Jf m n w ?_ | wp_step)
 exact wpAny_raiseNew_none r y
end
structure jC(P:Ib)(w:IW)(K:HE)(mg:Str->Option HD)(base:Heap)(cm:Nat->Addr)(c:Nat)(x:Str)(k:Nat):Prop where
 ex:∃(fI:Addr)(fd:Ia)(ps:List Str),az P w K mg base aX k fI fd ps (kA K)/\XK K (cm c) fI/\mg x=some (.ref (cm c))/\L2.Binds K fd ps []
section
variable{X:Cx}{cm:Nat->Addr}{XE:Addr->Hp->Prop}
theorem Cu{H:Hp}{C e d:Addr}{v:V}(he:H e=none)(b:H d=none)(a:d≠e):W6 .none (aF (aF H e (XO C (some d) none e)) d (.xd [("at",v)])) e C v:=
 ⟨d,none,by rw[D3 (JX a),C8],C8,λT z=>nomatch z⟩
theorem p6{c k k':Nat}{x:Str}{e:Expr}{L:AD}{np g N:Pos}(hx:nU X XE)(hc:X.calm=true)(D:jC X.prog X.w X.K X.mg X.base cm c x k)(hk:k+1<=k')(hr:aR k' X.A)(hg:Gl X x)
 (ha:PA X.nox [e] (dQ X.K cm L)) (O:(x == ("__debug__" : Str))=false:=by decide) (he:starEach [e] X.env=(false,eval e X.env)::starEach [] X.env:=by exact D8 rfl) (hpl:(backTo g (starEach [] X.env)).any (·.1)=false:=by rfl) :
 PS X (.Raise (some (.Call (.Name x np) [e] [] g)) none N) (fb X.K cm XE (n5 c L)):=by
 intro h s σ H D' I ⟨T,A,u,rl,rs,o⟩;obtain⟨fI,fd,ps,F,U,hm,hb⟩:=D.ex;rw[arm_exec_Raise];simp only[evalOpt,Option.map];refine Hz (Oh (Ct (C:=cm c) (I.ok.hd hc) (Hz (IJ (Q:=λv J=>∃e y l,v=.ref e/\lG J.heap (cm c) "ValueError.__new__"/\J.heap.get? e=some y/\y.cls=.ref (cm c)/\y.data=.fields l/\l[1]?=some .none/\X.xe (.ref e) J) ?_ (λv J n=>Hz (Oh (HB n))) λ_ _ x=>x))));unfold n5 ap at o;rcases noX_inv (m:=L u) (A:=A) rfl with⟨l,Y,e1,q⟩ | q<;>rw[q]at o
 case inr=>exact Iq o
 refine Lg (kL I hg hm ?_ O);refine Lh (h₀:=X.base) I.ok.mod.kin U.kp (IJ (ha g h s σ H (λB f=>∃b,aC T H b f/\aV X.K cm b Y f/\aQ b f l B) (I.wish _) ⟨T,A,u,l,Y,rl,rs,e1,λb f v1 Z i j=>⟨b,Z,i,j⟩⟩) (λus s1 ⟨B,f,I1,r,b,Z,i,j⟩=>⟨I1.kIn,?_⟩) λ_ _ z=>Iq z) he hpl;rcases l with _ | ⟨v,_ | ⟨w',t⟩⟩
 ·exact Iq o
 ·cases j with
  | cons rv rn=>
    rename_i p t';cases rn;cases r with
    | cons r1 r2=>
      rename_i u' t';cases r2;have o:cW X.K cm T H c v Y XE:=o;refine IJ (Cs (Q:=λz H2=>∃a d,z=.ref a/\f a=none/\f d=none/\d≠a/\H2=aF (aF f a (XO (cm c) (some d) none a)) d (.xd [("at",p)])) U F (hr.mono hk) hb I1.unwish r1 λa d h1 E n=>⟨a,d,rfl,h1,E,n,rfl⟩) (λz s2 zq=>?_) λ_ _ z=>z;obtain⟨z',H2,I2,rz,a,d,h1,E,n,h4,h5⟩:=zq;subst h1;obtain rfl:z=HW a:=rz;subst h5;have fl:W6 .none (aF (aF f a (XO (cm c) (some d) none a)) d (.xd [("at",p)])) a (cm c) p:=Cu E n h4;have G:aF f a (XO (cm c) (some d) none a) d=none:=by rw[D3 h4];exact n
      have g1:aC b f b (aF f a (XO (cm c) (some d) none a)):=aC.same E;have g2:aC b (aF f a (XO (cm c) (some d) none a)) b (aF (aF f a (XO (cm c) (some d) none a)) d (.xd [("at",p)])):=aC.same G;have a5:=(i.grow g1 (S8 E)).grow g2 (S8 G);obtain⟨y,ws,y1,y2,y3,y4,y5,y6⟩:=qA I2 (e:=a) (C:=cm c) (d:=some d) (tb:=none) (by rw[D3 (JX h4),C8]);exact⟨a,y,ws,rfl,U.cls I2.kIn,y1,y2,y4,y5,hx h σ _ s2 a (cm c) p I2 fl (o b _ a p ((Z.trans g1).trans g2) a5 ((rv.mono g1).mono g2) fl)⟩
 ·exact Iq o
end
theorem vc{K:HE}{C C' o:Addr}(x:XK K C o):∃d q N bs c a e sub f b g h i j l m,K.lookup C=some (excClassObj d q C N bs c a e sub f b g h i j l m "ValueError.__new__")/\V1 c=true/\(HW C::c).contains (.ref C')=kB K C C':=by
 obtain⟨d,q,N,bs,c,a,e,sub,f,b,g,h,i,j,l,m,n,p,_⟩:=x.obj;refine⟨d,q,N,bs,c,a,e,sub,f,b,g,h,i,j,l,m,n,p,?_⟩;unfold kB;rw[n]
section
variable{M:QC}{A:IN}{E:HD->HF->Prop}{s:HF}
theorem Cv{K:HE}{C C' y i e:Addr}{r:Obj}{Q:Bool->HF->Prop}(b:K.In s.heap)(x:XK K C y)(z:XK K C' i)(he:s.heap.get? e=some r)(c:r.cls=.ref C)(j:Q (kB K C C') s):wpAny M A (excMatches (.ref e) (.ref C')) Q E s:=by
 obtain⟨nm,q,N,bs,B,u,sn,sub,ab,D,dd,k0,k1,k2,k3,k5,G,ho,H⟩:=vc (C':=C') x;obtain⟨I,q',N',J,l,m,L,v,O,w,T,U,Y,Z,a0,a1,n,o,_⟩:=vc (C':=C') z;have hC:=b _ _ G;have h:=b _ _ n;have a:=(qB o).2.1;have p:(HW C'::l).contains (.type "BaseException")=true:=by rw[Kj,a,MG]
 have f:=tc_notTuple;rw[←H]at j;obtain⟨hp,g,d,t,os⟩:=s;unfold excMatches;repeat (first | (with_reducible refine JN he ?_;rw[c]) | with_reducible refine JN h ?_ | (with_reducible refine Ku h ?_;rw[p]) | with_reducible refine Ku hC ?_ | wp_step)
 cases hb:(HW C::B).contains (.ref C')<;>(rw[hb]at j;wp_walk;exact j)
end
abbrev lM(X:Cx)(a:Addr):Cx:={ X with A:=X.A.mark (some (.ref a)),calm:=false,xe:=λ_ _=>False }
section
variable{X:Cx}{pins:List (Addr×Obj)}{σ:L2.St}{H:Hp}{s:HF}{a:Addr}
theorem vd(I:L2.Inv X pins σ H s)(a:Addr):L2.Inv (lM X a) pins σ H s:=
 ⟨⟨I.ok.mod,I.ok.kind,I.ok.glob,I.ok.blt,I.ok.above,I.ok.inj,I.ok.has,I.ok.cab,(λz=>by cases z),I.ok.frames,I.ok.stk,I.ok.exf,I.ok.bs,I.ok.bsz,I.ok.noex,I.ok.exfs,I.ok.funs,I.ok.frf⟩,I.os,I.bare,I.base,I.loc,I.cell,I.free,I.freeC,I.pin,I.hok,I.len⟩
theorem nW(O:X.Ok)(I:L2.Inv (lM X a) pins σ H s):L2.Inv X pins σ H s:=⟨O,I.os,I.bare,I.base,I.loc,I.cell,I.free,I.freeC,I.pin,I.hok,I.len⟩
theorem Cw{D:gh}{f:Flow}(O:X.Ok)(h:SP (lM X a) pins D f s):SP X pins D f s:=by
 cases f with
 | next=>obtain⟨b,c,I,q⟩:=h;exact⟨b,c,nW O I,q⟩
 | brk=>obtain⟨b,c,I,q⟩:=h;exact⟨b,c,nW O I,q⟩
 | cont=>obtain⟨b,c,I,q⟩:=h;exact⟨b,c,nW O I,q⟩
 | ret u=>obtain⟨v,b,c,I,r,q⟩:=h;exact⟨v,b,c,nW O I,r,q⟩
end
structure qF(K:HE)(cm:Nat->Addr)(es:List Nat):Prop where
 xk:∀c∈es,∃fI,XK K (cm c) fI
 sub:∀c∈es,∀k∈es,kB K (cm c) (cm k)=gu c k
section
variable{X:Cx}{cm:Nat->Addr}
def PH(X:Cx)(cm:Nat->Addr)(es:List Nat)(hs:List MX)(j:List Hd):Prop:=
 ∀(b:List (Addr×Obj))(s:HF)(σ:L2.St)(H:Hp)(D:gh)(E:HD->HF->Prop)(a:Addr)(c:Nat)(i:V)(g:List Addr)(A:PHp)(e:PSt)(v:PV)(f:Fl)(A':PHp),L2.Inv X b σ H s->W6 .none H a (cm c) i->c∈es->
  aV X.K cm g A H->bV g H e σ->RV g H v i->i3 j c v e A=.ok f A'->(∀d h,aC g H d h->aV X.K cm d A' h->pM D d h f)->wpAny (model X.prog X.w) X.A (handleBy (.ref a) X.env hs) (SP X b D) E s
theorem Cy{es:List Nat}{hs:List MX}:PH X cm es hs []:=by
 intro b s g H D E a c h i A d v f j I l m n o p e k;cases e
theorem Cz{es:List Nat}{hs:List MX}{J:List Hd}{k:Nat}{x:Str}{Z o:Pos}{e:Stmt}{g:List Stmt}{b:SD}(p:qF X.K cm es)(L:k∈es)(hg:Gl X x)(hm:X.mg x=some (.ref (cm k)))
 (hb:∀a,bL (lM X a) (e::g) (cu X.K cm b)) (hr:PH X cm es hs J) (r:(x == ("__debug__" : Str))=false:=by decide) :
 PH X cm es (.ExceptHandler (some (.Name x Z)) none (e::g) o::hs) ((k,none,b)::J):=by
 intro h s N H D E a c v' O A j v f Q I n y T U rv l Y;obtain⟨fI,xk⟩:=p.xk c y;obtain⟨a7,B⟩:=p.xk k L;obtain⟨d,tb,f1,f2,f3⟩:=id n;obtain⟨oe,vs,y1,y2,y3,y4,y5,y6⟩:=qA I f1;refine wpAny_handleBy_cons (codeAny_handlers_test (kL (X:=lM X a) (vd I a) hg hm ?_ r)) (by intro q;cases q);refine Cv I.kIn xk B y1 y2 ?_;rw[p.sub c y k L];unfold i3 at l;cases m:gu c k with
 | true=>
   rw[m,if_pos rfl]at l;refine codeAny_handlers_suite ?_;refine qD (P:=X.prog) (w:=X.w) I.hok n λh' H' u ok b2 i=>?_;have I2:=I.un (t':=s.toks) (u.mono (λ_ z=>nomatch z) λ_ z=>z) ok;refine IJ (hb a h _ N H' D (vd I2 a) ⟨O,A,j,f,Q,T.calm i,U.mono i.ext,l,λC H1 x1 G=>Y C H1 (i.ext.trans x1) G⟩) (λn s2 q=>?_) λ_ _ z=>Iq z;exact Cw I.ok q
 | false=>
   rw[m,if_neg (by simp)]at l;exact hr h s N H D E a c v' O A j v f Q I n y T U rv l Y
end
structure XG(K:HE)(C:Addr):Prop where
 ga:findIn K (.ref C) "__getattribute__" = some (some (.builtin "BaseException.__getattribute__"))
 gt:findIn K (.ref C) "__getattr__" = some none
 hd:hasDictIn K C=true
 cl:findIn K (.ref C) "__class__" = some (some (.builtin "object.__class__"))
 cg:specialIn K (.builtin "object.__class__") "__get__" = some (some (.builtin "getset_descriptor.__get__"))
 ct:takesIn K (.builtin "object.__class__")=some true
 mo:mroIn K C (.type "object")=some true
structure CA(K:HE)(cm:Nat->Addr)(es:List Nat):Prop where
 xg:∀c∈es,XG K (cm c)
 kit:∀c∈es,∀k∈es,kitOne K (.ref (cm c)) (.ref (cm k))=some (gu c k)
 kitV:∀c∈es,kitOne K (.ref (cm c)) (.type "ValueError")=some true
def ve(X:Cx)(c:Nat->Addr)(st:Stmt)(d:SD):Prop:=
 ∀(a:List (Addr×Obj))(s:HF)(σ:L2.St)(H:Hp)(D:gh)(b:Addr->Hp->Prop),L2.Inv X a σ H s->fb X.K c b d D σ H->wpAny (model X.prog X.w) X.A (exec st X.env) (SP X a D) (ky X a σ b) s
section
variable{X:Cx}{cm:Nat->Addr}
theorem CB{e:Expr}{d:ED}{a:Pos}(h:lI X cm e d)(hs:swapsWith e none a.line X.env=pure false:=by rfl):ve X cm (.Expr e a) (P9 d):=by
 intro b s j H D q I ⟨r,A,g,u,n,o⟩;refine wpAny_Expr_any (IJ (h b s j H (λ_ i=>D.nx j i) q I ⟨r,A,g,u,n,?_⟩) (λv E ⟨x,i,w,G,y⟩=>⟨j,i,w,y⟩) λ_ _ z=>z) I.quiet hs;unfold P9 ap at o;rcases hs:d g A with⟨f,B⟩ | ⟨c,v,B⟩ | _<;>rw[hs]at o
 ·exact λl i J p m C=>o l i p m j (n.mono p)
 ·exact o
 ·exact o
theorem CC{es:List Nat}{st:Stmt}{h₀:MX}{hs:List MX}{L:Pos}{b:SD}{N:List Hd}(i:X.stack=X.env::X.outer/\X.env.frame=some X.env.locals)(hb:ve X cm st b)(hh:PH X cm es (h₀::hs) N) :
 PS X (.Try [st] (h₀::hs) [] [] L) (cu X.K cm (kY es b N)):=by
 intro d s O H D I ⟨Z,A,g,f,A',rl,rs,h,k⟩;refine wpAny_Try_except (Op (IJ (hb d s O H D (λa p=>∃c v e j r,aC Z H e p/\aV X.K cm e j p/\RV e p v r/\W6 .none p a (cm c) r/\c∈es/\i3 N c v g j=.ok f A') I ⟨Z,A,g,rl,rs,?_⟩) (λx l q=>?_) λh l zq=>?_))
 ·unfold kY at h;rcases Q:b g A with⟨f1,j⟩ | ⟨c,v,j⟩ | _<;>rw[Q]at h
  ·cases h;exact k
  ·obtain⟨T,h⟩:=C9 h;exact λm H' a r G n o x=>⟨c,v,m,j,r,G,n,o,x,T,h⟩
  ·cases h
 ·cases x with
  | next=>exact Li (Li q)
  | ret v=>exact q
  | brk=>exact q
  | cont=>exact q
 ·obtain⟨a,C,v0,p,h1,u,_,c,v,e,j,r,G,n,o,x,T,U⟩:=zq;subst h1;have y:=u.ok.frames;have hl:=u.stack;have B:=u.stkFree;rw[i.1]at y hl B;refine uY (P:=X.prog) (w:=X.w) (H:=p) y hl i.2 B u.hok x λh2 H2 u2 o2 f2 c2=>?_;have I2:L2.Inv X d O H2 { l with heap:=h2 }:=u.call (g':=l.gens) (t':=l.toks) (d':=l.drawn) (ch:=[]) (by rw[i.1];exact u2) o2 u.bare (λb z=>absurd z (by simp));refine qD (P:=X.prog) (w:=X.w) (s:={ l with heap:=h2 }) o2 f2 λh3 H3 u3 o3 f3 c3=>?_;have I3:=I2.un (t':=l.toks) (u3.mono (λ_ z=>nomatch z) λ_ z=>z) o3;have J:=c2.trans c3;exact hh d _ O H3 D X.xe a c r e j g v f A' I3 f3 T (n.calm J) ((rs.mono G).mono J.ext) (o.mono J.ext) U λm H' x' Y=>k m H' ((G.trans J.ext).trans x') Y
end
end Ws
namespace Ws
theorem vf{e:ED}:v9 (P9 e):=λb A v c h=>by
 obtain⟨x,B,d,a⟩:=B0 h;cases a
end Ws
namespace Ws
open PySem L2
theorem vg{i j:List Int}(h:i.map (Jq:Int->Key)=j.map Jq):i=j:=(List.map_inj_right λ_ _ z=>Ps z).mp h
section
variable{ρ:List Addr}{H:Hp}{K:HE}{A:PHp}{n:Nat}{v:V}
abbrev PT2(ρ:List Addr)(H:Hp)(m:List (List Int×PV))(kv:List (List Key×V)):Prop:=Pairs (Nz Jq:List Int->List Key) ρ H m kv
theorem PT2.len{m:List (List Int×PV)}{kv:List (List Key×V)}(h:PT2 ρ H m kv):m.length=kv.length:=by
 have:=congrArg List.length h.keys;simpa using this.symm
theorem PT2.val:∀{m:List (List Int×PV)}{kv:List (List Key×V)}(i:List Int),PT2 ρ H m kv->(M6 m i=none/\Z3 kv (i.map Jq)=none)\/∃x u,M6 m i=some x/\Z3 kv (i.map Jq)=some u/\RV ρ H x u
 | [],kv,i,h=>by obtain rfl:=h.nil_inv;exact .inl ⟨rfl,rfl⟩
 | p::r,kv,i,h=>by
   obtain⟨u,a,rfl,b,t⟩:=h.cons_inv;unfold M6;by_cases e:p.1=i
   ·rw[if_pos e,m3 (by rw[e])];exact .inr ⟨_,_,rfl,rfl,b⟩
   ·rw[if_neg e,m4 (λz=>e (vg z))];exact PT2.val i t
theorem PT2.some_eq{m:List (List Int×PV)}{kv:List (List Key×V)}(i:List Int)(h:PT2 ρ H m kv):(Z3 kv (i.map Jq)).isSome=(M6 m i).isSome:=by
 rcases PT2.val i h with⟨a,b⟩ | ⟨x,u,a,b,_⟩<;>rw[a,b]<;>rfl
theorem vh(i:List Int):∀m:List (List Int×PV),(m.any λp=>decide (p.1=i))=(M6 m i).isSome
 | []=>rfl
 | p::r=>by
   unfold M6;rw[KC];by_cases e:p.1=i
   ·rw[if_pos e,decide_eq_true e];rfl
   ·rw[if_neg e,decide_eq_false e,Od];exact vh i r
theorem PT2.repl{x:PV}{u:V}(a:RV ρ H x u)(i:List Int):∀{m:List (List Int×PV)}{kv:List (List Key×V)},PT2 ρ H m kv->PT2 ρ H (m.map λp=>if p.1=i then(p.1,x) else p) (kv.map λp=>if p.1=(i.map Jq) then(p.1,u) else p)
 | [],kv,h=>by obtain rfl:=h.nil_inv;exact⟨rfl,.nil⟩
 | p::r,kv,h=>by
   obtain⟨w,b,rfl,c,t⟩:=h.cons_inv;have ih:=PT2.repl a i t;rw[Ic,Ic];by_cases e:p.1=i
   ·rw[if_pos e,if_pos (by rw[e])];exact Pairs.cons' (p:=(p.1,x)) a ih
   ·rw[if_neg e,if_neg (λz=>e (vg z))];exact Pairs.cons' c ih
theorem PT2.snoc{x:PV}{u:V}(a:RV ρ H x u)(i:List Int):∀{m:List (List Int×PV)}{kv:List (List Key×V)},PT2 ρ H m kv->PT2 ρ H (m++[(i,x)]) (kv++[(i.map Jq,u)])
 | [],kv,h=>by obtain rfl:=h.nil_inv;exact Pairs.cons' (p:=(i,x)) a ⟨rfl,.nil⟩
 | p::r,kv,h=>by
   obtain⟨w,b,rfl,c,t⟩:=h.cons_inv;exact Pairs.cons' c (PT2.snoc a i t)
theorem PT2.put{x:PV}{u:V}(b:RV ρ H x u)(i:List Int){m:List (List Int×PV)}{kv:List (List Key×V)}(h:PT2 ρ H m kv):PT2 ρ H (Z4 m i x) (S5 kv (i.map Jq) u):=by
 unfold Z4 S5;have e:(kv.any λp=>decide (p.1=(i.map Jq)))=(m.any λp=>decide (p.1=i)):=by
  rw[vh,mW];exact h.some_eq i
 rw[e];by_cases a:(m.any λp=>decide (p.1=i))=true
 ·rw[if_pos a,if_pos a];exact h.repl b i
 ·rw[if_neg a,if_neg a];exact h.snoc b i
theorem P5{e:Nat->Addr}{m:List (List Int×PV)}{A':PHp}(f:aV K e ρ A H)(r:RV ρ H (.ref n) v)(h:T4 n A=.ok m A'):A'=A/\A[n]?=some (.dT m)/\∃a c,v=.ref a/\ρ[n]?=some a/\H a=some (.dT c)/\PT2 ρ H m c:=by
 cases r with
 | ref d=>
   unfold T4 at h;rcases b:A[n]? with _ | o
   ·rw[b]at h;cases h
   ·have q:=f.obj n o _ b d;cases o with
    | dT m=>rw[b]at h;cases h;obtain⟨g,i,j⟩:=q;exact⟨rfl,rfl,_,g,rfl,d,i,j⟩
    | _=>rw[b]at h;cases h
end
theorem Y1{d:List Addr}{H:Hp}{a:PV}{j:List Int}{v:V}(h:Q1 a=some j)(r:RV d H a v):∃b,v=.ref b/\H b=some (.tup ((j.map Jq).map L2.kV)):=by
 cases a with
 | tup l=>
   have h:N1 l=some j:=h;cases r with
   | tup e c=>
     rw[T9 h]at c;have:=nO c;refine⟨_,rfl,?_⟩;rw[e,this];congr 2;simp[L2.kV]
 | _=>cases h
section
variable{X:Cx}{cm:Nat->Addr}
theorem vi{y d:ED}{σ:L2.St}{H:Hp}{Q:VK}(h:aB X.K cm (jw y d) σ H Q):tj (aB X.K cm y) (aB X.K cm d) σ H Q:=by
 obtain⟨D,A,e,v,Z,E,u,G,k⟩:=h;obtain⟨w,z,I,i⟩:=B0 G;obtain⟨x,J,L,c⟩:=B0 i;refine⟨D,A,e,w,z,E,u,I,λl H1 v1 B o p=>⟨l,z,e,x,J,o,u.mono B,L,λq N v2 C f r=>?_⟩⟩;rcases g:Q1 w with _ | j<;>rw[g]at c
 ·cases c
 cases x with
 | ref n=>
   obtain⟨m,A3,O,s⟩:=B0 c;obtain⟨rfl,hA,a,kv,rfl,hn,T,U⟩:=P5 f r O;cases s;obtain⟨b,rfl,Y⟩:=Y1 g (p.mono C);refine⟨a,_,rfl,bT.t T Y,?_⟩;rw[U.some_eq j];exact k q N _ (B.trans C) f (.bl _)
 | _=>cases c
theorem vj{i o:Expr}{y d:ED}{a:Pos}(b:X.A.units+1<cLine)(c:PE X i (aB X.K cm y))(e:PE X o (aB X.K cm d))(f:behindInMarks .In o=false:=by rfl):PE X (.Compare i [.In] [o] a) (aB X.K cm (jw y d)):=
 E7 (si (tp b c e) f) λg H Q h=>vi h
theorem CD{i o:Expr}{y d:ED}{a:Pos}(b:X.A.units+1<cLine)(c:PE X i (aB X.K cm y))(e:PE X o (aB X.K cm d))(f:behindInMarks .In o=false:=by rfl):PT X (.Compare i [.In] [o] a) (cQ X.K cm (E6 (jw y d))):=
 kq (oF (tp b c e) f) λg H Q h=>lh (λ_ _ _=>vi (X:=X)) h
theorem vk{o i g:Expr}{d y e:ED}{s p:Pos}(hu:X.A.units+1<cLine)(ho:PE X o (aB X.K cm d))(hi:PE X i (aB X.K cm y))(hv:PE X g (aB X.K cm e))(hs:swapsWith g (some (.Subscript o i p)) s.line X.env=pure false:=by rfl) :
 PS X (.Assign [.Subscript o i p] g s) (cu X.K cm (kZ d y e)):=
 S9 (tq hu ho hi hv hs) λD σ H hq=>by
  obtain⟨ρ,A,q,f,A',rl,v,ev,k⟩:=hq;obtain⟨w,A1,e1,G⟩:=B0 ev;obtain⟨x,A2,e2,I⟩:=B0 G;obtain⟨kx,A3,e3,h⟩:=B0 I;refine⟨ρ,A,q,w,A1,rl,v,e1,λJ H1 v1 z L N=>⟨J,A1,q,x,A2,L,v.mono z,e2,λO H2 v2 B Q T=>⟨O,A2,q,kx,A3,Q,(v.mono z).mono B,e3,λl U v3 C r Y=>?_⟩⟩⟩;rcases u:Q1 kx with _ | j<;>rw[u]at h
  ·cases x<;>cases h
  cases x with
  | ref n=>
    obtain⟨m,A4,e4,Z⟩:=B0 h;obtain⟨rfl,hA,a,kv,rfl,hn,hH,hp⟩:=P5 r (T.mono C) e4;obtain⟨c,a0⟩:=C9 Z;cases a0;obtain⟨b,rfl,hb⟩:=Y1 u Y;refine⟨a,_,rfl,ez.t hH hb (by rw[←hp.len];exact ks c),?_⟩;have E:aC l U l (aF U a (.dT (S5 kv (j.map Jq) v1))):=aC.put r hn hA rfl;have a1:aV X.K cm l (A4.set n (.dT (Z4 m j w))) (aF U a (.dT (S5 kv (j.map Jq) v1))):=
     r.put hn hA rfl rfl ⟨_,C8,PT2.put ((((N.mono B).mono C)).mono E) j (hp.mono E)⟩
    exact k l _ (((z.trans B).trans C).trans E) a1 σ ((((v.mono z).mono B).mono C).mono E)
  | _=>cases h
theorem nX{o i:Expr}{d y:ED}{l:Pos}(N:X.A.units+1<cLine)(O:PE X o (aB X.K cm d))(T:PE X i (aB X.K cm y))(hs:mY i):PE X (.Subscript o i l) (aB X.K cm (kl d y)):=
 E7 (tm N O T hs) λσ H Q U=>by
  obtain⟨Y,A,f,v,A',Z,D,ev,k⟩:=U;obtain⟨x,E,e1,p⟩:=B0 ev;obtain⟨G,A2,e2,c⟩:=B0 p;refine⟨Y,A,f,x,E,Z,D,e1,λq H1 v1 I r s=>⟨q,E,f,G,A2,r,D.mono I,e2,λw H2 v2 J g B=>?_⟩⟩;rcases h:Q1 G with _ | j<;>rw[h]at c
  ·cases x<;>cases c
  cases x with
  | ref n=>
    obtain⟨m,A3,e3,e⟩:=B0 c;obtain⟨rfl,hA,a,kv,rfl,hn,hH,hp⟩:=P5 g (s.mono J) e3;obtain⟨b,rfl,hb⟩:=Y1 h B;rcases hp.val j with⟨C,L⟩ | ⟨z,u,C,L,ru⟩
    ·rw[C]at e;cases e
    ·rw[C]at e;cases e;exact⟨a,u,rfl,by rw[←L];exact bT.t hH hb,k w H2 _ (I.trans J) g ru⟩
  | _=>cases c
theorem nY{a:Pos}:PE X (.Dict [] [] a) (aB X.K cm km):=
 E7 Ae λh H Q ⟨b,A,e,v,i,c,j,f,k⟩ p d=>by
  cases f;have g:aC b H (b++[p]) (aF H p (.dT [])):=aC.new d;exact k (b++[p]) _ _ g (c.alloc d ⟨_,C8,⟨rfl,.nil⟩⟩ rfl) (.ref (by rw[←c.len];simp))
theorem CF{o e:Expr}{d y:ED}{c f:Pos}(Y:X.A.units+1<cLine)(Z:PE X o (aB X.K cm d))(he:PE X e (aB X.K cm y))(m:M1 X o "get" c e f:=by exact⟨rfl,rfl,rfl,rfl⟩):PE X (.Call (.Attribute o "get" c) [e] [] f) (aB X.K cm (pE d y)):=
 E7 (Aj Y Z he m) λσ H Q hq=>by
  obtain⟨ρ,A,i,v,A',rl,O,ev,k⟩:=hq;obtain⟨x,A1,e1,l⟩:=B0 ev;refine⟨ρ,A,i,x,A1,rl,O,e1,λz H1 v1 B p r=>?_⟩;cases x with
  | ref n=>
    obtain⟨m0,A2,e2,C⟩:=B0 l;obtain⟨rfl,hA,a,kv,rfl,hn,hH,hp⟩:=P5 p r e2;refine⟨a,rfl,.inr ⟨kv,.inl hH⟩,?_⟩;obtain⟨T,A3,e3,g⟩:=B0 C;refine⟨z,_,i,T,A3,p,O.mono B,e3,λs U v2 D h E=>?_⟩;rcases w:Q1 T with _ | j<;>rw[w]at g
    ·cases g
    obtain⟨m1,A5,e5,G⟩:=B0 g;obtain⟨rfl,b3,a2,b5,e6,c1,I,J⟩:=P5 h (r.mono D) e5;cases e6;cases G;obtain⟨b,rfl,hb⟩:=Y1 w E;refine⟨_,bT.t I hb,?_⟩;rcases J.val j with⟨L,N⟩ | ⟨q,u,L,N,ru⟩
    ·rw[L]at k;rw[N];exact k s U _ (B.trans D) h .non
    ·rw[L]at k;rw[N];exact k s U _ (B.trans D) h ru
  | _=>cases l
theorem CG{o e f:Expr}{d y z:ED}{c g:Pos}(hu:X.A.units+1<cLine)(ho:PE X o (aB X.K cm d))(he:PE X e (aB X.K cm y))(hf:PE X f (aB X.K cm z))(m:M2 X o "get" c e f g:=by exact⟨rfl,rfl,rfl,rfl⟩):PE X (.Call (.Attribute o "get" c) [e,f] [] g) (aB X.K cm (pF d y z)):=
 E7 (Ak hu ho he hf m) λσ H Q hq=>by
  obtain⟨ρ,A,h,v,A',rl,I,ev,k⟩:=hq;obtain⟨x,A1,e1,p⟩:=B0 ev;refine⟨ρ,A,h,x,A1,rl,I,e1,λJ H1 v1 D r s=>?_⟩;cases x with
  | ref n=>
    obtain⟨m0,A2,e2,L⟩:=B0 p;obtain⟨rfl,hA,a,kv,rfl,hn,hH,hp⟩:=P5 r s e2;refine⟨a,rfl,.inr ⟨kv,.inl hH⟩,?_⟩;obtain⟨kx,A3,e3,N⟩:=B0 L;obtain⟨w,A4,e4,i⟩:=B0 N;refine⟨J,_,h,kx,A3,r,I.mono D,e3,λO H2 v2 E T U=>⟨O,A3,h,w,A4,T,(I.mono D).mono E,e4,λB H3 v3 G l Y=>?_⟩⟩;rcases C:Q1 kx with _ | j<;>rw[C]at i
    ·cases i
    obtain⟨m1,A5,e5,Z⟩:=B0 i;obtain⟨rfl,e8,a2,e9,e6,f1,a0,a1⟩:=P5 l ((s.mono E).mono G) e5;cases e6;cases Z;obtain⟨b,rfl,hb⟩:=Y1 C (U.mono G);refine⟨_,bT.t a0 hb,?_⟩;rcases a1.val j with⟨h1,h2⟩ | ⟨q,u,h1,h2,ru⟩
    ·rw[h1]at k;rw[h2];exact k B H3 _ ((D.trans E).trans G) l Y
    ·rw[h1]at k;rw[h2];exact k B H3 _ ((D.trans E).trans G) l ru
  | _=>cases p
end
end Ws
namespace Ws
open PySem PySem.W PyProof.Rows
noncomputable def CH(x:Int)(n:Nat)(hs:List Int)(t:PU):PU:=
 match t.freeSlot x with
 | some (slot,_)=>
   if(t.put slot).1.tooFull then(match (t.put slot).1.relaid hs.toArray (Pj n)with
    | some (a,_)=>a
    | none=>(t.put slot).1)
   else(t.put slot).1
 | none=>t
noncomputable def J9(led:Bool)(ns:List Int):PU:=(Iw ns.length).foldl (λt i=>CH (ns.getD i 0) (i+1) (ns.take (i+1)) t) (.fresh 0 0 led)
noncomputable def kC(led:Bool)(ns:List Int):Bool:=
 (J9 led ns).fits ns.length&&(J9 led ns).led == led&&(J9 led ns).plain&&La (J9 led ns).place 0 == 0&&(Iw ns.length).all (λi=>La (J9 led ns).place ((J9 led ns).place.getD i 0+1) == i+1)
abbrev sixes:List (List Int):=pz [0,1,2,3,4,5]
theorem CI:sixes.all (λns=>(Iw (ns.length+1)).all λi=>kC true (ns.take i)&&kC false (ns.take i))=true:=by decide +kernel
theorem CJ:sixes.all (λns=>ns.all (λx=>decide (hashInt x=x))&&decide (ns.length<=6)&&decide (ns.Pairwise (·< ·)))=true:=by decide +kernel
theorem qG{ns:List Int}(h:ns∈sixes){i:Nat}(a:i<=ns.length)(led:Bool):kC led (ns.take i)=true:=by
 have:=Ik.mp (Ik.mp CI ns h) i (JD.mpr (by omega));rw[HZ]at this;cases led
 ·exact this.2
 ·exact this.1
end Ws
namespace Ws
open PySem PySem.W PyProof.Rows PySem.Spec
noncomputable def W9(es:Array (Int×HD))(ep:Nat)(t:PU):Obj:={ cls:=.type "set",dict:=none,data:=.set es ep t }
structure bt(es:Array (Int×HD))(ns:List Int):Prop where
 hs:es.toList.map (·.1)=ns
 vs:Ko (es.toList.map (·.2)) ns
theorem bt.size{es:Array (Int×HD)}{ns:List Int}(h:bt es ns):es.size=ns.length:=by
 have:=congrArg List.length h.hs;simpa using this
theorem bt.ent{es:Array (Int×HD)}{ns:List Int}(h:bt es ns){e:Int×HD}(he:e∈es.toList):e.1∈ns/\∃t,e.2=.int e.1 t:=by
 obtain⟨i,a,rfl⟩:=Pz he;have b:ns[i]?=some es.toList[i].1:=by rw[←h.hs,Ij,HX a];rfl
 obtain⟨t,c⟩:=Ph h.vs i es.toList[i].2 (by rw[Ij,HX a];rfl);refine⟨Io b,t,?_⟩;rw[c,IV,b];rfl
section
variable{prog:Ib}{w:IW}{A:IN}{E:HD->HF->Prop}{s:HF}
theorem bt.elems{es:Array (Int×HD)}{ns:List Int}(h:bt es ns)(b:∀x∈ns,hashInt x=x):ElemsOf (intKind prog w) es.toList:=by
 intro e c;obtain⟨d,t,a⟩:=h.ent c;exact⟨⟨e.1,by rw[a];exact OV _ _ _ _,(b _ d).symm⟩,by rw[a];rfl⟩
theorem nZ{ns:List Int}(h:ns∈sixes):(∀x∈ns,hashInt x=x)/\ns.length<=6/\ns.Pairwise (·< ·):=by
 have:=Ik.mp CJ ns h;simp only[HZ,decide_eq_true_eq,Ik]at this;exact⟨this.1.1,this.1.2,this.2⟩
theorem CK{es:Array (Int×HD)}(h:es.size=5):(#[0,1,2,3,4]:Array Nat).filterMap (es[·]?)=es:=by
 obtain⟨l⟩:=es;rcases l with _ | ⟨a,_ | ⟨b,_ | ⟨c,_ | ⟨d,_ | ⟨e,_ | ⟨f,l⟩⟩⟩⟩⟩⟩
 iterate 5 (exact absurd h (by simp))
 ·rfl
 ·exact absurd h (by simp)
end
section
variable{prog:Ib}{w:IW}{A:IN}{R:PL->HF->Prop}{E:HD->HF->Prop}{s:HF}
theorem CL(a:HD){Q₁:HD->HF->Prop}
 (h:Q₁ (.ref s.heap.objs.size) { s with heap:=s.heap.push (W9 #[] 0 (.fresh 0 0 (!w.params.followText "set-order"))) }) :
 codeAny (model prog w) A (.call (.builtin "set.__new__") ⟨[.type "set",a],[]⟩) (wants Q₁ E) s:=by
 refine Nm ?_;show wpAny _ A.in1 (do checkBuiltinCall "set.__new__" ⟨[.type "set",a],[]⟩;again (.builtin "set.__new__" ⟨[.type "set",a],[]⟩)) _ _ s;refine Hz (Pw (PySem.F.newCall_set_1 a) (HB ⟨Lw F.plain_set_new _,Kg F.entry_set_new ?_⟩));rw[JT F.plain_set_new _];unfold Ji.«set.__new__» Ji.Frozenset.newClass;have c:=sub_set_self;obtain⟨e,g,d,f,os⟩:=s;dsimp only
 wp_walk
 refine LP (HB ?_);dsimp only;simp only[newObj];refine Hz (wpAny_alloc (HB ?_));exact HB h
end
end Ws
namespace Ws
open PySem PySem.W PyProof.Rows PySem.Spec PySem.Calls
theorem vl{b:Type}:∀{l:List b}{j:Nat}(h:j<l.length),(l[j]::l.eraseIdx j).Perm l
 | a::l,0,h=>Pk _
 | a::l,j+1,h=>(QA.swap _ _ _).trans ((vl (l:=l) (j:=j) (by simpa using h)).cons a)
theorem vm{b:Type}(next:Nat->Nat):∀(n k:Nat)(left:List b)(out:Array b),left.length=n->(Qg next n k left out).toList.Perm (out.toList++left)
 | 0,k,left,out,h=>by
   obtain rfl:=List.eq_nil_of_length_eq_zero h;unfold Qg;simp
 | n+1,k,left,out,h=>by
   have a:next k%left.length<left.length:=Nat.mod_lt _ (by omega)
   unfold Qg;rw[HX a];dsimp only;refine(vm next n (k+1) _ _ (by rw[List.length_eraseIdx_of_lt a];omega)).trans ?_;rw[Array.toList_push,NS];exact QA.append_left _ (vl a)
theorem CM{a:Type}(next:Nat->Nat)(xs:Array a):(pickOrder next xs).toList.Perm xs.toList:=by
 have:=vm next xs.size 0 xs.toList #[] (by simp)
 simpa[pickOrder]using this
theorem si_slot_next:Slot "set_iterator" "__next__" "set_iterator.__next__":=
 .of (owner:="set_iterator") (n:="__next__") (by rw[OQ,MH];kernel_rfl) (by decide +kernel) (by decide +kernel) (by decide +kernel)
  (by first | exact .inl (by decide +kernel) | exact .inr (by decide +kernel)) (by rw[Pl];kernel_rfl)
theorem vn:Slot "set_iterator" "__iter__" "set_iterator.__iter__":=
 .of (owner:="set_iterator") (n:="__iter__") (by rw[OQ,MH];kernel_rfl) (by decide +kernel) (by decide +kernel) (by decide +kernel)
  (by first | exact .inl (by decide +kernel) | exact .inr (by decide +kernel)) (by rw[Pl];kernel_rfl)
theorem w9:entryFor table "set_iterator.__next__" = some Ji.«set_iterator.__next__»:=entryFor_of_tree (by kernel_rfl)
theorem CN:entryFor table "set_iterator.__iter__" = some Ji.«dict_keyiterator.__iter__»:=
 entryFor_alias (id':="dict_keyiterator.__iter__") (by kernel_rfl) rfl (by decide +kernel) (by kernel_rfl)
theorem CO:entryFor table "set.__iter__" = some Ji.«frozenset.__iter__»:=
 entryFor_alias (id':="frozenset.__iter__") (by kernel_rfl) rfl (by decide +kernel) (by kernel_rfl)
theorem vo:Manifest.owners.lookup (String.ofList ['r','o','t','a','r','e','t','i','_','t','e','s'].reverse)=some Manifest.sig_set_iterator:=by kernel_rfl
theorem vp(a:HD):argsOk "set_iterator.__next__" ⟨[a],[]⟩:=by
 unfold argsOk;rw[signature?_of (id:="set_iterator.__next__") (n:=['_','_','t','x','e','n','_','_']) (o:=['r','o','t','a','r','e','t','i','_','t','e','s']) (by kernel_rfl) vo];kernel_rfl
theorem CP(a:HD):argsOk "set_iterator.__iter__" ⟨[a],[]⟩:=by
 unfold argsOk;rw[signature?_of (id:="set_iterator.__iter__") (n:=['_','_','r','e','t','i','_','_']) (o:=['r','o','t','a','r','e','t','i','_','t','e','s']) (by kernel_rfl) vo];kernel_rfl
noncomputable def fc(led:Bool)(ns:List Int):Nat->Nat
 | 0=>0
 | i+1=>if led then(J9 led ns).place.getD i 0+1 else 0
def dE(h:Heap)(a S:Addr)(led:Bool)(ns:List Int)(ep i:Nat):Prop:=
 ∃o,h.get? a=some o/\o.cls=.type "set_iterator"/\o.data=.fields #[.int (fc led ns i) 0,.int i 0,.ref S,.int ns.length 0,.int ep 0]
theorem dE.typeIs{s:HF}{a S:Addr}{led:Bool}{ns:List Int}{ep i:Nat}(x:dE s.heap a S led ns ep i):s.TypeIs (.ref a) "set_iterator":=
 let⟨o,b,c,_⟩:=x;⟨o,b,c⟩
theorem dE.at{h h':Heap}{a S:Addr}{led:Bool}{ns:List Int}{ep i:Nat}(x:dE h a S led ns ep i)(e:∀o,h.get? a=some o->h'.get? a=some o):dE h' a S led ns ep i:=
 let⟨o,b,r⟩:=x;⟨o,e _ b,r⟩
noncomputable def d4(w:IW)(S:Addr)(ep:Nat)(es:Array (Int×HD)):List HD:=
 if w.params.followText "set-order" then(pickOrder (w.params.setOrder S ep) es).toList.map (·.2) else es.toList.map (·.2)
theorem vq(w:IW)(S:Addr)(ep:Nat)(es:Array (Int×HD)):(d4 w S ep es).Perm (es.toList.map (·.2)):=by
 unfold d4;split
 ·exact(CM _ _).map _
 ·exact Pk _
theorem qH{w:IW}{S:Addr}{ep:Nat}{es:Array (Int×HD)}{ns:List Int}(he:bt es ns):(d4 w S ep es).length=ns.length:=by
 rw[(vq w S ep es).length_eq,HC,Js,he.size]
structure gz(b:Bool)(ns:List Int):Prop where
 fits:(J9 b ns).fits ns.length=true
 led:(J9 b ns).led=b
 plain:(J9 b ns).plain=true
 zero:La (J9 b ns).place 0=0
 next:∀i<ns.length,La (J9 b ns).place ((J9 b ns).place.getD i 0+1)=i+1
theorem oa{ns:List Int}(h:ns∈sixes)(led:Bool):gz led ns:=by
 have:=qG h (HG _) led;rw[Jc]at this;unfold kC at this;simp only[HZ,beq_iff_eq,Ik,JD]at this;exact⟨this.1.1.1.1,this.1.1.1.2,this.1.1.2,this.1.2,λi a=>this.2 i a⟩
theorem gz.psize{led:Bool}{ns:List Int}(h:gz led ns):(J9 led ns).place.size=ns.length:=by
 have:=h.fits;simp only[PU.fits,HZ,beq_iff_eq,decide_eq_true_eq]at this;exact this.1
section
variable{prog:Ib}{w:IW}{A:IN}{E:HD->HF->Prop}{s:HF}
theorem vr{S:Addr}{es:Array (Int×HD)}{ep i:Nat}{ns:List Int}{Q:Option (HD×Nat)->HF->Prop}(m:ns∈sixes)(q:i<=ns.length)
 (d:s.heap.get? S=some (W9 es ep (J9 (!w.params.followText "set-order") ns))) (he:bt es ns)
 (h:Q (((d4 w S ep es)[i]?).map λv=>(v,fc (!w.params.followText "set-order") ns (i+1))) s) :
 wpAny (model prog w) A (setNext S (fc (!w.params.followText "set-order") ns i) i ep) Q E s:=by
 have T:=oa m (!w.params.followText "set-order");have e:(J9 (!w.params.followText "set-order") ns).fits es.size=true:=by rw[he.size];exact T.fits
 unfold setNext;refine Hz (Lx d rfl e ?_);dsimp only;unfold setsByText;refine Hz (Hz (LP (HB ?_)));show wpAny _ _ (if w.params.followText "set-order" = true then _ else _) _ _ s;cases a:w.params.followText "set-order" with
 | true=>
   rw[if_pos rfl,if_neg (by simp)];refine Hz ?_;unfold setWalk setsByText;refine Hz (Lx d rfl e ?_);dsimp only;refine Hz (Hz (LP (HB ?_)));show wpAny _ _ (if w.params.followText "set-order" = true then _ else _) _ _ s;rw[if_pos a];refine Hz (LP (HB ?_));refine HB ?_;have f:d4 w S ep es=(pickOrder (w.params.setOrder S ep) es).toList.map (·.2):=by unfold d4;rw[if_pos a]
   have n:fc (!w.params.followText "set-order") ns (i+1)=fc (!w.params.followText "set-order") ns i:=by
    rw[a];cases i<;>rfl
   rw[f,n,a,Ij,Jv,Option.map_map]at h;exact h
 | false=>
   simp only[a,Po]at T d e h ⊢;rw[if_neg (by simp)];have f:d4 w S ep es=es.toList.map (·.2):=by unfold d4;rw[if_neg (by simp[a])]
   show wpAny _ _ (if(!(J9 true ns).plain&&decide (es.size > 1))=true then _ else _) _ _ s;rw[if_neg (by rw[T.plain];simp)];show wpAny _ _ ((if(!(J9 true ns).led&&!es.isEmpty)=true then _ else _)>>=_) _ _ s;rw[if_neg (by rw[T.led];simp)];refine Hz (HB ?_);refine HB ?_;have o:La (J9 true ns).place (fc true ns i)=i:=by
    cases i with
    | zero=>exact T.zero
    | succ j=>exact T.next j (by omega)
   show Q (match es[La (J9 true ns).place (fc true ns i)]?,(J9 true ns).place[La (J9 true ns).place (fc true ns i)]? with
    | some (_,x),some j=>some (x,j+1)
    | _,_=>none) s
   rw[o];rw[f,Ij,Jv]at h;by_cases b:i<ns.length
   ·have c:i<es.size:=by rw[he.size];exact b
    have g:i<(J9 true ns).place.size:=by rw[T.psize];exact b
    have p:fc true ns (i+1)=(J9 true ns).place[i]+1:=by
     show(if true=true then(J9 true ns).place.getD i 0+1 else 0)=_;rw[if_pos rfl];simp[Array.getD,g]
    rw[Kd c,Kd g];rw[Kd c]at h;dsimp only;have l:Q (some (es[i].2,fc true ns (i+1))) s:=h;rw[p]at l;exact l
   ·have c:es[i]?=none:=JC (by rw[he.size];omega);rw[c]at h ⊢;exact h
theorem CQ{S:Addr}{es:Array (Int×HD)}{ep:Nat}{ns:List Int}{Q:HD->HF->Prop}(f:ns∈sixes)
 (a:s.heap.get? S=some (W9 es ep (J9 (!w.params.followText "set-order") ns))) (he:bt es ns)
 (g:Q (.ref s.heap.objs.size) { s with heap:=s.heap.push { cls:=.type "set_iterator",data:=.fields #[.int 0 0,.int 0 0,.ref S,.int ns.length 0,.int ep 0] } }) :
 wpAny (model prog w) A (pyIter (.ref S)) Q E s:=by
 have T:=oa f (!w.params.followText "set-order");have b:(J9 (!w.params.followText "set-order") ns).fits es.size=true:=by rw[he.size];exact T.fits
 have e:s.TypeIs (.ref S) "set":=⟨_,a,rfl⟩;refine Mv e F.slot_set_iter (II F.slot_set_iter e CO ?_ (F.args_set_iter_1 _));unfold Ji.«frozenset.__iter__» Ji.Frozenset.slot0 slotArgs;simp only[List.isEmpty_nil,Bool.not_true,IB,↓reduceIte,bind_assoc,Jm,bne_self_eq_false];unfold Ji.Frozenset.addrOf Ji.Frozenset.sizeOf;refine Hz (HB ?_)
 try dsimp only
 refine Hz (HB ?_);refine Hz (Hz (Nn a rfl b (HB ?_)));unfold setDrawn setsByText;refine Hz (Hz (Lx a rfl b ?_));dsimp only;refine Hz (Hz (LP (HB ?_)));refine HB ?_;show wpAny _ _ (if(!w.params.followText "set-order"&&(!(J9 (!w.params.followText "set-order") ns).plain&&decide (es.size > 1)))=true then _ else _) _ _ s;rw[if_neg (by rw[T.plain];simp)];refine Hz (HB ?_);refine Hz (wpAny_setEpoch_of a rfl b ?_);refine Hz (Ja (HB ⟨_,rfl,"set_iterator",_,⟨_,HI _ rfl,rfl⟩,si_slot_next.lookup,?_⟩));simpa[rawInt,he.size]using g
theorem CS{a S:Addr}{es:Array (Int×HD)}{ep i:Nat}{ns:List Int}{v:HD}{Q:Option HD->HF->Prop}(h:ns∈sixes)(m:S≠a)
 (j:s.heap.get? S=some (W9 es ep (J9 (!w.params.followText "set-order") ns))) (he:bt es ns) (b:dE s.heap a S (!w.params.followText "set-order") ns ep i) (n:i<ns.length) (p:(d4 w S ep es)[i]?=some v)
 (q:∀f,dE f a S (!w.params.followText "set-order") ns ep (i+1)->Jr a s.heap f->Q (some v) { s with heap:=f }) :
 wpAny (model prog w) A (pyNext (.ref a)) Q E s:=by
 obtain⟨o,g,r,e⟩:=id b;have T:=oa h (!w.params.followText "set-order");have u:(J9 (!w.params.followText "set-order") ns).fits es.size=true:=by rw[he.size];exact T.fits
 unfold pyNext;refine Hz (Mi (Jd (name:=KR "__next__") b.typeIs si_slot_next
  (II si_slot_next b.typeIs w9 ?_ (vp _))))
 unfold Ji.«set_iterator.__next__»;refine Hz (HB ?_);refine Hz (NF g e ?_);show wpAny _ _ (setEntries S>>=_) _ _ s;refine Hz (Nn j rfl u ?_);rw[if_neg (by rw[he.size];simp)];show wpAny _ _ (setNext S (fc (!w.params.followText "set-order") ns i) i ep>>=_) _ _ s;refine Hz (vr h (MA n) j he ?_);rw[p];show wpAny _ _ (setField (.ref a) 0 (rawInt (fc (!w.params.followText "set-order") ns (i+1)))>>=_) _ _ s;refine Hz (Kc g e (by simp) ?_);have d:=IM (Jz (·.setIfInBounds 0 (rawInt (fc (!w.params.followText "set-order") ns (i+1))))) g (JM (IQ e _));have c:=IQ e (·.setIfInBounds 0 (rawInt (fc (!w.params.followText "set-order") ns (i+1))));show wpAny _ _ (setField (.ref a) 1 (rawInt ((i:Int)+1))>>=_) _ _ _;refine Hz (Kc d c (by simp) ?_);refine HB ⟨_,rfl,HB (q _ ?_ ((IH ..).trans (IH ..)))⟩;exact⟨_,IM _ d (JM (IQ c _)),(Ls ..).trans ((Ls ..).trans r),by rw[IQ c];simp[rawInt]⟩
theorem CT{d S:Addr}{es:Array (Int×HD)}{ep:Nat}{ns:List Int}{Q:Option HD->HF->Prop}(e:ns∈sixes)(l:A.handled=none)
 (f:s.heap.get? S=some (W9 es ep (J9 (!w.params.followText "set-order") ns))) (he:bt es ns) (c:dE s.heap d S (!w.params.followText "set-order") ns ep ns.length)
 (n:∀g,Pu d s.heap g->Q none { s with heap:=g }) :
 wpAny (model prog w) A (pyNext (.ref d)) Q E s:=by
 obtain⟨o,i,q,j⟩:=id c;have T:=oa e (!w.params.followText "set-order");have p:(J9 (!w.params.followText "set-order") ns).fits es.size=true:=by rw[he.size];exact T.fits
 unfold pyNext;refine Hz (Mi (Jd (name:=KR "__next__") c.typeIs si_slot_next
  (II si_slot_next c.typeIs w9 ?_ (vp _))))
 unfold Ji.«set_iterator.__next__»;refine Hz (HB ?_);refine Hz (NF i j ?_);show wpAny _ _ (setEntries S>>=_) _ _ s;refine Hz (Nn f rfl p ?_);rw[if_neg (by rw[he.size];simp)];show wpAny _ _ (setNext S (fc (!w.params.followText "set-order") ns ns.length) ns.length ep>>=_) _ _ s;refine Hz (vr e (HG _) f he ?_);rw[IZ (by rw[qH he];exact HG _)];show wpAny _ _ (setField (.ref d) 2 .none>>=_) _ _ s;refine Hz (Kc i j (by simp) ?_);show wpAny _ _ (newExc (.type "StopIteration") []>>=_) _ _ _;refine Hz ?_;simp only[newExc,newTuple];refine Hz (Ja ?_ (by size_fits));refine Hz (m:=firstArgMember _ _) (Pw (a:=Iu) (by first | rfl | (simp only[firstArgMember];rfl)) ?_);refine Ja ?_ (by size_fits);simp only[raiseNew];refine Hz (PR ?_);rw[show A.in1.handled=none from l];refine Hz (HB (Qs ?_));refine Hz (LO (T:="StopIteration") (b:=true) ⟨_,HI _ rfl,rfl⟩ Pg ?_);exact HB (n _ (((IH ..).extBut.push _).push _))
theorem CU{b S:Addr}{led:Bool}{ns:List Int}{ep i:Nat}{Q:HD->HF->Prop}(a:dE s.heap b S led ns ep i)(h:Q (.ref b) s):wpAny (model prog w) A (pyIter (.ref b)) Q E s:=by
 refine Mv a.typeIs vn (II vn a.typeIs CN ?_ (CP _));show wpAny _ _ (PySem.ret (.ref b)) _ _ s;exact HB ⟨_,rfl,"set_iterator",_,a.typeIs,si_slot_next.lookup,h⟩
theorem CV(hh:A.handled=none)(I S:Addr)(hne:S≠I){es:Array (Int×HD)}{ep:Nat}{ns:List Int}(hn:ns∈sixes)(he:bt es ns) :
 Qz prog w A I [I,S] [I] ns.length (λi v=>(d4 w S ep es)[i]?=some v) (λi h=>dE h I S (!w.params.followText "set-order") ns ep i/\h.get? S=some (W9 es ep (J9 (!w.params.followText "set-order") ns))) where
 sub:=λb hb=>by simp at hb;simp[hb]
 frame:=λ_ _ _ st hk=>⟨st.1.at λo e=>hk I (by simp) o e,hk S (by simp) _ st.2⟩
 item:=λi s Q E hi st hQ=>by
  have hlt:i<(d4 w S ep es).length:=by rw[qH he];exact hi
  refine CS hn hne st.2 he st.1 hi (HX hlt) λh' hit' hs'=>?_;exact hQ _ h' s.toks (HX hlt) ⟨hit',hs'.extBut S _ hne st.2⟩ λb o hb e=>hs'.extBut b o (λh=>hb (by simp[h])) e
 done:=λs Q E st hQ=>CT hn hh st.2 he st.1 λh' he'=>hQ h' s.toks λb o hb e=>he' b o (λh=>hb (by simp[h])) e
 self:=λ_ _ _ _ st hQ=>CU st.1 hQ
theorem CW{r:Addr}{Q:Bool->HF->Prop}(d:s.TypeIs (.ref r) "set")(h:Q false s):wpAny (model prog w) A (No (.ref r)) Q E s:=by
 unfold No;refine Hz (Ng d PySem.F.slot_set_len.lookup ?_);generalize c:("set.__len__" : String)=e
 wp_delta
 rw[show splitId e=some ("set","__len__")from by subst c;decide +kernel];subst c;refine Hz (LO (T:="set") (b:=true) d (by rw[Pl];kernel_rfl) ?_);refine wpAny_ite_split (λa=>absurd a (by decide)) (λ_=>?_);refine wpAny_ite_split (λ_=>?_) (λa=>absurd (by decide +kernel) a);refine Hz (LX d ?_);exact HB h
theorem CY{S:Addr}{es:Array (Int×HD)}{ep:Nat}{ns:List Int}(hn:ns∈sixes)(he:bt es ns) :
 KdlSrc prog w "set" S S ns.length (λi v=>(d4 w S ep es)[i]?=some v) (λh=>h.get? S=some (W9 es ep (J9 (!w.params.followText "set-order") ns))) where
 type:=λ_ hm=>⟨_,hm,rfl⟩
 there:=λ_ hm=>⟨HJ hm,HJ hm⟩
 keep:=λ_ _ hm hk=>hk S (.inl rfl) _ hm
 notList:=by decide
 notTuple:=by decide
 hint:=λ_ _ _ _ hm hq=>CW ⟨_,hm,rfl⟩ hq
 iter:=λ_ s hh hm=>⟨_,_,(λ_ _ hq=>CQ hn hm he hq),CV hh _ S (HS (HJ hm)) hn he,⟨⟨_,HI _ rfl,rfl,rfl⟩,HA _ hm⟩⟩
end
theorem CZ:∀{vs us:List HD},vs.Perm us->∀{ns:List Int},Ko us ns->∃b,b.Perm ns/\Ko vs b:=by
 intro vs us h;induction h with
 | nil=>intro ns a;exact⟨ns,Pk _,a⟩
 | cons x _ ih=>
   intro ns a;cases a with
   | cons n t h=>obtain⟨b,c,d⟩:=ih h;exact⟨n::b,c.cons n,.cons n t d⟩
 | swap x y l=>
   intro ns a;cases a with
   | cons n t h=>
     cases h with
     | cons m u h=>exact⟨m::n::_,QA.swap _ _ _,.cons m u (.cons n t h)⟩
 | trans _ _ e f=>
   intro ns a;obtain⟨b,c,d⟩:=f a;obtain⟨g,i,j⟩:=e d;exact⟨g,i.trans c,j⟩
end Ws
namespace Ws
open PySem PySem.W PyProof.Rows L2
section
variable{X:Cx}{cm:Nat->Addr}
theorem C0{a:Expr}{d:ED}{p2 N q2 O:Pos}(g:X.calm=true)(ha:PE X a (aB X.K cm d))(T:Gl X "list")(U:X.mg "list" = none)(Y:Gl X "range")(Z:X.mg "range" = none)
 (w:starEach [a] X.env=(false,eval a X.env)::starEach [] X.env:=by exact D8 rfl)
 (y:starEach [.Call (.Name "range" N) [a] [] O] X.env=(false,eval (.Call (.Name "range" N) [a] [] O) X.env)::starEach [] X.env:=by rfl) :
 PE X (.Call (.Name "list" p2) [.Call (.Name "range" N) [a] [] O] [] q2) (aB X.K cm (pG d)):=by
 intro z s σ H Q I h;obtain⟨J,A,a0,v,A',rl,rs,ev,k⟩:=h;obtain⟨x,A1,e1,B⟩:=B0 ev;refine NA (S6 I T U IR (JP (Z7 y ?_) y rfl));refine NA (S6 I Y Z PyProof.Rows.boot_range (JP (Z7 w ?_) w rfl));refine aP (ha z s σ H (λv p=>∃j:Int,v=.int j/\-(2 ^ 62)<=j/\j<2 ^ 62/\j.toNat<=2 ^ 24/\∀l,p l=none->Q (.ref l) (aF p l (.lst ((Iw j.toNat).map λk=>V.int (k:Nat))))) I ⟨J,A,a0,x,A1,rl,rs,e1,λm p v1 x1 C a1=>?_⟩) λu L zq=>?_
 ·cases x with
  | int j=>
    obtain⟨c,a2⟩:=C9 B;cases a2;cases a1;refine⟨j,rfl,c.1,c.2.1,c.2.2,λD hD=>?_⟩;have ex:aC m p (m++[D]) (aF p D (.lst ((Iw j.toNat).map λk=>V.int (k:Nat)))):=aC.new hD;have a3:∀(l:List Nat)(J:List Addr)(H:Hp),aQ J H (l.map λk=>PV.int (k:Nat)) (l.map λk=>V.int (k:Nat)):=λl J H=>by
     induction l with
     | nil=>exact .nil
     | cons i r ih=>exact .cons (.int _) ih
    exact k (m++[D]) _ _ (x1.trans ex) (C.alloc hD ⟨_,C8,a3 _ _ _⟩ rfl) (.ref (by rw[←C.len];simp))
  | _=>cases B
 ·obtain⟨v,p,I1,r1,j,ej,j1,j2,j3,q⟩:=zq;subst ej;obtain⟨t,rfl⟩:=(show ∃t,u=Kz j t from r1);refine call_range_1 ?_;have hn:NY 0 j 1=(j.toNat:Nat):=by rw[rangeSize_one];split<;>omega
  refine call_list_range (A:=X.A) (I1.ok.hd g) (IsRange.new ..) (small_one (by omega) (by omega) j1 j2) hn j3 λh' tk E c hk a5 f=>?_;have n:aE ((Iw j.toNat).map λk=>V.int (k:Nat)) E.toList:=by
   have e:((Iw j.toNat).map λk=>V.int (k:Nat))=((Iw j.toNat).map λk=>((k:Nat):Int)).map V.int:=by rw[HV];rfl
   rw[e];refine uN (by rw[Js,f.1];simp) λi v hv=>?_;obtain⟨t',ht⟩:=f.2 i v (by rw[←Jv];exact hv);have hi:i<j.toNat:=by
    have:=(HY.mp hv).1;rw[Js,f.1]at this;exact this
   exact⟨(i:Int),t',by simp[hi],by rw[ht];simp⟩
  have G:L.heap.objs.size<=(L.heap.push { cls:=.type "range",data:=.fields #[.int 0 L.toks,.int j t,.int 1 (L.toks+1)] }).objs.size:=by rw[OU];exact JQ _
  refine⟨.ref _,_,I1.laid (t':=tk) (o:=.lst ((Iw j.toNat).map λk=>V.int (k:Nat))) (λb o e2=>hk b o (HA _ e2)) G ?_,rfl,q _ (I1.hok.fresh G)⟩;refine⟨by rw[HC,List.length_range,JH];omega,E.toList,c,n,?_⟩;rw[MP];exact a5
end
end Ws
namespace Ws
open PySem PySem.W PyProof.Rows L2
theorem dL:typeLookup (.type "list") "keys" = pure none:=by rw[OQ,MH];kernel_rfl
theorem y0{prog:Ib}{w:IW}{A:IN}{E:HD->HF->Prop}{s:HF}{a:Addr}{o:Obj}{xs:Array HD}{k:Nat}{name:Str}{Q:Option HD->HF->Prop}
 (n:s.heap.get? a=some o) (p:o.cls=.type "list") (b:o.data=.seq xs k) (q:o.dict=none) (f:typeLookup (.type "list") name=pure none) (i:(["__module__","__name__","__qualname__","__doc__","__annotations__"]:List Str).contains name=false) (y:A.handled=none)
 (h:∀m r e,Heap.NewExcOf s.heap m e "AttributeError"->Q none { s with heap:=m,toks:=r }) (hsz:name.length+100<=sizeLine:=by size_fits) :
 wpAny (model prog w) A (getAttr? (.ref a) name) Q E s:=by
 obtain⟨c,z,B,C⟩:=o;simp only at p b q;subst p b q;obtain⟨D,g,d,r,os⟩:=s;have x:∀j,(⟨D,g,d,j,os⟩:HF).TypeIs (.ref a) "list":=λ_=>⟨_,n,rfl⟩;have G:=sub_AttributeError;have H:=Mb.lookup;have I:=Mb.bind (.ref a);have J:=am_list_getattr_none;unfold getAttr? getAttrBy? getAttrBy;repeat (any_goals (first | assumption | exact x _ | ((with_reducible show wpAny _ _ (call (HD.builtin "list.__getattribute__") _ _) _ _ _);refine call_meets Mb (x _) am_entry_list_getattribute (F.args_list_getattribute_2 _ _) (meets_getattribute_miss_list a xs k C name _ f i hsz) ⟨n,y,λm j e l=>?_⟩) | wp_step))
 obtain⟨L,N,O⟩:=l.there;show wpAny _ _ (getattributeRaised _ _ _ _ _ _ _) _ _ _;unfold getattributeRaised;repeat (any_goals (first | assumption | wp_step))
 exact h _ _ _ l.of
theorem u8:entryFor table "dict.update.loop" = some Ji.«dict.update.loop»:=entryFor_of_tree (by kernel_rfl)
theorem R7:plainId "dict.update.loop" = true:=by decide +kernel
noncomputable def p8{K:Type}[DecidableEq K](ws:List (K×HD)):List (K×HD):=ws.foldl (λa p=>stored a p.1 p.2) []
theorem Db{K:Type}[DecidableEq K](ws:List (K×HD))(p:K×HD):p8 (ws++[p])=stored (p8 ws) p.1 p.2:=by
 unfold p8;rw[NT];rfl
theorem vt{K:Type}[DecidableEq K](ws:List (K×HD)):(p8 ws).length<=ws.length:=by
 have b:∀(l a:List (K×HD)),(l.foldl (λa p=>stored a p.1 p.2) a).length<=a.length+l.length:=by
  intro l;induction l with
  | nil=>intro a;simp
  | cons p l ih=>
    intro a;have c:=ih (stored a p.1 p.2);have d:=stored_length_le a p.1 p.2;simp only[Nh,Il];omega
 simpa[p8]using b ws []
section
variable{prog:Ib}{w:IW}{A:IN}{R:PL->HF->Prop}{E:HD->HF->Prop}{s:HF}
theorem Dc{K:Type}[DecidableEq K]{knd:KeyKind prog w K}{I D:Addr}{fp x:List Addr}{G:Array Ny->Array Ny->Prop}{P:Nat->HD->Prop}{St:Nat->HF->Prop}{ws:List (K×HD)}
 (W:WalksS prog w A.in1 I fp x G ws.length P St) (z:D∉fp) (res:HD) (m:Nat->Addr) (U:∀i v,P i v->v=.ref (m i)) (B:∀i,i<ws.length->m i≠D/\m i∉x) (hz:ws.length<=sizeLine) :
 ∀(k i:Nat)(s:HF),ws.length - i=k->i<=ws.length->St i s->s.heap.DictOf knd D (p8 (ws.take i))->
  (∀j (n:j<ws.length),∃c,s.heap.IsTuple (m j) #[c,ws[j].2]/\knd.is ws[j].1 c=true)->
  (∀a,QE (D::x) G s a->a.heap.DictOf knd D (p8 ws)->R (.ok (.ret res)) a)->
  codeAny (model prog w) A (.builtin "dict.update.loop" ⟨[.ref D,.ref I,rawInt i,res],[]⟩) R s:=by
 have C:D∉x:=λh=>z (W.sub _ h);have g:∀b∈x,b∈D::x:=λb H=>HR _ H;intro k;induction k with
 | zero=>
   intro i s hk hi p T l Y;have Z:i=ws.length:=by omega
   subst Z;rw[Jc]at T;refine Kg u8 ?_;rw[JT R7 _];show wpAny _ A.in1 (pyNext (.ref I)>>=_) _ _ s;refine Hz (W.done s _ _ p λa y=>?_);show wpAny _ A.in1 (KO D []>>=_) _ _ a;refine Hz (HB ?_);refine HB (Y a (y.mono g) ?_);obtain⟨o,es,ep,q,r⟩:=T;exact⟨o,es,ep,y.heap D o C q,r⟩
 | succ k ih=>
   intro i s hk hi p T l Y;have f:i<ws.length:=by omega
   refine Kg u8 ?_;rw[JT R7 _];show wpAny _ A.in1 (pyNext (.ref I)>>=_) _ _ s;refine Hz (W.item i s _ _ f p λv a hP J y=>?_);obtain rfl:=U i v hP;have a2:a.heap.DictOf knd D (p8 (ws.take i)):=by
    obtain⟨o,es,ep,q,r⟩:=T;exact⟨o,es,ep,y.heap D o C q,r⟩
   have d:∀j (n:j<ws.length),∃c,a.heap.IsTuple (m j) #[c,ws[j].2]/\knd.is ws[j].1 c=true:=by
    intro j n;obtain⟨c,⟨o,q,r⟩,h2⟩:=l j n;exact⟨c,⟨o,y.heap _ o (B j n).2 q,r⟩,h2⟩
   obtain⟨c,⟨ot,L,a4,nt,a5⟩,N⟩:=d i f;have hT:a.TypeIs (.ref (m i)) "tuple":=⟨ot,L,a4⟩;show wpAny _ A.in1 (holding [HW (m i)] _>>=_) _ _ a;refine Hz (IY ?_);refine Hz (wpAny_tryCatch ?_);unfold OF;refine Hz (LX hT ?_);rw[if_pos (by decide)];refine Hz (Kb L a5 ?_);refine HB ?_;show wpAny _ A.in1 (holding [c,ws[i].2] (dictSet D c ws[i].2)) _ _ a;refine IY ?_;refine wpAny_dictSet_pairs N a2 (λh' a6 u=>?_) (by have:=vt (ws.take i);have:(ws.take i).length<=ws.length:=(by rw[Jb];omega);omega);have a7:ws.take (i+1)=ws.take i++[ws[i]]:=by rw[Jh,HX f];rfl
   have hc:((i:Int)+1)=((i+1:Nat):Int):=by push_cast;rfl
   show wpAny _ A.in1 (again (.builtin "dict.update.loop" ⟨[.ref D,.ref I,rawInt ((i:Int)+1),res],[]⟩)) _ _ _;rw[hc];refine HB ⟨Lw R7 _,ih (i+1) _ (by omega) f (W.frame _ a _ _ J (JQ _) λb H o e=>?_) (by rw[a7,Db];exact a6) (λj n=>?_) λa8 O Q=>?_⟩
   ·rw[u.2 b (λh:b=D=>z (by rw[←h];exact H))];exact e
   ·obtain⟨c,⟨o,q,r⟩,h2⟩:=d j n;exact⟨c,⟨o,by rw[u.2 _ (B j n).1];exact q,r⟩,h2⟩
   ·refine Y a8 (QE.trans W.gtrans ((y.mono g).then_heap (JQ _) λb o H e=>?_) O) Q;rw[u.2 b (λh:b=D=>H (by rw[h];exact HM))];exact e
theorem Dd{K:Type}[DecidableEq K]{knd:KeyKind prog w K}{l:Addr}{items:Array HD}{ws:List (K×HD)}{Q:HD->HF->Prop}(hh:A.handled=none)(hl:PlainL s.heap l items)(T:Nat->Addr)(hsz:items.size=ws.length)(hz:ws.length<=sizeLine)
 (x:∀j (hj:j<ws.length),items[j]?=some (.ref (T j))/\∃G,s.heap.IsTuple (T j) #[G,ws[j].2]/\knd.is ws[j].1 G=true)
 (h:∀H tk,H.DictOf knd s.heap.objs.size (p8 ws)->(∀b o,s.heap.get? b=some o->H.get? b=some o)->Q (.ref s.heap.objs.size) { s with heap:=H,toks:=tk }) :
 wpAny (model prog w) A (call (.type "dict") [.ref l]) Q E s:=by
 refine Pp (Q₁:=λobj q=>obj=.ref s.heap.objs.size/\q={ s with heap:=s.heap.push { cls:=.type "dict",data:=.dict #[] } }) Mo (Lz _) Mm (Ov _ ⟨rfl,rfl⟩) ?_;rintro obj q ⟨rfl,rfl⟩;have a:(s.heap.push { cls:=.type "dict",data:=.dict #[] }).DictOf knd s.heap.objs.size []:=Heap.DictOf.new s.heap;obtain⟨ol,n,J,y,Y,g⟩:=id hl;have m:(s.heap.push { cls:=.type "dict",data:=.dict #[] }).get? l=some _:=HA _ J;have hT:Lv { s with heap:=s.heap.push { cls:=.type "dict",data:=.dict #[] } } (.ref l) "list":=⟨_,m,y⟩;refine⟨a.typeIs,Mc _ _,?_⟩;unfold Ji.«dict.__init__»;refine Hz ?_;unfold Md;refine Hz (KD a.typeIs ?_);show wpAny _ _ (pure (s.heap.objs.size,[HW l])) _ _ _;refine HB ?_;show wpAny _ _ (JS "dict.__init__" s.heap.objs.size (.ref l) [] .none) _ _ _;unfold JS;refine Hz (LX hT ?_);rw[if_pos (by decide)];refine Hz (y0 m y g Y dL (by decide) (by simpa using hh) λB Z e1 ne=>?_);simp only[Option.isNone_none,if_true];refine Hz (Lu ?_);have L:B.IsList l items:=⟨_,ne.keeps _ _ m,y,n,g⟩;refine Hz (JY (s:={ s with heap:=B,toks:=Z }) L ?_);have c:s.heap.objs.size<B.objs.size:=by
  obtain⟨o,_,_,p,_⟩:=a;exact HJ (ne.keeps _ _ p)
 have C:B.DictOf knd s.heap.objs.size (p8 (ws.take 0)):=by
  obtain⟨o,es,ep,p,r⟩:=a;exact⟨o,es,ep,ne.keeps _ _ p,r⟩
 have N:l<s.heap.objs.size:=HJ J;have O:l≠B.objs.size:=HS (Ll N c);have WW:=(Qz.list (prog:=prog) (w:=w) (A:=A.in1.in1) (by simpa using hh) B.objs.size l O items).toS;rw[hsz]at WW;have a2:s.heap.objs.size∉[B.objs.size,l]:=by
  simp only[HK,HH,IT,or_false,not_or];exact⟨HS c,JU N⟩
 have u:∀i,i<ws.length->T i<s.heap.objs.size:=by
  intro i D;obtain⟨_,G,⟨o,p,_⟩,_⟩:=x i D;exact HJ p
 refine HB ⟨Lw R7 _,Dc (knd:=knd) WW a2 .none T (λi v hv=>?_) (λi D=>⟨HS (u i D),?_⟩) hz ws.length 0 _ (by omega) (KU _)
  ⟨⟨_,HI _ rfl,rfl,rfl⟩,L.push _⟩ ?_ (λj hj=>?_) λs' U hD=>?_⟩
 ·have D:i<ws.length:=by
   rcases Qb i items.size with z | z
   ·rw[←hsz];exact z
   ·rw[JC z]at hv;cases hv
  have:=(x i D).1;rw[hv]at this;exact Iv this
 ·rw[HH];exact HS (Ll (u i D) c)
 ·obtain⟨o,es,ep,p,r⟩:=C;exact⟨o,es,ep,HA _ p,r⟩
 ·obtain⟨_,G,⟨o,p,r⟩,h2⟩:=x j hj;exact⟨G,⟨o,HA _ (ne.keeps _ _ (HA _ p)),r⟩,h2⟩
 ·obtain⟨H,g',d',a4,a5⟩:=s';have eg:g'=s.gens:=U.gens;have ed:d'=s.drawn:=U.drawn;have eo:a5=s.os:=U.os;subst eg;subst ed;subst eo;refine⟨rfl,h H a4 hD λb o e=>?_⟩;have hb:=HJ e;refine U.heap b o ?_ (HA _ (ne.keeps _ _ (HA _ e)));simp only[HK,HH,IT,or_false,not_or];exact⟨HS hb,HS (Ll hb c)⟩
end
abbrev Trip:=Addr×Int×V
def qI(H:Hp)(t:Trip):Prop:=H t.1=some (.tup [.int t.2.1,t.2.2])
theorem vu{e:List Addr}{H:Hp}:∀{l:List PV}{xs:List V}{m:List (Int×PV)},aQ e H l xs->w4 l=some m->∃a:List Trip,xs=a.map (λt=>V.ref t.1)/\(∀t∈a,qI H t)/\m.map (·.1)=a.map (·.2.1)/\aQ e H (m.map (·.2)) (a.map (·.2.2))
 | [],xs,m,r,h=>by
   cases r;cases h;exact⟨[],rfl,by simp,rfl,.nil⟩
 | x::l,xs,m,r,h=>by
   cases r with
   | cons c f=>
     match x,c,h with
     | .tup [.int i,v],c,h=>
       rcases d:w4 l with _ | w
       ·simp[w4,d]at h
       ·simp only[w4,d,Np,Option.some.injEq]at h;subst h;obtain⟨a,g,j,n,o⟩:=vu f d;cases c with
        | tup p b=>
          cases b with
          | cons q b=>
            cases q;cases b with
            | cons s b=>
              cases b;refine⟨(_,i,_)::a,by rw[g];rfl,λt u=>?_,by simp[n],.cons s o⟩;rcases HK.mp u with z | z
              ·subst z;exact p
              ·exact j t z
noncomputable def ib(b:List Trip)(a:List (Key×V)):List (Key×V):=b.foldl (λa t=>S5 a (.inl t.2.1) t.2.2) a
theorem vv{d:List Addr}{H:Hp}:∀(m:List (Int×PV))(a:List Trip)(b:List (Int×PV))(c:List (Key×V)),m.map (·.1)=a.map (·.2.1)->aQ d H (m.map (·.2)) (a.map (·.2.2))->PI d H b c->PI d H (m.foldl (λf p=>n0 f p.1 p.2) b) (ib a c)
 | [],[],b,c,_,_,h=>h
 | [],_::_,_,_,e,_,_=>by simp at e
 | _::_,[],_,_,e,_,_=>by simp at e
 | p::m,t::a,b,c,e,r,h=>by
   simp only[Ic,Lm]at e;cases r with
   | cons g i=>
     show PI d H (m.foldl _ (n0 b p.1 p.2)) (ib a (S5 c (.inl t.2.1) t.2.2));rw[←e.1];exact vv m a _ _ e.2 i (PI.put g p.1 h)
def vw{P:Ib}{w:IW}(s:HF)(t:Trip)(q:Key×HD):Prop:=q.1=.inl t.2.1/\L2.RelV t.2.2 q.2/\∃a,s.heap.IsTuple t.1 #[a,q.2]/\(K1 P w).is q.1 a=true
section
variable{X:Cx}{cm:Nat->Addr}{pins:List (Addr×Obj)}{σ:L2.St}{H:Hp}{s:HF}
theorem vy(I:L2.Inv X pins σ H s):∀(a:List Trip),(∀t∈a,qI H t)->∃b:List (Key×HD),b.length=a.length/\∀j (c:j<b.length) (d:j<a.length),vw (P:=X.prog) (w:=X.w) s a[j] b[j]
 | [],_=>⟨[],rfl,λj c=>absurd c (by simp)⟩
 | t::a,h=>by
   obtain⟨b,e,f⟩:=vy I a λx g=>h x (HR _ g);obtain⟨_,i,l,m⟩:=I.hok _ _ (show H t.1=some (.tup [.int t.2.1,t.2.2])from h t HM);obtain⟨n,o,rfl,p,q⟩:=mS l;refine⟨(.inl t.2.1,o)::b,by simp[e],λj c d=>?_⟩;cases j with
   | zero=>exact⟨rfl,q,n,m,jm (k:=.inl t.2.1) p⟩
   | succ j=>exact f j (by simpa using c) (by simpa using d)
theorem vz:∀(a:List Trip)(ws:List (Key×HD))(b:List (Key×V))(c:List (Key×HD)),ws.length=a.length->(∀j (f:j<ws.length) (g:j<a.length),vw (P:=X.prog) (w:=X.w) s a[j] ws[j])->KV b c->KV (ib a b) (ws.foldl (λd p=>stored d p.1 p.2) c)
 | [],[],b,c,_,_,h=>h
 | [],_::_,_,_,e,_,_=>by simp at e
 | _::_,[],_,_,e,_,_=>by simp at e
 | t::a,q::ws,b,c,e,i,h=>by
   have n:=i 0 (by simp) (by simp);obtain⟨l,m,_⟩:=n;simp only[OG]at l m;show KV (ib a (S5 b (.inl t.2.1) t.2.2)) (ws.foldl _ (stored c q.1 q.2));refine vz a ws _ _ (by simpa using e) (λj f g=>by have:=i (j+1) (by simpa using f) (by simpa using g);simpa using this) ?_;rw[l];exact KV.put h _ m
theorem vA{e:Expr}{d:ED}{p q:Pos}(z:X.calm=true)(he:PE X e (aB X.K cm d))(hg:Gl X "dict")(hm:X.mg "dict" = none)
 (hs:starEach [e] X.env=(false,eval e X.env)::starEach [] X.env:=by exact D8 rfl) :
 PE X (.Call (.Name "dict" p) [e] [] q) (aB X.K cm (nu d)):=by
 intro pins s σ H Q I h;obtain⟨ρ,A,O,v,A',rl,rs,ev,k⟩:=h;obtain⟨x,A1,e1,J⟩:=B0 ev;refine NA (S6 I hg hm (show bootBuiltins "dict" = some (.type "dict")from by rfl) (callWith_type1 (Z7 hs ?_) hs rfl));refine aP (he pins s σ H (λv y=>∃(a:Addr)(f:List Trip),v=.ref a/\bv X.K y a (f.map λt=>V.ref t.1)/\(∀t∈f,qI y t)/\f.length<=sizeLine/\∀l,y l=none->Q (.ref l) (aF y l (.dK (ib f [])))) I ⟨ρ,A,O,x,A1,rl,rs,e1,λB y v1 x1 C T=>?_⟩) λu U zq=>?_
 ·cases x with
  | ref n=>
    obtain⟨l,A2,Y,r⟩:=B0 J;obtain⟨rfl,hA,a,xs,rfl,hn,hH,r0⟩:=N7 C T Y;cases Z:w4 l with
    | none=>rw[Z]at r;cases r
    | some m=>
      rw[Z]at r;obtain⟨c,a0⟩:=C9 r;cases a0;obtain⟨f,f1,f2,f3,f4⟩:=vu r0 Z;have hl:f.length=m.length:=by
       have:=congrArg List.length f3;simpa using this.symm
      refine⟨a,f,rfl,by rw[←f1];exact bv.of hH,f2,by rw[hl];exact MA (ks c),λD hD=>?_⟩;have ex:aC B y (B++[D]) (aF y D (.dK (ib f []))):=aC.new hD;refine k (B++[D]) _ _ (x1.trans ex) (C.alloc hD ⟨_,C8,?_⟩ rfl) (.ref (by rw[←C.len];simp));exact vv m f [] [] f3 (f4.mono ex) ⟨rfl,.nil⟩
  | _=>cases J
 ·obtain⟨w1,y,G,r1,a,f,ew,hq,a1,hz,qq⟩:=zq;subst ew;obtain rfl:u=HW a:=r1;obtain⟨a2,ri,pl,_⟩:=G.list hq;obtain⟨ws,g,w2⟩:=vy G f a1;have L:a2.length=f.length:=by rw[←ri.length];simp
  refine Dd (knd:=K1 X.prog X.w) (ws:=ws) (G.ok.hd z) pl (λj=>(f.getD j (0,0,.non)).1) (by rw[HU,L,g]) (by rw[g];exact hz) (λj hj=>?_) λh' tk dd hk=>?_
  ·have E:j<f.length:=by rw[←g];exact hj
   have e0:f.getD j (0,0,.non)=f[j]:=by simp[E]
   rw[e0];obtain⟨g1,g2,kv,g3,g4⟩:=w2 j hj E;refine⟨?_,kv,g3,g4⟩;obtain⟨u,hu,ru⟩:=ri.get (i:=j) (x:=.ref f[j].1) (by rw[Ij,HX E];rfl);cases(show u=HW f[j].1 from ru);simpa using hu
  ·have N:KV (ib f []) (p8 ws):=vz (X:=X) (s:=U) f ws [] [] g w2 .nil;have a3:(ib f []).length<=sizeLine:=by
    rw[N.length];exact Ih (vt ws) (by rw[g];exact hz)
   exact⟨.ref U.heap.objs.size,_,G.laid (t':=tk) (a:=U.heap.objs.size) (o:=.dK (ib f [])) (λb o Y=>hk b o Y) (HG _) (tf a3 (beq_eq_false_iff_ne.mpr (JX (HS G.big))) N dd),rfl,qq _ (G.hok.fresh (HG _))⟩
end
theorem De{c a:Type}{m:Type->Type}[Monad m][LawfulMonad m](xs:Array c)(b:a)(f:c->a->m (ForInStep a)):forIn xs b f=forIn xs.toList b f:=by
 rw[NB]
section
variable{prog:Ib}{w:IW}{A:IN}{E:HD->HF->Prop}{s:HF}
theorem Df{j:String}{d:Addr}{o:Obj}{es:Array NL}{ep:Nat}{Q:Array NL->HF->Prop}(l:s.heap.get? d=some o)(m:o.data=.dict es ep)
 (n:∀e∈es.toList,∃a,e.key=.ref a/\s.TypeIs (.ref a) "tuple") (p:∀e∈es.toList,(es.filter (·.hash == e.hash)).size<=1) (h:Q es s):wpAny (model prog w) A (MY j d) Q E s:=by
 unfold MY;refine Hz (JZ l m ?_);refine Hz ?_;rw[De];refine wpAny_forIn_list _ (λc _ g=>g=s/\∀e∈c,e∈es.toList) _ ?_ ?_ _ _ ⟨rfl,λe f=>f⟩
 ·rintro e c b g ⟨rfl,i⟩;have f:=i e HM;obtain⟨a,q,r⟩:=n e f;refine Hz ?_;unfold Ji.Dict.quietEq;rw[q];refine Hz (Ng r PySem.F.slot_tuple_eq.lookup (HB ?_));rw[if_pos (by decide),if_neg (by have:=p e f;omega)];exact HB ⟨rfl,λx u=>i x (HR _ u)⟩
 ·rintro b g ⟨rfl,_⟩;exact HB h
abbrev TK(prog:Ib)(w:IW):HeapKind prog w (List Key):=tupleKind (K1 prog w)
theorem Dg{o:Addr}{xs:List (List Key×Addr×HD)}{Q:HD->HF->Prop}(J:(o == sysModules)=false)(ho:s.heap.DictOfH (TK prog w) o xs)(hsz:xs.length<=sizeLine)
 (v:∀x∈xs,(xs.filter λy=>(TK prog w).hash y.1 == (TK prog w).hash x.1).length<=1)
 (h:∀L,L.DictOfH (TK prog w) s.heap.objs.size xs->Jr s.heap.objs.size (s.heap.push { cls:=.type "dict",data:=.dict #[] }) L->Q (.ref s.heap.objs.size) { s with heap:=L }) :
 wpAny (model prog w) A (call (.type "dict") [.ref o]) Q E s:=by
 obtain⟨oo,j,ep,z,hc,g,d,hk,hn⟩:=id ho;have l:j.size=xs.length:=OR d;refine Pp (Q₁:=λobj m=>obj=.ref s.heap.objs.size/\m={ s with heap:=s.heap.push { cls:=.type "dict",data:=.dict #[] } }) Mo (Lz _) Mm (Ov _ ⟨rfl,rfl⟩) ?_;rintro obj m ⟨rfl,rfl⟩;have i:(s.heap.push { cls:=.type "dict",data:=.dict #[] }).get? s.heap.objs.size=some { cls:=.type "dict",data:=.dict #[] }:=HI _ rfl;have B:Lv { s with heap:=s.heap.push { cls:=.type "dict",data:=.dict #[] } } (.ref s.heap.objs.size) "dict":=⟨_,i,rfl⟩;have c:(s.heap.push { cls:=.type "dict",data:=.dict #[] }).get? o=some oo:=HA _ z;have p:Lv { s with heap:=s.heap.push { cls:=.type "dict",data:=.dict #[] } } (.ref o) "dict":=⟨_,c,hc.1⟩;have N:s.heap.objs.size≠o:=λe=>absurd (HJ z) (by rw[e];exact JO _);refine⟨B,Mc _ _,?_⟩;unfold Ji.«dict.__init__»;refine Hz ?_;unfold Md;refine Hz (KD B ?_);show wpAny _ _ (pure (s.heap.objs.size,[HW o])) _ _ _;refine HB ?_;show wpAny _ _ (JS "dict.__init__" s.heap.objs.size (.ref o) [] .none) _ _ _;unfold JS;refine Hz (LX p ?_);rw[if_neg (by decide)];refine Hz ?_;unfold Ji.Dict.merge;refine Hz ?_;unfold Ji.Dict.readDirectly;refine Hz (LO p isSubtype_dict_dict ?_);simp only[Bool.not_true,IB,if_false];refine Hz (Ng p Mp.lookup (HB ?_));simp only[beq_self_eq_true,if_true];refine Hz (HB ?_);unfold Ji.Dict.mergeDict;rw[if_neg (by simpa using N)];unfold MI;rw[if_neg (by rw[J];exact IP)];refine Hz (HB ?_);refine Hz (JZ c g ?_);cases q:xs with
 | nil=>
   subst q;have C:j=#[]:=Ou.mp (by rw[d];rfl);subst C;dsimp only;rw[if_neg (by simp)];refine Hz (Nq c g ?_);refine Hz (JZ c g ?_);refine Hz ?_;rw[Std.Legacy.Range.forIn_eq_forIn_range'];refine HB ?_;refine HB ?_;show wpAny _ _ (KO s.heap.objs.size []>>=_) _ _ _;refine Hz (HB (HB ⟨rfl,h _ ?_ (Jr.refl _ _)⟩));exact⟨_,_,_,i,⟨rfl,rfl,rfl⟩,rfl,rfl,λx r=>by simp at r,Mz⟩
 | cons O xr=>
   have T:O∈xs:=by rw[q];exact HM
   have u:∀e∈j.toList,∃a,e.key=.ref a/\Lv { s with heap:=s.heap.push { cls:=.type "dict",data:=.dict #[] } } (.ref a) "tuple":=by
    intro e I;rw[d]at I;obtain⟨x,r,rfl⟩:=HQ.mp I;obtain⟨U,D,n,Y,Z,_⟩:=hk x r;exact⟨x.2.1,rfl,U,HA _ Y,Z⟩
   have G:(decide (j.size<=8)&&j.all λe=>(keyPart e.key).isSome)=false:=by
    rw[Bool.and_eq_false_iff];refine .inr ?_;rw[←Array.all_toList,List.all_eq_false];refine⟨entryOfKey (TK prog w) O,by rw[d];exact HQ.mpr ⟨O,T,rfl⟩,?_⟩;simp[entryOfKey,keyPart]
   rw[G];dsimp only;rw[if_pos (by decide)];refine Hz (JZ i rfl ?_);rw[if_pos (by decide)];refine Hz (Df c g u (λe I=>?_) ?_)
   ·have H:=I;rw[d]at H;obtain⟨x,r,rfl⟩:=HQ.mp H;have:=v x r;rw[←Js,Array.toList_filter,d,Kv,HC];exact this
   ·have a0:j.isEmpty=false:=by
     cases hh:j.isEmpty with
     | false=>rfl
     | true=>
       have:j.size=0:=by simpa using hh
       rw[l,q]at this;simp at this
    rw[a0,if_pos (by decide)];refine Hz (wpAny_updateDictKeysTo i rfl ?_ (by rw[l];omega));refine HB ?_;show wpAny _ _ (KO s.heap.objs.size []>>=_) _ _ _;refine Hz (HB (HB ⟨rfl,h _ ?_ (IH ..)⟩));have a1:Obj.ExactDict { cls:=.type "dict",data:=.dict #[] }:=⟨rfl,rfl,rfl⟩;refine⟨_,j,_,IM _ i (PB (LC rfl _)),a1.mapDictKeys _,LC rfl _,d,λx r=>?_,hn⟩;refine(TK prog w).keeps (?_:(TK prog w).is (s.heap.push { cls:=.type "dict",data:=.dict #[] }) x.1 x.2.1) i rfl (IH ..);obtain⟨U,D,n,Y,Z⟩:=hk x r;exact⟨U,D,n,HA _ Y,Z⟩
end
noncomputable def hashK(k:List Int):Int:=reduceHash (NG (k.map hashInt))
theorem Dh(P:Ib)(w:IW)(k:List Int):(TK P w).hash (k.map Jq)=hashK k:=by
 show reduceHash (NG ((k.map Jq).map (rW w)))=_;rw[HV];rfl
theorem Di:(small.map hashK).Nodup:=by decide +kernel
theorem Dj{a b:List Int}(c:a∈small)(d:b∈small)(h:hashK a=hashK b):a=b:=by
 obtain⟨i,e,rfl⟩:=Jp.mp c;obtain⟨j,f,rfl⟩:=Jp.mp d;have:=(MK (i:=i) (j:=j) (h₀:=by simpa using e) (h₁:=by simpa using f) Di).mp (by simpa using h);subst this;rfl
theorem Dk{P:Ib}{w:IW}{c:List (List Int)}(hs:∀k∈c,k∈small):∀{xs:List (List Key×Addr×HD)},xs.map (·.1)=c.map (Nz Jq)->c.Nodup->∀x∈xs,(xs.filter λy=>(TK P w).hash y.1 == (TK P w).hash x.1).length<=1:=by
 intro xs j m x q;have d:(xs.map λy=>(TK P w).hash y.1).Nodup:=by
  have e:(xs.map λy=>(TK P w).hash y.1)=c.map hashK:=by
   have:(xs.map λy=>(TK P w).hash y.1)=(xs.map (·.1)).map (TK P w).hash:=by rw[HV];rfl
   rw[this,j,HV];exact Jj λk _=>Dh P w k
  rw[e];have f:∀l:List (List Int),(∀k∈l,k∈small)->l.Nodup->(l.map hashK).Nodup:=by
   intro l;induction l with
   | nil=>intro _ _;simp
   | cons a l ih=>
     intro h n;rw[Jt]at n;rw[Ic,Jt];refine⟨λz=>?_,ih (λk o=>h k (HR _ o)) n.2⟩;obtain⟨b,i,e⟩:=HQ.mp z;exact n.1 (Dj (h b (HR _ i)) (h a HM) e ▸ i)
  exact f c hs m
 have g:∀(l:List (List Key×Addr×HD))(v:Int),(l.map λy=>(TK P w).hash y.1).Nodup->(l.filter λy=>(TK P w).hash y.1 == v).length<=1:=by
  intro l v;induction l with
  | nil=>intro _;simp
  | cons a l ih=>
    intro n;rw[Ic,Jt]at n;by_cases e:(TK P w).hash a.1=v
    ·have:l.filter (λy=>(TK P w).hash y.1 == v)=[]:=by
      rw[OH];intro y p z;exact n.1 (HQ.mpr ⟨y,p,by rw[eq_of_beq z,e]⟩)
     rw[Mg (by simpa using e),this];simp
    ·rw[Mh (by simpa using e)];exact ih n.2
 exact g xs _ d
theorem Dl{H:Hp}{kvs:List (List Key×V)}{xs:List (List Key×Addr×HD)}(r:KT H kvs xs):kvs.map (·.1)=xs.map (·.1):=by
 unfold KT at r;induction r with
 | nil=>rfl
 | cons h _ ih=>rw[Ic,Ic,ih,h.1]
section
variable{X:Cx}{cm:Nat->Addr}
theorem Dm:bo X (.type "dict") (λf H Q=>∃(a:Addr)(kvs:List (List Key×V))(i:List (List Int)),f=[.ref a]/\H a=some (.dT kvs)/\kvs.map (·.1)=i.map (Nz Jq)/\i.Nodup/\(∀k∈i,k∈small)/\∀l,H l=none->Q (.ref l) (aF H l (.dT kvs))):=by
 intro v s Z H f us Q I r h;obtain⟨a,kvs,i,rfl,x,j,y,m,q⟩:=h;obtain⟨u,rfl,A⟩:=l9 r;cases A;obtain⟨z,B,f,d,C⟩:=mX I.hok x;have D:kvs.length=f.length:=Paired.length d;refine Dg B C (by rw[←D];exact z) (Dk m (by rw[←Dl d];exact j) y) λh' n E=>?_;obtain⟨G,J,L,N,O,T,U,_,Y⟩:=n;have g:=I.hok.fresh (HG s.heap.objs.size);refine⟨.ref s.heap.objs.size,_,I.laid (t':=s.toks) (a:=s.heap.objs.size) (o:=.dT kvs) (λb o w=>(E.2 b (HS (HJ w))).trans (HA _ w)) (HG _) ⟨z,beq_eq_false_iff_ne.mpr (JX (HS I.big)),f,KT.keeps d (λc ys p=>?_),G,J,L,N,O,T,U,Y⟩,rfl,q _ g⟩;rw[D3 (λe=>by rw[e,g]at p;cases p)];exact p
theorem Do{e:Expr}{d:ED}{p g:Pos}(he:PE X e (aB X.K cm d))(w:Gl X "dict")(y:X.mg "dict" = none)(hs:starEach [e] X.env=(false,eval e X.env)::starEach [] X.env:=by exact D8 rfl):PE X (.Call (.Name "dict" p) [e] [] g) (aB X.K cm (pH d)):=
 E7 (t6 Dm w y (show bootBuiltins "dict" = some (.type "dict")from by rfl) (ae he am hs) (he:=hs)) λI H Q h=>i5 (f:=λx=>match x with | .ref n=>ap (T4 n) λm=>G0 ((m.map (·.1)).Nodup/\∀p∈m,p.1∈small) (alloc (.dT m)) | _=>stuck) (λ_=>rfl) (λi A H x z A' v Q j B q k=>by
  cases x with
  | ref n=>
    obtain⟨m,A1,C,l⟩:=B0 q;obtain⟨rfl,J,a,r,rfl,L,E,b⟩:=P5 j B C;obtain⟨c,o⟩:=C9 l;cases o;refine⟨a,r,m.map (·.1),rfl,E,by rw[b.keys,HV];rfl,c.1,λk G=>?_,λD s=>?_⟩
    ·obtain⟨p,b,rfl⟩:=HQ.mp G;exact c.2 p b
    ·have u:aC i H (i++[D]) (aF H D (.dT r)):=aC.new s;exact k (i++[D]) _ _ u (j.alloc s ⟨_,C8,b.mono u⟩ rfl) (.ref (by rw[←j.len];simp))
  | _=>cases q) h
end
def gV(h:Heap)(d:Addr)(es:Array NL)(ep:Nat):Prop:=∃o,h.get? d=some o/\o.ExactDict/\o.data=.dict es ep
theorem gV.at{h h':Heap}{d:Addr}{es:Array NL}{ep:Nat}(x:gV h d es ep)(k:∀o,h.get? d=some o->h'.get? d=some o):gV h' d es ep:=let⟨o,a,r⟩:=x;⟨o,k o a,r⟩
end Ws
namespace Ws
open PySem PySem.W PyProof.Rows L2
section
variable{X:Cx}{cm:Nat->Addr}
theorem y7{x:Str}{j a}:PE X (.Constant (.str x) j a) (aB X.K cm (eK (.str x))):=kr xM λ_ _=>.str x
theorem Dp(K:HE)(a:String)(b:a∈["NoneType","bool","int","str","list","tuple"]):Pb K (.type a) (.type "str")=some (a == "str"):=by
 simp only[HK,IT,or_false]at b;rcases b with rfl | rfl | rfl | rfl | rfl | rfl<;>with_unfolding_all rfl
theorem Dq:bo X (.builtin "isinstance") (λe H Q=>∃v a,e=[v,.ty "str"]/\a∈["NoneType","bool","int","str","list","tuple"]/\fy X.K H v (.type a)/\Q (.bl (a == "str")) H):=by
 intro d s j H l m Q I r h;obtain⟨v,a,rfl,f,b,q⟩:=h;obtain⟨u,w,rfl,g,c⟩:=mS r;cases c;exact sF I g b (Dp X.K a f) λi=>⟨.bl _,H,I.tok i,rfl,q⟩
theorem vB{e:Expr}{d:ED}{p p2 q:Pos}(he:PE X e (aB X.K cm d))(D:Gl X "isinstance")(E:X.mg "isinstance" = none)(s:Gl X "str")(u:X.mg "str" = none)
 (hs:starEach [e,.Name "str" p2] X.env=(false,eval e X.env)::starEach [.Name "str" p2] X.env:=by exact D8 rfl) (w:starEach [Qm "str" p2] X.env=(false,eval (.Name "str" p2) X.env)::starEach [] X.env:=by exact D8 rfl) (hpl:(backTo q (starEach [Qm "str" p2] X.env)).any (·.1)=false:=by rfl) :
 PE X (.Call (.Name "isinstance" p) [e,.Name "str" p2] [] q) (aB X.K cm (nv d)):=
 E7 (X1 Dq D E MU (kP he (kP (se (v:=.ty "str") s u (show bootBuiltins "str" = some (.type "str")from by rfl) rfl (by decide) (by decide)) oQ w) hs) (he:=hs) (hpl:=hpl)) λσ H Q G=>by
  obtain⟨I,A,y,v,A',J,L,N,k⟩:=G;obtain⟨x,O,T,B⟩:=B0 N;obtain⟨b,A2,j,C⟩:=B0 B;cases C;refine⟨I,A,y,x,O,J,L,T,λg m v1 o f h=>?_⟩;cases x with
  | non=>cases h;cases j;exact⟨_,"NoneType",rfl,by simp,.non,k g m _ o f (.bl _)⟩
  | bl c=>cases h;cases j;exact⟨_,"bool",rfl,by simp,.bl c,k g m _ o f (.bl _)⟩
  | int i=>cases h;cases j;exact⟨_,"int",rfl,by simp,.int i,k g m _ o f (.bl _)⟩
  | str z=>cases h;cases j;exact⟨_,"str",rfl,by simp,.str z,k g m _ o f (.bl _)⟩
  | tup l=>
    cases h with
    | tup U r=>cases j;exact⟨_,"tuple",rfl,by simp,.tup U,k g m _ o f (.bl _)⟩
  | ref n=>
    obtain⟨l,A3,Y,Z⟩:=B0 j;obtain⟨rfl,hA,a,xs,rfl,hn,hH,r⟩:=N7 f h Y;cases Z;exact⟨_,"list",rfl,by simp,.lst hH,k g m _ o f (.bl _)⟩
end
theorem Dr{P:Ib}{w:IW}{K:HE}{mg:Str->Option HD}{base:Heap}{d:Nat->Addr}{k n:Nat}{e:Addr}{f:Ia}{ps:List Str}:az P w K mg base aX k e f ps (aZ K d (λ_=>stuck) n):=
 ⟨λg H Q E ⟨h,A,i,v,j,_,_,_,a,_⟩=>(nomatch a),λA b s H c l g Q E m o p q ⟨h,B,i,v,j,_,_,_,a,_⟩=>(nomatch a)⟩
theorem qJ{J:It}{g:GD}{b:SD}(c:v9 b):∀(f i:Nat)(σ:PSt)(A:PHp)(v:PV)(A':PHp),c8 J g b f i σ A≠.ok (.rt v) A'
 | 0,i,σ,A,v,A',h=>by rw[tz]at h;cases h
 | f+1,i,σ,A,v,A',h=>by
   rw[T6]at h;obtain⟨x,l,m,h⟩:=B0 h;cases x with
   | none=>cases h
   | some y=>
     obtain⟨e,n,p,h⟩:=B0 h;obtain⟨o,d,j,h⟩:=B0 h;cases o with
     | nx a=>exact qJ c f (i+1) a d v A' h
     | ct a=>exact qJ c f (i+1) a d v A' h
     | bk a=>cases h
     | rt z=>exact c _ _ _ _ j
theorem vC{a:ID}{g:GD}{b:SD}(c:v9 b):v9 (v8 a g b):=λd A v e h=>by
 obtain⟨J,f,i,h⟩:=B0 h;obtain⟨n,j,l,h⟩:=B0 h;exact qJ c _ _ _ _ _ _ h
theorem Ds{d y e:ED}:v9 (kZ d y e):=λf A v g h=>by
 obtain⟨j,l,o,h⟩:=B0 h;obtain⟨b,p,q,h⟩:=B0 h;obtain⟨c,r,s,h⟩:=B0 h;cases b with
 | ref n=>
   cases a:Q1 c with
   | none=>rw[a]at h;cases h
   | some i=>
     rw[a]at h;obtain⟨m,u,w,h⟩:=B0 h;obtain⟨_,h⟩:=C9 h;cases h
 | _=>cases h
section
variable{prog:Ib}{w:IW}{A:IN}{E:HD->HF->Prop}{s:HF}{d:Addr}{es:Array NL}{ep:Nat}
theorem gV.type(a:gV s.heap d es ep):s.TypeIs (.ref d) "dict":=let⟨o,b,c,_⟩:=a;⟨o,b,c.1⟩
theorem Dt{Q:HD->HF->Prop}(lo:(d == sysModules)=false)(c:gV s.heap d es ep)
 (h:Q (.ref s.heap.objs.size) { s with heap:=s.heap.push { cls:=.type "dict_keyiterator",data:=.fields #[.ref d,.int 0 0,.int es.size 0,.int ep 0] } }):wpAny (model prog w) A (pyIter (.ref d)) Q E s:=by
 have b:=c.type;obtain⟨o,g,i,a⟩:=id c;refine Mv b Mp (II Mp b PySem.F.entry_dict_iter ?_ (PySem.F.args_dict_iter_1 _));unfold Ji.«dict.__iter__»;refine Hz ?_;unfold Ji.Dict.dictSlotNone;refine Hz (KD b (show wpAny _ _ (pure (HW d)) _ _ s from HB ?_));refine(show wpAny _ _ (MI d>>=_) _ _ s from ?_);unfold MI;rw[if_neg (by rw[lo];simp)];refine Hz (HB (Hz (JZ g a (Hz (Nq g a ?_)))));refine Hz (Ja (HB ⟨_,rfl,"dict_keyiterator",_,⟨_,HI _ rfl,rfl⟩,Jn.lookup,?_⟩));simpa[rawInt]using h
theorem Du{b:Addr}{i:Nat}{Q:Option HD->HF->Prop}(a:s.heap.IsKeyIter b d i es.size ep)(n:gV s.heap d es ep)(j:i<es.size)
 (p:∀l,l.IsKeyIter b d (i+1) es.size ep->Jr b s.heap l->Q (some es[i].key) { s with heap:=l }):wpAny (model prog w) A (pyNext (.ref b)) Q E s:=by
 obtain⟨o,m,q,h⟩:=id a;obtain⟨u,f,r,g⟩:=id n;have own:MZ "dict_keyiterator" = false:=by decide
 unfold pyNext;refine Hz (Mi (Jd (name:=KR "__next__") a.typeIs Jn
  (II Jn a.typeIs LR ?_ (LL _))))
 refine Hz (HB (Hz (Hz ?_)));first | refine Hz (Km a.typeIs (HB ?_)) | refine Hz (KP a.typeIs (HB ?_))
 refine Hz (NF m h ?_);simp only[own,IB,if_false];show wpAny _ _ (if(HW d == Iu)=true then _ else _) _ _ s;rw[if_neg (show ¬((HW d == Iu)=true)from IP)];refine Hz (HB (Hz (JZ f g ?_)));rw[if_neg (by simp)];refine Hz (HB (Hz (Nq f g ?_)));rw[if_neg (by simp)];refine HB ?_;simp only[show ¬((i:Int)<0)from by omega,if_false,KN,Kd j];refine Hz ?_;first | refine Hz (Km a.typeIs (HB ?_)) | refine Hz (KP a.typeIs (HB ?_))
 refine Hz (OS a.typeIs ?_);show wpAny _ _ (setField (.ref b) 1 (rawInt ((i:Int)+1))>>=_) _ _ s;refine Hz (Kc m h (by simp) ?_);have c:(s.heap.update b (Jz (·.setIfInBounds 1 (rawInt ((i:Int)+1))))).IsKeyIter b d (i+1) es.size ep:=
  ⟨_,IM _ m (JM (IQ h _)),(Ls ..).trans q,by rw[IQ h];simp[rawInt]⟩
 refine Hz (IY ?_);refine Hz (OS (s:={ s with heap:=s.heap.update b (Jz (·.setIfInBounds 1 (rawInt ((i:Int)+1)))) }) c.typeIs ?_);show wpAny _ _ (pure es[i].key) _ _ _;exact HB (HB ⟨_,rfl,HB (p _ c (IH ..))⟩)
theorem Dv{g:Addr}{Q:Option HD->HF->Prop}(n:A.handled=none)(c:s.heap.IsKeyIter g d es.size es.size ep)(p:gV s.heap d es ep)
 (q:∀h,Pu g s.heap h->Q none { s with heap:=h }):wpAny (model prog w) A (pyNext (.ref g)) Q E s:=by
 obtain⟨o,j,u,l⟩:=id c;obtain⟨v,e,r,f⟩:=id p;have own:MZ "dict_keyiterator" = false:=by decide
 unfold pyNext;refine Hz (Mi (Jd (name:=KR "__next__") c.typeIs Jn
  (II Jn c.typeIs LR ?_ (LL _))))
 refine Hz (HB (Hz (Hz ?_)));first | refine Hz (Km c.typeIs (HB ?_)) | refine Hz (KP c.typeIs (HB ?_))
 refine Hz (NF j l ?_);simp only[own,IB,if_false];show wpAny _ _ (if(HW d == Iu)=true then _ else _) _ _ s;rw[if_neg (show ¬((HW d == Iu)=true)from IP)];refine Hz (HB (Hz (JZ e f ?_)));rw[if_neg (by simp)];refine Hz (HB (Hz (Nq e f ?_)));rw[if_neg (by simp)];refine HB ?_;simp only[show ¬((es.size:Int)<0)from by omega,if_false,KN,JC (HG es.size)];refine Hz ?_;first | refine Hz (Km c.typeIs (HB ?_)) | refine Hz (KP c.typeIs (HB ?_))
 show wpAny _ _ (setField (.ref g) 0 .none>>=_) _ _ s;refine Hz (Kc j l (by simp) ?_);show wpAny _ _ (newExc (.type "StopIteration") []>>=_) _ _ _;refine Hz ?_;simp only[newExc,newTuple];refine Hz (Ja ?_ (by size_fits));refine Hz (m:=firstArgMember _ _) (Pw (a:=Iu) (by first | rfl | (simp only[firstArgMember];rfl)) ?_);refine Ja ?_ (by size_fits);simp only[raiseNew];refine Hz (PR ?_);rw[show A.in1.handled=none from n];refine Hz (HB (Qs ?_));refine Hz (LO (T:="StopIteration") (b:=true) ⟨_,HI _ rfl,rfl⟩ Pg ?_);exact HB (q _ (((IH ..).extBut.push _).push _))
theorem Dw(hh:A.handled=none)(I:Addr)(hne:d≠I):Qz prog w A I [I,d] [I] es.size (λi v=>(es[i]?).map (·.key)=some v) (λi h=>h.IsKeyIter I d i es.size ep/\gV h d es ep) where
 sub:=λb hb=>by simp at hb;simp[hb]
 frame:=λ_ _ _ st hk=>⟨st.1.at λo e=>hk I (by simp) o e,st.2.at λo e=>hk d (by simp) o e⟩
 item:=λi s Q E hi st hQ=>by
  refine Du st.1 st.2 hi λh' hit' hs'=>?_;exact hQ _ h' s.toks (by rw[Kd hi];rfl) ⟨hit',st.2.at λo e=>hs'.extBut d o hne e⟩ λb o hb e=>hs'.extBut b o (λh=>hb (by simp[h])) e
 done:=λs Q E st hQ=>Dv hh st.1 st.2 λh' he'=>hQ h' s.toks λb o hb e=>he' b o (λh=>hb (by simp[h])) e
 self:=λ_ _ _ _ st hQ=>wpAny_pyIter_keyiter st.1 hQ
theorem Dx(lo:(d == sysModules)=false):KdlSrc prog w "dict" d d es.size (λi v=>(es[i]?).map (·.key)=some v) (λh=>gV h d es ep) where
 type:=λ_ hm=>hm.type
 there:=λ_ hm=>⟨let⟨_,ho,_⟩:=hm;HJ ho,let⟨_,ho,_⟩:=hm;HJ ho⟩
 keep:=λ_ _ hm hk=>hm.at λo e=>hk d (.inl rfl) o e
 notList:=by decide
 notTuple:=by decide
 hint:=λ_ _ _ _ hm hq=>kdl_hint_dict hm.type hq
 iter:=λ_ _ hh hm=>⟨_,_,(λ_ _ hq=>Dt lo hm hq),Dw hh _ (HS (let⟨_,ho,_⟩:=hm;HJ ho)),⟨⟨_,HI _ rfl,rfl,rfl⟩,hm.at λo e=>HA _ e⟩⟩
end
section
variable{X:Cx}{cm:Nat->Addr}
noncomputable def rSortDT:List V->Hp->VK->Prop:=λd H Q=>∃(a:Addr)(kvs:List (List Key×V))(b:List (List Int)),d=[.ref a]/\H a=some (.dT kvs)/\kvs.map (·.1)=b.map (Nz (Jq:Int->Key))/\(∀t∈b,t≠[])/\b.length<64/\
 ∀(l:Addr)(p:List Nat)(c:List V),Paired (gw H) c b->V0 b c.length p->H l=none->Q (.ref l) (aF H l (.lst (p.map λi=>c.getD i .non)))
theorem Dy{H:Hp}:∀{kvs:List (List Key×V)}{xs:List (List Key×Addr×HD)}{a:List (List Int)},KT H kvs xs->kvs.map (·.1)=a.map (Nz (Jq:Int->Key))->(∀t∈a,t≠[])->Paired (gw H) (xs.map λq=>V.ref q.2.1) a:=by
 intro kvs xs a r;unfold KT at r;induction r generalizing a with
 | nil=>
   intro e _;cases a with
   | nil=>exact .nil
   | cons t a=>cases e
 | @cons p q _ _ h _ ih=>
   intro e b;cases a with
   | nil=>cases e
   | cons t a=>
     rw[Ic,Ic]at e;injection e with c d;refine .cons ⟨_,rfl,?_,b t HM⟩ (ih d λu f=>b u (HR _ f));rw[h.2.1,c,HV];rfl
theorem Dz(B:X.calm=true):bo X (.builtin "sorted") rSortDT:=by
 intro a9 s σ H n us Q I r h;obtain⟨a,G,T,rfl,hH,f,U,c2,q⟩:=h;obtain⟨u,rfl,rx⟩:=l9 r;cases rx;obtain⟨z,hd,n,C,dd⟩:=mX I.hok hH;obtain⟨oo,es,ep,Y,hc,J,D,Z,a0⟩:=id dd;have g:es.size=n.length:=OR D;have hl:G.length=n.length:=Paired.length C;have w:G.length=T.length:=by
  have:=congrArg List.length f;simpa using this
 have hT:=Dy C f U;refine LJ Qp Qc Qd (Qe _) ?_;unfold Ji.«sorted»;refine Hz (m:=checkCount "sorted" 1 1 _) (HB ?_);refine Hz (kdu_collect (A:=_) (Dx (es:=es) (ep:=ep) hd) (I.ok.hd B) ⟨oo,Y,hc,J⟩ (by rw[g,←hl];exact z) λO tk d hk y=>?_);have x:d.toList=n.map λq=>HW q.2.1:=by
  refine NR λj=>?_;rw[Jv];cases hj:d[j]? with
  | none=>
    have L:d.size<=j:=by simpa using hj
    rw[y.1,g]at L;rw[IZ (by simpa using L)]
  | some v=>
    have L:(es[j]?).map (·.key)=some v:=y.2 j v hj;rw[entry_at D j,Option.map_map]at L;rw[Ij];exact L.symm
 have l:d.toList.length=T.length:=by rw[x,HC,←hl,w]
 have I1:=I.kept (t':=tk) hk;have hv:aE (n.map λq=>V.ref q.2.1) d.toList:=by
  rw[x];clear x l hT D hl C dd g Z a0;induction n with
  | nil=>exact .nil
  | cons q r ih=>exact .cons rfl ih
 refine Hz (Oi ?_ (by rw[l,JH];omega));have E:(O.push (seqObj "list" d.toList.toArray 0)).get? O.objs.size=some (seqObj "list" d.toList.toArray 0):=HI _ rfl;have a4:=qj I1 hv hT;refine Hz (IY (II Pe ⟨_,E,rfl⟩ OO (o8 E (L2.Paired.mapP a4 λv t ⟨b,o,a5,k,e,q,r⟩=>⟨b,o,a5,k,e,HA _ q,r⟩) (by omega) λp hp=>⟨_,rfl,?_⟩) (Pf _)));refine HB ⟨_,rfl,?_⟩;have a6:(n.map λq=>V.ref q.2.1).length=d.toList.length:=by rw[x];simp
 have N:V0 T (n.map λq=>V.ref q.2.1).length p:=by rw[a6];exact hp
 obtain⟨c,a7⟩:=sortedHeap_at (out:=KS (p.map λi=>d.toList.getD i Iu)) E;have a8:p.length=d.toList.length:=by rw[hp.1.length_eq];simp
 refine⟨.ref O.objs.size,_,I1.laid (t':=tk) (a:=O.objs.size) (o:=.lst (p.map λi=>(n.map λq=>V.ref q.2.1).getD i .non)) (λb o e2=>?_) (HG _) ?_,rfl,q _ p _ hT N (I1.hok.fresh (HG _))⟩
 ·have w:=HJ e2;rw[sortedHeap_old (HS w) (by rw[OU];exact JL w)];exact HA _ e2
 ·refine⟨by rw[HC,a8,l,JH];omega,p.map λi=>d.toList.getD i Iu,c,qk hv p λi hi=>?_,a7⟩;have:=N.1.mem_iff.mp hi;simpa using this
theorem DA{e:Expr}{d:ED}{p s:Pos}(g:X.calm=true)(he:PE X e (aB X.K cm d))(O:Gl X "sorted")(T:X.mg "sorted" = none)(hs:starEach [e] X.env=(false,eval e X.env)::starEach [] X.env:=by exact D8 rfl):PE X (.Call (.Name "sorted" p) [e] [] s) (aB X.K cm (pI d)):=
 E7 (X1 (Dz g) O T Ma (ae he am hs) (he:=hs)) λσ H Q h=>i5 (f:=λx=>match x with | .ref n=>ap (T4 n) λm=>G0 (m.length<64/\∀p∈m,p.1≠[]) (alloc (.lst ((J8 G7 (m.map (·.1))).map λt=>.tup (t.map .int)))) | _=>stuck) (λ_=>rfl) (λr A H x z A' v Q u U I k=>by
  cases x with
  | ref n=>
    obtain⟨m,A1,Y,w⟩:=B0 I;obtain⟨rfl,hA,a,Z,rfl,hn,hH,hp⟩:=P5 u U Y;obtain⟨⟨y,B⟩,C⟩:=C9 w;cases C;refine⟨a,Z,m.map (·.1),rfl,hH,by rw[hp.keys,HV];rfl,λt ht=>?_,by simpa using y,λD p E G hs J=>?_⟩
    ·obtain⟨q,hq,rfl⟩:=HQ.mp ht;exact B q hq
    generalize m.map (·.1)=c at G hs k;have l:E.length=c.length:=Paired.length G;rw[l]at hs;have L:(p.map λi=>c.getD i [])=J8 G7 c:=t9 (lt:=G7) kX ((uJ c [] hs.1).trans (R5 _ _).symm) hs.2 (tO c);have j:∀i∈p,i<c.length:=λi o=>by simpa using hs.1.mem_iff.mp o
    have hr:aQ r H (c.map λt=>PV.tup (t.map .int)) E:=by
     clear hs L j l k;induction G with
     | nil=>exact .nil
     | cons h _ ih=>
       obtain⟨b,rfl,hb,_⟩:=h;exact .cons (.tup hb (aQ.ints _)) ih
    have ep:(J8 G7 c).map (λt=>PV.tup (t.map .int))=p.map λi=>(c.map λt=>PV.tup (t.map .int)).getD i .non:=by
     rw[←L,HV];refine Jj λi o=>?_;have:=j i o;simp[this]
    have N:aC r H (r++[D]) (aF H D (.lst (p.map λi=>E.getD i .non))):=aC.new J;refine k (r++[D]) _ _ N (u.alloc J ⟨_,C8,?_⟩ rfl) (.ref (by rw[←u.len];simp));rw[ep];exact(ql hr p λi o=>by rw[HC];exact j i o).mono N
  | _=>cases I) h
end
end Ws
namespace Ws
open PySem PySem.W PyProof.Rows PySem.Builtin PySem.Builtin.Str L2
section
variable{X:Cx}{cm:Nat->Addr}
theorem og{x z:Str}{a:Pos}(c:Gl X x)(b:∃t,X.mg x=some (.str z t))(d:(x == ("__debug__" : Str))=false:=by decide):PE X (.Name x a) (aB X.K cm (eK (.str z))):=by
 obtain⟨t,b⟩:=b;exact kr (sd c b (show L2.RelV (.str z) (.str z t)from⟨t,rfl⟩) d) λ_ _=>.str z
end
end Ws
namespace Ws
open PySem PySem.W PyProof.Rows L2
section
variable{prog:Ib}{w:IW}{K:Type}[DecidableEq K]{knd:HeapKind prog w K}{A:IN}{E:HD->HF->Prop}{s:HF}
theorem DB{d a:Addr}{xs:List (K×Addr×HD)}{k:K}{v:HD}{Q:HD->HF->Prop}(C:knd.room A)(b:knd.is s.heap k a)(J:s.heap.DictOfH knd d xs)(hsz:xs.length<=sizeLine)
 (e:∀p,atKey xs k=some p->Q p.2 { s with toks:=s.toks+knd.draws k })
 (f:atKey xs k=none->∀u,u.DictOfH knd d (storedH xs k a v)->Jr d s.heap u->Q v { s with heap:=u,toks:=s.toks+knd.draws k }) :
 wpAny (model prog w) A (dictSetDefault d (.ref a) v) Q E s:=by
 obtain⟨o,G,L,l,N,g,c,n,z⟩:=J;have q:G.size=xs.length:=OR c;unfold dictSetDefault;refine IY ?_;refine Hz (knd.pyHash C b ?_);refine Hz (wpAny_dictFind_heap (s:={ s with toks:=s.toks+knd.draws k }) C b l g c n z (λh=>?_) λj p r=>?_)
 ·have H:=atKey_none_of_get h;have i:storedH xs k a v=xs++[(k,a,v)]:=by
   unfold storedH;rw[H];rfl
  refine Hz (Lu ?_);refine Hz (wpAny_updateDictKeys (hz:=by rw[q];exact hsz) (s:={ s with toks:=s.toks+knd.draws k }) l g (HB (f H _ ⟨_,_,L+1,IM _ l (PB (LC g _)),
   N.mapDictKeys _,LC g _,?_,λx m=>?_,?_⟩ (IH ..))))
  ·rw[i,Ii,←c,Array.toList_push];rfl
  ·rw[i]at m;rcases Ir.mp m with m | m
   ·exact knd.keeps (n x m) l g (IH ..)
   ·cases HH.mp m;exact knd.keeps b l g (IH ..)
  ·rw[i,Ii];refine Jy.mpr ⟨z,by simp,?_⟩;intro Z O b1 I T;rw[Ic,LY,HH]at I;obtain⟨y,U,Y⟩:=HQ.mp O;obtain⟨j,r⟩:=List.getElem?_of_mem U;refine h j y.2 ?_;rw[r,show k=y.1 from I.symm.trans (T.symm.trans Y.symm)]
 ·refine Hz (JZ (s:={ s with toks:=s.toks+knd.draws k }) l g ?_);have B:G[j]?=some (entryOfKey knd (k,p)):=by rw[entry_at c j,r];rfl
  rw[B];exact Hz (Lu (HB (e p (atKey_of_get z r))))
theorem DC{d a:Addr}{xs:List (K×Addr×HD)}{k:K}{dflt:HD}{Q:HD->HF->Prop}(l:(d == sysModules)=false)(m:knd.room A.in1)(e:knd.is s.heap k a)(h:s.heap.DictOfH knd d xs)(hsz:xs.length<=sizeLine)
 (b:∀p,atKey xs k=some p->∀g,Q p.2 { s with toks:=g })
 (c:atKey xs k=none->∀f g,f.DictOfH knd d (storedH xs k a dflt)->Jr d s.heap f->Q dflt { s with heap:=f,toks:=g }) :
 wpAny (model prog w) A (call (.builtin "dict.setdefault") [.ref d,.ref a,dflt]) Q E s:=by
 have j:=h.typeIs;refine II Na j PySem.F.entry_dict_setdefault ?_ (PySem.F.args_dict_setdefault_3 _ _ _);unfold Ji.«dict.setdefault»;refine Hz ?_;unfold Ji.Dict.keyAndDefault;refine Hz (KD j ?_);show wpAny _ _ (pure (d,HW a,some dflt)) _ _ s;refine HB ?_;show wpAny _ _ (if(d == sysModules)=true then _ else _) _ _ s;rw[if_neg (by rw[l];exact IP)];refine Hz (DB m e h hsz (λp n=>?_) λo f q r=>?_)
 ·exact HB ⟨_,rfl,b p n _⟩
 ·exact HB ⟨_,rfl,c o f _ q r⟩
end
section
variable{X:Cx}{cm:Nat->Addr}{o e f:Expr}{apos cpos:Pos}{td ty tx:TE}
noncomputable def DD(td ty tx:TE):TE:=λg H Q=>td g H λx h=>∃a,x=.ref a/\mZ h a/\ty g h λy i=>tx g i λz d=>∃c k b,d a=some (.dT c)/\y=.ref b/\d b=some (.tup (k.map L2.kV))/\
 (∀v,Z3 c k=some v->Q v d)/\(Z3 c k=none->c.length<sizeLine/\Q z (aF d a (.dT (S5 c k z))))
theorem DE(Y:X.A.units+1<cLine)(Z:PE X o td)(he:PE X e ty)(hf:PE X f tx)(m:M2 X o "setdefault" apos e f cpos):PE X (.Call (.Attribute o "setdefault" apos) [e,f] [] cpos) (DD td ty tx):=by
 intro i s q H Q I h;refine NO m.base m.few m.line Mf Na PySem.F.type_dict_setdefault (aP (Z i s q H _ I h) λu s1 zq=>?_);obtain⟨x,H1,E,rx,a,ex,d,q1⟩:=zq;subst ex;obtain rfl:u=HW a:=rx;obtain⟨t1,t2,_⟩:=oZ E d;refine⟨t1,t2,?_⟩;rw[m.trees];refine Lb rfl (LB (Kh (aP (he i s1 q H1 _ E q1) λiv s2 ⟨y,H2,I2,ry,q2⟩=>
  Kh (aP (hf i s2 q H2 _ I2 q2) λfv s3 ⟨z,H3,n,G,g,k,b,r,ey,J,q3,L⟩=>Lp ?_))))
 subst ey;cases(show iv=HW b from ry);obtain⟨zz,N,xs,j,dd⟩:=mX n.hok r;have hl:g.length=xs.length:=Paired.length j;refine DC (knd:=TK X.prog X.w) N (Ki Y) (m6 n.hok J) dd (by rw[←hl];exact zz) (λp hp B=>?_) λh0 h' B C hs=>?_
 ·have:=j.val k;rw[hp]at this;cases l:Z3 g k with
  | none=>rw[l]at this;exact this.elim
  | some v=>rw[l]at this;exact⟨v,H3,n.kept (h':=s3.heap) (t':=B) (λ_ _ e=>e),this,q3 v l⟩
 ·have:=j.val k;rw[h0]at this;cases l:Z3 g k with
  | some v=>rw[l]at this;exact this.elim
  | none=>
    have e4:=(L l).1;have D:(S5 g k z).length<=sizeLine:=by have:=m5 g k z;omega
    obtain⟨O,es,ep,T,h2,h3,h4,_,h5⟩:=C;refine⟨z,_,oY (ob:=.dT (S5 g k z)) (t':=B) n (by rw[r];exact KI) hs ⟨O,T⟩ ⟨D,N,_,KT.keeps (j.put k J G) (λc ys U=>?_),O,es,ep,T,h2,h3,h4,h5⟩,G,(L l).2⟩;rw[D3 (rX U r (λz=>nomatch z))];exact U
theorem vD{d y x:ED}(hu:X.A.units+1<cLine)(ho:PE X o (aB X.K cm d))(he:PE X e (aB X.K cm y))(hf:PE X f (aB X.K cm x))(m:M2 X o "setdefault" apos e f cpos:=by exact⟨rfl,rfl,rfl,rfl⟩):PE X (.Call (.Attribute o "setdefault" apos) [e,f] [] cpos) (aB X.K cm (ko d y x)):=
 E7 (DE hu ho he hf m) λσ H Q hq=>by
  obtain⟨ρ,A,p,v,A',rl,Z,ev,k⟩:=hq;obtain⟨xv,A1,e1,B⟩:=B0 ev;refine⟨ρ,A,p,xv,A1,rl,Z,e1,λa0 H1 v1 O C D=>?_⟩;cases xv with
  | ref n=>
    obtain⟨m0,A2,e2,a1⟩:=B0 B;obtain⟨rfl,hA,a,kv,rfl,hn,hH,hp⟩:=P5 C D e2;obtain⟨kx,A3,e3,a2⟩:=B0 a1;obtain⟨z,A4,e4,q⟩:=B0 a2;refine⟨a,rfl,.inr ⟨kv,.inl hH⟩,a0,_,p,kx,A3,C,Z.mono O,e3,λa4 H2 v2 T a5 a6=>⟨a4,A3,p,z,A4,a5,(Z.mono O).mono T,e4,λg H3 v3 U h E=>?_⟩⟩;rcases G:Q1 kx with _ | j<;>rw[G]at q
    ·cases q
    obtain⟨mm,A5,e5,i⟩:=B0 q;obtain⟨rfl,I,a3,J,e6,L,a7,l⟩:=P5 h ((D.mono T).mono U) e5;cases e6;obtain⟨b,rfl,hb⟩:=Y1 G (a6.mono U);refine⟨J,j.map Jq,b,a7,rfl,hb,λw r=>?_,λr=>?_⟩
    ·rcases PT2.val j l with⟨N,s⟩ | ⟨w',u,N,s,g3⟩
     ·rw[s]at r;cases r
     ·rw[s]at r;cases r;rw[N]at i;cases i;exact k g _ _ ((O.trans T).trans U) h g3
    ·rcases PT2.val j l with⟨N,s⟩ | ⟨w',u,N,s,g3⟩
     ·rw[N]at i;obtain⟨c,a8⟩:=C9 i;cases a8;have Y:aC g H3 g (aF H3 a (.dT (S5 J (j.map Jq) v3))):=aC.put h L I rfl;exact⟨by rw[←l.len];exact ks c,k g _ _ (((O.trans T).trans U).trans Y) (h.put L I rfl rfl ⟨_,C8,PT2.put (E.mono Y) j (l.mono Y)⟩) (E.mono Y)⟩
     ·rw[s]at r;cases r
  | _=>cases B
end
section
variable{X:Cx}{cm:Nat->Addr}
theorem DF(bs:List Bool):((Iw bs.length).any λi=>(bs[i]?).getD true)=bs.any id:=by
 induction bs with
 | nil=>rfl
 | cons b r ih=>
   rw[Il,Mn,KC,List.any_map,KC,←ih];rfl
noncomputable def DG(K:HE):List V->Hp->VK->Prop:=λb H Q=>∃(a:Addr)(bs:List Bool),b=[.ref a]/\bv K H a (bs.map V.bl)/\Q (.bl (bs.any id)) H
theorem DH(d:X.calm=true):bo X (.builtin "any") (DG X.K):=by
 intro p s L H N O Q I r h;obtain⟨a,bs,rfl,x,q⟩:=h;obtain⟨u,rfl,y⟩:=l9 r;cases y;obtain⟨c,w,z,T⟩:=I.list x;have f:=z.isList;have l:a<s.heap.objs.size:=by
  obtain⟨_,e,_⟩:=f;exact HJ e
 have g:c.length=bs.length:=by
  have:=w.length;simpa using this.symm
 refine call_any_walk (JY f ⟨s.heap.objs.size,[s.heap.objs.size,a],[s.heap.objs.size],c.toArray.size,_,_,λi=>(bs[i]?).getD true,rfl,
  Qz.list (A:=X.A.in1) (I.ok.hd d) _ a (HS l) c.toArray,⟨⟨_,HI _ rfl,rfl,rfl⟩,f.push _⟩,?_,?_⟩)
 ·intro i v B C U D m;obtain⟨b,n,rfl⟩:=qu w i v (by simpa using D);have j:C ((bs[i]?).getD true) B:=m;rw[n]at j;exact JJ j
 ·intro Y E G;have n:c.toArray.size=bs.length:=by rw[HU];exact g
  rw[n,DF];exact⟨.bl _,H,I.kept (t':=E) (λb o e=>G b o (λJ=>by rw[HH.mp J]at e;exact absurd (HJ e) (JO _)) (HA _ e)),rfl,q⟩
theorem vE{e:Expr}{d:ED}{p g:Pos}(c:X.calm=true)(he:PE X e (aB X.K cm d))(q:Gl X "any")(r:X.mg "any" = none)(hs:starEach [e] X.env=(false,eval e X.env)::starEach [] X.env:=by exact D8 rfl):PE X (.Call (.Name "any" p) [e] [] g) (aB X.K cm (le d)):=
 E7 (X1 (DH c) q r (by rfl) (ae he am hs) (he:=hs)) λB H Q h=>i5 (f:=λx=>match x with | .ref n=>ap (E4 n) λl=>(match V6 l with | some bs=>ret (.bl (bs.any id)) | none=>stuck) | _=>stuck) (λ_=>rfl) (λs A H x z A' v Q j u m k=>by
  cases x with
  | ref n=>
    obtain⟨l,A1,w,b⟩:=B0 m;obtain⟨rfl,a,C,rfl,y,o⟩:=K4 j u w;cases i:V6 l with
    | none=>rw[i]at b;cases b
    | some bs=>
      rw[i]at b;cases b;rw[d3 i]at o;exact⟨a,bs,rfl,by rw[←lD o];exact y,k s H _ (aC.refl _ _) j (.bl _)⟩
  | _=>cases m) h
end
end Ws
namespace Ws
open PySem PySem.W PyProof.Rows L2
noncomputable def foldH{K:Type}[DecidableEq K](ws:List (K×Addr×HD)):List (K×Addr×HD):=ws.foldl (λa p=>storedH a p.1 p.2.1 p.2.2) []
theorem DI{K:Type}[DecidableEq K](ws:List (K×Addr×HD))(p:K×Addr×HD):foldH (ws++[p])=storedH (foldH ws) p.1 p.2.1 p.2.2:=by
 unfold foldH;rw[NT];rfl
theorem DJ{K:Type}[DecidableEq K](xs:List (K×Addr×HD))(k:K)(a:Addr)(v:HD):(storedH xs k a v).length<=xs.length+1:=by
 unfold storedH;split<;>simp
theorem vF{K:Type}[DecidableEq K](ws:List (K×Addr×HD)):(foldH ws).length<=ws.length:=by
 have b:∀(l a:List (K×Addr×HD)),(l.foldl (λa p=>storedH a p.1 p.2.1 p.2.2) a).length<=a.length+l.length:=by
  intro l;induction l with
  | nil=>intro a;simp
  | cons p l ih=>
    intro a;have c:=ih (storedH a p.1 p.2.1 p.2.2);have d:=DJ a p.1 p.2.1 p.2.2;simp only[Nh,Il];omega
 simpa[foldH]using b ws []
theorem DK{K:Type}[DecidableEq K](ws:List (K×Addr×HD)):∀x∈foldH ws,∃q∈ws,x.1=q.1/\x.2.1=q.2.1:=by
 have d:∀(l a:List (K×Addr×HD)),∀x∈l.foldl (λa p=>storedH a p.1 p.2.1 p.2.2) a,(∃q∈a,x.1=q.1/\x.2.1=q.2.1)\/∃q∈l,x.1=q.1/\x.2.1=q.2.1:=by
  intro l;induction l with
  | nil=>intro a x c;exact .inl ⟨x,c,rfl,rfl⟩
  | cons p l ih=>
    intro a x c;rcases ih _ x c with⟨q,b,e⟩ | ⟨q,b,e⟩
    ·have b:q∈storedH a p.1 p.2.1 p.2.2:=b;unfold storedH at b;split at b
     ·obtain⟨g,f,rfl⟩:=HQ.mp b;refine .inl ⟨g,f,?_⟩;unfold putAt at e;split at e<;>exact e
     ·rcases Ir.mp b with z | z
      ·exact .inl ⟨q,z,e⟩
      ·cases HH.mp z;exact .inr ⟨p,HM,e⟩
    ·exact .inr ⟨q,HR _ b,e⟩
 intro x c;rcases d ws [] x c with⟨q,b,_⟩ | h
 ·cases b
 ·exact h
theorem oh{P:Ib}{w:IW}{h h':Heap}{k:List Key}{a:Addr}(c:(TK P w).is h k a)(d:∀o,h.get? a=some o->h'.get? a=some o):(TK P w).is h' k a:=by
 obtain⟨e,b,n,f,g⟩:=c;exact⟨e,b,n,d _ f,g⟩
theorem i9{P:Ib}{w:IW}{h h':Heap}{D:Addr}{xs:List (List Key×Addr×HD)}(a:h.DictOfH (TK P w) D xs)(b:∀o,h.get? D=some o->h'.get? D=some o)(c:∀x∈xs,(TK P w).is h' x.1 x.2.1):h'.DictOfH (TK P w) D xs:=by
 obtain⟨o,d,e,f,g,i,j,_,l⟩:=a;exact⟨o,d,e,b _ f,g,i,j,c,l⟩
theorem vG{P:Ib}{w:IW}{h:Heap}{ws:List (List Key×Addr×HD)}(b:∀j (a:j<ws.length),(TK P w).is h ws[j].1 ws[j].2.1)(i:Nat):∀x∈foldH (ws.take i),(TK P w).is h x.1 x.2.1:=by
 intro x c;obtain⟨q,d,e,f⟩:=DK _ x c;obtain⟨j,a,rfl⟩:=Pz (OY d);rw[e,f];exact b j a
section
variable{prog:Ib}{w:IW}{A:IN}{R:PL->HF->Prop}{E:HD->HF->Prop}{s:HF}
theorem DL{I D:Addr}{fp q:List Addr}{G:Array Ny->Array Ny->Prop}{P:Nat->HD->Prop}{St:Nat->HF->Prop}{ws:List (List Key×Addr×HD)}
 (W:WalksS prog w A.in1 I fp q G ws.length P St) (z:D∉fp) (res:HD) (u:Nat->Addr) (U:∀i v,P i v->v=.ref (u i)) (B:∀i,i<ws.length->u i≠D/\u i∉q) (x:∀i (hi:i<ws.length),ws[i].2.1≠D/\ws[i].2.1∉q) (hu:(TK prog w).room A.in1) (hz:ws.length<=sizeLine) :
 ∀(k i:Nat)(s:HF),ws.length - i=k->i<=ws.length->St i s->s.heap.DictOfH (TK prog w) D (foldH (ws.take i))->
  (∀j (c:j<ws.length),s.heap.IsTuple (u j) #[.ref ws[j].2.1,ws[j].2.2]/\(TK prog w).is s.heap ws[j].1 ws[j].2.1)->
  (∀d,QE (D::q) G s d->d.heap.DictOfH (TK prog w) D (foldH ws)->R (.ok (.ret res)) d)->
  codeAny (model prog w) A (.builtin "dict.update.loop" ⟨[.ref D,.ref I,rawInt i,res],[]⟩) R s:=by
 have C:D∉q:=λh=>z (W.sub _ h);have n:∀b∈q,b∈D::q:=λb H=>HR _ H;intro k;induction k with
 | zero=>
   intro i s hk hi y T g Y;have Z:i=ws.length:=by omega
   subst Z;rw[Jc]at T;refine Kg u8 ?_;rw[JT R7 _];show wpAny _ A.in1 (pyNext (.ref I)>>=_) _ _ s;refine Hz (W.done s _ _ y λd p=>?_);show wpAny _ A.in1 (KO D []>>=_) _ _ d;refine Hz (HB ?_);refine HB (Y d (p.mono n) ?_);refine i9 T (λo f=>p.heap D o C f) ?_;have:=vG (i:=ws.length) λj c=>oh (g j c).2 λo f=>p.heap _ o (x j c).2 f;rw[Jc]at this;exact this
 | succ k ih=>
   intro i s hk hi y T g Y;have l:i<ws.length:=by omega
   refine Kg u8 ?_;rw[JT R7 _];show wpAny _ A.in1 (pyNext (.ref I)>>=_) _ _ s;refine Hz (W.item i s _ _ l y λv d hP J p=>?_);obtain rfl:=U i v hP;have a:∀j (c:j<ws.length),d.heap.IsTuple (u j) #[.ref ws[j].2.1,ws[j].2.2]/\(TK prog w).is d.heap ws[j].1 ws[j].2.1:=by
    intro j c;obtain⟨⟨o,f,r⟩,h2⟩:=g j c;exact⟨⟨o,p.heap _ o (B j c).2 f,r⟩,oh h2 λo f=>p.heap _ o (x j c).2 f⟩
   have a1:d.heap.DictOfH (TK prog w) D (foldH (ws.take i)):=i9 T (λo f=>p.heap D o C f) (vG (i:=i) λj c=>(a j c).2);obtain⟨⟨ot,L,a2,nt,a3⟩,N⟩:=a i l;have hT:d.TypeIs (.ref (u i)) "tuple":=⟨ot,L,a2⟩;show wpAny _ A.in1 (holding [HW (u i)] _>>=_) _ _ d;refine Hz (IY ?_);refine Hz (wpAny_tryCatch ?_);unfold OF;refine Hz (LX hT ?_);rw[if_pos (by decide)];refine Hz (Kb L a3 ?_);refine HB ?_;show wpAny _ A.in1 (holding [HW ws[i].2.1,ws[i].2.2] (dictSet D (.ref ws[i].2.1) ws[i].2.2)) _ _ d;refine IY ?_;refine wpAny_dictSet_heap hu N a1 (λh' a4 m=>?_) (by have:=vF (ws.take i);have:(ws.take i).length<=ws.length:=(by rw[Jb];omega);omega);have a5:ws.take (i+1)=ws.take i++[ws[i]]:=by rw[Jh,HX l];rfl
   have hc:((i:Int)+1)=((i+1:Nat):Int):=by push_cast;rfl
   show wpAny _ A.in1 (again (.builtin "dict.update.loop" ⟨[.ref D,.ref I,rawInt ((i:Int)+1),res],[]⟩)) _ _ _;rw[hc];refine HB ⟨Lw R7 _,ih (i+1) _ (by omega) l (W.frame _ d _ _ J (Ky _ _) λb H o e=>?_) (by rw[a5,DI];exact a4) (λj c=>?_) λa6 O Q=>?_⟩
   ·rw[m.2 b (λh:b=D=>z (by rw[←h];exact H))];exact e
   ·obtain⟨⟨o,f,r⟩,h2⟩:=a j c;exact⟨⟨o,by rw[m.2 _ (B j c).1];exact f,r⟩,oh h2 λo f=>by rw[m.2 _ (x j c).1];exact f⟩
   ·refine Y a6 (QE.trans W.gtrans ((p.mono n).then_heap (Ky _ _) λb o H e=>?_) O) Q;rw[m.2 b (λh:b=D=>H (by rw[h];exact HM))];exact e
theorem DM{l:Addr}{items:Array HD}{ws:List (List Key×Addr×HD)}{Q:HD->HF->Prop}(hh:A.handled=none)(hu:(TK prog w).room A.in1.in1)(hl:PlainL s.heap l items)(Y:Nat->Addr)(hsz:items.size=ws.length)(hz:ws.length<=sizeLine)
 (u:∀j (hj:j<ws.length),items[j]?=some (.ref (Y j))/\s.heap.IsTuple (Y j) #[.ref ws[j].2.1,ws[j].2.2]/\(TK prog w).is s.heap ws[j].1 ws[j].2.1)
 (h:∀I tk,I.DictOfH (TK prog w) s.heap.objs.size (foldH ws)->(∀b o,s.heap.get? b=some o->I.get? b=some o)->Q (.ref s.heap.objs.size) { s with heap:=I,toks:=tk }) :
 wpAny (model prog w) A (call (.type "dict") [.ref l]) Q E s:=by
 refine Pp (Q₁:=λobj B=>obj=.ref s.heap.objs.size/\B={ s with heap:=s.heap.push { cls:=.type "dict",data:=.dict #[] } }) Mo (Lz _) Mm (Ov _ ⟨rfl,rfl⟩) ?_;rintro obj B ⟨rfl,rfl⟩;have c:(s.heap.push { cls:=.type "dict",data:=.dict #[] }).DictOfH (TK prog w) s.heap.objs.size []:=⟨_,#[],0,HI _ rfl,⟨rfl,rfl,rfl⟩,rfl,rfl,λx L=>(nomatch L),Mz⟩;obtain⟨ol,n,N,G,a0,m⟩:=id hl;have p:(s.heap.push { cls:=.type "dict",data:=.dict #[] }).get? l=some _:=HA _ N;have hT:Lv { s with heap:=s.heap.push { cls:=.type "dict",data:=.dict #[] } } (.ref l) "list":=⟨_,p,G⟩;refine⟨c.typeIs,Mc _ _,?_⟩;unfold Ji.«dict.__init__»;refine Hz ?_;unfold Md;refine Hz (KD c.typeIs ?_);show wpAny _ _ (pure (s.heap.objs.size,[HW l])) _ _ _;refine HB ?_;show wpAny _ _ (JS "dict.__init__" s.heap.objs.size (.ref l) [] .none) _ _ _;unfold JS;refine Hz (LX hT ?_);rw[if_pos (by decide)];refine Hz (y0 p G m a0 dL (by decide) (by simpa using hh) λy a1 e1 ne=>?_);simp only[Option.isNone_none,if_true];refine Hz (Lu ?_);have O:y.IsList l items:=⟨_,ne.keeps _ _ p,G,n,m⟩;refine Hz (JY (s:={ s with heap:=y,toks:=a1 }) O ?_);have a:s.heap.objs.size<y.objs.size:=by
  obtain⟨o,_,_,q,_⟩:=c;exact HJ (ne.keeps _ _ q)
 have H:y.DictOfH (TK prog w) s.heap.objs.size (foldH (ws.take 0)):=by
  exact i9 c (λo q=>ne.keeps _ _ q) λx L=>nomatch L
 have T:l<s.heap.objs.size:=HJ N;have U:l≠y.objs.size:=HS (Ll T a);have WW:=(Qz.list (prog:=prog) (w:=w) (A:=A.in1.in1) (by simpa using hh) y.objs.size l U items).toS;rw[hsz]at WW;have a2:s.heap.objs.size∉[y.objs.size,l]:=by
  simp only[HK,HH,IT,or_false,not_or];exact⟨HS a,JU T⟩
 have C:∀i,i<ws.length->Y i<s.heap.objs.size:=by
  intro i d;obtain⟨_,⟨o,q,_⟩,_⟩:=u i d;exact HJ q
 have D:∀i (d:i<ws.length),ws[i].2.1<s.heap.objs.size:=by
  intro i d;obtain⟨_,_,ot,c0,n,y,h2⟩:=u i d;exact HJ y
 refine HB ⟨Lw R7 _,DL WW a2 .none Y (λi v hv=>?_) (λi d=>⟨HS (C i d),?_⟩) (λi d=>⟨HS (D i d),?_⟩) hu hz ws.length 0 _ (by omega) (KU _)
  ⟨⟨_,HI _ rfl,rfl,rfl⟩,O.push _⟩ ?_ (λj hj=>?_) λs' Z hD=>?_⟩
 ·have d:i<ws.length:=by
   rcases Qb i items.size with z | z
   ·rw[←hsz];exact z
   ·rw[JC z]at hv;cases hv
  have:=(u i d).1;rw[hv]at this;exact Iv this
 ·rw[HH];exact HS (Ll (C i d) a)
 ·rw[HH];exact HS (Ll (D i d) a)
 ·exact i9 H (λo q=>HA _ q) λx L=>nomatch L
 ·obtain⟨_,⟨o,q,r⟩,h2⟩:=u j hj;exact⟨⟨o,HA _ (ne.keeps _ _ (HA _ q)),r⟩,oh h2 λo q=>HA _ (ne.keeps _ _ (HA _ q))⟩
 ·obtain⟨I,g',d',a4,a5⟩:=s';have eg:g'=s.gens:=Z.gens;have ed:d'=s.drawn:=Z.drawn;have eo:a5=s.os:=Z.os;subst eg;subst ed;subst eo;refine⟨rfl,h I a4 hD λb o e=>?_⟩;have hb:=HJ e;refine Z.heap b o ?_ (HA _ (ne.keeps _ _ (HA _ e)));simp only[HK,HH,IT,or_false,not_or];exact⟨HS hb,HS (Ll hb a)⟩
end
abbrev TripT:=Addr×Addr×List Int×V
def oi(H:Hp)(t:TripT):Prop:=H t.1=some (.tup [.ref t.2.1,t.2.2.2])/\H t.2.1=some (.tup ((t.2.2.1.map Jq).map L2.kV))
theorem vH{g:List Addr}{H:Hp}:∀{l:List PV}{xs:List V}{m:List (List Int×PV)},aQ g H l xs->gv l=some m->∃a:List TripT,xs=a.map (λt=>V.ref t.1)/\(∀t∈a,oi H t)/\m.map (·.1)=a.map (·.2.2.1)/\aQ g H (m.map (·.2)) (a.map (·.2.2.2))
 | [],xs,m,r,h=>by
   cases r;cases h;exact⟨[],rfl,by simp,rfl,.nil⟩
 | x::l,xs,m,r,h=>by
   cases r with
   | cons e j=>
     match x,e,h with
     | .tup [k,v],e,h=>
       rcases d:Q1 k with _ | i
       ·simp[gv,d]at h
       rcases f:gv l with _ | B
       ·simp[gv,d,f]at h
       ·simp only[gv,d,f,Np,Option.bind_some,Option.some.injEq]at h;subst h;obtain⟨a,n,o,p,q⟩:=vH j f;cases e with
        | tup s c=>
          cases c with
          | cons u c=>
            obtain⟨b,rfl,w⟩:=Y1 d u;cases c with
            | cons y c=>
              cases c;refine⟨(_,b,i,_)::a,by rw[n];rfl,λt A=>?_,by simp[p],.cons y q⟩;rcases HK.mp A with z | z
              ·subst z;exact⟨s,w⟩
              ·exact o t z
noncomputable def j0(b:List TripT)(a:List (List Key×V)):List (List Key×V):=b.foldl (λa t=>S5 a (t.2.2.1.map Jq) t.2.2.2) a
theorem vI{d:List Addr}{H:Hp}:∀(m:List (List Int×PV))(a:List TripT)(b:List (List Int×PV))(c:List (List Key×V)),m.map (·.1)=a.map (·.2.2.1)->aQ d H (m.map (·.2)) (a.map (·.2.2.2))->PT2 d H b c->PT2 d H (m.foldl (λf p=>Z4 f p.1 p.2) b) (j0 a c)
 | [],[],b,c,_,_,h=>h
 | [],_::_,_,_,e,_,_=>by simp at e
 | _::_,[],_,_,e,_,_=>by simp at e
 | p::m,t::a,b,c,e,r,h=>by
   simp only[Ic,Lm]at e;cases r with
   | cons g i=>
     show PT2 d H (m.foldl _ (Z4 b p.1 p.2)) (j0 a (S5 c (t.2.2.1.map Jq) t.2.2.2));rw[←e.1];exact vI m a _ _ e.2 i (PT2.put g p.1 h)
def vJ(s:HF)(t:TripT)(q:List Key×Addr×HD):Prop:=q.1=t.2.2.1.map Jq/\q.2.1=t.2.1/\L2.RelV t.2.2.2 q.2.2/\s.heap.IsTuple t.1 #[.ref q.2.1,q.2.2]
section
variable{X:Cx}{cm:Nat->Addr}{pins:List (Addr×Obj)}{σ:L2.St}{H:Hp}{s:HF}
theorem vK(I:L2.Inv X pins σ H s):∀(a:List TripT),(∀t∈a,oi H t)->∃b:List (List Key×Addr×HD),b.length=a.length/\∀j (c:j<b.length) (d:j<a.length),vJ s a[j] b[j]
 | [],_=>⟨[],rfl,λj c=>absurd c (by simp)⟩
 | t::a,h=>by
   obtain⟨b,e,f⟩:=vK I a λx g=>h x (HR _ g);obtain⟨_,i,l,m⟩:=I.hok _ _ (h t HM).1;obtain⟨n,o,rfl,p,q⟩:=mS l;cases(show n=HW t.2.1 from p);refine⟨(t.2.2.1.map Jq,t.2.1,o)::b,by simp[e],λj c d=>?_⟩;cases j with
   | zero=>exact⟨rfl,rfl,q,m⟩
   | succ j=>exact f j (by simpa using c) (by simpa using d)
theorem vL:∀(a:List TripT)(ws:List (List Key×Addr×HD))(b:List (List Key×V))(c:List (List Key×Addr×HD)),ws.length=a.length->(∀j (f:j<ws.length) (g:j<a.length),vJ s a[j] ws[j])->(∀t∈a,oi H t)->KT H b c->KT H (j0 a b) (ws.foldl (λd p=>storedH d p.1 p.2.1 p.2.2) c)
 | [],[],b,c,_,_,_,h=>h
 | [],_::_,_,_,e,_,_,_=>by simp at e
 | _::_,[],_,_,e,_,_,_=>by simp at e
 | t::a,q::ws,b,c,e,i,l,h=>by
   have r:=i 0 (by simp) (by simp);obtain⟨m,n,o,_⟩:=r;simp only[OG]at m n o;show KT H (j0 a (S5 b (t.2.2.1.map Jq) t.2.2.2)) (ws.foldl _ (storedH c q.1 q.2.1 q.2.2));refine vL a ws _ _ (by simpa using e) (λj f g=>by have:=i (j+1) (by simpa using f) (by simpa using g);simpa using this) (λx u=>l x (HR _ u)) ?_;rw[m,n];exact h.put _ (l t HM).2 o
theorem DN{e:Expr}{d:ED}{p q:Pos}(C:X.calm=true)(hu:X.A.units+64<cLine)(he:PE X e (aB X.K cm d))(hg:Gl X "dict")(hm:X.mg "dict" = none)
 (hs:starEach [e] X.env=(false,eval e X.env)::starEach [] X.env:=by exact D8 rfl) :
 PE X (.Call (.Name "dict" p) [e] [] q) (aB X.K cm (pJ d)):=by
 intro pins s σ H Q I h;obtain⟨ρ,A,T,v,A',rl,rs,ev,k⟩:=h;obtain⟨x,A1,e1,L⟩:=B0 ev;refine NA (S6 I hg hm (show bootBuiltins "dict" = some (.type "dict")from by rfl) (callWith_type1 (Z7 hs ?_) hs rfl));refine aP (he pins s σ H (λv r=>∃(a:Addr)(f:List TripT),v=.ref a/\bv X.K r a (f.map λt=>V.ref t.1)/\(∀t∈f,oi r t)/\f.length<=sizeLine/\∀l,r l=none->Q (.ref l) (aF r l (.dT (j0 f [])))) I ⟨ρ,A,T,x,A1,rl,rs,e1,λE r v1 x1 G U=>?_⟩) λu Y zq=>?_
 ·cases x with
  | ref n=>
    obtain⟨l,A2,Z,w⟩:=B0 L;obtain⟨rfl,hA,a,xs,rfl,hn,hH,r0⟩:=N7 G U Z;cases hi:gv l with
    | none=>rw[hi]at w;cases w
    | some m=>
      rw[hi]at w;obtain⟨c,a1⟩:=C9 w;cases a1;obtain⟨f,f1,f2,f3,f4⟩:=vH r0 hi;have hl:f.length=m.length:=by
       have:=congrArg List.length f3;simpa using this.symm
      refine⟨a,f,rfl,by rw[←f1];exact bv.of hH,f2,by rw[hl];exact MA (ks c),λD hD=>?_⟩;have ex:aC E r (E++[D]) (aF r D (.dT (j0 f []))):=aC.new hD;refine k (E++[D]) _ _ (x1.trans ex) (G.alloc hD ⟨_,C8,?_⟩ rfl) (.ref (by rw[←G.len];simp));exact vI m f [] [] f3 (f4.mono ex) ⟨rfl,.nil⟩
  | _=>cases L
 ·obtain⟨w1,r,B,r1,a,f,ew,hq,J,hz,qq⟩:=zq;subst ew;obtain rfl:u=HW a:=r1;obtain⟨a2,ri,pl,_⟩:=B.list hq;obtain⟨ws,g,w2⟩:=vK B f J;have N:a2.length=f.length:=by rw[←ri.length];simp
  refine DM (ws:=ws) (B.ok.hd C) (Ki (O1 X.A 1 (by omega))) pl (λj=>(f.getD j (0,0,[],.non)).1) (by rw[HU,N,g]) (by rw[g];exact hz) (λj hj=>?_) λh' tk dd hk=>?_
  ·have y:j<f.length:=by rw[←g];exact hj
   have e0:f.getD j (0,0,[],.non)=f[j]:=by simp[y]
   rw[e0];obtain⟨g1,g2,g3,g4⟩:=w2 j hj y;refine⟨?_,g4,?_⟩
   ·obtain⟨u,hu,ru⟩:=ri.get (i:=j) (x:=.ref f[j].1) (by rw[Ij,HX y];rfl);cases(show u=HW f[j].1 from ru);simpa using hu
   ·rw[g1,g2];exact m6 B.hok (J _ (MM y)).2
  ·have O:KT r (j0 f []) (foldH ws):=vL (s:=Y) f ws [] [] g w2 J .nil;have a3:(j0 f []).length<=sizeLine:=by
    rw[Paired.length O];exact Ih (vF ws) (by rw[g];exact hz)
   obtain⟨qo,es,ep,a4,h2,h3,h4,_,h5⟩:=dd;refine⟨.ref Y.heap.objs.size,_,B.laid (t':=tk) (a:=Y.heap.objs.size) (o:=.dT (j0 f [])) (λb o Z=>hk b o Z) (HG _) ⟨a3,beq_eq_false_iff_ne.mpr (JX (HS B.big)),_,KT.keeps O (λc ys ec=>?_),qo,es,ep,a4,h2,h3,h4,h5⟩,rfl,qq _ (B.hok.fresh (HG _))⟩;rw[D3 (λz=>by rw[z,B.hok.fresh (HG _)]at ec;cases ec)];exact ec
end
end Ws
namespace Ws
open PySem PySem.W PyProof.Rows PySem.Spec PySem.Calls L2
theorem DO{x:Int}(h:0<=x/\x<=5):hashInt x=x:=by
 have:x=0\/x=1\/x=2\/x=3\/x=4\/x=5:=by omega
 rcases this with rfl | rfl | rfl | rfl | rfl | rfl<;>decide +kernel
noncomputable def kD(led:Bool)(M:List Int)(x:Int):Bool:=
 match (J9 led M).freeSlot x with
 | some (slot,false)=>
   ((J9 led M).put slot).2 == n6 M x&&((J9 led M).put slot).1.fits (M.length+1)&&((J9 led M).put slot).1.plain&&
     (if((J9 led M).put slot).1.tooFull then(match ((J9 led M).put slot).1.relaid (X5 M x).toArray (Pj (M.length+1))with
      | some (a,order)=>M.length == 4&&decide (order=#[0,1,2,3,4])&&a.fits 5&&decide (a=J9 led (X5 M x))
      | none=>false)
     else decide (((J9 led M).put slot).1=J9 led (X5 M x)))
 | _=>false
theorem DP:sixes.all (λM=>([0,1,2,3,4,5]:List Int).all λx=>decide (x∈M)||(kD true M x&&kD false M x&&decide (X5 M x∈sixes)))=true:=by decide +kernel
theorem DQ{x:Int}(h:0<=x/\x<=5):x∈([0,1,2,3,4,5]:List Int):=by
 have:x=0\/x=1\/x=2\/x=3\/x=4\/x=5:=by omega
 simp;omega
theorem vM{M:List Int}{x:Int}(b:M∈sixes)(c:0<=x/\x<=5)(a:x∉M):(kD true M x=true/\kD false M x=true)/\X5 M x∈sixes:=by
 have:=Ik.mp (Ik.mp DP M b) x (DQ c);simp only[a,decide_false,Od,HZ,decide_eq_true_eq]at this;exact this
theorem DR{M:List Int}{x:Int}(b:M∈sixes)(c:0<=x/\x<=5)(a:x∉M)(led:Bool):kD led M x=true:=by
 have:=(vM b c a).1;cases led
 ·exact this.2
 ·exact this.1
theorem DS{M:List Int}{x:Int}:n6 M x<=M.length:=by
 unfold n6;exact(List.takeWhile_prefix _).length_le
theorem qK{a:Type}{es:Array a}{p:Nat}{y:a}(h:p<=es.size):(IE es p y).size=es.size+1:=by
 unfold IE;simp;omega
theorem qL:∀{vs:List HD}{ns:List Int}{us:List HD}{a:List Int},Ko vs ns->Ko us a->Ko (vs++us) (ns++a)
 | _,_,_,_,.nil,h=>h
 | _,_,_,_,.cons n t h,b=>.cons n t (qL h b)
theorem vN:∀{vs:List HD}{ns:List Int}(k:Nat),Ko vs ns->Ko (vs.take k) (ns.take k)
 | _,_,0,_=>.nil
 | _,_,k+1,.nil=>.nil
 | _,_,k+1,.cons n t h=>.cons n t (vN k h)
theorem vO:∀{vs:List HD}{ns:List Int}(k:Nat),Ko vs ns->Ko (vs.drop k) (ns.drop k)
 | _,_,0,h=>h
 | _,_,k+1,.nil=>.nil
 | _,_,k+1,.cons n t h=>vO k h
theorem vP(M:List Int)(x:Int):X5 M x=M.take (n6 M x)++([x]++M.drop (n6 M x)):=by
 unfold X5 n6;have e:=Mw (p:=λy:Int=>decide (y<x)) (l:=M);generalize M.takeWhile (λy=>decide (y<x))=T at e ⊢;generalize M.dropWhile (λy=>decide (y<x))=D at e ⊢;subst e;simp
theorem vQ{a:Type}{es:Array a}{p:Nat}{y:a}:(IE es p y).toList=es.toList.take p++([y]++es.toList.drop p):=by
 unfold IE;simp;exact JW (by simp)
theorem bt.ins{es:Array (Int×HD)}{M:List Int}(h:bt es M)(x:Int)(t:Nat):bt (IE es (n6 M x) (x,.int x t)) (X5 M x):=by
 refine⟨?_,?_⟩
 ·rw[vQ,vP,Ii,Ii,Om,Nb,h.hs];rfl
 ·rw[vQ,vP,Ii,Ii,Om,Nb];exact qL (vN _ h.vs) (qL (.cons x t .nil) (vO _ h.vs))
section
variable{prog:Ib}{w:IW}{A:IN}{E:HD->HF->Prop}{s:HF}
theorem DU{a:Addr}{es:Array (Int×HD)}{ep:Nat}{M:List Int}{x:Int}{led:Bool}{tok:Nat}{Q:Bool->HF->Prop}(z:M∈sixes)(n:0<=x/\x<=5)(o:x∉M)
 (v:s.heap.get? a=some (W9 es ep (J9 led M))) (he:bt es M)
 (h:∀p B C,Jr a s.heap C->C.get? a=some (W9 p B (J9 led (X5 M x)))->bt p (X5 M x)->Q true { s with heap:=C }) :
 wpAny (model prog w) A (setAddHashed a (.int x tok) ((intKind prog w).hash x)) Q E s:=by
 obtain⟨hH,a1,a2⟩:=nZ z;have D:(intKind prog w).hash x=x:=DO n;have c:es.size=M.length:=he.size;have y:=qG z (HG _) led;rw[Jc]at y;have m:=DR z n o led;have U:(J9 led M).fits es.size=true:=by
  unfold kC at y;simp only[HZ]at y;rw[c];exact y.1.1.1.1
 have q:ElemsOf (intKind prog w) es.toList:=he.elems λx hx=>hH x hx;have hb:es.size<scanBound:=by unfold scanBound;omega
 have r:es.toList.findIdx? (λe=>(intKind prog w).is x e.2)=none:=by
  rw[NH];intro e G;obtain⟨Y,t,H⟩:=he.ent G;cases Z:(intKind prog w).is x e.2 with
  | false=>rfl
  | true=>
    exfalso;rw[H]at Z;have u:x=e.1:=by
     have I:Qh x (.int e.1 t)=true:=Z;obtain⟨t',u⟩:=HD.isInt_shape I;injection u with u;exact u.symm
    rw[←u]at Y;exact o Y
 have j:n6 M x<=es.size:=by rw[c];exact DS
 generalize J:J9 led M=t at *;unfold kD at m;rw[J]at m;split at m
 ·rename_i slot L;simp only[HZ,beq_iff_eq]at m;obtain⟨⟨⟨H,h3⟩,h4⟩,g⟩:=m;have hL:layNew t es x (.int x tok)=((IE es (n6 M x) (x,.int x tok)),(t.put slot).1,false,false):=by
   have e0:layNew t es x (.int x tok)=(IE es (t.put slot).2 (x,.int x tok),(t.put slot).1.orStandIn (IE es (t.put slot).2 (x,.int x tok)).size,false,!(t.put slot).1.fits (IE es (t.put slot).2 (x,.int x tok)).size):=by
    unfold layNew;rw[L]
   rw[e0,H,qK j,c];unfold PU.orStandIn;rw[h3];rfl
  have d:bt (IE es (n6 M x) (x,.int x tok)) (X5 M x):=he.ins x tok;unfold setAddHashed setAddHashedIn;refine IY (Hz (Lx v rfl U ?_));dsimp only;rw[byScan_of (knd:=intKind prog w) rfl hb q];simp only[↓reduceIte];unfold setAddByScan;refine Hz ?_;refine Hz (Lu ?_);refine Hz (wpAny_setScan_of (knd:=intKind prog w) (k:=x) (OV _ _ _ _) v rfl U q ?_);rw[r,D,hL];dsimp only;refine Hz (HB ?_);rw[if_pos h4];refine Hz ?_;rw[hashByValue_scannable 8 rfl];refine HB ?_;simp only[show plainKind (Kz x tok)=true from rfl,if_true];refine Hz (wpAny_storeSet_of v rfl ?_ (by rw[qK j,c,JH];omega));have l:=IM (Obj.putSet (IE es (n6 M x) (x,.int x tok)) (t.put slot).1) v rfl;have i:=IH s.heap a (Obj.putSet (IE es (n6 M x) (x,.int x tok)) (t.put slot).1);cases f:(t.put slot).1.tooFull with
  | false=>
    rw[f]at g;simp only[IB,if_false,decide_eq_true_eq]at g;simp only[Po,Bool.true_and,IB,if_false];refine HB ?_;refine HB ?_;refine h _ (ep+1) _ i ?_ d;rw[←g];exact l
  | true=>
    rw[f]at g;simp only[if_true]at g;split at g
    ·rename_i t2 order N;simp only[HZ,beq_iff_eq,decide_eq_true_eq]at g;obtain⟨⟨⟨O,h7⟩,h8⟩,h9⟩:=g;have hm:(IE es (n6 M x) (x,Kz x tok)).map (·.1)=(X5 M x).toArray:=by
      apply Ou.mp;rw[Array.toList_map,d.hs]
     have b:(IE es (n6 M x) (x,Kz x tok)).size=M.length+1:=by rw[qK j,c]
     have hR:relayAll (t.put slot).1 (IE es (n6 M x) (x,Kz x tok)) (Pj (IE es (n6 M x) (x,Kz x tok)).size)=((IE es (n6 M x) (x,Kz x tok)),t2,false):=by
      unfold relayAll;rw[hm,b,N];dsimp only;rw[h7,CK (by rw[b,O])];rw[if_pos (by
       rw[HZ];refine⟨?_,?_⟩
       ·rw[O];decide +kernel
       ·rw[b,O];exact h8)]
     simp only[Po,Bool.true_and,if_true];rw[hR];refine Hz (HB ?_);refine Hz (wpAny_storeSet_of l rfl ?_ (by rw[b,JH];omega));refine HB ?_;refine HB ?_;refine h _ (ep+1+1) _ (i.trans (IH _ a _)) ?_ d;rw[←h9];exact IM _ l rfl
    ·cases g
 ·cases m
theorem DV{a:Addr}{es:Array (Int×HD)}{ep:Nat}{M:List Int}{x:Int}{led:Bool}{tok:Nat}{Q:Bool->HF->Prop}(j:M∈sixes)(o:0<=x/\x<=5)(b:x∈M)
 (l:s.heap.get? a=some (W9 es ep (J9 led M))) (he:bt es M) (h:Q false s) :
 wpAny (model prog w) A (setAddHashed a (.int x tok) ((intKind prog w).hash x)) Q E s:=by
 obtain⟨p,q,r⟩:=nZ j;have g:es.size=M.length:=he.size;have f:=qG j (HG _) led;rw[Jc]at f;have m:(J9 led M).fits es.size=true:=by
  unfold kC at f;simp only[HZ]at f;rw[g];exact f.1.1.1.1
 have c:ElemsOf (intKind prog w) es.toList:=he.elems λx u=>p x u;have v:es.size<scanBound:=by unfold scanBound;omega
 obtain⟨i,y⟩:∃i,es.toList.findIdx? (λe=>(intKind prog w).is x e.2)=some i:=by
  cases n:es.toList.findIdx? (λe=>(intKind prog w).is x e.2)with
  | some i=>exact⟨i,rfl⟩
  | none=>
    exfalso;rw[NH]at n;rw[←he.hs]at b;obtain⟨e,d,rfl⟩:=HQ.mp b;obtain⟨B,t,z⟩:=he.ent d;have:=n e d;rw[z]at this;rw[OV]at this;cases this
 unfold setAddHashed setAddHashedIn;refine IY (Hz (Lx l rfl m ?_));dsimp only;rw[byScan_of (knd:=intKind prog w) rfl v c];simp only[↓reduceIte];unfold setAddByScan;refine Hz ?_;refine Hz (Lu ?_);refine Hz (wpAny_setScan_of (knd:=intKind prog w) (k:=x) (OV _ _ _ _) l rfl m c ?_);rw[y];dsimp only;refine HB ?_;exact HB h
theorem DW{M:List Int}{x:Int}(a:M∈sixes)(b:0<=x/\x<=5):fE M x∈sixes:=by
 unfold fE;by_cases h:x∈M
 ·rw[if_pos h];exact a
 ·rw[if_neg h];exact(vM a b h).2
theorem vR{l:List Int}(h:∀x∈l,0<=x/\x<=5):setL l∈sixes:=by
 have b:∀(l:List Int)(M:List Int),M∈sixes->(∀x∈l,0<=x/\x<=5)->l.foldl fE M∈sixes:=by
  intro l;induction l with
  | nil=>intro M h _;exact h
  | cons a r ih=>intro M h c;exact ih _ (DW h (c a HM)) λx d=>c x (HR _ d)
 exact b l [] (by decide) h
theorem DX(l:List Int)(x:Int):setL (l++[x])=fE (setL l) x:=by
 unfold setL;rw[NT];rfl
end
section
variable{prog:Ib}{w:IW}{A:IN}{R:PL->HF->Prop}{E:HD->HF->Prop}{s:HF}
theorem DY{I:Addr}{fp J:List Addr}{G:Array Ny->Array Ny->Prop}{P:Nat->HD->Prop}{St:Nat->HF->Prop}{ns:List Int}{led:Bool}(hn:∀x∈ns,0<=x/\x<=5)
 (W:WalksS prog w A.in1 I fp J G ns.length P St) (S:Addr) (L:S∉fp) (N:∀i v,P i v->∃t,v=.int (ns.getD i 0) t) :
 ∀(k i:Nat)(s:HF)(es:Array (Int×HD))(ep:Nat),ns.length - i=k->i<=ns.length->St i s->
  s.heap.get? S=some (W9 es ep (J9 led (setL (ns.take i))))->bt es (setL (ns.take i))->
  (∀c q u,QE (S::J) G s c->c.heap.get? S=some (W9 q u (J9 led (setL ns)))->bt q (setL ns)->R (.ok (.ret .none)) c)->
  codeAny (model prog w) A (.builtin "set.update.loop" ⟨[.ref S,.ref I],[]⟩) R s:=by
 have O:S∉J:=λh=>L (W.sub _ h);have g:∀b∈J,b∈S::J:=λb y=>HR _ y;intro k;induction k with
 | zero=>
   intro i s es ep hk hi z Z D hR;have d:i=ns.length:=by omega
   subst d;rw[Jc]at Z D;refine Kg Oo ?_;rw[JT KY _];show wpAny _ A.in1 (pyNext (.ref I)>>=_) _ _ s;refine Hz (W.done s _ _ z λc H=>?_);show wpAny _ A.in1 (PySem.ret Iu) _ _ c;exact HB (hR c es ep (H.mono g) (H.heap S _ O Z) D)
 | succ k ih=>
   intro i s es ep hk hi z Z D hR;have f:i<ns.length:=by omega
   refine Kg Oo ?_;rw[JT KY _];show wpAny _ A.in1 (pyNext (.ref I)>>=_) _ _ s;refine Hz (W.item i s _ _ f z λv c hP r H=>?_);obtain⟨t,rfl⟩:=N i v hP;have B:=H.heap S _ O Z;show wpAny _ A.in1 (holding [Kz (ns.getD i 0) t] (setAdd S (.int (ns.getD i 0) t))>>=_) _ _ c;refine Hz (IY ?_);unfold setAdd;refine IY ?_;refine Hz ((intKind prog w).pyHash (k:=ns.getD i 0) (OV _ _ _ _) ?_);have Q:ns.getD i 0=ns[i]:=by simp[f]
   have T:0<=ns.getD i 0/\ns.getD i 0<=5:=by rw[Q];exact hn _ (MM f)
   have U:setL (ns.take (i+1))=fE (setL (ns.take i)) (ns.getD i 0):=by
    rw[Jh,HX f,Q];exact DX _ _
   have hM:setL (ns.take i)∈sixes:=vR λx hx=>hn x (OY hx);by_cases d:ns.getD i 0∈setL (ns.take i)
   ·refine DV (s:={ c with toks:=c.toks+1 }) hM T d B D ?_;have a:setL (ns.take (i+1))=setL (ns.take i):=by rw[U];unfold fE;rw[if_pos d]
    refine HB ⟨Lw KY _,ih (i+1) _ es ep (by omega) f (W.frame _ c _ _ r (JQ _) λb y o e=>e) (by rw[a];exact B) (by rw[a];exact D) λC j l m n p=>?_⟩;exact hR C j l (QE.trans W.gtrans ((H.mono g).then_heap (JQ _) λb o y e=>e) m) n p
   ·refine DU (s:={ c with toks:=c.toks+1 }) hM T d B D λq u h' Y a1 a2=>?_;have a:setL (ns.take (i+1))=X5 (setL (ns.take i)) (ns.getD i 0):=by rw[U];unfold fE;rw[if_neg d]
    refine HB ⟨Lw KY _,ih (i+1) _ q u (by omega) f (W.frame _ c _ _ r (JQ _) λb y o e=>?_) (by rw[a];exact a1) (by rw[a];exact a2) λC j l m n p=>?_⟩
    ·rw[Y.2 b (λh:b=S=>L (by rw[←h];exact y))];exact e
    ·refine hR C j l (QE.trans W.gtrans ((H.mono g).then_heap (JQ _) λb o y e=>?_) m) n p;rw[Y.2 b (λh:b=S=>y (by rw[h];exact HM))];exact e
set_option maxHeartbeats 3200000 in
theorem DZ{l:Addr}{items:Array HD}{ns:List Int}{Q:HD->HF->Prop}(hn:∀x∈ns,0<=x/\x<=5)
 (hh:A.handled=none) (hl:s.heap.IsList l items) (hi:Ko items.toList ns)
 (h:∀(h':Heap)(N:Nat)(es:Array (Int×HD))(ep:Nat),h'.get? s.heap.objs.size=some (W9 es ep (J9 (!w.params.followText "set-order") (setL ns)))->bt es (setL ns)->
  (∀b o,b<s.heap.objs.size->s.heap.get? b=some o->h'.get? b=some o)->Q (.ref s.heap.objs.size) { s with heap:=h',toks:=N }) :
 wpAny (model prog w) A (call (.type "set") [.ref l]) Q E s:=by
 have y:items.size=ns.length:=by have:=hi.length;rwa [Js]at this
 obtain⟨c,tl,b1⟩:=IC.mro;have T:=IC.made;have b2:=IC.sub;refine Mr (Nm ?_);show wpAny _ _ (callAny (.type "set") _) _ _ _;refine HB ⟨Ml _ (by decide +kernel),Kg Ol ?_⟩;rw[IN.under_plain (OP "set" [.ref l] []) rfl];have h1:=IC.notType;have h2:=IC.canCreate;have e3:=OB (.ref l);repeat (any_goals (first | assumption | wp_step))
 generalize z:(!w.params.followText "set-order")=led at *;refine Kr (CL (.ref l) (E:=E) (Q₁:=λobj g=>obj=.ref s.heap.objs.size/\g={ s with heap:=s.heap.push (W9 #[] 0 (.fresh 0 0 led)) }) (by rw[z];exact⟨rfl,rfl⟩)) λr g U=>?_;cases r with
 | error e=>exact U
 | ok fl=>
   cases fl with
   | ret obj=>
     obtain⟨rfl,rfl⟩:=U;have hS:(s.heap.push (W9 #[] 0 (.fresh 0 0 led))).get? s.heap.objs.size=some (W9 #[] 0 (.fresh 0 0 led)):=HI _ rfl;have hT:Lv { s with heap:=s.heap.push (W9 #[] 0 (.fresh 0 0 led)) } (.ref s.heap.objs.size) "set":=⟨_,hS,rfl⟩;have e6:=IC.init.lookup;have e7:=IC.init.bind (.ref s.heap.objs.size);repeat (any_goals (first | assumption | wp_step))
     refine Kr (MS (R:=wants (λr j=>r=.none/\∃h' N es ep,j={ s with heap:=h',toks:=N }/\
      h'.get? s.heap.objs.size=some (W9 es ep (J9 led (setL ns)))/\bt es (setL ns)/\
      (∀b o,b<s.heap.objs.size->s.heap.get? b=some o->h'.get? b=some o)) E) IC.init.plain OC (check_set_init_1 hT ?_)) λB j a=>?_
     ·obtain⟨ol,C,D,nl,hdl⟩:=hl;obtain⟨c0,m,Y,f⟩:=ol;simp only at D hdl;subst D;subst hdl;have G:(s.heap.push (W9 #[] 0 (.fresh 0 0 led))).get? l=some { cls:=.type "list",dict:=m,data:=.seq items nl,slots:=f }:=HA _ C;have c3:=PySem.F.sub_list_set;have c4:=PySem.F.sub_list_frozenset;have e9:(HD.type "list" == HD.type "dict")=false:=by decide
      have H:(s.heap.push (W9 #[] 0 (.fresh 0 0 led))).IsList l items:=⟨_,G,rfl,nl,rfl⟩;unfold Ji.«set.__init__» noKeywords MW;generalize a0:pyIter=PI
      wp_walk
      subst a0;refine JY H ?_;refine Hz (wpAny_runValue ?_);have I:l<s.heap.objs.size:=HJ C;have a1:A.in1.in1.in1.handled=none:=by simp[hh]
      have J:l≠(s.heap.push (W9 #[] 0 (.fresh 0 0 led))).objs.size:=by
       rw[Jg];exact HS (JL I)
      have a2:s.heap.objs.size∉[(s.heap.push (W9 #[] 0 (.fresh 0 0 led))).objs.size,l]:=by
       rw[Jg];simp only[HK,HH,IT,or_false,not_or];exact⟨HS (Jl _),JU I⟩
      have L:∀(i:Nat)(v:HD),items[i]?=some v->∃t,v=.int (ns.getD i 0) t:=λi v hv=>
       Ph hi i v (by rw[Jv];exact hv)
      have WW:=(Qz.list (prog:=prog) (w:=w) a1 (s.heap.push (W9 #[] 0 (.fresh 0 0 led))).objs.size l J items).toS;rw[y]at WW;refine DY (led:=led) hn WW s.heap.objs.size
       a2 L (ns.length - 0) 0 _ #[] 0 (by omega) (KU _)
       ⟨⟨_,HI _ rfl,rfl,rfl⟩,(H.push _)⟩ (HA _ hS) ⟨rfl,.nil⟩ ?hR
      case hR=>
       intro s' a3 a4 O n p;obtain⟨h',g',d',a5,a6⟩:=s';have eg:g'=s.gens:=O.gens;have ed:d'=s.drawn:=O.drawn;have eo:a6=s.os:=O.os;subst eg;subst ed;subst eo;show wpAny _ _ _ _ _ _;refine HB ?_;show wpAny _ _ (PySem.ret Iu) _ _ _;refine HB ⟨rfl,h',a5,a3,a4,rfl,n,p,λb o hb e=>?_⟩;have a7:b≠s.heap.objs.size:=HS hb;have a8:b≠(s.heap.push (W9 #[] 0 (.fresh 0 0 led))).objs.size:=by
        rw[Jg];exact HS (JL hb)
       exact O.heap b o (by simp only[HK,HH,IT,or_false,not_or];exact⟨a7,a8⟩) (HA _ (HA _ e))
     ·cases B with
      | error e=>exact a
      | ok q=>
        cases q with
        | ret r=>
          obtain⟨rfl,h',N,es,ep,rfl,n,p,a9⟩:=a;repeat (any_goals (first | assumption | wp_step))
          exact h _ _ _ _ n p a9
        | _=>exact a.elim
   | _=>exact U.elim
end
section
variable{X:Cx}{cm:Nat->Addr}
theorem Ea{e:Expr}{d:ED}{p1 p2 q1 q2:Pos}(g:X.calm=true)(he:PE X e (aB X.K cm d))(a4:Gl X "sorted")(a5:X.mg "sorted" = none)(a6:Gl X "set")(a7:X.mg "set" = none)
 (N:starEach [e] X.env=(false,eval e X.env)::starEach [] X.env:=by exact D8 rfl)
 (O:starEach [.Call (.Name "set" p2) [e] [] q2] X.env=(false,eval (.Call (.Name "set" p2) [e] [] q2) X.env)::starEach [] X.env:=by rfl) :
 PE X (.Call (.Name "sorted" p1) [.Call (.Name "set" p2) [e] [] q2] [] q1) (aB X.K cm (pK d)):=by
 intro T s σ H Q I h;obtain⟨ρ,A,a8,v,A',rl,rs,ev,k⟩:=h;obtain⟨x,A1,e1,U⟩:=B0 ev;refine NA (S6 I a4 a5 Ma (callWith_builtin1 (Z7 O ?_) O rfl));refine NA (S6 I a6 a7 (show bootBuiltins "set" = some (.type "set")from by rfl) (callWith_type1 (Z7 N ?_) N rfl));refine aP (he T s σ H (λv y=>∃(a:Addr)(ns:List Int),v=.ref a/\bv X.K y a (ns.map V.int)/\(∀x∈ns,0<=x/\x<=5)/\∀l,y l=none->Q (.ref l) (aF y l (.lst ((setL ns).map V.int)))) I ⟨ρ,A,a8,x,A1,rl,rs,e1,λz y v1 x1 B a9=>?_⟩) λu s1 zq=>?_
 ·cases x with
  | ref n=>
    obtain⟨l,A2,e2,i⟩:=B0 U;obtain⟨rfl,hA,a,xs,rfl,hn,hH,r0⟩:=N7 B a9 e2;cases Y:N1 l with
    | none=>rw[Y]at i;cases i
    | some ns=>
      rw[Y]at i;obtain⟨c,b0⟩:=C9 i;cases b0;rw[T9 Y]at r0;refine⟨a,ns,rfl,by rw[←nO r0];exact bv.of hH,c,λD hD=>?_⟩;have ex:aC z y (z++[D]) (aF y D (.lst ((setL ns).map V.int))):=aC.new hD;exact k (z++[D]) _ _ (x1.trans ex) (B.alloc hD ⟨_,C8,aQ.ints _⟩ rfl) (.ref (by rw[←B.len];simp))
  | _=>cases U
 ·obtain⟨w1,y,I1,r1,a,ns,ew,hq,p,q⟩:=zq;subst ew;obtain rfl:u=HW a:=r1;obtain⟨b2,ri,pl,hz⟩:=I1.list hq;have Y:Ko b2 ns:=X2 ri;have C:=vR p;have h6:=(nZ C).2.1;refine DZ p (I1.ok.hd g) pl.isList (by simpa using Y) λh' tk es ep hS E Z=>?_;have I2:=I1.kept (h':=h') (t':=tk) (λb ob e=>Z b ob (HJ e) e);refine LJ Qp Qc Qd (Qe _) ?_;unfold Ji.«sorted»;refine Hz (m:=checkCount "sorted" 1 1 _) (HB ?_);refine Hz (kdu_collect (A:=_) (CY C E) (I2.ok.hd g) hS (by rw[JH];omega) λG a0 f hk r=>?_);have J:f.toList=d4 X.w s1.heap.objs.size ep es:=by
   refine NR λj=>?_;rw[Jv];cases hj:f[j]? with
   | none=>
     have:f.size<=j:=by simpa using hj
     rw[IZ (by rw[qH E,←r.1];exact this)]
   | some v=>exact(r.2 j v hj).symm
  obtain⟨ms,hp,hI⟩:=CZ (vq X.w s1.heap.objs.size ep es) E.vs;rw[←J]at hI;have b5:f.toList.length=(setL ns).length:=by rw[hI.length];exact hp.length_eq
  refine Hz (Oi ?_ (by rw[b5,JH];omega));have L:(G.push (seqObj "list" f.toList.toArray 0)).get? G.objs.size=some (seqObj "list" f.toList.toArray 0):=HI _ rfl;refine Hz (IY (II Pe ⟨_,L,rfl⟩ OO (list_sort_tree L hI (by omega) λout c0 h1 h2 h3=>⟨_,rfl,?_⟩) (Pf _)));refine HB ⟨_,rfl,?_⟩;have e:c0=setL ns:=pu (h2.trans hp) h3 ((nZ C).2.2.imp λh=>Int.le_of_lt h);subst e;obtain⟨c,hc⟩:=sortedHeap_at (out:=out) L;have I3:=I2.kept (t':=a0) hk;refine⟨.ref _,_,I3.laid (t':=a0) (a:=G.objs.size) (o:=.lst ((setL ns).map V.int)) (λb o e2=>?_) (HG _) ?_,rfl,q _ (I3.hok.fresh (HG _))⟩
  ·have a1:=HJ e2;rw[sortedHeap_old (HS a1) (by rw[OU];exact JL a1)];exact HA _ e2
  ·refine⟨by rw[HC,JH];omega,out.toList,c,t7 h1,?_⟩;rw[MP];exact hc
end
end Ws
namespace Ws
open PySem L2
section
variable{P:Ib}{w:IW}{K:HE}{mg:Str->Option HD}{base:Heap}{cm:Nat->Addr}{x qual:Str}{st:Stmt}{f:Addr}{fd:Ia}{items:Array HD}{N ps:List Str}{k:Nat}{s:SD}
theorem qM{n:Nat}(h:n+64<cLine):n+1<cLine:=Nat.lt_of_le_of_lt (Nat.add_le_add_left (by decide) _) h
theorem E3(F:L2.Fun K x qual st f fd)(S:C6 N ps (B6 st))
 (d:∀(a:HD)(A:IN)(outer:List Env)(b:HF)(H:Hp)(E:L2.XK),aR k (A.deeper (IS qual (B6 st) b.heap.objs.size f a))->(A.deeper (IS qual (B6 st) b.heap.objs.size f a)).units+64<cLine->(A.deeper (IS qual (B6 st) b.heap.objs.size f a)).units+1<cLine->
  bL (fz aX P w K mg base N qual (B6 st) f a A outer b H E).nox (C4 st) (cu K cm s)) :
 az P w K mg base aX (k+1) f fd ps (aZ K cm (fn N.length ps.length s) ps.length):=AL F S λa A outer b H E c=>d a A outer b H E c c.units (qM c.units)
theorem Eb(F:eZ K x qual st f fd items)(S:C6 N ps (B6 st))
 (d:∀(a:HD)(A:IN)(outer:List Env)(b:HF)(H:Hp)(E:L2.XK),aR k (A.deeper (IS qual (B6 st) b.heap.objs.size f a))->(A.deeper (IS qual (B6 st) b.heap.objs.size f a)).units+64<cLine->(A.deeper (IS qual (B6 st) b.heap.objs.size f a)).units+1<cLine->
  bL (fz aX P w K mg base N qual (B6 st) f a A outer b H E).nox (C4 st) (cu K cm s)) :
 az P w K mg base aX (k+1) f fd ps (aZ K cm (fn N.length ps.length s) ps.length):=BB F S λa A outer b H E c=>d a A outer b H E c c.units (qM c.units)
theorem qN(F:L2.Fun K x qual st f fd)(S:C6 N ps (B6 st))
 (d:∀(a:HD)(A:IN)(outer:List Env)(b:HF)(H:Hp)(E:L2.XK),aR k (A.deeper (IS qual (B6 st) b.heap.objs.size f a))->(A.deeper (IS qual (B6 st) b.heap.objs.size f a)).units+64<cLine->(A.deeper (IS qual (B6 st) b.heap.objs.size f a)).units+1<cLine->
  bL (fz (fK P w) P w K mg base N qual (B6 st) f a A outer b H E) (C4 st) (fb K cm (nV E) s)) :
 az P w K mg base (fK P w) (k+1) f fd ps (iX K cm (fn N.length ps.length s) ps.length):=Cp F S λa A outer b H E c=>d a A outer b H E c c.units (qM c.units)
end
section
variable{X:Cx}{cm:Nat->Addr}{o value:Expr}{d e:ED}{f:Str}{pos pos':Pos}
theorem aj(i:Nat){x:Str}(b:X.N[i]?=some x:=by rfl)(c:kg X.env.scope x:=by first | exact Qu rfl | exact PM (Qu rfl) | exact PM (PM rfl))(g:(x == ("__debug__" : Str))=false:=by decide)
 (a:(x == ("__classdict__" : Str))=false:=by decide):PE X (.Name x pos) (aB X.K cm (aa i)):=Au (L2.pv i b c g a)
theorem vS{K:HE}{mg:Str->Option HD}{i:Nat}(B:K0 K mg cm)(a:cs i=f)(b:i<19):∀c,c<7->bA K (cm c) f:=λc h=>a ▸ B.na c i b h
theorem aL(i:Nat){mg:Str->Option HD}(B:K0 X.K mg cm)(he:PE X o (aB X.K cm d))(a:cs i=f:=by rfl)(b:i<19:=by decide)(c:attributeBase o f X.env (eval o X.env)=eval o X.env:=by rfl):PE X (.Attribute o f pos) (aB X.K cm (J2 d i)):=AH he a b B.cls (vS B a b) c
theorem l5(i:Nat){mg:Str->Option HD}(B:K0 X.K mg cm)(c:PE X o (aB X.K cm d))(g:PE X value (aB X.K cm e))(a:cs i=f:=by rfl)(b:i<19:=by decide)(hs:swapsWith value (some (.Attribute o f pos')) pos.line X.env=pure false:=by rfl):PS X (.Assign [.Attribute o f pos'] value pos) (cu X.K cm (sFld d i e)):=AI c g a b B.cls (vS B a b) hs
end
end Ws
local macro_rules | `(tactic| walk_at "sc")=>`(tactic| exact⟨rfl,rfl,rfl,by decide +kernel,rfl,by decide +kernel,by decide +kernel⟩)
local macro_rules | `(tactic| walk_at "fb")=>`(tactic| first | exact(λ_=>rfl) | exact(λh=>nomatch h))
local macro_rules | `(tactic| walk_at "o2")=>`(tactic| first | exact Qu rfl | exact PM rfl)
local macro_rules | `(tactic| walk_at "o3")=>`(tactic| first | exact Qu rfl | exact PM (Qu rfl) | exact PM (PM rfl))
namespace Ws
open PySem PySem.W PyProof.Rows L2
section
variable{X:Cx}{cm:Nat->Addr}
theorem Ec:bo X (.type "dict") (λf H Q=>∃(a:Addr)(kvs:List (Key×V)),f=[.ref a]/\H a=some (.dK kvs)/\∀l,H l=none->Q (.ref l) (aF H l (.dK kvs))):=by
 intro g s x H f y Q I r h;obtain⟨a,kvs,rfl,j,q⟩:=h;obtain⟨u,rfl,m⟩:=l9 r;cases m;obtain⟨z,n,p,c,v⟩:=iN I.hok (.inl j);refine kt_call_dict n v (by rw[←c.length];exact z) λA d w=>?_;have e:=I.hok.fresh (HG s.heap.objs.size);exact⟨.ref s.heap.objs.size,_,I.laid (t':=s.toks) (a:=s.heap.objs.size) (o:=.dK kvs) (λb o i=>(w.2 b (HS (HJ i))).trans (HA _ i)) (HG _) ⟨z,beq_eq_false_iff_ne.mpr (JX (HS I.big)),p,c,d⟩,rfl,q _ e⟩
theorem Ed{e:Expr}{d:ED}{p b:Pos}(he:PE X e (aB X.K cm d))(r:Gl X "dict")(s:X.mg "dict" = none)(hs:starEach [e] X.env=(false,eval e X.env)::starEach [] X.env:=by exact D8 rfl):PE X (.Call (.Name "dict" p) [e] [] b) (aB X.K cm (pL d)):=
 E7 (t6 Ec r s (show bootBuiltins "dict" = some (.type "dict")from by rfl) (ae he am hs) (he:=hs)) λC H Q h=>i5 (f:=λx=>match x with | .ref n=>ap (hW n) λm=>alloc (.dI m) | _=>stuck) (λ_=>rfl) (λc A H x z A' v Q g u j k=>by
  cases x with
  | ref n=>
    obtain⟨m,A1,w,i⟩:=B0 j;obtain⟨rfl,E,a,l,rfl,G,y,B⟩:=qt g u w;cases i;refine⟨a,l,rfl,y,λD o=>?_⟩;have q:aC c H (c++[D]) (aF H D (.dK l)):=aC.new o;exact k (c++[D]) _ _ q (g.alloc o ⟨_,C8,B.mono q⟩ rfl) (.ref (by rw[←g.len];simp))
  | _=>cases j) h
end
end Ws
namespace Ws
open PySem PySem.W PyProof.Rows SeqAt L2
section
variable{X:Cx}{cm:Nat->Addr}
noncomputable def oj(K:HE)(c:Bool):R2:=λd e H Q=>∃(b:Bool)(a:Addr)(bs:List Bool),d=.bl b/\e=.ref a/\bv K H a (bs.map V.bl)/\Q (.bl (if c then !bs.any (·== b) else bs.any (·== b))) H
noncomputable def om(b:Bool):HD->Bool
 | .bool a=>a == b
 | _=>false
theorem qO:∀{bs:List Bool}{us:List HD},aE (bs.map V.bl) us->us=bs.map Nd
 | [],_,.nil=>rfl
 | b::bs,_,.cons h t=>by cases h;rw[qO t];rfl
theorem vT(b:Bool)(bs:List Bool):(bs.map Nd).any (om b)=bs.any (·== b):=by rw[List.any_map];rfl
theorem vU(A:IN)(s:HF)(b:Bool)(bs:List Bool):∀w∈bs.map Nd,JA A s w (.bool b) (om b w):=λw c=>by
 obtain⟨a,_,rfl⟩:=HQ.mp c;exact OX a b
theorem vV(n:X.A.units+64<cLine):bY X (compareOp .In) (oj X.K false):=by
 intro c s o H x y v u Q I d f h;obtain⟨b,a,bs,rfl,rfl,g,q⟩:=h;cases d;cases f;obtain⟨i,j,l,p⟩:=I.list g;have e:=qO j;subst e;refine in_listAt (om b) l.isList (λw m=>vU _ _ b bs w (by simpa using m)) ⟨.bl _,H,I,rfl,?_⟩;rw[KZ,vT];exact q
theorem vW(n:X.A.units+64<cLine):bY X (compareOp .NotIn) (oj X.K true):=by
 intro c s o H x y v u Q I d f h;obtain⟨b,a,bs,rfl,rfl,g,q⟩:=h;cases d;cases f;obtain⟨i,j,l,p⟩:=I.list g;have e:=qO j;subst e;refine notIn_listAt (om b) l.isList (λw m=>vU _ _ b bs w (by simpa using m)) ⟨.bl _,H,I,rfl,?_⟩;rw[KZ,vT];exact q
theorem vX:V7 X.K cm nw (oj X.K false):=λh B H x y z p q r Q f i j d k=>by
 cases x with
 | bl b=>
   cases y with
   | ref n=>
     obtain⟨l,s,m,c⟩:=B0 d;obtain⟨rfl,a,u,rfl,o,g⟩:=K4 f j m;cases e:V6 l with
     | none=>rw[e]at c;cases c
     | some bs=>
       rw[e]at c;cases c;rw[d3 e]at g;cases i;exact⟨b,a,bs,rfl,rfl,by rw[←lD g];exact o,k h H _ (aC.refl _ _) f (.bl _)⟩
   | _=>cases d
 | _=>cases d
theorem vY:V7 X.K cm lf (oj X.K true):=λh B H x y z p q r Q f i j d k=>by
 cases x with
 | bl b=>
   cases y with
   | ref n=>
     obtain⟨l,s,m,c⟩:=B0 d;obtain⟨rfl,a,u,rfl,o,g⟩:=K4 f j m;cases e:V6 l with
     | none=>rw[e]at c;cases c
     | some bs=>
       rw[e]at c;cases c;rw[d3 e]at g;cases i;exact⟨b,a,bs,rfl,rfl,by rw[←lD g];exact o,k h H _ (aC.refl _ _) f (.bl _)⟩
   | _=>cases d
 | _=>cases d
end
end Ws
namespace Ws
abbrev XP:=Nat->PV->PHp->Prop
def Wp{d:Type}(m:M d)(A:PHp)(Q:d->PHp->Prop)(E:XP):Prop:=match m A with
 | .ok a b=>Q a b
 | .ex c v b=>E c v b
 | .no=>False
abbrev NoX:XP:=λ_ _ _=>False
section
variable{α β:Type}{m:M α}{f:α->M β}{A A' A1 B:PHp}{a:α}{E E':XP}{σ σ':PSt}
theorem w_eq{Q:α->PHp->Prop}(h:m A=.ok a A')(q:Q a A'):Wp m A Q E:=by unfold Wp;rw[h];exact q
theorem op{Q:α->PHp->Prop}(h:Wp m A Q NoX):∃a A',m A=.ok a A'/\Q a A':=by
 unfold Wp at h;cases e:m A with
 | ok a A'=>rw[e]at h;exact⟨a,A',rfl,h⟩
 | ex c v A'=>rw[e]at h;exact h.elim
 | no=>rw[e]at h;exact h.elim
theorem cn{Q b:α->PHp->Prop}(h:Wp m A Q E)(d:∀a A',Q a A'->b a A')(he:∀c v A',E c v A'->E' c v A'):Wp m A b E':=by
 unfold Wp at h ⊢;cases e:m A with
 | ok a A'=>rw[e]at h;exact d _ _ h
 | ex c v A'=>rw[e]at h;exact he _ _ _ h
 | no=>rw[e]at h;exact h.elim
theorem ac{Q b:α->PHp->Prop}(h:Wp m A Q E)(c:∀a A',Q a A'->b a A'):Wp m A b E:=cn h c λ_ _ _ z=>z
theorem vZ{Q b:α->PHp->Prop}(h:Wp m A Q NoX)(c:∀a A',Q a A'->b a A'):Wp m A b E:=cn h c λ_ _ _ z=>z.elim
theorem kE{Q:α->PHp->Prop}(q:Q a A):Wp (ret a) A Q E:=q
theorem C1{Q:β->PHp->Prop}(h:Wp m A (λa A1=>Wp (f a) A1 Q E) E):Wp (ap m f) A Q E:=by
 unfold Wp at h ⊢;unfold ap;cases e:m A with
 | ok a A'=>rw[e]at h;exact h
 | ex c v A'=>rw[e]at h;exact h
 | no=>rw[e]at h;exact h
theorem D6{P:Prop}{Q:α->PHp->Prop}(p:P)(h:Wp m A Q E):Wp (G0 P m) A Q E:=by rw[T5 p];exact h
variable{Q:PV->PHp->Prop}{e e1 e2 e3:ED}{es:AD}{v x y:PV}{i j:Int}{k n:Nat}{l:List PV}
theorem w_var(h:σ[k]?=some (some v))(q:Q v A):Wp (aa k σ) A Q E:=w_eq (a:=v) (by show(aa k σ) A=_;unfold aa;rw[h];rfl) q
theorem Ee(q:Q v A):Wp (eK v σ) A Q E:=q
theorem iY{Q:List PV->PHp->Prop}(q:Q [] A):Wp (av σ) A Q E:=q
theorem gA{Q:List PV->PHp->Prop}(h:Wp (e σ) A (λx A1=>Wp (es σ) A1 (λb c=>Q (x::b) c) E) E):Wp (ai e es σ) A Q E:=
 C1 (ac h λ_ _ d=>C1 (ac d λ_ _ g=>g))
theorem lN(h:Wp (es σ) A (λb A1=>b.length<=LIM/\Q (.tup b) A1) E):Wp (c6 es σ) A Q E:=C1 (ac h λ_ _ ⟨c,d⟩=>D6 c d)
theorem lO(h:Wp (es σ) A (λb A1=>b.length<=LIM/\Q (.ref A1.length) (A1++[.lst b])) E):Wp (l4 es σ) A Q E:=C1 (ac h λ_ _ ⟨c,d⟩=>D6 c d)
theorem dM{f:OD}(h:Wp (e1 σ) A (λx A1=>Wp (e2 σ) A1 (λy b=>Wp (f x y) b Q E) E) E):Wp (ao f e1 e2 σ) A Q E:=C1 (ac h λ_ _ c=>C1 c)
theorem w_add(q:Q (.int (i+j)) A):Wp (bp (.int i) (.int j)) A Q E:=q
theorem jD{l m:List PV}(h:l≠[]/\l.length+m.length<=LIM)(q:Q (.tup (l++m)) A):Wp (bp (.tup l) (.tup m)) A Q E:=D6 h q
theorem Y2{Q:List PV->PHp->Prop}(h:A[n]?=some (.lst l))(q:Q l A):Wp (S7 n) A Q E:=w_eq (An h) q
theorem ca{n k:Nat}{l m:List PV}(b:A[n]?=some (.lst l))(c:A[k]?=some (.lst m))(d:l.length+m.length<=LIM)(q:Q (.ref A.length) (A++[.lst (l++m)])):Wp (bp (.ref n) (.ref k)) A Q E:=
 C1 (Y2 b (C1 (Y2 c (D6 d q))))
theorem w_sub(q:Q (.int (i - j)) A):Wp (pa (.int i) (.int j)) A Q E:=q
theorem w_mul(h:(-(2 ^ 64)<i/\i<2 ^ 64)\/(-(2 ^ 64)<j/\j<2 ^ 64))(q:Q (.int (i*j)) A):Wp (kh (.int i) (.int j)) A Q E:=D6 h q
theorem w_mod(h:0<j)(q:Q (.int (i%j)) A):Wp (cY (.int i) (.int j)) A Q E:=D6 h q
theorem jE(h:0<j/\j<1073741824)(q:Q (.int (i / j)) A):Wp (nc (.int i) (.int j)) A Q E:=D6 h q
theorem w_lt(q:Q (.bl (decide (i<j))) A):Wp (gS (.int i) (.int j)) A Q E:=q
theorem qP(q:Q (.bl (decide (j<i))) A):Wp (jq (.int i) (.int j)) A Q E:=q
theorem lP(q:Q (.bl (decide (i=j))) A):Wp (cF (.int i) (.int j)) A Q E:=C1 (D6 (.inr ⟨rfl,rfl⟩) q)
theorem lQ(q:Q (.bl (!decide (i=j))) A):Wp (dO (.int i) (.int j)) A Q E:=C1 (D6 (.inr ⟨rfl,rfl⟩) q)
theorem lR{b c:Bool}(q:Q (.bl (!(b == c))) A):Wp (dO (.bl b) (.bl c)) A Q E:=C1 (D6 (.inl rfl) q)
theorem Ef{l m:List PV}(h:plain (.tup l)=true/\plain (.tup m)=true)(q:Q (.bl (W4 l m)) A):Wp (cF (.tup l) (.tup m)) A Q E:=C1 (D6 (.inr h) q)
theorem Eg{l m:List PV}(h:plain (.tup l)=true/\plain (.tup m)=true)(q:Q (.bl (!W4 l m)) A):Wp (dO (.tup l) (.tup m)) A Q E:=C1 (D6 (.inr h) q)
theorem Eh(b:plain x=true)(c:plain y=true)(q:Q (.bl (bq x y)) A):Wp (cF x y) A Q E:=by
 cases x with
 | ref n=>cases b
 | _=>exact C1 (D6 (.inr ⟨b,c⟩) q)
theorem Ei(b:plain x=true)(c:plain y=true)(q:Q (.bl (!bq x y)) A):Wp (dO x y) A Q E:=by
 cases x with
 | ref n=>cases b
 | _=>exact C1 (D6 (.inr ⟨b,c⟩) q)
theorem Q6{Q:List PV->PHp->Prop}(h:A[n]?=some (.lst l))(q:Q l A):Wp (E4 n) A Q E:=w_eq (J7 h) q
theorem wa{Q:List PV->PHp->Prop}(h:A[n]?=some (.ro l))(q:Q l A):Wp (E4 n) A Q E:=w_eq (a:=l) (A':=A) (by show E4 n A=_;unfold E4;rw[h]) q
theorem Ej{n k:Nat}{l m:List PV}(b:A[n]?=some (.lst l))(c:A[k]?=some (.lst m))(d:K6 l=true/\K6 m=true)(q:Q (.bl (W4 l m)) A):Wp (cF (.ref n) (.ref k)) A Q E:=
 C1 (C1 (Q6 b (C1 (Q6 c (D6 d q)))))
theorem iZ{n k:Nat}{l m:List PV}(b:A[n]?=some (.lst l))(c:A[k]?=some (.lst m))(d:K6 l=true/\K6 m=true)(q:Q (.bl (!W4 l m)) A):Wp (dO (.ref n) (.ref k)) A Q E:=
 C1 (C1 (Q6 b (C1 (Q6 c (D6 d q)))))
theorem wb(b:A[n]?=some (.lst l))(c:plain x=true/\K6 l=true)(q:Q (.bl (fA x l)) A):Wp (eU x (.ref n)) A Q E:=C1 (Q6 b (D6 c q))
theorem gB(b:plain x=true/\K6 l=true)(q:Q (.bl (fA x l)) A):Wp (eU x (.tup l)) A Q E:=C1 (kE (D6 b q))
theorem Ek(b:plain x=true/\K6 l=true)(q:Q (.bl (!fA x l)) A):Wp (kQ x (.tup l)) A Q E:=C1 (kE (D6 b q))
theorem lS(h:Wp (e σ) A (λx A1=>Q (.bl (kR x)) A1) E):Wp (ki e σ) A Q E:=C1 h
variable{QB:Bool->PHp->Prop}{t t1 t2:TD}{b:Bool}
theorem gC(q:QB true A):Wp (T3 σ) A QB E:=q
theorem ff(h:Wp (e σ) A (λx A1=>∃b,x=.bl b/\QB b A1) E):Wp (E6 e σ) A QB E:=C1 (ac h λx A1 ⟨b,c,q⟩=>by subst c;exact q)
theorem jF(h:Wp (t1 σ) A (λb A1=>(b=true->Wp (t2 σ) A1 QB E)/\(b=false->QB false A1)) E):Wp (tAnd t1 t2 σ) A QB E:=C1 (ac h λb A1 c=>by
 obtain⟨d,g⟩:=c;cases b with
 | true=>exact d rfl
 | false=>exact g rfl)
theorem lT(h:Wp (t1 σ) A (λb A1=>(b=true->QB true A1)/\(b=false->Wp (t2 σ) A1 QB E)) E):Wp (tOr t1 t2 σ) A QB E:=C1 (ac h λb A1 c=>by
 obtain⟨d,g⟩:=c;cases b with
 | true=>exact d rfl
 | false=>exact g rfl)
theorem jG(h:Wp (t σ) A (λb A1=>QB (!b) A1) E):Wp (tNot t σ) A QB E:=C1 h
theorem w_and(h:Wp (e1 σ) A (λx A1=>∃b,x=.bl b/\((b=true->Wp (e2 σ) A1 Q E)/\(b=false->Q (.bl false) A1))) E):Wp (m7 e1 e2 σ) A Q E:=C1 (C1 (ac h λx A1 c=>by
 obtain⟨b,d,g,o⟩:=c;subst d;cases b with
 | true=>exact g rfl
 | false=>exact o rfl))
theorem w_or(h:Wp (e1 σ) A (λx A1=>∃b,x=.bl b/\((b=true->Q (.bl true) A1)/\(b=false->Wp (e2 σ) A1 Q E))) E):Wp (pd e1 e2 σ) A Q E:=C1 (C1 (ac h λx A1 c=>by
 obtain⟨b,d,g,o⟩:=c;subst d;cases b with
 | true=>exact g rfl
 | false=>exact o rfl))
theorem lU(h:Wp (t σ) A (λb A1=>(b=true->Wp (e1 σ) A1 Q E)/\(b=false->Wp (e2 σ) A1 Q E)) E):Wp (kT t e1 e2 σ) A Q E:=C1 (ac h λb A1 c=>by
 obtain⟨d,g⟩:=c;cases b with
 | true=>exact d rfl
 | false=>exact g rfl)
theorem gD(c:A[n]?=some (.lst l))(d:atI l i=some v)(q:Q v A):Wp (bx (.ref n) (.int i)) A Q E:=C1 (Q6 c (by rw[d];exact q))
theorem lV(c:A[n]?=some (.ro l))(d:atI l i=some v)(q:Q v A):Wp (bx (.ref n) (.int i)) A Q E:=C1 (wa c (by rw[d];exact q))
theorem gE(c:atI l i=some v)(q:Q v A):Wp (bx (.tup l) (.int i)) A Q E:=by
 refine w_eq (a:=v) (A':=A) ?_ q;simp[c]
theorem lW(h:Wp (e σ) A (λx A1=>Wp (N6 x) A1 (λl c=>Q (.int l.length) c) E) E):Wp (eV e σ) A Q E:=C1 (ac h λ_ _ d=>C1 d)
theorem fg{Q:List PV->PHp->Prop}(h:A[n]?=some (.lst l))(q:Q l A):Wp (N6 (.ref n)) A Q E:=Q6 h q
theorem jH{Q:List PV->PHp->Prop}(h:A[n]?=some (.ro l))(q:Q l A):Wp (N6 (.ref n)) A Q E:=wa h q
theorem jI{Q:List PV->PHp->Prop}(q:Q l A):Wp (N6 (.tup l)) A Q E:=q
theorem eC(h:Wp (e σ) A (λx A1=>Wp (N6 x) A1 (λl c=>Q (.ref c.length) (c++[.lst l])) E) E):Wp (g7 e σ) A Q E:=C1 (ac h λ_ _ d=>C1 d)
theorem fL(h:Wp (e σ) A (λx A1=>∃n l,x=.ref n/\A1[n]?=some (.lst l)/\l.length<=LIM/\Q (.tup l) A1) E):Wp (n4 e σ) A Q E:=C1 (ac h λx A1 c=>by
 obtain⟨n,l,d,g,o,q⟩:=c;subst d;exact C1 (Q6 g (D6 o q)))
variable{QO:Option Int->PHp->Prop}{lo hi:LD}
theorem lX(q:QO none A):Wp (jr σ) A QO E:=q
theorem lY(h:Wp (e σ) A (λx A1=>∃i,x=.int i/\QO (some i) A1) E):Wp (jt e σ) A QO E:=C1 (ac h λx A1 ⟨i,c,q⟩=>by subst c;exact q)
theorem lZ(h:Wp (e σ) A (λx A1=>Wp (lo σ) A1 (λl o=>Wp (hi σ) o (λh d=>(∃n c,x=.ref n/\E4 n d=.ok c d/\Q (.ref d.length) (d++[.lst (eP c l h)]))\/
 ∃c,x=.tup c/\¬(c7 c.length 0 l=0/\c7 c.length c.length h=c.length)/\Q (.tup (eP c l h)) d) E) E) E):Wp (ju e lo hi σ) A Q E:=
 C1 (ac h λ_ _ p=>C1 (ac p λ_ _ r=>C1 (ac r λ_ _ s=>by
  rcases s with⟨n,c,rfl,g,q⟩ | ⟨c,rfl,g,q⟩
  ·exact C1 (w_eq g q)
  ·exact D6 g q)))
theorem d5:∀bs:List Bool,V6 (bs.map PV.bl)=some bs
 | []=>rfl
 | b::r=>by rw[Ic];show(V6 (r.map PV.bl)).map (b :: ·)=_;rw[d5 r];rfl
theorem w_all(h:Wp (e σ) A (λx A1=>∃(n:Nat)(bs:List Bool),x=.ref n/\A1[n]?=some (.lst (bs.map PV.bl))/\Q (.bl (bs.all id)) A1) E):Wp (gj e σ) A Q E:=C1 (ac h λx A1 c=>by
 obtain⟨n,bs,d,g,q⟩:=c;subst d;refine C1 (Q6 g ?_);rw[d5];exact q)
theorem fM(h:Wp (e σ) A (λx A1=>Wp (N6 x) A1 (λl c=>∃ns,l=ns.map PV.int/\ns.length<1000/\Q (.int (gs ns)) c) E) E):Wp (pD e σ) A Q E:=C1 (ac h λx A1 d=>C1 (ac d λl c g=>by
 obtain⟨ns,o,p,q⟩:=g;subst o;rw[T7];exact D6 p q))
theorem df{e1 e2:ED}(h:Wp (e1 σ) A (λx A1=>∃n l,x=.ref n/\A1[n]?=some (.lst l)/\Wp (e2 σ) A1 (λv c=>∃l2,c[n]?=some (.lst l2)/\l2.length<LIM/\Q .non (c.set n (.lst (l2++[v])))) E) E):Wp (Z5 e1 e2 σ) A Q E:=
 C1 (ac h λx A1 d=>by
  obtain⟨n,l,g,o,p⟩:=d;subst g;exact C1 (Y2 o (C1 (ac p λv c ⟨l2,r,s,q⟩=>C1 (Y2 r (D6 s q))))))
theorem w_fld(h:Wp (e σ) A (λx A1=>∃n c fs v,x=.ref n/\A1[n]?=some (.ins c fs)/\b4 k fs=some v/\Q v A1) E):Wp (J2 e k σ) A Q E:=
 C1 (ac h λx A1 d=>by
  obtain⟨n,c,fs,v,g,o,p,q⟩:=d;subst g;refine C1 (w_eq (a:=(c,fs)) (A':=A1) (by show V3 n A1=_;unfold V3;rw[o]) ?_);show Wp (match b4 k fs with | some v=>_ | none=>_) _ _ _;rw[p];exact q)
theorem dU{f:Fun}(h:Wp (es σ) A (λc A1=>Wp (f c) A1 Q E) E):Wp (G9 f es σ) A Q E:=C1 h
theorem gF{c:Nat}{f:Fun}(h:Wp (e σ) A (λx A1=>∃n fs,x=.ref n/\A1[n]?=some (.ins c fs)/\Wp (es σ) A1 (λd g=>Wp (f (.ref n::d)) g Q E) E) E):Wp (Q0 c f e es σ) A Q E:=
 C1 (ac h λx A1 o=>by
  obtain⟨n,fs,p,q,r⟩:=o;subst p;exact C1 (w_eq (a:=(c,fs)) (A':=A1) (by show V3 n A1=_;unfold V3;rw[q]) (D6 rfl (C1 r))))
theorem jJ{c:Nat}{f:Fun}(h:Wp (es σ) A (λd A1=>Wp (f (.ref A1.length::d)) (A1++[.ins c []]) (λ_ g=>Q (.ref A1.length) g) E) E):Wp (hV c f es σ) A Q E:=
 C1 (ac h λd A1 o=>C1 (w_eq (a:=.ref A1.length) (A':=A1++[.ins c []]) rfl (C1 o)))
variable{QF:Fl->PHp->Prop}{s s1 s2:SD}{g:GD}{QS:PSt->PHp->Prop}
theorem cS(q:QF (.nx σ) A):Wp (sPass σ) A QF E:=q
theorem cI(h:Wp (s1 σ) A (λo A1=>match o with | .nx σ'=>Wp (s2 σ') A1 QF E | o=>QF o A1) E):Wp (D7 s1 s2 σ) A QF E:=C1 (ac h λo A1 c=>by
 cases o with
 | nx σ'=>exact c
 | _=>exact c)
theorem eD(h:Wp (e σ) A (λ_ A1=>QF (.nx σ) A1) E):Wp (P9 e σ) A QF E:=C1 h
theorem fh(h:Wp (e σ) A (λv A1=>QF (.rt v) A1) E):Wp (G6 e σ) A QF E:=C1 h
theorem ma(h:Wp (t σ) A (λb A1=>(b=true->Wp (s1 σ) A1 QF E)/\(b=false->Wp (s2 σ) A1 QF E)) E):Wp (br t s1 s2 σ) A QF E:=C1 (ac h λb A1 c=>by
 obtain⟨d,o⟩:=c;cases b with
 | true=>exact d rfl
 | false=>exact o rfl)
theorem dg(h:Wp (e σ) A (λv A1=>Wp (g v σ) A1 (λσ' c=>QF (.nx σ') c) E) E):Wp (M5 e g σ) A QF E:=C1 (ac h λ_ _ d=>C1 d)
theorem db(q:QS (σ.set k (some v)) A):Wp (gName k v σ) A QS E:=q
theorem jK(q:QS σ A):Wp (gNil [] σ) A QS E:=q
theorem ic{r:GDs}{vs:List PV}(h:Wp (g v σ) A (λσ' A1=>Wp (r vs σ') A1 QS E) E):Wp (gCons g r (v::vs) σ) A QS E:=C1 h
theorem jL{r:GDs}(c:l.length=n)(h:Wp (r l σ) A QS E):Wp (gTup n r (.tup l) σ) A QS E:=D6 c h
theorem jM(h:Wp (e2 σ) A (λv A1=>Wp (e1 σ) A1 (λx d=>∃n c fs,x=.ref n/\d[n]?=some (.ins c fs)/\fs.length<900/\QF (.nx σ) (d.set n (.ins c (putFld k v fs)))) E) E):Wp (sFld e1 k e2 σ) A QF E:=
 C1 (ac h λv A1 o=>C1 (ac o λx d p=>by
  obtain⟨n,c,fs,r,u,w,q⟩:=p;subst r;exact C1 (w_eq (a:=(c,fs)) (A':=d) (by show V3 n d=_;unfold V3;rw[u]) (D6 w q))))
theorem El{n p:Nat}{vs:List PV}(d:vs.length=p)(h:Wp (s (start n vs)) A (λo A1=>match o with | .rt v=>Q v A1 | .nx _=>Q .non A1 | _=>False) E):Wp (fn n p s vs) A Q E:=
 D6 d (C1 (ac h λo A1 c=>by
  cases o with
  | rt v=>exact c
  | nx σ'=>exact c
  | bk σ'=>exact c.elim
  | ct σ'=>exact c.elim))
abbrev jN(P:PSt->PHp->Prop)(QF:Fl->PHp->Prop):Fl->PHp->Prop:=λo A=>match o with
 | .nx σ=>P σ A
 | .ct σ=>P σ A
 | .bk σ=>QF (.nx σ) A
 | .rt v=>QF (.rt v) A
theorem md{J:It}{n:Nat}(P:Nat->PSt->PHp->Prop)(c:∀σ A,P n σ A->item J n A=.ok none A/\QF (.nx σ) A)
 (hs:∀i σ A,i<n->P i σ A->∃v,item J i A=.ok (some v) A/\Wp (g v σ) A (λq A1=>Wp (s q) A1 (jN (P (i+1)) QF) E) E) :
 ∀k i σ A,i+k=n->P i σ A->∀m,k<m->Wp (c8 J g s m i σ) A QF E
 | _,_,_,_,_,_,0,r=>absurd r (Nat.not_lt_zero _)
 | 0,i,σ,A,e,h,m+1,r=>by
   obtain rfl:i=n:=by omega
   obtain⟨u,p⟩:=c σ A h;rw[T6];exact C1 (w_eq u p)
 | k+1,i,σ,A,e,h,m+1,r=>by
   obtain⟨v,z,t⟩:=hs i σ A (by omega) h;rw[T6];refine C1 (w_eq z ?_);refine C1 (ac t λq A1 u=>C1 (ac u λo w p=>?_));cases o with
   | nx d=>exact md P c hs k (i+1) d w (by omega) p m (by omega)
   | ct d=>exact md P c hs k (i+1) d w (by omega) p m (by omega)
   | bk d=>exact p
   | rt v=>exact p
theorem oq{o:ID}(P:Nat->PSt->PHp->Prop)(h:Wp (o σ) A (λJ A1=>∃lo n,J=.rng lo n/\P 0 σ A1/\(∀(i:Nat) σ B,i<n->P i σ B->Wp (g (.int (lo+i)) σ) B (λc p=>Wp (s c) p (jN (P (i+1)) QF) E) E)/\∀σ B,P n σ B->QF (.nx σ) B) E) :
 Wp (v8 o g s σ) A QF E:=C1 (ac h λJ A1 q=>by
 obtain⟨lo,n,r,u,hs,he⟩:=q;subst r;exact C1 (kE (md P (λσ B d=>⟨by simp,he σ B d⟩) (λi σ B hi d=>⟨_,by simp[hi],hs i σ B hi d⟩) n 0 σ A1 (by omega) u (n+1) (Jl _))))
theorem mf{p:ID}(P:Nat->PSt->PHp->Prop)(h:Wp (p σ) A (λJ A1=>∃a l,J=.lst a/\P 0 σ A1/\(∀i σ B,P i σ B->E4 a B=.ok l B)/\(∀(i:Nat) v σ B,l[i]?=some v->P i σ B->Wp (g v σ) B (λd r=>Wp (s d) r (jN (P (i+1)) QF) E) E)/\∀σ B,P l.length σ B->QF (.nx σ) B) E) :
 Wp (v8 p g s σ) A QF E:=C1 (ac h λJ A1 u=>by
 obtain⟨a,l,w,q,o,hs,he⟩:=u;subst w;refine C1 (C1 (w_eq (o 0 σ A1 q) (kE ?_)));refine md P (λσ B c=>⟨by show ap (E4 a) _ B=_;rw[aD (o _ σ B c)];simp,he σ B c⟩) (λi σ B hi c=>?_) l.length 0 σ A1 (by omega) q (l.length+1) (Jl _);exact⟨l[i],by show ap (E4 a) _ B=_;rw[aD (o _ σ B c),HX hi];rfl,hs i l[i] σ B (HX hi) c⟩)
theorem qQ(P:Nat->PSt->PHp->Prop)(hs:∀m σ A,P m σ A->Wp (t σ) A (λb A1=>(b=true->Wp (s σ) A1 (jN (λσ' A'=>∃d,d<m/\P d σ' A') QF) E)/\(b=false->QF (.nx σ) A1)) E) :
 ∀f m σ A,m<f->P m σ A->Wp (m9 t s f σ) A QF E
 | 0,m,σ,A,u,_=>absurd u (by omega)
 | f+1,m,σ,A,u,h=>by
   rw[tD];refine C1 (ac (hs m σ A h) λb A1 z=>?_);obtain⟨C,D⟩:=z;cases b with
   | false=>exact D rfl
   | true=>
     refine C1 (ac (C rfl) λo w p=>?_);cases o with
     | nx c=>obtain⟨d,q,r⟩:=p;exact qQ P hs f d c w (by omega) r
     | ct c=>obtain⟨d,q,r⟩:=p;exact qQ P hs f d c w (by omega) r
     | bk c=>exact p
     | rt v=>exact p
theorem wc(P:Nat->PSt->PHp->Prop){m:Nat}(d:m<10000)(h:P m σ A)(hs:∀m σ A,P m σ A->Wp (t σ) A (λb A1=>(b=true->Wp (s σ) A1 (jN (λσ' A'=>∃c,c<m/\P c σ' A') QF) E)/\(b=false->QF (.nx σ) A1)) E) :
 Wp (nk t s σ) A QF E:=qQ P hs LIM m σ A (Q7 d) h
theorem qR{J:It}{g:GD}{t:TD}{e:ED}{l:List PV}{QL:List PV->PHp->Prop}(P:Nat->List PV->PSt->PHp->Prop)(p:∀i d σ B,P i d σ B->item J i B=.ok l[i]? B)
 (hs:∀i v d σ B,l[i]?=some v->P i d σ B->Wp (g v σ) B (λo z=>Wp (t o) z (λc r=>(c=true->Wp (e o) r (λy u=>P (i+1) (d++[y]) o u) E)/\(c=false->P (i+1) d o r)) E) E)
 (he:∀d σ B,P l.length d σ B->QL d B):∀k i d σ B,i<=l.length->l.length<i+k->P i d σ B->Wp (g9 J g t e k i σ) B (λq D=>QL (d++q) D) E
 | 0,i,d,σ,B,G,C,_=>absurd C (by omega)
 | k+1,i,d,σ,B,G,C,h=>by
   rw[Z6];refine C1 (w_eq (p i d σ B h) ?_);cases w:l[i]? with
   | none=>
     have:l.length=i:=by have:=Je.mp w;omega
     subst this;show QL (d++[]) B;rw[IA];exact he d σ B h
   | some v=>
     have hi:=(HY.mp w).1;refine C1 (ac (hs i v d σ B w h) λo z H=>C1 (ac H λc r I=>?_));obtain⟨L,N⟩:=I;cases c with
     | true=>
       refine C1 (ac (L rfl) λy u O=>C1 (ac (qR P p hs he k (i+1) (d++[y]) o u hi (by omega) O) λq T U=>?_));show QL (d++(y::q)) T;rw[show d++(y::q)=d++[y]++q by simp];exact U
     | false=>exact qR P p hs he k (i+1) d o r hi (by omega) (N rfl)
theorem mh{u:ID}{p:PSt->PSt}{g:GD}{t:TD}{e:ED}(h:Wp (u σ) A (λJ A1=>∃(l:List PV)(n:Nat)(P:Nat->List PV->PSt->PHp->Prop),m8 J A1=.ok n A1/\l.length<=n/\P 0 [] (p σ) A1/\(∀i d σ B,P i d σ B->item J i B=.ok l[i]? B)/\
 (∀i v d σ B,l[i]?=some v->P i d σ B->Wp (g v σ) B (λo D=>Wp (t o) D (λc w=>(c=true->Wp (e o) w (λy G=>P (i+1) (d++[y]) o G) E)/\(c=false->P (i+1) d o w)) E) E)/\
 ∀d σ B,P l.length d σ B->d.length<=LIM/\Q (.ref B.length) (B++[.lst d])) E):Wp (L4 u p g t e σ) A Q E:=
 C1 (ac h λJ A1 ⟨l,n,P,H,O,I,q,L,N⟩=>C1 (w_eq H (C1 (ac (qR P q L (QL:=λd B=>d.length<=LIM/\Q (.ref B.length) (B++[.lst d])) N (n+1) 0 [] (p σ) A1 (KU _) (by omega) I) λT B r=>by
  obtain⟨z,C⟩:=r;rw[Ni]at z C;exact D6 z C))))
theorem N3{D:ID}{G:PSt->PSt}{g:GD}{t:TD}{e:ED}{l:List PV}(S:PSt->Prop)(p:PV->Bool)(f:PV->PV)(h:Wp (D σ) A (λJ A1=>∃n,m8 J A1=.ok n A1/\l.length<=n/\l.length<=LIM/\S (G σ)/\(∀i,item J i A1=.ok l[i]? A1)/\
 (∀v σ,v∈l->S σ->Wp (g v σ) A1 (λd H=>H=A1/\S d/\Wp (t d) A1 (λc I=>I=A1/\c=p v/\(c=true->Wp (e d) A1 (λy L=>L=A1/\y=f v) E)) E) E)/\
 Q (.ref A1.length) (A1++[.lst ((l.filter p).map f)])) E):Wp (L4 D G g t e σ) A Q E:=
 mh (ac h λJ A1 ⟨n,Y,Z,hL,h0,w,hs,he⟩=>⟨l,n,λi o σ B=>B=A1/\S σ/\o=((l.take i).filter p).map f,Y,Z,⟨rfl,h0,by simp⟩,λi o σ B ⟨q,_⟩=>by rw[q];exact w i,λi v o σ B N z=>by
  obtain⟨q,h2,r⟩:=z;subst q;refine ac (hs v σ (Io N) h2) λd H C=>?_;obtain⟨e1,O,h5⟩:=C;subst e1;refine ac h5 λc I C=>?_;obtain⟨e2,T,h7⟩:=C;subst e2;have U:l.take (i+1)=l.take i++[v]:=by rw[Jh,N];rfl
  refine⟨λu=>ac (h7 u) λy L ⟨e3,h8⟩=>⟨e3,O,?_⟩,λu=>⟨rfl,O,?_⟩⟩
  ·rw[U,Kk,Ii,r,h8,Mg (by rw[←T];exact u)];rfl
  ·rw[U,Kk,Ii,r,Mh (by rw[←T,u];simp)];simp,λo σ B z=>by
  obtain⟨q,_,r⟩:=z;subst q;rw[JW (HG _)]at r;subst r;exact⟨by rw[HC];exact Ih (Iz _ _) hL,he⟩⟩)
theorem N8{n:Nat}{l:List PV}(h:A[n]?=some (.lst l)):m8 (.lst n) A=.ok l.length A:=by show ap (E4 n) _ A=_;rw[aD (J7 h)];rfl
theorem N9{n:Nat}{l:List PV}(h:A[n]?=some (.lst l))(i:Nat):item (.lst n) i A=.ok l[i]? A:=by show ap (E4 n) _ A=_;rw[aD (J7 h)];rfl
theorem p9(n i:Nat):item (.rng 0 n) i A=.ok ((Iw n).map λ(k:Nat)=>PV.int (k:Int))[i]? A:=by
 by_cases hi:i<n<;>simp[hi]
noncomputable def l6:List PV->List PV->List PV
 | x::c,y::d=>.tup [x,y]::l6 c d
 | _,_=>[]
theorem qS:∀(l m:List PV)(i:Nat),(match l[i]?,m[i]? with | some u,some v=>some (.tup [u,v]) | _,_=>none)=(l6 l m)[i]?
 | [],m,i=>by simp[l6]
 | x::c,[],i=>by cases h:(x::c)[i]?<;>simp[l6]
 | x::c,y::d,0=>by simp[l6]
 | x::c,y::d,i+1=>by simpa[l6]using qS c d i
theorem we:∀(l m:List PV),(l6 l m).length<=l.length
 | [],m=>by simp[l6]
 | x::c,[]=>by simp[l6]
 | x::c,y::d=>by simpa[l6]using we c d
theorem Em(l m:List PV)(i:Nat):item (.zip (.tup l) (.tup m)) i A=.ok (l6 l m)[i]? A:=by
 rw[←qS];rfl
theorem Eo{n k:Nat}{l m:List PV}(c:A[n]?=some (.lst l))(d:A[k]?=some (.lst m))(i:Nat):item (.zip (.ref n) (.ref k)) i A=.ok (l6 l m)[i]? A:=by
 rw[←qS];show ap (E4 n) _ A=_;rw[aD (J7 c)];show ap (E4 k) _ A=_;rw[aD (J7 d)];rfl
end
noncomputable def pv(p:Int×Int):PV:=.tup [.int p.1,.int p.2]
noncomputable def aN(ps:List (Int×Int)):List PV:=ps.map pv
theorem Ep(p:Int×Int):plain (pv p)=true:=rfl
theorem u9(ps:List (Int×Int)):K6 (aN ps)=true:=by
 rw[tL];intro x a;obtain⟨p,_,rfl⟩:=HQ.mp a;rfl
theorem Er{p q:Int×Int}(h:pv p=pv q):p=q:=by
 obtain⟨a,b⟩:=p;obtain⟨c,d⟩:=q;simp[pv]at h;simp[h]
theorem ou(p:Int×Int)(ps:List (Int×Int)):fA (pv p) (aN ps)=decide (p∈ps):=by
 induction ps with
 | nil=>simp[fA,aN]
 | cons q r ih=>
   have e:bq (pv q) (pv p)=decide (q=p):=by
    by_cases h:q=p
    ·subst h;simp[(tK (pv q) (pv q) rfl).mpr rfl]
    ·have:¬bq (pv q) (pv p)=true:=λz=>h (Er ((tK _ _ rfl).mp z));simp[h,this]
   show(bq (pv q) (pv p)||fA (pv p) (aN r))=_;rw[ih,e];by_cases h:q=p<;>by_cases a:p∈r<;>simp[h,a];intro z;exact h z.symm
theorem j4{ps:List (Int×Int)}{v:PV}(h:v∈aN ps):∃p∈ps,v=pv p:=by
 obtain⟨p,a,rfl⟩:=HQ.mp h;exact⟨p,a,rfl⟩
noncomputable def gl:PV->Int
 | .tup [.int a,.int b]=>a
 | _=>0
noncomputable def fN:PV->Int
 | .tup [.int a,.int b]=>b
 | _=>0
@[simp] theorem Hw(p:Int×Int):gl (pv p)=p.1:=rfl
@[simp] theorem Hx(p:Int×Int):fN (pv p)=p.2:=rfl
theorem qT(x:Int)(M:List Int):fA (.int x) (M.map .int)=decide (x∈M):=by
 induction M with
 | nil=>rfl
 | cons a r ih=>
   have:fA (.int x) ((a::r).map .int)=(bq (.int a) (.int x)||fA (.int x) (r.map .int)):=rfl;rw[this,ih];show(decide (a=x)||decide (x∈r))=_;by_cases h:a=x
   ·subst h;simp
   ·have b:¬x=a:=λz=>h z.symm;simp[h,b]
section
variable{A:PHp}{Q:PV->PHp->Prop}{E:XP}{n:Nat}{x a b:Int}{M:List Int}{ps:List (Int×Int)}
theorem w_inI(c:A[n]?=some (.lst (M.map .int)))(q:Q (.bl (decide (x∈M))) A):Wp (eU (.int x) (.ref n)) A Q E:=wb c ⟨rfl,V5 _⟩ (by rw[qT];exact q)
theorem jO(q:Q (.bl (decide (x∈M))) A):Wp (eU (.int x) (.tup (M.map .int))) A Q E:=gB ⟨rfl,V5 _⟩ (by rw[qT];exact q)
theorem fO(q:Q (.bl (!decide (x∈M))) A):Wp (kQ (.int x) (.tup (M.map .int))) A Q E:=Ek ⟨rfl,V5 _⟩ (by rw[qT];exact q)
theorem ja(c:A[n]?=some (.lst (aN ps)))(q:Q (.bl (decide ((a,b)∈ps))) A):Wp (eU (.tup [.int a,.int b]) (.ref n)) A Q E:=wb c ⟨rfl,u9 _⟩ (by rw[show PV.tup [.int a,.int b]=pv (a,b)from rfl,ou];exact q)
theorem qU(l:List Int):plain (.tup (l.map .int))=true:=by
 show(l.map PV.int).all jo=true;rw[Ik];intro x c;obtain⟨y,_,rfl⟩:=HQ.mp c;rfl
theorem mi{c:PV->PHp->Prop}{e:ED}{σ:PSt}{t:Ty}(h:Wp (e σ) A (λx d=>Wp (iO t x) d (λb f=>c (.bl b) f) E) E):Wp (g8 e t σ) A c E:=C1 (ac h λ_ _ g=>C1 g)
theorem ie{c:Bool->PHp->Prop}{t:Ty}{x:PV}{b:Bool}(h:iO t x A=.ok b A)(q:c b A):Wp (iO t x) A c E:=w_eq h q
theorem ig{c:Bool->PHp->Prop}{l:List PV}(h:A[n]?=some (.lst l))(q:c true A):Wp (iO .list (.ref n)) A c E:=C1 (Y2 h q)
theorem qV(l m:List Int):W4 (l.map .int) (m.map .int)=decide (l=m):=by
 have h:=Ao (l.map .int) (m.map .int) (V5 _);have inj:l.map PV.int=m.map PV.int↔l=m:=⟨λz=>by
  have:=congrArg N1 z;rw[T7,T7]at this;exact Iv this,λz=>by rw[z]⟩
 cases e:W4 (l.map .int) (m.map .int)with
 | true=>exact(decide_eq_true (inj.mp (h.mp e))).symm
 | false=>exact(decide_eq_false λz=>by rw[h.mpr (inj.mpr z)]at e;cases e).symm
theorem jP{l:List Int}(q:Q (.bl (decide (l=[]))) A):Wp (cF (.tup (l.map .int)) (.tup [])) A Q E:=Ef ⟨qU _,rfl⟩ (by rw[show([]:List PV)=([]:List Int).map .int from rfl,qV];exact q)
theorem jQ{l:List Int}(q:Q (.bl (!decide (l=[]))) A):Wp (dO (.tup (l.map .int)) (.tup [])) A Q E:=Eg ⟨qU _,rfl⟩ (by rw[show([]:List PV)=([]:List Int).map .int from rfl,qV];exact q)
theorem jR{n k:Nat}{l:List Int}(c:A[n]?=some (.lst (l.map .int)))(d:A[k]?=some (.lst []))(q:Q (.bl (decide (l=[]))) A):Wp (cF (.ref n) (.ref k)) A Q E:=Ej c d ⟨V5 _,rfl⟩ (by rw[show([]:List PV)=([]:List Int).map .int from rfl,qV];exact q)
end
section
variable{A:PHp}{E:XP}{σ:PSt}{e e1 e2:ED}
theorem Es{P R:Prop}(h:P):(true=true->P)/\(true=false->R):=⟨λ_=>h,λz=>nomatch z⟩
theorem qW{P R:Prop}(h:R):(false=true->P)/\(True->R):=⟨λz=>(nomatch z),λ_=>h⟩
theorem qX{P R:Prop}(h:R):((!true)=true->P)/\((!true)=false->R):=⟨λz=>(nomatch z),λ_=>h⟩
theorem wf{P R:Prop}(h:R):(false=true->P)/\(false=false->R):=⟨λz=>(nomatch z),λ_=>h⟩
theorem Et{A:PHp}{n:Nat}{l:List PV}{R:Nat->List PV->Prop}(h:A[n]?=some (.lst l))(q:R n l):∃a b,PV.ref n=.ref a/\A[a]?=some (.lst b)/\R a b:=⟨n,l,rfl,h,q⟩
theorem qY{A:PHp}{n:Nat}{l:List PV}{R:List PV->Prop}(h:A[n]?=some (.lst l))(q:R l):∃a,A[n]?=some (.lst a)/\R a:=⟨l,h,q⟩
theorem Eu{A:PHp}{n c:Nat}{l:List (Nat×PV)}{R:Nat->List (Nat×PV)->Prop}(h:A[n]?=some (.ins c l))(q:R n l):∃a b,PV.ref n=.ref a/\A[a]?=some (.ins c b)/\R a b:=⟨n,l,rfl,h,q⟩
theorem qZ{A:PHp}{n c:Nat}{l:List (Nat×PV)}{R:Nat->Nat->List (Nat×PV)->Prop}(h:A[n]?=some (.ins c l))(q:R n c l):∃a b d,PV.ref n=.ref a/\A[a]?=some (.ins b d)/\R a b d:=⟨n,c,l,rfl,h,q⟩
theorem Ev{A:PHp}{n c k:Nat}{l:List (Nat×PV)}{v:PV}{R:PV->Prop}(h:A[n]?=some (.ins c l))(f:b4 k l=some v)(q:R v):∃a g b d,PV.ref n=.ref a/\A[a]?=some (.ins g b)/\b4 k b=some d/\R d:=⟨n,c,l,v,rfl,h,f,q⟩
theorem q7{A:PHp}{n:Nat}{l:List PV}{R:Nat->Prop}{b:Prop}(h:A[n]?=some (.lst l))(q:R n):(∃a c,PV.ref n=.ref a/\E4 a A=.ok c A/\R a)\/b:=.inl ⟨n,l,rfl,J7 h,q⟩
theorem rc{l:List PV}{R:List PV->Prop}{b:Prop}(q:R l):b\/∃a,PV.tup l=.tup a/\R a:=.inr ⟨l,rfl,q⟩
theorem re{A:PHp}{n:Nat}{l:List PV}{R:Nat->List PV->Prop}{c:Prop}(h:A[n]?=some (.lst l))(q:R n l):(∃a b,PV.ref n=.ref a/\E4 a A=.ok b A/\R a b)\/c:=.inl ⟨n,l,rfl,J7 h,q⟩
theorem rf{A:PHp}{n:Nat}{l:List PV}{R:Nat->Prop}(h:A[n]?=some (.lst l))(q:R n):∃a b,PV.ref n=.ref a/\E4 a A=.ok b A/\R a:=⟨n,l,rfl,J7 h,q⟩
variable{QI:It->PHp->Prop}
theorem dV(h:Wp (e σ) A (λx a=>(∃n l,x=.ref n/\E4 n a=.ok l a/\QI (.lst n) a)\/∃l,x=.tup l/\QI (.tup l) a) E):Wp (X4 e σ) A QI E:=C1 (ac h λx a b=>by
 rcases b with⟨n,l,rfl,c,q⟩ | ⟨l,rfl,q⟩
 ·exact C1 (w_eq c q)
 ·exact q)
theorem ii(h:Wp (e σ) A (λx A1=>∃n:Nat,x=.int n/\n<=1000000/\QI (.rng 0 n) A1) E):Wp (iRng1 e σ) A QI E:=C1 (ac h λx A1 a=>by
 obtain⟨n,b,c,q⟩:=a;subst b;have d:(n:Int)<=1000000:=Int.ofNat_le.mpr c;refine D6 ⟨Int.le_trans (by decide) (Int.natCast_nonneg n),Int.lt_of_le_of_lt d (by decide)⟩ (kE ?_);rw[KN];exact q)
theorem jS(h:Wp (e1 σ) A (λx a=>Wp (e2 σ) a (λy b=>Wp (N6 x) b (λ_ c=>Wp (N6 y) c (λ_ d=>QI (.zip x y) d) E) E) E) E):Wp (nr e1 e2 σ) A QI E:=
 C1 (ac h λ_ _ f=>C1 (ac f λ_ _ g=>C1 (ac g λ_ _ i=>C1 i)))
theorem jT(h:Wp (e σ) A (λx A1=>∃n l,x=.ref n/\E4 n A1=.ok l A1/\QI (.enm n) A1) E):Wp (nj e σ) A QI E:=C1 (ac h λx A1 a=>by
 obtain⟨n,l,b,c,q⟩:=a;subst b;exact C1 (w_eq c q))
end
end Ws
local macro_rules | `(tactic| walk_at "st")=>`(tactic| first
 | assumption
 | exact Ws.ak
 | (refine Ws.ah ?_;walk_at "st")
 | (refine Ws.ag (by assumption) ?_;walk_at "st"))
local macro_rules | `(tactic| walk_at "lim")=>`(tactic| first
 | (refine Ws.aH ?_;(try simp only[HC,Ie,Il,Jm]);omega)
 | (refine Ws.Q7 ?_;(try simp only[HC,Ie,Il,Jm]);omega))
local macro_rules | `(tactic| walk_at "s1")=>`(tactic| first
 | with_reducible refine Ws.cI ?_
 | with_reducible refine Ws.dg ?_
 | with_reducible refine Ws.ma ?_
 | with_reducible refine Ws.eD ?_
 | with_reducible refine Ws.fh ?_
 | with_reducible refine Ws.cS ?_
 | with_reducible refine Ws.jM ?_
 | with_reducible refine Ws.ff ?_
 | with_reducible refine Ws.jF ?_
 | with_reducible refine Ws.lT ?_
 | with_reducible refine Ws.jG ?_
 | with_reducible refine Ws.dM ?_
 | with_reducible refine Ws.w_and ?_
 | with_reducible refine Ws.w_or ?_
 | with_reducible refine Ws.lU ?_
 | with_reducible refine Ws.lS ?_
 | with_reducible refine Ws.gA ?_
 | with_reducible refine Ws.lN ?_
 | with_reducible refine Ws.lO ?_
 | with_reducible refine Ws.dU ?_
 | with_reducible refine Ws.gF ?_
 | with_reducible refine Ws.jJ ?_
 | with_reducible refine Ws.w_fld ?_
 | with_reducible refine Ws.lW ?_
 | with_reducible refine Ws.eC ?_
 | with_reducible refine Ws.fL ?_
 | with_reducible refine Ws.lZ ?_
 | with_reducible refine Ws.lY ?_
 | with_reducible refine Ws.df ?_
 | with_reducible refine Ws.mi ?_
 | with_reducible refine Ws.w_all ?_
 | with_reducible refine Ws.fM ?_
 | with_reducible refine Ws.jS ?_
 | with_reducible refine Ws.dV ?_
 | with_reducible refine Ws.ii ?_
 | with_reducible refine Ws.jT ?_)
local macro_rules | `(tactic| walk_at "s2")=>`(tactic| first
 | ((with_reducible apply Ws.w_var);(·rfl))
 | with_reducible refine Ws.Ee ?_
 | with_reducible refine Ws.gC ?_
 | with_reducible refine Ws.iY ?_
 | with_reducible refine Ws.db ?_
 | with_reducible refine Ws.jK ?_
 | with_reducible refine Ws.ic ?_
 | ((with_reducible apply Ws.jL);(·rfl))
 | with_reducible refine Ws.w_add ?_
 | with_reducible refine Ws.w_sub ?_
 | ((with_reducible apply Ws.w_mod);(·omega))
 | ((with_reducible apply Ws.jE);(·omega))
 | with_reducible refine Ws.w_lt ?_
 | with_reducible refine Ws.qP ?_
 | with_reducible refine Ws.lP ?_
 | with_reducible refine Ws.lQ ?_
 | with_reducible refine Ws.lR ?_
 | with_reducible refine Ws.lX ?_
 | ((with_reducible apply Ws.w_inI);(·walk_at "st"))
 | with_reducible refine Ws.jO ?_
 | with_reducible refine Ws.fO ?_
 | ((with_reducible apply Ws.ja);(·walk_at "st"))
 | ((with_reducible apply Ws.ig);(·walk_at "st"))
 | ((with_reducible apply Ws.ie);(·rfl))
 | with_reducible refine Ws.jP ?_
 | with_reducible refine Ws.jQ ?_
 | ((with_reducible apply Ws.jR);(·walk_at "st");(·walk_at "st"))
 | ((with_reducible refine Ws.jI ?_);(try dsimp only);(try rw[HC]))
 | ((with_reducible apply Ws.fg);(·walk_at "st");(try dsimp only);(try rw[HC]))
 | ((with_reducible apply Ws.jH);(·walk_at "st"))
 | ((with_reducible apply Ws.gD);(·walk_at "st");(·walk_at "ix"))
 | ((with_reducible apply Ws.lV);(·walk_at "st");(·walk_at "ix"))
 | ((with_reducible apply Ws.gE);(·walk_at "ix")))
local macro_rules | `(tactic| walk_at "ix")=>`(tactic| first
 | assumption
 | rfl
 | exact Ws.atl (by omega))
local macro_rules | `(tactic| walk_at "s3")=>`(tactic| first
 | with_reducible refine Ws.Es ?_
 | with_reducible refine Ws.wf ?_
 | with_reducible refine Ws.qX ?_
 | with_reducible refine Ws.qW ?_
 | with_reducible refine⟨_,rfl,?_⟩
 | ((with_reducible apply Ws.Et);(·walk_at "st"))
 | ((with_reducible apply Ws.qY);(·walk_at "st"))
 | ((with_reducible apply Ws.Eu);(·walk_at "st"))
 | ((with_reducible apply Ws.qZ);(·walk_at "st"))
 | ((with_reducible apply Ws.Ev);(·walk_at "st");(·rfl))
 | ((with_reducible apply Ws.q7);(·walk_at "st"))
 | ((with_reducible apply Ws.rf);(·walk_at "st"))
 | ((with_reducible apply Ws.re);(·walk_at "st"))
 | with_reducible apply Ws.rc
 | ((with_reducible refine And.intro ?h1 ?_);(case h1=>first | walk_at "lim" | omega)))
local macro_rules | `(tactic| walk_at "s")=>`(tactic| (first | walk_at "s1" | walk_at "s2" | walk_at "s3");(try dsimp only[List.set,Ws.jN]))
local macro_rules | `(tactic| walk_at "fn")=>`(tactic| (refine Ws.El (by rfl) ?_;simp only[Ws.start,Ic,LY,Il,Jm,Nat.reduceAdd,Nat.reduceSub,LF,List.cons_append,Ni]))
local macro_rules | `(tactic| walk_at "go")=>`(tactic| repeat walk_at "s")
namespace Ws
noncomputable def M8:Fun:=fn 1 1
 (G6 (m7 (g8 (aa 0) .int) (pe (g8 (aa 0) .bool))))
noncomputable def L1:Fun:=fn 2 2
 (G6 (m7 (G9 M8 (ai (aa 1) av)) (ni ng gS (eK (.int 0)) (aa 1) (aa 0))))
noncomputable def J0:Fun:=fn 1 1
 (G6 (m7 (G9 M8 (ai (aa 0) av)) (ni ng ng (eK (.int 2)) (aa 0) (eK (.int 6)))))
noncomputable def M4:Fun:=fn 2 2
 (D7 (br (tOr (tNot (E6 (g8 (aa 1) .tuple))) (E6 (ao dO (eV (aa 1)) (eK (.int 2)))))
 (G6 (eK (.bl false)))
 sPass)
 (G6 (m7 (G9 L1 (ai (aa 0) (ai (ao bx (aa 1) (eK (.int 0))) av))) (m7 (G9 L1 (ai (aa 0) (ai (ao bx (aa 1) (eK (.int 1))) av))) (ao dO (ao bx (aa 1) (eK (.int 0))) (ao bx (aa 1) (eK (.int 1))))))))
noncomputable def Q5:SD:=
 (br (tOr (tNot (E6 (G9 M4 (ai (aa 0) (ai (aa 3) av))))) (E6 (ao eU (aa 3) (ju (aa 1) jr (jt (aa 2))))))
 (G6 (aa 2))
 sPass)
noncomputable def M9:SD:=v8 (nj (aa 1)) (gTup 2 (gCons (gName 2) (gCons (gName 3) gNil))) Q5
noncomputable def G8:Fun:=fn 4 2
 (D7 M9
 (G6 (eK .non)))
noncomputable def N0:Fun:=fn 3 3
 (D7 (sFld (aa 0) 6 (aa 1))
 (D7 (sFld (aa 0) 7 (kT (E6 (ki (aa 2))) (l4 av) (g7 (aa 2))))
 (D7 (sFld (aa 0) 11 (n4 (J2 (aa 0) 7)))
 (D7 (sFld (aa 0) 12 (eK (.int 1)))
 (D7 (sFld (aa 0) 13 km)
 (D7 (sFld (aa 0) 14 km)
 (sFld (aa 0) 15 km)))))))
noncomputable def bf:Fun:=fn 2 2
 (sFld (aa 0) 16 (kT (E6 (g8 (aa 1) .list)) (g7 (aa 1)) (aa 1)))
noncomputable def q8:ED:=L4 (nr (aa 0) (ju (aa 0) (jt (eK (.int 1))) jr)) (bU [none,none]) (gTup 2 (gCons (gName 0) (gCons (gName 1) gNil))) T3 (ao gS (aa 0) (aa 1))
noncomputable def R8:Fun:=fn 1 1
 (G6 (gj q8))
noncomputable def bD:ED:=L4 (X4 (aa 1)) (bU [none,some 0]) (gName 0) T3 (G9 L1 (ai (J2 (aa 1) 0) (ai (aa 0) av)))
noncomputable def O2:Fun:=fn 2 2
 (D7 (br (tOr (tNot (E6 (g8 (aa 1) .list))) (E6 (ao cF (aa 1) (l4 av))))
 (G6 (eK (.bl false)))
 sPass)
 (G6 (m7 (gj bD) (G9 R8 (ai (aa 1) av)))))
noncomputable def U0:Fun:=fn 1 1
 (G6 (m7 (G9 M8 (ai (aa 0) av)) (ao tt (aa 0) (eK (.int 0)))))
noncomputable def q9:SD:=
 (D7 (br (tNot (E6 (G9 U0 (ai (pE (aa 3) (aa 5)) av))))
 sNever
 sPass)
 (kZ (aa 4) (aa 5) (kl (aa 3) (aa 5))))
noncomputable def Y3:SD:=v8 (X4 (J2 (aa 1) 1)) (gName 5) q9
noncomputable def P6:Fun:=fn 6 4
 (D7 (br (tNot (E6 (G9 O2 (ai (aa 1) (ai (aa 2) av)))))
 sNever
 sPass)
 (D7 (M5 km (gName 4))
 (D7 Y3
 (D7 (sFld (aa 0) 3 (aa 1))
 (D7 (sFld (aa 0) 4 (g7 (aa 2)))
 (D7 (sFld (aa 0) 5 (pH (aa 4)))
 (D7 (sFld (aa 0) 9 (n4 (aa 2)))
 (sFld (aa 0) 10 (aa 4)))))))))
noncomputable def bb:Fun:=fn 1 1
 (G6 (J2 (aa 0) 12))
noncomputable def k9:ED:=L4 (X4 (aa 2)) (bU [none,none,some 1]) (gTup 2 (gCons (gName 0) (gCons (gName 1) gNil))) (E6 (ao cF (aa 0) (Q0 2 bb (aa 2) av))) (aa 1)
noncomputable def P8:Fun:=fn 3 2
 (D7 (M5 (J2 (aa 0) 16) (gName 2))
 (D7 (br (E6 (g8 (aa 2) .list))
 (G6 k9)
 sPass)
 sNever))
noncomputable def U1:ED:=L4 (X4 (Q0 4 P8 (kj (aa 1) (aa 3)) (ai (aa 0) av))) (bU [none,some 3]) (gName 0) T3 (c6 (ai (aa 1) (ai (aa 0) av)))
noncomputable def bE:SD:=
 (P9 (py (aa 2) U1))
noncomputable def U2:SD:=v8 (iRng1 (J2 (J2 (J2 (aa 0) 6) 3) 0)) (gName 3) bE
noncomputable def O3:Fun:=fn 4 2
 (D7 (M5 (l4 av) (gName 2))
 (D7 U2
 (G6 (aa 2))))
noncomputable def cv:ED:=L4 (X4 (aa 2)) (bU [none,some 0]) (gName 0) T3 (G9 L1 (ai (J2 (aa 1) 0) (ai (aa 0) av)))
noncomputable def cw:ED:=L4 (nr (aa 2) (ju (aa 2) (jt (eK (.int 1))) jr)) (bU [none,some 0]) (gName 0) T3 (ao eU (aa 0) (J2 (aa 1) 1))
noncomputable def U3:Fun:=fn 3 3
 (D7 (br (tOr (E6 (ao cF (aa 2) (c6 av))) (E6 (ao kQ (ao bx (aa 2) (eK (.int (-1)))) (aa 1))))
 (G6 (eK (.bl false)))
 sPass)
 (D7 (br (tOr (E6 (ao gS (pD (aa 2)) (eV (aa 2)))) (tNot (E6 (gj cv))))
 (G6 (eK (.bl false)))
 sPass)
 (G6 (gj cw))))
noncomputable def d6:ED:=L4 (X4 (aa 1)) (bU [none,some 0]) (gName 0) T3 (G9 L1 (ai (J2 (J2 (aa 1) 3) 0) (ai (aa 0) av)))
noncomputable def O4:Fun:=fn 2 2
 (D7 (br (tOr (tNot (E6 (g8 (aa 1) .tuple))) (tNot (E6 (gj d6))))
 (G6 (eK (.bl false)))
 sPass)
 (G6 (G9 U3 (ai (J2 (aa 0) 3) (ai (J2 (aa 0) 9) (ai (aa 1) av))))))
noncomputable def d7:Fun:=fn 2 2
 (G6 (m7 (G9 M4 (ai (J2 (aa 0) 0) (ai (aa 1) av))) (ao eU (aa 1) (J2 (aa 0) 1))))
noncomputable def O5:Fun:=fn 2 2
 (D7 (br (tOr (tNot (E6 (g8 (aa 1) .tuple))) (tOr (E6 (ao gS (eV (aa 1)) (eK (.int 2)))) (tNot (E6 (G9 d7 (ai (J2 (aa 0) 3) (ai (ao bx (aa 1) (eK (.int 1))) av)))))))
 (G6 (eK (.bl false)))
 sPass)
 (D7 (br (E6 (ao cF (eV (aa 1)) (eK (.int 2))))
 (G6 (ao cF (ao bx (aa 1) (eK (.int 0))) (eK (.str "lay"))))
 sPass)
 (D7 (br (tOr (E6 (ao dO (eV (aa 1)) (eK (.int 3)))) (E6 (ao dO (ao bx (aa 1) (eK (.int 0))) (eK (.str "say")))))
 (G6 (eK (.bl false)))
 sPass)
 (G6 (m7 (G9 O4 (ai (aa 0) (ai (ao bx (aa 1) (eK (.int 2))) av))) (ao cF (ao bx (ao bx (aa 1) (eK (.int 2))) (eK (.int 0))) (ao bx (ao bx (aa 1) (eK (.int 1))) (eK (.int 1)))))))))
noncomputable def W2:Fun:=fn 4 3
 (D7 (br (tNot (E6 (G9 O5 (ai (aa 0) (ai (aa 2) av)))))
 (G6 (eK (.bl false)))
 sPass)
 (D7 (M5 (kT (E6 (ao cF (ao bx (aa 2) (eK (.int 0))) (eK (.str "lay")))) (ao bx (ao bx (aa 2) (eK (.int 1))) (eK (.int 0))) (ao bx (ao bx (aa 2) (eK (.int 1))) (eK (.int 1)))) (gName 3))
 (G6 (ao cF (aa 3) (aa 1)))))
noncomputable def K2:Fun:=fn 2 2
 (D7 (br (hX (E6 (jw (ao bx (aa 1) (eK (.int 1))) (J2 (aa 0) 13))))
 (n5 13 (ai (aa 1) av))
 (fD sPass))
 (fD (kZ (J2 (aa 0) 13) (ao bx (aa 1) (eK (.int 1))) (J2 (aa 0) 12))))
noncomputable def T1:Fun:=fn 2 2
 (G6 (kl (J2 (aa 0) 10) (aa 1)))
noncomputable def L3:Fun:=fn 3 3
 (G6 (ao jq (J2 (aa 0) 12) (ao bp (Q0 1 T1 (J2 (aa 0) 6) (ai (aa 1) av)) (eV (aa 2)))))
noncomputable def G2:Fun:=fn 2 2
 (G6 (m7 (jw (aa 1) (J2 (aa 0) 13)) (ao gS (kl (J2 (aa 0) 13) (aa 1)) (J2 (aa 0) 12))))
noncomputable def G3:Fun:=fn 2 2
 (G6 (m7 (jw (aa 1) (J2 (aa 0) 15)) (ao gS (kl (J2 (aa 0) 15) (aa 1)) (J2 (aa 0) 12))))
noncomputable def T2:SD:=
 (M5 (ju (aa 2) (jt (eK (.int 1))) jr) (gName 2))
noncomputable def N4:SD:=nk (tAnd (E6 (ao dO (aa 2) (c6 av))) (E6 (ao eU (ao bx (aa 2) (eK (.int 0))) (J2 (aa 0) 11)))) T2
noncomputable def J3:Fun:=fn 3 2
 (D7 (M5 (ju (aa 1) (jt (eK (.int 1))) jr) (gName 2))
 (D7 N4
 (G6 (pd (ao cF (aa 2) (c6 av)) (Q0 2 G3 (aa 0) (ai (aa 2) av))))))
noncomputable def K3:Fun:=fn 4 2
 (D7 (fD (M5 (ao bx (aa 1) (eK (.int 1))) (gName 2)))
 (D7 (fD (M5 (ao bx (aa 1) (eK (.int 2))) (gName 3)))
 (D7 (br (hX (tNot (E6 (Q0 2 G2 (aa 0) (ai (aa 2) av)))))
 (n5 14 (ai (aa 1) av))
 (fD sPass))
 (D7 (br (hX (E6 (Q0 2 L3 (aa 0) (ai (aa 2) (ai (aa 3) av)))))
 (n5 15 (ai (aa 1) av))
 (fD sPass))
 (D7 (br (hX (tNot (E6 (Q0 2 J3 (aa 0) (ai (aa 3) av)))))
 (n5 16 (ai (aa 1) av))
 (fD sPass))
 (D7 (fD (P9 (Z5 (ko (J2 (aa 0) 14) (aa 2) (l4 av)) (c6 (ai (J2 (aa 0) 12) (ai (aa 3) av))))))
 (fD (P9 (ko (J2 (aa 0) 15) (aa 3) (J2 (aa 0) 12))))))))))
noncomputable def K8:Fun:=fn 2 2
 (D7 (br (hX (tNot (E6 (G9 O5 (ai (J2 (aa 0) 6) (ai (aa 1) av))))))
 (n5 12 (ai (aa 1) av))
 (fD sPass))
 (br (hX (E6 (ao cF (ao bx (aa 1) (eK (.int 0))) (eK (.str "lay")))))
 (P9 (jv 2 K2 (aa 0) (ai (aa 1) av)))
 (P9 (jv 2 K3 (aa 0) (ai (aa 1) av)))))
noncomputable def J1:Fun:=fn 2 2
 (kY [7,8,9,12,13,14,15,16] (P9 (jv 2 K8 (aa 0) (ai (aa 1) av))) [(7,none,sPass)])
noncomputable def bN:SD:=
 (br (E6 (G9 W2 (ai (J2 (aa 0) 6) (ai (aa 2) (ai (aa 3) av)))))
 (P9 (G9 J1 (ai (aa 0) (ai (aa 3) av))))
 sPass)
noncomputable def bO:SD:=v8 (X4 (G9 O3 (ai (aa 0) (ai (aa 1) av)))) (gTup 2 (gCons (gName 2) (gCons (gName 3) gNil))) bN
noncomputable def R9:Fun:=fn 4 2
 bO
noncomputable def O6:Fun:=fn 1 1
 (G6 (pI (J2 (aa 0) 13)))
noncomputable def O7:Fun:=fn 2 2
 (G6 (g7 (pF (J2 (aa 0) 14) (aa 1) (l4 av))))
noncomputable def L7:ED:=L4 (X4 (Q0 2 O7 (aa 0) (ai (aa 1) av))) (bU [none,none]) (gTup 2 (gCons (gName 0) (gCons (gName 1) gNil))) T3 (ao bx (aa 1) (eK (.int (-1))))
noncomputable def aY:ED:=L4 (X4 (J2 (J2 (aa 0) 6) 9)) (bU [none,some 2]) (gName 0) T3 (ao eU (aa 0) (aa 1))
noncomputable def G4:Fun:=fn 3 2
 (D7 (M5 L7 (gName 2))
 (G6 (gj aY)))
noncomputable def Y4:ED:=L4 (X4 (Q0 2 O6 (aa 0) av)) (bU [none,some 0]) (gName 0) (E6 (Q0 2 G4 (aa 1) (ai (aa 0) av))) (aa 0)
noncomputable def L8:Fun:=fn 1 1
 (G6 Y4)
noncomputable def bh:Fun:=fn 1 1
 (G6 (g7 (J2 (aa 0) 18)))
noncomputable def O8:Fun:=fn 1 1
 (sFld (aa 0) 12 (ao bp (J2 (aa 0) 12) (eK (.int 1))))
noncomputable def cx:SD:=
 (D7 (br (E6 (ao jq (aa 6) (eK (.int 0))))
 (P9 (Q0 2 O8 (J2 (aa 0) 8) av))
 sPass)
 (P9 (G9 R9 (ai (J2 (aa 0) 8) (ai (aa 5) av)))))
noncomputable def z0:SD:=v8 (iRng1 (aa 4)) (gName 6) cx
noncomputable def Q9:Fun:=fn 7 5
 (D7 (sFld (aa 0) 8 (hV 2 N0 (ai (aa 1) (ai (aa 3) av))))
 (D7 (M5 (pL (aa 2)) (gName 5))
 (D7 z0
 (sFld (aa 0) 18 (n4 (Q0 2 L8 (J2 (aa 0) 8) av))))))
noncomputable def P7:Fun:=fn 4 3
 (D7 (br (tNot (E6 (G9 J0 (ai (aa 1) av))))
 sNever
 sPass)
 (D7 (M5 (G9 G8 (ai (aa 1) (ai (aa 2) av))) (gName 3))
 (D7 (br (E6 (tu (aa 3)))
 sNever
 sPass)
 (D7 (sFld (aa 0) 0 (aa 1))
 (sFld (aa 0) 1 (tw (aa 2)))))))
noncomputable def R3:ED:=L4 (X4 (J2 (aa 0) 1)) (bU [none,none,some 1]) (gTup 2 (gCons (gName 0) (gCons (gName 1) gNil))) (E6 (ao cF (aa 1) (aa 2))) (aa 0)
noncomputable def L9:Fun:=fn 2 2
 (G6 R3)
noncomputable def R4:ED:=L4 (X4 (J2 (aa 0) 1)) (bU [none,none,some 1]) (gTup 2 (gCons (gName 0) (gCons (gName 1) gNil))) (E6 (ao cF (aa 0) (aa 2))) (aa 1)
noncomputable def M0:Fun:=fn 2 2
 (G6 R4)
noncomputable def U4:ED:=L4 (X4 (Q0 0 M0 (aa 2) (ai (aa 1) av))) (bU [none,some 1,some 0]) (gName 0) T3 (ao eU (c6 (ai (aa 1) (ai (aa 0) av))) (J2 (aa 2) 18))
noncomputable def U5:ED:=L4 (X4 (Q0 0 L9 (aa 2) (ai (aa 1) av))) (bU [none,some 1,some 0]) (gName 0) T3 (ao eU (c6 (ai (aa 0) (ai (aa 1) av))) (J2 (aa 2) 18))
noncomputable def O9:Fun:=fn 5 2
 (D7 (M5 (J2 (J2 (J2 (aa 0) 8) 6) 3) (gName 2))
 (D7 (M5 U4 (gName 3))
 (D7 (M5 U5 (gName 4))
 (D7 (br (E6 (gj (ao bp (aa 3) (aa 4))))
 (G6 (eK (.str "all")))
 sPass)
 (D7 (br (tAnd (E6 (le (aa 3))) (tNot (E6 (gj (aa 4)))))
 (G6 (eK (.str "lost")))
 sPass)
 (D7 (br (tNot (E6 (le (ao bp (aa 3) (aa 4)))))
 (G6 (eK (.str "none")))
 sPass)
 (G6 (eK (.str "more")))))))))
noncomputable def K9:Fun:=fn 2 2
 (D7 (br (E6 (ao gS (aa 1) (eV (aa 0))))
 (G6 (ao bx (aa 0) (aa 1)))
 sPass)
 (G6 (eK (.int 0))))
noncomputable def Y5(a:Fun):ED:=L4 (iRng1 (eV (aa 1))) (bU [none,some 0,some 1]) (gName 0) T3 (G9 a (ai (ao bx (aa 1) (aa 0)) (ai (ao bx (aa 2) (aa 0)) av)))
noncomputable def D5(a:Fun):Fun:=fn 2 2
 (D7 (br (E6 (ki (aa 1)))
 (G6 (ki (aa 0)))
 sPass)
 (D7 (br (E6 (g8 (aa 1) .bool))
 (G6 (m7 (g8 (aa 0) .bool) (ao cF (aa 0) (aa 1))))
 sPass)
 (D7 (br (E6 (g8 (aa 1) .int))
 (G6 (m7 (g8 (aa 0) .int) (m7 (pe (g8 (aa 0) .bool)) (ao cF (aa 0) (aa 1)))))
 sPass)
 (D7 (br (E6 (nv (aa 1)))
 (G6 (m7 (nv (aa 0)) (ao cF (aa 0) (aa 1))))
 sPass)
 (D7 (br (tOr (E6 (ao dO (g8 (aa 1) .tuple) (g8 (aa 0) .tuple))) (E6 (ao dO (g8 (aa 1) .list) (g8 (aa 0) .list))))
 (G6 (eK (.bl false)))
 sPass)
 (D7 (br (E6 (ao dO (eV (aa 0)) (eV (aa 1))))
 (G6 (eK (.bl false)))
 sPass)
 (G6 (gj (Y5 a)))))))))
noncomputable def b7:Fun:=λ_=>stuck
noncomputable def z5:Fun:=D5 b7
noncomputable def z6:Fun:=D5 z5
noncomputable def z7:Fun:=D5 z6
noncomputable def z8:Fun:=D5 z7
noncomputable def Z8:Fun:=D5 z8
noncomputable def J4:Fun:=fn 3 2
 (D7 (M5 (ao cY (ao kh (ao bp (ao bp (aa 0) (ao kh (eK (.int 7919)) (aa 1))) (eK (.int 1))) (eK (.int 48271))) (eK (.int 2147483647))) (gName 2))
 (G6 (ao cY (ao kh (aa 2) (ao bp (ao nc (aa 2) (eK (.int 1009))) (eK (.int 69621)))) (eK (.int 2147483647)))))
noncomputable def b8:ED:=L4 (X4 (aa 0)) (bU [none,none,some 4]) (gTup 2 (gCons (gName 0) (gCons (gName 1) gNil))) (tAnd (E6 (ao cF (aa 0) (ao bx (aa 2) (eK (.int (-1)))))) (E6 (ao kQ (aa 1) (aa 2)))) (ao bp (aa 2) (c6 (ai (aa 1) av)))
noncomputable def cy:SD:=
 (M5 (ao bp (aa 3) b8) (gName 3))
noncomputable def b9:SD:=v8 (X4 (aa 1)) (gName 4) cy
noncomputable def z9:SD:=
 (D7 (M5 (ao bp (aa 2) (aa 1)) (gName 2))
 (D7 (M5 (l4 av) (gName 3))
 (D7 b9
 (M5 (aa 3) (gName 1)))))
noncomputable def c5:SD:=nk (E6 (ao dO (aa 1) (l4 av))) z9
noncomputable def U6:Fun:=fn 5 2
 (D7 (M5 (l4 av) (gName 2))
 (D7 c5
 (G6 (aa 2))))
noncomputable def U7:ED:=L4 (X4 (aa 0)) (bU [none,some 2,some 1]) (gName 0) (E6 (ao cF (ao bx (aa 0) (eK (.int 0))) (aa 1))) (ao eU (aa 0) (aa 2))
noncomputable def U8:ED:=L4 (X4 (aa 0)) (bU [none,some 2,some 1]) (gName 0) (E6 (ao cF (ao bx (aa 0) (eK (.int 1))) (aa 1))) (ao eU (aa 0) (aa 2))
noncomputable def P0:Fun:=fn 5 3
 (D7 (M5 U7 (gName 3))
 (D7 (M5 U8 (gName 4))
 (D7 (br (E6 (ao lf (eK (.bl false)) (ao bp (aa 3) (aa 4))))
 (G6 (eK (.str "all")))
 sPass)
 (D7 (br (tAnd (E6 (ao nw (eK (.bl true)) (aa 3))) (E6 (ao nw (eK (.bl false)) (aa 4))))
 (G6 (eK (.str "lost")))
 sPass)
 (D7 (br (E6 (ao lf (eK (.bl true)) (ao bp (aa 3) (aa 4))))
 (G6 (eK (.str "none")))
 sPass)
 (G6 (eK (.str "more"))))))))
noncomputable def cJ:SD:=
 (D7 (M5 (G9 J4 (ai (aa 0) (ai (ao bp (ao bp (eK (.int 40)) (ao kh (eK (.int 6)) (aa 3))) (aa 4)) av))) (gName 5))
 (br (tAnd (E6 (ao dO (aa 3) (aa 4))) (E6 (ao gS (ao cY (aa 5) (eK (.int 5))) (ao bp (eK (.int 1)) (ao cY (G9 J4 (ai (aa 0) (ai (eK (.int 39)) av))) (eK (.int 4)))))))
 (P9 (Z5 (aa 2) (c6 (ai (aa 3) (ai (aa 4) av)))))
 sPass))
noncomputable def j5:SD:=v8 (iRng1 (aa 1)) (gName 4) cJ
noncomputable def cK:SD:=
 j5
noncomputable def j6:SD:=v8 (iRng1 (aa 1)) (gName 3) cK
noncomputable def X0:Fun:=fn 6 2
 (D7 (M5 (l4 av) (gName 2))
 (D7 j6
 (G6 (aa 2))))
noncomputable def Y6:ED:=L4 (X4 (G9 U6 (ai (aa 0) (ai (l4 (ai (c6 (ai (ao bx (aa 2) (eK (.int 1))) av)) av)) av)))) (bU [none,some 4]) (gName 0) (E6 (ao cF (ao bx (aa 0) (eK (.int (-1)))) (aa 1))) (aa 0)
noncomputable def cb:SD:=
 (D7 (M5 Y6 (gName 5))
 (br (E6 (ao dO (aa 5) (l4 av)))
 (P9 (Z5 (aa 3) (c6 (ai (eK (.int 2)) (ai (c6 (ai (eK (.str "say")) (ai (aa 2) (ai (ao bx (aa 5) (eK (.int 0))) av)))) av)))))
 sPass))
noncomputable def Y7:SD:=v8 (X4 (aa 1)) (gName 4) cb
noncomputable def S0:Fun:=fn 6 3
 (D7 (M5 (l4 av) (gName 3))
 (D7 Y7
 (G6 (aa 3))))
noncomputable def rg:ED:=L4 (iRng1 (aa 2)) (bU [none,some 1]) (gName 0) (E6 (ao cF (ao cY (G9 J4 (ai (aa 1) (ai (ao bp (eK (.int 80)) (aa 0)) av))) (eK (.int 3))) (eK (.int 0)))) (aa 0)
noncomputable def rh:ED:=L4 (X4 (aa 3)) (bU [none]) (gName 0) T3 (c6 (ai (aa 0) (ai (eK (.int 9)) av)))
noncomputable def rk:ED:=L4 (iRng1 (aa 2)) (bU [none]) (gName 0) T3 (c6 (ai (aa 0) (ai (l4 av) av)))
noncomputable def eE:SD:=
 (D7 (M5 (G9 J4 (ai (G9 K9 (ai (aa 0) (ai (ao bp (eK (.int 1)) (ao cY (aa 8) (eK (.int 4)))) av))) (ai (ao bp (eK (.int 9)) (aa 8)) av))) (gName 10))
 (D7 (br (E6 (ao jq (ao cY (aa 10) (eK (.int 7))) (eK (.int 0))))
 (P9 (Z5 (kj (aa 6) (ao bx (aa 9) (eK (.int 0)))) (c6 (ai (eK (.int 1)) (ai (c6 (ai (eK (.str "lay")) (ai (aa 9) av))) av)))))
 sPass)
 (br (E6 (ao jq (ao cY (ao nc (aa 10) (eK (.int 7))) (eK (.int 3))) (eK (.int 0))))
 (D7 (M5 (G9 S0 (ai (aa 3) (ai (aa 4) (ai (aa 9) av)))) (gName 11))
 (D7 (sDPut (aa 6) (ao bx (aa 9) (eK (.int 1))) (ao bp (kj (aa 6) (ao bx (aa 9) (eK (.int 1)))) (aa 11)))
 (br (tAnd (E6 (ao jq (ao cY (aa 10) (eK (.int 7))) (eK (.int 0)))) (E6 (ao cF (eV (aa 11)) (eV (aa 4)))))
 (P9 (Z5 (aa 7) (aa 9)))
 sPass)))
 sPass)))
noncomputable def rm:SD:=v8 (nj (aa 3)) (gTup 2 (gCons (gName 8) (gCons (gName 9) gNil))) eE
noncomputable def rp:ED:=L4 (iRng1 (aa 2)) (bU [none,some 6]) (gName 0) T3 (c6 (ai (aa 0) (ai (hV 4 bf (ai (kj (aa 1) (aa 0)) av)) av)))
noncomputable def rq:ED:=L4 (iRng1 (aa 2)) (bU [none,some 13,some 3,some 7]) (gName 0) T3 (G9 Z8 (ai (Q0 6 O9 (aa 1) (ai (aa 0) av)) (ai (G9 P0 (ai (aa 2) (ai (aa 3) (ai (aa 0) av)))) av)))
noncomputable def ow:Fun:=fn 14 1
 (D7 (M5 (G9 K9 (ai (aa 0) (ai (eK (.int 0)) av))) (gName 1))
 (D7 (M5 (ao bp (eK (.int 2)) (ao cY (G9 J4 (ai (aa 1) (ai (eK (.int 0)) av))) (eK (.int 4)))) (gName 2))
 (D7 (M5 (G9 X0 (ai (aa 1) (ai (aa 2) av))) (gName 3))
 (D7 (M5 (ao bp rg (l4 (ai (ao pa (aa 2) (eK (.int 1))) av))) (gName 4))
 (D7 (M5 (pK (aa 4)) (gName 4))
 (D7 (M5 (pJ rh) (gName 5))
 (D7 (M5 (nu rk) (gName 6))
 (D7 (M5 (l4 av) (gName 7))
 (D7 rm
 (D7 (M5 (nu rp) (gName 12))
 (D7 (M5 (hV 6 Q9 (ai (hV 1 P6 (ai (hV 0 P7 (ai (aa 2) (ai (aa 3) av))) (ai (aa 4) (ai (aa 5) av)))) (ai (aa 12) (ai (pG (aa 2)) (ai (eK (.int 2)) av))))) (gName 13))
 (D7 (br (tNot (E6 (G9 Z8 (ai (Q0 6 bh (aa 13) av) (ai (aa 7) av)))))
 (G6 (eK (.bl false)))
 sPass)
 (G6 (gj rq))))))))))))))
@[simp] theorem Hy(i:Int)(A:PHp):M8 [.int i] A=.ok (.bl true) A:=by simp[M8]
theorem bP(n h:Int)(A:PHp):L1 [.int n,.int h] A=.ok (.bl (decide (0<=h/\h<n))) A:=by
 by_cases a:0<=h<;>simp[L1,a]
theorem Ew(n:Int)(A:PHp):J0 [.int n] A=.ok (.bl (decide (2<=n/\n<=6))) A:=by
 by_cases a:2<=n<;>simp[J0,a]
def good(n:Int)(p:Int×Int):Prop:=(0<=p.1/\p.1<n)/\(0<=p.2/\p.2<n)/\p.1≠p.2
instance (n:Int) (p:Int×Int):Decidable (good n p):=by unfold good;infer_instance
theorem wg(n:Int)(p:Int×Int)(A:PHp):M4 [.int n,pv p] A=.ok (.bl (decide (good n p))) A:=by
 by_cases a:0<=p.1/\p.1<n<;>by_cases b:0<=p.2/\p.2<n<;>simp[M4,pv,good,atI,ixN,plain,bq,bP,a,b]
structure L5(n:Int)(ps:List (Int×Int)):Prop where
 lo:2<=n
 hi:n<=6
 good:∀p∈ps,good n p
 nd:ps.Nodup
 len:ps.length<64
theorem Ex{a:Type}(xs:List a)(i:Nat):eP xs none (some (i:Int))=xs.take i:=by
 unfold eP c7;simp only[Pc,Nat.sub_zero];rw[if_neg (by omega)];rw[show(min (i:Int) (xs.length:Int)).toNat=min i xs.length by omega,List.take_eq_take_iff];omega
theorem Ey{n:Int}{ps:List (Int×Int)}(W:L5 n ps){A:PHp}{r:Nat}(m:A[r]?=some (.lst (aN ps))) :
 ∃A',G8 [.int n,.ref r] A=.ok .non A'/\A<+:A':=by
 have s:Comes (M9 [some (.int n),some (.ref r),none,none] A) (λσ A'=>A<+:A') (λ_ _=>False):=by
  unfold M9;refine(Am (l:=aN ps) (a:=r) (A1:=A) (by simp[m]) (λi σ A'=>A<+:A'/\∃x y,σ=[some (.int n),some (.ref r),x,y]) (λ_ _=>False) ⟨Iy _,_,_,rfl⟩ ?_ ?_).mono (λ_ _ h=>h.1) (λ_ _ h=>h)
  ·rintro i σ A' ⟨g,_⟩;simp[ag g m]
  ·rintro i v σ A' c ⟨g,x,y,rfl⟩;have o:=ag g m;obtain⟨p,b,rfl⟩:∃p,ps[i]?=some p/\v=pv p:=by
    simp only[aN,Ij]at c;cases e:ps[i]? with
    | none=>rw[e]at c;cases c
    | some p=>rw[e]at c;exact⟨p,rfl,(Iv c).symm⟩
   have d:p∈ps:=Io b;have u:=W.good p d;have f:p∉ps.take i:=by
    intro w;have q:=(HY.mp b).1;obtain⟨j,z,e⟩:=Jp.mp w;rw[Jb]at z;rw[NU]at e;have B:ps[i]=p:=(HY.mp b).2;exact JF.mp W.nd j i (by omega) q (by omega) (e.trans B.symm)
   have C:eP (aN ps) none (some (i:Int))=aN (ps.take i):=by rw[Ex];simp[aN,Om]
   refine eA.nx (σ:=[some (.int n),some (.ref r),some (.int i),some (pv p)]) (A:=A'++[.lst (aN (ps.take i))]) ?_ ⟨E9 g,_,_,rfl⟩;simp[Q5,wg,u,o,C,Ep,u9,ou,f]
 obtain⟨σ,A',e,h⟩:=s.end;refine⟨A',?_,h⟩;simp[G8,e]
noncomputable def l2(p:Int×Int):List Int:=[p.1,p.2]
noncomputable def gG(p q:Int×Int):Bool:=G7 (l2 p) (l2 q)
noncomputable def srt(ps:List (Int×Int)):List (Int×Int):=J8 gG ps
theorem wh{c d:Type}(f:c->d)(lt:d->d->Bool)(a:c):∀l:List c,k8 lt (f a) (l.map f)=(k8 (λx y=>lt (f x) (f y)) a l).map f
 | []=>rfl
 | b::r=>by
   have ih:=wh f lt a r;simp only[Ic,k8];split
   ·rw[ih];rfl
   ·rfl
theorem rr{c b:Type}(f:c->b)(lt:b->b->Bool):∀l:List c,J8 lt (l.map f)=(J8 (λx y=>lt (f x) (f y)) l).map f
 | []=>rfl
 | a::r=>by
   simp only[Ic,J8];rw[rr f lt r,wh]
theorem rA(ps:List (Int×Int)):aN ps=(ps.map l2).map λt=>PV.tup (t.map .int):=by
 simp[aN,pv,l2]
theorem Ez{ps:List (Int×Int)}{A:PHp}(h:ps.length<64):kU (aN ps) A=.ok (aN (srt ps)) A:=by
 rw[rA,Ap (by simpa using h) (by intro t a;obtain⟨p,_,rfl⟩:=HQ.mp a;simp[l2]),rr,rA];rfl
theorem O0(ps:List (Int×Int)):(srt ps).Perm ps:=R5 _ _
structure bF(A:PHp)(w r:Nat)(n:Int)(ps:List (Int×Int)):Prop where
 ob:A[w]?=some (.ins 0 [(0,.int n),(1,.ref r)])
 ls:A[r]?=some (.lst (aN (srt ps)))
theorem bF.mono{A B:PHp}{w r:Nat}{n:Int}{ps:List (Int×Int)}(h:bF A w r n ps)(e:A<+:B):bF B w r n ps:=⟨ag e h.ob,ag e h.ls⟩
theorem EA{n:Int}{ps:List (Int×Int)}(W:L5 n ps){A B:PHp}{w q:Nat}(s:A<+:B)(p:A.length<=w)(f:B[w]?=some (.ins 0 []))(g:B[q]?=some (.lst (aN ps))) :
 ∃h r,P7 [.ref w,.int n,.ref q] B=.ok .non h/\A<+:h/\bF h w r n ps/\w<r:=by
 obtain⟨b,u,i⟩:=Ey W g;have a:=ag i f;have j:=ag i g;have c:=G1 a;have l:q≠w:=by rintro rfl;rw[g]at f;cases f
 have m:(b.set w (.ins 0 [(0,.int n)]))[q]?=some (.lst (aN ps)):=by rw[D4 l];exact j
 have d:(b.set w (.ins 0 [(0,.int n)]))[w]?=some (.ins 0 [(0,.int n)]):=aM a;have e:=ah (o:=PO.lst (aN (srt ps))) d;refine⟨((b.set w (PO.ins 0 [(0,.int n)]))++[PO.lst (aN (srt ps))]).set w (PO.ins 0 [(0,.int n),(1,.ref b.length)]),b.length,?_,?_,⟨aM e,?_⟩,c⟩
 ·simp[P7,Ew,W.lo,W.hi,u,a,d,m,e,Ez W.len]
 ·exact pre_set (E9 (pre_set (s.trans i) p)) p
 ·rw[D4 (JU c)];have:=ak (A:=b.set w (.ins 0 [(0,.int n)])) (o:=.lst (aN (srt ps)))
  rwa [Lo]at this
theorem EB{n:Int}{ps:List (Int×Int)}(W:L5 n ps){A:PHp}{q:Nat}(b:A[q]?=some (.lst (aN ps))) :
 ∃a r,P7 [.ref A.length,.int n,.ref q] (A++[.ins 0 []])=.ok .non a/\A<+:a/\bF a A.length r n ps/\A.length<r:=
 EA W (HN _ _) (HG _) ak (ah b)
noncomputable def Y8(ps:List (Int×Int))(h:Int):List Int:=(ps.filter λp=>decide (p.2=h)).map (·.1)
noncomputable def Y9(ps:List (Int×Int))(h:Int):List Int:=(ps.filter λp=>decide (p.1=h)).map (·.2)
theorem EC(ps:List (Int×Int))(h:Int):((aN ps).filter λv=>decide (fN v=h)).map (λv=>PV.int (gl v))=(Y8 ps h).map .int:=by
 simp only[aN,Y8,Kv,HV];rfl
theorem EE(ps:List (Int×Int))(h:Int):((aN ps).filter λv=>decide (gl v=h)).map (λv=>PV.int (fN v))=(Y9 ps h).map .int:=by
 simp only[aN,Y9,Kv,HV];rfl
theorem wj{a:Type}{xs:List a}{j:Nat}(h:j<xs.length):atI xs (j:Int)=some xs[j]:=by
 unfold atI ixN;rw[if_pos (by omega),if_pos (by omega)];simp[h]
theorem wl{a:Type}(xs:List a)(i:Nat):eP xs (some (i:Int)) none=xs.drop i:=by
 unfold eP c7;simp only;rw[if_neg (by omega)];rw[show(min (i:Int) (xs.length:Int)).toNat=min i xs.length by omega];by_cases h:i<=xs.length
 ·rw[Nat.min_eq_left h,JW (by simp)]
 ·rw[Nat.min_eq_right (by omega),List.drop_length,OA (by omega)];simp
theorem wm(p q:Int×Int):gG p q=true↔p.1<q.1\/(p.1=q.1/\p.2<q.2):=by
 unfold gG l2 G7 G7;by_cases h:p.1=q.1
 ·by_cases a:p.2=q.2<;>simp[h,a,G7]
 ·simp[h]
theorem wo(p q:Int×Int):gG p q=false↔¬(p.1<q.1\/(p.1=q.1/\p.2<q.2)):=by
 rw[←wm];simp
theorem wp(ps:List (Int×Int)):(srt ps).Pairwise (λp q=>gG q p=false):=by
 refine U9 ?_ ?_ ps
 ·intro a b h;rw[wm]at h;rw[wo];omega
 ·intro a b c d e;rw[wo]at *;omega
noncomputable def aw(N:Nat):List Int:=(Iw N).map λ(k:Nat)=>(k:Int)
theorem mem_hands{N:Nat}{x:Int}:x∈aw N↔0<=x/\x<N:=by
 unfold aw;rw[HQ];constructor
 ·rintro⟨k,a,rfl⟩;have:=JD.mp a;omega
 ·rintro⟨b,c⟩;exact⟨x.toNat,JD.mpr (by omega),by omega⟩
theorem aG(N:Nat):(aw N).length=N:=by simp[aw]
theorem oy(N:Nat):(aw N).Pairwise (·< ·):=by
 unfold aw;rw[Lr];exact List.pairwise_lt_range.imp λh=>by omega
theorem r6(N:Nat):(aw N).Nodup:=(oy N).imp λh z=>by omega
section
variable{A:PHp}{Q:PV->PHp->Prop}{E:XP}{σ:PSt}{i j:Int}{n k:Nat}{e e1 e2 e3 e4:ED}
abbrev DT:=List (List Int×PV)
variable{m:DT}
theorem r8{b:DT->PHp->Prop}(h:A[n]?=some (.dT m))(q:b m A):Wp (T4 n) A b E:=w_eq (a:=m) (by unfold T4;rw[h]) q
theorem jU(q:Q (.ref A.length) (A++[.dT []])):Wp (km σ) A Q E:=q
theorem mj(h:Wp (e1 σ) A (λk b=>Wp (e2 σ) b (λx a=>∃n i m,x=.ref n/\Q1 k=some i/\a[n]?=some (.dT m)/\Q (.bl (M6 m i).isSome) a) E) E):Wp (jw e1 e2 σ) A Q E:=
 C1 (ac h λk b c=>C1 (ac c λx a ⟨n,i,m,d,f,g,q⟩=>by subst d;rw[f];exact C1 (r8 g q)))
theorem jV(h:Wp (e1 σ) A (λx b=>Wp (e2 σ) b (λk a=>∃n i m v,x=.ref n/\Q1 k=some i/\a[n]?=some (.dT m)/\M6 m i=some v/\Q v a) E) E):Wp (kl e1 e2 σ) A Q E:=
 C1 (ac h λx b c=>C1 (ac c λk a ⟨n,i,m,v,d,f,g,l,q⟩=>by subst d;rw[f];exact C1 (r8 g (by rw[l];exact q))))
theorem ij(h:Wp (e1 σ) A (λx A1=>∃n b,x=.ref n/\A1[n]?=some (.dT b)/\Wp (e2 σ) A1 (λk a=>∃i m,Q1 k=some i/\a[n]?=some (.dT m)/\Q ((M6 m i).getD .non) a) E) E):Wp (pE e1 e2 σ) A Q E:=
 C1 (ac h λx A1 c=>by
  obtain⟨n,b,d,f,g⟩:=c;subst d;exact C1 (r8 f (C1 (ac g λk a ⟨i,m,l,o,q⟩=>by rw[l];exact C1 (r8 o q)))))
theorem fB(h:Wp (e1 σ) A (λx A1=>∃n b,x=.ref n/\A1[n]?=some (.dT b)/\Wp (e2 σ) A1 (λk c=>Wp (e3 σ) c (λv a=>∃i m,Q1 k=some i/\a[n]?=some (.dT m)/\Q ((M6 m i).getD v) a) E) E) E):Wp (pF e1 e2 e3 σ) A Q E:=
 C1 (ac h λx A1 d=>by
  obtain⟨n,b,f,g,l⟩:=d;subst f;exact C1 (r8 g (C1 (ac l λk c o=>C1 (ac o λv a ⟨i,m,p,r,q⟩=>by rw[p];exact C1 (r8 r q))))))
theorem jW{c:Fl->PHp->Prop}(h:Wp (e3 σ) A (λv d=>Wp (e1 σ) d (λx f=>Wp (e2 σ) f (λk b=>∃n i m,x=.ref n/\Q1 k=some i/\b[n]?=some (.dT m)/\m.length<LIM/\c (.nx σ) (b.set n (.dT (Z4 m i v)))) E) E) E):Wp (kZ e1 e2 e3 σ) A c E:=
 C1 (ac h λv d g=>C1 (ac g λx f l=>C1 (ac l λk b o=>by
  obtain⟨n,i,m,p,r,s,u,q⟩:=o;subst p;rw[r];exact C1 (r8 s (D6 u (C1 (w_eq (a:=()) rfl q)))))))
theorem ik(h:Wp (e σ) A (λx a=>∃n m,x=.ref n/\a[n]?=some (.dT m)/\((m.map (·.1)).Nodup/\∀p∈m,p.1∈small)/\Q (.ref a.length) (a++[.dT m])) E):Wp (pH e σ) A Q E:=
 C1 (ac h λx a ⟨n,m,b,c,d,q⟩=>by subst b;exact C1 (r8 c (D6 d q)))
theorem ml{x y:PN}(q:Q (.bl (decide (x=y))) A):Wp (cF (.str x) (.str y)) A Q E:=Eh rfl rfl q
theorem mn{x y:PN}(q:Q (.bl (!decide (x=y))) A):Wp (dO (.str x) (.str y)) A Q E:=Ei rfl rfl q
theorem il(h:Wp (e σ) A (λx a=>Wp (lc x) a (λb c=>Q (.bl b) c) E) E):Wp (nv e σ) A Q E:=C1 (ac h λ_ _ d=>C1 d)
end
theorem mq{m:DT}{i:List Int}{v:PV}(h:i∉m.map (·.1)):Z4 m i v=m++[(i,v)]:=by
 unfold Z4;rw[if_neg];rw[LM];rintro⟨p,a,b⟩;exact h (HQ.mpr ⟨p,a,by simpa using b⟩)
theorem EF{m:DT}{i:List Int}{v:PV}(b:(m.map (·.1)).Nodup)(h:(i,v)∈m):M6 m i=some v:=by
 induction m with
 | nil=>cases h
 | cons p r ih=>
   unfold M6;rcases HK.mp h with z | z
   ·rw[←z,if_pos rfl]
   ·have a:=Jt.mp b;have:p.1≠i:=λe=>a.1 (HQ.mpr ⟨_,z,e.symm⟩);rw[if_neg this];exact ih a.2 z
section
variable{α:Type}{m:M α}{A:PHp}{E:XP}{σ:PSt}
theorem mr{Q:α->PHp->Prop}(h:Wp m A Q NoX):Wp (dP m) A Q E:=by
 obtain⟨a,b,e,q⟩:=op h;exact w_eq (Ar e) q
theorem dX{s:SD}{Q:Fl->PHp->Prop}(h:Wp (s σ) A Q NoX):Wp (fD s σ) A Q E:=mr h
theorem jX{t:TD}{Q:Bool->PHp->Prop}(h:Wp (t σ) A Q NoX):Wp (hX t σ) A Q E:=mr h
theorem im{c:Nat}{e:ED}{Q:Fl->PHp->Prop}(h:Wp (e σ) A (λv a=>E c v a) NoX):Wp (n5 c (ai e av) σ) A Q E:=by
 refine C1 (mr (gA (ac h λv a b=>iY ?_)));exact b
end
section
variable{A:PHp}{E:XP}{n:Nat}{l:List PV}{m:DT}
theorem gH{a:Bool->PHp->Prop}{x:PV}{b:Bool}(h:lc x A=.ok b A)(q:a b A):Wp (lc x) A a E:=w_eq h q
theorem gI{a:Bool->PHp->Prop}(h:A[n]?=some (.lst l))(q:a false A):Wp (lc (.ref n)) A a E:=C1 (Y2 h q)
theorem io{a:Bool->PHp->Prop}(h:A[n]?=some (.lst l))(q:a false A):Wp (iO .int (.ref n)) A a E:=C1 (Y2 h q)
theorem ip{a:Bool->PHp->Prop}(h:A[n]?=some (.lst l))(q:a false A):Wp (iO .bool (.ref n)) A a E:=C1 (Y2 h q)
theorem iq{a:Bool->PHp->Prop}(h:A[n]?=some (.lst l))(q:a false A):Wp (iO .tuple (.ref n)) A a E:=C1 (Y2 h q)
theorem rB{R:Nat->DT->Prop}(h:A[n]?=some (.dT m))(q:R n m):∃a b,PV.ref n=.ref a/\A[a]?=some (.dT b)/\R a b:=⟨n,m,rfl,h,q⟩
theorem rD{k:PV}{i:List Int}{R:List Int->DT->Prop}(c:Q1 k=some i)(h:A[n]?=some (.dT m))(q:R i m):∃a b,Q1 k=some a/\A[n]?=some (.dT b)/\R a b:=⟨i,m,c,h,q⟩
theorem rE{k:PV}{i:List Int}{R:Nat->List Int->DT->Prop}(d:Q1 k=some i)(h:A[n]?=some (.dT m))(q:R n i m):∃a b c,PV.ref n=.ref a/\Q1 k=some b/\A[a]?=some (.dT c)/\R a b c:=⟨n,i,m,rfl,d,h,q⟩
theorem rF{k:PV}{i:List Int}{v:PV}{R:PV->Prop}(e:Q1 k=some i)(h:A[n]?=some (.dT m))(f:M6 m i=some v)(q:R v):∃a b c d,PV.ref n=.ref a/\Q1 k=some b/\A[a]?=some (.dT c)/\M6 c b=some d/\R d:=⟨n,i,m,v,rfl,e,h,f,q⟩
theorem gJ{o:PO}{k:Nat}(h:A.length=k):(A++[o])[k]?=some o:=by subst h;exact ak
theorem EI{c:Bool}{P R:Prop}(h:c=false)(q:R):(c=true->P)/\(c=false->R):=⟨λz=>(by rw[h]at z;cases z),λ_=>q⟩
theorem EJ{c:Bool}{P R:Prop}(h:c=true)(q:P):(c=true->P)/\(c=false->R):=⟨λ_=>q,λz=>by rw[h]at z;cases z⟩
end
section
variable{A:PHp}{E:XP}{σ:PSt}{Q:PV->PHp->Prop}{QF:Fl->PHp->Prop}{g:GD}{s b:SD}{es:AD}{e:ED}
theorem EK{j:ID}(P:Nat->PSt->PHp->Prop)(h:Wp (j σ) A (λJ A1=>∃a l,J=.enm a/\P 0 σ A1/\(∀i σ B,P i σ B->E4 a B=.ok l B)/\(∀(i:Nat) v σ B,l[i]?=some v->P i σ B->Wp (g (.tup [.int i,v]) σ) B (λd o=>Wp (s d) o (jN (P (i+1)) QF) E) E)/\∀σ B,P l.length σ B->QF (.nx σ) B) E) :
 Wp (v8 j g s σ) A QF E:=C1 (ac h λJ A1 p=>by
 obtain⟨a,l,q,m,f,hs,he⟩:=p;subst q;refine C1 (C1 (w_eq (f 0 σ A1 m) (kE ?_)));refine md P (λσ B c=>⟨by show ap (E4 a) _ B=_;rw[aD (f _ σ B c)];simp,he σ B c⟩) (λi σ B n c=>?_) l.length 0 σ A1 (by omega) m (l.length+1) (Jl _);exact⟨.tup [.int i,l[i]],by show ap (E4 a) _ B=_;rw[aD (f _ σ B c),HX n];rfl,hs i l[i] σ B (HX n) c⟩)
theorem jb{d:List Nat}{hs:List Hd}(h:Wp (b σ) A QF (λc v a=>c∈d/\Wp (i3 hs c v σ) a QF E)):Wp (kY d b hs σ) A QF E:=by
 unfold Wp at h ⊢;unfold kY;cases e:b σ A with
 | ok f a=>rw[e]at h;exact h
 | ex c v a=>
   rw[e]at h;dsimp only at h ⊢;rw[T5 h.1];exact h.2
 | no=>rw[e]at h;exact h.elim
theorem EL{c k:Nat}{v:PV}{r:List Hd}(hs:gu c k=true)(h:Wp (b σ) A QF E):Wp (i3 ((k,none,b)::r) c v σ) A QF E:=by
 unfold i3;rw[if_pos hs];exact h
theorem ir{c:Nat}{f:Fun}(h:Wp (e σ) A (λx A1=>∃n fs,x=.ref n/\A1[n]?=some (.ins c fs)/\Wp (es σ) A1 (λd i=>Wp (f (.ref n::d)) i Q E) NoX) NoX):Wp (jv c f e es σ) A Q E:=
 C1 (mr (ac h λx A1 j=>by
  obtain⟨n,fs,l,m,o⟩:=j;subst l;exact C1 (w_eq (a:=(c,fs)) (A':=A1) (by show V3 n A1=_;unfold V3;rw[m]) (D6 rfl (C1 (mr o))))))
end
end Ws
local macro_rules | `(tactic| walk_at "s1")=>`(tactic| first
 | with_reducible refine Ws.ir ?_
 | with_reducible refine Ws.w_isV ?_)
local macro_rules | `(tactic| walk_at "s3")=>`(tactic| ((with_reducible apply Ws.exX);(·walk_at "st");(·decide)))
local macro_rules | `(tactic| walk_at "s1")=>`(tactic| first
 | with_reducible refine Ws.il ?_
 | with_reducible refine Ws.jV ?_
 | with_reducible refine Ws.ij ?_
 | with_reducible refine Ws.fB ?_
 | with_reducible refine Ws.jW ?_
 | with_reducible refine Ws.mj ?_
 | with_reducible refine Ws.ik ?_
 | with_reducible refine Ws.dX ?_
 | with_reducible refine Ws.jX ?_
 | with_reducible refine Ws.im ?_)
local macro_rules | `(tactic| walk_at "s2")=>`(tactic| first
 | with_reducible refine Ws.jU ?_
 | with_reducible refine Ws.ml ?_
 | with_reducible refine Ws.mn ?_
 | ((with_reducible apply Ws.gI);(·walk_at "st"))
 | ((with_reducible apply Ws.gH);(·rfl))
 | ((with_reducible apply Ws.io);(·walk_at "st"))
 | ((with_reducible apply Ws.ip);(·walk_at "st"))
 | ((with_reducible apply Ws.iq);(·walk_at "st")))
local macro_rules | `(tactic| walk_at "s3")=>`(tactic| first
 | ((with_reducible apply Ws.rB);(·walk_at "st"))
 | ((with_reducible apply Ws.rD);(·rfl);(·walk_at "st"))
 | ((with_reducible apply Ws.rE);(·rfl);(·walk_at "st"))
 | ((with_reducible apply Ws.rF);(·rfl);(·walk_at "st");(·first | assumption | rfl)))
local macro_rules | `(tactic| walk_at "pre")=>`(tactic| first
 | assumption
 | exact Iy _
 | (refine Ws.E9 ?_;walk_at "pre")
 | ((refine Ws.pre_set ?pp ?nn);(case nn=>walk_at "ne");(case pp=>walk_at "pre"))
 | (refine List.IsPrefix.trans (by assumption) ?_;walk_at "pre"))
local macro_rules | `(tactic| walk_at "s3")=>`(tactic| ((with_reducible refine And.intro (a:=List.IsPrefix _ _) ?h1 ?_);(case h1=>walk_at "pre")))
local macro_rules | `(tactic| walk_at "s3")=>`(tactic| ((with_reducible refine And.intro (a:=_<900) ?h1 ?_);(case h1=>((simp only[Il,Jm,Ws.putFld,Nat.reduceEqDiff,if_false]);(try omega)))))
local macro_rules | `(tactic| walk_at "ne")=>`(tactic| first
 | assumption
 | omega
 | ((simp only[Lo,Ie,Il,Jm]);omega))
local macro_rules | `(tactic| walk_at "st")=>`(tactic| first
 | ((with_reducible refine Ws.gJ ?_);(first | rfl | ((simp only[Lo,Ie,Il,Jm]);done) | ((simp only[Lo,Ie,Il,Jm]);omega)))
 | ((with_reducible apply Ws.aM);walk_at "st")
 | ((with_reducible apply Ws.ah);walk_at "st")
 | ((refine(Ws.D4 ?ne).trans ?_);(case ne=>walk_at "ne");walk_at "st"))
local macro_rules | `(tactic| walk_at "br")=>`(tactic| first
 | ((with_reducible refine Ws.EI ?_ ?_);(·first | rfl | (simp;done) | decide))
 | ((with_reducible refine Ws.EJ ?_ ?_);(·first | rfl | (simp;done) | decide)))
local macro_rules | `(tactic| walk_at "gb")=>`(tactic| repeat (first | walk_at "s" | walk_at "br"))
namespace Ws
section
variable{A:PHp}{Q:PV->PHp->Prop}{E:XP}{σ:PSt}{e e1 e2 e3:ED}
theorem w_any(h:Wp (e σ) A (λx A1=>∃n bs,x=.ref n/\A1[n]?=some (.lst (Nz .bl bs))/\Q (.bl (bs.any id)) A1) E):Wp (le e σ) A Q E:=
 C1 (ac h λx A1 a=>by
  obtain⟨n,bs,b,c,q⟩:=a;subst b;refine C1 (Q6 c ?_);rw[d5];exact q)
theorem dY(h:Wp (e1 σ) A (λx A1=>∃n f,x=.ref n/\A1[n]?=some (.dT f)/\Wp (e2 σ) A1 (λk g=>Wp (e3 σ) g (λv b=>∃i m,Q1 k=some i/\b[n]?=some (.dT m)/\
 (∀w,M6 m i=some w->Q w b)/\(M6 m i=none->m.length<LIM/\Q v (b.set n (.dT (Z4 m i v))))) E) E) E):Wp (ko e1 e2 e3 σ) A Q E:=
 C1 (ac h λx A1 c=>by
  obtain⟨n,f,l,o,p⟩:=c;subst l;refine C1 (r8 o (C1 (ac p λk g q=>C1 (ac q λv b c=>?_))));obtain⟨i,m,r,s,u,j⟩:=c;rw[r];refine C1 (r8 s ?_);cases d:M6 m i with
  | some w=>exact u w d
  | none=>exact D6 (j d).1 (C1 (w_eq (a:=()) rfl (j d).2)))
theorem fP(h:Wp (e σ) A (λx A1=>∃n l m,x=.ref n/\A1[n]?=some (.lst l)/\gv l=some m/\m.length<LIM/\Q (.ref A1.length) (A1++[.dT (m.foldl (λa p=>Z4 a p.1 p.2) [])])) E):Wp (pJ e σ) A Q E:=
 C1 (ac h λx A1 b=>by
  obtain⟨n,l,m,c,d,f,g,q⟩:=b;subst c;refine C1 (Y2 d ?_);rw[f];exact D6 g q)
end
end Ws
local macro_rules | `(tactic| walk_at "s1")=>`(tactic| first
 | with_reducible refine Ws.w_any ?_
 | with_reducible refine Ws.dY ?_
 | with_reducible refine Ws.fP ?_)
namespace Ws
section
theorem EM{a c:Type}(f:a->c)(xs:List a)(lo b:Option Int):eP (xs.map f) lo b=(eP xs lo b).map f:=by
 unfold eP;rw[HC,Om,Nb]
end
noncomputable def j7:List Int->Bool
 | a::b::r=>decide (a<b)&&j7 (b::r)
 | _=>true
noncomputable def r9(n:Int)(L:List Int):Bool:=!decide (L=[])&&(L.all λh=>decide (0<=h/\h<n))&&j7 L
theorem wq:∀L:List Int,(((l6 (L.map .int) ((L.drop 1).map .int)).map λv=>decide (gl v<fN v)).all id)=j7 L
 | []=>rfl
 | [a]=>rfl
 | a::b::r=>by
   have ih:=wq (b::r);show(decide (a<b)&&_)=_;rw[j7,←ih];rfl
theorem EN{L M:List Int}{v:PV}(h:v∈l6 (L.map .int) (M.map .int)):∃a b:Int,v=.tup [.int a,.int b]:=by
 induction L generalizing M with
 | nil=>cases h
 | cons a r ih=>
   cases M with
   | nil=>cases h
   | cons b s=>
     rcases HK.mp h with z | z
     ·exact⟨a,b,z⟩
     ·exact ih z
theorem dZ{A:PHp}{l:Nat}{L:List Int}(f:A[l]?=some (.lst (L.map .int)))(j:L.length<=1000):Wp (R8 [.ref l]) A (λv A'=>A<+:A'/\v=.bl (j7 L)) NoX:=by
 unfold R8;walk_at "fn";walk_at "go";unfold q8;refine N3 (l:=l6 (L.map .int) ((L.drop 1).map .int)) (λe=>∃x y,e=[x,y]) (λ_=>true) (λv=>.bl (decide (gl v<fN v))) ?_;walk_at "go";have g:eP (L.map PV.int) (some 1) none=(L.drop 1).map .int:=by rw[EM];exact congrArg _ (wl L 1)
 rw[g];have c:(A++[PO.lst ((L.drop 1).map .int)])[l]?=some (.lst (L.map .int)):=ah f;have d:=we (L.map .int) ((L.drop 1).map .int);rw[HC]at d;walk_at "go";refine⟨L.length,?_,d,aH (by omega),⟨_,_,rfl⟩,λi=>Eo c ak i,?_,?_⟩
 ·show ap (E4 l) _ _=_;rw[aD (J7 c)];simp
 ·rintro v e h ⟨x,y,rfl⟩;obtain⟨a,b,rfl⟩:=EN h;walk_at "go";refine⟨rfl,⟨_,_,rfl⟩,?_⟩;walk_at "go";refine⟨rfl,rfl,λ_=>?_⟩;walk_at "go";exact⟨rfl,rfl⟩
 ·refine⟨_,(l6 (L.map .int) ((L.drop 1).map .int)).map λv=>decide (gl v<fN v),rfl,?_,?_⟩
  ·rw[ak,IU.mpr (by simp),HV];rfl
  ·rw[wq];exact⟨E9 (HN _ _),rfl⟩
theorem dh{A:PHp}{w r l:Nat}{n:Int}{ps:List (Int×Int)}(W:bF A w r n ps){L:List Int}(f:A[l]?=some (.lst (L.map .int)))(g:L.length<=1000):Wp (O2 [.ref w,.ref l]) A (λv A'=>A<+:A'/\v=.bl (r9 n L)) NoX:=by
 unfold O2;walk_at "fn";walk_at "gb";refine⟨λc=>?_,λc=>?_⟩
 ·walk_at "go";have:L=[]:=of_decide_eq_true c;simp[r9,this]
 have d:L≠[]:=of_decide_eq_false c;walk_at "go";unfold bD;have j:=W.mono (HN A [PO.lst []]);have m:=j.ob;have a:(A++[PO.lst []])[l]?=some (.lst (L.map .int)):=ah f;refine N3 (l:=L.map .int) (λe=>∃x,e=[x,some (.ref w)]) (λ_=>true) (λv=>match v with | .int h=>.bl (decide (0<=h/\h<n)) | _=>.non) ?_;walk_at "go";refine⟨L.length,by rw[N8 a];simp,by simp,by simp;exact aH (by omega),⟨_,rfl⟩,λi=>N9 a i,?_,?_⟩
 ·rintro v e o ⟨x,rfl⟩;obtain⟨h,s,rfl⟩:=HQ.mp o;walk_at "go";refine⟨rfl,⟨_,rfl⟩,?_⟩;walk_at "go";refine⟨rfl,rfl,λ_=>?_⟩;walk_at "go";exact w_eq (bP _ _ _) ⟨rfl,rfl⟩
 ·refine⟨_,L.map λh=>decide (0<=h/\h<n),rfl,?_,?_⟩
  ·rw[ak,IU.mpr (by simp),HV,HV];rfl
  ·refine⟨_,rfl,λb=>?_,λb=>?_⟩
   ·walk_at "go";refine ac (dZ (ah a) g) λv u ⟨p,q⟩=>⟨(E9 (HN _ _)).trans p,?_⟩;rw[q];have:(L.all λh=>decide (0<=h/\h<n))=true:=by rw[ME]at b;exact b
    simp only[r9,this,d];simp
   ·refine⟨E9 (HN _ _),?_⟩;have:(L.all λh=>decide (0<=h/\h<n))=false:=by rw[ME]at b;exact b
    simp only[r9,this];simp
theorem wr:∀{L:List Int},j7 L=true->L.Pairwise (·< ·)
 | [],_=>.nil
 | [a],_=>by simp
 | a::b::r,h=>by
   rw[j7,HZ]at h;have ih:=wr h.2;have c:a<b:=of_decide_eq_true h.1;refine IG.mpr ⟨λx d=>?_,ih⟩;rcases HK.mp d with z | z
   ·rw[z];exact c
   ·have:=(IG.mp ih).1 x z;omega
theorem wt:∀{L:List Int},L.Pairwise (·< ·)->j7 L=true
 | [],_=>rfl
 | [a],_=>rfl
 | a::b::r,h=>by
   rw[j7,HZ];have c:=IG.mp h;exact⟨decide_eq_true (c.1 b HM),wt c.2⟩
theorem rG:∀{L M:List Int},L.Pairwise (·< ·)->M.Pairwise (·< ·)->(∀x,x∈L↔x∈M)->L=M
 | [],[],_,_,_=>rfl
 | [],b::s,_,_,h=>by have:=(h b).mpr HM;cases this
 | a::r,[],_,_,h=>by have:=(h a).mp HM;cases this
 | a::r,b::s,g,i,h=>by
   have d:=IG.mp g;have f:=IG.mp i;have e:a=b:=by
    have j:=(h a).mp HM;have l:=(h b).mpr HM;rcases HK.mp j with z | z
    ·exact z
    ·rcases HK.mp l with y | y
     ·exact y.symm
     ·have:=f.1 a z;have:=d.1 b y;omega
   subst e;rw[rG d.2 f.2 λx=>⟨λc=>?_,λc=>?_⟩]
   ·rcases HK.mp ((h x).mp (HR _ c))with z | z
    ·have:=d.1 x c;omega
    ·exact z
   ·rcases HK.mp ((h x).mpr (HR _ c))with z | z
    ·have:=f.1 x c;omega
    ·exact z
theorem lead_iff{N:Nat}{L:List Int}:r9 N L=true↔L=(aw N).filter (λh=>decide (h∈L))/\L≠[]:=by
 unfold r9;constructor
 ·intro h;rw[HZ,HZ]at h;refine⟨rG (wr h.2) ((oy N).filter _) λx=>?_,by simpa using h.1.1⟩;have c:=Ik.mp h.1.2;rw[IL,mem_hands];exact⟨λa=>⟨of_decide_eq_true (c x a),decide_eq_true a⟩,λa=>of_decide_eq_true a.2⟩
 ·rintro⟨h,b⟩;have d:L.Pairwise (·< ·):=by rw[h];exact(oy N).filter _
  rw[HZ,HZ];refine⟨⟨by simpa using b,Ik.mpr λx a=>?_⟩,wt d⟩;rw[h,IL]at a;exact decide_eq_true (mem_hands.mp a.1)
theorem EO{a b:Int}(c:0<=a/\a<10)(d:0<=b/\b<10):[a,b]∈small:=by
 unfold small;rw[List.mem_flatten];refine⟨_,HQ.mpr ⟨a.toNat,JD.mpr (by omega),rfl⟩,HQ.mpr ⟨b.toNat,JD.mpr (by omega),?_⟩⟩;rw[PD c.1,PD d.1]
theorem jY{p q:Int×Int}(h:l2 p=l2 q):p=q:=by
 obtain⟨a,b⟩:=p;obtain⟨c,d⟩:=q;simp[l2]at h;simp[h]
noncomputable def cX(m:DT)(p:Int×Int):Int:=match M6 m (l2 p)with
 | some (.int z)=>z
 | _=>0
noncomputable def limD(a:List (Int×Int))(f:Int×Int->Int):DT:=a.map λp=>(l2 p,PV.int (f p))
theorem wu(a:List (Int×Int))(f:Int×Int->Int):(limD a f).map (·.1)=a.map l2:=by unfold limD;rw[HV];rfl
theorem wv{d:List (Int×Int)}{f:Int×Int->Int}(h:d.Nodup):((limD d f).map (·.1)).Nodup:=by
 rw[wu];exact Oc.map _ (λa b c z=>c (jY z)) h
theorem ww{a:List (Int×Int)}{f:Int×Int->Int}(h:a.Nodup){p:Int×Int}(b:p∈a):M6 (limD a f) (l2 p)=some (.int (f p)):=EF (wv h) (HQ.mpr ⟨p,b,rfl⟩)
theorem EQ{a:List (Int×Int)}{f:Int×Int->Int}{n:Int}(e:n<=6)(b:∀p∈a,good n p):∀p∈limD a f,p.1∈small:=λp c=>by
 obtain⟨q,d,rfl⟩:=HQ.mp c;have:=b q d;exact EO ⟨this.1.1,by have:=this.1.2;omega⟩ ⟨this.2.1.1,by have:=this.2.1.2;omega⟩
theorem ES{a:List (Int×Int)}{f:Int×Int->Int}{p:Int×Int}(b:p∉a):Z4 (limD a f) (l2 p) (.int (f p))=limD (a++[p]) f:=by
 rw[mq]
 ·simp[limD]
 ·rw[wu];intro z;obtain⟨q,c,e⟩:=HQ.mp z;rw[←jY e]at b;exact b c
structure cB(A:PHp)(P w r:Nat)(n:Int)(ps:List (Int×Int))(L:List Int)(f:Int×Int->Int)(ll dl dk:Nat):Prop where
 web:bF A w r n ps
 ob:A[P]?=some (.ins 1 [(3,.ref w),(4,.ref ll),(5,.ref dl),(9,.tup (L.map .int)),(10,.ref dk)])
 ls:A[ll]?=some (.lst (L.map .int))
 ld:A[dl]?=some (.dT (limD (srt ps) f))
 lk:A[dk]?=some (.dT (limD (srt ps) f))
theorem cB.mono{A B:PHp}{P w r:Nat}{n:Int}{ps:List (Int×Int)}{L:List Int}{f:Int×Int->Int}{a dl b:Nat}(h:cB A P w r n ps L f a dl b)(e:A<+:B):cB B P w r n ps L f a dl b:=
 ⟨h.web.mono e,ag e h.ob,ag e h.ls,ag e h.ld,ag e h.lk⟩
theorem ET{z:Int}(h:0<=z)(A:PHp):U0 [.int z] A=.ok (.bl true) A:=by simp[U0,h]
section
variable{A:PHp}{w r l d:Nat}{n:Int}{ps:List (Int×Int)}{L:List Int}{m:DT}
theorem ea(h:ps.Nodup):(srt ps).Nodup:=(O0 ps).nodup_iff.mpr h
theorem iu{B:PHp}{P k:Nat}(W:bF A w r n ps)(Y:A[d]?=some (.dT m))(D:ps.Nodup)(N:ps.length<64)(Z:∀p∈ps,∃z,0<=z/\M6 m (l2 p)=some (.int z))
 (O:A<+:B) (hk:A.length<=k) (hB:B[k]?=some (.dT [])) (E:P≠k) {G:PO} (hP:B[P]?=some G) :
 Wp (Y3 [some (.ref P),some (.ref w),some (.ref l),some (.ref d),some (.ref k),none]) B (λo a=>(∃x,o=.nx [some (.ref P),some (.ref w),some (.ref l),some (.ref d),some (.ref k),x])/\A<+:a/\a[P]?=some G/\a.length=B.length/\a[k]?=some (.dT (limD (srt ps) (cX m)))) NoX:=by
 unfold Y3;have hs:∀p∈srt ps,p∈ps:=λp c=>(O0 ps).mem_iff.mp c;refine mf (λi C a=>(∃x,C=[some (.ref P),some (.ref w),some (.ref l),some (.ref d),some (.ref k),x])/\A<+:a/\a[P]?=some G/\a.length=B.length/\a[k]?=some (.dT (limD ((srt ps).take i) (cX m)))) ?_;have Q:=W.mono O;have a4:=Q.ob;have a5:=Q.ls;walk_at "go";refine⟨r,aN (srt ps),rfl,⟨⟨_,rfl⟩,O,hP,rfl,hB⟩,λi C a ⟨_,h,_⟩=>J7 (W.mono h).ls,?_,?_⟩
 ·rintro i v C B1 q ⟨⟨x,rfl⟩,p1,f,g,b⟩;simp only[aN,Ij]at q;cases c:(srt ps)[i]? with
  | none=>rw[c]at q;cases q
  | some p=>
    rw[c]at q;cases q;have s:p∈srt ps:=Io c;have a7:=ag p1 Y;have T:Q1 (pv p)=some (l2 p):=rfl;have tk:(srt ps).take (i+1)=(srt ps).take i++[p]:=by rw[Jh,c];rfl
    unfold q9;walk_at "go";obtain⟨z,hz,U⟩:=Z p (hs p s);have H:M6 m [p.1,p.2]=some (.int z):=U;rw[H];refine w_eq (ET hz _) ?_;walk_at "gb";have u:p∉(srt ps).take i:=by
     intro I;have J:=(HY.mp c).1;obtain⟨j,hj,e⟩:=Jp.mp I;rw[Jb]at hj;rw[NU]at e;have e2:(srt ps)[i]=p:=(HY.mp c).2;exact JF.mp (ea D) j i (by omega) J (by omega) (e.trans e2.symm)
    have y:cX m p=z:=by unfold cX;rw[U]
    refine⟨?_,?_⟩
    ·refine Q7 ?_;rw[limD,HC,Jb];have:=(O0 ps).length_eq;omega
    ·refine⟨⟨_,rfl⟩,pre_set p1 hk,by rw[D4 E];exact f,by simpa using g,?_⟩;rw[aM b,tk,←ES u,y];rfl
 ·rintro C B1 ⟨⟨x,rfl⟩,p1,f,g,b⟩;rw[aN,HC,Jc]at b;exact⟨⟨x,rfl⟩,p1,f,g,b⟩
theorem fQ(W:bF A w r n ps)(f:A[l]?=some (.lst (L.map .int)))(D:L.length<=1000)(E:A[d]?=some (.dT m))(a:L5 n ps)(g:r9 n L=true)(G:∀p∈ps,∃z,0<=z/\M6 m (l2 p)=some (.int z)) :
 Wp (P6 [.ref A.length,.ref w,.ref l,.ref d]) (A++[.ins 1 []]) (λv A'=>v=.non/\A<+:A'/\∃q dl s,cB A' A.length w r n ps L (cX m) q dl s/\A.length<q/\A.length<dl/\A.length<s) NoX:=by
 unfold P6;walk_at "fn";have h:A<+:A++[PO.ins 1 []]:=HN _ _;walk_at "go";refine ac (dh (W.mono h) (ag h f) D) λv b H=>?_;obtain⟨p1,I⟩:=H;subst I;have c:b[A.length]?=some (.ins 1 []):=ag p1 ak;have i:A<+:b:=h.trans p1;have e:=G1 c;rw[g];walk_at "gb";refine ac (iu (l:=l) (P:=A.length) (k:=b.length) W E a.nd a.len G (E9 i) (by omega) ak (by omega) (ah c)) λo B ⟨⟨x,J⟩,u,N,j,O⟩=>?_;subst J;have y:B.length=b.length+1:=by rw[j];simp
 have Y:=W.mono u;have C:=ag u f;have Q:=G1 f;have T:((limD (srt ps) (cX m)).map (·.1)).Nodup/\∀p∈limD (srt ps) (cX m),p.1∈small:=⟨wv (ea a.nd),EQ a.hi λp U=>a.good p ((O0 ps).mem_iff.mp U)⟩;walk_at "go";simp only[putFld,Nat.reduceEqDiff,if_false,Lo,Ie,Il,Jm,Qa];refine⟨trivial,?pre,B.length,B.length+1,b.length,⟨W.mono ?pre,?ob,?ls,?ld,?lk⟩,?_,?_,e⟩
 case pre=>walk_at "pre"
 case ob=>walk_at "st"
 case ls=>walk_at "st"
 case ld=>walk_at "st"
 case lk=>walk_at "st"
 ·omega
 ·omega
end
theorem EU{n:Type}{A:PHp}{Q:PV->PHp->Prop}{E:XP}{σ:PSt}{o:ID}{p:PSt->PSt}{g:GD}{e:ED}(xs:List n)(f j:n->PV)(S:PSt->Prop)
 (h:Wp (o σ) A (λJ A1=>m8 J A1=.ok xs.length A1/\xs.length<=LIM/\S (p σ)/\(∀i B,A1<+:B->item J i B=.ok (xs.map f)[i]? B)/\
  (∀x σ B,x∈xs->S σ->A1<+:B->Wp (g (f x) σ) B (λb q=>q=B/\S b/\Wp (e b) B (λy r=>y=j x/\B<+:r) E) E)/\
  ∀B,A1<+:B->Q (.ref B.length) (B++[.lst (xs.map j)])) E):Wp (L4 o p g T3 e σ) A Q E:=
 mh (ac h λJ A1 ⟨w,z,C,l,hs,he⟩=>⟨xs.map f,xs.length,λi a σ B=>A1<+:B/\S σ/\a=(xs.take i).map j,w,by simp,⟨Iy _,C,by simp⟩,λi a σ B ⟨c,_⟩=>l i B c,λi v a σ B s m=>by
  obtain⟨c,D,d⟩:=m;rw[Ij]at s;obtain⟨x,u,rfl⟩:=Ip.mp s;refine ac (hs x σ B (Io u) D c) λb q G=>?_;obtain⟨H,I,L⟩:=G;subst H;refine gC ⟨λ_=>ac L λy r ⟨N,O⟩=>⟨c.trans O,I,?_⟩,λT=>by cases T⟩;rw[d,N,Jh,u];simp,λa σ B m=>by
  obtain⟨c,_,d⟩:=m;rw[HC,JW (HG _)]at d;subst d;exact⟨by rw[HC];exact z,he B c⟩⟩)
theorem EV{a:Type}(xs:List a):(xs.map λ_=>true).all id=true:=by simp
section
variable{A:PHp}{Q:PV->PHp->Prop}{E:XP}{σ:PSt}{e:ED}
theorem fR(h:Wp (e σ) A (λx a=>∃n m,x=.ref n/\a[n]?=some (.dT m)/\(m.length<64/\∀p∈m,p.1≠[])/\Q (.ref a.length) (a++[.lst ((J8 G7 (m.map (·.1))).map λt=>.tup (t.map .int))])) E):Wp (pI e σ) A Q E:=
 C1 (ac h λx a ⟨n,m,b,c,d,q⟩=>by subst b;exact C1 (r8 c (D6 d q)))
end
end Ws
local macro_rules | `(tactic| walk_at "s1")=>`(tactic| first
 | with_reducible refine Ws.fR ?_)
local macro_rules | `(tactic| walk_at "s2")=>`(tactic| with_reducible refine Ws.w_mk0 ?_)
namespace Ws
open L2
noncomputable def al:Nat->Fun
 | 0=>b7
 | k+1=>D5 (al k)
inductive jZ:Nat->PV->Prop
 | int {k:Nat} {i:Int}:jZ (k+1) (.int i)
 | str {k:Nat} {x:PN}:jZ (k+1) (.str x)
 | tup {k:Nat} {l:List PV}:l.length<=1000->(∀v∈l,jZ k v)->jZ (k+1) (.tup l)
theorem mu{a:Type}{xs:List a}{i:Nat}{x:a}(h:xs[i]?=some x):atI xs (i:Int)=some x:=by
 obtain⟨b,c⟩:=HY.mp h;rw[wj b,c]
theorem wx{k:Nat}{l:List PV}{a b:PV}{A:PHp}(s:l.length<=1000)(m:∀v∈l,∀B,Wp (al k [v,v]) B (λv A'=>v=.bl true/\B<+:A') NoX)
 (o:∀B (i:Nat) v {Q:PV->PHp->Prop},A<+:B->l[i]?=some v->Q v B->Wp (bx a (.int (i:Int))) B Q NoX) (q:∀B (i:Nat) v {Q:PV->PHp->Prop},A<+:B->l[i]?=some v->Q v B->Wp (bx b (.int (i:Int))) B Q NoX)
 (c:∀{e:It->PHp->Prop},e (.rng 0 l.length) A->Wp (iRng1 (eV (aa 1)) [some a,some b]) A e NoX) :
 Wp (Y5 (al k) [some a,some b]) A (λx f=>∃n bs,x=.ref n/\f[n]?=some (.lst (Nz .bl bs))/\PV.bl (bs.all id)=.bl true/\A<+:f) NoX:=by
 unfold Y5;refine EU (Iw l.length) (λi=>.int (i:Int)) (λ_=>.bl true) (λg=>∃x,g=[x,some a,some b]) (c ?_);refine⟨by simp,by simp;exact aH (by omega),⟨_,rfl⟩,λi B p=>p9 _ _,?_,λB r=>?_⟩
 ·rintro i g B d ⟨x,rfl⟩ h;rw[JD]at d;have j:l[i]?=some l[i]:=HX d;walk_at "go";refine⟨rfl,⟨_,rfl⟩,?_⟩;walk_at "go";refine o B i _ h j ?_;walk_at "go";refine q B i _ h j ?_;walk_at "go";exact m _ (MM d) B
 ·refine⟨_,(Iw l.length).map λ_=>true,rfl,by rw[ak,HV];rfl,?_⟩;rw[EV];exact⟨rfl,r.trans (HN _ _)⟩
theorem cC:∀(k:Nat)(x:PV),jZ k x->∀A,Wp (al k [x,x]) A (λv A'=>v=.bl true/\A<+:A') NoX
 | 0,_,h,_=>by cases h
 | k+1,_,.int (i:=i),A=>by
   refine w_eq (A':=A) (a:=.bl true) ?_ ⟨rfl,Iy _⟩;show D5 (al k) [.int i,.int i] A=_;simp[D5,plain,bq]
 | k+1,_,.str (x:=x),A=>by
   show Wp (D5 (al k) [.str x,.str x]) A _ _;unfold D5;walk_at "fn";walk_at "gb";exact⟨by simp,Iy _⟩
 | k+1,_,.tup (l:=l) b c,A=>by
   show Wp (D5 (al k) [.tup l,.tup l]) A _ _;unfold D5;walk_at "fn";walk_at "gb";refine wx b (λv d B=>cC k v (c v d) B) (λB i v Q p h q=>?_) (λB i v Q p h q=>?_) λ{e} q=>?_
   ·exact gE (mu h) q
   ·exact gE (mu h) q
   ·walk_at "go";exact q
theorem EW{k:Nat}{l:List PV}{n m:Nat}{A:PHp}(b:l.length<=1000)(c:∀v∈l,jZ k v)(d:A[n]?=some (.lst l))(a:A[m]?=some (.lst l)):Wp (al (k+1) [.ref n,.ref m]) A (λv A'=>v=.bl true/\A<+:A') NoX:=by
 show Wp (D5 (al k) [.ref n,.ref m]) A _ _;unfold D5;walk_at "fn";walk_at "gb";refine wx b (λv a B=>cC k v (c v a) B) (λB i v Q p h q=>?_) (λB i v Q p h q=>?_) λ{e} q=>?_
 ·exact gD (ag p d) (mu h) q
 ·exact gD (ag p a) (mu h) q
 ·walk_at "go";exact q
theorem rH{A:PHp}(o:PO):A<+:A++[o]:=HN _ _
theorem wy{c:List Int}(h:c≠[]):atI (c.map PV.int) (-1)=some (.int (c.getLast h)):=by
 have a:0<c.length:=LU.mpr h;unfold atI ixN;rw[if_neg (by omega),HC,if_pos (by omega)];show(c.map PV.int)[((-1:Int)+c.length).toNat]?=_;rw[show((-1:Int)+c.length).toNat=c.length - 1 by omega,Ij,←NI,KQ h];rfl
section
variable{A:PHp}{N:Nat}{ps:List (Int×Int)}
def s8(N:Nat)(ps:List (Int×Int))(ld c:List Int):Prop:=(∃h:c≠[],c.getLast h∈ld)/\c.Nodup/\(∀x∈c,0<=x/\x<N)/\∀(i:Nat) a b,c[i]?=some a->c[i+1]?=some b->(a,b)∈ps
theorem fi{c:List Int}(h:c≠[]):¬(c7 (c.map PV.int).length 0 (some 1)=0/\c7 (c.map PV.int).length (c.map PV.int).length none=(c.map PV.int).length):=by
 have:0<c.length:=LU.mpr h;unfold c7;rw[HC];intro z;have:=z.1;simp at this;omega
theorem gK(c:List PV):eP c (some 1) none=c.drop 1:=by
 have:=wl c 1;exact this
theorem dc{a:Type}(f:a->Bool)(l:List a):((l.map f).all id=true)↔∀x∈l,f x=true:=by simp
theorem wz:∀(c:List Int),l6 (c.map PV.int) ((c.map PV.int).drop 1)=(c.zip (c.drop 1)).map pv
 | []=>rfl
 | [a]=>rfl
 | a::b::r=>by
   have ih:=wz (b::r);simp only[Ic,List.drop_succ_cons,Pc,l6,List.zip_cons_cons,Ic]at ih ⊢;exact congrArg _ ih
theorem mem_steps{c:List Int}{a b:Int}:(a,b)∈c.zip (c.drop 1)↔∃i:Nat,c[i]?=some a/\c[i+1]?=some b:=by
 rw[List.mem_iff_getElem?];constructor
 ·rintro⟨i,h⟩;rw[NJ]at h;exact⟨i,h.1,by rw[←h.2,List.getElem?_drop,Nat.add_comm]⟩
 ·rintro⟨i,d,e⟩;refine⟨i,?_⟩;rw[NJ];exact⟨d,by rw[List.getElem?_drop,Nat.add_comm];exact e⟩
theorem fS{w r:Nat}{ld c:List Int}(W:bF A w r N ps)(Z:c.length<100) :
 Wp (U3 [.ref w,.tup (ld.map .int),.tup (c.map .int)]) A (λv A'=>A<+:A'/\∃b,v=.bl b/\(b=true↔s8 N ps ld c)) NoX:=by
 unfold U3;have H:=W.ob;have I:=W.ls;walk_at "fn";walk_at "go";refine⟨λj=>?_,λj=>?_⟩
 ·walk_at "go";refine⟨λz=>(nomatch z),λz=>?_⟩;obtain⟨⟨h,_⟩,_⟩:=z;exact absurd (of_decide_eq_true j) h
 have e:c≠[]:=of_decide_eq_false j;have n:=wy e;walk_at "go";refine⟨λf=>?_,λf=>?_⟩
 ·walk_at "go";refine⟨λz=>(nomatch z),λz=>?_⟩;obtain⟨⟨h,o⟩,_⟩:=z;simp[o]at f
 have q:c.getLast e∈ld:=by simpa using f
 walk_at "go";refine⟨λg=>?_,λg=>?_⟩
 ·walk_at "go";refine⟨λz=>(nomatch z),λz=>?_⟩;have:=(tQ c).mp (by have:=of_decide_eq_true g;omega);exact absurd z.2.1 this
 have s:c.Nodup:=by
  by_cases z:c.Nodup
  ·exact z
  ·have:=(tQ c).mpr z;have:=of_decide_eq_false g;omega
 walk_at "go";unfold cv;refine N3 (l:=c.map .int) (λm=>∃x,m=[x,some (.ref w)]) (λ_=>true) (λv=>.bl (match v with | .int x=>decide (0<=x/\x<N) | _=>false)) ?_;walk_at "go";refine⟨⟨_,rfl⟩,λi=>rfl,?_,?_⟩
 ·rintro v m u ⟨x,rfl⟩;obtain⟨y,J,rfl⟩:=HQ.mp u;walk_at "go";refine⟨rfl,⟨_,rfl⟩,?_⟩;walk_at "go";refine⟨rfl,rfl,λ_=>?_⟩;walk_at "go";exact w_eq (bP N y A) ⟨rfl,rfl⟩
 have G:((c.map PV.int).filter λ_=>true).map (λv=>PV.bl (match v with | .int x=>decide (0<=x/\x<N) | _=>false))=(c.map λx=>decide (0<=x/\x<(N:Int))).map PV.bl:=by
  rw[IU.mpr (by simp),HV,HV];rfl
 refine⟨_,_,rfl,by rw[ak,G],?_⟩;walk_at "go";refine⟨λd=>?_,λd=>?_⟩
 ·walk_at "go";refine⟨λz=>(nomatch z),λz=>?_⟩;have:((c.map λx=>decide (0<=x/\x<(N:Int))).all id)=true:=(dc _ _).mpr λx B=>decide_eq_true (z.2.2.1 x B);rw[this]at d;cases d
 have C:∀x∈c,0<=x/\x<(N:Int):=by
  have:((c.map λx=>decide (0<=x/\x<(N:Int))).all id)=true:=by
   cases z:((c.map λx=>decide (0<=x/\x<(N:Int))).all id)with
   | true=>rfl
   | false=>rw[z]at d;cases d
  exact λx B=>of_decide_eq_true ((dc _ _).mp this x B)
 rw[G];generalize D:A++[PO.lst ((c.map λx=>decide (0<=x/\x<(N:Int))).map PV.bl)]=L;have p1:A<+:L:=by rw[←D];exact rH _
 have O:=ag p1 H;have Q:=ag p1 I;walk_at "go";unfold cw;refine N3 (l:=(c.zip (c.drop 1)).map pv) (λm=>∃x,m=[x,some (.ref w)]) (λ_=>true) (λv=>.bl (decide ((gl v,fN v)∈srt ps))) ?_;walk_at "go";refine⟨fi e,?_⟩;walk_at "go";refine⟨by simp,aH (by simp;omega),⟨_,rfl⟩,λi=>by rw[Em,gK,wz],?_,?_⟩
 ·rintro v m u ⟨x,rfl⟩;obtain⟨y,J,rfl⟩:=HQ.mp u;walk_at "go";refine⟨rfl,⟨_,rfl⟩,?_⟩;walk_at "go";refine⟨rfl,rfl,λ_=>?_⟩;unfold pv;walk_at "go";exact⟨rfl,rfl⟩
 have T:(((c.zip (c.drop 1)).map pv).filter λ_=>true).map (λv=>PV.bl (decide ((gl v,fN v)∈srt ps)))=((c.zip (c.drop 1)).map λp=>decide (p∈srt ps)).map PV.bl:=by
  rw[IU.mpr (by simp),HV,HV];rfl
 refine⟨_,_,rfl,by rw[ak,T],?_⟩;refine⟨p1.trans (rH _),_,rfl,?_⟩;rw[dc];constructor
 ·intro h;refine⟨⟨e,q⟩,s,C,λi a b U j=>?_⟩;exact(O0 ps).mem_iff.mp (of_decide_eq_true (h (a,b) (mem_steps.mpr ⟨i,U,j⟩)))
 ·rintro⟨_,_,_,h⟩ ⟨a,b⟩ E;obtain⟨i,o,Y⟩:=mem_steps.mp E;exact decide_eq_true ((O0 ps).mem_iff.mpr (h i a b o Y))
end
structure LS where
 now:Int
 lays:List ((Int×Int)×Int)
 says:List ((Int×Int)×Nat×List (Int×List Int))
 first:List (List Int×Int)
 m:Nat
structure cc where
 N:Nat
 ps:List (Int×Int)
 L:List Int
 f:Int×Int->Int
 fr:List Int
 P:Nat
 w:Nat
 r:Nat
 ll:Nat
 dl:Nat
 dk:Nat
 G:Nat
noncomputable def rowS(q:Int×List Int):PV:=.tup [.int q.1,.tup (q.2.map .int)]
noncomputable def j8(S:LS):DT:=S.lays.map λp=>(l2 p.1,PV.int p.2)
noncomputable def W5(S:LS):DT:=S.says.map λp=>(l2 p.1,PV.ref p.2.1)
noncomputable def gW(S:LS):DT:=S.first.map λp=>(p.1,PV.int p.2)
noncomputable def sadr(S:LS):List Nat:=S.says.map λe=>e.2.1
noncomputable def own(c:cc)(S:LS):List Nat:=c.G::(c.G+2)::(c.G+3)::(c.G+4)::sadr S
noncomputable def dom(c:cc)(S:LS):List Nat:=c.P::c.w::c.r::c.ll::c.dl::c.dk::(c.G+1)::own c S
structure be(A:PHp)(c:cc)(S:LS):Prop where
 plan:cB A c.P c.w c.r c.N c.ps c.L c.f c.ll c.dl c.dk
 ob:A[c.G]?=some (.ins 2 [(6,.ref c.P),(7,.ref (c.G+1)),(11,.tup (c.fr.map .int)),(12,.int S.now),(13,.ref (c.G+2)),(14,.ref (c.G+3)),(15,.ref (c.G+4))])
 fl:A[c.G+1]?=some (.lst (c.fr.map .int))
 tl:A[c.G+2]?=some (.dT (j8 S))
 sl:A[c.G+3]?=some (.dT (W5 S))
 ul:A[c.G+4]?=some (.dT (gW S))
 rows:∀e∈S.says,A[e.2.1]?=some (.lst (e.2.2.map rowS))
 lt:c.P<c.G/\c.w<c.G/\c.r<c.G/\c.ll<c.G/\c.dl<c.G/\c.dk<c.G
 hi:∀a∈sadr S,c.G+4<a
 an:(sadr S).Nodup
 kn:(S.says.map (·.1)).Nodup
 ln:(S.lays.map (·.1)).Nodup
 lp:∀p∈S.lays.map (·.1),p∈c.ps
 pg:L5 c.N c.ps
 sz:S.m<=2000/\S.says.length<=S.m/\S.first.length<=S.m/\∀e∈S.says,e.2.2.length<=S.m
theorem be.keep{A B:PHp}{c:cc}{S:LS}(h:be A c S)(k:∀a∈dom c S,∀o,A[a]?=some o->B[a]?=some o):be B c S:=by
 have b:∀a,a∈[c.P,c.w,c.r,c.ll,c.dl,c.dk,c.G+1,c.G,c.G+2,c.G+3,c.G+4]->a∈dom c S:=λa d=>by
  simp only[HK,IT,or_false]at d;simp only[dom,own,HK];rcases d with z | z | z | z | z | z | z | z | z | z | z<;>simp[z]
 refine⟨⟨⟨k _ (b _ (by simp)) _ h.plan.web.ob,k _ (b _ (by simp)) _ h.plan.web.ls⟩,k _ (b _ (by simp)) _ h.plan.ob,k _ (b _ (by simp)) _ h.plan.ls,k _ (b _ (by simp)) _ h.plan.ld,k _ (b _ (by simp)) _ h.plan.lk⟩,k _ (b _ (by simp)) _ h.ob,k _ (b _ (by simp)) _ h.fl,k _ (b _ (by simp)) _ h.tl,k _ (b _ (by simp)) _ h.sl,k _ (b _ (by simp)) _ h.ul,λe f=>?_,h.lt,h.hi,h.an,h.kn,h.ln,h.lp,h.pg,h.sz⟩;refine k _ ?_ _ (h.rows e f);simp only[dom,own,HK];have:e.2.1∈sadr S:=HQ.mpr ⟨e,f,rfl⟩;simp[this]
theorem be.mono{A B:PHp}{c:cc}{S:LS}(h:be A c S)(e:A<+:B):be B c S:=h.keep λa _ o q=>ag e q
theorem be.dlt{A:PHp}{c:cc}{S:LS}(h:be A c S):∀a∈dom c S,a<A.length:=λa b=>by
 simp only[dom,own,HK]at b;have f:=G1 h.ul;have g:=h.lt;rcases b with z | z | z | z | z | z | z | z | z | z | z | z
 ·omega
 ·omega
 ·omega
 ·omega
 ·omega
 ·omega
 ·omega
 ·omega
 ·omega
 ·omega
 ·omega
 ·obtain⟨e,d,rfl⟩:=HQ.mp z;exact G1 (h.rows e d)
theorem be.set{A:PHp}{c:cc}{S:LS}{k:Nat}{o:PO}(h:be A c S)(b:k∉dom c S):be (A.set k o) c S:=
 h.keep λa d u q=>(D4 (λz=>b (by rw[←z];exact d))).trans q
structure de(c:cc)(S S':LS)(A A':PHp):Prop where
 len:A.length<=A'.length
 keep:∀a o,A[a]?=some o->a∉own c S->A'[a]?=some o
 new:∀a∈sadr S',a∈sadr S\/A.length<=a
theorem de.pre{c:cc}{S:LS}{A A':PHp}(h:A<+:A'):de c S S A A':=⟨h.length_le,λa o q _=>ag h q,λa h=>.inl h⟩
theorem de.refl{c:cc}{S:LS}{A:PHp}:de c S S A A:=.pre (Iy _)
theorem rJ{c:cc}{S b:LS}{A A':PHp}(h:de c S b A A'){a:Nat}(e:a<A.length)(d:a∉own c S):a∉own c b:=λz=>d (by
 simp only[own,HK]at z ⊢;rcases z with z | z | z | z | z
 ·simp[z]
 ·simp[z]
 ·simp[z]
 ·simp[z]
 ·rcases h.new a z with z | z
  ·simp[z]
  ·omega)
theorem de.trans{c:cc}{S e b:LS}{A A' d:PHp}(h:de c S e A A')(h':de c e b A' d):de c S b A d:=
 ⟨Ih h.len h'.len,λa o q n=>h'.keep a o (h.keep a o q n) (rJ h (G1 q) n),λa f=>by
  rcases h'.new a f with z | z
  ·exact h.new a z
  ·exact .inr (Ih h.len z)⟩
section
variable{A:PHp}{c:cc}{S:LS}
theorem iw(H:be A c S):Wp (O8 [.ref c.G]) A (λv d=>v=.non/\be d c { S with now:=S.now+1 }/\de c S { S with now:=S.now+1 } A d) NoX:=by
 unfold O8;have g:=H.ob;walk_at "fn";walk_at "gb";have i:=H.lt;have k:∀a o,A[a]?=some o->a≠c.G->(A.set c.G (PO.ins 2 (putFld 12 (PV.int (S.now+1)) [(6,.ref c.P),(7,.ref (c.G+1)),(11,.tup (c.fr.map .int)),(12,.int S.now),(13,.ref (c.G+2)),(14,.ref (c.G+3)),(15,.ref (c.G+4))])))[a]?=some o:=λa o q n=>(D4 n).trans q;refine⟨trivial,⟨⟨⟨k _ _ H.plan.web.ob (by omega),k _ _ H.plan.web.ls (by omega)⟩,k _ _ H.plan.ob (by omega),k _ _ H.plan.ls (by omega),k _ _ H.plan.ld (by omega),k _ _ H.plan.lk (by omega)⟩,aM g,k _ _ H.fl (by omega),k _ _ H.tl (by omega),k _ _ H.sl (by omega),k _ _ H.ul (by omega),λe f=>k _ _ (H.rows e f) ?_,H.lt,H.hi,H.an,H.kn,H.ln,H.lp,H.pg,H.sz⟩,⟨by simp,λa o q n=>k a o q (λz=>n (by rw[z];exact HM)),λa h=>.inl h⟩⟩;have:=H.hi e.2.1 (HQ.mpr ⟨e,f,rfl⟩);omega
theorem wA{w r:Nat}{N:Nat}{ps:List (Int×Int)}(W:bF A w r N ps)(b:L5 N ps)(p:Int×Int):Wp (d7 [.ref w,pv p]) A (λv d=>v=.bl (decide (p∈ps))/\d=A) NoX:=by
 unfold d7;have f:=W.ob;have e:=W.ls;walk_at "fn";walk_at "gb";refine w_eq (wg _ _ _) ⟨_,rfl,λa=>?_,λa=>?_⟩
 ·walk_at "gb";refine ja e ?_;exact⟨by simp[(O0 ps).mem_iff],rfl⟩
 ·refine⟨?_,rfl⟩;have:p∉ps:=λz=>by have:=b.good p z;simp[this]at a
  simp[this]
noncomputable def j9(p:Int×Int):PV:=.tup [.str "lay",pv p]
noncomputable def d8(p:Int×Int)(ch:List Int):PV:=.tup [.str "say",pv p,.tup (ch.map .int)]
theorem wB(H:be A c S)(p:Int×Int):Wp (O5 [.ref c.P,j9 p]) A (λv b=>v=.bl (decide (p∈c.ps))/\b=A) NoX:=by
 unfold O5 j9;have e:=H.plan.ob;walk_at "fn";walk_at "gb";refine ac (wA H.plan.web H.pg p) λv f d=>?_;obtain⟨rfl,rfl⟩:=d;walk_at "gb";refine⟨λa=>?_,λa=>?_⟩
 ·walk_at "gb";have:p∉c.ps:=by simpa using a
  simp[this]
 ·walk_at "gb";have:p∈c.ps:=by simpa using a
  simp[this]
theorem gL(H:be A c S){ch:List Int}(h:ch.length<100):Wp (O4 [.ref c.P,.tup (ch.map .int)]) A (λv A'=>A<+:A'/\∃b,v=.bl b/\(b=true↔s8 c.N c.ps c.L ch)) NoX:=by
 unfold O4;have e:=H.plan.ob;have p:=H.plan.web.ob;walk_at "fn";walk_at "gb";unfold d6;refine N3 (l:=ch.map .int) (λf=>∃x,f=[x,some (.ref c.P)]) (λ_=>true) (λv=>.bl (match v with | .int x=>decide (0<=x/\x<(c.N:Int)) | _=>false)) ?_;walk_at "go";refine⟨⟨_,rfl⟩,λi=>rfl,?_,?_⟩
 ·rintro v f j ⟨x,rfl⟩;obtain⟨y,q,rfl⟩:=HQ.mp j;walk_at "go";refine⟨rfl,⟨_,rfl⟩,?_⟩;walk_at "go";refine⟨rfl,rfl,λ_=>?_⟩;walk_at "go";exact w_eq (bP c.N y A) ⟨rfl,rfl⟩
 have g:((ch.map PV.int).filter λ_=>true).map (λv=>PV.bl (match v with | .int x=>decide (0<=x/\x<(c.N:Int)) | _=>false))=(ch.map λx=>decide (0<=x/\x<(c.N:Int))).map PV.bl:=by
  rw[IU.mpr (by simp),HV,HV];rfl
 refine⟨_,_,rfl,by rw[ak,g],?_⟩;walk_at "go";refine⟨λa=>?_,λa=>?_⟩
 ·walk_at "gb";refine⟨λz=>(nomatch z),λz=>?_⟩;have:((ch.map λx=>decide (0<=x/\x<(c.N:Int))).all id)=true:=(dc _ _).mpr λx m=>decide_eq_true (z.2.2.1 x m);rw[this]at a;cases a
 ·rw[g];generalize d:A++[PO.lst ((ch.map λx=>decide (0<=x/\x<(c.N:Int))).map PV.bl)]=n;have p1:A<+:n:=by rw[←d];exact rH _
  have e:=ag p1 e;walk_at "gb";refine ac (fS (H.plan.web.mono p1) h) λv r o=>?_;obtain⟨p2,b,rfl,a⟩:=o;exact⟨p1.trans p2,b,rfl,a⟩
theorem wC{ch:List Int}{x:Int}(h:ch.head?=some x):atI (ch.map PV.int) 0=some (.int x):=by
 cases ch with
 | nil=>cases h
 | cons a r=>cases h;unfold atI ixN;simp
theorem wD(H:be A c S)(p:Int×Int){ch:List Int}(l:ch.length<100):Wp (O5 [.ref c.P,d8 p ch]) A (λv A'=>A<+:A'/\∃b,v=.bl b/\(b=true↔p∈c.ps/\s8 c.N c.ps c.L ch/\ch.head?=some p.2)) NoX:=by
 unfold O5 d8;have n:=H.plan.ob;walk_at "fn";walk_at "gb";refine ac (wA H.plan.web H.pg p) λv o g=>?_;obtain⟨rfl,rfl⟩:=g;walk_at "gb";refine⟨λd=>?_,λd=>?_⟩
 ·walk_at "gb";have:p∉c.ps:=by simpa using d
  simp[this]
 ·have m:p∈c.ps:=by simpa using d
  walk_at "gb";refine ac (gL H l) λv q g=>?_;obtain⟨p2,b,rfl,d⟩:=g;refine⟨b,rfl,λh=>?_,λe=>?_⟩
  ·have f:=d.mp h;obtain⟨x,j⟩:∃x,ch.head?=some x:=by
    obtain⟨⟨i,_⟩,_⟩:=f;cases ch with
    | nil=>exact absurd rfl i
    | cons a r=>exact⟨a,rfl⟩
   have s:=wC j;unfold pv;walk_at "gb";rw[j];simp[m,f]
  ·refine⟨p2,false,rfl,λz=>(nomatch z),λz=>?_⟩;rw[d.mpr z.2.1]at e;cases e
end
noncomputable def look{a b:Type}[DecidableEq a]:List (a×b)->a->Option b
 | [],_=>none
 | e::r,k=>if e.1=k then some e.2 else look r k
noncomputable def W7(S:LS)(p:Int×Int):Option Int:=look S.lays p
noncomputable def gX(S:LS)(ch:List Int):Option Int:=look S.first ch
noncomputable def S3(S:LS)(p:Int×Int):Option (Nat×List (Int×List Int)):=look S.says p
noncomputable def rowsAt(S:LS)(p:Int×Int):List (Int×List Int):=((S3 S p).map (·.2)).getD []
theorem rK{a:Type}(f:a->PV):∀(l:List ((Int×Int)×a))(p:Int×Int),M6 (l.map λe=>(l2 e.1,f e.2)) (l2 p)=(look l p).map f
 | [],_=>rfl
 | e::r,p=>by
   show(if l2 e.1=l2 p then some (f e.2) else M6 (r.map _) (l2 p))=(if e.1=p then some e.2 else look r p).map f;by_cases h:e.1=p
   ·rw[if_pos (by rw[h]),if_pos h];rfl
   ·rw[if_neg (λz=>h (jY z)),if_neg h];exact rK f r p
theorem wE{a:Type}(f:a->PV):∀(l:List (List Int×a))(p:List Int),M6 (l.map λe=>(e.1,f e.2)) p=(look l p).map f
 | [],_=>rfl
 | e::r,p=>by
   show(if e.1=p then some (f e.2) else M6 (r.map _) p)=(if e.1=p then some e.2 else look r p).map f;by_cases h:e.1=p
   ·rw[if_pos h,if_pos h];rfl
   ·rw[if_neg h,if_neg h];exact wE f r p
theorem wF(S:LS)(p:Int×Int):M6 (j8 S) (l2 p)=(W7 S p).map .int:=rK _ _ _
theorem wG(S:LS)(ch:List Int):M6 (gW S) ch=(gX S ch).map .int:=wE _ _ _
theorem wH(S:LS)(p:Int×Int):M6 (W5 S) (l2 p)=(S3 S p).map λe=>.ref e.1:=rK (λe:Nat×List (Int×List Int)=>PV.ref e.1) _ _
section
variable{α β:Type}[DecidableEq α]
theorem oz:∀{l:List (α×β)}{k:α}{v:β},look l k=some v->(k,v)∈l
 | e::r,k,v,h=>by
   unfold look at h;by_cases c:e.1=k
   ·rw[if_pos c]at h;cases h;rw[←c];exact HM
   ·rw[if_neg c]at h;exact HR _ (oz h)
theorem rL:∀{l:List (α×β)}{k:α}{v:β},(l.map (·.1)).Nodup->(k,v)∈l->look l k=some v
 | e::r,k,v,b,h=>by
   have a:=Jt.mp b;unfold look;rcases HK.mp h with z | z
   ·rw[←z,if_pos rfl]
   ·rw[if_neg (λq=>a.1 (by show e.1∈_;rw[q];exact HQ.mpr ⟨_,z,rfl⟩)),rL a.2 z]
theorem look_none:∀{l:List (α×β)}{k:α},look l k=none↔k∉l.map (·.1)
 | [],k=>by simp[look]
 | e::r,k=>by
   unfold look;by_cases c:e.1=k
   ·rw[if_pos c];simp[c]
   ·rw[if_neg c,look_none];have:k≠e.1:=λz=>c z.symm;simp[this]
theorem wI{l m:List (α×β)}{k:α}:look (l++m) k=(look l k).or (look m k):=by
 induction l with
 | nil=>rfl
 | cons e r ih=>
   show(if e.1=k then some e.2 else look (r++m) k)=(if e.1=k then some e.2 else look r k).or _;by_cases c:e.1=k
   ·rw[if_pos c,if_pos c];rfl
   ·rw[if_neg c,if_neg c,ih]
theorem wJ{k j:α}{v:β}:look [(k,v)] j=if k=j then some v else none:=rfl
end
noncomputable def bQ(S:LS)(p:Int×Int):Bool:=match W7 S p with
 | some t=>decide (t<S.now)
 | none=>false
noncomputable def kF(c:cc)(S:LS)(p:Int×Int)(ch:List Int):Bool:=decide (c.f p+ch.length<S.now)
noncomputable def mv(a ch:List Int):List Int:=(ch.drop 1).dropWhile λh=>decide (h∈a)
noncomputable def fC(S:LS)(ch:List Int):Bool:=match gX S ch with
 | some t=>decide (t<S.now)
 | none=>false
noncomputable def ix(c:cc)(S:LS)(ch:List Int):Bool:=decide (mv c.fr ch=[])||fC S (mv c.fr ch)
open Classical in
noncomputable def kG(c:cc)(S:LS)(p:Int×Int):Nat:=if p∈c.ps then(if(W7 S p).isSome=true then 13 else 0) else 12
open Classical in
noncomputable def l7(c:cc)(S:LS)(p:Int×Int)(ch:List Int):Nat:=
 if p∈c.ps/\s8 c.N c.ps c.L ch/\ch.head?=some p.2 then(if bQ S p=true then(if kF c S p ch=true then 15 else if ix c S ch=true then 0 else 16) else 14) else 12
noncomputable def gm(S:LS)(p:Int×Int):LS:={ S with lays:=S.lays++[(p,S.now)] }
noncomputable def P3(S:LS)(p:Int×Int)(ch:List Int):(Int×Int)×Nat×List (Int×List Int)->(Int×Int)×Nat×List (Int×List Int):=λe=>if e.1=p then(e.1,e.2.1,e.2.2++[(S.now,ch)]) else e
noncomputable def Z0(S:LS)(p:Int×Int)(ch:List Int)(a:Nat):LS:=
 { S with says:=if(S3 S p).isSome=true then S.says.map (P3 S p ch) else S.says++[(p,a,[(S.now,ch)])],
          first:=if(gX S ch).isSome=true then S.first else S.first++[(ch,S.now)],m:=S.m+1 }
section
variable{A:PHp}{c:cc}{S:LS}
theorem EX(p:Int×Int):Q1 (pv p)=some (l2 p):=rfl
theorem rM(ch:List Int):Q1 (.tup (ch.map .int))=some ch:=T7 ch
theorem gM(H:be A c S)(p:Int×Int):Wp (G2 [.ref c.G,pv p]) A (λv e=>v=.bl (bQ S p)/\e=A) NoX:=by
 unfold G2;have g:=H.ob;have i:=H.tl;walk_at "fn";walk_at "gb";have b:M6 (j8 S) [p.1,p.2]=(W7 S p).map .int:=wF S p;refine⟨λa=>?_,λa=>?_⟩
 ·rw[b]at a;obtain⟨t,d⟩:∃t,W7 S p=some t:=by
   cases h:W7 S p with
   | none=>rw[h]at a;cases a
   | some t=>exact⟨t,rfl⟩
  rw[d]at b;have f:M6 (j8 S) [p.1,p.2]=some (.int t):=b;walk_at "gb";exact⟨by unfold bQ;rw[d],rfl⟩
 ·rw[b]at a;refine⟨?_,rfl⟩;unfold bQ;cases h:W7 S p with
  | none=>rfl
  | some t=>rw[h]at a;cases a
theorem iy(H:be A c S){p:Int×Int}(a:p∈c.ps)(ch:List Int):Wp (L3 [.ref c.G,pv p,.tup (ch.map .int)]) A (λv b=>v=.bl (kF c S p ch)/\b=A) NoX:=by
 unfold L3;have e:=H.ob;have f:=H.plan.ob;walk_at "fn";walk_at "gb";unfold T1;walk_at "fn";walk_at "gb";have d:p∈srt c.ps:=(O0 c.ps).mem_iff.mpr a;refine⟨_,_,_,_,rfl,EX p,H.plan.lk,ww (ea H.pg.nd) d,?_⟩;walk_at "gb";exact⟨rfl,rfl⟩
theorem fj(H:be A c S)(ch:List Int):Wp (G3 [.ref c.G,.tup (ch.map .int)]) A (λv f=>v=.bl (fC S ch)/\f=A) NoX:=by
 unfold G3;have g:=H.ob;have d:=H.ul;walk_at "fn";walk_at "gb";have b:=wG S ch;refine⟨_,_,_,rfl,rM ch,d,_,rfl,λa=>?_,λa=>?_⟩
 ·rw[b]at a;obtain⟨t,e⟩:∃t,gX S ch=some t:=by
   cases h:gX S ch with
   | none=>rw[h]at a;cases a
   | some t=>exact⟨t,rfl⟩
  rw[e]at b;walk_at "gb";refine⟨_,_,_,_,rfl,rM ch,d,b,?_⟩;walk_at "gb";exact⟨by unfold fC;rw[e],rfl⟩
 ·rw[b]at a;refine⟨?_,rfl⟩;unfold fC;cases h:gX S ch with
  | none=>rfl
  | some t=>rw[h]at a;cases a
theorem ka(H:be A c S){ch:List Int}(g:ch≠[])(q:ch.length<100):Wp (J3 [.ref c.G,.tup (ch.map .int)]) A (λv i=>v=.bl (ix c S ch)/\i=A) NoX:=by
 unfold J3;have r:=H.ob;walk_at "fn";walk_at "gb";refine⟨fi g,?_⟩;walk_at "gb";rw[gK,←Nb];have p:Wp (N4 [some (.ref c.G),some (.tup (ch.map .int)),some (.tup ((ch.drop 1).map .int))]) A (λo i=>o=.nx [some (.ref c.G),some (.tup (ch.map .int)),some (.tup ((mv c.fr ch).map .int))]/\i=A) NoX:=by
  unfold N4;refine wc (λm σ B=>B=A/\∃l:List Int,l.length<=m/\σ=[some (.ref c.G),some (.tup (ch.map .int)),some (.tup (l.map .int))]/\l.dropWhile (λh=>decide (h∈c.fr))=mv c.fr ch) (m:=100) (by decide) ⟨rfl,ch.drop 1,by rw[Oq];omega,rfl,rfl⟩ ?_;rintro m σ B ⟨rfl,l,n,rfl,f⟩;walk_at "gb";refine⟨λd=>?_,λd=>?_⟩
  ·cases l with
   | nil=>cases d
   | cons a l=>
     have s:atI ((a::l).map PV.int) 0=some (.int a):=wC rfl;walk_at "gb";refine⟨λe=>?_,λe=>?_⟩
     ·unfold T2;walk_at "gb";refine⟨fi (by simp),?_⟩;walk_at "gb";rw[gK,←Nb];have b:a∈c.fr:=of_decide_eq_true e;rw[LA (by simpa using b)]at f;exact⟨m - 1,by simp at n;omega,rfl,l,by simp at n;omega,rfl,f⟩
     ·have b:a∉c.fr:=of_decide_eq_false e;rw[Nv (by simpa using b)]at f;exact⟨by rw[←f],rfl⟩
  ·have:l=[]:=by simpa using d
   subst this;refine wf ⟨by rw[←f];rfl,rfl⟩
 refine ac p λo u j=>?_;obtain⟨rfl,rfl⟩:=j;walk_at "gb";refine⟨λd=>?_,λd=>?_⟩
 ·refine⟨?_,rfl⟩;unfold ix;rw[d];rfl
 ·walk_at "gb";refine ac (fj H _) λv w j=>?_;obtain⟨rfl,rfl⟩:=j;exact⟨by unfold ix;rw[d];rfl,rfl⟩
end
theorem EY{S:LS}{p:Int×Int}(h:W7 S p=none):Z4 (j8 S) (l2 p) (.int S.now)=j8 (gm S p):=by
 rw[mq]
 ·simp[j8,gm]
 ·intro z;have e:(j8 S).map (·.1)=(S.lays.map (·.1)).map l2:=by unfold j8;simp[Mx]
  rw[e]at z;obtain⟨q,a,e⟩:=HQ.mp z;rw[jY e]at a;exact look_none.mp h a
theorem EZ{S:LS}{ch:List Int}{p:Int×Int}{a:Nat}(h:S3 S p=none):Z4 (W5 S) (l2 p) (.ref a)=W5 (Z0 S p ch a):=by
 rw[mq]
 ·unfold W5 Z0;simp only;rw[h];simp
 ·intro z;have e:(W5 S).map (·.1)=(S.says.map (·.1)).map l2:=by unfold W5;simp[Mx]
  rw[e]at z;obtain⟨q,b,e⟩:=HQ.mp z;rw[jY e]at b;exact look_none.mp h b
theorem s9{S:LS}{p:Int×Int}{ch:List Int}(e:(Int×Int)×Nat×List (Int×List Int)):(P3 S p ch e).1=e.1/\(P3 S p ch e).2.1=e.2.1:=by
 unfold P3;by_cases h:e.1=p
 ·rw[if_pos h];exact⟨rfl,rfl⟩
 ·rw[if_neg h];exact⟨rfl,rfl⟩
theorem E2{S:LS}{ch:List Int}{p:Int×Int}{a:Nat}(h:(S3 S p).isSome=true):W5 (Z0 S p ch a)=W5 S:=by
 unfold W5 Z0;simp only;rw[if_pos h,HV];refine Jj λe _=>?_;show(l2 (P3 S p ch e).1,PV.ref (P3 S p ch e).2.1)=_;rw[(s9 e).1,(s9 e).2]
theorem Fa{S:LS}{ch:List Int}{p:Int×Int}{a:Nat}(h:(S3 S p).isSome=true):sadr (Z0 S p ch a)=sadr S:=by
 unfold sadr Z0;simp only;rw[if_pos h,HV];exact Jj λe _=>(s9 e).2
theorem Fb{S:LS}{ch:List Int}{p:Int×Int}{a:Nat}(h:S3 S p=none):sadr (Z0 S p ch a)=sadr S++[a]:=by
 unfold sadr Z0;simp only;rw[h];simp
theorem Fc{d:Type}{l:List d}(a:l.Nodup){i j:Nat}(b:i<l.length)(c:j<l.length)(e:l[i]=l[j]):i=j:=by
 rcases Nat.lt_trichotomy i j with z | z | z
 ·exact absurd e (JF.mp a i j b c z)
 ·exact z
 ·exact absurd e.symm (JF.mp a j i c b z)
section
variable{A:PHp}{c:cc}{S:LS}
noncomputable def W8(S:LS)(p:Int×Int)(ch:List Int)(a:Nat):LS:=
 { S with says:=if(S3 S p).isSome=true then S.says.map (P3 S p ch) else S.says++[(p,a,[(S.now,ch)])],m:=S.m+1 }
noncomputable def iz(S:LS)(ch:List Int):LS:={ S with first:=if(gX S ch).isSome=true then S.first else S.first++[(ch,S.now)] }
theorem Fd(p:Int×Int)(ch:List Int)(a:Nat):iz (W8 S p ch a) ch=Z0 S p ch a:=rfl
theorem wK{p:Int×Int}{ch:List Int}{a:Nat}:W5 (W8 S p ch a)=W5 (Z0 S p ch a):=rfl
theorem wL{p:Int×Int}{ch:List Int}{a:Nat}:sadr (W8 S p ch a)=sadr (Z0 S p ch a):=rfl
theorem Fe(H:be A c S){p:Int×Int}{ch:List Int}(hm:S.m<2000){d:PV}:Wp (P9 (Z5 (ko (J2 (aa 0) 14) (aa 2) (l4 av)) (c6 (ai (J2 (aa 0) 12) (ai (aa 3) av)))) [some (.ref c.G),some d,some (pv p),some (.tup (ch.map .int))]) A
 (λo A'=>o=.nx [some (.ref c.G),some d,some (pv p),some (.tup (ch.map .int))]/\∃a,be A' c (W8 S p ch a)/\de c S (W8 S p ch a) A A') NoX:=by
 have h1:=H.ob;have h2:=H.sl;have hl:=H.lt;have hv:M6 (W5 S) (l2 p)=(S3 S p).map λe=>.ref e.1:=wH S p;have hG:=G1 H.ul;have B:=H.sz;refine eD (df (dY ?_));walk_at "gb";have h3:(A++[PO.lst []])[c.G+3]?=some (.dT (W5 S)):=ah h2;have Z:(A++[PO.lst []])[c.G]?=some _:=ah h1;have I:M6 (W5 S) [p.1,p.2]=(S3 S p).map λe=>.ref e.1:=hv;refine⟨λw J=>?_,λJ=>?_⟩
 ·rw[I]at J;obtain⟨⟨g,b⟩,hs,rfl⟩:=Ip.mp J;have f:(p,g,b)∈S.says:=oz hs;have hr:A[g]?=some (.lst (b.map rowS)):=H.rows _ f;have L:(A++[PO.lst []])[g]?=some (.lst (b.map rowS)):=ah hr;have l:(S3 S p).isSome=true:=by rw[hs];rfl
  refine⟨_,_,rfl,L,?_⟩;walk_at "gb";have N:(b.map rowS).length<LIM:=by
   refine Q7 ?_;have:=B.2.2.2 _ f;rw[HC];simp at this;omega
  refine⟨N,rfl,g,?_⟩;have c0:=H.hi g (HQ.mpr ⟨_,f,rfl⟩);have a8:=G1 hr;have e1:b.map rowS++[PV.tup [.int S.now,.tup (ch.map .int)]]=(b++[(S.now,ch)]).map rowS:=by rw[Ii];rfl
  rw[e1];have k:∀a o,A[a]?=some o->a≠g->((A++[PO.lst []]).set g (PO.lst ((b++[(S.now,ch)]).map rowS)))[a]?=some o:=λa o q n=>(D4 n).trans (ah q);have hD:W5 (W8 S p ch g)=W5 S:=by rw[wK];exact E2 l
  have C:sadr (W8 S p ch g)=sadr S:=by rw[wL];exact Fa l
  have u:(W8 S p ch g).says=S.says.map (P3 S p ch):=by unfold W8;simp only;rw[if_pos l]
  refine⟨⟨⟨⟨k _ _ H.plan.web.ob (by omega),k _ _ H.plan.web.ls (by omega)⟩,k _ _ H.plan.ob (by omega),k _ _ H.plan.ls (by omega),k _ _ H.plan.ld (by omega),k _ _ H.plan.lk (by omega)⟩,k _ _ H.ob (by omega),k _ _ H.fl (by omega),k _ _ H.tl (by omega),(by rw[hD];exact k _ _ H.sl (by omega)),k _ _ H.ul (by omega),?_,H.lt,(by rw[C];exact H.hi),(by rw[C];exact H.an),?_,H.ln,H.lp,H.pg,?_⟩,?_⟩
  ·rw[u];intro e r;obtain⟨v,s,rfl⟩:=HQ.mp r;unfold P3;by_cases D:v.1=p
   ·rw[if_pos D];have:look S.says v.1=some v.2:=rL H.kn s;rw[D]at this;have e2:v.2=(g,b):=Iv (this.symm.trans hs);rw[e2];exact aM L
   ·rw[if_neg D];refine k _ _ (H.rows v s) λz=>D ?_;obtain⟨i,hi,e3⟩:=Jp.mp s;obtain⟨j,hj,e4⟩:=Jp.mp f;by_cases O:i=j
    ·subst O;rw[e3]at e4;rw[e4]
    ·exfalso;refine O (Fc H.an (i:=i) (j:=j) (by unfold sadr;rw[HC];exact hi) (by unfold sadr;rw[HC];exact hj) ?_);unfold sadr;rw[LQ,LQ,e3,e4];exact z
  ·rw[u,HV];have:S.says.map ((·.1) ∘ P3 S p ch)=S.says.map (·.1):=Jj λe _=>(s9 e).1;rw[this];exact H.kn
  ·refine⟨show S.m+1<=2000 by omega,?_,show S.first.length<=S.m+1 by omega,?_⟩
   ·rw[u,HC];show S.says.length<=S.m+1;omega
   ·rw[u];intro e r;obtain⟨v,s,rfl⟩:=HQ.mp r;have:=B.2.2.2 v s;show(P3 S p ch v).2.2.length<=S.m+1;unfold P3;by_cases D:v.1=p
    ·rw[if_pos D];simp;omega
    ·rw[if_neg D];omega
  ·refine⟨by simp,λa o q n=>k a o q λz=>n ?_,λa h=>.inl (by rw[C]at h;exact h)⟩;rw[z];refine .tail _ (.tail _ (.tail _ (.tail _ ?_)));exact HQ.mpr ⟨_,f,rfl⟩
 ·rw[I]at J;have U:S3 S p=none:=by simpa using J
  have E:(W5 S).length<LIM:=by
   refine Q7 ?_;unfold W5;rw[HC];omega
  refine⟨E,?_⟩;have Q:Z4 (W5 S) [p.1,p.2] (.ref A.length)=W5 (W8 S p ch A.length):=by rw[wK];exact EZ U
  rw[Q];have T:A.length≠c.G+3:=by omega
  have h4:((A++[PO.lst []]).set (c.G+3) (PO.dT (W5 (W8 S p ch A.length))))[A.length]?=some (.lst []):=(D4 T).trans ak;have h5:((A++[PO.lst []]).set (c.G+3) (PO.dT (W5 (W8 S p ch A.length))))[c.G]?=some _:=(D4 (by omega)).trans Z;refine⟨_,_,rfl,h4,?_⟩;walk_at "gb";refine⟨rfl,A.length,?_⟩;have k:∀a o,A[a]?=some o->a≠c.G+3->(((A++[PO.lst []]).set (c.G+3) (PO.dT (W5 (W8 S p ch A.length)))).set A.length (PO.lst ([]++[PV.tup [.int S.now,.tup (ch.map .int)]])))[a]?=some o:=λa o q n=>(D4 (by have:=G1 q;omega)).trans ((D4 n).trans (ah q));have C:sadr (W8 S p ch A.length)=sadr S++[A.length]:=by rw[wL];exact Fb U
  have u:(W8 S p ch A.length).says=S.says++[(p,A.length,[(S.now,ch)])]:=by unfold W8;simp only;rw[U];rfl
  have a3:∀e∈S.says,e.2.1<A.length:=λe r=>G1 (H.rows e r);refine⟨⟨⟨⟨k _ _ H.plan.web.ob (by omega),k _ _ H.plan.web.ls (by omega)⟩,k _ _ H.plan.ob (by omega),k _ _ H.plan.ls (by omega),k _ _ H.plan.ld (by omega),k _ _ H.plan.lk (by omega)⟩,k _ _ H.ob (by omega),k _ _ H.fl (by omega),k _ _ H.tl (by omega),(D4 (JX T)).trans (aM h3),k _ _ H.ul (by omega),?_,H.lt,?_,?_,?_,H.ln,H.lp,H.pg,?_⟩,?_⟩
  ·rw[u];intro e r;rcases Ir.mp r with z | z
   ·have:=H.hi e.2.1 (HQ.mpr ⟨e,z,rfl⟩);exact k _ _ (H.rows e z) (by omega)
   ·rw[HH.mp z];exact aM h4
  ·rw[C];intro a ha;rcases Ir.mp ha with z | z
   ·exact H.hi a z
   ·rw[HH.mp z];omega
  ·rw[C,Jy];refine⟨H.an,by simp,λx Y y hy z=>?_⟩;rw[HH.mp hy]at z;obtain⟨e,r,rfl⟩:=HQ.mp Y;have:=a3 e r;omega
  ·rw[u,Ii,Jy];refine⟨H.kn,by simp,λx Y y hy z=>?_⟩;have a5:y=p:=by simpa using hy
   rw[z,a5]at Y;exact look_none.mp U Y
  ·refine⟨show S.m+1<=2000 by omega,?_,show S.first.length<=S.m+1 by omega,?_⟩
   ·rw[u,Ie];show S.says.length+1<=S.m+1;omega
   ·rw[u];intro e r;show e.2.2.length<=S.m+1;rcases Ir.mp r with z | z
    ·have:=B.2.2.2 e z;omega
    ·rw[HH.mp z];simp
  ·refine⟨by simp,λa o q n=>k a o q λz=>n ?_,λa h=>?_⟩
   ·rw[z];exact .tail _ (.tail _ HM)
   ·rw[C]at h;rcases Ir.mp h with z | z
    ·exact .inl z
    ·rw[HH.mp z];exact .inr (HG _)
theorem Ff(H:be A c S){ch:List Int}(v:S.first.length<S.m){d x:PV}:Wp (P9 (ko (J2 (aa 0) 15) (aa 3) (J2 (aa 0) 12)) [some (.ref c.G),some d,some x,some (.tup (ch.map .int))]) A
 (λo i=>o=.nx [some (.ref c.G),some d,some x,some (.tup (ch.map .int))]/\be i c (iz S ch)/\de c S (iz S ch) A i) NoX:=by
 have y:=H.ob;have j:=H.ul;have B:=H.lt;have l:M6 (gW S) ch=(gX S ch).map .int:=wG S ch;have b:=H.sz;refine eD (dY ?_);walk_at "gb";refine⟨_,_,rM ch,j,λw f=>?_,λf=>?_⟩
 ·rw[l]at f;have s:(gX S ch).isSome=true:=by
   obtain⟨t,u,_⟩:=Ip.mp f;rw[u];rfl
  have e:iz S ch=S:=by unfold iz;rw[if_pos s]
  rw[e];exact⟨rfl,H,.refl⟩
 ·rw[l]at f;have p:gX S ch=none:=by simpa using f
  refine⟨Q7 (by unfold gW;rw[HC];omega),rfl,?_⟩;have e:(iz S ch).first=S.first++[(ch,S.now)]:=by unfold iz;simp only;rw[p];rfl
  have g:Z4 (gW S) ch (.int S.now)=gW (iz S ch):=by
   rw[mq]
   ·unfold gW;rw[e];simp
   ·intro z;have e:(gW S).map (·.1)=S.first.map (·.1):=by unfold gW;simp[Mx]
    rw[e]at z;exact look_none.mp p z
  rw[g];have k:∀a o,A[a]?=some o->a≠c.G+4->(A.set (c.G+4) (PO.dT (gW (iz S ch))))[a]?=some o:=λa o q n=>(D4 n).trans q;refine⟨⟨⟨⟨k _ _ H.plan.web.ob (by omega),k _ _ H.plan.web.ls (by omega)⟩,k _ _ H.plan.ob (by omega),k _ _ H.plan.ls (by omega),k _ _ H.plan.ld (by omega),k _ _ H.plan.lk (by omega)⟩,k _ _ H.ob (by omega),k _ _ H.fl (by omega),k _ _ H.tl (by omega),k _ _ H.sl (by omega),aM j,λe r=>k _ _ (H.rows e r) ?_,H.lt,H.hi,H.an,H.kn,H.ln,H.lp,H.pg,⟨b.1,b.2.1,?_,b.2.2.2⟩⟩,⟨by simp,λa o q n=>k a o q λz=>n ?_,λa h=>.inl h⟩⟩
  ·have:=H.hi e.2.1 (HQ.mpr ⟨e,r,rfl⟩);omega
  ·rw[e,Ie];show S.first.length+1<=S.m;omega
  ·rw[z];exact .tail _ (.tail _ (.tail _ HM))
end
theorem oA{p:Type}{A:PHp}{Q:PV->PHp->Prop}{E:XP}{σ:PSt}{w:ID}{z:PSt->PSt}{g:GD}{t:TD}{e:ED}(xs:List p)(q r:p->PV)(j:p->Bool)(S:PSt->Prop)
 (h:Wp (w σ) A (λJ A1=>∃n,m8 J A1=.ok n A1/\xs.length<=n/\xs.length<=LIM/\S (z σ)/\(∀i B,A1<+:B->item J i B=.ok (xs.map q)[i]? B)/\
  (∀x σ B,x∈xs->S σ->A1<+:B->Wp (g (q x) σ) B (λc C=>C=B/\S c/\Wp (t c) B (λb o=>b=j x/\B<+:o/\(b=true->Wp (e c) o (λy D=>y=r x/\o<+:D) E)) E) E)/\
  ∀B,A1<+:B->Q (.ref B.length) (B++[.lst ((xs.filter j).map r)])) E):Wp (L4 w z g t e σ) A Q E:=
 mh (ac h λJ A1 f=>by
  obtain⟨n,O,T,U,Y,s,hs,he⟩:=f;refine⟨xs.map q,n,λi d σ B=>A1<+:B/\S σ/\d=((xs.take i).filter j).map r,O,by simpa using T,⟨Iy _,Y,by simp⟩,λi d σ B a=>s i B a.1,λi v d σ B G a=>?_,λd σ B a=>?_⟩
  ·obtain⟨a,Z,l⟩:=a;rw[Ij]at G;obtain⟨x,H,rfl⟩:=Ip.mp G;refine ac (hs x σ B (Io H) Z a) λc C f=>?_;obtain⟨e1,I,h5⟩:=f;subst e1;refine ac h5 λb o f=>?_;obtain⟨L,p2,h6⟩:=f;have N:xs.take (i+1)=xs.take i++[x]:=by rw[Jh,H];rfl
   refine⟨λm=>ac (h6 m) λy D f=>?_,λu=>?_⟩
   ·obtain⟨h7,p3⟩:=f;refine⟨a.trans (p2.trans p3),I,?_⟩;rw[l,h7,N,Kk,Ii];have:j x=true:=by rw[←L];exact m
    simp[this]
   ·refine⟨a.trans p2,I,?_⟩;rw[l,N,Kk,Ii];have:j x=false:=by rw[←L];exact u
    simp[this]
  ·obtain⟨a,_,l⟩:=a;rw[HC,JW (HG _)]at l;subst l;refine⟨?_,he B a⟩;rw[HC];exact Ih (Iz _ _) U)
section
variable{A:PHp}{c:cc}{S:LS}
noncomputable def iA(c:cc)(S:LS)(p:Int×Int)(ch:List Int):Nat:=if bQ S p=true then(if kF c S p ch=true then 15 else if ix c S ch=true then 0 else 16) else 14
theorem rN{p:Int×Int}{ch:List Int}(h:p∈c.ps/\s8 c.N c.ps c.L ch/\ch.head?=some p.2):l7 c S p ch=iA c S p ch:=by
 unfold l7 iA;rw[if_pos h]
theorem iB(H:be A c S)(p:Int×Int):Wp (O7 [.ref c.G,pv p]) A (λv A'=>∃n,v=.ref n/\A.length<=n/\A<+:A'/\A'[n]?=some (.lst ((rowsAt S p).map rowS))/\A'.length=n+1) NoX:=by
 unfold O7;have h:=H.ob;have i:=H.sl;walk_at "fn";refine fh (eC (fB ?_));walk_at "gb";have d:M6 (W5 S) [p.1,p.2]=(S3 S p).map λe=>.ref e.1:=wH S p;rw[d];cases b:S3 S p with
 | none=>
   have e:rowsAt S p=[]:=by unfold rowsAt;rw[b];rfl
   rw[e];show Wp (N6 (.ref A.length)) _ _ _;refine fg ak ?_;exact⟨_,rfl,by simp,(HN _ _).trans (HN _ _),ak,by simp⟩
 | some e=>
   have a:(p,e)∈S.says:=oz b;have f:=H.rows _ a;have g:rowsAt S p=e.2:=by unfold rowsAt;rw[b];rfl
   rw[g];show Wp (N6 (.ref e.1)) _ _ _;refine fg (ah f) ?_;exact⟨_,rfl,by simp,(HN _ _).trans (HN _ _),ak,by simp⟩
end
noncomputable def mx(x k:Int):Int:=((x+7919*k+1)*48271%2147483647)*((x+7919*k+1)*48271%2147483647 / 1009+69621)%2147483647
theorem Fg(x k:Int):0<=mx x k/\mx x k<2147483647:=by
 unfold mx;exact⟨Int.emod_nonneg _ (by decide),Int.emod_lt_of_pos _ (by decide)⟩
theorem Fh(x k:Int)(A:PHp):Wp (J4 [.int x,.int k]) A (λv a=>v=.int (mx x k)/\a=A) NoX:=by
 unfold J4;walk_at "fn";walk_at "gb";refine w_mul (.inl (by decide)) ?_;walk_at "gb";refine w_mul (.inr (by decide)) ?_;walk_at "gb";refine w_mul (.inl ?_) ?_
 ·have b:=Int.emod_nonneg ((x+7919*k+1)*48271) (by decide:(2147483647:Int)≠0);have c:=Int.emod_lt_of_pos ((x+7919*k+1)*48271) (by decide:(0:Int)<2147483647);omega
 walk_at "gb";exact⟨rfl,rfl⟩
theorem ce(x k:Int)(A:PHp):J4 [.int x,.int k] A=.ok (.int (mx x k)) A:=by
 obtain⟨v,a,e,rfl,rfl⟩:=op (Fh x k A);exact e
set_option maxHeartbeats 2000000 in
theorem Fi{A:PHp}{P w r g dl h N l:Nat}{ps:List (Int×Int)}{L c:List Int}{f:Int×Int->Int}(b:cB A P w r N ps L f g dl h)(i:L5 N ps)(j:A[l]?=some (.lst (c.map .int)))(m:c.length<=1000) :
 Wp (N0 [.ref A.length,.ref P,.ref l]) (A++[.ins 2 []]) (λv A'=>v=.non/\A<+:A'/\be A' ⟨N,ps,L,f,c,P,w,r,g,dl,h,A.length⟩ ⟨1,[],[],[],0⟩) NoX:=by
 unfold N0;have n:=G1 j;have o:=G1 b.web.ob;have p:=G1 b.web.ls;have q:=G1 b.ob;have s:=G1 b.ls;have u:=G1 b.ld;have x:=G1 b.lk;walk_at "fn";walk_at "gb";simp only[putFld,Nat.reduceEqDiff,if_false,Lo,Ie,Il,Jm,Qa];refine⟨trivial,?pre,⟨b.mono (A:=A) ?pr2,?ob,?fl,?tl,?sl,?ul,λe y=>(nomatch y),⟨q,o,p,s,u,x⟩,λa d=>(nomatch d),.nil,.nil,.nil,λa d=>(nomatch d),i,by simp⟩⟩
 case pre=>walk_at "pre"
 case pr2=>walk_at "pre"
 case ob=>
  show _=some (PO.ins 2 [(6,.ref P),(7,.ref (A.length+1)),(11,.tup (c.map .int)),(12,.int 1),(13,.ref (A.length+1+1)),(14,.ref (A.length+1+1+1)),(15,.ref (A.length+1+1+1+1))]);walk_at "st"
 case fl=>walk_at "st"
 case tl=>show(_:PHp)[A.length+1+1]?=some (PO.dT []);walk_at "st"
 case sl=>show(_:PHp)[A.length+1+1+1]?=some (PO.dT []);walk_at "st"
 case ul=>show(_:PHp)[A.length+1+1+1+1]?=some (PO.dT []);walk_at "st"
section
variable{A:PHp}{c:cc}{S:LS}
theorem Fj(H:be A c S):(J8 G7 ((j8 S).map (·.1))).map (λt=>PV.tup (t.map .int))=aN (srt (S.lays.map (·.1))):=by
 have e:(j8 S).map (·.1)=(S.lays.map (·.1)).map l2:=by unfold j8;simp[Mx]
 rw[e,rr,rA];rfl
theorem iC(H:be A c S):Wp (O6 [.ref c.G]) A (λv a=>v=.ref A.length/\a=A++[.lst (aN (srt (S.lays.map (·.1))))]) NoX:=by
 unfold O6;have d:=H.ob;have f:=H.tl;walk_at "fn";walk_at "gb";refine⟨⟨?_,λq b=>?_⟩,?_⟩
 ·have:=H.ln.length_le_of_subset (l₂:=c.ps) H.lp;rw[HC]at this;have:=H.pg.len;unfold j8;rw[HC];omega
 ·obtain⟨e,_,rfl⟩:=HQ.mp b;simp[l2]
 ·rw[Fj H];exact⟨rfl,rfl⟩
noncomputable def Z9(S:LS)(p:Int×Int):List Int:=(rowsAt S p).map λq=>q.2.getLast?.getD 0
noncomputable def mw(c:cc)(S:LS)(p:Int×Int):Bool:=c.L.all λl=>decide (l∈Z9 S p)
theorem Fk(H:be A c S)(p:Int×Int):(rowsAt S p).length<=2000:=by
 unfold rowsAt;cases h:S3 S p with
 | none=>simp
 | some e=>
   have:=H.sz.2.2.2 _ (oz h);have:=H.sz.1;simp at *;omega
theorem rO{ch:List Int}(h:ch≠[]):atI (ch.map PV.int) (-1)=some (.int (ch.getLast?.getD 0)):=by
 rw[wy h,KQ h];rfl
theorem gN(H:be A c S)(p:Int×Int)(d:∀q∈rowsAt S p,q.2≠[])(w:c.L.length<=1000):Wp (G4 [.ref c.G,pv p]) A (λv A'=>v=.bl (mw c S p)/\A<+:A') NoX:=by
 unfold G4;have j:=H.ob;walk_at "fn";refine cI (dg ?_);have e:Wp (L7 [some (.ref c.G),some (pv p),none]) A (λv A'=>∃n,v=.ref n/\A<+:A'/\A'[n]?=some (.lst ((Z9 S p).map .int))) NoX:=by
  unfold L7;refine oA (rowsAt S p) rowS (λq=>.int (q.2.getLast?.getD 0)) (λ_=>true) (λa=>∃x y,a=[x,y]) ?_;walk_at "gb";refine ac (iB H p) λv m f=>?_;obtain⟨n,rfl,z,p1,g,_⟩:=f;walk_at "gb";refine⟨_,N8 g,by simp,aH (by have:=Fk H p;omega),⟨_,_,rfl⟩,λi B b=>N9 (ag b g) i,?_,?_⟩
  ·rintro q a B o ⟨x,y,rfl⟩ b;have r:=rO (d q o);unfold rowS;walk_at "go";refine⟨rfl,⟨_,_,rfl⟩,?_⟩;walk_at "go";refine⟨rfl,Iy _,λ_=>?_⟩;walk_at "go";exact⟨rfl,Iy _⟩
  ·intro B b;refine⟨_,rfl,E9 (p1.trans b),?_⟩;rw[ak,IU.mpr (by simp)];unfold Z9;rw[HV];rfl
 refine ac e λv m f=>?_;obtain⟨n,rfl,p1,g⟩:=f;have h:=H.mono p1;have j:=h.ob;have C:=h.plan.ob;walk_at "gb";unfold aY;refine N3 (l:=c.L.map .int) (λa=>∃x,a=[x,some (.ref n)]) (λ_=>true) (λv=>.bl (match v with | .int l=>decide (l∈Z9 S p) | _=>false)) ?_;walk_at "go";refine⟨⟨_,rfl⟩,λi=>rfl,?_,?_⟩
 ·rintro v a s ⟨x,rfl⟩;obtain⟨y,D,rfl⟩:=HQ.mp s;walk_at "go";refine⟨rfl,⟨_,rfl⟩,?_⟩;walk_at "go";refine⟨rfl,rfl,λ_=>?_⟩;walk_at "go";exact⟨rfl,rfl⟩
 have u:((c.L.map PV.int).filter λ_=>true).map (λv=>PV.bl (match v with | .int l=>decide (l∈Z9 S p) | _=>false))=(c.L.map λl=>decide (l∈Z9 S p)).map PV.bl:=by
  rw[IU.mpr (by simp),HV,HV];rfl
 refine⟨_,_,rfl,by rw[ak,u],?_,E9 p1⟩;unfold mw;rw[ME];rfl
noncomputable def my(c:cc)(S:LS):List (Int×Int):=(srt (S.lays.map (·.1))).filter (mw c S)
theorem fU(H:be A c S)(b:∀p,∀q∈rowsAt S p,q.2≠[])(l:c.L.length<=1000):Wp (L8 [.ref c.G]) A (λv A'=>∃n,v=.ref n/\A.length<=n/\A<+:A'/\A'[n]?=some (.lst (aN (my c S)))) NoX:=by
 unfold L8;have m:=H.ob;walk_at "fn";refine fh ?_;unfold Y4;refine oA (srt (S.lays.map (·.1))) pv pv (mw c S) (λe=>∃x,e=[x,some (.ref c.G)]) ?_;walk_at "gb";refine ac (iC H) λv o d=>?_;obtain⟨rfl,rfl⟩:=d;have f:(A++[PO.lst (aN (srt (S.lays.map (·.1))))])[A.length]?=some (.lst (aN (srt (S.lays.map (·.1))))):=ak;have g:(srt (S.lays.map (·.1))).length<64:=by
  rw[(O0 _).length_eq];have:=H.ln.length_le_of_subset (l₂:=c.ps) H.lp;have:=H.pg.len;omega
 have h:A<+:A++[PO.lst (aN (srt (S.lays.map (·.1))))]:=HN _ _;have r:A.length<(A++[PO.lst (aN (srt (S.lays.map (·.1))))]).length:=by simp
 generalize A++[PO.lst (aN (srt (S.lays.map (·.1))))]=o at *;walk_at "gb";refine⟨_,N8 f,by simp[aN],aH (by omega),⟨_,rfl⟩,λi B a=>N9 (ag a f) i,?_,?_⟩
 ·rintro p e B s ⟨x,rfl⟩ a;have j:=H.mono (h.trans a);have m:=j.ob;walk_at "go";refine⟨rfl,⟨_,rfl⟩,?_⟩;walk_at "go";refine ac (gN j p (b p) l) λv u d=>?_;obtain⟨rfl,p2⟩:=d;refine⟨_,rfl,rfl,p2,λ_=>?_⟩;walk_at "go";exact⟨rfl,Iy _⟩
 ·intro B a;refine⟨_,rfl,by have:=a.length_le;omega,E9 (h.trans a),ak⟩
end
theorem fV{A:PHp}{Q:PV->PHp->Prop}{E:XP}{σ:PSt}{e:ED}(h:Wp (e σ) A (λx A1=>∃n:Nat,x=.int n/\n<=1000/\Q (.ref A1.length) (A1++[.lst ((aw n).map .int)])) E):Wp (pG e σ) A Q E:=
 C1 (ac h λx A1 a=>by
  obtain⟨n,b,c,q⟩:=a;subst b;refine D6 (by omega) ?_;rw[KN];have:(aw n).map PV.int=(Iw n).map λ(k:Nat)=>PV.int (k:Int):=by unfold aw;rw[HV];rfl
  rw[this]at q;exact q)
section
variable{A:PHp}{c:cc}{S:LS}
theorem Fm(H:be A c S){p:Int×Int}(u:p∈c.ps):Wp (K2 [.ref c.G,j9 p]) A (λv f=>v=.non/\W7 S p=none/\be f c (gm S p)/\de c S (gm S p) A f) (λk v f=>k=13/\(W7 S p).isSome=true/\v=j9 p/\f=A):=by
 unfold K2;have D:=H.ob;have w:=H.tl;walk_at "fn";have B:j9 p=.tup [.str "lay",pv p]:=rfl;have j:M6 (j8 S) [p.1,p.2]=(W7 S p).map .int:=wF S p;rw[B];walk_at "gb";refine⟨λg=>?_,λg=>?_⟩
 ·rw[j,Ms]at g;walk_at "gb";exact⟨rfl,rfl⟩
 ·rw[j,Ms]at g;have i:W7 S p=none:=by simpa using g
  walk_at "gb";have b:(j8 S).length<LIM:=by
   refine Q7 ?_;have:=H.ln.length_le_of_subset (l₂:=c.ps) H.lp;rw[HC]at this;have:=H.pg.len;unfold j8;rw[HC];omega
  refine⟨b,?_⟩;have d:Z4 (j8 S) [p.1,p.2] (.int S.now)=j8 (gm S p):=EY i;rw[d];have E:=H.lt;have k:∀a o,A[a]?=some o->a≠c.G+2->(A.set (c.G+2) (PO.dT (j8 (gm S p))))[a]?=some o:=λa o q n=>(D4 n).trans q;refine⟨trivial,i,⟨⟨⟨k _ _ H.plan.web.ob (by omega),k _ _ H.plan.web.ls (by omega)⟩,k _ _ H.plan.ob (by omega),k _ _ H.plan.ls (by omega),k _ _ H.plan.ld (by omega),k _ _ H.plan.lk (by omega)⟩,k _ _ H.ob (by omega),k _ _ H.fl (by omega),aM w,k _ _ H.sl (by omega),k _ _ H.ul (by omega),λe l=>k _ _ (H.rows e l) ?_,H.lt,H.hi,H.an,H.kn,?_,?_,H.pg,H.sz⟩,⟨by simp,λa o q n=>k a o q (λz=>n (by rw[z];exact .tail _ HM)),λa h=>.inl h⟩⟩
  ·have:=H.hi e.2.1 (HQ.mpr ⟨e,l,rfl⟩);omega
  ·show((S.lays++[(p,S.now)]).map (·.1)).Nodup;rw[Ii,Jy];refine⟨H.ln,by simp,λx m y r=>?_⟩;rw[HQ]at r;obtain⟨z,C,rfl⟩:=r;rw[HH.mp C];intro z;rw[z]at m;exact look_none.mp i m
  ·show ∀q∈(S.lays++[(p,S.now)]).map (·.1),q∈c.ps;intro q s;rw[Ii,Ir]at s;rcases s with z | z
   ·exact H.lp q z
   ·simp at z;rw[z];exact u
theorem Fn(H:be A c S){p:Int×Int}{ch:List Int}(s:p∈c.ps)(h:ch≠[])(u:ch.length<100)(w:S.m<2000):Wp (K3 [.ref c.G,d8 p ch]) A
 (λv g=>v=.non/\iA c S p ch=0/\∃a,be g c (Z0 S p ch a)/\de c S (Z0 S p ch a) A g) (λk v g=>k=iA c S p ch/\k≠0/\v=d8 p ch/\g=A):=by
 unfold K3;have B:=H.ob;have x:d8 p ch=.tup [.str "say",pv p,.tup (ch.map .int)]:=rfl;walk_at "fn";rw[x];walk_at "gb";refine ac (gM H p) λv i d=>?_;obtain⟨rfl,rfl⟩:=d;walk_at "gb";refine⟨λb=>?_,λb=>?_⟩
 ·have j:bQ S p=false:=by simpa using b
  walk_at "gb";refine⟨?_,by decide,rfl,rfl⟩;unfold iA;rw[j];rfl
 have l:bQ S p=true:=by simpa using b
 walk_at "gb";refine ac (iy H s ch) λv i d=>?_;obtain⟨rfl,rfl⟩:=d;walk_at "gb";refine⟨λb=>?_,λb=>?_⟩
 ·walk_at "gb";refine⟨?_,by decide,rfl,rfl⟩;unfold iA;rw[l,b];rfl
 rename_i y;have e:kF c S p ch=false:=b;walk_at "gb";refine ac (ka H h u) λv i d=>?_;obtain⟨rfl,rfl⟩:=d;walk_at "gb";refine⟨λb=>?_,λb=>?_⟩
 ·have j:ix c S ch=false:=by simpa using b
  walk_at "gb";refine⟨?_,by decide,rfl,rfl⟩;unfold iA;rw[l,e,j];rfl
 have n:ix c S ch=true:=by simpa using b
 refine dX (cS ?_);refine cI (dX (ac (Fe H w) λo i d=>?_));obtain⟨rfl,a,z,q⟩:=d;refine dX (ac (Ff z (ch:=ch) (by show S.first.length<S.m+1;have:=H.sz;omega)) λo C d=>?_);obtain⟨rfl,r,f⟩:=d;rw[Fd]at r f;refine⟨trivial,?_,a,r,q.trans f⟩;unfold iA;rw[l,e,n];rfl
theorem fW(H:be A c S)(p:Int×Int):Wp (K8 [.ref c.G,j9 p]) A
 (λv b=>v=.non/\kG c S p=0/\be b c (gm S p)/\de c S (gm S p) A b) (λk v b=>k=kG c S p/\k≠0/\v=j9 p/\b=A):=by
 unfold K8;have l:=H.ob;walk_at "fn";walk_at "gb";refine vZ (wB H p) λv g a=>?_;obtain⟨rfl,rfl⟩:=a;walk_at "gb";refine⟨λd=>?_,λd=>?_⟩
 ·have i:p∉c.ps:=by simpa using d
  walk_at "gb";refine⟨?_,by decide,rfl,rfl⟩;unfold kG;rw[if_neg i]
 ·have e:p∈c.ps:=by simpa using d
  have h:j9 p=.tup [.str "lay",pv p]:=rfl;rw[h];walk_at "gb";rw[←h];refine cn (Fm H e) (λv g a=>?_) λk v g a=>?_
  ·obtain⟨rfl,f,j,st⟩:=a;refine⟨trivial,?_,j,st⟩;unfold kG;rw[if_pos e,f];rfl
  ·obtain⟨rfl,f,rfl,rfl⟩:=a;refine⟨?_,by decide,rfl,rfl⟩;unfold kG;rw[if_pos e,if_pos f]
theorem fX(H:be A c S)(p:Int×Int){ch:List Int}(j:ch.length<100)(q:S.m<2000):Wp (K8 [.ref c.G,d8 p ch]) A
 (λv A'=>v=.non/\l7 c S p ch=0/\∃a,be A' c (Z0 S p ch a)/\de c S (Z0 S p ch a) A A') (λk v A'=>k=l7 c S p ch/\k≠0/\v=d8 p ch/\A<+:A'):=by
 unfold K8;have y:=H.ob;walk_at "fn";walk_at "gb";refine vZ (wD H p j) λv B e=>?_;obtain⟨p1,b,rfl,f⟩:=e;have l:=H.mono p1;have C:=l.ob;walk_at "gb";refine⟨λg=>?_,λg=>?_⟩
 ·have n:b=false:=by simpa using g
  walk_at "gb";refine⟨?_,by decide,rfl,p1⟩;unfold l7;rw[if_neg (λz=>by rw[f.mpr z]at n;cases n)]
 ·have r:b=true:=by simpa using g
  have d:=f.mp r;have o:d8 p ch=.tup [.str "say",pv p,.tup (ch.map .int)]:=rfl;rw[o];walk_at "gb";rw[←o];obtain⟨⟨h,_⟩,_⟩:=d.2.1;refine cn (Fn l d.1 h j q) (λv s e=>?_) λk v s e=>?_
  ·obtain⟨rfl,u,a,w,st⟩:=e;exact⟨trivial,by rw[rN d];exact u,a,w,(de.pre p1).trans st⟩
  ·obtain⟨x,i,rfl,rfl⟩:=e;exact⟨by rw[rN d];exact x,i,rfl,p1⟩
end
noncomputable def tv(w:List Int):PV:=.tup (w.map .int)
noncomputable def cL(W:List (List Int)):List PV:=W.map tv
noncomputable def L6(w:List Int):Int:=w.getLast?.getD 0
noncomputable def gO(ps:List (Int×Int))(w:List Int):List (List Int):=(ps.filter λp=>decide (p.1=L6 w)&&!decide (p.2∈w)).map λp=>w++[p.2]
noncomputable def bW(ps:List (Int×Int)):Nat->List (List Int)->List (List Int)
 | 0,W=>W
 | k+1,W=>bW ps k (W.flatMap (gO ps))
theorem t0(ps:List (Int×Int)):∀(k:Nat)(W:List (List Int)),bW ps (k+1) W=(bW ps k W).flatMap (gO ps)
 | 0,W=>rfl
 | k+1,W=>by
   show bW ps (k+1) (W.flatMap (gO ps))=_;rw[t0 ps k];rfl
structure ci(N:Nat)(ps:List (Int×Int))(h:Int)(w:List Int):Prop where
 hd:w.head?=some h
 nd:w.Nodup
 inn:∀x∈w,0<=x/\x<N
 st:∀(i:Nat) a b,w[i]?=some a->w[i+1]?=some b->(a,b)∈ps
theorem ci.ne{N:Nat}{ps:List (Int×Int)}{h:Int}{w:List Int}(x:ci N ps h w):w≠[]:=λz=>by have:=x.hd;rw[z]at this;cases this
theorem ci.len{N:Nat}{ps:List (Int×Int)}{h:Int}{w:List Int}(x:ci N ps h w):w.length<=N:=by
 have:=x.nd.length_le_of_subset (l₂:=aw N) λy a=>mem_hands.mpr (x.inn y a);rw[aG]at this;exact this
theorem wM{w:List Int}(h:w≠[]):w[w.length - 1]?=some (L6 w):=by
 unfold L6;rw[←NI,KQ h];rfl
theorem Fo{w:List Int}(h:w≠[]):w.getLast h=L6 w:=by
 unfold L6;rw[KQ h];rfl
section
variable{N:Nat}{ps:List (Int×Int)}{h:Int}
theorem Fp(c:0<=h/\h<N):ci N ps h [h]:=⟨rfl,by simp,by simpa using c,λi a b e d=>by cases i<;>simp at d⟩
theorem Fq(f:∀p∈ps,good N p){w:List Int}(x:ci N ps h w){y:Int}(e:(L6 w,y)∈ps)(g:y∉w):ci N ps h (w++[y]):=by
 refine⟨?_,?_,λz j=>?_,λi a b d c=>?_⟩
 ·have:=x.hd;cases w with
  | nil=>cases this
  | cons a r=>exact this
 ·rw[Jy];exact⟨x.nd,by simp,λa l b m=>by rw[HH.mp m];exact λz=>g (z ▸ l)⟩
 ·rcases Ir.mp j with q | q
  ·exact x.inn z q
  ·rw[HH.mp q];exact(f _ e).2.1
 ·by_cases n:i+1<w.length
  ·rw[Ix (by omega)]at d;rw[Ix n]at c;exact x.st i a b d c
  ·have o:i+1=w.length:=by
    have:=(HY.mp c).1;simp at this;omega
   rw[o,JV (HG _)]at c;simp at c;rw[Ix (by omega)]at d;have:i=w.length - 1:=by omega
   rw[this,wM x.ne]at d;cases d;rw[←c];exact e
theorem mem_exts{w v:List Int}:v∈gO ps w↔∃y,v=w++[y]/\(L6 w,y)∈ps/\y∉w:=by
 unfold gO;rw[HQ];constructor
 ·rintro⟨p,a,rfl⟩;rw[IL,HZ]at a;have b:p.1=L6 w:=of_decide_eq_true a.2.1;exact⟨p.2,rfl,by rw[←b];exact a.1,by simpa using a.2.2⟩
 ·rintro⟨y,rfl,b,c⟩;exact⟨(L6 w,y),by rw[IL];exact⟨b,by simp[c]⟩,rfl⟩
theorem Fs{w:List Int}{y:Int}(x:ci N ps h (w++[y]))(c:w≠[]):ci N ps h w/\(L6 w,y)∈ps/\y∉w:=by
 have j:0<w.length:=LU.mpr c;refine⟨⟨?_,(Jy.mp x.nd).1,λz e=>x.inn z (Jo _ e),λi a b f d=>?_⟩,?_,λg=>?_⟩
 ·have:=x.hd;cases w with
  | nil=>exact absurd rfl c
  | cons a r=>exact this
 ·have:=(HY.mp d).1;exact x.st i a b (by rw[Ix (by omega)];exact f) (by rw[Ix this];exact d)
 ·refine x.st (w.length - 1) _ _ (by rw[Ix (by omega)];exact wM c) ?_;rw[show w.length - 1+1=w.length by omega,JV (HG _)];simp
 ·exact(Jy.mp x.nd).2.2 y g y (by simp) rfl
theorem v6(c:∀p∈ps,good N p)(d:0<=h/\h<N):∀(k:Nat)(w:List Int),w∈bW ps k [[h]]↔ci N ps h w/\w.length=k+1
 | 0,w=>by
   show w∈[[h]]↔_;rw[HH];constructor
   ·rintro rfl;exact⟨Fp d,rfl⟩
   ·rintro⟨x,b⟩;have:=x.hd;match w,b,this with
    | [a],_,e=>cases e;rfl
 | k+1,w=>by
   rw[t0,Kn];constructor
   ·rintro⟨v,g,i⟩;obtain⟨x,b⟩:=(v6 c d k v).mp g;obtain⟨y,rfl,j,l⟩:=mem_exts.mp i;exact⟨Fq c x j l,by simp[b]⟩
   ·rintro⟨x,b⟩;have f:w≠[]:=x.ne;have e:=List.dropLast_concat_getLast f;have m:w.dropLast≠[]:=λz=>by
     have:=congrArg List.length z;rw[OZ]at this;simp at this;omega
    rw[←e]at x;obtain⟨n,o,q⟩:=Fs x m;refine⟨w.dropLast,(v6 c d k _).mpr ⟨n,by rw[OZ];omega⟩,mem_exts.mpr ⟨_,e.symm,o,q⟩⟩
theorem Ft(a:∀p∈ps,good N p)(b:0<=h/\h<N){k:Nat}(d:N<=k):bW ps k [[h]]=[]:=by
 refine List.eq_nil_iff_forall_not_mem.mpr λw c=>?_;obtain⟨x,e⟩:=(v6 a b k w).mp c;have:=x.len;omega
theorem rP(f:∀p∈ps,good N p)(g:ps.Nodup)(w:List Int):(gO ps w).length<=N:=by
 have:((ps.filter λp=>decide (p.1=L6 w)&&!decide (p.2∈w)).map (·.2)).Nodup:=by
  rw[IK,Lr];refine NV (λ{a b} d e c=>?_) (g.filter _);rw[IL,HZ]at d e;intro z;have i:a.1=L6 w:=of_decide_eq_true d.2.1;have j:b.1=L6 w:=of_decide_eq_true e.2.1;exact c (Prod.ext (i.trans j.symm) z)
 have:=this.length_le_of_subset (l₂:=aw N) λy l=>by
  obtain⟨p,m,rfl⟩:=HQ.mp l;exact mem_hands.mpr (f p (IL.mp m).1).2.1
 rw[aG,HC]at this;unfold gO;rw[HC];exact this
theorem W3{b c:Type}{f:b->List c}{n:Nat}:∀(l:List b),(∀x∈l,(f x).length<=n)->(l.flatMap f).length<=l.length*n
 | [],_=>by simp
 | a::r,h=>by
   rw[List.flatMap_cons,Ie,Il,Nat.succ_mul];have:=h a HM;have:=W3 r λx d=>h x (HR _ d);omega
theorem oB(a:∀p∈ps,good N p)(b:ps.Nodup)(c:N<=6):∀k,(bW ps k [[h]]).length<=6 ^ k
 | 0=>by simp[bW]
 | k+1=>by
   rw[t0];have:=W3 (n:=N) (bW ps k [[h]]) λw _=>rP a b w;have d:=oB a b c k
   calc _<=_:=this
    _<=6 ^ k*6:=Pq d c
    _=6 ^ (k+1):=(Nat.pow_succ ..).symm
end
noncomputable def G5(ps:List (Int×Int))(h:Int)(j:Nat):List (List Int):=(Iw j).flatMap λk=>bW ps k [[h]]
theorem t4(ps:List (Int×Int))(h:Int)(j:Nat):G5 ps h (j+1)=G5 ps h j++bW ps j [[h]]:=by
 unfold G5;rw[List.range_succ,LV];simp
section
variable{N:Nat}{ps:List (Int×Int)}{h:Int}
theorem wN(a:∀p∈ps,good N p)(b:0<=h/\h<N)(w:List Int):w∈G5 ps h N↔ci N ps h w:=by
 unfold G5;rw[Kn];constructor
 ·rintro⟨k,_,c⟩;exact((v6 a b k w).mp c).1
 ·intro x;have d:=x.len;have e:0<w.length:=LU.mpr x.ne;exact⟨w.length - 1,JD.mpr (by omega),(v6 a b _ w).mpr ⟨x,by omega⟩⟩
theorem Fu(b:∀p∈ps,good N p)(c:0<=h/\h<N){j:Nat}(f:j<=N)(e:bW ps j [[h]]=[]):G5 ps h j=G5 ps h N:=by
 have a:∀d,bW ps (j+d) [[h]]=[]/\G5 ps h (j+d)=G5 ps h j:=by
  intro d;induction d with
  | zero=>exact⟨e,rfl⟩
  | succ d ih=>
    refine⟨by rw[←Nat.add_assoc,t0,ih.1];rfl,?_⟩;rw[←Nat.add_assoc,t4,ih.1,ih.2,IA]
 have:=(a (N - j)).2;rw[show j+(N - j)=N by omega]at this;exact this.symm
theorem wO(b:∀p∈ps,good N p)(c:ps.Nodup)(d:N<=6):∀j,j<=6->(G5 ps h j).length<=56000
 | j,e=>by
   have a:∀k,(bW ps k [[h]]).length<=6 ^ k:=oB b c d;have s:∀j,(G5 ps h (j+1)).length=(G5 ps h j).length+(bW ps j [[h]]).length:=λj=>by rw[t4,Ie]
   have z:(G5 ps h 0).length=0:=rfl;have f:(G5 ps h 1).length=(G5 ps h 0).length+(bW ps 0 [[h]]).length:=s 0;have g:(G5 ps h 2).length=(G5 ps h 1).length+(bW ps 1 [[h]]).length:=s 1;have i:(G5 ps h 3).length=(G5 ps h 2).length+(bW ps 2 [[h]]).length:=s 2;have l:(G5 ps h 4).length=(G5 ps h 3).length+(bW ps 3 [[h]]).length:=s 3;have m:(G5 ps h 5).length=(G5 ps h 4).length+(bW ps 4 [[h]]).length:=s 4;have n:(G5 ps h 6).length=(G5 ps h 5).length+(bW ps 5 [[h]]).length:=s 5;have o:=a 0;have q:=a 1;have r:=a 2;have u:=a 3;have v:=a 4;have w:=a 5;match j,e with
   | 0,_=>omega
   | 1,_=>omega
   | 2,_=>omega
   | 3,_=>omega
   | 4,_=>omega
   | 5,_=>omega
   | 6,_=>omega
end
theorem Fv:50000<=LIM:=by unfold LIM;omega
theorem Fw:56000<=LIM:=by unfold LIM;omega
theorem Fx:70000<=LIM:=by unfold LIM;omega
theorem Fy(w:List Int):plain (tv w)=true:=qU w
theorem di(W:List (List Int)):K6 (cL W)=true:=by
 unfold K6 cL;rw[ME,Ik];exact λw _=>Fy w
section
variable{A:PHp}{N:Nat}{ps:List (Int×Int)}{h:Int}{q:Nat}
theorem iD{B:PHp}(b:B[q]?=some (.lst (aN ps)))(o:ps.length<64){w:List Int}(c:w≠[])(e:w.length<=10){f g j:Option PV}:Wp (b8 [some (.ref q),f,g,j,some (tv w)]) B (λv m=>v=.ref B.length/\m=B++[.lst (cL (gO ps w))]) NoX:=by
 unfold b8;refine N3 (l:=aN ps) (λd=>∃x y,d=[x,y,some (tv w)]) (λv=>decide (gl v=L6 w)&&!decide (fN v∈w)) (λv=>tv (w++[fN v])) ?_;walk_at "go";refine⟨_,N8 b,HG _,aH (by rw[aN,HC];omega),⟨_,_,rfl⟩,λi=>N9 b i,?_,rfl,?_⟩
 ·rintro v d n ⟨x,y,rfl⟩;obtain⟨p,r,rfl⟩:=j4 n;have s:atI (w.map PV.int) (-1)=some (.int (L6 w)):=rO c;unfold pv tv;walk_at "go";refine⟨rfl,⟨_,_,rfl⟩,?_⟩;walk_at "go";refine⟨λa=>?_,λa=>?_⟩
  ·walk_at "go";refine⟨rfl,?_,λ_=>?_⟩
   ·show _=(decide (p.1=L6 w)&&_);rw[a];rfl
   ·walk_at "go";refine jD ⟨by simpa using c,aH (by simp;omega)⟩ ⟨rfl,?_⟩;show _=PV.tup ((w++[p.2]).map .int);rw[Ii];rfl
  ·refine⟨rfl,?_,λz=>(nomatch z)⟩;show _=(decide (p.1=L6 w)&&_);rw[a];rfl
 ·congr 3;unfold aN cL gO;rw[Kv,HV,HV];rfl
theorem iE{B:PHp}(P:L5 N ps)(C:B[q]?=some (.lst (aN ps))){k:Nat}{a m:Nat}(D:B[a]?=some (.lst (cL (bW ps k [[h]]))))(L:k<N)(e:0<=h/\h<N)(E:B[m]?=some (.lst [])){l G:Option PV} :
 Wp (b9 [some (.ref q),some (.ref a),l,some (.ref m),G]) B (λo c=>∃d f,o=.nx [some (.ref q),some (.ref a),l,some (.ref d),f]/\B<+:c/\c[d]?=some (.lst (cL (bW ps (k+1) [[h]])))) NoX:=by
 have g:=P.good;have y:N<=6:=by have:=P.hi;omega
 unfold b9;refine mf (λi j c=>∃d f,j=[some (.ref q),some (.ref a),l,some (.ref d),f]/\B<+:c/\c[d]?=some (.lst (cL (((bW ps k [[h]]).take i).flatMap (gO ps))))) ?_;walk_at "go";refine⟨a,cL (bW ps k [[h]]),rfl,⟨m,_,rfl,Iy _,E⟩,λi j c e=>?_,λi v j c p r=>?_,λj c e=>?_⟩
 ·obtain⟨_,_,_,p1,_⟩:=e;exact J7 (ag p1 D)
 ·obtain⟨d,f,rfl,p1,b⟩:=r;unfold cL at p;rw[Ij]at p;obtain⟨w,z,rfl⟩:=Ip.mp p;obtain⟨x,H⟩:=(v6 g e k w).mp (Io z);have s:=ag p1 C;walk_at "go";unfold cy;refine dg (dM ?_);walk_at "go";refine ac (iD s P.len x.ne (by omega)) λv O e=>?_;obtain⟨rfl,rfl⟩:=e;have I:(bW ps k [[h]]).take (i+1)=(bW ps k [[h]]).take i++[w]:=by rw[Jh,z];rfl
  have Q:(((bW ps k [[h]]).take i).flatMap (gO ps)).length<=(bW ps k [[h]]).length*6:=by
   refine Ih (W3 (n:=6) _ λu _=>Ih (rP g P.nd u) y) (MT _ ?_);rw[Jb];omega
  have l2:(bW ps k [[h]]).length<=6 ^ 5:=Ih (oB g P.nd y k) (Pa (by decide) (by omega));have T:=rP g P.nd w;have J:(bW ps k [[h]]).length<=7776:=l2;refine ca (ah b) ak ?_ ?_
  ·refine Ih ?_ (Fv);unfold cL;rw[HC,HC];omega
  ·walk_at "go";refine⟨_,_,rfl,E9 (E9 p1),?_⟩;rw[ak,I,LV];unfold cL;simp
 ·obtain⟨d,f,rfl,p1,b⟩:=e;unfold cL at b;rw[HC,Jc]at b;exact⟨d,f,rfl,p1,by rw[t0];exact b⟩
theorem iF(P:L5 N ps)(J:A[q]?=some (.lst (aN ps)))(p:0<=h/\h<N){a:Nat}(L:A[a]?=some (.lst (cL [[h]]))):Wp (U6 [.ref q,.ref a]) A (λv A'=>∃n,v=.ref n/\A.length<=n/\A<+:A'/\A'[n]?=some (.lst (cL (G5 ps h N)))) NoX:=by
 have l:=P.good;have C:N<=6:=by have:=P.hi;omega
 unfold U6;walk_at "fn";walk_at "gb";have O:Wp (c5 [some (.ref q),some (.ref a),some (.ref A.length),none,none]) (A++[.lst []]) (λo A'=>∃c n f g,o=.nx [some (.ref q),some (.ref c),some (.ref n),f,g]/\A.length<=n/\A<+:A'/\A'[n]?=some (.lst (cL (G5 ps h N)))) NoX:=by
  unfold c5;refine wc (λm D B=>∃j c n f g,m+j=N+1/\j<=N/\D=[some (.ref q),some (.ref c),some (.ref n),f,g]/\A<+:B/\A.length<=n/\B[c]?=some (.lst (cL (bW ps j [[h]])))/\B[n]?=some (.lst (cL (G5 ps h j)))) (m:=N+1) (by omega) ⟨0,a,A.length,_,_,rfl,KU _,rfl,HN _ _,HG _,ah L,ak⟩ ?_;rintro m D B ⟨j,c,n,f,g,hm,Q,rfl,p1,E,d,b⟩;refine ff (dM ?_);walk_at "go";refine iZ (ah d) ak ⟨di _,rfl⟩ ⟨_,rfl,λi=>?_,λi=>?_⟩
  ·have s:j<N:=by
    refine Nat.lt_of_not_le λz=>?_;rw[Ft l p z]at i;cases i
   unfold z9;refine cI (dg (dM ?_));walk_at "go";have e1:=wO (h:=h) l P.nd C j (by omega);have T:(bW ps j [[h]]).length<=6 ^ 5:=Ih (oB l P.nd C j) (Pa (by decide) (by omega));have e3:(bW ps j [[h]]).length<=7776:=T;refine ca (ah b) (ah d) ?_ ?_
   ·refine Ih ?_ (Fx);unfold cL;rw[HC,HC];omega
   have U:cL (G5 ps h j)++cL (bW ps j [[h]])=cL (G5 ps h (j+1)):=by rw[t4];unfold cL;rw[Ii]
   rw[U];generalize G:B++[PO.lst []]++[PO.lst (cL (G5 ps h (j+1)))]=H;have p2:B<+:H:=by rw[←G];exact(HN _ _).trans (HN _ _)
   have u:H[(B++[PO.lst []]).length]?=some (.lst (cL (G5 ps h (j+1)))):=by rw[←G];exact ak
   have w:A.length<=(B++[PO.lst []]).length:=by have:=p1.length_le;simp;omega
   generalize(B++[PO.lst []]).length=Y at *;walk_at "go";refine ac (iE (h:=h) (k:=j) P (ah (ag p2 (ag p1 J))) (ah (ag p2 d)) s p ak) λo B2 e=>?_;obtain⟨Z,a0,rfl,I,y⟩:=e;walk_at "go";exact⟨m - 1,by omega,j+1,Z,Y,_,_,by omega,by omega,rfl,p1.trans (p2.trans ((HN _ _).trans I)),w,y,ag I (ah u)⟩
  ·have he:bW ps j [[h]]=[]:=by
    cases hl:bW ps j [[h]]with
    | nil=>rfl
    | cons x r=>rw[hl]at i;cases i
   exact⟨c,n,f,g,rfl,E,E9 p1,by rw[ah b,Fu l p Q he]⟩
 refine ac O λo A1 e=>?_;obtain⟨c,n,f,g,rfl,E,p1,b⟩:=e;walk_at "go";exact b
end
theorem v7(N:Nat)(i:Nat):((aw N).map PV.int)[i]?=((Iw N).map λ(k:Nat)=>PV.int (k:Int))[i]?:=by unfold aw;rw[HV];rfl
theorem wP(f:Int×Int->PV):∀a:List (Int×Int),gv (a.map λp=>.tup [pv p,f p])=some (a.map λp=>(l2 p,f p))
 | []=>rfl
 | p::r=>by
   show(Q1 (pv p)).bind (λi=>(gv (r.map λp=>.tup [pv p,f p])).map ((i,f p) :: ·))=_;rw[wP f r];rfl
theorem wQ:∀(m a:DT),(m.map (·.1)).Nodup->(∀k∈m.map (·.1),k∉a.map (·.1))->m.foldl (λa p=>Z4 a p.1 p.2) a=a++m
 | [],a,_,_=>by simp
 | p::r,a,d,h=>by
   have b:=Jt.mp d;show r.foldl _ (Z4 a p.1 p.2)=_;rw[mq (h p.1 (by simp)),wQ r _ b.2 λk c=>?_]
   ·simp
   ·rw[Ii,Ir];rintro(z | z)
    ·exact h k (HR _ c) z
    ·have:k=p.1:=by simpa using z
     rw[this]at c;exact b.1 c
theorem FA{ps:List (Int×Int)}(e:ps.Nodup)(f:Int×Int->PV):(ps.map λp=>(l2 p,f p)).foldl (λc p=>Z4 c p.1 p.2) []=ps.map λp=>(l2 p,f p):=by
 rw[wQ _ [] ?_ (λ_ _ z=>nomatch z)]
 ·rfl
 ·rw[HV];exact Oc.map _ (λa b d z=>d (jY z)) e
theorem mem_insM{M:List Int}{x y:Int}:y∈X5 M x↔y=x\/y∈M:=by
 unfold X5;have e:=Mw (p:=λy:Int=>decide (y<x)) (l:=M);rw[Ir,HK];have:y∈M↔y∈M.takeWhile (λy=>decide (y<x))\/y∈M.dropWhile (λy=>decide (y<x)):=by rw[←Ir,e]
 rw[this];constructor
 ·rintro(z | z | z)
  ·exact .inr (.inl z)
  ·exact .inl z
  ·exact .inr (.inr z)
 ·rintro(z | z | z)
  ·exact .inr (.inl z)
  ·exact .inl z
  ·exact .inr (.inr z)
theorem FC{M:List Int}{x y:Int}:y∈fE M x↔y=x\/y∈M:=by
 unfold fE;by_cases h:x∈M
 ·rw[if_pos h];exact⟨.inr,λz=>z.elim (λe=>e ▸ h) id⟩
 ·rw[if_neg h];exact mem_insM
theorem mem_setL{l:List Int}{y:Int}:y∈setL l↔y∈l:=by
 have b:∀(l M:List Int),y∈l.foldl fE M↔y∈l\/y∈M:=by
  intro l;induction l with
  | nil=>intro M;simp
  | cons a r ih=>
    intro M;rw[Nh,ih,FC,HK];constructor
    ·rintro(z | z | z)
     ·exact .inl (.inr z)
     ·exact .inl (.inl z)
     ·exact .inr z
    ·rintro((z | z) | z)
     ·exact .inr (.inl z)
     ·exact .inl z
     ·exact .inr (.inr z)
 have:=b l [];simpa[setL]using this
theorem wR:∀{M:List Int}{x:Int},M.Pairwise (·< ·)->x∉M->(X5 M x).Pairwise (·< ·)
 | [],x,_,_=>by simp[X5]
 | a::r,x,h,d=>by
   have k:=IG.mp h;have f:a≠x:=λz=>d (by rw[z];exact HM);by_cases b:a<x
   ·have e:X5 (a::r) x=a::X5 r x:=by
     unfold X5;rw[List.takeWhile_cons_of_pos (by simpa using b),LA (by simpa using b)];rfl
    rw[e];refine IG.mpr ⟨λy c=>?_,wR k.2 λz=>d (HR _ z)⟩;rcases mem_insM.mp c with z | z
    ·rw[z];exact b
    ·exact k.1 y z
   ·have e:X5 (a::r) x=x::a::r:=by
     unfold X5;rw[List.takeWhile_cons_of_neg (by simpa using b),Nv (by simpa using b)];rfl
    rw[e];refine IG.mpr ⟨λy c=>?_,h⟩;rcases HK.mp c with z | z
    ·omega
    ·have:=k.1 y z;omega
theorem FD(l:List Int):(setL l).Pairwise (·< ·):=by
 have b:∀(l M:List Int),M.Pairwise (·< ·)->(l.foldl fE M).Pairwise (·< ·):=by
  intro l;induction l with
  | nil=>intro M h;exact h
  | cons a r ih=>
    intro M h;refine ih _ ?_;unfold fE;by_cases c:a∈M
    ·rw[if_pos c];exact h
    ·rw[if_neg c];exact wR h c
 exact b l [] .nil
theorem fk{A:PHp}{Q:PV->PHp->Prop}{E:XP}{σ:PSt}{e:ED}(h:Wp (e σ) A (λx A1=>∃n ns,x=.ref n/\A1[n]?=some (.lst (Nz .int ns))/\(∀x∈ns,0<=x/\x<=5)/\Q (.ref A1.length) (A1++[.lst ((setL ns).map .int)])) E):Wp (pK e σ) A Q E:=
 C1 (ac h λx A1 a=>by
  obtain⟨n,ns,b,c,d,q⟩:=a;subst b;refine C1 (Y2 c ?_);rw[T7];exact D6 d q)
theorem FE{S:LS}{p:Int×Int}{ch:List Int}{a:Nat}(h:(S.says.map (·.1)).Nodup)(q:Int×Int):rowsAt (Z0 S p ch a) q=if q=p then rowsAt S q++[(S.now,ch)] else rowsAt S q:=by
 unfold rowsAt S3;by_cases c:(S3 S p).isSome=true
 ·have e:(Z0 S p ch a).says=S.says.map (P3 S p ch):=by unfold Z0;simp only;rw[if_pos c]
  rw[e];have lk:∀(l:List ((Int×Int)×Nat×List (Int×List Int))),look (l.map (P3 S p ch)) q=(look l q).map λe=>if q=p then(e.1,e.2++[(S.now,ch)]) else e:=by
   intro l;induction l with
   | nil=>rfl
   | cons x r ih=>
     show(if(P3 S p ch x).1=q then some (P3 S p ch x).2 else look (r.map (P3 S p ch)) q)=(if x.1=q then some x.2 else look r q).map _;rw[(s9 x).1];by_cases d:x.1=q
     ·rw[if_pos d,if_pos d];unfold P3;by_cases b:q=p
      ·rw[if_pos (d.trans b),Np,if_pos b]
      ·rw[if_neg (λz=>b (d.symm.trans z)),Np,if_neg b]
     ·rw[if_neg d,if_neg d];exact ih
  rw[lk];by_cases b:q=p
  ·subst b;rw[if_pos rfl];cases f:look S.says q with
   | none=>unfold S3 at c;rw[f]at c;cases c
   | some e=>simp
  ·rw[if_neg b];cases look S.says q<;>simp[b]
 ·have g:S3 S p=none:=by simpa using c
  have e:(Z0 S p ch a).says=S.says++[(p,a,[(S.now,ch)])]:=by unfold Z0;simp only;rw[if_neg c]
  rw[e,wI];by_cases b:q=p
  ·subst b;have:look S.says q=none:=g;rw[this,if_pos rfl,wJ,if_pos rfl];rfl
  ·rw[if_neg b,wJ,if_neg (JX b)];cases look S.says q<;>rfl
theorem wS{b:Type}{f:b->Bool}:∀{l:List b},(∀x∈l,f x=true)->l.dropWhile f=[]
 | [],_=>rfl
 | a::r,h=>by
   rw[LA (h a HM)];exact wS λx c=>h x (HR _ c)
theorem FF(p:Int×Int):jZ 4 (pv p):=.tup (by simp) λv a=>by
 simp at a;rcases a with rfl | rfl<;>exact .int
theorem kH{A:PHp}{a b:Nat}{o d:PO}(e:A[a]?=some o)(f:A[b]?=some d)(c:o≠d):a≠b:=λz=>c (by rw[z,f]at e;exact(Iv e).symm)
theorem wT:∀{ps:List (Int×Int)},ps.Pairwise (λp q=>p.1<q.1\/(p.1=q.1/\p.2<q.2))->srt ps=ps
 | [],_=>rfl
 | p::r,h=>by
   have k:=IG.mp h;show k8 gG p (srt r)=p::r;rw[wT k.2];cases r with
   | nil=>rfl
   | cons q r=>
     have a:=k.1 q (by simp);have:gG q p=false:=by
      unfold gG l2;simp only[G7];have b:¬q.1<p.1:=by omega
      have c:¬(q.1=p.1/\q.2<p.2):=by omega
      by_cases e:q.1=p.1<;>simp_all<;>omega
     unfold k8;rw[this];rfl
theorem ee{A:PHp}{w r:Nat}{n h:Int}{ps:List (Int×Int)}(W:bF A w r n ps)(e:ps.length<64) :
 L9 [.ref w,.int h] A=.ok (.ref A.length) (A++[.lst ((Y8 (srt ps) h).map .int)]):=by
 have c:R3 [some (.ref w),some (.int h)] A=.ok (.ref A.length) (A++[.lst ((Y8 (srt ps) h).map .int)]):=by
  unfold R3;rw[←EC];refine tG (a:=r) (l:=aN (srt ps)) (S:=λb=>∃x y,b=[x,y,some (.int h)]) (by simp[W.ob,W.ls]) (by simp[W.ls]) (aH (by simp[aN,(O0 ps).length_eq];omega)) ⟨_,_,rfl⟩ ?_;rintro v d b ⟨x,y,rfl⟩;obtain⟨p,f,rfl⟩:=j4 d;refine⟨[some (.int p.1),some (.int p.2),some (.int h)],by simp[pv],⟨_,_,rfl⟩,by simp[plain,bq]<;>exact decide_eq_decide.mpr Iff.rfl,by simp⟩
 simp[L9,c]
theorem ef{A:PHp}{w r:Nat}{n h:Int}{ps:List (Int×Int)}(W:bF A w r n ps)(e:ps.length<64) :
 M0 [.ref w,.int h] A=.ok (.ref A.length) (A++[.lst ((Y9 (srt ps) h).map .int)]):=by
 have c:R4 [some (.ref w),some (.int h)] A=.ok (.ref A.length) (A++[.lst ((Y9 (srt ps) h).map .int)]):=by
  unfold R4;rw[←EE];refine tG (a:=r) (l:=aN (srt ps)) (S:=λb=>∃x y,b=[x,y,some (.int h)]) (by simp[W.ob,W.ls]) (by simp[W.ls]) (aH (by simp[aN,(O0 ps).length_eq];omega)) ⟨_,_,rfl⟩ ?_;rintro v d b ⟨x,y,rfl⟩;obtain⟨p,f,rfl⟩:=j4 d;refine⟨[some (.int p.1),some (.int p.2),some (.int h)],by simp[pv],⟨_,_,rfl⟩,by simp[plain,bq]<;>exact decide_eq_decide.mpr Iff.rfl,by simp⟩
 simp[M0,c]
structure dj(N i j:Nat)(ps:List (Int×Int)):Prop where
 good:∀p∈ps,good N p
 len:ps.length<=i*N+j
 lt:∀p∈ps,p.1<i\/(p.1=i/\p.2<j)
 up:ps.Pairwise (λp q=>p.1<q.1\/(p.1=q.1/\p.2<q.2))
theorem dj.app{N i j:Nat}{ps:List (Int×Int)}(D:dj N i j ps)(d:i<N)(e:j<N)(b:(i:Int)≠j):dj N i (j+1) (ps++[((i:Int),(j:Int))]):=by
 refine⟨λp a=>?_,by have:=D.len;rw[Ie];simp;omega,λp a=>?_,?_⟩
 ·rcases Ir.mp a with z | z
  ·exact D.good p z
  ·rw[HH]at z;subst z;exact⟨by simp;omega,by simp;omega,b⟩
 ·rcases Ir.mp a with z | z
  ·rcases D.lt p z with h | h
   ·exact .inl h
   ·exact .inr ⟨h.1,by have:=h.2;omega⟩
  ·rw[HH]at z;subst z;exact .inr ⟨rfl,by simp;omega⟩
 ·rw[List.pairwise_append];refine⟨D.up,by simp,λp a q c=>?_⟩;rw[HH]at c;subst c;exact D.lt p a
theorem dj.skip{N i j:Nat}{ps:List (Int×Int)}(D:dj N i j ps):dj N i (j+1) ps:=
 ⟨D.good,by have:=D.len;omega,λp a=>by
  rcases D.lt p a with h | h
  ·exact .inl h
  ·exact .inr ⟨h.1,by have:=h.2;omega⟩,D.up⟩
section
variable{A B:PHp}{c:Int}{N f i:Nat}{ps:List (Int×Int)}
abbrev jc(c:Int)(N f:Nat)(x y z:Option PV):PSt:=[some (.int c),some (.int N),some (.ref f),x,y,z]
theorem FG(r:N<=6)(s:i<N)(pre:A<+:B)(u:A.length<=f)(v:B[f]?=some (.lst (aN ps)))(D:dj N i 0 ps)(x y:Option PV) :
 Wp (j5 (jc c N f (some (.int i)) x y)) B (λq d=>∃b e g,q=.nx (jc c N f (some (.int i)) e g)/\A<+:d/\d[f]?=some (.lst (aN b))/\dj N (i+1) 0 b) NoX:=by
 unfold j5;refine oq (λj l d=>∃b e g,l=jc c N f (some (.int i)) e g/\A<+:d/\d[f]?=some (.lst (aN b))/\dj N i j b) ?_;unfold jc;walk_at "go";refine⟨0,N,rfl,⟨ps,_,_,rfl,pre,v,D⟩,?_,?_⟩
 ·rintro j l w z ⟨b,e,g,rfl,p1,a,D1⟩;have G:i*N<=5*6:=Pq (by omega) r;have n:(aN b).length<LIM:=by unfold aN;rw[HC];exact Q7 (by have:=D1.len;omega)
  walk_at "go";unfold cJ;walk_at "go";refine w_mul (.inl (by omega)) ?_;walk_at "go";refine w_eq (ce _ _ _) ?_;walk_at "go";simp only[OT];refine⟨λo=>?_,λo=>?_⟩
  ·have m:(i:Int)≠j:=by simpa using o
   walk_at "go";refine w_eq (ce _ _ _) ?_;walk_at "go";refine⟨λC=>?_,λC=>?_⟩
   ·walk_at "go";refine⟨_,_,_,rfl,pre_set p1 u,?_,D1.app s z m⟩;rw[aM a];simp[aN,pv]
   ·walk_at "go";exact⟨_,_,_,rfl,p1,a,D1.skip⟩
  ·walk_at "go";exact⟨_,_,_,rfl,p1,a,D1.skip⟩
 ·rintro l w ⟨b,e,g,rfl,p1,a,D1⟩;refine⟨b,_,_,rfl,p1,a,D1.good,by have:=D1.len;rw[Nat.succ_mul];omega,λp E=>?_,D1.up⟩;rcases D1.lt p E with h | h
  ·left;omega
  ·left;omega
theorem FH(w:2<=N)(l:N<=6):Wp (X0 [.int c,.int N]) A (λv A'=>A<+:A'/\∃ps r,v=.ref r/\A.length<=r/\A'[r]?=some (.lst (aN ps))/\L5 N ps/\srt ps=ps/\ps.length<=36) NoX:=by
 unfold X0;walk_at "fn";walk_at "go";have L:Wp (j6 (jc c N A.length none none none)) (A++[.lst []]) (λq g=>∃d x y z,q=.nx (jc c N A.length x y z)/\A<+:g/\g[A.length]?=some (.lst (aN d))/\dj N N 0 d) NoX:=by
  unfold j6;refine oq (λi σ g=>∃d x y z,σ=jc c N A.length x y z/\A<+:g/\g[A.length]?=some (.lst (aN d))/\dj N i 0 d) ?_;unfold jc;walk_at "go";refine⟨0,N,rfl,⟨[],_,_,_,rfl,HN _ _,ak,⟨by simp,by simp,by simp,.nil⟩⟩,?_,?_⟩
  ·rintro i σ o p ⟨d,x,y,z,rfl,p1,e,D1⟩;walk_at "go";unfold cK;simp only[OT];refine ac (FG l p p1 (HG _) e D1 _ _) λq C m=>?_;obtain⟨s,D,E,rfl,p2,n,D2⟩:=m;exact⟨_,_,_,_,rfl,p2,n,D2⟩
  ·rintro σ o ⟨d,x,y,z,rfl,p1,e,D1⟩;exact⟨_,_,_,_,rfl,p1,e,D1⟩
 refine ac L λq o m=>?_;obtain⟨d,x,y,z,rfl,p1,e,D1⟩:=m;walk_at "go";have j:d.length<=36:=by
  have:=D1.len;have:N*N<=6*6:=Pq l l;omega
 have u:d.Nodup:=D1.up.imp λ{a b} h z=>by subst z;omega
 exact⟨d,A.length,rfl,HG _,e,⟨by omega,by omega,D1.good,u,by omega⟩,wT D1.up,j⟩
noncomputable def someL(c:Int)(N:Nat):List Int:=(aw N).filter λh=>decide (mx c (80+h)%3=0)
theorem fY(g:N<=6){b:Option PV}{xs:List (Option PV)}:Wp (rg (b::some (.int c)::some (.int N)::xs)) A (λv d=>v=.ref A.length/\d=A++[.lst ((someL c N).map .int)]) NoX:=by
 unfold rg;refine N3 (l:=(aw N).map .int) (λa=>∃x,a=[x,some (.int c)]) (λv=>match v with | .int t=>decide (mx c (80+t)%3=0) | _=>false) (λv=>v) ?_;walk_at "go";refine⟨by simp[aG],aH (by simp[aG];omega),⟨_,rfl⟩,λi=>?_,?_,rfl,?_⟩
 ·rw[p9,v7]
 ·rintro v a e ⟨x,rfl⟩;obtain⟨t,h,rfl⟩:=HQ.mp e;walk_at "go";refine⟨rfl,⟨_,rfl⟩,?_⟩;walk_at "go";refine w_eq (ce _ _ _) ?_;walk_at "go";refine⟨rfl,rfl,λ_=>?_⟩;walk_at "go";exact⟨rfl,rfl⟩
 ·congr 3;unfold someL;rw[Kv,HV];rfl
theorem FI{N:Nat}{a:List Int}{me:Int}(g:0<=me/\me<N)(h:∀h∈a,0<=h/\h<(N:Int)):r9 N (setL (a++[me]))=true/\me∈setL (a++[me])/\(setL (a++[me])).Nodup/\(setL (a++[me])).length<=N:=by
 have l:=FD (a++[me]);have d:∀x∈setL (a++[me]),0<=x/\x<(N:Int):=λx b=>by
  rcases Ir.mp (mem_setL.mp b)with z | z
  ·exact h x z
  ·rw[HH.mp z];exact g
 have j:me∈setL (a++[me]):=mem_setL.mpr (by simp);have e:(setL (a++[me])).Nodup:=l.imp λh z=>by omega
 refine⟨lead_iff.mpr ⟨rG l ((oy N).filter _) λx=>?_,λz=>?_⟩,j,e,?_⟩
 ·rw[IL,mem_hands];exact⟨λb=>⟨d x b,decide_eq_true b⟩,λb=>of_decide_eq_true b.2⟩
 ·rw[z]at j;cases j
 ·have:=e.length_le_of_subset (l₂:=aw N) λy m=>mem_hands.mpr (d y m)
  rwa [aG]at this
theorem fZ{q:Nat}(a:A[q]?=some (.lst (aN ps)))(m:ps.length<=100){d e g:Option PV}{xs:List (Option PV)}:Wp (rh (d::e::g::some (.ref q)::xs)) A (λv h=>v=.ref A.length/\h=A++[.lst (ps.map λp=>.tup [pv p,.int 9])]) NoX:=by
 unfold rh;refine N3 (l:=aN ps) (λb=>∃x,b=[x]) (λ_=>true) (λv=>.tup [v,.int 9]) ?_;walk_at "go";refine⟨_,N8 a,HG _,aH (by unfold aN;rw[HC];omega),⟨_,rfl⟩,λi=>N9 a i,?_,rfl,?_⟩
 ·rintro v b j ⟨x,rfl⟩;obtain⟨p,n,rfl⟩:=j4 j;walk_at "go";refine⟨rfl,⟨_,rfl⟩,?_⟩;walk_at "go";refine⟨rfl,rfl,λ_=>?_⟩;walk_at "go";exact⟨rfl,rfl⟩
 ·congr 3;rw[IU.mpr (by simp)];unfold aN;rw[HV];rfl
end
noncomputable def d9(ps:List (Int×Int))(N:Nat)(h l:Int):List (List Int):=(G5 ps h N).filter λw=>decide (L6 w=l)
noncomputable def wdOf(ps:List (Int×Int))(N:Nat)(p:Int×Int)(L:List Int):List (List Int):=L.filterMap λl=>(d9 ps N p.2 l).head?
noncomputable def Z1(p:Int×Int)(w:List Int):PV:=.tup [.int 2,d8 p w]
section
variable{A:PHp}{N:Nat}{ps:List (Int×Int)}{q:Nat}{p:Int×Int}
theorem FJ(P:L5 N ps)(m:A[q]?=some (.lst (aN ps)))(e:0<=p.2/\p.2<N){l:Int}{o r s:Option PV}:Wp (Y6 [some (.ref q),o,some (pv p),r,some (.int l),s]) A (λv A'=>∃n,v=.ref n/\A.length<=n/\A<+:A'/\A'[n]?=some (.lst (cL (d9 ps N p.2 l)))) NoX:=by
 have f:=P.good;have u:N<=6:=by have:=P.hi;omega
 unfold Y6;refine oA (G5 ps p.2 N) tv tv (λw=>decide (L6 w=l)) (λg=>∃x,g=[x,some (.int l)]) ?_;have y:atI [PV.int p.1,PV.int p.2] 1=some (.int p.2):=rfl;unfold pv;walk_at "go";refine ac (iF (h:=p.2) P (ah m) e ak) λv z c=>?_;obtain⟨n,rfl,D,p1,a⟩:=c;have j:A<+:z:=(HN _ _).trans p1;walk_at "go";refine⟨_,N8 a,by simp[cL],Ih (wO f P.nd u N (by omega)) Fw,⟨_,rfl⟩,λi B b=>N9 (ag b a) i,?_,?_⟩
 ·rintro w g B C ⟨x,rfl⟩ b;have d:=((wN f e w).mp C).ne;have E:atI (w.map PV.int) (-1)=some (.int (L6 w)):=rO d;unfold tv;walk_at "go";refine⟨rfl,⟨_,rfl⟩,?_⟩;walk_at "go";refine⟨rfl,Iy _,λ_=>?_⟩;walk_at "go";exact⟨rfl,Iy _⟩
 ·intro B b;exact⟨_,rfl,Ih j.length_le b.length_le,E9 (j.trans b),ak⟩
theorem mz(P:L5 N ps)(I:A[q]?=some (.lst (aN ps)))(a:0<=p.2/\p.2<N){l:Nat}{L:List Int}(J:A[l]?=some (.lst (L.map .int)))(Z:L.length<=6) :
 Wp (S0 [.ref q,.ref l,pv p]) A (λv A'=>v=.ref A.length/\A<+:A'/\A'[A.length]?=some (.lst ((wdOf ps N p L).map (Z1 p)))) NoX:=by
 unfold S0;walk_at "fn";walk_at "go";have s:Wp (Y7 [some (.ref q),some (.ref l),some (pv p),some (.ref A.length),none,none]) (A++[.lst []]) (λo B=>∃c d,o=.nx [some (.ref q),some (.ref l),some (pv p),some (.ref A.length),c,d]/\A<+:B/\B[A.length]?=some (.lst ((wdOf ps N p L).map (Z1 p)))) NoX:=by
  unfold Y7;refine mf (λi j B=>∃c d,j=[some (.ref q),some (.ref l),some (pv p),some (.ref A.length),c,d]/\A<+:B/\B[A.length]?=some (.lst ((wdOf ps N p (L.take i)).map (Z1 p)))) ?_;walk_at "go";refine⟨l,L.map .int,rfl,⟨_,_,rfl,HN _ _,ak⟩,λi j B a=>?_,λi v j B C b=>?_,λj B a=>?_⟩
  ·obtain⟨_,_,_,p1,_⟩:=a;exact J7 (ag p1 J)
  ·obtain⟨c,d,rfl,p1,e⟩:=b;rw[Ij]at C;obtain⟨x,O,rfl⟩:=Ip.mp C;have Q:L.take (i+1)=L.take i++[x]:=by rw[Jh,O];rfl
   have D:(wdOf ps N p (L.take i)).length<=6:=by
    unfold wdOf;have:=Kl (λl=>(d9 ps N p.2 l).head?) (L.take i);rw[Jb]at this;omega
   have u:wdOf ps N p (L.take (i+1))=wdOf ps N p (L.take i)++(d9 ps N p.2 x).head?.toList:=by
    unfold wdOf;rw[Q,List.filterMap_append];congr 1
   rw[u];walk_at "go";unfold cb;refine cI (dg ?_);refine ac (FJ P (ag p1 I) a) λv m b=>?_;obtain⟨n,rfl,T,p2,E⟩:=b;have y:=ag p2 e;have U:A.length<=n:=Ih p1.length_le T;refine db ?_;dsimp only[List.set];refine ma (ff (dM ?_));walk_at "go";refine iZ (ah E) ak ⟨di _,rfl⟩ ?_;have f:(m++[PO.lst []])[A.length]?=some (.lst ((wdOf ps N p (L.take i)).map (Z1 p))):=ah y;have g:(m++[PO.lst []])[n]?=some (.lst (cL (d9 ps N p.2 x))):=ah E;have G:A<+:m++[PO.lst []]:=p1.trans (p2.trans (HN _ _));generalize m++[PO.lst []]=B2 at *;cases h:d9 ps N p.2 x with
   | nil=>
     rw[h]at g;refine⟨_,rfl,λz=>(nomatch z),λ_=>?_⟩;walk_at "go";exact⟨_,_,rfl,G,by simpa using f⟩
   | cons w r=>
     rw[h]at g;refine⟨_,rfl,λ_=>?_,λz=>(nomatch z)⟩;have Y:atI (cL (w::r)) 0=some (tv w):=mu (xs:=cL (w::r)) (i:=0) rfl;have H:((wdOf ps N p (L.take i)).map (Z1 p)).length<LIM:=Q7 (by rw[HC];omega);walk_at "go";refine⟨_,_,rfl,pre_set G (HG _),?_⟩;rw[aM f];simp[Z1,d8,tv]
  ·obtain⟨c,d,rfl,p1,e⟩:=a;rw[HC,Jc]at e;exact⟨_,_,rfl,p1,e⟩
 refine ac s λo B a=>?_;obtain⟨c,d,rfl,p1,e⟩:=a;walk_at "go";exact⟨rfl,p1,e⟩
theorem FK(P:L5 N ps){L w:List Int}(f:p∈ps)(a:w∈wdOf ps N p L):s8 N ps L w/\w.head?=some p.2/\w.length<=6/\L6 w∈L:=by
 have g:=(P.good p f).2.1;unfold wdOf at a;obtain⟨l,b,h⟩:=Lf.mp a;have c:w∈d9 ps N p.2 l:=List.mem_of_head? h;unfold d9 at c;obtain⟨i,j⟩:=IL.mp c;have x:=(wN P.good g w).mp i;have d:L6 w=l:=of_decide_eq_true j;have e:=x.len;have:=P.hi;exact⟨⟨⟨x.ne,by rw[Fo,d];exact b⟩,x.nd,x.inn,x.st⟩,x.hd,by omega,by rw[d];exact b⟩
theorem FL{L:List Int}:(wdOf ps N p L).length=L.length↔∀l∈L,∃w∈wdOf ps N p L,L6 w=l:=by
 have b:∀l w,(d9 ps N p.2 l).head?=some w->L6 w=l:=λl w h=>by
  have j:w∈d9 ps N p.2 l:=List.mem_of_head? h;unfold d9 at j;exact of_decide_eq_true (IL.mp j).2
 have g:∀M:List Int,(wdOf ps N p M).length=M.length↔∀l∈M,(d9 ps N p.2 l).head?.isSome=true:=by
  intro M;induction M with
  | nil=>simp[wdOf]
  | cons a r ih=>
    have i:(wdOf ps N p r).length<=r.length:=Kl _ _;unfold wdOf at ih i ⊢;cases h:(d9 ps N p.2 a).head? with
    | none=>
      simp only[JG,h];constructor
      ·intro z;rw[Il]at z;omega
      ·intro z;have:=z a (by simp);rw[h]at this;cases this
    | some w=>
      simp only[JG,h,Il];constructor
      ·intro z l c;rcases HK.mp c with rfl | c
       ·rw[h];rfl
       ·exact ih.mp (by omega) l c
      ·intro z;rw[ih.mpr λl c=>z l (HR _ c)]
 rw[g];constructor
 ·intro z l c;obtain⟨w,f⟩:=LW.mp (z l c);exact⟨w,Lf.mpr ⟨l,c,f⟩,b l w f⟩
 ·intro z l c;obtain⟨w,f,e⟩:=z l c;obtain⟨m,_,d⟩:=Lf.mp f;have:m=l:=(b m w d).symm.trans e;rw[←this,d];rfl
end
section
variable{A:PHp}{Q:PV->PHp->Prop}{E:XP}{σ:PSt}{n:Nat}{e:ED}
theorem eF(h:Wp (e σ) A (λx A1=>∃n l m,x=.ref n/\A1[n]?=some (.lst l)/\w4 l=some m/\m.length<LIM/\Q (.ref A1.length) (A1++[.dI (m.foldl (λa p=>n0 a p.1 p.2) [])])) E):Wp (nu e σ) A Q E:=
 C1 (ac h λx A1 b=>by
  obtain⟨n,l,m,c,d,f,g,q⟩:=b;subst c;refine C1 (Y2 d ?_);rw[f];exact D6 g q)
theorem rQ{b:List (Int×PV)->PHp->Prop}{m:List (Int×PV)}(h:A[n]?=some (.dI m))(q:b m A):Wp (hW n) A b E:=w_eq (a:=m) (by unfold hW;rw[h]) q
theorem eh{d y:ED}(h:Wp (d σ) A (λx b=>Wp (y σ) b (λk a=>∃(n:Nat)(i:Int)(m:List (Int×PV))(v:PV),x=.ref n/\k=.int i/\a[n]?=some (.dI m)/\gi m i=some v/\Q v a) E) E):Wp (kj d y σ) A Q E:=
 C1 (ac h λx b c=>C1 (ac c λk a f=>by
  obtain⟨n,i,m,v,g,j,l,o,q⟩:=f;subst g;subst j;refine C1 (rQ l ?_);rw[o];exact q))
theorem FM{c:Fl->PHp->Prop}{d y:ED}(h:Wp (e σ) A (λv f=>Wp (d σ) f (λx g=>Wp (y σ) g (λk b=>∃(n:Nat)(i:Int)(m:List (Int×PV)),x=.ref n/\k=.int i/\b[n]?=some (.dI m)/\m.length<LIM/\c (.nx σ) (b.set n (.dI (n0 m i v)))) E) E) E):Wp (sDPut d y e σ) A c E:=
 C1 (ac h λv f j=>C1 (ac j λx g l=>C1 (ac l λk b o=>by
  obtain⟨n,i,m,p,r,s,u,q⟩:=o;subst p;subst r;exact C1 (rQ s (D6 u (C1 (w_eq (a:=()) rfl q)))))))
theorem FN(h:Wp (e σ) A (λx A1=>∃n m,x=.ref n/\A1[n]?=some (.dI m)/\Q (.ref A1.length) (A1++[.dI m])) E):Wp (pL e σ) A Q E:=
 C1 (ac h λx A1 a=>by
  obtain⟨n,m,b,c,q⟩:=a;subst b;exact C1 (rQ c q))
end
abbrev WI:=List (Int×Nat)
noncomputable def dW(W:WI):List (Int×PV):=W.map λe=>(e.1,PV.ref e.2)
theorem mB:∀{W:WI}{h:Int},h∈W.map (·.1)->∃a,(h,a)∈W/\gi (dW W) h=some (.ref a)
 | [],h,z=>nomatch z
 | e::r,h,z=>by
   show ∃a,_/\(if e.1=h then some (PV.ref e.2) else gi (dW r) h)=_;by_cases b:e.1=h
   ·exact⟨e.2,by rw[←b];exact HM,by rw[if_pos b]⟩
   ·rw[if_neg b];obtain⟨a,c,d⟩:=mB (W:=r) (h:=h) (by
     rcases HK.mp z with z | z
     ·exact absurd z.symm b
     ·exact z)
    exact⟨a,HR _ c,d⟩
theorem rR:∀W:WI,w4 (W.map λe=>PV.tup [.int e.1,.ref e.2])=some (dW W)
 | []=>rfl
 | e::r=>by
   show(w4 (r.map λe=>PV.tup [.int e.1,.ref e.2])).map ((e.1,PV.ref e.2) :: ·)=_;rw[rR r];rfl
theorem FO{m:List (Int×PV)}{k:Int}{v:PV}(h:k∉m.map (·.1)):n0 m k v=m++[(k,v)]:=by
 unfold n0;rw[if_neg];intro z;obtain⟨p,a,e⟩:=LM.mp z;exact h (HQ.mpr ⟨p,a,of_decide_eq_true e⟩)
theorem wU:∀(m a:List (Int×PV)),(m.map (·.1)).Nodup->(∀k∈m.map (·.1),k∉a.map (·.1))->m.foldl (λa p=>n0 a p.1 p.2) a=a++m
 | [],a,_,_=>by simp
 | p::r,a,d,h=>by
   have b:=Jt.mp d;show r.foldl _ (n0 a p.1 p.2)=_;rw[FO (h p.1 (by simp)),wU r _ b.2 λk c=>?_]
   ·simp
   ·rw[Ii,Ir];rintro(z | z)
    ·exact h k (HR _ c) z
    ·have:k=p.1:=by simpa using z
     rw[this]at c;exact b.1 c
theorem wV{W:WI}(b:(W.map (·.1)).Nodup):(dW W).foldl (λa p=>n0 a p.1 p.2) []=dW W:=by
 rw[wU _ [] ?_ (λ_ _ z=>nomatch z)]
 ·rfl
 ·unfold dW;rw[HV];exact b
noncomputable def jd(W:WI)(h:Int)(a:Nat):WI:=W.map λe=>if e.1=h then(e.1,a) else e
theorem FP(W:WI)(h:Int)(a:Nat):(jd W h a).map (·.1)=W.map (·.1):=by
 unfold jd;rw[HV];refine Jj λe _=>?_;show(if e.1=h then(e.1,a) else e).1=e.1;by_cases z:e.1=h
 ·rw[if_pos z]
 ·rw[if_neg z]
theorem FQ{W:WI}{h:Int}(b:h∈W.map (·.1))(a:Nat):n0 (dW W) h (.ref a)=dW (jd W h a):=by
 unfold n0;rw[if_pos]
 ·unfold dW jd;rw[HV,HV];refine Jj λe _=>?_;show(if e.1=h then(e.1,PV.ref a) else(e.1,PV.ref e.2))=((if e.1=h then(e.1,a) else e).1,PV.ref (if e.1=h then(e.1,a) else e).2);by_cases z:e.1=h
  ·rw[if_pos z,if_pos z]
  ·rw[if_neg z,if_neg z]
 ·obtain⟨e,c,rfl⟩:=HQ.mp b;exact LM.mpr ⟨(e.1,.ref e.2),HQ.mpr ⟨e,c,rfl⟩,by simp⟩
structure aK(A B:PHp)(rd dn:Nat)(W:WI)(N:Nat)(R:Int->List PV)(D:List (Int×Int)):Prop where
 pre:A<+:B
 dict:B[rd]?=some (.dI (dW W))
 wk:W.map (·.1)=aw N
 wn:(W.map (·.2)).Nodup
 rows:∀e∈W,A.length<=e.2/\e.2≠dn/\B[e.2]?=some (.lst (R e.1))
 done:B[dn]?=some (.lst (aN D))
 rlo:A.length<=rd
 dlo:A.length<=dn
section
variable{A B B':PHp}{rd dn:Nat}{W:WI}{N:Nat}{R:Int->List PV}{D:List (Int×Int)}
theorem aK.uniq(H:aK A B rd dn W N R D){e f:Int×Nat}(he:e∈W)(c:f∈W)(h:e.1=f.1\/e.2=f.2):e=f:=by
 have d:(W.map (·.1)).Nodup:=by rw[H.wk];exact r6 N
 obtain⟨i,a,rfl⟩:=Jp.mp he;obtain⟨j,b,rfl⟩:=Jp.mp c;have:i=j:=by
  rcases h with h | h
  ·exact(MK (xs:=W.map (·.1)) (h₀:=by simpa using a) (h₁:=by simpa using b) d).mp (by simpa using h)
  ·exact(MK (xs:=W.map (·.2)) (h₀:=by simpa using a) (h₁:=by simpa using b) H.wn).mp (by simpa using h)
 subst this;rfl
theorem aK.mono(H:aK A B rd dn W N R D)(e:B<+:B'):aK A B' rd dn W N R D:=
 ⟨H.pre.trans e,ag e H.dict,H.wk,H.wn,λx a=>⟨(H.rows x a).1,(H.rows x a).2.1,ag e (H.rows x a).2.2⟩,ag e H.done,H.rlo,H.dlo⟩
theorem aK.app(H:aK A B rd dn W N R D){h:Int}{a:Nat}(d:(h,a)∈W)(v:PV):aK A (B.set a (.lst (R h++[v]))) rd dn W N (λg=>if g=h then R g++[v] else R g) D:=by
 have c:=H.rows _ d;have f:rd≠a:=kH H.dict c.2.2 nofun;refine⟨pre_set H.pre c.1,(D4 f).trans H.dict,H.wk,H.wn,λe b=>⟨(H.rows e b).1,(H.rows e b).2.1,?_⟩,(D4 c.2.1.symm).trans H.done,H.rlo,H.dlo⟩;show(B.set a (.lst (R h++[v])))[e.2]?=some (.lst (if e.1=h then R e.1++[v] else R e.1));by_cases z:e.2=a
 ·have:=H.uniq b d (.inr z);subst this;rw[if_pos rfl];exact aM c.2.2
 ·rw[if_neg λy=>z (by have:=H.uniq b d (.inl y);rw[this]),D4 z];exact(H.rows e b).2.2
theorem aK.put(H:aK A B rd dn W N R D){h:Int}{m:Nat}(C:h∈aw N){l:List PV}(e:B<+:B')(u:B'[m]?=some (.lst (R h++l)))(p:B.length<=m):aK A (B'.set rd (.dI (n0 (dW W) h (.ref m)))) rd dn (jd W h m) N (λg=>if g=h then R g++l else R g) D:=by
 have c:=H.mono e;have E:h∈W.map (·.1):=by rw[H.wk];exact C
 have q:m≠rd:=kH u c.dict nofun;have d:∀x∈W,x.2≠m:=λx f z=>by have:=G1 (H.rows x f).2.2;omega
 have r:m≠dn:=λz=>by have:=G1 H.done;omega
 refine⟨pre_set c.pre H.rlo,by rw[FQ E];exact aM c.dict,by rw[FP];exact H.wk,?_,λx f=>?_,(D4 (kH c.done c.dict nofun)).trans c.done,H.rlo,H.dlo⟩
 ·unfold jd;rw[HV];refine Lr.mpr (NV (λ{a b} v w j=>?_) (Lr.mp H.wn));have s:∀x y:Int×Nat,x∈W->y∈W->x.1=y.1->x.2=y.2:=λx y f i z=>by rw[H.uniq f i (.inl z)]
  show(if a.1=h then(a.1,m) else a).2≠(if b.1=h then(b.1,m) else b).2;by_cases o:a.1=h
  ·by_cases n:b.1=h
   ·exact absurd (s a b v w (o.trans n.symm)) j
   ·rw[if_pos o,if_neg n];exact(d b w).symm
  ·by_cases n:b.1=h
   ·rw[if_neg o,if_pos n];exact d a v
   ·rw[if_neg o,if_neg n];exact j
 ·unfold jd at f;obtain⟨y,i,rfl⟩:=HQ.mp f;show A.length<=(if y.1=h then(y.1,m) else y).2/\(if y.1=h then(y.1,m) else y).2≠dn/\(B'.set rd _)[(if y.1=h then(y.1,m) else y).2]?=some (.lst (if(if y.1=h then(y.1,m) else y).1=h then _ else _));by_cases z:y.1=h
  ·rw[if_pos z,if_pos (show(y.1,m).1=h from z)];refine⟨Ih H.pre.length_le p,r,(D4 q).trans ?_⟩;show B'[m]?=some (.lst (R y.1++l));rw[z];exact u
  ·rw[if_neg z,if_neg z];exact⟨(H.rows y i).1,(H.rows y i).2.1,(D4 (kH (c.rows y i).2.2 c.dict nofun)).trans (c.rows y i).2.2⟩
theorem aK.don(H:aK A B rd dn W N R D)(p:Int×Int):aK A (B.set dn (.lst (aN D++[pv p]))) rd dn W N R (D++[p]):=by
 refine⟨pre_set H.pre H.dlo,(D4 (kH H.dict H.done nofun)).trans H.dict,H.wk,H.wn,λe a=>⟨(H.rows e a).1,(H.rows e a).2.1,(D4 (H.rows e a).2.1).trans (H.rows e a).2.2⟩,?_,H.rlo,H.dlo⟩;rw[aM H.done];unfold aN;rw[Ii];rfl
theorem aK.ext(H:aK A B rd dn W N R D){a:Int->List PV}{b:List (Int×Int)}(h:∀g,R g=a g)(c:D=b):aK A B rd dn W N a b:=by
 have:R=a:=funext h;subst this;subst c;exact H
end
theorem wW{A:PHp}{a:Nat}{ns:List Int}(h:A[a]?=some (.ro (ns.map .int)))(k:Nat):K9 [.ref a,.int k] A=.ok (.int (ns.getD k 0)) A:=by
 have e:Wp (K9 [.ref a,.int k]) A (λv d=>v=.int (ns.getD k 0)/\d=A) NoX:=by
  unfold K9;walk_at "fn";walk_at "gb";refine⟨λc=>?_,λc=>?_⟩
  ·have b:k<ns.length:=by simpa using c
   have f:atI (ns.map PV.int) (k:Int)=some (.int (ns.getD k 0)):=by
    rw[wj (by rw[HC];exact b),LQ];simp[b]
   walk_at "gb";exact⟨rfl,rfl⟩
  ·have b:¬k<ns.length:=by simpa using c
   walk_at "gb";exact⟨by simp[b],rfl⟩
 obtain⟨v,d,e,rfl,rfl⟩:=op e;exact e
theorem FR{ps:List (Int×Int)}(a:ps.Nodup){i:Nat}{p:Int×Int}(h:ps[i]?=some p):ps.idxOf p=i:=by
 obtain⟨b,rfl⟩:=HY.mp h;exact a.idxOf_getElem i b
noncomputable def kI(p:Int×Int):PV:=.tup [.int 1,j9 p]
noncomputable def xF(ns:List Int)(ps:List (Int×Int))(p:Int×Int):Int:=mx (ns.getD (1+ps.idxOf p%4) 0) (9+ps.idxOf p)
noncomputable def laF(ns:List Int)(ps:List (Int×Int))(p:Int×Int):Bool:=decide (xF ns ps p%7 > 0)
noncomputable def saF(ns:List Int)(ps:List (Int×Int))(p:Int×Int):Bool:=decide (xF ns ps p / 7%3 > 0)
section
variable{A B:PHp}{N:Nat}{ps:List (Int×Int)}{L ns:List Int}
noncomputable def kJ(la sa:Int×Int->Bool)(wd:Int×Int->List (List Int))(h:Int)(p:Int×Int):List PV:=(if p.1=h/\la p=true then[kI p] else[])++(if p.2=h/\sa p=true then(wd p).map (Z1 p) else[])
noncomputable def t5(la sa:Int×Int->Bool)(wd:Int×Int->List (List Int))(ps:List (Int×Int))(h:Int):List PV:=ps.flatMap (kJ la sa wd h)
noncomputable def K7(la sa:Int×Int->Bool)(wd:Int×Int->List (List Int))(L:List Int)(p:Int×Int):Bool:=la p&&(sa p&&decide ((wd p).length=L.length))
theorem FS(D:N<=6){s u:Option PV}{xs:List (Option PV)}:Wp (rk (s::u::some (.int N)::xs)) A
 (λv o=>∃(n:Nat)(W:WI),v=.ref n/\A<+:o/\W.map (·.1)=aw N/\o[n]?=some (.lst (W.map λe=>.tup [.int e.1,.ref e.2]))/\(W.map (·.2)).Nodup/\∀e∈W,A.length<=e.2/\o[e.2]?=some (.lst [])) NoX:=by
 unfold rk;refine mh ?_;walk_at "go";refine⟨(aw N).map .int,N,λi c m B=>∃(x:Option PV)(W:WI),m=[x]/\A<+:B/\W.map (·.1)=(aw N).take i/\c=(W.map λe=>PV.tup [.int e.1,.ref e.2])/\(W.map (·.2)).Nodup/\∀e∈W,A.length<=e.2/\B[e.2]?=some (.lst []),?_,by simp[aG],⟨_,[],rfl,Iy _,by simp,rfl,.nil,λe d=>nomatch d⟩,λi c m B g=>?_,λi v c m B q g=>?_,λc m B g=>?_⟩
 ·simp
 ·rw[p9,v7]
 ·obtain⟨x,W,rfl,p1,p,rfl,f,j⟩:=g;rw[Ij]at q;obtain⟨h,g,rfl⟩:=Ip.mp q;have w:(aw N).take (i+1)=(aw N).take i++[h]:=by rw[Jh,g];rfl
  walk_at "go";refine⟨_,W++[(h,B.length)],rfl,E9 p1,by rw[Ii,p,w];rfl,by rw[Ii];rfl,?_,λe d=>?_⟩
  ·rw[Ii];refine Jy.mpr ⟨f,by simp,λa y b r z=>?_⟩;obtain⟨e,d,rfl⟩:=HQ.mp y;have r:b=B.length:=by simpa using r
   have:=G1 (j e d).2;omega
  ·rcases Ir.mp d with z | z
   ·exact⟨(j e z).1,ah (j e z).2⟩
   ·rw[HH.mp z];exact⟨p1.length_le,ak⟩
 ·obtain⟨x,W,rfl,p1,p,rfl,f,j⟩:=g;have l:W.map (·.1)=aw N:=by rw[p,HC,Jc]
  have C:W.length=N:=by have:=congrArg List.length l;rw[HC,aG]at this;exact this
  exact⟨aH (by rw[HC];omega),_,W,rfl,E9 p1,l,ak,f,λe d=>⟨(j e d).1,ah (j e d).2⟩⟩
theorem FT{A1:PHp}{q l j m:Nat}{W:WI}(P:L5 N ps)(f0:ps.length<=36)(hL:L.length<=6)(h0:A[0]?=some (.ro (ns.map .int)))(hq:A[q]?=some (.lst (aN ps)))(hl:A[l]?=some (.lst (L.map .int)))
 (H:aK A A1 j m W N (λ_=>[]) []) {Z x2 x5 x8 x9 d2 e0 n r:Option PV} :
 Wp (rm [some (.ref 0),Z,x2,some (.ref q),some (.ref l),x5,some (.ref j),some (.ref m),x8,x9,d2,e0,n,r]) A1
  (λo B=>∃y8 y9 s d x,o=.nx [some (.ref 0),Z,x2,some (.ref q),some (.ref l),x5,some (.ref j),some (.ref m),y8,y9,s,d,n,r]/\aK A B j m x N (t5 (laF ns ps) (saF ns ps) (λp=>wdOf ps N p L) ps) (ps.filter (K7 (laF ns ps) (saF ns ps) (λp=>wdOf ps N p L) L))) NoX:=by
 unfold rm;refine EK (λi σ B=>∃y8 y9 s d x,σ=[some (.ref 0),Z,x2,some (.ref q),some (.ref l),x5,some (.ref j),some (.ref m),y8,y9,s,d,n,r]/\aK A B j m x N (t5 (laF ns ps) (saF ns ps) (λp=>wdOf ps N p L) (ps.take i)) ((ps.take i).filter (K7 (laF ns ps) (saF ns ps) (λp=>wdOf ps N p L) L))) ?_;have h4:=ag H.pre hq;walk_at "go";refine⟨q,aN ps,rfl,⟨_,_,_,_,W,rfl,H⟩,λi σ B u=>?_,λi v σ B G u=>?_,λσ B u=>?_⟩
 ·obtain⟨_,_,_,_,_,_,f⟩:=u;exact J7 (ag f.pre hq)
 ·obtain⟨y8,y9,s,d,E,rfl,f⟩:=u;unfold aN at G;rw[Ij]at G;obtain⟨p,hp,rfl⟩:=Ip.mp G;have e3:=Io hp;obtain⟨g1,g2,g3⟩:=P.good p e3;have hi:i<ps.length:=(HY.mp hp).1;have tk:ps.take (i+1)=ps.take i++[p]:=by rw[Jh,hp];rfl
  have a4:=FR P.nd hp;have ex:xF ns ps p=mx (ns.getD (1+i%4) 0) (9+i):=by unfold xF;rw[a4]
  have e4:p.1∈aw N:=mem_hands.mpr g1;have a5:p.2∈aw N:=mem_hands.mpr g2;walk_at "go";unfold eE;have ec:(1:Int)+(i:Int)%4=((1+i%4:Nat):Int):=by omega
  have i1:atI [PV.int p.1,PV.int p.2] 0=some (.int p.1):=rfl;have i2:atI [PV.int p.1,PV.int p.2] 1=some (.int p.2):=rfl;walk_at "go";rw[ec];refine w_eq (wW (ag f.pre h0) _) ?_;walk_at "go";refine w_eq (ce _ _ _) ?_;rw[←ex];refine db ?_;dsimp only[List.set];have a6:∀g,t5 (laF ns ps) (saF ns ps) (λp=>wdOf ps N p L) (ps.take (i+1)) g=t5 (laF ns ps) (saF ns ps) (λp=>wdOf ps N p L) (ps.take i) g++kJ (laF ns ps) (saF ns ps) (λp=>wdOf ps N p L) g p:=λg=>by
   unfold t5;rw[tk,LV];simp
  have c:(ps.take (i+1)).filter (K7 (laF ns ps) (saF ns ps) (λp=>wdOf ps N p L) L)=(ps.take i).filter (K7 (laF ns ps) (saF ns ps) (λp=>wdOf ps N p L) L)++(if K7 (laF ns ps) (saF ns ps) (λp=>wdOf ps N p L) L p=true then[p] else[]):=by
   rw[tk,Kk];congr 1;by_cases z:K7 (laF ns ps) (saF ns ps) (λp=>wdOf ps N p L) L p=true
   ·simp[z]
   ·simp[z]
  generalize e5:t5 (laF ns ps) (saF ns ps) (λp=>wdOf ps N p L) (ps.take i)=I at *;generalize e6:(ps.take i).filter (K7 (laF ns ps) (saF ns ps) (λp=>wdOf ps N p L) L)=D0 at *;have j1:D0.length<=36:=by
   rw[←e6];have:=Iz (K7 (laF ns ps) (saF ns ps) (λp=>wdOf ps N p L) L) (ps.take i);rw[Jb]at this;omega
  have a7:∀g,(I g).length<=36*7:=λg=>by
   rw[←e5];have h7:((ps.take i).flatMap (kJ (laF ns ps) (saF ns ps) (λp=>wdOf ps N p L) g)).length<=(ps.take i).length*7:=W3 _ λp _=>by
    unfold kJ;rw[Ie];have hw:(wdOf ps N p L).length<=L.length:=Kl _ _;have e1:(if p.1=g/\laF ns ps p=true then[kI p] else[]).length<=1:=by split<;>simp
    have e2:(if p.2=g/\saF ns ps p=true then(wdOf ps N p L).map (Z1 p) else[]).length<=6:=by
     split
     ·rw[HC];omega
     ·simp
    exact Nat.add_le_add e1 e2
   refine Ih h7 (MT _ ?_);rw[Jb];omega
  refine cI (ac (Q:=λo B'=>o=.nx [some (.ref 0),Z,x2,some (.ref q),some (.ref l),x5,some (.ref j),some (.ref m),some (.int i),some (pv p),some (.int (xF ns ps p)),d,n,r]/\aK A B' j m E N (λg=>I g++(if p.1=g/\laF ns ps p=true then[kI p] else[])) D0) ?_ λo B1 u=>?_)
  ·unfold laF;walk_at "go";refine⟨λJ=>?_,λJ=>?_⟩
   ·have O:0<xF ns ps p%7:=by simpa using J
    obtain⟨a,ha,G⟩:=mB (W:=E) (h:=p.1) (by rw[f.wk];exact e4);have T:=(f.rows _ ha).2.2;have hd:=f.dict;refine eD (df (eh ?_));have a9:(I p.1).length<LIM:=Q7 (by have:=a7 p.1;omega);unfold pv;walk_at "go";refine⟨_,_,_,_,rfl,rfl,hd,G,_,_,rfl,T,?_⟩;walk_at "go";refine⟨rfl,(f.app ha (kI p)).ext (λg=>?_) rfl⟩;show(if g=p.1 then I g++[kI p] else I g)=_;by_cases z:g=p.1
    ·rw[if_pos z,if_pos ⟨z.symm,decide_eq_true O⟩]
    ·rw[if_neg z,if_neg λy=>z y.1.symm,IA]
   ·have O:¬0<xF ns ps p%7:=by simpa using J
    walk_at "go";refine⟨rfl,f.ext (λg=>?_) rfl⟩;rw[if_neg λy=>O (of_decide_eq_true y.2),IA]
  ·obtain⟨rfl,U⟩:=u;dsimp only;clear f;generalize b0:(λg=>I g++(if p.1=g/\laF ns ps p=true then[kI p] else[]))=R1 at U;have f5:(R1 p.2).length<=36*7:=by
    rw[←b0];show(I p.2++(if p.1=p.2/\_ then _ else _)).length<=_;rw[if_neg λy=>g3 y.1,IA];exact a7 _
   have w:∀g,t5 (laF ns ps) (saF ns ps) (λp=>wdOf ps N p L) (ps.take (i+1)) g=R1 g++(if p.2=g/\saF ns ps p=true then(wdOf ps N p L).map (Z1 p) else[]):=λg=>by
    rw[a6,←b0];unfold kJ;rw[NS]
   walk_at "go";refine⟨λJ=>?_,λJ=>?_⟩
   ·have Y:saF ns ps p=true:=J;have k1:(wdOf ps N p L).length<=L.length:=Kl _ _;refine cI (dg (dU ?_));walk_at "go";refine ac (mz P (ag U.pre hq) g2 (ag U.pre hl) hL) λv B2 u=>?_;obtain⟨rfl,p2,hw⟩:=u;have H2:=U.mono p2;refine db ?_;dsimp only[List.set];refine cI (ac (Q:=λo B'=>o=.nx [some (.ref 0),Z,x2,some (.ref q),some (.ref l),x5,some (.ref j),some (.ref m),some (.int i),some (pv p),some (.int (xF ns ps p)),some (.ref B1.length),n,r]/\∃x,aK A B' j m x N (t5 (laF ns ps) (saF ns ps) (λp=>wdOf ps N p L) (ps.take (i+1))) D0/\B'[B1.length]?=some (.lst ((wdOf ps N p L).map (Z1 p)))) ?_ λo B3 u=>?_)
    ·obtain⟨a,ha,G⟩:=mB (W:=E) (h:=p.2) (by rw[U.wk];exact a5);have T:=(H2.rows _ ha).2.2;have hd:=H2.dict;have e9:(dW E).length<LIM:=Q7 (by unfold dW;rw[HC];have:=congrArg List.length U.wk;rw[HC,aG]at this;have:=P.hi;omega);refine FM (dM (eh ?_));unfold pv;walk_at "go";refine⟨_,_,_,_,rfl,rfl,hd,G,?_⟩;walk_at "go";refine ca T hw (aH (by rw[HC];show(R1 p.2).length+_<=_;omega)) ?_;walk_at "go";refine⟨_,_,_,rfl,rfl,ah hd,e9,rfl,jd E p.2 B2.length,(H2.put a5 (l:=(wdOf ps N p L).map (Z1 p)) (HN _ _) ak (HG _)).ext (λg=>?_) rfl,(D4 (kH hw hd nofun)).trans (ah hw)⟩;rw[w];by_cases z:g=p.2
     ·rw[if_pos z,if_pos ⟨z.symm,Y⟩]
     ·rw[if_neg z,if_neg λy=>z y.1.symm,IA]
    ·obtain⟨rfl,x,H3,k4⟩:=u;dsimp only;have k5:=ag H3.pre hl;have k6:=H3.done;have a9:(aN D0).length<LIM:=Q7 (by unfold aN;rw[HC];omega);have b1:∀b,K7 (laF ns ps) (saF ns ps) (λp=>wdOf ps N p L) L p=b->b=false->aK A B3 j m x N (t5 (laF ns ps) (saF ns ps) (λp=>wdOf ps N p L) (ps.take (i+1))) ((ps.take (i+1)).filter (K7 (laF ns ps) (saF ns ps) (λp=>wdOf ps N p L) L)):=λb h1 C=>by
      rw[c,if_neg (by rw[h1,C];simp),IA];exact H3
     walk_at "go";refine⟨λh1=>?_,λh1=>⟨λz=>(nomatch z),λ_=>?_⟩⟩
     ·have D:laF ns ps p=true:=h1;walk_at "go";refine⟨λC=>?_,λC=>?_⟩
      ·have C:(wdOf ps N p L).length=L.length:=by have h3:((wdOf ps N p L).length:Int)=L.length:=(by simpa using C);omega
       walk_at "go";refine⟨_,_,_,_,x,rfl,?_⟩;rw[c,if_pos (by unfold K7;rw[D,Y];simpa using C)];exact H3.don p
      ·have C:¬(wdOf ps N p L).length=L.length:=by have h3:¬((wdOf ps N p L).length:Int)=L.length:=(by simpa using C);omega
       walk_at "go";exact⟨_,_,_,_,x,rfl,b1 _ rfl (by unfold K7;rw[D,Y];simpa using C)⟩
     ·have D:laF ns ps p=false:=h1;walk_at "go";exact⟨_,_,_,_,x,rfl,b1 _ rfl (by unfold K7;rw[D];rfl)⟩
   ·have Y:¬saF ns ps p=true:=by unfold saF;rw[show decide (xF ns ps p / 7%3 > 0)=false from J];simp
    walk_at "go";refine⟨_,_,_,_,E,rfl,U.ext (λg=>?_) ?_⟩
    ·rw[w,if_neg λy=>Y y.2,IA]
    ·rw[c,if_neg,IA];unfold K7;simp[Y]
 ·obtain⟨y8,y9,s,d,E,rfl,f⟩:=u;have e:(aN ps).length=ps.length:=by unfold aN;rw[HC]
  rw[e,Jc]at f;exact⟨_,_,_,_,E,rfl,f⟩
end
theorem FU{A:PHp}{Q:PV->PHp->Prop}{E:XP}{σ:PSt}{e f:ED}(h:Wp (e σ) A (λx A1=>∃n g,x=.ref n/\A1[n]?=some (.lst g)/\Wp (f σ) A1 (λv c=>∃(k:Nat)(l m:List PV),v=.ref k/\c[n]?=some (.lst l)/\c[k]?=some (.lst m)/\l.length+m.length<=LIM/\Q .non (c.set n (.lst (l++m)))) E) E):Wp (py e f σ) A Q E:=
 C1 (ac h λx A1 d=>by
  obtain⟨n,g,i,j,o⟩:=d;subst i;exact C1 (Y2 j (C1 (ac o λv c d=>by
   obtain⟨k,l,m,p,r,s,b,q⟩:=d;subst p;exact C1 (Y2 r (C1 (Y2 s (D6 b (C1 (w_eq (a:=()) rfl q))))))))))
noncomputable def rowV(r:Int×PV):PV:=.tup [.int r.1,r.2]
abbrev EH:=List (Int×Nat×Nat)
noncomputable def eW(E:EH):WI:=E.map λe=>(e.1,e.2.1)
structure aT(B:PHp)(d:Nat)(E:EH)(N:Nat)(R:Int->List (Int×PV)):Prop where
 dict:B[d]?=some (.dI (dW (eW E)))
 ek:E.map (·.1)=aw N
 obs:∀e∈E,B[e.2.1]?=some (.ins 4 [(16,.ref e.2.2)])/\B[e.2.2]?=some (.lst ((R e.1).map rowV))
theorem wX(E:EH):(eW E).map (·.1)=E.map (·.1):=by unfold eW;rw[HV];rfl
section
variable{A B:PHp}{c:cc}{S:LS}{N:Nat}{R:Int->List (Int×PV)}
theorem FV{o J:Nat}{W:WI}{D:List (Int×Int)}{L:PHp}(hN:N<=6)(O:∀h,(R h).length<=5000)(H:aK L A o J W N (λh=>(R h).map rowV) D){Q T U Y Z:Option PV}{xs:List (Option PV)}:Wp (rp (Q::T::some (.int N)::U::Y::Z::some (.ref o)::xs)) A
 (λv l=>∃(n:Nat)(E:EH),v=.ref n/\A<+:l/\E.map (·.1)=aw N/\l[n]?=some (.lst ((eW E).map λe=>.tup [.int e.1,.ref e.2]))/\∀e∈E,l[e.2.1]?=some (.ins 4 [(16,.ref e.2.2)])/\l[e.2.2]?=some (.lst ((R e.1).map rowV))) NoX:=by
 unfold rp;refine mh ?_;walk_at "go";refine⟨(aw N).map .int,N,λi b m B=>∃(x:Option PV)(E:EH),m=[x,some (.ref o)]/\A<+:B/\E.map (·.1)=(aw N).take i/\b=((eW E).map λe=>PV.tup [.int e.1,.ref e.2])/\∀e∈E,B[e.2.1]?=some (.ins 4 [(16,.ref e.2.2)])/\B[e.2.2]?=some (.lst ((R e.1).map rowV)),?_,by simp[aG],⟨_,[],rfl,Iy _,by simp,rfl,λe g=>nomatch g⟩,λi b m B d=>?_,λi v b m B y d=>?_,λb m B d=>?_⟩
 ·simp
 ·rw[p9,v7]
 ·obtain⟨x,E,rfl,p1,p,rfl,f⟩:=d;rw[Ij]at y;obtain⟨h,d,rfl⟩:=Ip.mp y;have tk:(aw N).take (i+1)=(aw N).take i++[h]:=by rw[Jh,d];rfl
  have C:=H.mono p1;obtain⟨a,ha,q⟩:=mB (W:=W) (h:=h) (by rw[H.wk];exact Io d);have r:=(C.rows _ ha).2.2;have hd:=C.dict;walk_at "go";refine eh ?_;walk_at "go";refine⟨_,_,_,_,rfl,rfl,hd,q,?_⟩;walk_at "go";unfold bf;walk_at "fn";have G:(B++[PO.ins 4 []])[a]?=some (.lst ((R h).map rowV)):=ah r;have s:(B++[PO.ins 4 []])[B.length]?=some (.ins 4 []):=ak;have u:B<+:B++[PO.ins 4 []]:=HN _ _;have w:(B++[PO.ins 4 []]).length=B.length+1:=by simp
  generalize B++[PO.ins 4 []]=I at *;have a3:=O h;walk_at "go";refine⟨_,E++[(h,B.length,I.length)],rfl,pre_set (p1.trans (u.trans (HN _ _))) p1.length_le,by rw[Ii,p,tk];rfl,by unfold eW;rw[Ii,Ii];rfl,λe g=>?_⟩;rcases Ir.mp g with z | z
  ·have k1:=G1 (f e z).1;have k2:=G1 (f e z).2;exact⟨(D4 (by omega)).trans (ah (ag u (f e z).1)),(D4 (by omega)).trans (ah (ag u (f e z).2))⟩
  ·rw[HH.mp z];exact⟨aM (ah s),(D4 (by show I.length≠B.length;omega)).trans ak⟩
 ·obtain⟨x,E,rfl,p1,p,rfl,f⟩:=d;have j:E.map (·.1)=aw N:=by rw[p,HC,Jc]
  have a4:E.length=N:=by have:=congrArg List.length j;rw[HC,aG]at this;exact this
  exact⟨aH (by rw[HC];unfold eW;rw[HC];omega),_,E,rfl,E9 p1,j,ak,λe g=>⟨ah (f e g).1,ah (f e g).2⟩⟩
noncomputable def gn(R:Int->List (Int×PV))(t h:Int):List PV:=((R h).filter λr=>decide (r.1=t)).map (·.2)
theorem gP(H:be A c S){a b:Nat}{l:List (Int×PV)}(j:l.length<=5000)(m:A[a]?=some (.ins 4 [(16,.ref b)]))(e:A[b]?=some (.lst (l.map rowV))) :
 Wp (P8 [.ref a,.ref c.G]) A (λv g=>v=.ref A.length/\g=A++[.lst ((l.filter λr=>decide (r.1=S.now)).map (·.2))]) NoX:=by
 unfold P8;have n:=H.ob;walk_at "fn";walk_at "go";unfold k9;refine N3 (l:=l.map rowV) (λf=>∃x y,f=[x,y,some (.ref c.G)]) (λv=>match v with | .tup [.int t,_]=>decide (t=S.now) | _=>false) (λv=>match v with | .tup [_,d]=>d | _=>.non) ?_;walk_at "go";refine⟨_,N8 e,HG _,aH (by rw[HC];omega),⟨_,_,rfl⟩,λi=>N9 e i,?_,rfl,?_⟩
 ·rintro v f h ⟨x,y,rfl⟩;obtain⟨r,o,rfl⟩:=HQ.mp h;unfold rowV;walk_at "go";refine⟨rfl,⟨_,_,rfl⟩,?_⟩;walk_at "go";unfold bb;walk_at "fn";walk_at "go";refine⟨rfl,rfl,λ_=>?_⟩;walk_at "go";exact⟨rfl,rfl⟩
 ·congr 3;rw[Kv,HV];rfl
noncomputable def gp(R:Int->List (Int×PV))(t:Int)(l:List Int):List PV:=l.flatMap λh=>(gn R t h).map λd=>.tup [.int h,d]
theorem gQ(H:be A c S){d:Nat}{E:EH}(f:aT A d E c.N R)(m:∀h,(R h).length<=5000){h:Int}(g:h∈aw c.N){u:Option PV}:Wp (U1 [some (.ref c.G),some (.ref d),u,some (.int h)]) A
 (λv A'=>∃n,v=.ref n/\A<+:A'/\A.length<=n/\A'[n]?=some (.lst ((gn R S.now h).map λd=>.tup [.int h,d]))) NoX:=by
 unfold U1;obtain⟨a,w,j⟩:=mB (W:=eW E) (h:=h) (by rw[wX,f.ek];exact g);obtain⟨e,y,b⟩:=HQ.mp w;have z:e.1=h:=congrArg Prod.fst b;have C:e.2.1=a:=congrArg Prod.snd b;obtain⟨o,p⟩:=f.obs e y;rw[C]at o;rw[z]at p;have D:=f.dict;refine N3 (l:=gn R S.now h) (λq=>∃x,q=[x,some (.int h)]) (λ_=>true) (λv=>.tup [.int h,v]) ?_;refine dV (gF (eh ?_));walk_at "go";refine⟨_,_,_,_,rfl,rfl,D,j,?_⟩;walk_at "go";refine ac (gP H (m h) o p) λv I g=>?_;obtain⟨rfl,rfl⟩:=g;have r:(A++[PO.lst (gn R S.now h)])[A.length]?=some (.lst (gn R S.now h)):=ak;have s:(gn R S.now h).length<=5000:=by
  unfold gn;rw[HC];exact Ih (Iz _ _) (m h)
 walk_at "go";refine⟨_,N8 r,HG _,aH (by omega),⟨_,rfl⟩,λi=>N9 r i,?_,?_⟩
 ·rintro v q J ⟨x,rfl⟩;walk_at "go";refine⟨rfl,⟨_,rfl⟩,?_⟩;walk_at "go";refine⟨rfl,rfl,λ_=>?_⟩;walk_at "go";exact⟨rfl,rfl⟩
 ·refine⟨_,rfl,E9 (HN _ _),by simp,?_⟩;rw[ak,IU.mpr (by simp)]
theorem eG(H:be A c S){d:Nat}{E:EH}(g:aT A d E c.N R)(l:∀h,(R h).length<=1000):Wp (O3 [.ref c.G,.ref d]) A
 (λv A'=>v=.ref A.length/\A<+:A'/\A'[A.length]?=some (.lst (gp R S.now (aw c.N)))) NoX:=by
 unfold O3;walk_at "fn";walk_at "go";have D:c.N<=6:=by have:=H.pg.hi;omega
 have m:Wp (U2 [some (.ref c.G),some (.ref d),some (.ref A.length),none]) (A++[.lst []]) (λo B=>∃b,o=.nx [some (.ref c.G),some (.ref d),some (.ref A.length),b]/\A<+:B/\B[A.length]?=some (.lst (gp R S.now (aw c.N)))) NoX:=by
  unfold U2;refine oq (λi p B=>∃b,p=[some (.ref c.G),some (.ref d),some (.ref A.length),b]/\A<+:B/\B[A.length]?=some (.lst (gp R S.now ((aw c.N).take i)))) ?_;have I:=H.ob;have J:=H.plan.ob;have L:=H.plan.web.ob;walk_at "go";refine⟨0,c.N,rfl,⟨_,rfl,HN _ _,ak⟩,?_,?_⟩
  ·rintro i p B w ⟨b,rfl,p1,a⟩;have j:(aw c.N)[i]?=some (i:Int):=by unfold aw;simp[w]
   have x:(aw c.N).take (i+1)=(aw c.N).take i++[(i:Int)]:=by rw[Jh,j];rfl
   have f:(gp R S.now ((aw c.N).take i)).length<=((aw c.N).take i).length*1000:=W3 _ λh _=>by
    rw[HC];unfold gn;rw[HC];exact Ih (Iz _ _) (l h)
   have q:(gp R S.now ((aw c.N).take i)).length<=6*1000:=Ih f (MT _ (by rw[Jb,aG];omega));have y:(gn R S.now (i:Int)).length<=1000:=by unfold gn;rw[HC];exact Ih (Iz _ _) (l _)
   have z:=H.mono p1;have r:aT B d E c.N R:=⟨ag p1 g.dict,g.ek,λe u=>⟨ag p1 (g.obs e u).1,ag p1 (g.obs e u).2⟩⟩;walk_at "go";unfold bE;simp only[OT];refine eD (FU ?_);walk_at "go";refine ac (gQ z r (λh=>Ih (l h) (by omega)) (Io j)) λv O s=>?_;obtain⟨n,rfl,p2,Q,C⟩:=s;refine⟨n,_,_,rfl,ag p2 a,C,aH (by rw[HC];omega),_,rfl,pre_set (p1.trans p2) (HG _),?_⟩;rw[aM (ag p2 a),x];unfold gp;rw[LV];simp
  ·rintro p B ⟨b,rfl,p1,a⟩;rw[JW (by rw[aG];exact HG _)]at a;exact⟨_,rfl,p1,a⟩
 refine ac m λo B j=>?_;obtain⟨b,rfl,p1,a⟩:=j;walk_at "go";exact⟨rfl,p1,a⟩
end
section
variable{A B:PHp}{c:cc}{S:LS}{R:Int->List (Int×PV)}
theorem iG(H:be A c S){p:Int×Int}(a:p∈c.ps){h:Int}(b:p.1=h):Wp (W2 [.ref c.P,.int h,j9 p]) A (λv d=>v=.bl true/\d=A) NoX:=by
 unfold W2;walk_at "fn";walk_at "gb";refine ac (wB H p) λv g e=>?_;obtain⟨rfl,rfl⟩:=e;rw[decide_eq_true a];have f:j9 p=.tup [.str "lay",.tup [.int p.1,.int p.2]]:=rfl;rw[f];walk_at "gb";simp[b]
theorem iH(H:be A c S){p:Int×Int}{ch:List Int}(a:p∈c.ps/\s8 c.N c.ps c.L ch/\ch.head?=some p.2)(d:ch.length<100){h:Int}(e:p.2=h):Wp (W2 [.ref c.P,.int h,d8 p ch]) A (λv A'=>v=.bl true/\A<+:A') NoX:=by
 unfold W2;walk_at "fn";walk_at "gb";refine ac (wD H p d) λv j f=>?_;obtain⟨p1,b,rfl,g⟩:=f;rw[g.mpr a];have i:d8 p ch=.tup [.str "say",.tup [.int p.1,.int p.2],.tup (ch.map .int)]:=rfl;rw[i];walk_at "gb";simp[e];exact p1
theorem iI(H:be A c S){p:Int×Int}(d:p∈c.ps)(e:W7 S p=none):Wp (J1 [.ref c.G,j9 p]) A (λv b=>v=.non/\be b c (gm S p)/\de c S (gm S p) A b) NoX:=by
 unfold J1;have j:=H.ob;walk_at "fn";refine jb ?_;walk_at "gb";refine cn (fW H p) (λv f a=>?_) λk v f a=>?_
 ·obtain⟨rfl,_,g,st⟩:=a;exact⟨trivial,g,st⟩
 ·obtain⟨h,i,_⟩:=a;exact absurd (by rw[h];unfold kG;rw[if_pos d,e];rfl) i
theorem FW(p:Int×Int)(ch:List Int)(h:l7 c S p ch≠0):l7 c S p ch∈[7,8,9,12,13,14,15,16]/\gu (l7 c S p ch) 7=true:=by
 have:l7 c S p ch=0\/l7 c S p ch=12\/l7 c S p ch=14\/l7 c S p ch=15\/l7 c S p ch=16:=by
  unfold l7;split
  ·split
   ·split
    ·simp
    ·split<;>simp
   ·simp
  ·simp
 rcases this with z | z | z | z | z
 ·exact absurd z h
 all_goals rw[z];decide
theorem iJ(H:be A c S)(p:Int×Int){ch:List Int}(g:ch.length<100)(h:S.m<2000):Wp (J1 [.ref c.G,d8 p ch]) A (λv d=>v=.non/\((l7 c S p ch=0/\∃a,be d c (Z0 S p ch a)/\de c S (Z0 S p ch a) A d)\/(l7 c S p ch≠0/\A<+:d))) NoX:=by
 unfold J1;have o:=H.ob;walk_at "fn";refine jb ?_;walk_at "gb";refine cn (fX H p g h) (λv i e=>?_) λk v i e=>?_
 ·obtain⟨rfl,b,a,j,st⟩:=e;exact⟨trivial,.inl ⟨b,a,j,st⟩⟩
 ·obtain⟨f,b,_,p1⟩:=e;rw[f]at b;obtain⟨l,n⟩:=FW p ch b;rw[f];refine⟨l,EL n ?_⟩;walk_at "gb";exact⟨trivial,.inr ⟨b,p1⟩⟩
theorem gb(H:be A c S){r:Nat}{E:EH}(O:aT A r E c.N R)(Q:∀h,(R h).length<=1000){D:List (Int×(Int×Int))}(T:gp R S.now (aw c.N)=D.map λe=>.tup [.int e.1,j9 e.2])(U:∀e∈D,e.2∈c.ps/\e.2.1=e.1)(Y:(D.map (·.2)).Nodup)(Z:∀e∈D,W7 S e.2=none) :
 Wp (R9 [.ref c.G,.ref r]) A (λv y=>v=.non/\be y c { S with lays:=S.lays++D.map λe=>(e.2,S.now) }/\de c S { S with lays:=S.lays++D.map λe=>(e.2,S.now) } A y) NoX:=by
 unfold R9;walk_at "fn";unfold bO;refine mf (λi o B=>∃s u,o=[some (.ref c.G),some (.ref r),s,u]/\B[A.length]?=some (.lst (D.map λe=>.tup [.int e.1,j9 e.2]))/\be B c { S with lays:=S.lays++(D.take i).map λe=>(e.2,S.now) }/\de c S { S with lays:=S.lays++(D.take i).map λe=>(e.2,S.now) } A B) ?_;refine dV (dU ?_);walk_at "go";refine ac (eG H O Q) λv A1 b=>?_;obtain⟨rfl,p1,C⟩:=b;rw[T]at C;walk_at "go";have l:({ S with lays:=S.lays++(D.take 0).map λe=>(e.2,S.now) }:LS)=S:=by simp
 refine⟨A.length,D.map λe=>PV.tup [.int e.1,j9 e.2],rfl,⟨_,_,rfl,C,by rw[l];exact H.mono p1,by rw[l];exact .pre p1⟩,λi o B b=>?_,λi v o B I b=>?_,λo B b=>?_⟩
 ·obtain⟨_,_,_,p,_⟩:=b;exact J7 p
 ·obtain⟨s,u,rfl,p,g,st⟩:=b;rw[Ij]at I;obtain⟨e,q,rfl⟩:=Ip.mp I;have m:=Io q;have tk:D.take (i+1)=D.take i++[e]:=by rw[Jh,q];rfl
  obtain⟨J,h2⟩:=U e m;have w:W7 { S with lays:=S.lays++(D.take i).map λe=>(e.2,S.now) } e.2=none:=by
   show look (S.lays++(D.take i).map λe=>(e.2,S.now)) e.2=none;rw[wI,show look S.lays e.2=none from Z e m,Option.none_or,look_none,HV];intro z;obtain⟨f,hf,n⟩:=HQ.mp z;obtain⟨j,hj,rfl⟩:=Jp.mp hf;rw[Jb]at hj;rw[NU]at n;have hi:=(HY.mp q).1;have x:D[i]=e:=(HY.mp q).2;have:=JF.mp Y j i (by rw[HC];omega) (by rw[HC];exact hi) (by omega);rw[LQ,LQ,x]at this;exact this n
  have hG:=g.ob;walk_at "go";unfold bN;walk_at "go";refine ac (iG g J h2) λv B1 b=>?_;obtain⟨rfl,rfl⟩:=b;refine⟨_,rfl,λ_=>?_,λz=>(nomatch z)⟩;walk_at "go";refine ac (iI g J w) λv B2 b=>?_;obtain⟨rfl,L,d⟩:=b;have eS:gm { S with lays:=S.lays++(D.take i).map λe=>(e.2,S.now) } e.2={ S with lays:=S.lays++(D.take (i+1)).map λe=>(e.2,S.now) }:=by
   unfold gm;rw[tk,Ii,←NS];rfl
  rw[eS]at L d;refine⟨_,_,rfl,d.keep _ _ p λz=>?_,L,st.trans d⟩;have:=H.dlt A.length (by unfold dom;simp only[HK];simp[show A.length∈own c S from z]);omega
 ·obtain⟨s,u,rfl,p,g,st⟩:=b;rw[HC,Jc]at g st;exact⟨trivial,g,st⟩
structure mD(c:cc)(S:LS)(la:Int×Int->Bool)(X:List (Int×(Int×Int)×List Int)):Prop where
 fit:∀p,∀r∈rowsAt S p,r.2≠[]/\la p=true/\∃h,(h,p,r.2)∈X
 has:∀e∈X,la e.2.1=true->∃r∈rowsAt S e.2.1,r.2=e.2.2
 ms:S.m<=X.length
theorem gc(H:be A c S){kd:Nat}{E:EH}(hE:aT A kd E c.N R)(hR:∀h,(R h).length<=1000){la:Int×Int->Bool}{D:List (Int×(Int×Int)×List Int)}(c4:D.length<2000)
 (hD:gp R S.now (aw c.N)=D.map λe=>.tup [.int e.1,d8 e.2.1 e.2.2]) (hp:∀e∈D,(e.2.1∈c.ps/\s8 c.N c.ps c.L e.2.2/\e.2.2.head?=some e.2.1.2)/\e.2.1.2=e.1/\e.2.2.length<=6)
 (hv:∀b:LS,b.now=S.now->b.lays=S.lays->∀e∈D,l7 c b e.2.1 e.2.2=if la e.2.1=true then 0 else 14) (hs:S.says=[]) (hm:S.m=0) :
 Wp (R9 [.ref c.G,.ref kd]) A (λv A'=>v=.non/\∃b,be A' c b/\de c S b A A'/\b.lays=S.lays/\mD c b la D) NoX:=by
 unfold R9;walk_at "fn";unfold bO;refine mf (λi σ B=>∃y2 y3 b,σ=[some (.ref c.G),some (.ref kd),y2,y3]/\B[A.length]?=some (.lst (D.map λe=>.tup [.int e.1,d8 e.2.1 e.2.2]))/\A.length∉own c b/\be B c b/\de c S b A B/\b.lays=S.lays/\b.now=S.now/\mD c b la (D.take i)) ?_;refine dV (dU ?_);walk_at "go";refine ac (eG H hE hR) λv A1 d=>?_;obtain⟨rfl,p1,hl⟩:=d;rw[hD]at hl;walk_at "go";have y:A.length∉own c S:=λz=>by
  have:=H.dlt A.length (by unfold dom;simp only[HK];simp[z]);omega
 have a9:∀p,rowsAt S p=[]:=λp=>by unfold rowsAt S3;rw[hs];rfl
 have C:mD c S la (D.take 0):=by
  refine⟨λp r g=>?_,λe I=>?_,by rw[hm];exact KU _⟩
  ·rw[a9]at g;cases g
  ·rw[List.take_zero]at I;cases I
 refine⟨A.length,D.map λe=>PV.tup [.int e.1,d8 e.2.1 e.2.2],rfl,⟨_,_,S,rfl,hl,y,H.mono p1,.pre p1,rfl,rfl,C⟩,λi σ B d=>?_,λi v σ B J d=>?_,λσ B d=>?_⟩
 ·obtain⟨_,_,_,_,hB,_⟩:=d;exact J7 hB
 ·obtain⟨y2,y3,n,rfl,hB,l,x,st,O,e2,SD⟩:=d;rw[Ij]at J;obtain⟨e,I,rfl⟩:=Ip.mp J;have Q:=Io I;have o:D.take (i+1)=D.take i++[e]:=by rw[Jh,I];rfl
  obtain⟨h1,h2,h3⟩:=hp e Q;have b0:n.m<2000:=by have:=SD.ms;rw[Jb]at this;omega
  have T:=hv n e2 O e Q;have hG:=x.ob;walk_at "go";unfold bN;walk_at "go";refine ac (iH x h1 (by omega) h2) λv B1 d=>?_;obtain⟨rfl,p2⟩:=d;have H1:=x.mono p2;have hG:=H1.ob;have s:=ag p2 hB;refine⟨_,rfl,λ_=>?_,λz=>(nomatch z)⟩;walk_at "go";refine ac (iJ H1 e.2.1 (ch:=e.2.2) (by omega) b0) λv B2 d=>?_;obtain⟨rfl,d⟩:=d;rcases d with⟨h0,a,H2,u⟩ | ⟨h0,p3⟩
  ·have w:la e.2.1=true:=by
    by_cases z:la e.2.1=true
    ·exact z
    ·rw[T,if_neg z]at h0;cases h0
   have sr:=FE (p:=e.2.1) (ch:=e.2.2) (a:=a) x.kn;refine⟨_,_,Z0 n e.2.1 e.2.2 a,rfl,u.keep _ _ s l,rJ u (G1 s) l,H2,(st.trans (.pre p2)).trans u,O,e2,⟨λp r g=>?_,λf U j=>?_,?_⟩⟩
   ·rw[sr]at g;by_cases z:p=e.2.1
    ·rw[if_pos z]at g;rcases Ir.mp g with q | q
     ·obtain⟨Y,Z,h,k3⟩:=SD.fit p r q;exact⟨Y,Z,h,by rw[o];exact Jo _ k3⟩
     ·rw[HH.mp q,z];exact⟨h1.2.1.1.1,w,e.1,by rw[o];simp⟩
    ·rw[if_neg z]at g;obtain⟨Y,Z,h,k3⟩:=SD.fit p r g;exact⟨Y,Z,h,by rw[o];exact Jo _ k3⟩
   ·rw[sr];rw[o]at U;rcases Ir.mp U with q | q
    ·obtain⟨r,g,a1⟩:=SD.has f q j;by_cases z:f.2.1=e.2.1
     ·rw[if_pos z];exact⟨r,Jo _ g,a1⟩
     ·rw[if_neg z];exact⟨r,g,a1⟩
    ·rw[HH.mp q,if_pos rfl];exact⟨(n.now,e.2.2),by simp,rfl⟩
   ·show n.m+1<=_;have:=SD.ms;rw[o,Ie,MD];omega
  ·have w:¬la e.2.1=true:=λz=>h0 (by rw[T,if_pos z]);refine⟨_,_,n,rfl,ag p3 s,l,H1.mono p3,st.trans (.pre (p2.trans p3)),O,e2,⟨λp r g=>?_,λf U j=>?_,?_⟩⟩
   ·obtain⟨Y,Z,h,k3⟩:=SD.fit p r g;exact⟨Y,Z,h,by rw[o];exact Jo _ k3⟩
   ·rw[o]at U;rcases Ir.mp U with q | q
    ·exact SD.has f q j
    ·rw[HH.mp q]at j;exact absurd j w
   ·have:=SD.ms;rw[o,Ie,MD];omega
 ·obtain⟨y2,y3,n,rfl,hB,l,x,st,O,e2,SD⟩:=d;rw[HC,Jc]at SD;exact⟨trivial,n,x,st,O,SD⟩
end
theorem FX(a b:Int×Int)(c:gG a b=false)(d:gG b a=false):a=b:=jY (kX _ _ c d)
theorem FY{a:Type}[DecidableEq a]{l m:List a}(b:l.Nodup)(c:m.Nodup)(h:∀x,x∈l↔x∈m):l.Perm m:=(List.perm_ext_iff_of_nodup b c).mpr h
section
variable{la sa:Int×Int->Bool}{wd:Int×Int->List (List Int)}{ps:List (Int×Int)}{N:Nat}{L:List Int}
noncomputable def S4(la sa:Int×Int->Bool)(wd:Int×Int->List (List Int))(ps:List (Int×Int))(h:Int):List (Int×PV):=ps.flatMap λp=>(if p.1=h/\la p=true then[(1,j9 p)] else[])++(if p.2=h/\sa p=true then(wd p).map (λw=>(2,d8 p w)) else[])
theorem FZ(h:Int):t5 la sa wd ps h=(S4 la sa wd ps h).map rowV:=by
 unfold t5 S4;rw[Jx];congr 1;funext p;unfold kJ;rw[Ii];congr 1
 ·split<;>rfl
 ·split
  ·rw[HV];rfl
  ·rfl
theorem wY(a:ps.length<=36)(b:∀p∈ps,(wd p).length<=6)(h:Int):(S4 la sa wd ps h).length<=1000:=by
 have:(S4 la sa wd ps h).length<=ps.length*7:=W3 _ λp c=>by
  rw[Ie];have d:(if p.1=h/\la p=true then[((1:Int),j9 p)] else[]).length<=1:=by split<;>simp
  have e:(if p.2=h/\sa p=true then(wd p).map (λw=>((2:Int),d8 p w)) else[]).length<=6:=by
   split
   ·rw[HC];exact b p c
   ·simp
  exact Nat.add_le_add d e
 omega
noncomputable def D1(la:Int×Int->Bool)(ps:List (Int×Int))(l:List Int):List (Int×(Int×Int)):=l.flatMap λh=>ps.flatMap λp=>if p.1=h/\la p=true then[(h,p)] else[]
noncomputable def D2(sa:Int×Int->Bool)(wd:Int×Int->List (List Int))(ps:List (Int×Int))(l:List Int):List (Int×(Int×Int)×List Int):=l.flatMap λh=>ps.flatMap λp=>if p.2=h/\sa p=true then(wd p).map (λw=>(h,p,w)) else[]
theorem Ga(l:List Int):gp (S4 la sa wd ps) 1 l=(D1 la ps l).map λe=>.tup [.int e.1,j9 e.2]:=by
 unfold gp D1;rw[Jx];congr 1;funext h;unfold gn S4;rw[PF,Jx,Jx,Jx];congr 1;funext p;rw[Kk];have a:((if p.2=h/\sa p=true then(wd p).map (λw=>((2:Int),d8 p w)) else[]).filter λr=>decide (r.1=1))=[]:=by
  split
  ·rw[OH];intro r b;obtain⟨w,_,rfl⟩:=HQ.mp b;simp
  ·rfl
 rw[a,IA];split<;>simp
theorem Gb(l:List Int):gp (S4 la sa wd ps) 2 l=(D2 sa wd ps l).map λe=>.tup [.int e.1,d8 e.2.1 e.2.2]:=by
 unfold gp D2;rw[Jx];congr 1;funext h;unfold gn S4;rw[PF,Jx,Jx,Jx];congr 1;funext p;rw[Kk];have a:((if p.1=h/\la p=true then[((1:Int),j9 p)] else[]).filter λr=>decide (r.1=2))=[]:=by
  split<;>simp
 rw[a,Ni];split
 ·rw[IU.mpr λr b=>?_,HV,HV,HV]
  ·rfl
  ·obtain⟨w,_,rfl⟩:=HQ.mp b;simp
 ·simp
theorem mem_D1{l:List Int}{e:Int×(Int×Int)}:e∈D1 la ps l↔e.1∈l/\e.2∈ps/\e.2.1=e.1/\la e.2=true:=by
 unfold D1;rw[Kn];constructor
 ·rintro⟨h,b,a⟩;obtain⟨p,c,a⟩:=Kn.mp a;by_cases z:p.1=h/\la p=true
  ·rw[if_pos z]at a;rw[HH.mp a];exact⟨b,c,z.1,z.2⟩
  ·rw[if_neg z]at a;cases a
 ·rintro⟨d,f,g,i⟩;exact⟨e.1,d,Kn.mpr ⟨e.2,f,by rw[if_pos ⟨g,i⟩];simp⟩⟩
theorem mem_D2{l:List Int}{e:Int×(Int×Int)×List Int}:e∈D2 sa wd ps l↔e.1∈l/\e.2.1∈ps/\e.2.1.2=e.1/\sa e.2.1=true/\e.2.2∈wd e.2.1:=by
 unfold D2;rw[Kn];constructor
 ·rintro⟨h,b,a⟩;obtain⟨p,c,a⟩:=Kn.mp a;by_cases z:p.2=h/\sa p=true
  ·rw[if_pos z]at a;obtain⟨w,d,rfl⟩:=HQ.mp a;exact⟨b,c,z.1,z.2,d⟩
  ·rw[if_neg z]at a;cases a
 ·rintro⟨f,g,i,j,m⟩;exact⟨e.1,f,Kn.mpr ⟨e.2.1,g,by rw[if_pos ⟨i,j⟩];exact HQ.mpr ⟨e.2.2,m,rfl⟩⟩⟩
theorem wZ(d:ps.Nodup){l:List Int}(f:l.Nodup):((D1 la ps l).map (·.2)).Nodup:=by
 have e:(D1 la ps l).map (·.2)=l.flatMap λh=>ps.filter λp=>decide (p.1=h/\la p=true):=by
  unfold D1;rw[Jx];congr 1;funext h;rw[Jx];induction ps with
  | nil=>rfl
  | cons p r ih=>
    rw[List.flatMap_cons,ih (Jt.mp d).2,List.filter_cons];by_cases z:p.1=h/\la p=true
    ·rw[if_pos z,if_pos (decide_eq_true z)];rfl
    ·rw[if_neg z,if_neg (by simpa using z)];rfl
 rw[e];refine List.pairwise_flatMap.mpr ⟨λh _=>d.filter _,f.imp λ{a b} c x g y i z=>?_⟩;have j:=of_decide_eq_true (IL.mp g).2;have m:=of_decide_eq_true (IL.mp i).2;subst z;exact c (j.1.symm.trans m.1)
theorem Gc(a:ps.length<=36)(b:∀p∈ps,(wd p).length<=6){l:List Int}(d:l.length<=6):(D2 sa wd ps l).length<2000:=by
 have:(D2 sa wd ps l).length<=l.length*216:=W3 _ λh _=>by
  have e:(ps.flatMap λp=>if p.2=h/\sa p=true then(wd p).map (λw=>(h,p,w)) else[]).length<=ps.length*6:=W3 _ λp c=>by
   split
   ·rw[HC];exact b p c
   ·simp
  omega
 omega
end
section
variable{A:PHp}{c:cc}{S:LS}{la sa:Int×Int->Bool}{wd:Int×Int->List (List Int)}
theorem Gd(H:be A c S)(m:srt c.ps=c.ps)(E:c.L≠[])(n:∀p,p∈S.lays.map (·.1)↔p∈c.ps/\la p=true)(SD:mD c S la (D2 sa wd c.ps (aw c.N)))
 (i:∀p∈c.ps,((wd p).length=c.L.length↔∀l∈c.L,∃w∈wd p,L6 w=l)):my c S=c.ps.filter (K7 la sa wd c.L):=by
 have o:(my c S).Nodup:=(ea H.ln).filter _;have q:(c.ps.filter (K7 la sa wd c.L)).Nodup:=H.pg.nd.filter _;have x:(c.ps.filter (K7 la sa wd c.L)).Pairwise (λa b=>gG b a=false):=by
  have:=wp c.ps;rw[m]at this;exact this.filter _
 refine t9 FX (FY o q λp=>?_) ((wp _).filter _) x;unfold my;rw[IL,IL,(O0 _).mem_iff,n];have d:∀l,l∈Z9 S p↔∃r∈rowsAt S p,L6 r.2=l:=λl=>by
  unfold Z9 L6;rw[HQ]
 unfold mw;rw[Ik];constructor
 ·rintro⟨⟨j,f⟩,h⟩;refine⟨j,?_⟩;have s:∀l∈c.L,sa p=true/\∃w∈wd p,L6 w=l:=λl u=>by
   obtain⟨r,y,e⟩:=(d l).mp (of_decide_eq_true (h l u));obtain⟨_,_,g,z⟩:=SD.fit p r y;obtain⟨_,_,_,G,I⟩:=mem_D2.mp z;exact⟨G,r.2,I,e⟩
  obtain⟨J,B⟩:=List.exists_mem_of_ne_nil _ E;unfold K7;rw[f,(s J B).1];simpa using(i p j).mpr λl u=>(s l u).2
 ·rintro⟨j,h⟩;unfold K7 at h;simp only[HZ,decide_eq_true_eq]at h;obtain⟨f,C,v⟩:=h;refine⟨⟨j,f⟩,λl u=>decide_eq_true ((d l).mpr ?_)⟩;obtain⟨w,O,e⟩:=(i p j).mp v l u;have z:=H.pg.good p j;obtain⟨r,y,D⟩:=SD.has (p.2,p,w) (mem_D2.mpr ⟨mem_hands.mpr z.2.1,j,rfl,C,O⟩) f;exact⟨r,y,by rw[D];exact e⟩
end
theorem be.low{A:PHp}{c:cc}{S:LS}(H:be A c S){a:Nat}(h:a<c.G):a∉own c S:=λz=>by
 unfold own at z;simp only[HK]at z;rcases z with z | z | z | z | z
 ·omega
 ·omega
 ·omega
 ·omega
 ·have:=H.hi a z;omega
theorem aT.keep{B c:PHp}{d:Nat}{E:EH}{N:Nat}{R:Int->List (Int×PV)}(H:aT B d E N R)(k:∀a o,(a=d\/∃e∈E,a=e.2.1\/a=e.2.2)->B[a]?=some o->c[a]?=some o):aT c d E N R:=
 ⟨k _ _ (.inl rfl) H.dict,H.ek,λe b=>⟨k _ _ (.inr ⟨e,b,.inl rfl⟩) (H.obs e b).1,k _ _ (.inr ⟨e,b,.inr rfl⟩) (H.obs e b).2⟩⟩
theorem Ge{A B:PHp}(h:∀(a:Nat)(o:PO),A[a]?=some o->B[a]?=some o):A<+:B:=by
 refine List.prefix_iff_getElem?.mpr λi b=>?_;exact h i _ (HX b)
def Gf(la sa:Int×Int->Bool)(wd:Int×Int->List (List Int))(c:cc)(i:Nat)(S:LS):Prop:=
 (i=0->S=⟨1,[],[],[],0⟩)/\(i=1->S=⟨1,(D1 la c.ps (aw c.N)).map λe=>(e.2,1),[],[],0⟩)/\(i=2->S.lays=(D1 la c.ps (aw c.N)).map (λe=>(e.2,1))/\mD c S la (D2 sa wd c.ps (aw c.N)))
theorem Gg{c:cc}{S:LS}{la:Int×Int->Bool}(j:c.ps.Nodup)(b:c.fr=aw c.N)(l:∀p∈c.ps,c.f p=9)(a:S.now=2)(m:S.lays=(D1 la c.ps (aw c.N)).map λe=>(e.2,1))(n:∀p∈c.ps,p.1∈aw c.N){p:Int×Int}{ch:List Int}(h:p∈c.ps/\s8 c.N c.ps c.L ch/\ch.head?=some p.2):l7 c S p ch=if la p=true then 0 else 14:=by
 rw[rN h];unfold iA;have d:ix c S ch=true:=by
  unfold ix mv;have:(ch.drop 1).dropWhile (λh=>decide (h∈c.fr))=[]:=by
   refine wS λy o=>?_;rw[b];exact decide_eq_true (mem_hands.mpr (h.2.1.2.2.1 y (List.mem_of_mem_drop o)))
  rw[this];rfl
 have g:kF c S p ch=false:=by
  unfold kF;rw[l p h.1,a];exact decide_eq_false (by omega)
 rw[d,g];have i:bQ S p=la p:=by
  unfold bQ W7;rw[m];by_cases z:la p=true
  ·have r:(p,(1:Int))∈(D1 la c.ps (aw c.N)).map λe=>(e.2,(1:Int)):=HQ.mpr ⟨(p.1,p),mem_D1.mpr ⟨n p h.1,h.1,rfl,z⟩,rfl⟩;rw[rL (by rw[HV];exact wZ j (r6 _)) r,a,z];rfl
  ·rw[look_none.mpr]
   ·simp[z]
   ·rw[HV];intro q;obtain⟨e,s,rfl⟩:=HQ.mp q;exact z (mem_D1.mp s).2.2.2
 rw[i];by_cases z:la p=true
 ·rw[if_pos z,if_pos z];rfl
 ·rw[if_neg z,if_neg z]
section
variable{A:PHp}{N:Nat}{ps:List (Int×Int)}{L:List Int}{la sa:Int×Int->Bool}{wd:Int×Int->List (List Int)}
theorem Gh{Pn w r ll dl dk d fl:Nat}{f:Int×Int->Int}{E:EH}(J:cB A Pn w r N ps L f ll dl dk)(P:L5 N ps)(a1:srt ps=ps)(a2:ps.length<=36)(hf:∀p∈ps,f p=9)(hL:L≠[])(n1:L.length<=6)
 (c1:A[fl]?=some (.lst ((aw N).map .int))) (hE:aT A d E N (S4 la sa wd ps))
 (y:∀p∈ps,(wd p).length<=6/\(∀w∈wd p,s8 N ps L w/\w.head?=some p.2/\w.length<=6)/\((wd p).length=L.length↔∀l∈L,∃w∈wd p,L6 w=l)) :
 Wp (Q9 [.ref A.length,.ref Pn,.ref d,.ref fl,.int 2]) (A++[.ins 6 []]) (λv A'=>v=.non/\A<+:A'/\∃c S,be A' c S/\c.ps=ps/\c.N=N/\A'[A.length]?=some (.ins 6 [(8,.ref c.G),(18,.tup (aN (ps.filter (K7 la sa wd L))))])) NoX:=by
 have n2:N<=6:=by have:=P.hi;omega
 have k1:=G1 J.web.ob;have k2:=G1 J.web.ls;have k3:=G1 J.ob;have k4:=G1 J.ls;have k5:=G1 J.ld;have k6:=G1 J.lk;have p0:A<+:A++[PO.ins 6 []]:=HN _ _;have c3:(A++[PO.ins 6 []])[A.length]?=some (.ins 6 []):=ak;have c4:(A++[PO.ins 6 []]).length=A.length+1:=by simp
 generalize A++[PO.ins 6 []]=A0 at *;unfold Q9;walk_at "fn";walk_at "go";refine ac (Fi (J.mono p0) P (ag p0 c1) (by rw[aG];omega)) λv A1 C=>?_;obtain⟨_,p1,HL⟩:=C;generalize g:(⟨N,ps,L,f,aw N,Pn,w,r,ll,dl,dk,A0.length⟩:cc)=c at HL;have cG:c.G=A0.length:=by rw[←g]
 have b:c.ps=ps:=by rw[←g]
 have cN:c.N=N:=by rw[←g]
 have U:c.L=L:=by rw[←g]
 have cf:c.f=f:=by rw[←g]
 have d1:c.fr=aw N:=by rw[←g]
 have a4:A.length∉dom c ⟨1,[],[],[],0⟩:=λz=>by
  rw[←g]at z;unfold dom own sadr at z;simp only[HK,LY,IT,or_false]at z;omega
 have j2:c.P<A.length/\c.w<A.length/\c.r<A.length/\c.ll<A.length/\c.dl<A.length/\c.dk<A.length:=by rw[←g];exact⟨k3,k1,k2,k4,k5,k6⟩
 clear g;have d2:=ag p1 c3;rw[←cG];walk_at "go";have a5:be (A1.set A.length (PO.ins 6 (putFld 8 (PV.ref c.G) []))) c ⟨1,[],[],[],0⟩:=HL.set a4;have e2:(A1.set A.length (PO.ins 6 (putFld 8 (PV.ref c.G) [])))[A.length]?=some (.ins 6 [(8,.ref c.G)]):=aM d2;have pA:A<+:A1.set A.length (PO.ins 6 (putFld 8 (PV.ref c.G) [])):=pre_set (p0.trans p1) (HG _);generalize A1.set A.length (PO.ins 6 (putFld 8 (PV.ref c.G) []))=H at *;have O:aT H d E N (S4 la sa wd ps):=hE.keep λa o _ h=>ag pA h;have q0:c.G+4<H.length:=G1 a5.ul;have e3:=O.dict;refine FN ?_;walk_at "go";refine⟨_,_,rfl,e3,?_⟩;have e4:aT (H++[PO.dI (dW (eW E))]) H.length E c.N (S4 la sa wd c.ps):=by
  rw[cN,b];exact⟨ak,hE.ek,λe j=>⟨ah (O.obs e j).1,ah (O.obs e j).2⟩⟩
 have p3:H<+:H++[PO.dI (dW (eW E))]:=HN _ _;have e6:=a5.mono p3;have e7:=ag p3 e2;have e8:=pA.trans p3;have e9:H.length∉own c ⟨1,[],[],[],0⟩:=λz=>by
  unfold own sadr at z;simp only[HK,LY,IT,or_false]at z;omega
 have I:∀e∈E,e.2.1<c.G/\e.2.2<c.G:=λe j=>by
  have h1:=G1 (hE.obs e j).1;have Y:=G1 (hE.obs e j).2;omega
 generalize H++[PO.dI (dW (eW E))]=A3 at *;generalize H.length=Q at *;walk_at "go";have q:∀{S S':LS}{B B':PHp},be B c S->Q∉own c S->de c S S' B B'->A<+:B->B[A.length]?=some (.ins 6 [(8,.ref c.G)])->aT B Q E c.N (S4 la sa wd c.ps)->A<+:B'/\B'[A.length]?=some (.ins 6 [(8,.ref c.G)])/\aT B' Q E c.N (S4 la sa wd c.ps)/\Q∉own c S':=λ{S S' B B'} m Z st pB u s=>by
  refine⟨Ge λa o h=>st.keep a o (ag pB h) (m.low (by have:=G1 h;omega)),st.keep _ _ u (m.low (by omega)),s.keep λa o ha h=>st.keep a o h ?_,rJ st (G1 s.dict) Z⟩;rcases ha with rfl | ⟨e,j,rfl | rfl⟩
  ·exact Z
  ·exact m.low (I e j).1
  ·exact m.low (I e j).2
 have a7:∀h,(S4 la sa wd c.ps h).length<=1000:=λh=>wY (by rw[b];exact a2) (λp x=>(y p (by rw[←b];exact x)).1) h;unfold z0;refine oq (λi σ B=>∃y6 S,σ=[some (.ref A.length),some (.ref Pn),some (.ref d),some (.ref fl),some (.int 2),some (.ref Q),y6]/\A<+:B/\B[A.length]?=some (.ins 6 [(8,.ref c.G)])/\aT B Q E c.N (S4 la sa wd c.ps)/\Q∉own c S/\be B c S/\Gf la sa wd c i S) ?_;walk_at "go";refine⟨0,2,rfl,⟨_,_,rfl,e8,e7,e4,e9,e6,⟨λ_=>rfl,λz=>by omega,λz=>by omega⟩⟩,?_,?_⟩
 ·rintro i σ B hi ⟨y6,S,rfl,pB,u,s,Z,m,w0,w1,_⟩;have f2:=m.ob;walk_at "go";unfold cx;simp only[OT];have f3:i=0\/i=1:=by omega
  rcases f3 with rfl | rfl
  ·have e0:=w0 rfl;subst e0;walk_at "gb";refine ac (gb m s a7 (D:=D1 la c.ps (aw c.N)) (Ga _) (λe j=>⟨(mem_D1.mp j).2.1,(mem_D1.mp j).2.2.1⟩) (wZ m.pg.nd (r6 _)) λe j=>rfl) λv B1 C=>?_;obtain⟨rfl,T,st⟩:=C;obtain⟨q1,q2,q3,q4⟩:=q m Z st pB u s;exact⟨_,_,rfl,q1,q2,q3,q4,T,λz=>by omega,λ_=>rfl,λz=>by omega⟩
  ·have e1:=w1 rfl;subst e1;walk_at "gb";refine ac (iw m) λv B1 C=>?_;obtain⟨_,T,st⟩:=C;obtain⟨q1,q2,q3,q4⟩:=q m Z st pB u s;have r7:=T.ob;walk_at "gb";refine ac (gc T q3 a7 (la:=la) (D:=D2 sa wd c.ps (aw c.N)) (Gc (by rw[b];exact a2) (λp x=>(y p (by rw[←b];exact x)).1) (by rw[aG];omega)) (Gb _) (λe j=>?_) (λS' hn hl e j=>?_) rfl rfl) λv B2 C=>?_
   ·obtain⟨_,Y,h3,_,h5⟩:=mem_D2.mp j;obtain⟨g1,g2,g3⟩:=(y _ (by rw[←b];exact Y)).2.1 _ h5;exact⟨⟨Y,by rw[cN,b,U];exact g1,g2⟩,h3,g3⟩
   ·obtain⟨_,Y,h3,_,h5⟩:=mem_D2.mp j;obtain⟨g1,g2,g3⟩:=(y _ (by rw[←b];exact Y)).2.1 _ h5;exact Gg T.pg.nd (by rw[d1,cN]) (λp x=>by rw[cf];exact hf p (by rw[←b];exact x)) hn hl (λp x=>mem_hands.mpr (T.pg.good p x).1) ⟨Y,by rw[cN,b,U];exact g1,g2⟩
   ·obtain⟨rfl,S2,H2,h0,el,SD⟩:=C;obtain⟨r1,r2,r3,r4⟩:=q T q4 h0 q1 q2 q3;exact⟨_,S2,rfl,r1,r2,r3,r4,H2,λz=>by omega,λz=>by omega,λ_=>⟨el,SD⟩⟩
 ·rintro σ B ⟨y6,S,rfl,pB,u,s,Z,m,_,_,w2⟩;obtain⟨h4,a8⟩:=w2 rfl;have f2:=m.ob;have hop:=Gd m (by rw[b];exact a1) (by rw[U];exact hL) (λp=>?_) a8 λp x=>by rw[U];exact(y p (by rw[←b];exact x)).2.2
  ·walk_at "go";refine ac (fU m (λp r hr=>(a8.fit p r hr).1) (by rw[U];omega)) λv B1 C=>?_;obtain⟨n,rfl,hn,pb,hl⟩:=C;have m0:(aN (my c S)).length<=LIM:=aH (by
    rw[hop];unfold aN;rw[HC];have:=Iz (K7 la sa wd c.L) c.ps;rw[b]at this ⊢;omega)
   have a9:=ag pb u;walk_at "go";have h7:A.length∉dom c S:=λz=>by
    unfold dom at z;simp only[HK]at z;rcases z with z | z | z | z | z | z | z | z;any_goals omega
    exact m.low (by omega) z
   refine⟨trivial,pre_set (pB.trans pb) (HG _),c,S,(m.mono pb).set h7,b,cN,?_⟩;rw[aM a9,hop,b,U];rfl
  ·rw[h4,HV];constructor
   ·intro z;obtain⟨e,j,rfl⟩:=HQ.mp z;exact⟨(mem_D1.mp j).2.1,(mem_D1.mp j).2.2.2⟩
   ·rintro⟨x,h8⟩;exact HQ.mpr ⟨(p.1,p),mem_D1.mpr ⟨mem_hands.mpr (m.pg.good p x).1,x,rfl,h8⟩,rfl⟩
end
noncomputable def oc(a b:List Bool):PN:=if(a++b).all id=true then "all" else if(a.any id&&!b.all id)=true then "lost" else if(!(a++b).any id)=true then "none" else "more"
noncomputable def boL(ps D:List (Int×Int))(h:Int):List Bool:=(ps.filter λp=>decide (p.1=h)).map λp=>decide (p∈D)
noncomputable def bwL(ps D:List (Int×Int))(h:Int):List Bool:=(ps.filter λp=>decide (p.2=h)).map λp=>decide (p∈D)
theorem xa(l:List Bool):(l.any (·== true))=l.any id:=by
 congr 1;funext b;cases b<;>rfl
theorem rS:∀l:List Bool,(l.any (·== false)) = !l.all id
 | []=>rfl
 | a::r=>by
   rw[KC,rS r,Lq];cases a<;>rfl
theorem je{A:PHp}{Q:PV->PHp->Prop}{E:XP}{n:Nat}{b:Bool}{bs:List Bool}(h:A[n]?=some (.lst (bs.map .bl)))(q:Q (.bl (bs.any (·== b))) A):Wp (nw (.bl b) (.ref n)) A Q E:=
 C1 (Q6 h (by rw[d5];exact q))
theorem xb{A:PHp}{Q:PV->PHp->Prop}{E:XP}{n:Nat}{b:Bool}{bs:List Bool}(h:A[n]?=some (.lst (bs.map .bl)))(q:Q (.bl (!bs.any (·== b))) A):Wp (lf (.bl b) (.ref n)) A Q E:=
 C1 (Q6 h (by rw[d5];exact q))
section
variable{A:PHp}{c:cc}{S:LS}{D:List (Int×Int)}{h:Int}
theorem xc(ps D:List (Int×Int))(h:Int):(boL ps D h).length<=ps.length/\(bwL ps D h).length<=ps.length:=by
 unfold boL bwL;rw[HC,HC];exact⟨Iz _ _,Iz _ _⟩
theorem fm(H:be A c S)(q:srt c.ps=c.ps){g:Nat}(ho:A[g]?=some (.ins 6 [(8,.ref c.G),(18,.tup (aN D))])) :
 Wp (O9 [.ref g,.int h]) A (λv A'=>v=.str (oc (boL c.ps D h) (bwL c.ps D h))/\A<+:A') NoX:=by
 unfold O9;have hG:=H.ob;have hP:=H.plan.ob;have hl:=H.pg.len;obtain⟨a7,j⟩:=xc c.ps D h;walk_at "fn";walk_at "go";have c1:Wp (U4 [some (.ref g),some (.int h),some (.ref c.w),none,none]) A (λv A'=>∃n,v=.ref n/\A<+:A'/\A'[n]?=some (.lst ((boL c.ps D h).map .bl))) NoX:=by
  unfold U4;have hw:=H.plan.web.ob;refine N3 (l:=(Y9 c.ps h).map .int) (λC=>∃x,C=[x,some (.int h),some (.ref g)]) (λ_=>true) (λv=>.bl (match v with | .int t=>decide ((h,t)∈D) | _=>false)) ?_;walk_at "go";refine w_eq (ef H.plan.web hl) ?_;rw[q];have E:(A++[PO.lst ((Y9 c.ps h).map .int)])[A.length]?=some (.lst ((Y9 c.ps h).map .int)):=ak;have I:(A++[PO.lst ((Y9 c.ps h).map .int)])[g]?=some (.ins 6 [(8,.ref c.G),(18,.tup (aN D))]):=ah ho;have U:(Y9 c.ps h).length<=c.ps.length:=by unfold Y9;rw[HC];exact Iz _ _
  walk_at "go";refine⟨_,N8 E,HG _,aH (by rw[HC];omega),⟨_,rfl⟩,λi=>N9 E i,?_,?_⟩
  ·rintro v C u ⟨x,rfl⟩;obtain⟨t,ht,rfl⟩:=HQ.mp u;walk_at "go";refine⟨rfl,⟨_,rfl⟩,?_⟩;walk_at "go";refine⟨rfl,rfl,λ_=>?_⟩;walk_at "go";refine gB ⟨rfl,u9 _⟩ ?_;rw[show PV.tup [.int h,.int t]=pv (h,t)from rfl,ou];exact⟨rfl,rfl⟩
  ·refine⟨_,rfl,E9 (HN _ _),?_⟩;rw[ak,IU.mpr (by simp)];unfold boL Y9;rw[HV,HV,HV];congr 2;refine Jj λp Y=>?_;have e:p.1=h:=of_decide_eq_true (IL.mp Y).2;show PV.bl (decide ((h,p.2)∈D))=.bl (decide (p∈D));rw[←e]
 refine ac c1 λv A1 y=>?_;obtain⟨O,rfl,p1,Z⟩:=y;have H1:=H.mono p1;have I:=ag p1 ho;walk_at "go";have c2:Wp (U5 [some (.ref g),some (.int h),some (.ref c.w),some (.ref O),none]) A1 (λv A'=>∃n,v=.ref n/\A1<+:A'/\A'[n]?=some (.lst ((bwL c.ps D h).map .bl))) NoX:=by
  unfold U5;have hw:=H1.plan.web.ob;refine N3 (l:=(Y8 c.ps h).map .int) (λC=>∃x,C=[x,some (.int h),some (.ref g)]) (λ_=>true) (λv=>.bl (match v with | .int t=>decide ((t,h)∈D) | _=>false)) ?_;walk_at "go";refine w_eq (ee H1.plan.web hl) ?_;rw[q];have E:(A1++[PO.lst ((Y8 c.ps h).map .int)])[A1.length]?=some (.lst ((Y8 c.ps h).map .int)):=ak;have b2:(A1++[PO.lst ((Y8 c.ps h).map .int)])[g]?=some (.ins 6 [(8,.ref c.G),(18,.tup (aN D))]):=ah I;have U:(Y8 c.ps h).length<=c.ps.length:=by unfold Y8;rw[HC];exact Iz _ _
  walk_at "go";refine⟨_,N8 E,HG _,aH (by rw[HC];omega),⟨_,rfl⟩,λi=>N9 E i,?_,?_⟩
  ·rintro v C u ⟨x,rfl⟩;obtain⟨t,ht,rfl⟩:=HQ.mp u;walk_at "go";refine⟨rfl,⟨_,rfl⟩,?_⟩;walk_at "go";refine⟨rfl,rfl,λ_=>?_⟩;walk_at "go";refine gB ⟨rfl,u9 _⟩ ?_;rw[show PV.tup [.int t,.int h]=pv (t,h)from rfl,ou];exact⟨rfl,rfl⟩
  ·refine⟨_,rfl,E9 (HN _ _),?_⟩;rw[ak,IU.mpr (by simp)];unfold bwL Y8;rw[HV,HV,HV];congr 2;refine Jj λp Y=>?_;have e:p.2=h:=of_decide_eq_true (IL.mp Y).2;show PV.bl (decide ((p.1,h)∈D))=.bl (decide (p∈D));rw[←e]
 refine ac c2 λv Q y=>?_;obtain⟨n2,rfl,p2,J⟩:=y;have r:=ag p2 Z;have pA:=p1.trans p2;generalize boL c.ps D h=a at *;generalize bwL c.ps D h=b at *;have L:a.map PV.bl++b.map PV.bl=(a++b).map .bl:=by rw[Ii]
 have s:(a.map PV.bl).length+(b.map PV.bl).length<=LIM:=aH (by rw[HC,HC];omega);unfold oc;walk_at "go";refine ca r J s ?_;rw[L];refine⟨_,_,rfl,ak,?_⟩;have d:(Q++[PO.lst ((a++b).map .bl)])[O]?=some (.lst (a.map .bl)):=ah r;have f:(Q++[PO.lst ((a++b).map .bl)])[n2]?=some (.lst (b.map .bl)):=ah J;have m:A<+:Q++[PO.lst ((a++b).map .bl)]:=E9 pA;generalize Q++[PO.lst ((a++b).map .bl)]=A3 at *;refine⟨_,rfl,λB=>?_,λB=>?_⟩
 ·walk_at "go";rw[if_pos B];exact⟨rfl,m⟩
 ·rw[if_neg (by rw[B];simp)];walk_at "go";have fin:∀N,A<+:N->N[O]?=some (.lst (a.map .bl))->N[n2]?=some (.lst (b.map .bl))->(a.any id&&!b.all id)=false->
   Wp (D7 (br (tNot (E6 (le (ao bp (aa 3) (aa 4))))) (G6 (eK (.str "none"))) sPass) (G6 (eK (.str "more"))) [some (.ref g),some (.int h),some (.ref c.w),some (.ref O),some (.ref n2)]) N (λo A1=>∃v,o=.rt v/\v=.str (if(a.any id&&!b.all id)=true then "lost" else if(!(a++b).any id)=true then "none" else "more")/\A<+:A1) NoX:=λN p4 h1 h2 hf=>by
   rw[if_neg (by rw[hf];simp)];walk_at "go";refine ca h1 h2 s ?_;rw[L];refine⟨_,_,rfl,ak,?_⟩;refine⟨_,rfl,λB=>?_,λB=>?_⟩
   ·walk_at "go";rw[if_pos B];exact⟨rfl,E9 p4⟩
   ·walk_at "go";rw[if_neg (by rw[B];simp)];exact⟨rfl,E9 p4⟩
  refine⟨_,a,rfl,d,_,rfl,λT=>?_,λT=>?_⟩
  ·walk_at "go";refine⟨_,b,rfl,f,_,rfl,λj=>?_,λj=>?_⟩
   ·walk_at "go";rw[if_pos (by rw[T,j];rfl)];exact⟨rfl,m⟩
   ·refine cS ?_;dsimp only;refine ac (fin A3 m d f (by rw[T,j];rfl)) λo A5 y=>?_;obtain⟨v,rfl,u,p5⟩:=y;exact⟨u,p5⟩
  ·refine⟨λz=>(nomatch z),λ_=>?_⟩;refine cS ?_;dsimp only;refine ac (fin A3 m d f (by rw[T];rfl)) λo A5 y=>?_;obtain⟨v,rfl,u,p5⟩:=y;exact⟨u,p5⟩
theorem mE{q a:Nat}{ps:List (Int×Int)}(r:ps.length<64)(d:A[q]?=some (.lst (aN ps)))(s:A[a]?=some (.lst (aN D))){g j:Option PV} :
 Wp (U7 [some (.ref q),some (.ref a),some (.int h),g,j]) A (λv e=>v=.ref A.length/\e=A++[.lst ((boL ps D h).map .bl)]) NoX/\
 Wp (U8 [some (.ref q),some (.ref a),some (.int h),g,j]) A (λv e=>v=.ref A.length/\e=A++[.lst ((bwL ps D h).map .bl)]) NoX:=by
 constructor
 ·unfold U7;refine N3 (l:=aN ps) (λb=>∃x,b=[x,some (.int h),some (.ref a)]) (λv=>decide (gl v=h)) (λv=>.bl (decide ((gl v,fN v)∈D))) ?_;walk_at "go";refine⟨_,N8 d,HG _,aH (by unfold aN;rw[HC];omega),⟨_,rfl⟩,λi=>N9 d i,?_,rfl,?_⟩
  ·rintro v b f ⟨x,rfl⟩;obtain⟨p,m,rfl⟩:=j4 f;have n:atI [PV.int p.1,PV.int p.2] 0=some (.int p.1):=rfl;unfold pv;walk_at "go";refine⟨rfl,⟨_,rfl⟩,?_⟩;walk_at "go";refine⟨rfl,rfl,λ_=>?_⟩;walk_at "go";exact⟨rfl,rfl⟩
  ·congr 3;unfold boL aN;rw[Kv,HV,HV];rfl
 ·unfold U8;refine N3 (l:=aN ps) (λb=>∃x,b=[x,some (.int h),some (.ref a)]) (λv=>decide (fN v=h)) (λv=>.bl (decide ((gl v,fN v)∈D))) ?_;walk_at "go";refine⟨_,N8 d,HG _,aH (by unfold aN;rw[HC];omega),⟨_,rfl⟩,λi=>N9 d i,?_,rfl,?_⟩
  ·rintro v b f ⟨x,rfl⟩;obtain⟨p,m,rfl⟩:=j4 f;have o:atI [PV.int p.1,PV.int p.2] 1=some (.int p.2):=rfl;unfold pv;walk_at "go";refine⟨rfl,⟨_,rfl⟩,?_⟩;walk_at "go";refine⟨rfl,rfl,λ_=>?_⟩;walk_at "go";exact⟨rfl,rfl⟩
  ·congr 3;unfold bwL aN;rw[Kv,HV,HV];rfl
theorem dm{q u:Nat}{ps:List (Int×Int)}(y:ps.length<64)(B:A[q]?=some (.lst (aN ps)))(C:A[u]?=some (.lst (aN D))) :
 Wp (P0 [.ref q,.ref u,.int h]) A (λv I=>v=.str (oc (boL ps D h) (bwL ps D h))/\A<+:I) NoX:=by
 unfold P0;obtain⟨J,d⟩:=xc ps D h;walk_at "fn";walk_at "go";refine ac (mE y B C).1 λv E j=>?_;obtain⟨rfl,rfl⟩:=j;walk_at "go";refine ac (mE y (ah B) (ah C)).2 λv m j=>?_;obtain⟨rfl,rfl⟩:=j;have n:(A++[PO.lst ((boL ps D h).map .bl)]++[PO.lst ((bwL ps D h).map .bl)])[A.length]?=some (.lst ((boL ps D h).map .bl)):=ah ak;have p:(A++[PO.lst ((boL ps D h).map .bl)]++[PO.lst ((bwL ps D h).map .bl)])[(A++[PO.lst ((boL ps D h).map .bl)]).length]?=some (.lst ((bwL ps D h).map .bl)):=ak;have L:A<+:A++[PO.lst ((boL ps D h).map .bl)]++[PO.lst ((bwL ps D h).map .bl)]:=E9 (HN _ _);generalize A++[PO.lst ((boL ps D h).map .bl)]++[PO.lst ((bwL ps D h).map .bl)]=m at *;generalize(A++[PO.lst ((boL ps D h).map .bl)]).length=G at *;generalize A.length=H at *;generalize boL ps D h=a at *;generalize bwL ps D h=b at *;have r:a.map PV.bl++b.map PV.bl=(a++b).map .bl:=by rw[Ii]
 have f:(a.map PV.bl).length+(b.map PV.bl).length<=LIM:=aH (by rw[HC,HC];omega);unfold oc;walk_at "go";refine ca n p f ?_;rw[r];refine xb ak ?_;rw[rS,Bool.not_not];have g:(m++[PO.lst ((a++b).map .bl)])[H]?=some (.lst (a.map .bl)):=ah n;have i:(m++[PO.lst ((a++b).map .bl)])[G]?=some (.lst (b.map .bl)):=ah p;have e:A<+:m++[PO.lst ((a++b).map .bl)]:=E9 L;generalize m++[PO.lst ((a++b).map .bl)]=N at *;have fin:(a.any id&&!b.all id)=false->
  Wp (D7 (br (E6 (ao lf (eK (.bl true)) (ao bp (aa 3) (aa 4)))) (G6 (eK (.str "none"))) sPass) (G6 (eK (.str "more"))) [some (.ref q),some (.ref u),some (.int h),some (.ref H),some (.ref G)]) N (λo E=>∃v,o=.rt v/\v=.str (if(a.any id&&!b.all id)=true then "lost" else if(!(a++b).any id)=true then "none" else "more")/\A<+:E) NoX:=λO=>by
  rw[if_neg (by rw[O];simp)];walk_at "go";refine ca g i f ?_;rw[r];refine xb ak ?_;rw[xa];refine⟨_,rfl,λl=>?_,λl=>?_⟩
  ·walk_at "go";rw[if_pos l];exact⟨rfl,E9 e⟩
  ·walk_at "go";rw[if_neg (by rw[l];simp)];exact⟨rfl,E9 e⟩
 refine⟨_,rfl,λl=>?_,λl=>?_⟩
 ·walk_at "go";rw[if_pos l];exact⟨rfl,e⟩
 ·rw[if_neg (by rw[l];simp)];walk_at "go";refine je g ?_;rw[xa];refine⟨_,rfl,λs=>?_,λs=>?_⟩
  ·walk_at "go";refine je i ?_;rw[rS];refine⟨_,rfl,λd=>?_,λd=>?_⟩
   ·walk_at "go";rw[if_pos (by rw[s,d];rfl)];exact⟨rfl,e⟩
   ·refine cS ?_;dsimp only;refine ac (fin (by rw[s,d];rfl)) λo Q j=>?_;obtain⟨v,rfl,w,x⟩:=j;exact⟨w,x⟩
  ·refine⟨λz=>(nomatch z),λ_=>?_⟩;refine cS ?_;dsimp only;refine ac (fin (by rw[s];rfl)) λo Q j=>?_;obtain⟨v,rfl,w,x⟩:=j;exact⟨w,x⟩
end
section
variable{A:PHp}{c:cc}{S:LS}{D:List (Int×Int)}
theorem gd(H:be A c S)(a:srt c.ps=c.ps){e q f:Nat}(r:A[e]?=some (.ins 6 [(8,.ref c.G),(18,.tup (aN D))]))(s:A[q]?=some (.lst (aN c.ps)))(u:A[f]?=some (.lst (aN D))){w y z C E I J g j l:Option PV} :
 Wp (rq [w,y,some (.int c.N),some (.ref q),z,C,E,some (.ref f),I,J,g,j,l,some (.ref e)]) A (λv L=>∃n,v=.ref n/\L[n]?=some (.lst (((aw c.N).map λ_=>true).map .bl))) NoX:=by
 unfold rq;have U:=H.pg.hi;refine oA (aw c.N) .int (λ_=>.bl true) (λ_=>true) (λo=>∃x,o=[x,some (.ref e),some (.ref q),some (.ref f)]) ?_;walk_at "go";refine⟨by rw[aG];exact HG _,aH (by rw[aG];omega),⟨_,rfl⟩,λi B p=>by rw[p9,v7],?_,λB b=>?_⟩
 ·rintro h o B Y ⟨x,rfl⟩ b;have O:=H.mono b;have m:=ag b r;walk_at "go";refine⟨rfl,⟨_,rfl⟩,?_⟩;walk_at "go";refine⟨rfl,Iy _,λ_=>?_⟩;walk_at "go";refine ac (fm (h:=h) O a m) λv Z d=>?_;obtain⟨rfl,p1⟩:=d;walk_at "go";refine ac (dm (h:=h) H.pg.len (ag (b.trans p1) s) (ag (b.trans p1) u)) λv Q d=>?_;obtain⟨rfl,p2⟩:=d;walk_at "go";refine ac (cC 5 _ .str Q) λv B3 d=>?_;obtain⟨rfl,T⟩:=d;exact⟨rfl,p1.trans (p2.trans T)⟩
 ·refine⟨_,rfl,?_⟩;rw[ak,IU.mpr (by simp),HV];rfl
end
theorem law_pure:∀ns:List Int,∃A',ow [.ref 0] [.ro (ns.map .int)]=.ok (.bl true) A':=by
 intro ns;have h:Wp (ow [.ref 0]) [.ro (ns.map .int)] (λv _=>v=.bl true) NoX:=by
  generalize e0:[PO.ro (ns.map PV.int)]=A0;have hA:A0[0]?=some (.ro (ns.map .int)):=by rw[←e0];rfl
  clear e0;unfold ow;walk_at "fn";walk_at "gb";refine w_eq (wW hA 0) ?_;generalize ns.getD 0 0=j;walk_at "gb";refine w_eq (ce _ _ _) ?_;have m0:=Fg j 0;obtain⟨N,hN,h7⟩:∃N:Nat,2+mx j 0%4=N/\2<=N/\N<=5:=⟨(2+mx j 0%4).toNat,by omega,by omega,by omega⟩;walk_at "gb";rw[hN];refine ac (FH h7.1 (by omega)) λv A1 i=>?_;obtain⟨p1,b,q,rfl,_,hq,P,a1,J⟩:=i;have e1:=ag p1 hA;clear p1 hA;walk_at "gb";refine ac (fY (by omega)) λv A2 i=>?_;obtain⟨rfl,rfl⟩:=i;walk_at "gb";refine ca (ah ak) ak (aH (by
   rw[HC];have:(someL j N).length<=N:=by unfold someL;exact Ih (Iz _ _) (by rw[aG];exact HG _)
   simp;omega)) ?_
  have eL:(someL j N).map PV.int++[PV.int ((N:Int) - 1)]=(someL j N++[(N:Int) - 1]).map .int:=by rw[Ii];rfl
  rw[eL];have u:∀h∈someL j N,0<=h/\h<(N:Int):=λh i=>by unfold someL at i;exact mem_hands.mp (IL.mp i).1
  obtain⟨a8,e2,m2,h8⟩:=FI (N:=N) (me:=(N:Int) - 1) (by omega) u;have q4:A1<+:A1++[PO.lst ((someL j N).map .int)]++[PO.lst [PV.int ((N:Int) - 1)]]++[PO.lst ((someL j N++[(N:Int) - 1]).map .int)]:=E9 (E9 (HN _ _));have e3:(A1++[PO.lst ((someL j N).map .int)]++[PO.lst [PV.int ((N:Int) - 1)]]++[PO.lst ((someL j N++[(N:Int) - 1]).map .int)])[(A1++[PO.lst ((someL j N).map .int)]++[PO.lst [PV.int ((N:Int) - 1)]]).length]?=some (.lst ((someL j N++[(N:Int) - 1]).map .int)):=ak;generalize A1++[PO.lst ((someL j N).map .int)]++[PO.lst [PV.int ((N:Int) - 1)]]++[PO.lst ((someL j N++[(N:Int) - 1]).map .int)]=A4 at *;generalize(A1++[PO.lst ((someL j N).map .int)]++[PO.lst [PV.int ((N:Int) - 1)]]).length=l0 at *;have e4:=ag q4 hq;have e5:=ag q4 e1;clear q4 hq e1 eL;walk_at "gb";refine fk ?_;walk_at "gb";refine⟨_,_,rfl,e3,λx hx=>?_,?_⟩
  ·rcases Ir.mp hx with z | z
   ·have:=u x z;omega
   ·rw[HH.mp z];omega
  generalize setL (someL j N++[(N:Int) - 1])=L at *;clear e3;have q5:A4<+:A4++[PO.lst (L.map .int)]:=HN _ _;have e6:(A4++[PO.lst (L.map .int)])[A4.length]?=some (.lst (L.map .int)):=ak;generalize A4++[PO.lst (L.map .int)]=A5 at *;generalize A4.length=l at *;have a9:=ag q5 e4;have e7:=ag q5 e5;clear q5 e4 e5;walk_at "gb";refine ac (fZ a9 (by omega)) λv A6 i=>?_;obtain⟨rfl,rfl⟩:=i;refine⟨_,_,_,rfl,ak,wP (λ_=>.int 9) _,Q7 (by rw[HC];omega),?_⟩;rw[FA P.nd];have q6:A5<+:A5++[PO.lst (b.map λp=>PV.tup [pv p,.int 9])]++[PO.dT (b.map λp=>(l2 p,PV.int 9))]:=E9 (HN _ _);have e8:(A5++[PO.lst (b.map λp=>PV.tup [pv p,.int 9])]++[PO.dT (b.map λp=>(l2 p,PV.int 9))])[(A5++[PO.lst (b.map λp=>PV.tup [pv p,.int 9])]).length]?=some (.dT (b.map λp=>(l2 p,PV.int 9))):=ak;have hm:∀p∈b,M6 (b.map λp=>(l2 p,PV.int 9)) (l2 p)=some (.int 9):=λp O=>ww (f:=λ_=>9) P.nd O;generalize A5++[PO.lst (b.map λp=>PV.tup [pv p,.int 9])]++[PO.dT (b.map λp=>(l2 p,PV.int 9))]=A6 at *;generalize(A5++[PO.lst (b.map λp=>PV.tup [pv p,.int 9])]).length=d at *;generalize(b.map λp=>(l2 p,PV.int 9))=m at *;have b0:=ag q6 a9;have e9:=ag q6 e7;have b1:=ag q6 e6;clear q6 a9 e7 e6;walk_at "gb";refine eF ?_;refine ac (FS (by omega)) λv A7 i=>?_;obtain⟨n7,W,rfl,p7,Q,f0,f1,T⟩:=i;have j1:W.length=N:=by have:=congrArg List.length Q;rw[HC,aG]at this;exact this
  refine⟨_,_,_,rfl,f0,rR W,Q7 (by unfold dW;rw[HC];omega),?_⟩;rw[wV (by rw[Q];exact r6 N)];walk_at "gb";have H8:aK A6 (A7++[PO.dI (dW W)]++[PO.lst []]) A7.length (A7++[PO.dI (dW W)]).length W N (λ_=>[]) []:=by
   refine⟨p7.trans (E9 (HN _ _)),ah ak,Q,f1,λe he=>⟨(T e he).1,?_,ah (ah (T e he).2)⟩,ak,p7.length_le,by have:=p7.length_le;simp;omega⟩;have:=G1 (T e he).2;simp;omega
  generalize A7++[PO.dI (dW W)]++[PO.lst []]=A8 at *;generalize(A7++[PO.dI (dW W)]).length=dn at *;generalize A7.length=rd at *;clear p7 Q f0 f1 T j1;refine ac (FT P J (by omega) e9 b0 b1 H8) λo A9 i=>?_;obtain⟨y8,y9,p5,q0,W',rfl,H9⟩:=i;clear H8;have b2:∀p∈b,((λp=>wdOf b N p L) p).length<=6/\(∀w∈(λp=>wdOf b N p L) p,s8 N b L w/\w.head?=some p.2/\w.length<=6)/\(((λp=>wdOf b N p L) p).length=L.length↔∀l∈L,∃w∈(λp=>wdOf b N p L) p,L6 w=l):=λp O=>by
   refine⟨?_,λw hw=>?_,FL⟩
   ·have:(wdOf b N p L).length<=L.length:=Kl _ _;show(wdOf b N p L).length<=6;omega
   ·obtain⟨g1,g2,g3,_⟩:=FK P O hw;exact⟨g1,g2,g3⟩
  generalize laF ns b=la at *;generalize saF ns b=sa at *;generalize(λp=>wdOf b N p L)=wd at *;have f2:aK A6 A9 rd dn W' N (λh=>(S4 la sa wd b h).map rowV) (b.filter (K7 la sa wd L)):=H9.ext (λg=>FZ g) rfl;have j2:∀h,(S4 la sa wd b h).length<=5000:=λh=>Ih (wY J (λp O=>(b2 p O).1) h) (by omega);have r1:(b.filter (K7 la sa wd L)).length<=36:=Ih (Iz _ _) J;have a2:=H9.done;have f3:=ag H9.pre b0;have f4:=ag H9.pre b1;have f5:=ag H9.pre e8;dsimp only;refine cI (dg (eF ?_));refine ac (FV (R:=S4 la sa wd b) (by omega) j2 f2) λv y i=>?_;obtain⟨r2,E,rfl,g0,b3,a3,b5⟩:=i;have r3:E.length=N:=by have:=congrArg List.length b3;rw[HC,aG]at this;exact this
  refine⟨_,_,_,rfl,a3,rR (eW E),Q7 (by unfold dW eW;rw[HC,HC];omega),?_⟩;rw[wV (by rw[wX,b3];exact r6 N)];have hE:aT (y++[PO.dI (dW (eW E))]) y.length E N (S4 la sa wd b):=⟨ak,b3,λe he=>⟨ah (b5 e he).1,ah (b5 e he).2⟩⟩;have B:A9<+:y++[PO.dI (dW (eW E))]:=g0.trans (HN _ _);generalize y++[PO.dI (dW (eW E))]=g4 at *;generalize y.length=hd at *;have C:=ag B a2;have G:=ag B f3;have a4:=ag B f4;have a5:=ag B f5;clear B g0 a3 b5 a2 f3 f4 f5 H9 f2 b0 b1 e8 e9;walk_at "gb";obtain⟨j3,r,g5,U,g6,_⟩:=EB P (A:=g4) (q:=q) G;refine w_eq g5 ?_;walk_at "gb";refine ac (fQ g6 (ag U a4) (by omega) (ag U a5) P a8 λp O=>⟨9,by decide,hm p O⟩) λv s i=>?_;obtain⟨_,h0,ll,dl,dk,HP,_⟩:=i;have Y:=U.trans h0;have a6:=ag Y G;have H:=ag Y C;have a7:aT s hd E N (S4 la sa wd b):=hE.keep λa o _ h=>ag Y h;generalize g4.length=w at HP ⊢;generalize j3.length=Pn at HP ⊢;clear Y h0 U g6 g5 G a4 a5 C hE;walk_at "gb";refine fV ?_;walk_at "gb";have Z:s<+:s++[PO.lst ((aw N).map .int)]:=HN _ _;have k1:(s++[PO.lst ((aw N).map .int)])[s.length]?=some (.lst ((aw N).map .int)):=ak;generalize s++[PO.lst ((aw N).map .int)]=k2 at *;generalize s.length=fl at *;refine ac (Gh (la:=la) (sa:=sa) (wd:=wd) (HP.mono Z) P a1 J (λp O=>by unfold cX;rw[hm p O]) (λz=>by rw[z]at e2;cases e2) (by omega) k1 (a7.keep λa o _ h=>ag Z h) b2) λv k3 i=>?_;obtain⟨_,h1,c,S,HL,k4,cN,ho⟩:=i;have h2:=ag (Z.trans h1) a6;have I:=ag (Z.trans h1) H;generalize k2.length=Ra at *;generalize s1:b.filter (K7 la sa wd L)=D at *;clear b2 a7 a6 H;subst k4 cN;walk_at "gb";unfold bh;walk_at "fn";have k5:(aN D).length<=LIM:=aH (by unfold aN;rw[HC];omega);walk_at "gb";have k6:(aN D).length<=1000:=by unfold aN;rw[HC];omega
  refine ac (EW (k:=4) (l:=aN D) k6 (λv hv=>?_) ak (ah I)) λv s2 i=>?_
  ·obtain⟨p,_,rfl⟩:=j4 hv;exact FF p
  obtain⟨rfl,l1⟩:=i;refine⟨_,rfl,λz=>(nomatch z),λ_=>?_⟩;have a0:=(HN k3 [PO.lst (aN D)]).trans l1;walk_at "gb";refine ac (gd (HL.mono a0) a1 (ag a0 ho) (ag a0 h2) (ag a0 I)) λv s3 i=>?_;obtain⟨n,rfl,hn⟩:=i;exact⟨_,_,rfl,hn,by simp⟩
 obtain⟨v,A',e,hv⟩:=op h;exact⟨A',by rw[e,hv]⟩
end Ws
namespace Ws
open PySem L2
structure mF(mg:Str->Option HD):Prop where
 g_FEWEST_HANDS:∃t,mg "FEWEST_HANDS" = some (.int 2 t)
 g_MOST_HANDS:∃t,mg "MOST_HANDS" = some (.int 6 t)
 g_LAY:∃t,mg "LAY" = some (.str "lay" t)
 g_SAY:∃t,mg "SAY" = some (.str "say" t)
section
set_option maxHeartbeats 4000000
variable{P:Ib}{w:IW}{K:HE}{mg:Str->Option HD}{base:Heap}{cm:Nat->Addr}
noncomputable def top(i:Nat):Stmt:=PySem.Challenge.pw_wordswap_k42_outcomes.main.body.getD i (.Pass ⟨0,0,0,0⟩)
structure xf(mg:Str->Option HD)(cm:Nat->Addr):Prop where
 m_SwapError:mg "SwapError" = some (.ref (cm 7))
 m_NoWeb:mg "NoWeb" = some (.ref (cm 8))
 m_NoPlan:mg "NoPlan" = some (.ref (cm 9))
 m_NoDeed:mg "NoDeed" = some (.ref (cm 12))
 m_Laid:mg "Laid" = some (.ref (cm 13))
 m_NotLaid:mg "NotLaid" = some (.ref (cm 14))
 m_Late:mg "Late" = some (.ref (cm 15))
 m_Unknown:mg "Unknown" = some (.ref (cm 16))
 m_ValueError:mg "ValueError" = none
theorem Gi:C6 ["self","at"] ["self","at"] (B6 (B9 (top 2) 0)):=⟨rfl,rfl,rfl,by decide +kernel,rfl,by decide +kernel,by decide +kernel⟩
theorem Gj{b:Addr}{c:Ia}(F:L2.Fun K "__init__" "SwapError.__init__" (B9 (top 2) 0) b c):az P w K mg base aX 1 b c ["self","at"] (kA K):=
 Cr F Gi rfl λd A a e H E f=>oG (Cc (L2.pv 0) (L2.pv 1) rfl)
theorem Gk:C6 ["value"] ["value"] (B6 (top 13)):=by walk_at "sc"
theorem eH{a:Addr}{b:Ia}(B:K0 K mg cm)(F:L2.Fun K "is_whole" "is_whole" (top 13) a b):az P w K mg base aX (1) a b ["value"] (aZ K cm M8 1):=
 E3 F Gk λ_ _ _ _ _ _ d e c=>by
  exact(C3 (D9 (X8 (V9 (t:=.int) B.kit (aj 0) rfl B.b_isinstance rfl B.b_int MJ) (T8 (ua (V9 (t:=.bool) B.kit (aj 0) rfl B.b_isinstance rfl B.b_bool Le))))))
theorem Gm:C6 ["number","value"] ["number","value"] (B6 (top 14)):=by walk_at "sc"
theorem fo{b:Addr}{c:Ia}(B:K0 K mg cm)(a:ck P w K mg base cm "is_whole" 1 ["value"] M8 1)(F:L2.Fun K "is_hand" "is_hand" (top 14) b c):az P w K mg base aX (2) b c ["number","value"] (aZ K cm L1 2):=
 E3 F Gm λ_ _ _ _ _ _ d f e=>by
  exact(C3 (D9 (X8 (ay a (by decide) d rfl (ae (aj 1) am)) (T8 (tZ oM pO iK iQ aq (aj 1) (aj 0))))))
theorem l8:C6 ["value"] ["value"] (B6 (top 15)):=by walk_at "sc"
theorem bX{b:Addr}{c:Ia}(B:K0 K mg cm)(d:mF mg)(a:ck P w K mg base cm "is_whole" 1 ["value"] M8 1)(F:L2.Fun K "is_number_of_hands" "is_number_of_hands" (top 15) b c):az P w K mg base aX (2) b c ["value"] (aZ K cm J0 1):=
 E3 F l8 λ_ _ _ _ _ _ e g f=>by
  exact(C3 (D9 (X8 (ay a (by decide) e rfl (ae (aj 0) am)) (T8 (tZ oM pO oM pO (uv rfl d.g_FEWEST_HANDS) (aj 0) (uv rfl d.g_MOST_HANDS))))))
theorem Gn:C6 ["number","value"] ["number","value"] (B6 (top 16)):=by walk_at "sc"
theorem dF{b:Addr}{c:Ia}(B:K0 K mg cm)(a:ck P w K mg base cm "is_hand" 2 ["number","value"] L1 2)(F:L2.Fun K "is_passing" "is_passing" (top 16) b c):az P w K mg base aX (3) b c ["number","value"] (aZ K cm M4 2):=
 E3 F Gn λ_ _ _ _ _ _ d e f=>by
  exact(C2 (P4 (PW.pt (w5 (P2 (J5 (V9 (t:=.tuple) B.kit (aj 1) rfl B.b_isinstance rfl B.b_tuple Jk))) (i4 (E8 (X9 e) o4 (bS (aj 1) rfl B.b_len) aq (E1 _)))))
 (C3 (D9 eY))
 E5)
 (C3 (D9 (X8 (ay a (by decide) d rfl (ae (aj 0) (ae (P1 (aj 1) aq (λ_ _=>rfl)) am))) (X8 (ay a (by decide) d rfl (ae (aj 0) (ae (P1 (aj 1) aq (λ_ _=>rfl)) am))) (T8 (R6 (X9 e) o4 (P1 (aj 1) aq (λ_ _=>rfl)) (P1 (aj 1) aq (λ_ _=>rfl)) (E1 _))))))))
theorem sc_first_wrong_passing:C6 ["number","passings","at","passing"] ["number","passings"] (B6 (top 17)):=by walk_at "sc"
theorem bR{b:Addr}{c:Ia}(B:K0 K mg cm)(a:ck P w K mg base cm "is_passing" 3 ["number","value"] M4 2)(F:L2.Fun K "first_wrong_passing" "first_wrong_passing" (top 17) b c):az P w K mg base aX (4) b c ["number","passings"] (aZ K cm G8 2):=
 E3 F sc_first_wrong_passing λ_ _ _ _ _ _ d e f=>by
  exact(C2 (w6 Jw rfl (uu rfl B.b_enumerate (aj 1)) (hY rfl (aW (aA (au (i:=2) sc_first_wrong_passing.nd rfl (.inl rfl))) (aW (aA (au (i:=3) sc_first_wrong_passing.nd rfl (.inl rfl))) cH)))
 (C3 (P4 (PW.pt (w5 (P2 (J5 (ay a (by decide) d rfl (ae (aj 0) (ae (aj 3) am))))) (i4 (E8 (i6 e) hZ (aj 3) (lr (aj 1) eB (lq (aj 2))) (by rfl)))))
 (C3 (D9 (aj 2)))
 E5)))
 (C3 (D9 Av)))
theorem Go:C6 ["self","plan","free"] ["self","plan","free"] (B6 (B9 (top 27) 0)):=by walk_at "sc"
theorem dq{a:Addr}{b:Ia}(B:K0 K mg cm)(F:eZ K "__init__" "Ledger.__init__" (B9 (top 27) 0) a b #[.none]):az P w K mg base aX (1) a b ["self","plan","free"] (aZ K cm N0 3):=
 Eb F Go λ_ _ _ _ _ _ d e c=>by
  exact(C2 (l5 6 B (aj 0) (aj 1))
 (C2 (l5 7 B (aj 0) (pR (tY (aj 2)) (bw am) (n9 (aj 2) rfl B.b_list IR)))
 (C2 (l5 11 B (aj 0) (qv (aL 7 B (aj 0)) rfl B.b_tuple Jk))
 (C2 (l5 12 B (aj 0) aq)
 (C2 (l5 13 B (aj 0) nY)
 (C2 (l5 14 B (aj 0) nY)
 (C3 (l5 15 B (aj 0) nY))))))))
theorem Gp:C6 ["self","does"] ["self","does"] (B6 (B9 (top 30) 0)):=by walk_at "sc"
theorem ei{a:Addr}{b:Ia}(B:K0 K mg cm)(F:L2.Fun K "__init__" "Free.__init__" (B9 (top 30) 0) a b):az P w K mg base aX (1) a b ["self","does"] (aZ K cm bf 2):=
 E3 F Gp λ_ _ _ _ _ _ d e c=>by
  exact(C3 (l5 16 B (aj 0) (pR (J5 (V9 (t:=.list) B.kit (aj 1) rfl B.b_isinstance rfl B.b_list IR)) (n9 (aj 1) rfl B.b_list IR) (aj 1))))
theorem Gq:C6 ["numbers"] ["numbers"] (B6 (top 38)):=by walk_at "sc"
theorem em{a:Addr}{b:Ia}(B:K0 K mg cm)(F:L2.Fun K "is_rising" "is_rising" (top 38) a b):az P w K mg base aX (1) a b ["numbers"] (aZ K cm R8 1):=
 E3 F Gq λ_ _ _ _ _ _ d e c=>by
  exact(C3 (D9 (w8 rfl (N2 (N:=["low","high"]) [none,none] rfl (⟨rfl,rfl,by decide +kernel,by decide +kernel,ax,(af (λh=>nomatch h) (af (λh=>nomatch h) (af (λh=>nomatch h) ax)))⟩) (.own (.own .nil)) (iV (λ_ _=>nofun) rfl B.b_zip (aj 0) (lr (aj 0) (lq aq) eB)) (λ_ _ _ _=>(hY rfl (aW (aA (au (i:=0) (show IK (["low","high"]:List Str)from by decide +kernel) rfl (by walk_at "o2"))) (aW (aA (au (i:=1) (show IK (["low","high"]:List Str)from by decide +kernel) rfl (by walk_at "o2"))) cH)))) (λ_ _ _ _=>Q8) (λ_ _ _ _=>(R6 iK iQ (aj 0) (aj 1) (E1 _)))) rfl B.b_all)))
theorem Gr:C6 ["web","leaders"] ["web","leaders"] (B6 (top 39)):=by walk_at "sc"
theorem dr{c:Addr}{d:Ia}(B:K0 K mg cm)(a:ck P w K mg base cm "is_rising" 1 ["numbers"] R8 1)(b:ck P w K mg base cm "is_hand" 2 ["number","value"] L1 2)(F:L2.Fun K "are_leaders" "are_leaders" (top 39) c d):az P w K mg base aX (3) c d ["web","leaders"] (aZ K cm O2 2):=
 E3 F Gr λ_ _ _ _ _ _ e f g=>by
  exact(C2 (P4 (PW.pt (w5 (P2 (J5 (V9 (t:=.list) B.kit (aj 1) rfl B.b_isinstance rfl B.b_list IR))) (i4 (E8 (M7 f) Q4 (aj 1) (bw am) (E1 _)))))
 (C3 (D9 eY))
 E5)
 (C3 (D9 (X8 (w8 rfl (N2 (N:=["h","web"]) [none,some 0] rfl (⟨rfl,rfl,by decide +kernel,by decide +kernel,(af rfl ax),(af (by walk_at "fb") (af (by walk_at "fb") (af (by walk_at "fb") (af (by walk_at "fb") ax))))⟩) (.own (.free rfl (by walk_at "o2") (by walk_at "o3") rfl (by walk_at "o2") .nil)) (ba (aj 1)) (λ_ _ _ _=>(aA (au (i:=0) (show IK (["h","web"]:List Str)from by decide +kernel) rfl (by walk_at "o2")))) (λ_ _ _ _=>Q8) (λ_ _ _ _=>(ay b (by decide) e rfl (ae (aL 0 B (aj 1)) (ae (aj 0) am))))) rfl B.b_all) (T8 (ay a (by decide) e rfl (ae (aj 1) am)))))))
theorem Gs:C6 ["value"] ["value"] (B6 (top 40)):=by walk_at "sc"
theorem eI{b:Addr}{c:Ia}(B:K0 K mg cm)(a:ck P w K mg base cm "is_whole" 1 ["value"] M8 1)(F:L2.Fun K "is_limit" "is_limit" (top 40) b c):az P w K mg base aX (2) b c ["value"] (aZ K cm U0 1):=
 E3 F Gs λ_ _ _ _ _ _ d f e=>by
  exact(C3 (D9 (X8 (ay a (by decide) d rfl (ae (aj 0) am)) (T8 (R6 yK Ax (aj 0) aq (E1 _))))))
theorem sc_Plan_init:C6 ["self","web","leaders","limits","kept","passing"] ["self","web","leaders","limits"] (B6 (B9 (top 41) 0)):=by walk_at "sc"
theorem en{d:Addr}{e:Ia}(B:K0 K mg cm)(a:ck P w K mg base cm "are_leaders" 3 ["web","leaders"] O2 2)(b:ck P w K mg base cm "is_limit" 2 ["value"] U0 1)(F:L2.Fun K "__init__" "Plan.__init__" (B9 (top 41) 0) d e):az P w K mg base aX (4) d e ["self","web","leaders","limits"] (aZ K cm P6 4):=
 E3 F sc_Plan_init λ_ _ _ _ _ _ f g c=>by
  exact(C2 (P4 (P2 (J5 (ay a (by decide) f rfl (ae (aj 1) (ae (aj 2) am)))))
 (C3 lu)
 E5)
 (C2 (K5 (i:=4) sc_Plan_init.nd rfl (.inl rfl) nY)
 (C2 (w6 Jw rfl (ba (aL 1 B (aj 1))) (aA (au (i:=5) sc_Plan_init.nd rfl (.inl rfl)))
 (C2 (P4 (P2 (J5 (ay b (by decide) f rfl (ae (CF c (aj 3) (aj 5)) am))))
 (C3 lu)
 E5)
 (C3 (vk c (aj 4) (aj 5) (nX c (aj 3) (aj 5) (λ_ _=>rfl))))))
 (C2 (l5 3 B (aj 0) (aj 1))
 (C2 (l5 4 B (aj 0) (n9 (aj 2) rfl B.b_list IR))
 (C2 (l5 5 B (aj 0) (Do (aj 4) rfl B.b_dict))
 (C2 (l5 9 B (aj 0) (qv (aj 2) rfl B.b_tuple Jk))
 (C3 (l5 10 B (aj 0) (aj 4))))))))))
theorem Gu:C6 ["self"] ["self"] (B6 (B9 (top 27) 1)):=by walk_at "sc"
theorem dt{a:Addr}{b:Ia}(B:K0 K mg cm)(F:L2.Fun K "turn" "Ledger.turn" (B9 (top 27) 1) a b):az P w K mg base aX (1) a b ["self"] (aZ K cm bb 1):=
 E3 F Gu λ_ _ _ _ _ _ d e c=>by
  exact(C3 (D9 (aL 12 B (aj 0))))
theorem sc_Free_deeds:C6 ["self","ledger","does"] ["self","ledger"] (B6 (B9 (top 30) 1)):=by walk_at "sc"
theorem dG{b:Addr}{c:Ia}(B:K0 K mg cm)(a:i7 P w K mg base cm 2 "turn" 1 ["self"] bb 1)(F:L2.Fun K "deeds" "Free.deeds" (B9 (top 30) 1) b c):az P w K mg base aX (2) b c ["self","ledger"] (aZ K cm P8 2):=
 E3 F sc_Free_deeds λ_ _ _ _ _ _ d e f=>by
  exact(C2 (K5 (i:=2) sc_Free_deeds.nd rfl (.inl rfl) (aL 16 B (aj 0)))
 (C2 (P4 (J5 (V9 (t:=.list) B.kit (aj 2) rfl B.b_isinstance rfl B.b_list IR))
 (C3 (D9 (N2 (N:=["turn","deed","ledger"]) [none,none,some 1] rfl (⟨rfl,rfl,by decide +kernel,by decide +kernel,(af rfl ax),(af (λh=>nomatch h) (af (λh=>nomatch h) (af (λh=>nomatch h) (af (λ_=>rfl) ax))))⟩) (.own (.own (.free rfl (by walk_at "o2") (by walk_at "o3") rfl (by walk_at "o2") .nil))) (ba (aj 2)) (λ_ _ _ _=>(hY rfl (aW (aA (au (i:=0) (show IK (["turn","deed","ledger"]:List Str)from by decide +kernel) rfl (by walk_at "o2"))) (aW (aA (au (i:=1) (show IK (["turn","deed","ledger"]:List Str)from by decide +kernel) rfl (by walk_at "o2"))) cH)))) (λ_ _ _ _=>(i8 (E8 (M7 e) Q4 (aj 0) (bZ a (by decide) d (B.cls _ (by decide)) (aj 2) (by decide +kernel)) (E1 _)))) (λ_ _ _ _=>(aj 1)))))
 E5)
 (C3 lu)))
theorem sc_asked_deeds:C6 ["ledger","hands","rows","h"] ["ledger","hands"] (B6 (top 33)):=by walk_at "sc"
theorem du{c:Addr}{d:Ia}(B:K0 K mg cm)(a:i7 P w K mg base cm 4 "deeds" 2 ["self","ledger"] P8 2)(F:L2.Fun K "asked_deeds" "asked_deeds" (top 33) c d):az P w K mg base aX (3) c d ["ledger","hands"] (aZ K cm O3 2):=
 E3 F sc_asked_deeds λ_ _ _ _ _ _ e f b=>by
  exact(C2 (K5 (i:=2) sc_asked_deeds.nd rfl (.inl rfl) (bw am))
 (C2 (w6 Jw rfl (bM rfl B.b_range (aL 0 B (aL 3 B (aL 6 B (aj 0))))) (aA (au (i:=3) sc_asked_deeds.nd rfl (.inr rfl)))
 (C3 (b6 (BH (aj 2) (N2 (N:=["deed","h"]) [none,some 3] rfl (⟨rfl,rfl,by decide +kernel,by decide +kernel,(af rfl ax),(af (λh=>nomatch h) (af (λh=>nomatch h) (af (λ_=>rfl) ax)))⟩) (.own (.free rfl (by walk_at "o2") (by walk_at "o3") rfl (by walk_at "o2") .nil)) (ba (bg a (by decide) e (B.cls _ (by decide)) (dR b (aj 1) (aj 3) (λ_ _=>rfl)) (ae (aj 0) am) (by decide +kernel))) (λ_ _ _ _=>(aA (au (i:=0) (show IK (["deed","h"]:List Str)from by decide +kernel) rfl (by walk_at "o2")))) (λ_ _ _ _=>Q8) (λ_ _ _ _=>(V8 (ae (aj 1) (ae (aj 0) am)))))))))
 (C3 (D9 (aj 2)))))
theorem Gv:C6 ["web","leaders","chain"] ["web","leaders","chain"] (B6 (top 20)):=by walk_at "sc"
theorem eJ{c:Addr}{d:Ia}(B:K0 K mg cm)(a:ck P w K mg base cm "is_hand" 2 ["number","value"] L1 2)(F:L2.Fun K "is_chain" "is_chain" (top 20) c d):az P w K mg base aX (3) c d ["web","leaders","chain"] (aZ K cm U3 3):=
 E3 F Gv λ_ _ _ _ _ _ e b f=>by
  exact(C2 (P4 (PW.pt (w5 (E8 (M7 b) Q4 (aj 2) (V8 am) (E1 _)) (i4 (E8 (uo b) uq (P1 (aj 2) nP (λ_ _=>rfl)) (aj 1) (by rfl)))))
 (C3 (D9 eY))
 E5)
 (C2 (P4 (PW.pt (w5 (E8 iK iQ (BX rfl (aj 2) rfl B.b_len rfl B.b_set) (bS (aj 2) rfl B.b_len) (E1 _)) (i4 (P2 (J5 (w8 rfl (N2 (N:=["h","web"]) [none,some 0] rfl (⟨rfl,rfl,by decide +kernel,by decide +kernel,(af rfl ax),(af (by walk_at "fb") (af (by walk_at "fb") (af (by walk_at "fb") (af (by walk_at "fb") ax))))⟩) (.own (.free rfl (by walk_at "o2") (by walk_at "o3") rfl (by walk_at "o2") .nil)) (ba (aj 2)) (λ_ _ _ _=>(aA (au (i:=0) (show IK (["h","web"]:List Str)from by decide +kernel) rfl (by walk_at "o2")))) (λ_ _ _ _=>Q8) (λ_ _ _ _=>(ay a (by decide) e rfl (ae (aL 0 B (aj 1)) (ae (aj 0) am))))) rfl B.b_all))))))
 (C3 (D9 eY))
 E5)
 (C3 (D9 (w8 rfl (N2 (N:=["step","web"]) [none,some 0] rfl (⟨rfl,rfl,by decide +kernel,by decide +kernel,(af rfl ax),(af (λh=>nomatch h) (af (λh=>nomatch h) (af (λ_=>rfl) ax)))⟩) (.own (.free rfl (by walk_at "o2") (by walk_at "o3") rfl (by walk_at "o2") .nil)) (iV (λ_ _=>nofun) rfl B.b_zip (aj 2) (lr (aj 2) (lq aq) eB)) (λ_ _ _ _=>(aA (au (i:=0) (show IK (["step","web"]:List Str)from by decide +kernel) rfl (by walk_at "o2")))) (λ_ _ _ _=>Q8) (λ_ _ _ _=>(R6 (i6 b) hZ (aj 0) (aL 1 B (aj 1)) (by rfl)))) rfl B.b_all)))))
theorem Gw:C6 ["plan","value"] ["plan","value"] (B6 (top 25)):=by walk_at "sc"
theorem dv{c:Addr}{d:Ia}(B:K0 K mg cm)(b:ck P w K mg base cm "is_hand" 2 ["number","value"] L1 2)(a:ck P w K mg base cm "is_chain" 3 ["web","leaders","chain"] U3 3)(F:L2.Fun K "is_chain_of" "is_chain_of" (top 25) c d):az P w K mg base aX (4) c d ["plan","value"] (aZ K cm O4 2):=
 E3 F Gw λ_ _ _ _ _ _ e g f=>by
  exact(C2 (P4 (PW.pt (w5 (P2 (J5 (V9 (t:=.tuple) B.kit (aj 1) rfl B.b_isinstance rfl B.b_tuple Jk))) (i4 (P2 (J5 (w8 rfl (N2 (N:=["h","plan"]) [none,some 0] rfl (⟨rfl,rfl,by decide +kernel,by decide +kernel,(af rfl ax),(af (by walk_at "fb") (af (by walk_at "fb") (af (by walk_at "fb") (af (by walk_at "fb") ax))))⟩) (.own (.free rfl (by walk_at "o2") (by walk_at "o3") rfl (by walk_at "o2") .nil)) (ba (aj 1)) (λ_ _ _ _=>(aA (au (i:=0) (show IK (["h","plan"]:List Str)from by decide +kernel) rfl (by walk_at "o2")))) (λ_ _ _ _=>Q8) (λ_ _ _ _=>(ay b (by decide) e rfl (ae (aL 0 B (aL 3 B (aj 1))) (ae (aj 0) am))))) rfl B.b_all))))))
 (C3 (D9 eY))
 E5)
 (C3 (D9 (ay a (by decide) e rfl (ae (aL 3 B (aj 0)) (ae (aL 9 B (aj 0)) (ae (aj 1) am)))))))
theorem Gx:C6 ["web","value"] ["web","value"] (B6 (top 24)):=by walk_at "sc"
theorem ge{b:Addr}{c:Ia}(B:K0 K mg cm)(a:ck P w K mg base cm "is_passing" 3 ["number","value"] M4 2)(F:L2.Fun K "is_box" "is_box" (top 24) b c):az P w K mg base aX (4) b c ["web","value"] (aZ K cm d7 2):=
 E3 F Gx λ_ _ _ _ _ _ d e f=>by
  exact(C3 (D9 (X8 (ay a (by decide) d rfl (ae (aL 0 B (aj 0)) (ae (aj 1) am))) (T8 (R6 (i6 e) hZ (aj 1) (aL 1 B (aj 0)) (by rfl))))))
theorem Gy:C6 ["plan","value"] ["plan","value"] (B6 (top 26)):=by walk_at "sc"
theorem fq{d:Addr}{e:Ia}(B:K0 K mg cm)(f:mF mg)(b:ck P w K mg base cm "is_box" 4 ["web","value"] d7 2)(a:ck P w K mg base cm "is_chain_of" 4 ["plan","value"] O4 2)(F:L2.Fun K "is_deed" "is_deed" (top 26) d e):az P w K mg base aX (5) d e ["plan","value"] (aZ K cm O5 2):=
 E3 F Gy λ_ _ _ _ _ _ g c h=>by
  exact(C2 (P4 (PW.pt (w5 (P2 (J5 (V9 (t:=.tuple) B.kit (aj 1) rfl B.b_isinstance rfl B.b_tuple Jk))) (w5 (E8 iK iQ (bS (aj 1) rfl B.b_len) aq (E1 _)) (i4 (P2 (J5 (ay b (by decide) g rfl (ae (aL 3 B (aj 0)) (ae (P1 (aj 1) aq (λ_ _=>rfl)) am)))))))))
 (C3 (D9 eY))
 E5)
 (C2 (P4 (E8 (M7 c) Q4 (bS (aj 1) rfl B.b_len) aq (E1 _))
 (C3 (D9 (R6 (M7 c) Q4 (P1 (aj 1) aq (λ_ _=>rfl)) (og rfl f.g_LAY) (E1 _))))
 E5)
 (C2 (P4 (PW.pt (w5 (E8 (X9 c) o4 (bS (aj 1) rfl B.b_len) aq (E1 _)) (i4 (E8 (X9 c) o4 (P1 (aj 1) aq (λ_ _=>rfl)) (og rfl f.g_SAY) (E1 _)))))
 (C3 (D9 eY))
 E5)
 (C3 (D9 (X8 (ay a (by decide) g rfl (ae (aj 0) (ae (P1 (aj 1) aq (λ_ _=>rfl)) am))) (T8 (R6 (M7 c) Q4 (P1 (P1 (aj 1) aq (λ_ _=>rfl)) aq (λ_ _=>rfl)) (P1 (P1 (aj 1) aq (λ_ _=>rfl)) aq (λ_ _=>rfl)) (E1 _)))))))))
theorem sc_is_own:C6 ["plan","h","deed","doer"] ["plan","h","deed"] (B6 (top 32)):=by walk_at "sc"
theorem gf{b:Addr}{c:Ia}(B:K0 K mg cm)(e:mF mg)(a:ck P w K mg base cm "is_deed" 5 ["plan","value"] O5 2)(F:L2.Fun K "is_own" "is_own" (top 32) b c):az P w K mg base aX (6) b c ["plan","h","deed"] (aZ K cm W2 3):=
 E3 F sc_is_own λ_ _ _ _ _ _ f d g=>by
  exact(C2 (P4 (P2 (J5 (ay a (by decide) f rfl (ae (aj 0) (ae (aj 2) am)))))
 (C3 (D9 eY))
 E5)
 (C2 (K5 (i:=3) sc_is_own.nd rfl (.inl rfl) (pR (E8 (M7 d) Q4 (P1 (aj 2) aq (λ_ _=>rfl)) (og rfl e.g_LAY) (E1 _)) (P1 (P1 (aj 2) aq (λ_ _=>rfl)) aq (λ_ _=>rfl)) (P1 (P1 (aj 2) aq (λ_ _=>rfl)) aq (λ_ _=>rfl))))
 (C3 (D9 (R6 (M7 d) Q4 (aj 3) (aj 1) (E1 _))))))
theorem Gz:C6 ["self","deed"] ["self","deed"] (B6 (B9 (top 27) 4)):=by walk_at "sc"
theorem cp{c:Addr}{d:Ia}(B:K0 K mg cm)(a:jC P w K mg base cm 13 "Laid" 1)(F:L2.Fun K "take_lay" "Ledger.take_lay" (B9 (top 27) 4) c d):az P w K mg base (fK P w) 3 c d ["self","deed"] (iX K cm K2 2):=
 qN F Gz λ_ _ _ _ _ _ e f b=>
  (W0 (kz (CD b (P1 (aj 1) aq (λ_ _=>rfl)) (aL 13 B (aj 0)))
 (V2 (p6 jB rfl a (by decide) e rfl (ae (aj 1) am)))
 (lK E5))
 (V2 (lJ (vk b (aL 13 B (aj 0)) (P1 (aj 1) aq (λ_ _=>rfl)) (aL 12 B (aj 0))))))
theorem GA:C6 ["self","passing"] ["self","passing"] (B6 (B9 (top 41) 1)):=by walk_at "sc"
theorem dH{b:Addr}{c:Ia}(B:K0 K mg cm)(F:L2.Fun K "limit" "Plan.limit" (B9 (top 41) 1) b c):az P w K mg base aX (1) b c ["self","passing"] (aZ K cm T1 2):=
 E3 F GA λ_ _ _ _ _ _ d e a=>by
  exact(C3 (D9 (nX a (aL 10 B (aj 0)) (aj 1) (λ_ _=>rfl))))
theorem GB:C6 ["self","passing","chain"] ["self","passing","chain"] (B6 (B9 (top 27) 8)):=by walk_at "sc"
theorem cM{b:Addr}{c:Ia}(B:K0 K mg cm)(a:i7 P w K mg base cm 1 "limit" 1 ["self","passing"] T1 2)(F:L2.Fun K "is_late" "Ledger.is_late" (B9 (top 27) 8) b c):az P w K mg base aX (2) b c ["self","passing","chain"] (aZ K cm L3 3):=
 E3 F GB λ_ _ _ _ _ _ d f e=>by
  exact(C3 (D9 (R6 kO lj (aL 12 B (aj 0)) (aI aJ aS (bg a (by decide) d (B.cls _ (by decide)) (aL 6 B (aj 0)) (ae (aj 1) am) (by decide +kernel)) (bS (aj 2) rfl B.b_len)) (E1 _))))
theorem f6:C6 ["self","passing"] ["self","passing"] (B6 (B9 (top 27) 7)):=by walk_at "sc"
theorem bG{b:Addr}{c:Ia}(B:K0 K mg cm)(F:L2.Fun K "is_laid_ahead" "Ledger.is_laid_ahead" (B9 (top 27) 7) b c):az P w K mg base aX (1) b c ["self","passing"] (aZ K cm G2 2):=
 E3 F f6 λ_ _ _ _ _ _ d e a=>by
  exact(C3 (D9 (X8 (vj a (aj 1) (aL 13 B (aj 0))) (T8 (R6 iK iQ (nX a (aL 13 B (aj 0)) (aj 1) (λ_ _=>rfl)) (aL 12 B (aj 0)) (E1 _))))))
theorem f7:C6 ["self","chain"] ["self","chain"] (B6 (B9 (top 27) 10)):=by walk_at "sc"
theorem bH{b:Addr}{c:Ia}(B:K0 K mg cm)(F:L2.Fun K "is_said_ahead" "Ledger.is_said_ahead" (B9 (top 27) 10) b c):az P w K mg base aX (1) b c ["self","chain"] (aZ K cm G3 2):=
 E3 F f7 λ_ _ _ _ _ _ d e a=>by
  exact(C3 (D9 (X8 (vj a (aj 1) (aL 15 B (aj 0))) (T8 (R6 iK iQ (nX a (aL 15 B (aj 0)) (aj 1) (λ_ _=>rfl)) (aL 12 B (aj 0)) (E1 _))))))
theorem sc_Ledger_is_sayable:C6 ["self","chain","left"] ["self","chain"] (B6 (B9 (top 27) 9)):=by walk_at "sc"
theorem cj{c:Addr}{d:Ia}(B:K0 K mg cm)(a:i7 P w K mg base cm 2 "is_said_ahead" 1 ["self","chain"] G3 2)(F:L2.Fun K "is_sayable" "Ledger.is_sayable" (B9 (top 27) 9) c d):az P w K mg base aX (2) c d ["self","chain"] (aZ K cm J3 2):=
 E3 F sc_Ledger_is_sayable λ_ _ _ _ _ _ e b f=>by
  exact(C2 (K5 (i:=2) sc_Ledger_is_sayable.nd rfl (.inl rfl) (lr (aj 1) (lq aq) eB))
 (C2 (ug Jw (PW.pt (kt (E8 (X9 b) o4 (aj 2) (V8 am) (E1 _)) (u5 (E8 (i6 b) hZ (P1 (aj 2) aq (λ_ _=>rfl)) (aL 11 B (aj 0)) (by rfl)))))
 (C3 (K5 (i:=2) sc_Ledger_is_sayable.nd rfl (.inl rfl) (lr (aj 2) (lq aq) eB))))
 (C3 (D9 (AG (R6 (M7 b) Q4 (aj 2) (V8 am) (E1 _)) (AF (bg a (by decide) e (B.cls _ (by decide)) (aj 0) (ae (aj 2) am) (by decide +kernel))))))))
theorem sc_Ledger_take_say:C6 ["self","deed","passing","chain"] ["self","deed"] (B6 (B9 (top 27) 5)):=by walk_at "sc"
theorem cq{j:Addr}{l:Ia}(B:K0 K mg cm)(a:i7 P w K mg base cm 2 "is_laid_ahead" 1 ["self","passing"] G2 2)(d:jC P w K mg base cm 14 "NotLaid" 1)(c:i7 P w K mg base cm 2 "is_late" 2 ["self","passing","chain"] L3 3)(f:jC P w K mg base cm 15 "Late" 1)(b:i7 P w K mg base cm 2 "is_sayable" 2 ["self","chain"] J3 2)(e:jC P w K mg base cm 16 "Unknown" 1)(F:L2.Fun K "take_say" "Ledger.take_say" (B9 (top 27) 5) j l):az P w K mg base (fK P w) 3 j l ["self","deed"] (iX K cm K3 2):=
 qN F sc_Ledger_take_say λ_ _ _ _ _ _ g m h=>
  (W0 (lJ (K5 (i:=2) sc_Ledger_take_say.nd rfl (.inl rfl) (P1 (aj 1) aq (λ_ _=>rfl))))
 (W0 (lJ (K5 (i:=3) sc_Ledger_take_say.nd rfl (.inl rfl) (P1 (aj 1) aq (λ_ _=>rfl))))
 (W0 (kz (P2 (J5 (bg a (by decide) g (B.cls _ (by decide)) (aj 0) (ae (aj 2) am) (by decide +kernel))))
 (V2 (p6 jB rfl d (by decide) g rfl (ae (aj 1) am)))
 (lK E5))
 (W0 (kz (J5 (bg c (by decide) g (B.cls _ (by decide)) (aj 0) (ae (aj 2) (ae (aj 3) am)) (by decide +kernel)))
 (V2 (p6 jB rfl f (by decide) g rfl (ae (aj 1) am)))
 (lK E5))
 (W0 (kz (P2 (J5 (bg b (by decide) g (B.cls _ (by decide)) (aj 0) (ae (aj 3) am) (by decide +kernel))))
 (V2 (p6 jB rfl e (by decide) g rfl (ae (aj 1) am)))
 (lK E5))
 (W0 (lJ (b6 (o0 (vD h (aL 14 B (aj 0)) (aj 2) (bw am)) (V8 (ae (aL 12 B (aj 0)) (ae (aj 3) am))))))
 (V2 (lJ (b6 (vD h (aL 15 B (aj 0)) (aj 3) (aL 12 B (aj 0))))))))))))
theorem GC:C6 ["self","deed"] ["self","deed"] (B6 (B9 (top 27) 3)):=by walk_at "sc"
theorem da{f:Addr}{g:Ia}(B:K0 K mg cm)(h:mF mg)(c:ck P w K mg base cm "is_deed" 5 ["plan","value"] O5 2)(d:jC P w K mg base cm 12 "NoDeed" 1)(a:lL P w K mg base cm 2 "take_lay" 3 ["self","deed"] K2 2)(b:lL P w K mg base cm 2 "take_say" 3 ["self","deed"] K3 2)(F:L2.Fun K "take" "Ledger.take" (B9 (top 27) 3) f g):az P w K mg base (fK P w) 6 f g ["self","deed"] (iX K cm K8 2):=
 qN F GC λ_ _ _ _ _ _ e i j=>
  (W0 (kz (P2 (J5 (ay c (by decide) e rfl (ae (aL 6 B (aj 0)) (ae (aj 1) am)))))
 (V2 (p6 jB rfl d (by decide) e rfl (ae (aj 1) am)))
 (lK E5))
 (V2 (kz (E8 (M7 i) Q4 (P1 (aj 1) aq (λ_ _=>rfl)) (og rfl h.g_LAY) (E1 _))
 (V2 (vb jB (qE a (by decide) e (B.cls _ (by decide)) (aj 0) (ae (aj 1) am) (by decide +kernel))))
 (V2 (vb jB (qE b (by decide) e (B.cls _ (by decide)) (aj 0) (ae (aj 1) am) (by decide +kernel)))))))
theorem GF:C6 ["ledger","deed"] ["ledger","deed"] (B6 (top 34)):=by walk_at "sc"
theorem cO{b:Addr}{c:Ia}(B:K0 K mg cm)(d:qF K cm [7,8,9,12,13,14,15,16])(e:xf mg cm)(a:lL P w K mg base cm 2 "take" 6 ["self","deed"] K8 2)(F:L2.Fun K "take_where_let" "take_where_let" (top 34) b c):az P w K mg base aX (7) b c ["ledger","deed"] (aZ K cm J1 2):=
 E3 F GF λ_ _ _ _ _ _ f h g=>by
  exact(C3 (CC ⟨rfl,rfl⟩ (CB (qE a (by decide) f (B.cls _ (by decide)) (aj 0) (ae (aj 1) am) (by decide +kernel))) (Cz d (by decide) rfl e.m_SwapError (λ_=>(C3 AJ)) Cy)))
theorem sc_do_turn:C6 ["ledger","hands","h","deed"] ["ledger","hands"] (B6 (top 35)):=by walk_at "sc"
theorem ft{e:Addr}{f:Ia}(B:K0 K mg cm)(b:ck P w K mg base cm "asked_deeds" 3 ["ledger","hands"] O3 2)(c:ck P w K mg base cm "is_own" 6 ["plan","h","deed"] W2 3)(a:ck P w K mg base cm "take_where_let" 7 ["ledger","deed"] J1 2)(F:L2.Fun K "do_turn" "do_turn" (top 35) e f):az P w K mg base aX (8) e f ["ledger","hands"] (aZ K cm R9 2):=
 E3 F sc_do_turn λ_ _ _ _ _ _ d h g=>by
  exact(C3 (w6 Jw rfl (ba (ay b (by decide) d rfl (ae (aj 0) (ae (aj 1) am)))) (hY rfl (aW (aA (au (i:=2) sc_do_turn.nd rfl (.inl rfl))) (aW (aA (au (i:=3) sc_do_turn.nd rfl (.inl rfl))) cH)))
 (C3 (P4 (J5 (ay c (by decide) d rfl (ae (aL 6 B (aj 0)) (ae (aj 2) (ae (aj 3) am)))))
 (C3 (b6 (ay a (by decide) d rfl (ae (aj 0) (ae (aj 3) am)))))
 E5))))
theorem GG:C6 ["self"] ["self"] (B6 (B9 (top 27) 12)):=by walk_at "sc"
theorem dw{a:Addr}{b:Ia}(B:K0 K mg cm)(F:L2.Fun K "laid" "Ledger.laid" (B9 (top 27) 12) a b):az P w K mg base aX (1) a b ["self"] (aZ K cm O6 1):=
 E3 F GG λ_ _ _ _ _ _ d e c=>by
  exact(C3 (D9 (DA rfl (aL 13 B (aj 0)) rfl B.b_sorted)))
theorem GH:C6 ["self","passing"] ["self","passing"] (B6 (B9 (top 27) 14)):=by walk_at "sc"
theorem dy{b:Addr}{c:Ia}(B:K0 K mg cm)(F:L2.Fun K "said" "Ledger.said" (B9 (top 27) 14) b c):az P w K mg base aX (1) b c ["self","passing"] (aZ K cm O7 2):=
 E3 F GH λ_ _ _ _ _ _ d e a=>by
  exact(C3 (D9 (n9 (CG a (aL 14 B (aj 0)) (aj 1) (bw am)) rfl B.b_list IR)))
theorem sc_Ledger_has_all_words:C6 ["self","passing","words"] ["self","passing"] (B6 (B9 (top 27) 11)):=by walk_at "sc"
theorem bI{b:Addr}{c:Ia}(B:K0 K mg cm)(a:i7 P w K mg base cm 2 "said" 1 ["self","passing"] O7 2)(F:L2.Fun K "has_all_words" "Ledger.has_all_words" (B9 (top 27) 11) b c):az P w K mg base aX (2) b c ["self","passing"] (aZ K cm G4 2):=
 E3 F sc_Ledger_has_all_words λ_ _ _ _ _ _ d e f=>by
  exact(C2 (K5 (i:=2) sc_Ledger_has_all_words.nd rfl (.inr rfl) (N2 (N:=["turn","chain"]) [none,none] rfl (⟨rfl,rfl,by decide +kernel,by decide +kernel,ax,(af (λh=>nomatch h) (af (λh=>nomatch h) (af (λh=>nomatch h) ax)))⟩) (.own (.own .nil)) (ba (bg a (by decide) d (B.cls _ (by decide)) (aj 0) (ae (aj 1) am) (by decide +kernel))) (λ_ _ _ _=>(hY rfl (aW (aA (au (i:=0) (show IK (["turn","chain"]:List Str)from by decide +kernel) rfl (by walk_at "o2"))) (aW (aA (au (i:=1) (show IK (["turn","chain"]:List Str)from by decide +kernel) rfl (by walk_at "o2"))) cH)))) (λ_ _ _ _=>Q8) (λ_ _ _ _=>(P1 (aj 1) nP (λ_ _=>rfl)))))
 (C3 (D9 (w8 rfl (N2 (N:=["leader","words"]) [none,some 2] rfl (⟨rfl,rfl,by decide +kernel,by decide +kernel,(af rfl ax),(af (λh=>nomatch h) (af (λh=>nomatch h) (af (λ_=>rfl) ax)))⟩) (.own (.free rfl (by walk_at "o2") (by walk_at "o3") rfl (by walk_at "o2") .nil)) (ba (aL 9 B (aL 6 B (aj 0)))) (λ_ _ _ _=>(aA (au (i:=0) (show IK (["leader","words"]:List Str)from by decide +kernel) rfl (by walk_at "o2")))) (λ_ _ _ _=>Q8) (λ_ _ _ _=>(R6 (i6 e) hZ (aj 0) (aj 1) (by rfl)))) rfl B.b_all))))
theorem GI:C6 ["self"] ["self"] (B6 (B9 (top 27) 13)):=by walk_at "sc"
theorem cT{c:Addr}{d:Ia}(B:K0 K mg cm)(a:i7 P w K mg base cm 2 "has_all_words" 2 ["self","passing"] G4 2)(b:i7 P w K mg base cm 2 "laid" 1 ["self"] O6 1)(F:L2.Fun K "opened" "Ledger.opened" (B9 (top 27) 13) c d):az P w K mg base aX (3) c d ["self"] (aZ K cm L8 1):=
 E3 F GI λ_ _ _ _ _ _ e g f=>by
  exact(C3 (D9 (N2 (N:=["passing","self"]) [none,some 0] rfl (⟨rfl,rfl,by decide +kernel,by decide +kernel,(af rfl ax),(af (λh=>nomatch h) (af (λh=>nomatch h) (af (λ_=>rfl) ax)))⟩) (.own (.free rfl (by walk_at "o2") (by walk_at "o3") rfl (by walk_at "o2") .nil)) (ba (bZ b (by decide) e (B.cls _ (by decide)) (aj 0) (by decide +kernel))) (λ_ _ _ _=>(aA (au (i:=0) (show IK (["passing","self"]:List Str)from by decide +kernel) rfl (by walk_at "o2")))) (λ_ _ _ _=>(i8 (J5 (bg a (by decide) e (B.cls _ (by decide)) (aj 1) (ae (aj 0) am) (by decide +kernel))))) (λ_ _ _ _=>(aj 0)))))
theorem GJ:C6 ["self"] ["self"] (B6 (B9 (top 36) 1)):=by walk_at "sc"
theorem dJ{a:Addr}{b:Ia}(B:K0 K mg cm)(F:L2.Fun K "opened" "Run.opened" (B9 (top 36) 1) a b):az P w K mg base aX (1) a b ["self"] (aZ K cm bh 1):=
 E3 F GJ λ_ _ _ _ _ _ d e c=>by
  exact(C3 (D9 (n9 (aL 18 B (aj 0)) rfl B.b_list IR)))
theorem GK:C6 ["self"] ["self"] (B6 (B9 (top 27) 2)):=by walk_at "sc"
theorem dz{a:Addr}{b:Ia}(B:K0 K mg cm)(F:L2.Fun K "move" "Ledger.move" (B9 (top 27) 2) a b):az P w K mg base aX (1) a b ["self"] (aZ K cm O8 1):=
 E3 F GK λ_ _ _ _ _ _ d e c=>by
  exact(C3 (l5 12 B (aj 0) (aI aJ aS (aL 12 B (aj 0)) aq)))
theorem sc_Run_init:C6 ["self","plan","hands","free","turns","kept","ahead"] ["self","plan","hands","free","turns"] (B6 (B9 (top 36) 0)):=by walk_at "sc"
theorem eM{f:Addr}{g:Ia}(B:K0 K mg cm)(b:jA P w K mg base cm 2 "Ledger" 1 ["self","plan","free"] N0 3)(c:i7 P w K mg base cm 2 "move" 1 ["self"] O8 1)(d:ck P w K mg base cm "do_turn" 8 ["ledger","hands"] R9 2)(a:i7 P w K mg base cm 2 "opened" 3 ["self"] L8 1)(F:L2.Fun K "__init__" "Run.__init__" (B9 (top 36) 0) f g):az P w K mg base aX (9) f g ["self","plan","hands","free","turns"] (aZ K cm Q9 5):=
 E3 F sc_Run_init λ_ _ _ _ _ _ e j h=>by
  exact(C2 (l5 8 B (aj 0) (lv b (by decide) e rfl (ae (aj 1) (ae (aj 3) am))))
 (C2 (K5 (i:=5) sc_Run_init.nd rfl (.inl rfl) (Ed (aj 2) rfl B.b_dict))
 (C2 (w6 Jw rfl (bM rfl B.b_range (aj 4)) (aA (au (i:=6) sc_Run_init.nd rfl (.inl rfl)))
 (C2 (P4 (E8 kO lj (aj 6) aq (E1 _))
 (C3 (b6 (bZ c (by decide) e (B.cls _ (by decide)) (aL 8 B (aj 0)) (by decide +kernel))))
 E5)
 (C3 (b6 (ay d (by decide) e rfl (ae (aL 8 B (aj 0)) (ae (aj 5) am)))))))
 (C3 (l5 18 B (aj 0) (qv (bZ a (by decide) e (B.cls _ (by decide)) (aL 8 B (aj 0)) (by decide +kernel)) rfl B.b_tuple Jk))))))
theorem sc_Web_init:C6 ["self","number","passings","wrong"] ["self","number","passings"] (B6 (B9 (top 18) 0)):=by walk_at "sc"
theorem eN{c:Addr}{d:Ia}(B:K0 K mg cm)(b:ck P w K mg base cm "is_number_of_hands" 2 ["value"] J0 1)(a:ck P w K mg base cm "first_wrong_passing" 4 ["number","passings"] G8 2)(F:L2.Fun K "__init__" "Web.__init__" (B9 (top 18) 0) c d):az P w K mg base aX (5) c d ["self","number","passings"] (aZ K cm P7 3):=
 E3 F sc_Web_init λ_ _ _ _ _ _ e f g=>by
  exact(C2 (P4 (P2 (J5 (ay b (by decide) e rfl (ae (aj 1) am))))
 (C3 lu)
 E5)
 (C2 (K5 (i:=3) sc_Web_init.nd rfl (.inl rfl) (ay a (by decide) e rfl (ae (aj 1) (ae (aj 2) am))))
 (C2 (P4 (AC (aj 3))
 (C3 lu)
 E5)
 (C2 (l5 0 B (aj 0) (aj 1))
 (C3 (l5 1 B (aj 0) (Bm f (aj 2) rfl B.b_sorted)))))))
theorem GN:C6 ["self","h"] ["self","h"] (B6 (B9 (top 18) 1)):=by walk_at "sc"
theorem cU{a:Addr}{b:Ia}(B:K0 K mg cm)(F:L2.Fun K "givers_of" "Web.givers_of" (B9 (top 18) 1) a b):az P w K mg base aX (1) a b ["self","h"] (aZ K cm L9 2):=
 E3 F GN λ_ _ _ _ _ _ e c d=>by
  exact(C3 (D9 (N2 (N:=["giver","taker","h"]) [none,none,some 1] rfl (⟨rfl,rfl,by decide +kernel,by decide +kernel,(af rfl ax),(af (λh=>nomatch h) (af (λh=>nomatch h) (af (λh=>nomatch h) (af (λ_=>rfl) ax))))⟩) (.own (.own (.free rfl (by walk_at "o2") (by walk_at "o3") rfl (by walk_at "o2") .nil))) (ba (aL 1 B (aj 0))) (λ_ _ _ _=>(hY rfl (aW (aA (au (i:=0) (show IK (["giver","taker","h"]:List Str)from by decide +kernel) rfl (by walk_at "o2"))) (aW (aA (au (i:=1) (show IK (["giver","taker","h"]:List Str)from by decide +kernel) rfl (by walk_at "o2"))) cH)))) (λ_ _ _ _=>(i8 (E8 (M7 c) Q4 (aj 1) (aj 2) (E1 _)))) (λ_ _ _ _=>(aj 0)))))
theorem GO:C6 ["self","h"] ["self","h"] (B6 (B9 (top 18) 2)):=by walk_at "sc"
theorem cV{a:Addr}{b:Ia}(B:K0 K mg cm)(F:L2.Fun K "takers_of" "Web.takers_of" (B9 (top 18) 2) a b):az P w K mg base aX (1) a b ["self","h"] (aZ K cm M0 2):=
 E3 F GO λ_ _ _ _ _ _ e c d=>by
  exact(C3 (D9 (N2 (N:=["giver","taker","h"]) [none,none,some 1] rfl (⟨rfl,rfl,by decide +kernel,by decide +kernel,(af rfl ax),(af (λh=>nomatch h) (af (λh=>nomatch h) (af (λh=>nomatch h) (af (λ_=>rfl) ax))))⟩) (.own (.own (.free rfl (by walk_at "o2") (by walk_at "o3") rfl (by walk_at "o2") .nil))) (ba (aL 1 B (aj 0))) (λ_ _ _ _=>(hY rfl (aW (aA (au (i:=0) (show IK (["giver","taker","h"]:List Str)from by decide +kernel) rfl (by walk_at "o2"))) (aW (aA (au (i:=1) (show IK (["giver","taker","h"]:List Str)from by decide +kernel) rfl (by walk_at "o2"))) cH)))) (λ_ _ _ _=>(i8 (E8 (M7 c) Q4 (aj 0) (aj 2) (E1 _)))) (λ_ _ _ _=>(aj 1)))))
theorem sc_Run_outcome:C6 ["self","h","web","own","wished"] ["self","h"] (B6 (B9 (top 36) 3)):=by walk_at "sc"
theorem dA{c:Addr}{d:Ia}(B:K0 K mg cm)(a:i7 P w K mg base cm 0 "takers_of" 1 ["self","h"] M0 2)(b:i7 P w K mg base cm 0 "givers_of" 1 ["self","h"] L9 2)(F:L2.Fun K "outcome" "Run.outcome" (B9 (top 36) 3) c d):az P w K mg base aX (2) c d ["self","h"] (aZ K cm O9 2):=
 E3 F sc_Run_outcome λ_ _ _ _ _ _ e f g=>by
  exact(C2 (K5 (i:=2) sc_Run_outcome.nd rfl (.inl rfl) (aL 3 B (aL 6 B (aL 8 B (aj 0)))))
 (C2 (ly (N:=["taker","h","self"]) [none,some 1,some 0] rfl (⟨rfl,rfl,by decide +kernel,by decide +kernel,(af rfl (af rfl ax)),(af (λh=>nomatch h) (af (λh=>nomatch h) (af (λ_=>rfl) (af (λ_=>rfl) ax))))⟩) (.own (.free rfl (by walk_at "o2") (by walk_at "o3") rfl (by walk_at "o2") (.free rfl (by walk_at "o2") (by walk_at "o3") rfl (by walk_at "o2") .nil))) (ba (bg a (by decide) e (B.cls _ (by decide)) (aj 2) (ae (aj 1) am) (by decide +kernel))) (λ_ _ _ _=>(aA (au (i:=0) (show IK (["taker","h","self"]:List Str)from by decide +kernel) rfl (by walk_at "o2")))) (λ_ _ _ _=>Q8) (λ_ _ _ _=>(R6 (i6 f) hZ (V8 (ae (aj 1) (ae (aj 0) am))) (aL 18 B (aj 2)) (by rfl))) (i:=3) sc_Run_outcome.nd rfl (.inl rfl))
 (C2 (ly (N:=["giver","h","self"]) [none,some 1,some 0] rfl (⟨rfl,rfl,by decide +kernel,by decide +kernel,(af rfl (af rfl ax)),(af (λh=>nomatch h) (af (λh=>nomatch h) (af (λ_=>rfl) (af (λ_=>rfl) ax))))⟩) (.own (.free rfl (by walk_at "o2") (by walk_at "o3") rfl (by walk_at "o2") (.free rfl (by walk_at "o2") (by walk_at "o3") rfl (by walk_at "o2") .nil))) (ba (bg b (by decide) e (B.cls _ (by decide)) (aj 2) (ae (aj 1) am) (by decide +kernel))) (λ_ _ _ _=>(aA (au (i:=0) (show IK (["giver","h","self"]:List Str)from by decide +kernel) rfl (by walk_at "o2")))) (λ_ _ _ _=>Q8) (λ_ _ _ _=>(R6 (i6 f) hZ (V8 (ae (aj 0) (ae (aj 1) am))) (aL 18 B (aj 2)) (by rfl))) (i:=4) sc_Run_outcome.nd rfl (.inl rfl))
 (C2 (P4 (J5 (w8 rfl (aI aJ aS (aj 3) (aj 4)) rfl B.b_all))
 (C3 (D9 y7))
 E5)
 (C2 (P4 (PW.pt (kt (J5 (vE rfl (aj 3) rfl B.b_any)) (u5 (P2 (J5 (w8 rfl (aj 4) rfl B.b_all))))))
 (C3 (D9 y7))
 E5)
 (C2 (P4 (P2 (J5 (vE rfl (aI aJ aS (aj 3) (aj 4)) rfl B.b_any)))
 (C3 (D9 y7))
 E5)
 (C3 (D9 y7))))))))
theorem GP:C6 ["_law_script","_law_k"] ["_law_script","_law_k"] (B6 (top 43)):=by walk_at "sc"
theorem dB{a:Addr}{b:Ia}(B:K0 K mg cm)(F:L2.Fun K "_law_cell_at" "_law_cell_at" (top 43) a b):az P w K mg base aX (1) a b ["_law_script","_law_k"] (aZ K cm K9 2):=
 E3 F GP λ_ _ _ _ _ _ d e c=>by
  exact(C2 (P4 (E8 iK iQ (aj 1) (bS (aj 0) rfl B.b_len) (E1 _))
 (C3 (D9 (P1 (aj 0) (aj 1) (λ_ _=>rfl))))
 E5)
 (C3 (D9 aq)))
theorem GQ:C6 ["_law_found","_law_due"] ["_law_found","_law_due"] (B6 (top 44)):=by walk_at "sc"
theorem bi{d:Addr}{e:Ia}(B:K0 K mg cm)(f:mg "str" = none){g:Nat}{c:Fun}(a:ck P w K mg base cm "_law_alike" g ["_law_found","_law_due"] c 2)(F:L2.Fun K "_law_alike" "_law_alike" (top 44) d e):az P w K mg base aX (g+1) d e ["_law_found","_law_due"] (aZ K cm (D5 c) 2):=
 E3 F GQ λ_ _ _ _ _ _ h b j=>by
  exact(C2 (P4 (tY (aj 1))
 (C3 (D9 (AB (aj 0))))
 E5)
 (C2 (P4 (J5 (V9 (t:=.bool) B.kit (aj 1) rfl B.b_isinstance rfl B.b_bool Le))
 (C3 (D9 (X8 (V9 (t:=.bool) B.kit (aj 0) rfl B.b_isinstance rfl B.b_bool Le) (T8 (R6 (M7 b) Q4 (aj 0) (aj 1) (E1 _))))))
 E5)
 (C2 (P4 (J5 (V9 (t:=.int) B.kit (aj 1) rfl B.b_isinstance rfl B.b_int MJ))
 (C3 (D9 (X8 (V9 (t:=.int) B.kit (aj 0) rfl B.b_isinstance rfl B.b_int MJ) (X8 (ua (V9 (t:=.bool) B.kit (aj 0) rfl B.b_isinstance rfl B.b_bool Le)) (T8 (R6 (M7 b) Q4 (aj 0) (aj 1) (E1 _)))))))
 E5)
 (C2 (P4 (J5 (vB (aj 1) rfl B.b_isinstance rfl f))
 (C3 (D9 (X8 (vB (aj 0) rfl B.b_isinstance rfl f) (T8 (R6 (M7 b) Q4 (aj 0) (aj 1) (E1 _))))))
 E5)
 (C2 (P4 (PW.pt (w5 (E8 (X9 b) o4 (V9 (t:=.tuple) B.kit (aj 1) rfl B.b_isinstance rfl B.b_tuple Jk) (V9 (t:=.tuple) B.kit (aj 0) rfl B.b_isinstance rfl B.b_tuple Jk) (E1 _)) (i4 (E8 (X9 b) o4 (V9 (t:=.list) B.kit (aj 1) rfl B.b_isinstance rfl B.b_list IR) (V9 (t:=.list) B.kit (aj 0) rfl B.b_isinstance rfl B.b_list IR) (E1 _)))))
 (C3 (D9 eY))
 E5)
 (C2 (P4 (E8 (X9 b) o4 (bS (aj 0) rfl B.b_len) (bS (aj 1) rfl B.b_len) (E1 _))
 (C3 (D9 eY))
 E5)
 (C3 (D9 (w8 rfl (N2 (N:=["_law_k","_law_found","_law_due"]) [none,some 0,some 1] rfl (⟨rfl,rfl,by decide +kernel,by decide +kernel,(af rfl (af rfl ax)),(af (by walk_at "fb") (af (by walk_at "fb") (af (by walk_at "fb") (af (by walk_at "fb") (af (by walk_at "fb") ax)))))⟩) (.own (.free rfl (by walk_at "o2") (by walk_at "o3") rfl (by walk_at "o2") (.free rfl (by walk_at "o2") (by walk_at "o3") rfl (by walk_at "o2") .nil))) (bM rfl B.b_range (bS (aj 1) rfl B.b_len)) (λ_ _ _ _=>(aA (au (i:=0) (show IK (["_law_k","_law_found","_law_due"]:List Str)from by decide +kernel) rfl (by walk_at "o2")))) (λ_ _ _ _=>Q8) (λ_ _ _ _=>(ay a (HG _) h rfl (ae (P1 (aj 1) (aj 0) (λ_ _=>rfl)) (ae (P1 (aj 2) (aj 0) (λ_ _=>rfl)) am))))) rfl B.b_all)))))))))
theorem sc_law_mixed:C6 ["_law_cell","_law_k","_law_number"] ["_law_cell","_law_k"] (B6 (top 45)):=by walk_at "sc"
theorem er{a:Addr}{b:Ia}(B:K0 K mg cm)(F:L2.Fun K "_law_mixed" "_law_mixed" (top 45) a b):az P w K mg base aX (1) a b ["_law_cell","_law_k"] (aZ K cm J4 2):=
 E3 F sc_law_mixed λ_ _ _ _ _ _ d e c=>by
  exact(C2 (K5 (i:=2) sc_law_mixed.nd rfl (.inl rfl) (aI bz bB (aI mR nB (aI aJ aS (aI aJ aS (aj 0) (aI mR nB aq (aj 1))) aq) aq) aq))
 (C3 (D9 (aI bz bB (aI mR nB (aj 2) (aI aJ aS (aI sA tV (aj 2) aq) aq)) aq))))
theorem sc_law_ways:C6 ["_law_passings","_law_ways_here","_law_found","_law_more","_law_way"] ["_law_passings","_law_ways_here"] (B6 (top 46)):=by walk_at "sc"
theorem eO{b:Addr}{c:Ia}(B:K0 K mg cm)(F:L2.Fun K "_law_ways" "_law_ways" (top 46) b c):az P w K mg base aX (1) b c ["_law_passings","_law_ways_here"] (aZ K cm U6 2):=
 E3 F sc_law_ways λ_ _ _ _ _ _ e a d=>by
  exact(C2 (K5 (i:=2) sc_law_ways.nd rfl (.inl rfl) (bw am))
 (C2 (ug Jw (E8 (X9 a) o4 (aj 1) (bw am) (E1 _))
 (C2 (K5 (i:=2) sc_law_ways.nd rfl (.inl rfl) (aI aJ aS (aj 2) (aj 1)))
 (C2 (K5 (i:=3) sc_law_ways.nd rfl (.inl rfl) (bw am))
 (C2 (w6 Jw rfl (ba (aj 1)) (aA (au (i:=4) sc_law_ways.nd rfl (.inr rfl)))
 (C3 (K5 (i:=3) sc_law_ways.nd rfl (.inl rfl) (aI aJ aS (aj 3) (N2 (N:=["_law_giver","_law_taker","_law_way"]) [none,none,some 4] rfl (⟨rfl,rfl,by decide +kernel,by decide +kernel,(af rfl ax),(af (λh=>nomatch h) (af (λh=>nomatch h) (af (λh=>nomatch h) (af (λ_=>rfl) ax))))⟩) (.own (.own (.free rfl (by walk_at "o2") (by walk_at "o3") rfl (by walk_at "o2") .nil))) (ba (aj 0)) (λ_ _ _ _=>(hY rfl (aW (aA (au (i:=0) (show IK (["_law_giver","_law_taker","_law_way"]:List Str)from by decide +kernel) rfl (by walk_at "o2"))) (aW (aA (au (i:=1) (show IK (["_law_giver","_law_taker","_law_way"]:List Str)from by decide +kernel) rfl (by walk_at "o2"))) cH)))) (λ_ _ _ _=>(i8 (PW.pt (kt (E8 (M7 a) Q4 (aj 0) (P1 (aj 2) nP (λ_ _=>rfl)) (E1 _)) (u5 (E8 (uo a) uq (aj 1) (aj 2) (by rfl))))))) (λ_ _ _ _=>(aI aJ aS (aj 2) (V8 (ae (aj 1) am)))))))))
 (C3 (K5 (i:=1) sc_law_ways.nd rfl (.inl rfl) (aj 3)))))))
 (C3 (D9 (aj 2)))))
theorem sc_law_outcome:C6 ["_law_passings","_law_done","_law_hand","_law_own","_law_wished"] ["_law_passings","_law_done","_law_hand"] (B6 (top 48)):=by walk_at "sc"
theorem dC{b:Addr}{c:Ia}(B:K0 K mg cm)(F:L2.Fun K "_law_outcome" "_law_outcome" (top 48) b c):az P w K mg base aX (1) b c ["_law_passings","_law_done","_law_hand"] (aZ K cm P0 3):=
 E3 F sc_law_outcome λ_ _ _ _ _ _ e a d=>by
  exact(C2 (ly (N:=["_law_passing","_law_hand","_law_done"]) [none,some 2,some 1] rfl (⟨rfl,rfl,by decide +kernel,by decide +kernel,(af rfl (af rfl ax)),(af (λh=>nomatch h) (af (λh=>nomatch h) (af (λ_=>rfl) (af (λ_=>rfl) ax))))⟩) (.own (.free rfl (by walk_at "o2") (by walk_at "o3") rfl (by walk_at "o2") (.free rfl (by walk_at "o2") (by walk_at "o3") rfl (by walk_at "o2") .nil))) (ba (aj 0)) (λ_ _ _ _=>(aA (au (i:=0) (show IK (["_law_passing","_law_hand","_law_done"]:List Str)from by decide +kernel) rfl (by walk_at "o2")))) (λ_ _ _ _=>(i8 (E8 (M7 a) Q4 (P1 (aj 0) aq (λ_ _=>rfl)) (aj 1) (E1 _)))) (λ_ _ _ _=>(R6 (i6 a) hZ (aj 0) (aj 2) (by rfl))) (i:=3) sc_law_outcome.nd rfl (.inl rfl))
 (C2 (ly (N:=["_law_passing","_law_hand","_law_done"]) [none,some 2,some 1] rfl (⟨rfl,rfl,by decide +kernel,by decide +kernel,(af rfl (af rfl ax)),(af (λh=>nomatch h) (af (λh=>nomatch h) (af (λ_=>rfl) (af (λ_=>rfl) ax))))⟩) (.own (.free rfl (by walk_at "o2") (by walk_at "o3") rfl (by walk_at "o2") (.free rfl (by walk_at "o2") (by walk_at "o3") rfl (by walk_at "o2") .nil))) (ba (aj 0)) (λ_ _ _ _=>(aA (au (i:=0) (show IK (["_law_passing","_law_hand","_law_done"]:List Str)from by decide +kernel) rfl (by walk_at "o2")))) (λ_ _ _ _=>(i8 (E8 (M7 a) Q4 (P1 (aj 0) aq (λ_ _=>rfl)) (aj 1) (E1 _)))) (λ_ _ _ _=>(R6 (i6 a) hZ (aj 0) (aj 2) (by rfl))) (i:=4) sc_law_outcome.nd rfl (.inl rfl))
 (C2 (P4 (E8 (vW a) vY eY (aI aJ aS (aj 3) (aj 4)) (by rfl))
 (C3 (D9 y7))
 E5)
 (C2 (P4 (PW.pt (kt (E8 (vV a) vX eY (aj 3) (by rfl)) (u5 (E8 (vV a) vX eY (aj 4) (by rfl)))))
 (C3 (D9 y7))
 E5)
 (C2 (P4 (E8 (vW a) vY eY (aI aJ aS (aj 3) (aj 4)) (by rfl))
 (C3 (D9 y7))
 E5)
 (C3 (D9 y7)))))))
theorem sc_law_any:C6 ["_law_cell","_law_many","_law_found","_law_giver","_law_taker","_law_x"] ["_law_cell","_law_many"] (B6 (top 49)):=by walk_at "sc"
theorem fu{b:Addr}{c:Ia}(B:K0 K mg cm)(a:ck P w K mg base cm "_law_mixed" 1 ["_law_cell","_law_k"] J4 2)(F:L2.Fun K "_law_any" "_law_any" (top 49) b c):az P w K mg base aX (2) b c ["_law_cell","_law_many"] (aZ K cm X0 2):=
 E3 F sc_law_any λ_ _ _ _ _ _ d e f=>by
  exact(C2 (K5 (i:=2) sc_law_any.nd rfl (.inl rfl) (bw am))
 (C2 (w6 Jw rfl (bM rfl B.b_range (aj 1)) (aA (au (i:=3) sc_law_any.nd rfl (.inl rfl)))
 (C3 (w6 Jw rfl (bM rfl B.b_range (aj 1)) (aA (au (i:=4) sc_law_any.nd rfl (.inl rfl)))
 (C2 (K5 (i:=5) sc_law_any.nd rfl (.inl rfl) (ay a (by decide) d rfl (ae (aj 0) (ae (aI aJ aS (aI aJ aS aq (aI mR nB aq (aj 3))) (aj 4)) am))))
 (C3 (P4 (PW.pt (kt (E8 (X9 e) o4 (aj 3) (aj 4) (E1 _)) (u5 (E8 iK iQ (aI bz bB (aj 5) aq) (aI aJ aS aq (aI bz bB (ay a (by decide) d rfl (ae (aj 0) (ae aq am))) aq)) (E1 _)))))
 (C3 (b6 (o0 (aj 2) (V8 (ae (aj 3) (ae (aj 4) am))))))
 E5))))))
 (C3 (D9 (aj 2)))))
theorem sc_law_words:C6 ["_law_passings","_law_leaders","_law_passing","_law_found","_law_leader","_law_ways_here"] ["_law_passings","_law_leaders","_law_passing"] (B6 (top 50)):=by walk_at "sc"
theorem et{b:Addr}{c:Ia}(B:K0 K mg cm)(a:ck P w K mg base cm "_law_ways" 1 ["_law_passings","_law_ways_here"] U6 2)(F:L2.Fun K "_law_words" "_law_words" (top 50) b c):az P w K mg base aX (2) b c ["_law_passings","_law_leaders","_law_passing"] (aZ K cm S0 3):=
 E3 F sc_law_words λ_ _ _ _ _ _ e d f=>by
  refine@C2 _ _ _ _ _ _ ?_ ?_;exact(K5 (i:=3) sc_law_words.nd rfl (.inl rfl) (bw am));refine@C2 _ _ _ _ _ _ ?_ ?_;refine@w6 _ _ _ _ _ _ _ _ _ ?_ ?_ ?_ ?_ ?_ ?_;exact Jw;exact rfl;exact(ba (aj 1));exact(aA (au (i:=4) sc_law_words.nd rfl (.inr rfl)));refine@C2 _ _ _ _ _ _ ?_ ?_;exact(ly (N:=["_law_way","_law_leader"]) [none,some 4] rfl (⟨rfl,rfl,by decide +kernel,by decide +kernel,(af rfl ax),(af (λh=>nomatch h) (af (λh=>nomatch h) (af (λ_=>rfl) ax)))⟩) (.own (.free rfl (by walk_at "o2") (by walk_at "o3") rfl (by walk_at "o2") .nil)) (ba (ay a (by decide) e rfl (ae (aj 0) (ae (by refine@bw _ _ _ _ _ ?_;refine@ae _ _ _ _ _ _ ?_ ?_ (by exact D8 rfl);refine@V8 _ _ _ _ _ _ ?_;refine@ae _ _ _ _ _ _ ?_ ?_ (by exact D8 rfl);exact(P1 (aj 2) aq (λ_ _=>rfl));exact am;exact am) am)))) (λ_ _ _ _=>(aA (au (i:=0) (show IK (["_law_way","_law_leader"]:List Str)from by decide +kernel) rfl (by walk_at "o2")))) (λ_ _ _ _=>(i8 (E8 (M7 d) Q4 (P1 (aj 0) nP (λ_ _=>rfl)) (aj 1) (E1 _)))) (λ_ _ _ _=>(aj 0)) (i:=5) sc_law_words.nd rfl (.inl rfl));refine@C3 _ _ _ _ ?_;refine@P4 _ _ _ _ _ _ _ _ _ ?_ ?_ ?_;exact(E8 (X9 d) o4 (aj 5) (bw am) (E1 _));refine@C3 _ _ _ _ ?_;refine@b6 _ _ _ _ _ ?_ ?_;refine@o0 _ _ _ _ _ _ _ _ ?_ ?_ ?_ ?_ ?_ ?_;exact(aj 3);refine@V8 _ _ _ _ _ _ ?_;refine@ae _ _ _ _ _ _ ?_ ?_ (by exact D8 rfl);exact aq;refine@ae _ _ _ _ _ _ ?_ ?_ (by exact D8 rfl);refine@V8 _ _ _ _ _ _ ?_;refine@ae _ _ _ _ _ _ ?_ ?_ (by exact D8 rfl);exact y7;refine@ae _ _ _ _ _ _ ?_ ?_ (by exact D8 rfl);exact(aj 2);refine@ae _ _ _ _ _ _ ?_ ?_ (by exact D8 rfl);exact(P1 (aj 5) aq (λ_ _=>rfl));exact am;exact am;rfl;exact D8 rfl;rfl;rfl;rfl;exact E5;exact λ_=>rfl;exact(C3 (D9 (aj 3)))
theorem sc_law:C6 ["_law_script","_law_cell","_law_many","_law_passings","_law_leaders","_law_limits","_law_rows","_law_done","_law_k","_law_passing","_law_x","_law_words_here","_law_hands","_law_found"] ["_law_script"] (B6 (top 51)):=by walk_at "sc"
theorem kb{s:Addr}{u:Ia}(B:K0 K mg cm)(b:ck P w K mg base cm "_law_cell_at" 1 ["_law_script","_law_k"] K9 2)(a:ck P w K mg base cm "_law_mixed" 1 ["_law_cell","_law_k"] J4 2)(p:ck P w K mg base cm "_law_any" 2 ["_law_cell","_law_many"] X0 2)(g:ck P w K mg base cm "_law_words" 2 ["_law_passings","_law_leaders","_law_passing"] S0 3)(j:jA P w K mg base cm 4 "Free" 1 ["self","does"] bf 2)(m:jA P w K mg base cm 6 "Run" 9 ["self","plan","hands","free","turns"] Q9 5)(l:jA P w K mg base cm 1 "Plan" 4 ["self","web","leaders","limits"] P6 4)(n:jA P w K mg base cm 0 "Web" 5 ["self","number","passings"] P7 3)(c:ck P w K mg base cm "_law_alike" 6 ["_law_found","_law_due"] Z8 2)(f:i7 P w K mg base cm 6 "opened" 1 ["self"] bh 1)(d:ck P w K mg base cm "_law_outcome" 1 ["_law_passings","_law_done","_law_hand"] P0 3)(e:i7 P w K mg base cm 6 "outcome" 2 ["self","h"] O9 2)(F:L2.Fun K "law" "law" (top 51) s u):az P w K mg base aX (11) s u ["_law_script"] (aZ K cm ow 1):=
 E3 F sc_law λ_ _ _ _ _ _ o r q=>by
  refine@C2 _ _ _ _ _ _ ?_ ?_;exact(K5 (i:=1) sc_law.nd rfl (.inr rfl) (ay b (by decide) o rfl (ae (aj 0) (ae aq am))));refine@C2 _ _ _ _ _ _ ?_ ?_;exact(K5 (i:=2) sc_law.nd rfl (.inl rfl) (aI aJ aS aq (aI bz bB (ay a (by decide) o rfl (ae (aj 1) (ae aq am))) aq)));refine@C2 _ _ _ _ _ _ ?_ ?_;exact(K5 (i:=3) sc_law.nd rfl (.inr rfl) (ay p (by decide) o rfl (ae (aj 1) (ae (aj 2) am))));refine@C2 _ _ _ _ _ _ ?_ ?_;exact(K5 (i:=4) sc_law.nd rfl (.inl rfl) (aI aJ aS (N2 (N:=["_law_hand","_law_cell"]) [none,some 1] rfl (⟨rfl,rfl,by decide +kernel,by decide +kernel,(af rfl ax),(af (by walk_at "fb") (af (by walk_at "fb") (af (by walk_at "fb") (af (by walk_at "fb") ax))))⟩) (.own (.free rfl (by walk_at "o2") (by walk_at "o3") rfl (by walk_at "o2") .nil)) (bM rfl B.b_range (aj 2)) (λ_ _ _ _=>(aA (au (i:=0) (show IK (["_law_hand","_law_cell"]:List Str)from by decide +kernel) rfl (by walk_at "o2")))) (λ_ _ _ _=>(i8 (E8 (M7 r) Q4 (aI bz bB (ay a (by decide) o rfl (ae (aj 1) (ae (aI aJ aS aq (aj 0)) am))) aq) aq (E1 _)))) (λ_ _ _ _=>(aj 0))) (bw (ae (aI yH Aw (aj 2) aq) am))));refine@C2 _ _ _ _ _ _ ?_ ?_;exact(K5 (i:=4) sc_law.nd rfl (.inl rfl) (Ea rfl (aj 4) rfl B.b_sorted rfl B.b_set));refine@C2 _ _ _ _ _ _ ?_ ?_;exact(K5 (i:=5) sc_law.nd rfl (.inl rfl) (DN rfl r (N2 (N:=["_law_passing"]) [none] rfl (⟨rfl,rfl,by decide +kernel,by decide +kernel,ax,(af (λh=>nomatch h) (af (λh=>nomatch h) ax))⟩) (.own .nil) (ba (aj 3)) (λ_ _ _ _=>(aA (au (i:=0) (show IK (["_law_passing"]:List Str)from by decide +kernel) rfl (by walk_at "o2")))) (λ_ _ _ _=>Q8) (λ_ _ _ _=>(V8 (ae (aj 0) (ae aq am))))) rfl B.b_dict));refine@C2 _ _ _ _ _ _ ?_ ?_;refine@K5 _ _ 6 _ _ _ _ _ ?_ ?_ ?_ ?_ ?_ ?_;exact sc_law.nd;exact rfl;exact(.inr rfl);refine@vA _ _ _ _ _ _ ?_ ?_ ?_ ?_ ?_;exact rfl;exact(N2 (N:=["_law_hand"]) [none] rfl (⟨rfl,rfl,by decide +kernel,by decide +kernel,ax,(af (λh=>nomatch h) (af (λh=>nomatch h) ax))⟩) (.own .nil) (bM rfl B.b_range (aj 2)) (λ_ _ _ _=>(aA (au (i:=0) (show IK (["_law_hand"]:List Str)from by decide +kernel) rfl (by walk_at "o2")))) (λ_ _ _ _=>Q8) (λ_ _ _ _=>(by refine@V8 _ _ _ _ _ _ ?_;refine@ae _ _ _ _ _ _ ?_ ?_ (by exact D8 rfl);exact(aj 0);refine@ae _ _ _ _ _ _ ?_ ?_ (by exact D8 rfl);refine@bw _ _ _ _ _ ?_;exact am;exact am)));exact rfl;exact B.b_dict;exact D8 rfl;rfl;first | exact .inl rfl | exact .inr rfl
  refine@C2 _ _ _ _ _ _ ?_ ?_;exact(K5 (i:=7) sc_law.nd rfl (.inr rfl) (bw am));refine@C2 _ _ _ _ _ _ ?_ ?_;refine@w6 _ _ _ _ _ _ _ _ _ ?_ ?_ ?_ ?_ ?_ ?_;exact Jw;exact rfl;exact(uu rfl B.b_enumerate (aj 3));exact(hY rfl (aW (aA (au (i:=8) sc_law.nd rfl (.inl rfl))) (aW (aA (au (i:=9) sc_law.nd rfl (.inl rfl))) cH)));refine@C2 _ _ _ _ _ _ ?_ ?_;exact(K5 (i:=10) sc_law.nd rfl (.inl rfl) (ay a (by decide) o rfl (ae (ay b (by decide) o rfl (ae (aj 0) (ae (aI aJ aS aq (aI bz bB (aj 8) aq)) am))) (ae (aI aJ aS aq (aj 8)) am))));refine@C2 _ _ _ _ _ _ ?_ ?_;refine@P4 _ _ _ _ _ _ _ _ _ ?_ ?_ ?_;exact(E8 kO lj (aI bz bB (aj 10) aq) aq (E1 _));refine@C3 _ _ _ _ ?_;refine@b6 _ _ _ _ _ ?_ ?_;refine@o0 _ _ _ _ _ _ _ _ ?_ ?_ ?_ ?_ ?_ ?_;exact(dR q (aj 6) (P1 (aj 9) aq (λ_ _=>rfl)) (λ_ _=>rfl));refine@V8 _ _ _ _ _ _ ?_;refine@ae _ _ _ _ _ _ ?_ ?_ (by exact D8 rfl);exact aq;refine@ae _ _ _ _ _ _ ?_ ?_ (by exact D8 rfl);refine@V8 _ _ _ _ _ _ ?_;refine@ae _ _ _ _ _ _ ?_ ?_ (by exact D8 rfl);exact y7;refine@ae _ _ _ _ _ _ ?_ ?_ (by exact D8 rfl);exact(aj 9);exact am;exact am;rfl;exact D8 rfl;rfl;rfl;rfl;exact E5;exact(C3 (P4 (E8 kO lj (aI bz bB (aI sA tV (aj 10) aq) aq) aq (E1 _))
 (C2 (K5 (i:=11) sc_law.nd rfl (.inl rfl) (ay g (by decide) o rfl (ae (aj 3) (ae (aj 4) (ae (aj 9) am)))))
 (C2 (By q (aj 6) (P1 (aj 9) aq (λ_ _=>rfl)) (aI aJ aS (dR q (aj 6) (P1 (aj 9) aq (λ_ _=>rfl)) (λ_ _=>rfl)) (aj 11)))
 (C3 (P4 (PW.pt (kt (E8 kO lj (aI bz bB (aj 10) aq) aq (E1 _)) (u5 (E8 (M7 r) Q4 (bS (aj 11) rfl B.b_len) (bS (aj 4) rfl B.b_len) (E1 _)))))
 (C3 (b6 (o0 (aj 7) (aj 9))))
 E5))))
 E5))
  exact λ_=>rfl;exact(C2 (K5 (i:=12) sc_law.nd rfl (.inl rfl) (vA rfl (N2 (N:=["_law_hand","_law_rows"]) [none,some 6] rfl (⟨rfl,rfl,by decide +kernel,by decide +kernel,(af rfl ax),(af (by walk_at "fb") (af (by walk_at "fb") (af (by walk_at "fb") (af (by walk_at "fb") ax))))⟩) (.own (.free rfl (by walk_at "o2") (by walk_at "o3") rfl (by walk_at "o2") .nil)) (bM rfl B.b_range (aj 2)) (λ_ _ _ _=>(aA (au (i:=0) (show IK (["_law_hand","_law_rows"]:List Str)from by decide +kernel) rfl (by walk_at "o2")))) (λ_ _ _ _=>Q8) (λ_ _ _ _=>(V8 (ae (aj 0) (ae (lv j (by decide) o rfl (ae (dR q (aj 1) (aj 0) (λ_ _=>rfl)) am)) am))))) rfl B.b_dict))
 (C2 (K5 (i:=13) sc_law.nd rfl (.inr rfl) (lv m (by decide) o rfl (ae (lv l (by decide) o rfl (ae (lv n (by decide) o rfl (ae (aj 2) (ae (aj 3) am))) (ae (aj 4) (ae (aj 5) am)))) (ae (aj 12) (ae (C0 rfl (aj 2) rfl B.b_list rfl B.b_range) (ae aq am))))))
 (C2 (P4 (P2 (J5 (ay c (by decide) o rfl (ae (bZ f (by decide) o (B.cls _ (by decide)) (aj 13) (by decide +kernel)) (ae (aj 7) am)))))
 (C3 (D9 eY))
 E5)
 (C3 (D9 (w8 rfl (N2 (N:=["_law_hand","_law_found","_law_passings","_law_done"]) [none,some 13,some 3,some 7] rfl (⟨rfl,rfl,by decide +kernel,by decide +kernel,(af rfl (af rfl (af rfl ax))),(af (by walk_at "fb") (af (by walk_at "fb") (af (by walk_at "fb") (af (by walk_at "fb") (af (by walk_at "fb") (af (by walk_at "fb") (af (by walk_at "fb") ax)))))))⟩) (.own (.free rfl (by walk_at "o2") (by walk_at "o3") rfl (by walk_at "o2") (.free rfl (by walk_at "o2") (by walk_at "o3") rfl (by walk_at "o2") (.free rfl (by walk_at "o2") (by walk_at "o3") rfl (by walk_at "o2") .nil)))) (bM rfl B.b_range (aj 2)) (λ_ _ _ _=>(aA (au (i:=0) (show IK (["_law_hand","_law_found","_law_passings","_law_done"]:List Str)from by decide +kernel) rfl (by walk_at "o2")))) (λ_ _ _ _=>Q8) (λ_ _ _ _=>(ay c (by decide) o rfl (ae (bg e (by decide) o (B.cls _ (by decide)) (aj 1) (ae (aj 0) am) (by decide +kernel)) (ae (ay d (by decide) o rfl (ae (aj 2) (ae (aj 3) (ae (aj 0) am)))) am))))) rfl B.b_all))))))
end
end Ws
namespace Ws
open PySem PySem.W L2
theorem GR{l:List Bool}(h:l.all id=true)(i:Nat){b:Bool}(a:l[i]?=some b):b=true:=Ik.mp h b (Io a)
theorem bj{c:Type}{l m:List c}(h:l=m)(i:Nat){a b:c}(d:l[i]?=some a)(e:m[i]?=some b):a=b:=by rw[h,e]at d;exact(Iv d).symm
theorem jg{P:Nat->Prop}{a:Nat}{l:List Nat}(h:P a)(r:∀c∈l,P c):∀c∈a::l,P c:=λc b=>by
 rcases HK.mp b with z | z
 ·rw[z];exact h
 ·exact r c z
theorem GS{P:Nat->Prop}:∀c∈([]:List Nat),P c:=λ_ h=>nomatch h
theorem cP{a b:Bool}(h:(a&&b)=true):a=true/\b=true:=MQ.mp h
structure En(P:Ib)(w:IW)(K:Frag)(mg:Str->Option HD)(base:Heap)(cm:Nat->Addr):Prop where
 ex:∃h:Heap,K.In h/\h.Ns mainGlobals mg
section
variable{P:Ib}{w:IW}{K:Frag}{mg:Str->Option HD}{base:Heap}{cm:Nat->Addr}{n q:Str}{st:Stmt}{fa T:Addr}{fd:Ia}{k ar c:Nat}{ps:List Str}{f:Fun}{oc kV doc pm cdv ct tc:HD}{od an td:Option Addr}{osl ts:Array (Option HD)}{items:Array HD}{tn:Nat}
theorem En.of(E:En P w K mg base cm){v:HD}(h:mH K n v=true):mg n=some v:=by
 obtain⟨a,X,G⟩:=E.ex;exact mg_of X G (of_decide_eq_true h)
theorem En.ns(E:En P w K mg base cm){a:Addr}(h:bJ K n a=true):mg n=some (.ref a):=E.of h
theorem En.no(E:En P w K mg base cm)(h:mG K n=true):mg n=none:=by
 obtain⟨a,X,G⟩:=E.ex;exact mg_none_of X G (of_decide_eq_true h)
theorem bu{x:Bool}(l:K.lookup fa=some ⟨oc,od,.func (fnOf n q (C5 st) (C4 st) (B6 st) .none kV doc pm an cdv ct),osl⟩)(b:(x&&bn K cdv q fa)=true):L2.Fun K n q st fa (fnOf n q (C5 st) (C4 st) (B6 st) .none kV doc pm an cdv ct):=
 zX l (cP (cP b).2).1 (cP (cP b).2).2
theorem GU{x:Bool}(l:K.lookup fa=some ⟨oc,od,.func (fnOf n q (C5 st) (C4 st) (B6 st) (.ref T) kV doc pm an cdv ct),osl⟩)(t:K.lookup T=some ⟨tc,td,.seq items tn,ts⟩)(b:(x&&bn K cdv q fa)=true):eZ K n q st fa (fnOf n q (C5 st) (C4 st) (B6 st) (.ref T) kV doc pm an cdv ct) items:=
 BA l (cP (cP b).2).1 (cP (cP b).2).2 t
theorem xj(a:(cr K (cm c) n fa&&bn K cdv q fa)=true):iL K (cm c) n fa:=⟨of_decide_eq_true (cP (cP a).1).1,(cP (cP a).1).2,(cP (cP a).2).2⟩
theorem GV(a:(cr K (cm c) "__init__" fa&&bn K cdv q fa)=true)(b:kc K (cm c)=true):L2.Mk K (cm c) fa:=⟨(cP b).1,of_decide_eq_true (cP (cP a).1).1,(cP (cP a).1).2,(cP b).2⟩
variable(E:En P w K mg base cm)
include E
theorem cR(O:az P w K mg base aX k fa fd ps (aZ K cm f ar))(a:(bJ K n fa&&bn K cdv q fa)=true)(b:L2.Binds K fd ps [])(e:∀d A v g,f d A=.ok v g->d.length=ar:=by exact λ_ _ _ _=>pS):ck P w K mg base cm n k ps f ar:=⟨⟨_,_,O,E.ns (cP a).1,(cP (cP a).2).2,b⟩,e⟩
theorem eQ(O:az P w K mg base aX k fa fd ps (aZ K cm f ar))(d:(cr K (cm c) n fa&&bn K cdv q fa)=true)(b:L2.Binds K fd ps [])(e:∀a A v g,f a A=.ok v g->a.length=ar:=by exact λ_ _ _ _=>pS):i7 P w K mg base cm c n k ps f ar:=⟨⟨_,_,O,xj d,b⟩,e⟩
theorem rT(O:az P w K mg base (fK P w) k fa fd ps (iX K cm f ar))(d:(cr K (cm c) n fa&&bn K cdv q fa)=true)(b:L2.Binds K fd ps [])(e:∀a A,f a A≠.no->a.length=ar:=by exact λ_ _=>Cq):lL P w K mg base cm c n k ps f ar:=⟨⟨_,_,O,xj d,b⟩,e⟩
theorem mJ(O:az P w K mg base aX k fa fd ps (aZ K cm f ar))(e:(cr K (cm c) "__init__" fa&&bn K cdv q fa)=true)(g:kc K (cm c)=true)(i:bJ K n (cm c)=true)(b:L2.Binds K fd ps [])(j:∀a A v d,f a A=.ok v d->v=.non)(l:∀a A v d,f a A=.ok v d->a.length=ar:=by exact λ_ _ _ _=>pS):jA P w K mg base cm c n k ps f ar:=⟨⟨_,_,O,GV e g,E.ns i,b⟩,λa A v d h=>⟨l a A v d h,j a A v d h⟩⟩
theorem base_of(g:((Iw 7).all λc=>mI K (cm c))=true)(j:blts.all (mG K)=true):K0 K mg cm:=by
 have d:∀c,c<7->mI K (cm c)=true:=λc d=>Ik.mp g c (JD.mpr d);have a:∀b∈blts,mg b=none:=λb l=>E.no (Ik.mp j b l);refine⟨Bn K,λc e=>?_,λc i m e=>?_,a _ (by decide),a _ (by decide),a _ (by decide),a _ (by decide),a _ (by decide),a _ (by decide),a _ (by decide),a _ (by decide),a _ (by decide),a _ (by decide),a _ (by decide),a _ (by decide),a _ (by decide),a _ (by decide),a _ (by decide),a _ (by decide),a _ (by decide)⟩
 ·have:=d c e;unfold mI at this;simp only[HZ]at this;exact⟨this.1.1.1.1,this.1.1.1.2,this.1.1.2,of_decide_eq_true this.1.2⟩
 ·have:=d c e;unfold mI at this;simp only[HZ]at this;have h:=Ik.mp this.2 i (JD.mpr m);show findIn K (.ref (cm c)) (cs i)=some none;exact of_decide_eq_true h
omit E
def mK(K:Frag)(C:Addr):Prop:=∃e q N bs d a g sub h b i j l m o p,K.lookup C=some (excClassObj e q C N bs d a g sub h b i j l m o p "ValueError.__new__")/\V1 d=true/\a=true
theorem jh{C:Addr}{d q:Str}{N:Addr}{bs b:List HD}{e:List Str}{sub:List HD}{g:Bool}{a:Option Bool}{i:Option Addr}{j l m p r:Option HD}(h:K.lookup C=some (excClassObj d q C N bs b true e sub g a i j l m p r "ValueError.__new__"))(o:V1 b=true):mK K C:=⟨_,_,_,_,_,_,_,_,_,_,_,_,_,_,_,_,h,o,rfl⟩
theorem xl{a:Addr}{es:List Nat}(h:(es.all λc=>ke K (cm c) a)=true)(d:∀c∈es,mK K (cm c)):∀c∈es,XK K (cm c) a:=λc b=>by
 have:=Ik.mp h c b;unfold ke cr at this;simp only[HZ]at this;obtain⟨⟨⟨⟨⟨⟨⟨⟨⟨⟨e,g⟩,i⟩,j⟩,l⟩,p⟩,r⟩,s⟩,u⟩,m⟩,o⟩:=this;exact⟨d c b,of_decide_eq_true e,g,i,of_decide_eq_true j,of_decide_eq_true l⟩
theorem GW{i:Addr}{es:List Nat}(h:(es.all λc=>ke K (cm c) i)=true)(l:xi K cm es=true)(j:xh K=true)(m:∀c∈es,mK K (cm c)):qF K cm es/\CA K cm es:=by
 have b:∀c∈es,∀d∈es,kB K (cm c) (cm d)=gu c d/\kitOne K (.ref (cm c)) (.ref (cm d))=some (gu c d):=λc a d o=>by
  have:=Ik.mp (Ik.mp l c a) d o;exact⟨of_decide_eq_true (cP this).1,of_decide_eq_true (cP this).2⟩
 refine⟨⟨λc a=>⟨i,xl h m c a⟩,λc a k e=>(b c a k e).1⟩,⟨λc a=>?_,λc a k e=>(b c a k e).2,λc a=>?_⟩⟩
 ·have:=Ik.mp h c a;unfold ke cr at this;simp only[HZ]at this;obtain⟨⟨⟨⟨⟨⟨⟨⟨⟨⟨x,y⟩,z⟩,A⟩,B⟩,p⟩,r⟩,s⟩,u⟩,g⟩,v⟩:=this;exact⟨of_decide_eq_true p,of_decide_eq_true r,s,of_decide_eq_true u,of_decide_eq_true (cP j).1,of_decide_eq_true (cP j).2,of_decide_eq_true g⟩
 ·have:=Ik.mp h c a;unfold ke at this;exact of_decide_eq_true (cP this).2
theorem ji{a:Addr}{es:List Nat}(E:En P w K mg base cm)(O:az P w K mg base aX k a fd ps (kA K))(h:(es.all λc=>ke K (cm c) a)=true)(d:∀c∈es,mK K (cm c))(b:L2.Binds K fd ps [])(e:c∈es)(g:bJ K n (cm c)=true):jC P w K mg base cm c n k:=⟨⟨_,_,_,O,xl h d c e,E.ns g,b⟩⟩
end
end Ws
namespace Ws
open PySem
theorem GX{vs:List PV}{A A':PHp}{v:PV}(h:bf vs A=.ok v A'):v=.non:=lB M3 h
theorem GY{vs:List PV}{A A':PHp}{v:PV}(h:N0 vs A=.ok v A'):v=.non:=lB (J6 M3 (J6 M3 (J6 M3 (J6 M3 (J6 M3 (J6 M3 M3)))))) h
theorem GZ{vs:List PV}{A A':PHp}{v:PV}(h:Q9 vs A=.ok v A'):v=.non:=lB (J6 M3 (J6 qm (J6 (vC (J6 (lA vf o9) vf)) M3))) h
theorem Ha{vs:List PV}{A A':PHp}{v:PV}(h:P6 vs A=.ok v A'):v=.non:=lB (J6 (lA u6 o9) (J6 qm (J6 (vC (J6 (lA u6 o9) Ds)) (J6 M3 (J6 M3 (J6 M3 (J6 M3 M3))))))) h
theorem Hb{vs:List PV}{A A':PHp}{v:PV}(h:P7 vs A=.ok v A'):v=.non:=lB (J6 (lA u6 o9) (J6 qm (J6 (lA u6 o9) (J6 M3 M3)))) h
end Ws
theorem Hc{P:List HD->Prop}(h:P [])(us:List HD)(e:us.length=0):P us:=by
 cases us with
 | nil=>exact h
 | cons x us=>exact absurd e (L0 _)
theorem xm{P:List HD->Prop}(h:∀x,P [x])(us:List HD)(e:us.length=1):P us:=by
 cases us with
 | nil=>exact absurd e (L0 _).symm
 | cons x us=>exact Hc (P:=λus=>P (x::us)) (h x) us (NC e)
theorem xn{P:List HD->Prop}(h:∀x y,P [x,y])(us:List HD)(e:us.length=2):P us:=by
 cases us with
 | nil=>exact absurd e (L0 _).symm
 | cons x us=>exact xm (P:=λus=>P (x::us)) (h x) us (NC e)
theorem xo{P:List HD->Prop}(h:∀x y z,P [x,y,z])(us:List HD)(e:us.length=3):P us:=by
 cases us with
 | nil=>exact absurd e (L0 _).symm
 | cons x us=>exact xn (P:=λus=>P (x::us)) (h x) us (NC e)
theorem xp{P:List HD->Prop}(h:∀x y z u,P [x,y,z,u])(us:List HD)(e:us.length=4):P us:=by
 cases us with
 | nil=>exact absurd e (L0 _).symm
 | cons x us=>exact xo (P:=λus=>P (x::us)) (h x) us (NC e)
theorem He{P:List HD->Prop}(h:∀x y z u v,P [x,y,z,u,v])(us:List HD)(e:us.length=5):P us:=by
 cases us with
 | nil=>exact absurd e (L0 _).symm
 | cons x us=>exact xp (P:=λus=>P (x::us)) (h x) us (NC e)
local macro_rules | `(tactic| walk_at "b1")=>`(tactic| exact λ_ _ _ _ _ _=>xm λ_=>rfl)
local macro_rules | `(tactic| walk_at "b2")=>`(tactic| exact λ_ _ _ _ _ _=>xn λ_ _=>rfl)
local macro_rules | `(tactic| walk_at "b3")=>`(tactic| exact λ_ _ _ _ _ _=>xo λ_ _ _=>rfl)
local macro_rules | `(tactic| walk_at "b4")=>`(tactic| exact λ_ _ _ _ _ _=>xp λ_ _ _ _=>rfl)
local macro_rules | `(tactic| walk_at "b5")=>`(tactic| exact λ_ _ _ _ _ _=>He λ_ _ _ _ _=>rfl)
namespace Ws
open PySem PySem.W L2
set_option Elab.async false
set_option maxHeartbeats 0
theorem hop:∀w:IW,(fencedOpening treeTable PySem.Challenge.pw_wordswap_k42_outcomes w 9810).map (λs=>(s.heap,s.gens,s.drawn,s.toks))=some (Ln w.params,#[],PX,Qq):=boot_open (by kernel_rfl) (by kernel_rfl) (λs=>by kernel_rfl)
theorem hdl:LeftO PySem.Challenge.pw_wordswap_k42_outcomes (view PySem.Challenge.pw_wordswap_k42_outcomes mL) rV (xt PySem.Challenge.pw_wordswap_k42_outcomes) (λs=>iU s.heap) (Kw PySem.Challenge.pw_wordswap_k42_outcomes 9810) 9810/\∀w,((bs (Kw PySem.Challenge.pw_wordswap_k42_outcomes 9810 w)).all id,os (Kw PySem.Challenge.pw_wordswap_k42_outcomes 9810 w))=(true,ov PySem.Challenge.pw_wordswap_k42_outcomes):=Bu (q:=λp=>view p mL) (Xt:=xt) (ob:=λK=>((bs K).all id,os K)) (va:=λp=>(true,ov p)) rfl PySem.W.Fast.te6613529449190102663 PySem.W.Fast.te10156331382660048174 PySem.W.Fast.te11892475500146522536 PySem.W.Fast.te14364793385576792824 PySem.W.Fast.te4187177175401517315 hop Hf
theorem Hg{w:IW}{h:Heap}{mg:Str->Option HD}{fa:Addr}{K:Frag}(e:(bs K).all id=true/\os K=ov PySem.Challenge.pw_wordswap_k42_outcomes)(X:K.In h)(G:h.Ns mainGlobals mg)(o3:mg "law" = some (.ref fa)):∃fd:Ia,(∀(s:HF)(v:HD),Qv s fd ⟨[v],[]⟩ [("_law_script",v)])/\∀base:Heap,K.In base->base.Ns mainGlobals mg->az PySem.Challenge.rw_wordswap_k42_outcomes.prog w K mg base aX 11 fa fd ["_law_script"] (qp K):=by
 have b:=λi {x}=>GR e.1 i (b:=x);have z:=o3.symm.trans (PySem.W.mg_of X G (of_decide_eq_true (cP (b 68 rfl)).1));cases z;refine⟨fnOf "law" "law" (C5 (top 51)) (C4 (top 51)) (B6 (top 51)) .none .none .none (.str "law_wordswap_k42_outcomes" 887) none (.ref 594) .none,λs v=>.of_eq rfl,λbase _ _=>?_⟩;have E:En PySem.Challenge.rw_wordswap_k42_outcomes.prog w K mg base cmA:=⟨⟨h,X,G⟩⟩;have B:=base_of E (b 0 rfl) (b 1 rfl);have GL:mF mg:=⟨⟨_,E.of (b 15 rfl)⟩,⟨_,E.of (b 16 rfl)⟩,⟨_,E.of (b 17 rfl)⟩,⟨_,E.of (b 18 rfl)⟩⟩;have BS:=E.no (b 19 rfl);have F0:=bu (st:=(B9 (top 2) 0)) (bj e.2 0 rfl rfl) (b 20 rfl);have F1:=bu (st:=(top 43)) (bj e.2 1 rfl rfl) (b 21 rfl);have F2:=bu (st:=(top 45)) (bj e.2 2 rfl rfl) (b 22 rfl);have F3:=bu (st:=(top 49)) (bj e.2 3 rfl rfl) (b 23 rfl);have F4:=bu (st:=(top 46)) (bj e.2 4 rfl rfl) (b 24 rfl);have F5:=bu (st:=(top 50)) (bj e.2 5 rfl rfl) (b 25 rfl);have F6:=bu (st:=(B9 (top 30) 0)) (bj e.2 6 rfl rfl) (b 26 rfl);have F7:=GU (st:=(B9 (top 27) 0)) (bj e.2 7 rfl rfl) (bj e.2 8 rfl rfl) (b 27 rfl);have F8:=bu (st:=(B9 (top 27) 2)) (bj e.2 9 rfl rfl) (b 28 rfl);have F9:=bu (st:=(B9 (top 27) 1)) (bj e.2 10 rfl rfl) (b 29 rfl);have g4:=bu (st:=(B9 (top 30) 1)) (bj e.2 11 rfl rfl) (b 30 rfl);have g5:=bu (st:=(top 33)) (bj e.2 12 rfl rfl) (b 31 rfl);have g6:=bu (st:=(top 13)) (bj e.2 13 rfl rfl) (b 32 rfl);have h0:=bu (st:=(top 14)) (bj e.2 14 rfl rfl) (b 33 rfl);have h1:=bu (st:=(top 16)) (bj e.2 15 rfl rfl) (b 34 rfl);have h2:=bu (st:=(top 24)) (bj e.2 16 rfl rfl) (b 35 rfl);have h3:=bu (st:=(top 20)) (bj e.2 17 rfl rfl) (b 36 rfl);have h4:=bu (st:=(top 25)) (bj e.2 18 rfl rfl) (b 37 rfl);have h5:=bu (st:=(top 26)) (bj e.2 19 rfl rfl) (b 38 rfl);have h6:=bu (st:=(top 32)) (bj e.2 20 rfl rfl) (b 39 rfl);have h7:=bu (st:=(B9 (top 27) 4)) (bj e.2 21 rfl rfl) (b 40 rfl);have h8:=bu (st:=(B9 (top 27) 7)) (bj e.2 22 rfl rfl) (b 41 rfl);have h9:=bu (st:=(B9 (top 41) 1)) (bj e.2 23 rfl rfl) (b 42 rfl);have i1:=bu (st:=(B9 (top 27) 8)) (bj e.2 24 rfl rfl) (b 43 rfl);have i2:=bu (st:=(B9 (top 27) 10)) (bj e.2 25 rfl rfl) (b 44 rfl);have j1:=bu (st:=(B9 (top 27) 9)) (bj e.2 26 rfl rfl) (b 45 rfl);have j2:=bu (st:=(B9 (top 27) 5)) (bj e.2 27 rfl rfl) (b 46 rfl);have j3:=bu (st:=(B9 (top 27) 3)) (bj e.2 28 rfl rfl) (b 47 rfl);have k0:=bu (st:=(top 34)) (bj e.2 29 rfl rfl) (b 48 rfl);have k1:=bu (st:=(top 35)) (bj e.2 30 rfl rfl) (b 49 rfl);have k2:=bu (st:=(B9 (top 27) 14)) (bj e.2 31 rfl rfl) (b 50 rfl);have k3:=bu (st:=(B9 (top 27) 11)) (bj e.2 32 rfl rfl) (b 51 rfl);have k4:=bu (st:=(B9 (top 27) 12)) (bj e.2 33 rfl rfl) (b 52 rfl);have k5:=bu (st:=(B9 (top 27) 13)) (bj e.2 34 rfl rfl) (b 53 rfl);have k6:=bu (st:=(B9 (top 36) 0)) (bj e.2 35 rfl rfl) (b 54 rfl);have k7:=bu (st:=(top 38)) (bj e.2 36 rfl rfl) (b 55 rfl);have l0:=bu (st:=(top 39)) (bj e.2 37 rfl rfl) (b 56 rfl);have l1:=bu (st:=(top 40)) (bj e.2 38 rfl rfl) (b 57 rfl);have l3:=bu (st:=(B9 (top 41) 0)) (bj e.2 39 rfl rfl) (b 58 rfl);have m0:=bu (st:=(top 15)) (bj e.2 40 rfl rfl) (b 59 rfl);have m1:=bu (st:=(top 17)) (bj e.2 41 rfl rfl) (b 60 rfl);have m2:=bu (st:=(B9 (top 18) 0)) (bj e.2 42 rfl rfl) (b 61 rfl);have e9:=bu (st:=(top 44)) (bj e.2 43 rfl rfl) (b 62 rfl);have n1:=bu (st:=(B9 (top 36) 1)) (bj e.2 44 rfl rfl) (b 63 rfl);have n2:=bu (st:=(top 48)) (bj e.2 45 rfl rfl) (b 64 rfl);have n3:=bu (st:=(B9 (top 18) 2)) (bj e.2 46 rfl rfl) (b 65 rfl);have n7:=bu (st:=(B9 (top 18) 1)) (bj e.2 47 rfl rfl) (b 66 rfl);have o1:=bu (st:=(B9 (top 36) 3)) (bj e.2 48 rfl rfl) (b 67 rfl);have p0:=bu (st:=(top 51)) (bj e.2 49 rfl rfl) (b 68 rfl);have XO:∀c∈[7,8,9,12,13,14,15,16],mK K (cmA c):=(jg (jh (bj e.2 50 rfl rfl) rfl) (jg (jh (bj e.2 51 rfl rfl) rfl) (jg (jh (bj e.2 52 rfl rfl) rfl) (jg (jh (bj e.2 53 rfl rfl) rfl) (jg (jh (bj e.2 54 rfl rfl) rfl) (jg (jh (bj e.2 55 rfl rfl) rfl) (jg (jh (bj e.2 56 rfl rfl) rfl) (jg (jh (bj e.2 57 rfl rfl) rfl) GS))))))))
 obtain⟨ER,EG⟩:=GW (b 70 rfl) (b 71 rfl) (b 69 rfl) XO;have MC:xf mg cmA:=⟨E.ns (b 7 rfl),E.ns (b 8 rfl),E.ns (b 9 rfl),E.ns (b 10 rfl),E.ns (b 11 rfl),E.ns (b 12 rfl),E.ns (b 13 rfl),E.ns (b 14 rfl),E.no (b 72 rfl)⟩;have OE:=Gj (P:=PySem.Challenge.rw_wordswap_k42_outcomes.prog) (w:=w) (base:=base) (mg:=mg) F0;have b0:=(F0.binds (ps:=["self","at"]) (by walk_at "b2"));have f4:=ji E OE (b 70 rfl) XO b0 (c:=7) (by decide) (b 7 rfl);have g2:=ji E OE (b 70 rfl) XO b0 (c:=8) (by decide) (b 8 rfl);have g1:=ji E OE (b 70 rfl) XO b0 (c:=9) (by decide) (b 9 rfl);have e6:=ji E OE (b 70 rfl) XO b0 (c:=12) (by decide) (b 10 rfl);have f2:=ji E OE (b 70 rfl) XO b0 (c:=13) (by decide) (b 11 rfl);have d2:=ji E OE (b 70 rfl) XO b0 (c:=14) (by decide) (b 12 rfl);have f3:=ji E OE (b 70 rfl) XO b0 (c:=15) (by decide) (b 13 rfl);have e0:=ji E OE (b 70 rfl) XO b0 (c:=16) (by decide) (b 14 rfl);have O:=cR E (f:=K9) (dB B F1) (b 21 rfl) (F1.binds (by walk_at "b2"));have A:=cR E (f:=J4) (er B F2) (b 22 rfl) (F2.binds (by walk_at "b2"));have e7:=cR E (f:=X0) (fu B A F3) (b 23 rfl) (F3.binds (by walk_at "b2"));have e1:=cR E (f:=U6) (eO B F4) (b 24 rfl) (F4.binds (by walk_at "b2"));have c1:=cR E (f:=S0) (et B e1 F5) (b 25 rfl) (F5.binds (by walk_at "b3"));have c2:=mJ E (f:=bf) (ei B F6) (b 26 rfl) (b 75 rfl) (b 4 rfl) (F6.binds (by walk_at "b2")) λ_ _ _ _=>GX;have T:=mJ E (f:=N0) (dq B F7) (b 27 rfl) (b 74 rfl) (b 3 rfl) (F7.binds 3 rfl λ_ _ _ _ _ _ _ us hl=>match us,hl with | [_,_,_],_=>⟨_,rfl,rfl⟩) λ_ _ _ _=>GY;have U:=eQ E (f:=O8) (dz B F8) (b 28 rfl) (F8.binds (by walk_at "b1"));have Y:=eQ E (f:=bb) (dt B F9) (b 29 rfl) (F9.binds (by walk_at "b1"));have b3:=eQ E (f:=P8) (dG B Y g4) (b 30 rfl) (g4.binds (by walk_at "b2"));have Z:=cR E (f:=O3) (du B b3 g5) (b 31 rfl) (g5.binds (by walk_at "b2"));have n:=cR E (f:=M8) (eH B g6) (b 32 rfl) (g6.binds (by walk_at "b1"));have j:=cR E (f:=L1) (fo B n h0) (b 33 rfl) (h0.binds (by walk_at "b2"));have u:=cR E (f:=M4) (dF B j h1) (b 34 rfl) (h1.binds (by walk_at "b2"));have f0:=cR E (f:=d7) (ge B u h2) (b 35 rfl) (h2.binds (by walk_at "b2"));have e2:=cR E (f:=U3) (eJ B j h3) (b 36 rfl) (h3.binds (by walk_at "b3"));have a0:=cR E (f:=O4) (dv B j e2 h4) (b 37 rfl) (h4.binds (by walk_at "b2"));have a1:=cR E (f:=O5) (fq B GL f0 a0 h5) (b 38 rfl) (h5.binds (by walk_at "b2"));have f1:=cR E (f:=W2) (gf B GL a1 h6) (b 39 rfl) (h6.binds (by walk_at "b3"));have p:=rT E (f:=K2) (cp B f2 h7) (b 40 rfl) (h7.binds (by walk_at "b2"));have a:=eQ E (f:=G2) (bG B h8) (b 41 rfl) (h8.binds (by walk_at "b2"));have b5:=eQ E (f:=T1) (dH B h9) (b 42 rfl) (h9.binds (by walk_at "b2"));have C:=eQ E (f:=L3) (cM B b5 i1) (b 43 rfl) (i1.binds (by walk_at "b3"));have d:=eQ E (f:=G3) (bH B i2) (b 44 rfl) (i2.binds (by walk_at "b2"));have o:=eQ E (f:=J3) (cj B d j1) (b 45 rfl) (j1.binds (by walk_at "b2"));have r:=rT E (f:=K3) (cq B a d2 C f3 o e0 j2) (b 46 rfl) (j2.binds (by walk_at "b2"));have N:=rT E (f:=K8) (da B GL a1 e6 p r j3) (b 47 rfl) (j3.binds (by walk_at "b2"))
 have D:=cR E (f:=J1) (cO B ER MC N k0) (b 48 rfl) (k0.binds (by walk_at "b2"));have e8:=cR E (f:=R9) (ft B Z f1 D k1) (b 49 rfl) (k1.binds (by walk_at "b2"));have a2:=eQ E (f:=O7) (dy B k2) (b 50 rfl) (k2.binds (by walk_at "b2"));have g:=eQ E (f:=G4) (bI B a2 k3) (b 51 rfl) (k3.binds (by walk_at "b2"));have a3:=eQ E (f:=O6) (dw B k4) (b 52 rfl) (k4.binds (by walk_at "b1"));have I:=eQ E (f:=L8) (cT B g a3 k5) (b 53 rfl) (k5.binds (by walk_at "b1"));have e3:=mJ E (f:=Q9) (eM B T U e8 I k6) (b 54 rfl) (b 76 rfl) (b 5 rfl) (k6.binds (by walk_at "b5")) λ_ _ _ _=>GZ;have c3:=cR E (f:=R8) (em B k7) (b 55 rfl) (k7.binds (by walk_at "b1"));have a4:=cR E (f:=O2) (dr B c3 j l0) (b 56 rfl) (l0.binds (by walk_at "b2"));have e4:=cR E (f:=U0) (eI B n l1) (b 57 rfl) (l1.binds (by walk_at "b1"));have c4:=mJ E (f:=P6) (en B a4 e4 l3) (b 58 rfl) (b 77 rfl) (b 6 rfl) (l3.binds (by walk_at "b4")) λ_ _ _ _=>Ha;have m:=cR E (f:=J0) (bX B GL n m0) (b 59 rfl) (m0.binds (by walk_at "b1"));have l:=cR E (f:=G8) (bR B u m1) (b 60 rfl) (m1.binds (by walk_at "b2"));have e5:=mJ E (f:=P7) (eN B m l m2) (b 61 rfl) (b 73 rfl) (b 2 rfl) (m2.binds (by walk_at "b3")) λ_ _ _ _=>Hb;have y:=(e9.binds (ps:=["_law_found","_law_due"]) (by walk_at "b2"));have a5:=cR E (k:=1) (f:=b7) (ar:=2) Dr (b 62 rfl) y λ_ _ _ _ h=>nomatch h;have a6:=cR E (f:=z5) (bi B BS a5 e9) (b 62 rfl) y;have a7:=cR E (f:=z6) (bi B BS a6 e9) (b 62 rfl) y;have a8:=cR E (f:=z7) (bi B BS a7 e9) (b 62 rfl) y;have a9:=cR E (f:=z8) (bi B BS a8 e9) (b 62 rfl) y;have d1:=cR E (f:=Z8) (bi B BS a9 e9) (b 62 rfl) y;have c0:=eQ E (f:=bh) (dJ B n1) (b 63 rfl) (n1.binds (by walk_at "b1"));have b1:=cR E (f:=P0) (dC B n2) (b 64 rfl) (n2.binds (by walk_at "b3"));have J:=eQ E (f:=M0) (cV B n3) (b 65 rfl) (n3.binds (by walk_at "b2"));have L:=eQ E (f:=L9) (cU B n7) (b 66 rfl) (n7.binds (by walk_at "b2"));have b2:=eQ E (f:=O9) (dA B J L o1) (b 67 rfl) (o1.binds (by walk_at "b2"));exact(kb (P:=PySem.Challenge.rw_wordswap_k42_outcomes.prog) (w:=w) (base:=base) B O A e7 c1 c2 e3 c4 e5 d1 c0 b1 b2 p0).imp λvs H Q E q=>Bo law_pure vs H Q E q
end Ws
open PySem PySem.W PyProof.Rows
set_option Elab.async false
set_option maxRecDepth 100000 in
set_option maxHeartbeats 0 in
theorem PySem.Challenge.cw_wordswap_k42_outcomes_holds : PySem.Challenge.rw_wordswap_k42_outcomes.Holds := by
 w_on;refine holds_law wsd fun said=>?_
 refine Ws.Bw (l:=PySem.Challenge.rw_wordswap_k42_outcomes) (d:=⟨"law",L2.C5 (Ws.top 51),L2.C4 (Ws.top 51),L2.B6 (Ws.top 51),Ws.Bv (Ws.top 51)⟩) Ws.hdl.1 (by kernel_rfl) (by kernel_rfl) (by kernel_rfl) (by first | rfl | kernel_rfl) (by assumption) (by decide +kernel) ⟨rfl,rfl,rfl,rfl,rfl,by decide +kernel⟩ ?hw ?hc
 case hw=>w_witness2
 case hc=>exact Ws.Bx (l:=PySem.Challenge.rw_wordswap_k42_outcomes) (k:=11) (x:="_law_script") rfl (by kernel_rfl) ⟨rfl,by decide,by decide⟩ (λw h Y=>Y) λw mg fa h KX G hmg=>Ws.Hg (Qr (Ws.hdl.2 w)) KX G hmg
