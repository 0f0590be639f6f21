import PyProof.Rows.All
import Wide.All
import OpenK.AllK
import Wide.FinOn
import Lean
import PyProof.EqAt
import PyProof.EqKinds
import PyProof.TupleCall
import PySem.Challenge.RW_wordswap_k34_words_said_on
import PyProof.ExcBaseAll.ValueError
import PyProof.NsDelKeeps
import PyProof.ExcArgs
import KE.KIntText
import PyProof.StrLawsChain
import PyProof.StrWalks
import PyProof.Draws
import PyProof.EnumMake
import PyProof.Rows.CallKwBuiltin
import PyProof.ToksMono
import PyProof.StrReplace2
import PyProof.MeetsStr3
import KE.KSortTup
import KE.KLam
import KE.KMinKey
import PyProof.AttrMissHeap
open PySem renaming wpAny_bind->Il,Value->Ip,Shared->Ir,wpAny_pure->Iv,FuncData->IQ,Program->IS,wpAny_mono->Jh,Around->Ji,World->Jp,wpAny_holding->Js,wpAny_field->Jt,wpAny_seqItems->Ju,wpAny_truthy_bool->Jz,mem_of_lookup->JE,wpAny_tryCatch->JU,wpAny_loadPart_at->JX,wpAny_setField_rec->Kb,wpAny_pyIter_list->Kj,codeAny_builtin->Ko,wpAny_Call_Name_kw->Ks,tupleKind_room_in1->Kt,Builtin->Kv,wpAny_call_entry->Kx,wpAny_callSpecial?_slot->Kz,plainId_quiet->KA,wpAny_isSubtype_exc->KJ,codeAny_mono->KW,wpAny_letGo->Lc,wpAny_passesOwn->Lf,wpAny_execs_nil->Lw,wpAny_updateSeq->Lz,wpAny_newObj_type->LH,wpAny_rule->LI,wpAny_dictEntries->LJ,wpAny_call->Ma,wpAny_pyIter_tuple->Me,wpAny_standAt->Mf,plainObj_wpAny_Assign_Attribute->Mu,wpAny_setField->MB,wpAny_notOrdered_dict->MI,codeAny_call_builtin->MO,wpAny_updateSeq_pair->MP,ExceptHandler->MV,Keyword->MY,Scope->Nc,wpAny_newFunctionEnv_cells->Nf,Within->Nj,wpAny_Call_method->NB,wpAny_comprehension_free->NC,wpAny_onRaise->NO,wpAny_execs_cons->NT,noFill_tuple_add->NU,wpAny_forIn_list->NY,richCompare_meets_room->Ob,wpAny_isTrue_Compare1->Of,wpAny_typeOf->Oi,wpAny_specialOf->Ol,call_meetsIn->Om,Str->Oq,Result->OF,sizeLine_eq->OJ,wpAt_of_wpAny->OL,Arguments->OT,seq_tuple_add->OU,wpAny_newList->OY,Spec->Pc,concat_meets->Ph,Thread->Pk,GenState->Pr,CmpOp->Px,PassesOwn->Py,DictEntry->Pz,IsPart->PB,wpAny_of_eq->PM,Walks->PN,IsPair->PR,BindsTo->PX,NameKind->PY,OsState->Q2,Model->Qa
open PySem.Heap renaming get?_push_of_some->Im,lt_size->IA,get?_push_size->IB,get?_update_other->IW,get?_update_self->Jw,size_push->JG,SameBut->Kf,get?_push_ne->Mw,size_update->ML,get?_update_ne->OK
open PySem.W renaming Frag->Io,kia_one->JP,findIn->Kl,keepIn->KC,instObj->KG,fnOf->KY,emptyDict->Lg,callWith_K->Ls,SharedT->LN,boot_heap->Mm,cellsFrom_some->Mr,codeIn->Mz,methodCall_KW->MD,plainGet->MJ,plainGet_of->MX,lookIn->Nt,hasDictIn->Ny,takerIn->Og,looks_findIn->OA,kitOne->OG,tabObj->OI,kla_obj->ON,boot_drawn->Pd,isFn->Pf,boot_toks->PJ,kas_rev->PZ
open List renaming length_map->Iq,prefix_append->Iu,mem_singleton->Iy,mem_cons_self->Iz,mem_map->IC,mem_cons_of_mem->IE,mem_cons->IF,getElem?_eq_some_iff->IG,size_toArray->II,getElem?_eq_getElem->IJ,length_cons->IM,mem_append_right->IP,map_map->IT,length_append->IU,mem_append->IV,mem_of_getElem?->Ja,map_cons->Jb,getElem?_map->Jc,filter_eq_self->Jd,range->Jj,prefix_refl->Jk,not_mem_nil->Jl,Nodup->Jn,all_eq_true->Jo,length_filter_le->Jq,getD_eq_getElem?_getD->Jr,getElem?_eq_none->Jv,map_append->Jy,getElem?_append_left->JA,getElem?_eq_none_iff->JB,append_nil->JD,map_congr_left->JF,length_take->JI,mem_range->JO,nodup_cons->JQ,drop_eq_getElem_cons->JR,length_nil->JS,pairwise_iff_getElem->JT,length_drop->JV,take_succ->JY,mem_filter->JZ,mem_append_left->Kd,mem_iff_getElem->Ke,contains_cons->Ku,take_length->Ky,nodup_append->KD,filterMap_cons->KH,drop_eq_nil_of_le->KN,take_of_length_le->KO,getElem?_append_right->KP,lookup_cons->KU,pairwise_cons->KZ,any_cons->Lk,filter_cons_of_neg->Lm,range_succ_eq_map->Lq,filter_append->Lv,filter_map->LC,flatMap_cons->LK,replicate->LP,getElem_mem->LV,getElem_map->LW,lookup->LY,getLast?_eq_getLast->Md,filter_cons_of_pos->Mi,all_cons->Ml,length_set->Mp,getElem?_drop->Mq,nodup_nil->MA,toArray->MF,any_toArray->MK,getElem?_set_ne->MM,drop_eq_nil_iff->MQ,Pairwise->MR,of_mem_zip->MZ,flatMap_append->Nb,dropWhile_cons_of_pos->Ni,getElem?_zip_eq_some->Nu,pairwise_map->ND,getElem_take->NI,getElem?_replicate->NJ,length_eq_zero_iff->NM,map_drop->NR,getElem_inj->NS,getElem?_set_self->NZ,filter_eq_nil_iff->Od,map_nil->Oj,nil_append->Ow,getElem?_zipWith->Oy,getElem?_of_mem->OB,mem_of_mem_drop->OC,length_pos_iff->OQ,map->OW
open Nat renaming le_refl->Iw,ne_of_lt->IH,lt_of_lt_of_le->IL,le_trans->Jm,lt_succ_self->JH,lt_irrefl->JJ,ne_of_gt->Kg,le_succ->Lb,lt_succ_of_lt->Li,zero_le->Lx,succ_ne_zero->LX,lt_of_le_of_lt->Mo,le_of_lt->Nl,lt_trans->Nm,le_add_right->NW,le_of_eq->Oh,zero_add->Pj,add_comm->Pl
open Option.some renaming inj->IK
open False renaming elim->IY
open PySem.Value renaming ref->IZ,type->JC,none->Kq,int->Nw,bool->Nx,str->OR,float->Pu
open PyProof.Rows renaming envOfC->Je,boot_tuple->Jx,boot_list->Kh,callWith_type1->KI,slot_tuple_getitem->Lh,boot_bool->Lr,boot_int->LF,IntsAre->LZ,boot_isinstance->MS,subscriptTail_builtinR->Oa,AllBare->Oe,get?_update_seq->Ou,Constant_none->OS,listUpdate_at->OX,seqEpoch_at->PF,IsTup->Qb
open Bool renaming and_eq_true->Jf,false_ne_true->JK,false_eq_true->Lu,beq_eq_decide_eq->ME,or_true->MG,and_eq_true_iff->MN,not_false->OH,true_and->Pb
open Option renaming map_eq_some_iff->Jg,isSome_map->Mv,isSome_iff_exists->Nz,map_some->Ov
open PySem.SeqAt renaming EqAt->JL,RcNeAt->LU
open PySem.F renaming plain_min_loop->JM,called_set->Kc,slot_dict_get->Km,slot_tuple_iterator_next->KQ,plain_max_loop->Ln,entry_dict_get->Lp,args_tuple_add_2->Mb,slot_list_getattribute->Mc,entry_tuple_add->Mg,plainAttrs_dict->Mh,slot_zip_next->Mn,slot_tuple_add->Ms,entry_min_loop->Mt,args_tuple_iterator_next_1->MT,slot_dict_setdefault->MW,entry_tuple_iterator_next->Na,kt_typeCall_dict_1->Nh,args_dict_init_2->NH,args_dict_get_2->NK,args_dict_get_3->NL,plainAttrs_list->NN,entry_dict_init->NP,entry_max_loop->NX,kt_called_dict->Oc,type_dict_get->Oo
open Sum renaming inl->JN,inr->PU
open Ne renaming symm->JW
open PySem.Obj renaming data_mapFields->Ka,mapSeq->KS,mapFields->La,isFreed_of_fields->LB,data_mapDictKeys->LO,isFreed_of_dict->OM
open Array renaming length_toList->Ki,getD_eq_getD_getElem?->Ly,getElem?_eq_some_iff->LL,perm_iff_toList_perm->Ng,append_assoc->Nk,getElem?_eq_getElem->Nv,getElem?_toList->Ot,toList_append->OO
open PySem.Heap.SameBut renaming update->Kk
open Classical renaming choose_spec->Kn,propDecidable->Ll,choose->NV
open PySem.Calls renaming spliced_cons->Kr,callWith_builtin->Lo,spliced_nil->LG,evalArgs_plain->LM,Name_function_global->Nd
open PySem.PassesOwn renaming never->KL
open True renaming intro->KR
open PySem.Builtin.SmallTypes renaming nextOf->Ld
open PySem.Around renaming under_plainId->Le
open PySem.AutoSeq1 renaming wpAny_loadPart'->Lj,sub_tuple_tuple->NG
open PySem.Builtin.Builtins renaming bindParams->LA
open PySem.Builtin.Slice renaming sliceAdjust->LQ,slicePlaces->LR
open List.cons renaming injEq->Mj
open PySem.Builtin.Tuple renaming tupleCompareSizes->Mx
open Function renaming comp_def->My
open PySem.Data renaming dict->MH
open PySem.Shared renaming TypeIs->MU
open PySem.Code renaming quiet_builtin->Nn
open Int renaming natCast_nonneg->Np,lt_of_le_of_lt->Nq,emod_lt_of_pos->Nr,toNat_natCast->NF,emod_nonneg->Ox,toNat_of_nonneg->OP,ofNat_le->Pp,le_trans->Pq
open PySem.Builtin.List renaming listTooLong->NA
open PySem.Builtin.Dict renaming updateFrom->NQ
open Nat.succ renaming inj->Oz
open Or renaming inr->OV,inl->PQ
open Prod.mk renaming injEq->OZ,inj->PL
open PySem.Str renaming ofString->Po
open PySem.Expr renaming Name->PD
namespace L2
open PySem PySem.Spec PyProof.Rows
noncomputable def C1(s:Stmt)(j:Nat):Stmt:=match s with
 | .ClassDef _ _ _ a _ _ _ _ _ _ _=>a.getD j (.Pass ⟨0,0,0,0⟩)
 | _=>.Pass ⟨0,0,0,0⟩
noncomputable def O4(s:Stmt):OT:=match s with
 | .FunctionDef _ a _ _ _ _ _ _ _ _=>a
 | _=>{ posonlyargs:=[],args:=[],vararg:=none,kwonlyargs:=[],kw_defaults:=[],kwarg:=none,defaults:=[] }
noncomputable def G9(s:Stmt):List Stmt:=match s with
 | .FunctionDef _ _ b _ _ _ _ _ _ _=>b
 | _=>[]
noncomputable def C2(s:Stmt):Nc:=match s with
 | .FunctionDef _ _ _ _ _ _ c _ _ _=>c
 | _=>{ kind:=.function,names:=[],isGenerator:=false,isCoroutine:=false }
end L2
namespace Ws
open PySem PySem.W PyProof.Rows PySem.Calls L2
noncomputable section
inductive PV where
 | non | bl (b:Bool) | int (i:Int) | str (x:Oq) | tup (l:List PV) | ref (n:Nat)
@[simp] noncomputable def U2:PV->Bool
  | .non=>true
  | .int _=>true
  | .str _=>true
  | _=>false
noncomputable def jQ:PV->Bool
 | .tup l=>l.all U2
 | x=>U2 x
noncomputable def z8:PV->Bool
 | .tup l=>l.all jQ
 | x=>U2 x
noncomputable def plain:PV->Bool
 | .tup l=>l.all z8
 | x=>U2 x
noncomputable def gC(c k:Nat):Bool:=decide (c=k)||decide (k=7)
noncomputable def cR(i:Nat):Str:=(["number","passings","at","web","leaders","limits","plan","free","ledger","kept_leaders","kept_limits","kept_free","now","turns_of_lays","sayings","first_turns","does","me","open_boxes"]:List Str).getD i "?"
noncomputable def pD(ok:Pk->Bool)(a:LN->Pk->Option (LN×Pk))(n:Nat):LN->Pk->Option LN:=
 @Nat.rec (λ_=>LN->Pk->Option LN) (λ_ _=>none)
  (λ_ ih s t=>@Bool.rec (λ_=>Option LN) (@Bool.rec (λ_=>Option LN) none (@Option.rec _ (λ_=>Option LN) none (λr=>ih r.1 r.2) (a s t)) (ok t)) (some s) (through t)) n
noncomputable def ua:List Obj->Nat->BT->BT
 | [],_,t=>t
 | o::r,n,t=>ua r (n+1) (t.ins n o)
noncomputable def pE(w:Jp)(os:Q2):LN:=⟨ua (Mm w.params).objs.toList 0 .nil,11,(Mm w.params).life,#[],Pd,PJ,os⟩
noncomputable def jy(S:LN):Frag:=(Jj S.n).filterMap λa=>(alive ((S.tree.get a).getD default)).map λo=>(a,o)
noncomputable def lk{b:Type}(c:IS->List Str->List Str->(Ir->Bool)->Bool->Ir->b)(p q:IS)(a:List Str)(Xt:Ir->Bool)(w:Jp)(s:Ir):Bool×b:=
 (staticsOk (importedModules p.main.body) (Mm w.params) s.heap&&namesBound p s.heap&&gensDone s&&laidKept (Mm w.params) s.heap,c q a (importedModules p.main.body) Xt true s)
noncomputable def jE(K:Io)(C C':Addr):Bool:=match K.lookup C with
 | some ⟨_,_,.cls cd,_⟩=>cd.mro.contains (.ref C')
 | _=>false
noncomputable def cF(K:Frag)(n:Str)(f:Addr):Bool:=decide (nsIn K mainGlobals n=some (some (.ref f)))
noncomputable def kQ(K:Frag)(n:Str):Bool:=decide (nsIn K mainGlobals n=some none)
noncomputable def kR(K:Frag)(n:Str)(v:Ip):Bool:=decide (nsIn K mainGlobals n=some (some v))
noncomputable def iC(K:Frag)(C:Addr)(n:Str)(v:Option Ip):Bool:=decide (findIn K (.ref C) n=some v)
noncomputable def cn(K:Frag)(C:Addr)(n:Str)(f:Addr):Bool:=iC K C n (some (.ref f))&&isFn K (.ref f)
noncomputable def bx(K:Frag)(cd:Ip)(q:Str)(f:Addr):Bool:=codeIn K cd q&&keepIn K (.ref f)
noncomputable def mX(K:Frag)(C:Addr):Bool:=plainGet K C Str.empty&&hasDictIn K C&&plainOver K C&&iC K C "__setattr__" (some (.builtin "object.__setattr__"))&&(Jj 19).all λj=>iC K C (cR j) none
noncomputable def jJ(K:Frag)(C:Addr):Bool:=makesIn K C&&keepIn K (.ref C)
noncomputable def blts:List Str:=["len","range","list","sorted","isinstance","int","bool","tuple","enumerate","reversed","max","min","all","any","set","zip","dict"]
noncomputable def wq(K:Frag):Bool:=decide (specialIn K (.builtin "object.__class__") "__get__" = some (some (.builtin "getset_descriptor.__get__")))&&decide (takesIn K (.builtin "object.__class__")=some true)
noncomputable def jK(K:Frag)(C a:Addr):Bool:=cn K C "__init__" a&&keepIn K (.ref C)&&iC K C "__setattr__" (some (.builtin "object.__setattr__"))&&iC K C "at" none&&iC K C "__getattribute__" (some (.builtin "BaseException.__getattribute__"))&&iC K C "__getattr__" none&&hasDictIn K C&&
 iC K C "__class__" (some (.builtin "object.__class__"))&&decide (mroIn K C (.type "object")=some true)&&decide (kitOne K (.ref C) (.type "ValueError")=some true)
noncomputable def wt(K:Frag)(cm:Nat->Addr)(a:List Nat):Bool:=a.all λc=>a.all λd=>decide (jE K (cm c) (cm d)=gC c d)&&decide (kitOne K (.ref (cm c)) (.ref (cm d))=some (gC c d))
noncomputable def er(T:Addr)(K:Frag):Frag:=K.filter λp=>!(p.1 == T)
noncomputable def kT(K:Frag)(c T:Addr):Bool:=match K.lookup c with
 | some o=>decide (o.cls=.type "code")&&!(c == T)&&(match o.data with
   | .fields a=>(match a.getD 11 .none with | .ref t=>t == T | _=>false)&&decide (11<a.size)&&(match a.getD 18 .none with | .str _ _=>true | _=>false)&&(match a.getD 7 .none with | .int _ _=>true | _=>false)&&(match a.getD 9 .none with | .bool _=>true | _=>false)&&(match a.getD 10 .none with | .int _ _=>true | _=>false)
   | _=>false)
 | none=>false
noncomputable def qP(K:Frag)(a:Addr):Bool:=decide (nsIn K mainGlobals "__builtins__" = some (some (.ref a)))&&!(a == builtinsNs)&&!(a == mainGlobals)&&match K.lookup a with
 | some o=>decide (o.cls=.type "module")&&(match o.dict with | some d=>d == builtinsNs | none=>false)&&(match o.data with | .plain=>true | _=>false)
 | none=>false
abbrev kU:List Nat:=[0,2,3,4,5,6,7,8,9,11,12,13,14,15,16,17,18,20,22,23,24,25,26,27,29,30,32,33,34,35,37,38,39,40,41]
abbrev qQ:List Str:=[]
abbrev xt(p:IS)(s:Ir):Bool:=xlAt (view p kU) [] s&&recOk (RowW.records PySem.Challenge.rw_wordswap_k34_words_said_on.row.toRowW) s
noncomputable def M4(p:IS)(i:Nat):Stmt:=p.main.body.getD i (.Pass ⟨0,0,0,0⟩)
noncomputable def cmA(i:Nat):Addr:=([223,524,374,223,223,467,223,38,51,63,223,223,75,87,99,111,123,223,0,0,0,0,0,0,0,0,0,0,0,0,1,454,224,57,456,0]:List Nat).getD i 0
abbrev bs(K:Frag):List Bool:=[(Jj 7).all λc=>mX K (cmA c),blts.all (kQ K),cF K "Web" (cmA 0),cF K "Ledger" (cmA 2),cF K "Keeper" (cmA 5),cF K "Plan" (cmA 1),cF K "SwapError" (cmA 7),cF K "NoWeb" (cmA 8),cF K "NoPlan" (cmA 9),cF K "NoDeed" (cmA 12),cF K "Laid" (cmA 13),cF K "NotLaid" (cmA 14),cF K "Late" (cmA 15),cF K "Unknown" (cmA 16),kR K "FEWEST_HANDS" (.int (2) 337),kR K "MOST_HANDS" (.int (6) 339),kR K "LAY" (.str "lay" 475),kR K "SAY" (.str "say" 477),kQ K "str",cn K (cmA 7) "__init__" 35&&bx K (.ref 34) "SwapError.__init__" 35,cF K "_law_cell_at" 535&&bx K (.ref 534) "_law_cell_at" 535,cF K "_law_mixed" 547&&bx K (.ref 546) "_law_mixed" 547,cn K (cmA 2) "__init__" 266&&bx K (.ref 265) "Ledger.__init__" 266,cF K "is_rising" 474&&bx K (.ref 473) "is_rising" 474,cF K "is_whole" 132&&bx K (.ref 131) "is_whole" 132,cF K "is_hand" 139&&bx K (.ref 138) "is_hand" 139,cF K "are_leaders" 479&&bx K (.ref 478) "are_leaders" 479,cF K "is_limit" 486&&bx K (.ref 485) "is_limit" 486,cn K (cmA 1) "__init__" 500&&bx K (.ref 499) "Plan.__init__" 500,cF K "is_number_of_hands" 146&&bx K (.ref 145) "is_number_of_hands" 146,cF K "is_passing" 153&&bx K (.ref 152) "is_passing" 153,cF K "first_wrong_passing" 160&&bx K (.ref 159) "first_wrong_passing" 160,cn K (cmA 0) "__init__" 174&&bx K (.ref 173) "Web.__init__" 174,cn K (cmA 5) "__init__" 413&&bx K (.ref 412) "Keeper.__init__" 413,cn K (cmA 1) "leads" 514&&bx K (.ref 513) "Plan.leads" 514,cn K (cmA 2) "lay_turn" 308&&bx K (.ref 307) "Ledger.lay_turn" 308,cn K (cmA 0) "givers_of" 179&&bx K (.ref 178) "Web.givers_of" 179,cn K (cmA 5) "boxes_to_me" 425&&bx K (.ref 424) "Keeper.boxes_to_me" 425,cn K (cmA 5) "ready_turn" 435&&bx K (.ref 434) "Keeper.ready_turn" 435,cn K (cmA 2) "turn" 273&&bx K (.ref 272) "Ledger.turn" 273,cn K (cmA 0) "takers_of" 184&&bx K (.ref 183) "Web.takers_of" 184,cn K (cmA 5) "boxes_of_mine" 430&&bx K (.ref 429) "Keeper.boxes_of_mine" 430,cn K (cmA 5) "lays" 440&&bx K (.ref 439) "Keeper.lays" 440,cn K (cmA 1) "limit" 507&&bx K (.ref 506) "Plan.limit" 507,cn K (cmA 2) "is_late" 322&&bx K (.ref 321) "Ledger.is_late" 322,cn K (cmA 5) "says_own_word" 452&&bx K (.ref 451) "Keeper.says_own_word" 452,cn K (cmA 2) "said" 364&&bx K (.ref 363) "Ledger.said" 364,cn K (cmA 5) "rows_to_say_on" 464&&bx K (.ref 463) "Keeper.rows_to_say_on" 464,cn K (cmA 5) "says_word_on" 457&&bx K (.ref 456) "Keeper.says_word_on" 457,cn K (cmA 5) "says" 447&&bx K (.ref 446) "Keeper.says" 447,cn K (cmA 5) "deeds" 420&&bx K (.ref 419) "Keeper.deeds" 420,cF K "_law_alike" 540&&bx K (.ref 539) "_law_alike" 540,cF K "is_box" 239&&bx K (.ref 238) "is_box" 239,cF K "is_chain" 232&&bx K (.ref 231) "is_chain" 232,cF K "is_chain_of" 244&&bx K (.ref 243) "is_chain_of" 244,cF K "is_deed" 251&&bx K (.ref 250) "is_deed" 251,cn K (cmA 2) "take_lay" 294&&bx K (.ref 293) "Ledger.take_lay" 294,cn K (cmA 2) "is_laid_ahead" 315&&bx K (.ref 314) "Ledger.is_laid_ahead" 315,cn K (cmA 2) "is_said_ahead" 336&&bx K (.ref 335) "Ledger.is_said_ahead" 336,cn K (cmA 2) "is_sayable" 329&&bx K (.ref 328) "Ledger.is_sayable" 329,cn K (cmA 2) "take_say" 301&&bx K (.ref 300) "Ledger.take_say" 301,cn K (cmA 2) "take" 287&&bx K (.ref 286) "Ledger.take" 287,cF K "_law_tried" 554&&bx K (.ref 553) "_law_tried" 554,cn K (cmA 2) "move" 280&&bx K (.ref 279) "Ledger.move" 280,cF K "law" 559&&bx K (.ref 558) "law" 559,wq K,[7,8,9,12,13,14,15,16].all λc=>jK K (cmA c) 35,wt K cmA [7,8,9,12,13,14,15,16],kQ K "ValueError",jJ K (cmA 0),jJ K (cmA 2),jJ K (cmA 5),jJ K (cmA 1),kT K (cmA 34) (cmA 31),qP K 4]
abbrev os(K:Frag):List (Option Obj):=[K.lookup 35,K.lookup 535,K.lookup 547,K.lookup 266,K.lookup 259,K.lookup 474,K.lookup 132,K.lookup 139,K.lookup 479,K.lookup 486,K.lookup 500,K.lookup 146,K.lookup 153,K.lookup 160,K.lookup 174,K.lookup 413,K.lookup 514,K.lookup 308,K.lookup 179,K.lookup 425,K.lookup 435,K.lookup 273,K.lookup 184,K.lookup 430,K.lookup 440,K.lookup 507,K.lookup 322,K.lookup 452,K.lookup 364,K.lookup 464,K.lookup 457,K.lookup 447,K.lookup 420,K.lookup 540,K.lookup 239,K.lookup 232,K.lookup 244,K.lookup 251,K.lookup 294,K.lookup 315,K.lookup 336,K.lookup 329,K.lookup 301,K.lookup 287,K.lookup 554,K.lookup 280,K.lookup 559,K.lookup (cmA 7),K.lookup (cmA 8),K.lookup (cmA 9),K.lookup (cmA 12),K.lookup (cmA 13),K.lookup (cmA 14),K.lookup (cmA 15),K.lookup (cmA 16)]
abbrev fQ(st:Stmt)(n q:Str)(d m:Ip)(c:Addr):Option Obj:=some ⟨.type "function",none,.func (fnOf n q (O4 st) (G9 st) (C2 st) d .none .none m none (.ref c) .none),#[]⟩
abbrev fP(st:Stmt)(n:Str)(m:Ip)(c:Addr):Option Obj:=fQ st n n .none m c
abbrev xO(n:Str)(C N r:Addr)(a t:Nat):Option Obj:=some (excClassObj n n C N [(.ref 38)] [(.ref 38),(.type "ValueError"),(.type "Exception"),(.type "BaseException"),(.type "object")] true [] [] false none none (some (.ref r)) none (some (.str n a)) (some (.str n t)) (some (.bool true)) "ValueError.__new__")
abbrev HG:Ip:=(.str "wordswap.errors" 194)
abbrev kW:Ip:=(.str "law_wordswap_k34_words_said_on" 861)
abbrev eY:Ip:=(.str "wordswap.ledgers" 473)
abbrev jL:Ip:=(.str "wordswap.plans" 780)
abbrev iG:Ip:=(.str "wordswap.webs" 335)
abbrev gx:Ip:=(.str "wordswap.hands" 657)
abbrev HH:Ip:=(.str "wordswap.chains" 465)
abbrev ov(p:IS):List (Option Obj):=[fQ (C1 (M4 p 2) 0) "__init__" "SwapError.__init__" .none HG 34,fP (M4 p 37) "_law_cell_at" kW 534,fP (M4 p 39) "_law_mixed" kW 546,fQ (C1 (M4 p 27) 0) "__init__" "Ledger.__init__" (.ref 259) eY 265,some ⟨(.type "tuple"),none,.seq #[.none] 0,#[]⟩,fP (M4 p 32) "is_rising" jL 473,fP (M4 p 13) "is_whole" iG 131,fP (M4 p 14) "is_hand" iG 138,fP (M4 p 33) "are_leaders" jL 478,fP (M4 p 34) "is_limit" jL 485,fQ (C1 (M4 p 35) 0) "__init__" "Plan.__init__" .none jL 499,fP (M4 p 15) "is_number_of_hands" iG 145,fP (M4 p 16) "is_passing" iG 152,fP (M4 p 17) "first_wrong_passing" iG 159,fQ (C1 (M4 p 18) 0) "__init__" "Web.__init__" .none iG 173,fQ (C1 (M4 p 30) 0) "__init__" "Keeper.__init__" .none gx 412,fQ (C1 (M4 p 35) 2) "leads" "Plan.leads" .none jL 513,fQ (C1 (M4 p 27) 6) "lay_turn" "Ledger.lay_turn" .none eY 307,fQ (C1 (M4 p 18) 1) "givers_of" "Web.givers_of" .none iG 178,fQ (C1 (M4 p 30) 2) "boxes_to_me" "Keeper.boxes_to_me" .none gx 424,fQ (C1 (M4 p 30) 4) "ready_turn" "Keeper.ready_turn" .none gx 434,fQ (C1 (M4 p 27) 1) "turn" "Ledger.turn" .none eY 272,fQ (C1 (M4 p 18) 2) "takers_of" "Web.takers_of" .none iG 183,fQ (C1 (M4 p 30) 3) "boxes_of_mine" "Keeper.boxes_of_mine" .none gx 429,fQ (C1 (M4 p 30) 5) "lays" "Keeper.lays" .none gx 439,fQ (C1 (M4 p 35) 1) "limit" "Plan.limit" .none jL 506,fQ (C1 (M4 p 27) 8) "is_late" "Ledger.is_late" .none eY 321,fQ (C1 (M4 p 30) 7) "says_own_word" "Keeper.says_own_word" .none gx 451,fQ (C1 (M4 p 27) 14) "said" "Ledger.said" .none eY 363,fQ (C1 (M4 p 30) 9) "rows_to_say_on" "Keeper.rows_to_say_on" .none gx 463,fQ (C1 (M4 p 30) 8) "says_word_on" "Keeper.says_word_on" .none gx 456,fQ (C1 (M4 p 30) 6) "says" "Keeper.says" .none gx 446,fQ (C1 (M4 p 30) 1) "deeds" "Keeper.deeds" .none gx 419,fP (M4 p 38) "_law_alike" kW 539,fP (M4 p 24) "is_box" eY 238,fP (M4 p 20) "is_chain" HH 231,fP (M4 p 25) "is_chain_of" eY 243,fP (M4 p 26) "is_deed" eY 250,fQ (C1 (M4 p 27) 4) "take_lay" "Ledger.take_lay" .none eY 293,fQ (C1 (M4 p 27) 7) "is_laid_ahead" "Ledger.is_laid_ahead" .none eY 314,fQ (C1 (M4 p 27) 10) "is_said_ahead" "Ledger.is_said_ahead" .none eY 335,fQ (C1 (M4 p 27) 9) "is_sayable" "Ledger.is_sayable" .none eY 328,fQ (C1 (M4 p 27) 5) "take_say" "Ledger.take_say" .none eY 300,fQ (C1 (M4 p 27) 3) "take" "Ledger.take" .none eY 286,fP (M4 p 40) "_law_tried" kW 553,fQ (C1 (M4 p 27) 2) "move" "Ledger.move" .none eY 279,fP (M4 p 41) "law" kW 558,some (excClassObj "SwapError" "SwapError" 38 37 [(.type "ValueError")] [(.type "ValueError"),(.type "Exception"),(.type "BaseException"),(.type "object")] true [] [(.ref 51),(.ref 63),(.ref 75),(.ref 87),(.ref 99),(.ref 111),(.ref 123)] false none none (some (.ref 22)) none (some (.str "SwapError" 196)) (some (.str "SwapError" 204)) (some (.bool true)) "ValueError.__new__"),xO "NoWeb" 51 50 42 223 231,xO "NoPlan" 63 62 54 239 247,xO "NoDeed" 75 74 66 255 263,xO "Laid" 87 86 78 271 279,xO "NotLaid" 99 98 90 287 295,xO "Late" 111 110 102 303 311,xO "Unknown" 123 122 114 319 327]
set_option maxRecDepth 100000 in
set_option maxHeartbeats 0 in
theorem HJ:∀(w:Jp)(o:Q2),(pD (PySem.W.Fast.tw6613529449190102663 11 (some (.ref 6))) (PySem.W.Fast.tw10156331382660048174 (PySem.W.Fast.tw11892475500146522536 PySem.W.Fast.tw14364793385576792824) PySem.Challenge.pw_wordswap_k34_words_said_on w) 9202 (pE w o) (topStub PySem.Challenge.pw_wordswap_k34_words_said_on)).map (λS=>(lk PySem.W.Fast.tw4187177175401517315 PySem.Challenge.pw_wordswap_k34_words_said_on (view PySem.Challenge.pw_wordswap_k34_words_said_on kU) qQ (xt PySem.Challenge.pw_wordswap_k34_words_said_on) w S.abs,(bs (er 454 (jy S))).all id,(jy S).lookup 454::os (er 454 (jy S))))=some ((true,openGood (view PySem.Challenge.pw_wordswap_k34_words_said_on kU) qQ),true,some (OI #[])::ov PySem.Challenge.pw_wordswap_k34_words_said_on):=λw o=>by kernel_rfl
set_option maxRecDepth 100000 in
set_option maxHeartbeats 0 in
theorem HM:PySem.W.OpenLaw.wellSaid PySem.Challenge.rw_wordswap_k34_words_said_on=true:=by kernel_rfl
end
end Ws
noncomputable section
set_option compiler.extract_closed false
set_option Elab.async false
set_option linter.all false
set_option maxRecDepth 100000
namespace L2
open PySem PySem.Spec PyProof.Rows
abbrev Key:=Sum Int Str
noncomputable def jg:Key->Ip->Bool
 | .inl k,v=>Ip.isInt k v
 | .inr x,v=>Ip.isStrOf x v
noncomputable def wF(w:Jp):Key->Int
 | .inl k=>hashInt k
 | .inr x=>hashStr w x
theorem keyIs_shape:∀{k:Key}{v:Ip},jg k v=true->(∃i t,k=JN i/\v=Nw i t)\/(∃x t,k=PU x/\v=OR x t)
 | .inl i,v,h=>by
   obtain⟨t,e⟩:=Ip.isInt_shape h;exact .inl ⟨i,t,rfl,e⟩
 | .inr x,v,h=>by
   obtain⟨t,e⟩:=Ip.isStrOf_shape h;exact .inr ⟨x,t,rfl,e⟩
theorem wG(i:Int)(t:Tok):jg (.inl i) (.int i t)=true:=by simp[jg,Ip.isInt]
theorem wH(x:Str)(t:Tok):jg (.inr x) (.str x t)=true:=by simp[jg,Ip.isStrOf]
theorem wI(a b:Int):decide ((JN a:Key)=JN b)=(a == b):=by
 by_cases e:a=b
 .subst e;simp
 .have h:¬(JN a:Key)=JN b:=λq=>e (JN.inj q);rw[decide_eq_false h];exact(beq_eq_false_iff_ne.mpr e).symm
theorem wJ(a b:Str):decide ((PU a:Key)=PU b)=decide (a=b):=by simp
theorem wK(a:Int)(b:Str):decide ((JN a:Key)=PU b)=false:=rfl
theorem wL(a:Str)(b:Int):decide ((PU a:Key)=JN b)=false:=rfl
noncomputable def P5(prog:IS)(w:Jp):PySem.KeyKind prog w Key where
 is:=jg
 hash:=wF w
 inj:=λv a b ha hb=>by
  rcases keyIs_shape ha with⟨i,t,rfl,rfl⟩ | ⟨x,t,rfl,rfl⟩
  .rcases keyIs_shape hb with⟨j,u,rfl,e⟩ | ⟨y,u,rfl,e⟩
   .injection e with e1 _;rw[e1]
   .exact nomatch e
  .rcases keyIs_shape hb with⟨j,u,rfl,e⟩ | ⟨y,u,rfl,e⟩
   .exact nomatch e
   .injection e with e1 _;rw[e1]
 byValue:=λk v h=>by
  rcases keyIs_shape h with⟨i,t,rfl,rfl⟩ | ⟨x,t,rfl,rfl⟩<;>rfl
 pyHash:=λhv h=>by
  rcases keyIs_shape hv with⟨i,t,rfl,rfl⟩ | ⟨x,t,rfl,rfl⟩
  .exact wpAny_pyHash_int h
  .exact wpAny_pyHash_str h
 eqBool:=λhu hv h=>by
  rcases keyIs_shape hu with⟨i,t,rfl,rfl⟩ | ⟨x,t,rfl,rfl⟩
  .rcases keyIs_shape hv with⟨j,u,rfl,rfl⟩ | ⟨y,u,rfl,rfl⟩
   .rw[wI]at h;exact wpAny_eqBool_int h
   .rw[wK]at h;exact JL.int_str i t y u _ _ _ _ h
  .rcases keyIs_shape hv with⟨j,u,rfl,rfl⟩ | ⟨y,u,rfl,rfl⟩
   .rw[wL]at h;exact JL.str_int x t j u _ _ _ _ h
   .rw[wJ]at h;exact wpAny_eqBool_str h
 «strs»:=λk x t v h=>by
  rcases keyIs_shape h with⟨i,u,rfl,e⟩ | ⟨y,u,rfl,e⟩
  .exact nomatch e
  .injection e with e1 _;subst e1;cases v<;>rfl
theorem wM(prog:IS)(w:Jp)(i:Int)(t:Tok):(P5 prog w).is (.inl i) (.int i t)=true:=wG i t
theorem wN(prog:IS)(w:Jp)(x:Str)(t:Tok):(P5 prog w).is (.inr x) (.str x t)=true:=wH x t
inductive V where
 | non | bl (b:Bool) | int (i:Int) | str (x:Str) | byt (b:Array UInt8) | flt (b:UInt64) | ref (a:Addr) | ty (n:String)
 deriving DecidableEq
noncomputable def RelV:V->Ip->Prop
 | .non,u=>u=Kq
 | .bl b,u=>u=Nx b
 | .int i,u=>∃t,u=Nw i t
 | .str x,u=>∃t,u=OR x t
 | .byt b,u=>∃t,u=Ip.bytes b t
 | .flt b,u=>∃t,u=Pu b t
 | .ref a,u=>u=IZ a
 | .ty n,u=>u=JC n
abbrev aF:List V->List Ip->Prop:=Paired RelV
theorem aF.length{a:List V}{b:List Ip}(r:aF a b):a.length=b.length:=Paired.length r
theorem aF.get:∀{a:List V}{b:List Ip}{i:Nat}{x:V},aF a b->a[i]?=some x->∃u,b[i]?=some u/\RelV x u
 | _,_,_,_,.nil,e=>by simp at e
 | _,_,0,_,.cons r _,e=>by simp at e;subst e;exact⟨_,rfl,r⟩
 | _,_,i+1,x,.cons _ t,e=>by
   obtain⟨u,c,d⟩:=aF.get t (by simpa using e);exact⟨u,by simpa using c,d⟩
theorem aF.append:∀{a b:List V}{c d:List Ip},aF a c->aF b d->aF (a++b) (c++d)
 | _,_,_,_,.nil,s=>s
 | _,_,_,_,.cons r t,s=>.cons r (aF.append t s)
theorem aF.take:∀{a:List V}{b:List Ip}(n:Nat),aF a b->aF (a.take n) (b.take n)
 | _,_,0,_=>.nil
 | _,_,_+1,.nil=>.nil
 | _,_,n+1,.cons r t=>.cons r (aF.take n t)
theorem aF.drop:∀{a:List V}{b:List Ip}(n:Nat),aF a b->aF (a.drop n) (b.drop n)
 | _,_,0,r=>r
 | _,_,_+1,.nil=>.nil
 | _,_,n+1,.cons _ t=>aF.drop n t
noncomputable def bV:Option V->Option Ip->Prop
 | some v,some u=>RelV v u
 | none,none=>True
 | _,_=>False
noncomputable def KV{a:Type}:List (a×V)->List (a×Ip)->Prop:=Paired λ(p:a×V) (q:a×Ip)=>p.1=q.1/\RelV p.2 q.2
noncomputable def kV:Key->V
 | .inl i=>.int i
 | .inr x=>.str x
inductive HO where
 | lst (xs:List V)
 | tup (xs:List V)
 | dK (kvs:List (Key×V)) | dT (kvs:List (List Key×V))
 | set (S:Int->Bool) (n:Nat)
 | ins (C dx:Addr) (fs:List (Str×V))
 | own (x:Addr)
 | xd (fs:List (Str×V))
 | met (f x:Addr)
 | rng (lo hi:Int)
 | frz (o:Obj) (u:HO)
 | tbl (ps:Array Ip)
 | ext (φ:Heap->Prop)
abbrev Hp:=Addr->Option HO
noncomputable def aJ(H:Hp)(a:Addr)(o:HO):Hp:=λb=>if b=a then some o else H b
theorem C8{H:Hp}{a:Addr}{o:HO}:aJ H a o a=some o:=by unfold aJ;rw[if_pos rfl]
theorem ak{H:Hp}{a b:Addr}{o:HO}(h:b≠a):aJ H a o b=H b:=by unfold aJ;rw[if_neg h]
theorem wO{H:Hp}{a:Addr}{o u:HO}:aJ (aJ H a o) a u=aJ H a u:=by
 funext b;unfold aJ;split<;>rfl
theorem qR{H:Hp}{a b:Addr}{o u:HO}(h:H a=some o)(h':H b=some u)(d:o≠u):a≠b:=by
 intro e;subst e;rw[h]at h';exact d (IK h')
theorem G7{H:Hp}{a b:Addr}{o:HO}(h:H a=some o)(h':H b=none):a≠b:=by
 intro e;subst e;rw[h]at h';cases h'
section
variable(P:IS)(w:Jp)
noncomputable def aP(H:Hp)(h:Heap)(a:Addr):HO->Prop
 | .lst d=>d.length<=sizeLine/\∃(b:List Ip)(n:Nat),aF d b/\h.get? a=some { cls:=.type "list",data:=.seq b.toArray n }
 | .tup d=>d.length<=sizeLine/\∃b:List Ip,aF d b/\Qb h a b.toArray
 | .dK c=>c.length<=sizeLine/\(a == sysModules)=false/\∃k,KV c k/\h.DictOf (P5 P w) a k
 | .dT c=>c.length<=sizeLine/\(a == sysModules)=false/\∃d:List (List Key×Addr×Ip),
  Paired (λ(p:List Key×V) (q:List Key×Addr×Ip)=>p.1=q.1/\H q.2.1=some (.tup (p.1.map kV))/\RelV p.2 q.2.2) c d/\
  ∃o l s,h.get? a=some o/\o.ExactDict/\o.data=.dict l s/\l.toList=d.map (entryOfKey (tupleKind (P5 P w)))/\(d.map (·.1)).Nodup
 | .set S n=>h.SetOf (intKind P w) a S n
 | .ins C i fs=>H i=some (.own a)/\fs.length<=1000/\i≠a/\h.get? a=some (KG C i)/\
  ∃g,h.Ns1 i g/\(∀f,bV (fs.lookup f) (g f))/\Nj g (fs.map (·.1))
 | .own _=>∃o,h.get? a=some o
 | .xd fs=>∃g,h.Ns1 a g/\∀f,bV (fs.lookup f) (g f)
 | .rng lo y=>∃t u v,h.get? a=some { cls:=.type "range",data:=.fields #[.int lo t,.int y u,.int 1 v] }
 | .frz o u=>h.get? a=some o/\aP H h a u
 | .tbl z=>h.get? a=some { cls:=.none,data:=.fields z }
 | .met f x=>h.get? a=some (PySem.W.methodObj (.ref f) (.ref x))
 | .ext j=>j h/\(∃o,h.get? a=some o)/\∀m r:Heap,j m->(∀o,m.get? a=some o->r.get? a=some o)->j r
def bU(H:Hp)(h:Heap):Prop:=∀a o,H a=some o->aP P w H h a o
end
section
variable{P:IS}{w:Jp}{H H':Hp}{h h':Heap}{a:Addr}{o:HO}
theorem aP.lt(x:aP P w H h a o):a<h.objs.size:=by
 cases o with
 | lst c=>obtain⟨_,_,_,_,e⟩:=x;exact IA e
 | tup c=>obtain⟨_,_,_,p⟩:=x;exact p.lt
 | dK b=>obtain⟨_,_,_,_,o,_,_,e,_⟩:=x;exact IA e
 | dT b=>obtain⟨_,_,_,_,o,_,_,e,_⟩:=x;exact IA e
 | set S n=>obtain⟨o,_,_,_,e,_⟩:=x;exact IA e
 | ins C d fs=>obtain⟨_,_,_,e,_⟩:=x;exact IA e
 | own y=>obtain⟨_,e⟩:=x;exact IA e
 | xd fs=>obtain⟨_,⟨_,_,_,e,_⟩,_⟩:=x;exact IA e
 | rng lo g=>obtain⟨_,_,_,e⟩:=x;exact IA e
 | frz i u=>obtain⟨e,_⟩:=x;exact IA e
 | tbl j=>exact IA (show h.get? a=some _ from x)
 | met f y=>exact IA (show h.get? a=some _ from x)
 | ext k=>obtain⟨_,⟨_,e⟩,_⟩:=x;exact IA e
theorem Paired.mapP{c d:Type}{F G:c->d->Prop}:∀{l₁:List c}{l₂:List d},Paired F l₁ l₂->(∀a b,F a b->G a b)->Paired G l₁ l₂
 | _,_,.nil,_=>.nil
 | _,_,.cons r t,f=>.cons (f _ _ r) (Paired.mapP t f)
theorem aP.stay(x:aP P w H h a o)(k:∀b u,(b=a\/H b=some (.own a))->h.get? b=some u->h'.get? b=some u)
 (D:∀b,H b=some (.own a)->H' b=some (.own a)) (E:∀b m,H b=some (.tup m)->H' b=some (.tup m)):aP P w H' h' a o:=by
 induction o with
 | lst m=>obtain⟨z,l,n,r,e⟩:=x;exact⟨z,l,n,r,k _ _ (.inl rfl) e⟩
 | tup m=>obtain⟨z,l,r,g,e,c⟩:=x;exact⟨z,l,r,g,k _ _ (.inl rfl) e,c⟩
 | dK s=>obtain⟨z,y,G,r,g,i,j,e,c⟩:=x;exact⟨z,y,G,r,g,i,j,k _ _ (.inl rfl) e,c⟩
 | dT s=>
   obtain⟨z,y,m,r,g,i,j,e,c⟩:=x;exact⟨z,y,m,Paired.mapP r λp q z=>⟨z.1,E _ _ z.2.1,z.2.2⟩,g,i,j,k _ _ (.inl rfl) e,c⟩
 | set S n=>obtain⟨g,i,j,t,e,c⟩:=x;exact⟨g,i,j,t,k _ _ (.inl rfl) e,c⟩
 | ins C J fs=>
   obtain⟨d,z,ne,e,A,⟨B,i,j,I,c⟩,r⟩:=x;exact⟨D _ d,z,ne,k _ _ (.inl rfl) e,A,⟨B,i,j,k _ _ (.inr d) I,c⟩,r⟩
 | own y=>obtain⟨g,e⟩:=x;exact⟨g,k _ _ (.inl rfl) e⟩
 | xd fs=>obtain⟨A,⟨B,i,j,e,c⟩,r⟩:=x;exact⟨A,⟨B,i,j,k _ _ (.inl rfl) e,c⟩,r⟩
 | rng lo L=>obtain⟨t,u,v,e⟩:=x;exact⟨t,u,v,k _ _ (.inl rfl) e⟩
 | frz g u ih=>obtain⟨e,q⟩:=x;exact⟨k _ _ (.inl rfl) e,ih q⟩
 | tbl N=>
   have e:=x;exact k a _ (.inl rfl) e
 | met f y=>
   have e:=x;exact k a _ (.inl rfl) e
 | ext O=>obtain⟨p,⟨o,e⟩,st⟩:=x;exact⟨st _ _ p λo q=>k _ _ (.inl rfl) q,⟨o,k _ _ (.inl rfl) e⟩,st⟩
theorem bU.lt(x:bU P w H h)(e:H a=some o):a<h.objs.size:=(x a o e).lt
theorem bU.fresh(x:bU P w H h)(e:h.objs.size<=a):H a=none:=by
 cases q:H a with
 | none=>rfl
 | some u=>exact absurd (IL (x.lt q) e) (JJ _)
theorem bU.kept(x:bU P w H h)(k:∀b u,h.get? b=some u->h'.get? b=some u):bU P w H h':=λa o e=>
 (x a o e).stay (λb u _ q=>k b u q) (λ_ q=>q) λ_ _ q=>q
theorem bU.laid(x:bU P w H h)(k:∀b u,h.get? b=some u->h'.get? b=some u)(g:h.objs.size<=a)(new:aP P w (aJ H a o) h' a o):bU P w (aJ H a o) h':=λb u e=>by
 have d:=x.fresh g;by_cases f:b=a
 .subst f;rw[C8]at e;cases e;exact new
 .rw[ak f]at e;exact(x b u e).stay (λc v _ q=>k c v q) (λc q=>by rw[ak (G7 q d)];exact q) λc i q=>by rw[ak (G7 q d)];exact q
end
def Rd(H:Hp)(a:Addr)(u:HO):Prop:=H a=some u\/∃o,H a=some (.frz o u)
theorem Rd.ok{P:IS}{w:Jp}{H:Hp}{h:Heap}{a:Addr}{u:HO}(r:Rd H a u)(x:bU P w H h):aP P w H h a u:=by
 rcases r with r | ⟨o,r⟩
 .exact x a u r
 .obtain⟨_,q⟩:=x a _ r;exact q
noncomputable def jM:Option HO->Prop
 | some (.lst _)=>True
 | some (.dK _)=>True
 | some (.dT _)=>True
 | some (.set _ _)=>True
 | some (.ins _ _ _)=>True
 | some (.ext _)=>True
 | _=>False
section
variable{P:IS}{w:Jp}{H:Hp}{h h':Heap}{x e:Addr}{o':HO}
theorem bU.write(ok:bU P w H h)(g:jM (H x))(he:e=x\/H e=some (.own x))(k:∀b u,b≠e->h.get? b=some u->h'.get? b=some u)(m:∃u,h'.get? e=some u)
 (new:aP P w (aJ H x o') h' x o'):bU P w (aJ H x o') h':=λb u q=>by
 have d:∀c y,H c=some (.own y)->c≠x:=λc y r z=>by subst z;rw[r]at g;exact g
 have f:∀c i,H c=some (.tup i)->c≠x:=λc i r z=>by subst z;rw[r]at g;exact g
 by_cases j:b=x
 .subst j;rw[C8]at q;cases q;exact new
 .rw[ak j]at q;by_cases a:b=e
  .have n:H b=some (.own x):=by
    rcases he with z | z
    .exact absurd (a.trans z) j
    .rw[a];exact z
   rw[q]at n;cases n;obtain⟨v,o⟩:=m;exact⟨v,by rw[a];exact o⟩
  .refine(ok b u q).stay (λc v l r=>k c v ?_ r) (λc r=>by rw[ak (d c b r)];exact r) λc i r=>by rw[ak (f c i r)];exact r
   rcases l with rfl | l
   .exact a
   .rintro rfl;rcases he with z | z
    .exact d c b l z
    .rw[l]at z;cases z;exact j rfl
end
structure Un(fs ex:List Addr)(H H':Hp)(h h':Heap):Prop where
 keep:∀b o,h.get? b=some o->H b=none->b∉fs->b∉ex->h'.get? b=some o
 slot:∀b o,h.get? b=some o->H b=none->b∈fs->b∉ex->∃sl,h'.get? b=some { o with slots:=sl }
 free:∀b o,h.get? b=some o->H b=none->b∉ex->H' b=none
 there:∀b o,h.get? b=some o->b∉ex->∃o',h'.get? b=some o'
 tups:∀b xs,H b=some (.tup xs)->H' b=some (.tup xs)
 frzs:∀b o u,H b=some (.frz o u)->H' b=some (.frz o u)
 tbls:∀b ps,H b=some (.tbl ps)->∃more,H' b=some (.tbl (ps++more))
section
variable{fs fs' ex ex':List Addr}{H H1 H2:Hp}{h h1 h2 h':Heap}{a x e:Addr}{o:HO}
theorem Un.any(u:Un fs ex H H1 h h1){b:Addr}{ob:Obj}(q:h.get? b=some ob)(n:H b=none)(c:b∉ex):∃f,h1.get? b=some { ob with slots:=f }:=by
 by_cases d:b∈fs
 .exact u.slot b ob q n d c
 .exact⟨ob.slots,u.keep b ob q n d c⟩
theorem Un.trans(a:Un fs ex H H1 h h1)(b:Un fs ex H1 H2 h1 h2):Un fs ex H H2 h h2 where
 keep:=λc ob q n hc hx=>b.keep c ob (a.keep c ob q n hc hx) (a.free c ob q n hx) hc hx
 slot:=λc ob q n hc hx=>by
  obtain⟨sl,e1⟩:=a.slot c ob q n hc hx;obtain⟨sl',e2⟩:=b.slot c _ e1 (a.free c ob q n hx) hc hx;exact⟨sl',e2⟩
 free:=λc ob q n hx=>by
  obtain⟨o',e1⟩:=a.there c ob q hx;exact b.free c o' e1 (a.free c ob q n hx) hx
 there:=λc ob q hx=>by
  obtain⟨o',e1⟩:=a.there c ob q hx;exact b.there c o' e1 hx
 tups:=λc xs q=>b.tups c xs (a.tups c xs q)
 frzs:=λc ob xs q=>b.frzs c ob xs (a.frzs c ob xs q)
 tbls:=λc ps q=>by
  obtain⟨m1,e1⟩:=a.tbls c ps q;obtain⟨m2,e2⟩:=b.tbls c _ e1;exact⟨m1++m2,by rw[e2,Nk]⟩
theorem Un.kept(k:∀b u,h.get? b=some u->h'.get? b=some u):Un fs ex H H h h':=
 ⟨λb c q _ _ _=>k b c q,λb c q _ _ _=>⟨c.slots,k b c q⟩,λ_ _ _ n _=>n,λb c q _=>⟨c,k b c q⟩,λ_ _ q=>q,λ_ _ _ q=>q,λ_ d q=>⟨#[],by rw[q];simp⟩⟩
theorem Un.refl:Un fs ex H H h h:=Un.kept λ_ _ q=>q
theorem Un.laid(k:∀b u,h.get? b=some u->h'.get? b=some u)(hp:h.objs.size<=a)(hn:H a=none):Un fs ex H (aJ H a o) h h' where
 keep:=λb u q _ _ _=>k b u q
 slot:=λb u q _ _ _=>⟨u.slots,k b u q⟩
 free:=λb u q n _=>by rw[ak (IH (IL (IA q) hp))];exact n
 there:=λb u q _=>⟨u,k b u q⟩
 tups:=λb xs q=>by rw[ak (G7 q hn)];exact q
 frzs:=λb u xs q=>by rw[ak (G7 q hn)];exact q
 tbls:=λb ps q=>⟨#[],by rw[ak (G7 q hn),q];simp⟩
theorem Un.write(d:jM (H x))(he:e=x\/H e=some (.own x))(k:∀b u,b≠e->h.get? b=some u->h'.get? b=some u)(f:∃u,h'.get? e=some u):Un fs ex H (aJ H x o) h h':=by
 have i:∀b,H b=none->b≠x:=λb n z=>by subst z;rw[n]at d;exact d
 have j:∀b,H b=none->b≠e:=λb n z=>by
  subst z;rcases he with r | r
  .exact i b n r
  .rw[n]at r;cases r
 have g:∀b u,H b=some u->¬jM (some u)->b≠x:=λb u q l z=>by subst z;rw[q]at d;exact l d
 refine⟨λb u q n _ _=>k b u (j b n) q,λb u q n _ _=>⟨u.slots,k b u (j b n) q⟩,λb u q n _=>by rw[ak (i b n)];exact n,λb u q _=>?_,
  λb m q=>by rw[ak (g b _ q λz=>z)];exact q,λb u m q=>by rw[ak (g b _ q λz=>z)];exact q,λb p q=>⟨#[],by rw[ak (g b _ q λz=>z),q];simp⟩⟩
 by_cases c:b=e
 .subst c;exact f
 .exact⟨u,k b u c q⟩
theorem Un.mono(u:Un fs ex H H1 h h1)(hs:∀b∈fs,b∈fs')(f:∀b∈ex,b∈ex'):Un fs' ex' H H1 h h1:=
 ⟨λb d q n g c=>u.keep b d q n (λz=>g (hs b z)) λz=>c (f b z),λ_ _ q n _ c=>u.any q n λz=>c (f _ z),λb d q n c=>u.free b d q n λz=>c (f b z),λb d q c=>u.there b d q λz=>c (f b z),u.tups,u.frzs,u.tbls⟩
end
noncomputable def qS(h:Heap)(H:Hp):List Addr:=(Jj h.objs.size).filter λa=>(H a).isSome
noncomputable def gy(h:Heap)(H:Hp):Heap:=PySem.W.hideAll h (qS h H)
theorem wQ(h:Heap)(H:Hp):(gy h H).objs.size=h.objs.size:=PySem.W.hideAll_size _ _
theorem wR{h:Heap}{H:Hp}{b:Addr}{o:Obj}(e:h.get? b=some o)(n:H b=none):(gy h H).get? b=some o:=
 PySem.W.hideAll_get _ e λa=>by
  have q:=(JZ.mp a).2;rw[n]at q;simp at q
theorem wU{h:Heap}{H:Hp}{b:Addr}{o:Obj}(e:(gy h H).get? b=some o):h.get? b=some o/\H b=none:=by
 have a:=PySem.W.of_hideAll _ e;refine⟨a,?_⟩;cases q:H b with
 | none=>rfl
 | some x=>
   have c:b∈qS h H:=JZ.mpr ⟨JO.mpr (IA a),by simp[q]⟩;have z:(gy h H).get? b=none:=PySem.W.hideAll_none _ c;rw[z]at e;cases e
structure Mod(K:Io)(mg:Str->Option Ip)(base:Heap):Prop where
 kin:K.In base
 glob:base.Ns mainGlobals mg
 blt:∃mb,base.Ns builtinsNs mb/\∀x:Str,x≠"__name__"->mb x=bootBuiltins x
 nolimit:base.NoLimit
structure Cx where
 prog:IS
 w:Jp
 K:Io
 mg:Str->Option Ip
 base:Heap
 A:Ji
 N:List Str
 s₀:Ir
 H₀:Hp
 env:Env
 outer:List Env
 stack:List Env
 ex:List Addr
 fn:Str->Bool
 calm:Bool
 pn:List (Addr×Obj)
 xe:Ip->Ir->Prop
noncomputable def frs(l:List Env):List Addr:=l.filterMap (·.frame)
abbrev Cx.fs(X:Cx):List Addr:=frs X.outer
def jh(a:Nc)(x:Str):Prop:=a.names.lookup x=some .local\/a.names.lookup x=some .cell\/a.names.lookup x=some .free
def Loc(a:Nc)(x:Str):Prop:=a.names.lookup x=some .local\/a.names.lookup x=some .cell
def wV(a:Env)(h:Heap)(m:Str->Option Ip)(x:Str)(u:Ip):Prop:=
 (a.kindOf x=some .local/\m x=some u)\/((a.kindOf x=some .cell\/a.kindOf x=some .free)/\∃c,a.cells.lookup x=some c/\h.IsCell c (some u))
structure Cx.Ok(X:Cx):Prop where
 mod:Mod X.K X.mg X.base
 kind:X.env.scope.kind=.function
 glob:X.env.globals=mainGlobals
 blt:X.env.builtins=builtinsNs
 above:X.s₀.heap.objs.size<=X.env.locals
 inj:∀x y c,X.env.cells.lookup x=some c->X.env.cells.lookup y=some c->x=y
 has:∀x,(X.env.kindOf x=some .cell\/X.env.kindOf x=some .free)->∃c,X.env.cells.lookup x=some c
 cab:∀x c,X.fn x=true->X.env.cells.lookup x=some c->X.s₀.heap.objs.size<=c
 hd:X.calm=true->X.A.handled=none
 frames:X.A.frames=some X.stack
 stk:X.stack=X.outer\/(X.stack=X.env::X.outer/\X.env.frame=some X.env.locals)
 exf:∀b∈X.ex,b≠X.env.locals/\∀x c,X.env.cells.lookup x=some c->c≠b
 bs:∀b o,X.base.get? b=some o->X.s₀.heap.get? b=some o/\X.H₀ b=none
 bsz:X.base.objs.size<=X.s₀.heap.objs.size
 noex:∀b o,X.base.get? b=some o->b∉X.ex
 exfs:∀b∈X.ex,b∉X.fs
 funs:X.s₀.heap.FunFrames X.base X.outer
 frf:∀b∈X.fs,X.H₀ b=none
structure Inv(X:Cx)(pins:List (Addr×Obj))(σ:List (Option V))(H:Hp)(s:Ir):Prop where
 ok:X.Ok
 os:s.os=X.s₀.os
 bare:Oe s.gens
 base:Un X.fs X.ex X.H₀ H X.s₀.heap s.heap
 loc:∃m,s.heap.Ns X.env.locals m/\∀(i:Nat)(x:Str)(v:V),X.N[i]?=some x->σ[i]?=some (some v)->jh X.env.scope x->∃u,RelV v u/\wV X.env s.heap m x u
 cell:∀x c,X.env.cells.lookup x=some c->∃v,s.heap.IsCell c v
 free:H X.env.locals=none
 freeC:∀x c,X.env.cells.lookup x=some c->H c=none
 pin:∀p∈X.pn++pins,s.heap.get? p.1=some p.2/\H p.1=none/\p.1≠X.env.locals/\p.1∉X.fs/\∀v,p.2.data≠.cell v
 hok:bU X.prog X.w H s.heap
 len:σ.length=X.N.length
section
variable{X:Cx}{pins:List (Addr×Obj)}{σ:List (Option V)}{H H':Hp}{s:Ir}{h':Heap}
theorem Cx.Ok.nofr(ok:X.Ok){b:Addr}{o:Obj}(e:X.base.get? b=some o):b∉X.fs:=λa=>by
 have:=(ok.funs.mem a).1;rw[e]at this;cases this
theorem Inv.bs(I:Inv X pins σ H s):∀b o,X.base.get? b=some o->s.heap.get? b=some o/\H b=none:=λb o e=>
 ⟨I.base.keep b o (I.ok.bs b o e).1 (I.ok.bs b o e).2 (I.ok.nofr e) (I.ok.noex b o e),I.base.free b o (I.ok.bs b o e).1 (I.ok.bs b o e).2 (I.ok.noex b o e)⟩
theorem Inv.bk(I:Inv X pins σ H s):∀b o,X.base.get? b=some o->s.heap.get? b=some o:=λb o e=>(I.bs b o e).1
theorem Inv.mod(I:Inv X pins σ H s):Mod X.K X.mg X.base:=I.ok.mod
theorem Inv.kIn(I:Inv X pins σ H s):X.K.In s.heap:=I.ok.mod.kin.keeps I.bk
theorem Inv.lt(I:Inv X pins σ H s):X.env.locals<s.heap.objs.size:=let⟨_,a,_⟩:=I.loc;a.lt
theorem Inv.sz(I:Inv X pins σ H s):X.s₀.heap.objs.size<=s.heap.objs.size:=Jm I.ok.above (Nl I.lt)
theorem Inv.nofs(I:Inv X pins σ H s){a:Addr}(h:s.heap.objs.size<=a):a∉X.fs:=λb=>by
 obtain⟨_,o,c,_⟩:=I.ok.funs.mem b;exact absurd (IL (IA c) (Jm I.sz h)) (JJ _)
theorem Inv.cne(I:Inv X pins σ H s):∀x c,X.env.cells.lookup x=some c->c≠X.env.locals:=λx c e z=>by
 obtain⟨v,o,d,hd⟩:=I.cell x c e;obtain⟨m,⟨f,g,h,a,b,_⟩,_⟩:=I.loc;rw[z,a]at d;cases d;rw[b]at hd;cases hd
theorem Inv.funs(I:Inv X pins σ H s):s.heap.FunFrames X.base X.outer:=by
 have all:∀(l:List Env),(∀b∈frs l,b∈X.fs)->X.s₀.heap.FunFrames X.base l->s.heap.FunFrames X.base l:=by
  intro l;induction l with
  | nil=>intro _ _;trivial
  | cons g r ih=>
    intro f h;obtain⟨i,⟨L,o,a,j,k,hd⟩,m⟩:=h;have c:=f L (by unfold frs;rw[KH,a];exact Iz);obtain⟨n,e⟩:=I.base.slot L o k (I.ok.frf L c) c λz=>I.ok.exfs L z c;exact⟨i,⟨L,_,a,j,e,hd⟩,ih (λb d=>f b (by unfold frs;rw[KH,a];exact IE _ d)) m⟩
 exact all _ (λ_ d=>d) I.ok.funs
theorem Inv.stack(I:Inv X pins σ H s):s.heap.FunFrames X.base X.stack:=by
 rcases I.ok.stk with e | ⟨e,a⟩
 .rw[e];exact I.funs
 .rw[e];obtain⟨m,b,_⟩:=I.loc;refine .cons (by rw[I.ok.kind];decide) a b ?_ I.funs;exact Heap.get?_none_of_le (Jm I.ok.bsz I.ok.above)
theorem Inv.stkSub(I:Inv X pins σ H s):∀b∈frs X.stack,b∈X.env.locals::X.fs:=λb a=>by
 rcases I.ok.stk with e | ⟨e,c⟩
 .rw[e]at a;exact IE _ a
 .rw[e]at a;unfold frs at a;rw[KH,c]at a;exact a
theorem Inv.stkFree(I:Inv X pins σ H s):∀b∈frs X.stack,H b=none:=λb a=>by
 rcases IF.mp (I.stkSub b a)with e | a
 .rw[e];exact I.free
 .obtain⟨_,o,c,_⟩:=I.ok.funs.mem a;exact I.base.free b o c (I.ok.frf b a) λz=>I.ok.exfs b z a
theorem Inv.step{g':Array Pr}{t':Nat}{d':Drawn}{ch:List Addr}(I:Inv X pins σ H s)
 (g:∀b∈ch,(b∈X.ex\/X.s₀.heap.objs.size<=b)/\b≠X.env.locals/\(∀x c,X.env.cells.lookup x=some c->c≠b)/\∀p∈X.pn++pins,p.1≠b)
 (keep:∀b o,b≠X.env.locals->b∉X.fs->b∉ch->s.heap.get? b=some o->H b=none->h'.get? b=some o)
 (slot:∀b o,b≠X.env.locals->b∈X.fs->b∉ch->s.heap.get? b=some o->H b=none->∃Y,h'.get? b=some { o with slots:=Y }) (f:∀b o,b∉ch->s.heap.get? b=some o->H b=none->H' b=none)
 (C:∀b o,b∉ch->s.heap.get? b=some o->∃G,h'.get? b=some G)
 (J:∀b B,H b=some (.tup B)->H' b=some (.tup B)) (L:∀b o u,H b=some (.frz o u)->H' b=some (.frz o u)) (N:∀b U,H b=some (.tbl U)->∃O,H' b=some (.tbl (U++O)))
 (ns:∀m,s.heap.Ns X.env.locals m->h'.Ns X.env.locals m) (a0:bU X.prog X.w H' h') (hg:Oe g') :
 Inv X pins σ H' { s with heap:=h',gens:=g',drawn:=d',toks:=t' }:=by
 have Q:∀b o,X.s₀.heap.get? b=some o->b≠_:=λb o e=>IH (IL (IA e) I.ok.above);have y:∀b o,X.s₀.heap.get? b=some o->b∉X.ex->b∉ch:=λb o e a D=>by
  rcases(g b D).1 with z | z
  .exact a z
  .exact absurd (IL (IA e) z) (JJ _)
 have h:∀x c,X.env.cells.lookup x=some c->∀v,s.heap.IsCell c v->h'.IsCell c v:=λx c e v hq=>by
  obtain⟨o,E,hd⟩:=hq;have j:=λz=>(g c z).2.2.1 x c e rfl;by_cases hc:c∈X.fs
  .obtain⟨Y,q⟩:=slot c o (I.cne x c e) hc j E (I.freeC x c e);exact⟨_,q,hd⟩
  .exact⟨o,keep c o (I.cne x c e) hc j E (I.freeC x c e),hd⟩
 refine⟨I.ok,I.os,hg,⟨λb o e n D a=>?_,λb o e n D a=>?_,λb o e n a=>?_,λb o e a=>?_,λb B e=>J b B (I.base.tups b B e),λb o B e=>L b o B (I.base.frzs b o B e),λb U e=>?_⟩,?_,λx c e=>?_,?_,λx c e=>?_,λp hp=>?_,a0,I.len⟩
 .exact keep b o (Q b o e) D (y b o e a) (I.base.keep b o e n D a) (I.base.free b o e n a)
 .obtain⟨Y,A⟩:=I.base.slot b o e n D a;obtain⟨a1,T⟩:=slot b _ (Q b o e) D (y b o e a) A (I.base.free b o e n a);exact⟨a1,T⟩
 .obtain⟨G,A⟩:=I.base.there b o e a;exact f b G (y b o e a) A (I.base.free b o e n a)
 .obtain⟨G,A⟩:=I.base.there b o e a;exact C b G (y b o e a) A
 .obtain⟨m1,A⟩:=I.base.tbls b U e;obtain⟨m2,T⟩:=N b _ A;exact⟨m1++m2,by rw[T,Nk]⟩
 .obtain⟨m,hn,hl⟩:=I.loc;refine⟨m,ns m hn,λi x v A T e3=>?_⟩;obtain⟨u,r,l⟩:=hl i x v A T e3;refine⟨u,r,?_⟩;rcases l with l | ⟨k,c,e,z⟩
  .exact .inl l
  .exact .inr ⟨k,c,e,h x c e _ z⟩
 .obtain⟨v,z⟩:=I.cell x c e;exact⟨v,h x c e v z⟩
 .obtain⟨m,⟨o,_,_,E,_⟩,_⟩:=I.loc;exact f _ o (λz=>(g _ z).2.1 rfl) E I.free
 .obtain⟨v,o,E,hd⟩:=I.cell x c e;exact f c o (λz=>(g c z).2.2.1 x c e rfl) E (I.freeC x c e)
 .obtain⟨e,n,ne,nf,d⟩:=I.pin p hp;have j:=λz=>(g p.1 z).2.2.2 p hp rfl;exact⟨keep p.1 p.2 ne nf j e n,f p.1 p.2 j e n,ne,nf,d⟩
theorem Inv.un{t':Nat}(I:Inv X pins σ H s)(u:Un X.fs [] H H' s.heap h')(c:bU X.prog X.w H' h'):Inv X pins σ H' { s with heap:=h',toks:=t' }:=by
 obtain⟨m,⟨o,q,v,j,r⟩,_⟩:=id I.loc;obtain⟨x,k⟩:=u.any j I.free (by simp);exact I.step (g':=_) (ch:=[]) nofun (λb o _ d _ e n=>u.keep b o e n d nofun) (λb o _ d _ e n=>u.slot b o e n d nofun) (λb o _ e n=>u.free b o e n nofun) (λb o _ e=>u.there b o e nofun) u.tups u.frzs u.tbls (λy l=>by
  obtain⟨o',f,g,a,p⟩:=l;rw[j]at a;cases a;exact⟨_,f,g,k,p⟩) c I.bare
theorem Inv.call{g':Array Pr}{t':Nat}{d':Drawn}{ch:List Addr}(I:Inv X pins σ H s)(u:Un (frs X.stack) ch H H' s.heap h')(g:bU X.prog X.w H' h')(y:Oe g')
 (d:∀b∈ch,(b∈X.ex\/X.s₀.heap.objs.size<=b)/\b≠X.env.locals/\(∀x c,X.env.cells.lookup x=some c->c≠b)/\∀p∈X.pn++pins,p.1≠b) :
 Inv X pins σ H' { s with heap:=h',gens:=g',drawn:=d',toks:=t' }:=by
 obtain⟨m,⟨o,D,E,v,r⟩,_⟩:=id I.loc;obtain⟨G,h⟩:=u.any v I.free λz=>(d _ z).2.1 rfl;exact I.step d (λb o h A a e n=>u.keep b o e n (λz=>(IF.mp (I.stkSub b z)).elim h A) a) (λb o _ _ a e n=>u.any e n a) (λb o a e n=>u.free b o e n a) (λb o a e=>u.there b o e a) u.tups u.frzs u.tbls (λJ B=>by
  obtain⟨o',i,j,f,C⟩:=B;rw[v]at f;cases f;exact⟨_,i,j,h,C⟩) g y
theorem Inv.turned{t':Nat}{it:Addr}(I:Inv X pins σ H s)(k:∀b o,b≠it->s.heap.get? b=some o->h'.get? b=some o)(i:H it=none)(f:it≠X.env.locals)
 (j:it∈X.ex\/X.s₀.heap.objs.size<=it) (l:∀x c,X.env.cells.lookup x=some c->c≠it) (w:∀p∈X.pn++pins,p.1≠it):Inv X pins σ H { s with heap:=h',toks:=t' }:=by
 have d:∀b u,H b=some u->b≠it:=λb u e z=>by rw[z,i]at e;cases e
 refine I.step (ch:=[it]) (λb y=>?_) (λb o _ _ a e _=>k b o (λz=>a (by simp[z])) e) (λb o _ _ a e _=>⟨o.slots,k b o (λz=>a (by simp[z])) e⟩) (λ_ _ _ _ n=>n)
  (λb o a e=>⟨o,k b o (λz=>a (by simp[z])) e⟩) (λ_ _ e=>e) (λ_ _ _ e=>e) (λb E e=>⟨#[],by rw[e];simp⟩) (λm A=>?_) (λb u e=>?_) I.bare
 .have e:b=it:=by simpa using y
  subst e;exact⟨j,f,l,w⟩
 .obtain⟨o,B,C,D,r⟩:=A;exact⟨o,B,C,k _ o (JW f) D,r⟩
 .refine(I.hok b u e).stay (λc v a q=>k c v ?_ q) (λ_ q=>q) λ_ _ q=>q;rcases a with z | z
  .rw[z];exact d b u e
  .exact d c _ z
theorem Inv.tok(I:Inv X pins σ H s)(t:Nat):Inv X pins σ H { s with toks:=t }:=I.un Un.refl I.hok
theorem Inv.kept{t':Nat}(I:Inv X pins σ H s)(k:∀b u,s.heap.get? b=some u->h'.get? b=some u):Inv X pins σ H { s with heap:=h',toks:=t' }:=I.un (Un.kept k) (I.hok.kept k)
theorem Inv.laid{a:Addr}{o:HO}{t':Nat}(I:Inv X pins σ H s)(k:∀b u,s.heap.get? b=some u->h'.get? b=some u)(c:s.heap.objs.size<=a)(new:aP X.prog X.w (aJ H a o) h' a o) :
 Inv X pins σ (aJ H a o) { s with heap:=h',toks:=t' }:=I.un (Un.laid k c (I.hok.fresh c)) (I.hok.laid k c new)
theorem Inv.write{x e:Addr}{o:HO}{t':Nat}(I:Inv X pins σ H s)(c:jM (H x))(he:e=x\/H e=some (.own x))(k:∀b u,b≠e->s.heap.get? b=some u->h'.get? b=some u)(a:∃u,h'.get? e=some u)
 (new:aP X.prog X.w (aJ H x o) h' x o):Inv X pins σ (aJ H x o) { s with heap:=h',toks:=t' }:=I.un (Un.write c he k a) (I.hok.write c he k a new)
theorem Inv.pins_of{a:List (Addr×Obj)}(I:Inv X pins σ H s)(h:∀p∈a,s.heap.get? p.1=some p.2/\H p.1=none/\p.1≠X.env.locals/\p.1∉X.fs/\∀v,p.2.data≠.cell v):Inv X a σ H s:=
 ⟨I.ok,I.os,I.bare,I.base,I.loc,I.cell,I.free,I.freeC,λp b=>(IV.mp b).elim (λz=>I.pin p (Kd _ z)) (h p),I.hok,I.len⟩
theorem qT{N:List Str}(c:N.Nodup){i j:Nat}{x:Str}(a:N[i]?=some x)(b:N[j]?=some x):i=j:=by
 obtain⟨f,d⟩:=IG.mp a;obtain⟨g,e⟩:=IG.mp b;exact(NS c).mp (d.trans e.symm)
theorem wW{M:Qa}{A:Ji}{E:Ip->Ir->Prop}{i:Nat}{x:Str}{v:V}{u:Ip}{Q:Unit->Ir->Prop}(I:Inv X pins σ H s)(hN:X.N.Nodup)(Y:X.N[i]?=some x)(C:Loc X.env.scope x)(r:RelV v u)
 (h:∀s',Inv X pins (σ.set i (some v)) H s'->(∃a,Kf a s.heap s'.heap/\(a=X.env.locals\/X.env.cells.lookup x=some a))->Q () s') (hf:X.fn x=true\/X.env.scope.names.lookup x=some .local:=by first | exact .inl rfl | exact .inr rfl | assumption):wpAny M A (storeName X.env x u) Q E s:=by
 obtain⟨m,hn,hl⟩:=id I.loc;have a0:(X.env.scope.kind == .class||(X.env.scope.kind == .module&&X.env.locals != X.env.globals))=false:=by rw[I.ok.kind];rfl
 have J:i<σ.length:=by rw[I.len];exact(IG.mp Y).1
 have cne:=I.cne;have g:∀{a:Addr}{h':Heap},(∃o,s.heap.get? a=some o/\H a=none)->Kf a _ h'->bU _ X.w H h':=λ{a h'} ha f b ob e=>by
  obtain⟨_,_,D⟩:=ha;refine(I.hok b ob e).stay (λc w' B q=>(f.2 c ?_).trans q) (λ_ q=>q) λ_ _ q=>q;rintro rfl;rcases B with rfl | B
  .rw[D]at e;cases e
  .rw[D]at B;cases B
 rcases C with L | L
 .refine wpAny_storeName_local L hn (λh' a9 f=>?_) a0;obtain⟨oL,_,_,b0,_⟩:=id hn;refine h _ ⟨I.ok,I.os,I.bare,⟨λb o e n O C=>?_,λb o e n O C=>?_,I.base.free,λb o e C=>?_,I.base.tups,I.base.frzs,I.base.tbls⟩,⟨_,a9,λj y v' l G e3=>?_⟩,λy c e=>?_,I.free,I.freeC,λp hp=>?_,g ⟨oL,b0,I.free⟩ f,by simpa using I.len⟩ ⟨_,f,.inl rfl⟩
  .exact(f.2 b (IH (IL (IA e) I.ok.above))).trans (I.base.keep b o e n O C)
  .obtain⟨sl,l⟩:=I.base.slot b o e n O C;exact⟨sl,(f.2 b (IH (IL (IA e) I.ok.above))).trans l⟩
  .obtain⟨o',l⟩:=I.base.there b o e C;exact⟨o',(f.2 b (IH (IL (IA e) I.ok.above))).trans l⟩
  .by_cases T:j=i
   .subst T;rw[Y]at l;cases l;rw[NZ J]at G;cases G;exact⟨u,r,.inl ⟨L,by simp⟩⟩
   .rw[MM (JW T)]at G;obtain⟨u',r',q⟩:=hl j y v' l G e3;refine⟨u',r',?_⟩;rcases q with⟨k,e⟩ | ⟨k,c,e,z⟩
    .refine .inl ⟨k,?_⟩;have:y≠x:=λe=>T (qT hN l (e ▸ Y));simp[this,e]
    .exact .inr ⟨k,c,e,z.sameBut f (cne y c e)⟩
  .obtain⟨w',z⟩:=I.cell y c e;exact⟨w',z.sameBut f (cne y c e)⟩
  .obtain⟨e,n,ne,nf,d⟩:=I.pin p hp;exact⟨(f.2 p.1 ne).trans e,n,ne,nf,d⟩
 .have U:X.fn x=true:=by
   rcases hf with z | z
   .exact z
   .rw[z]at L;cases L
  obtain⟨c,B⟩:=I.ok.has x (.inl L);obtain⟨w',z⟩:=I.cell x c B;refine wpAny_storeName_cell I.ok.kind L B z (λh' a1 f=>?_);obtain⟨oc,a2,a3⟩:=id z;refine h { s with heap:=h' } ⟨I.ok,I.os,I.bare,⟨λb o e n O C=>?_,λb o e n O C=>?_,I.base.free,λb o e C=>?_,I.base.tups,I.base.frzs,I.base.tbls⟩,⟨m,hn.sameBut f (JW (cne x c B)),λj y v' l G e3=>?_⟩,λy c' e=>?_,I.free,I.freeC,λp hp=>?_,g ⟨oc,a2,I.freeC x c B⟩ f,by simpa using I.len⟩ ⟨c,f,.inr B⟩
  .exact(f.2 b (IH (IL (IA e) (I.ok.cab x c U B)))).trans (I.base.keep b o e n O C)
  .obtain⟨sl,l⟩:=I.base.slot b o e n O C;exact⟨sl,(f.2 b (IH (IL (IA e) (I.ok.cab x c U B)))).trans l⟩
  .obtain⟨o',l⟩:=I.base.there b o e C;exact⟨o',(f.2 b (IH (IL (IA e) (I.ok.cab x c U B)))).trans l⟩
  .by_cases T:j=i
   .subst T;rw[Y]at l;cases l;rw[NZ J]at G;cases G;exact⟨u,r,.inr ⟨.inl L,c,B,a1⟩⟩
   .rw[MM (JW T)]at G;obtain⟨u',r',q⟩:=hl j y v' l G e3;refine⟨u',r',?_⟩;rcases q with q | ⟨k,c',e,z'⟩
    .exact .inl q
    .refine .inr ⟨k,c',e,z'.sameBut f ?_⟩;rintro rfl;exact T (qT hN l (I.ok.inj _ _ _ e B ▸ Y))
  .by_cases a4:c'=c
   .subst a4;exact⟨_,a1⟩
   .obtain⟨w2,z2⟩:=I.cell y c' e;exact⟨w2,z2.sameBut f a4⟩
  .obtain⟨e,n,ne,nf,d⟩:=I.pin p hp;refine⟨(f.2 p.1 ?_).trans e,n,ne,nf,d⟩;intro q;rw[q,a2]at e;have q':=IK e;exact d w' (by rw[<-q'];exact a3)
theorem mZ{M:Qa}{A:Ji}{E:Ip->Ir->Prop}{i:Nat}{x:Str}{v:V}{u:Ip}{Q:Unit->Ir->Prop}(I:Inv X pins σ H s)(b:X.N.Nodup)(c:X.N[i]?=some x)(d:Loc X.env.scope x)(r:RelV v u)
 (h:∀a,Inv X pins (σ.set i (some v)) H a->Q () a) (e:X.fn x=true\/X.env.scope.names.lookup x=some .local:=by first | exact .inl rfl | exact .inr rfl | assumption):wpAny M A (storeName X.env x u) Q E s:=
 wW I b c d r (λa f _=>h a f) e
theorem Inv.call'{a:Ir}{ch:List Addr}(I:Inv X pins σ H s)(g:a.os=s.os)(u:Un (frs X.stack) ch H H' s.heap a.heap)(d:bU X.prog X.w H' a.heap)(h:Oe a.gens)
 (f:∀b∈ch,(b∈X.ex\/X.s₀.heap.objs.size<=b)/\b≠X.env.locals/\(∀x c,X.env.cells.lookup x=some c->c≠b)/\∀p∈X.pn++pins,p.1≠b):Inv X pins σ H' a:=by
 obtain⟨h',i,j,k,l⟩:=a;have e:=g;subst e;exact I.call u d h f
end
abbrev XK:=Ip->Option Addr->Hp->Prop
abbrev St:=List (Option V)
abbrev VK:=V->Hp->Prop
abbrev TE:=St->Hp->VK->Prop
abbrev TT:=St->Hp->(Bool->Hp->Prop)->Prop
abbrev TA:=St->Hp->(List V->Hp->Prop)->Prop
structure w9 where
 nx:St->Hp->Prop
 rt:VK
 bk:St->Hp->Prop:=λ_ _=>False
 ct:St->Hp->Prop:=λ_ _=>False
abbrev TS:=w9->St->Hp->Prop
inductive EP (X:Cx) (pins:List (Addr×Obj)) (σ:St) (Q:VK) (u:Ip) (s':Ir):Prop
 | mk (v) (H') (h0:Inv X pins σ H' s') (h1:RelV v u) (h2:Q v H'):EP X pins σ Q u s'
inductive TP (X:Cx) (pins:List (Addr×Obj)) (σ:St) (Q:Bool->Hp->Prop) (b:Bool) (s':Ir):Prop
 | mk (H') (h0:Inv X pins σ H' s') (h1:Q b H'):TP X pins σ Q b s'
inductive AP (X:Cx) (pins:List (Addr×Obj)) (σ:St) (Q:List V->Hp->Prop) (us:List Ip) (s':Ir):Prop
 | mk (vs) (H') (h0:Inv X pins σ H' s') (h1:aF vs us) (h2:Q vs H'):AP X pins σ Q us s'
def SP(X:Cx)(b:List (Addr×Obj))(D:w9)(f:Flow)(d:Ir):Prop:=
 match f with
 | .next=>∃a c,Inv X b a c d/\D.nx a c
 | .brk=>∃a c,Inv X b a c d/\D.bk a c
 | .cont=>∃a c,Inv X b a c d/\D.ct a c
 | .ret u=>∃v a c,Inv X b a c d/\RelV v u/\D.rt v c
def PE(X:Cx)(e:Expr)(t:TE):Prop:=
 ∀(a:List (Addr×Obj))(s:Ir)(σ:St)(H:Hp)(Q:VK),Inv X a σ H s->t σ H Q->wpAny (model X.prog X.w) X.A (eval e X.env) (EP X a σ Q) X.xe s
def PT(X:Cx)(e:Expr)(t:TT):Prop:=
 ∀(a:List (Addr×Obj))(s:Ir)(σ:St)(H:Hp)(Q:Bool->Hp->Prop),Inv X a σ H s->t σ H Q->wpAny (model X.prog X.w) X.A (isTrue e X.env (eval e X.env)) (TP X a σ Q) X.xe s
def PW(X:Cx)(e:Expr)(t:TT):Prop:=
 ∀(whole:Sem Ip)(a:List (Addr×Obj))(s:Ir)(σ:St)(H:Hp)(Q:Bool->Hp->Prop),Inv X a σ H s->t σ H Q->wpAny (model X.prog X.w) X.A (isTrue e X.env whole) (TP X a σ Q) X.xe s
theorem PW.pt{X:Cx}{e:Expr}{t:TT}(h:PW X e t):PT X e t:=h _
def PA(X:Cx)(b:List Expr)(t:TA):Prop:=
 ∀(pos:Pos)(a:List (Addr×Obj))(s:Ir)(σ:St)(H:Hp)(Q:List V->Hp->Prop),Inv X a σ H s->t σ H Q->wpAny (model X.prog X.w) X.A (spliced (backTo pos (starEach b X.env))) (AP X a σ Q) X.xe s
def PS(X:Cx)(st:Stmt)(t:TS):Prop:=
 ∀(a:List (Addr×Obj))(s:Ir)(σ:St)(H:Hp)(D:w9),Inv X a σ H s->t D σ H->wpAny (model X.prog X.w) X.A (exec st X.env) (SP X a D) X.xe s
def cC(X:Cx)(st:List Stmt)(t:TS):Prop:=
 ∀(a:List (Addr×Obj))(s:Ir)(σ:St)(H:Hp)(D:w9),Inv X a σ H s->t D σ H->wpAny (model X.prog X.w) X.A (execs st X.env) (SP X a D) X.xe s
theorem aQ{b:Type}{t:Sem b}{Q c:b->Ir->Prop}{M:Qa}{A:Ji}{E:Ip->Ir->Prop}{s:Ir}(h:wpAny M A t Q E s)(d:∀a s,Q a s->c a s):wpAny M A t c E s:=Jh h d λ_ _ x=>x
section
variable{X:Cx}
noncomputable def fN(i:Nat):TE:=λa H Q=>∃v,a[i]?=some (some v)/\Q v H
noncomputable def tC(v:V):TE:=λ_ H Q=>Q v H
theorem wX{i:Nat}{x:Str}{pos:Pos}(j:X.N[i]?=some x)(k:jh X.env.scope x)(hd:(x == ("__debug__" : Str))=false:=by decide)(f:(x == ("__classdict__" : Str))=false:=by decide):PE X (.Name x pos) (fN i):=by
 intro d s n H Q I h;obtain⟨v,e,h⟩:=h;obtain⟨m,o,p⟩:=I.loc;obtain⟨u,r,l⟩:=p i x v j e k;have fin:EP X d n Q u s:=⟨v,H,I,r,h⟩;rcases l with⟨b,q⟩ | ⟨b,c,g,a⟩
 .exact wpAny_Name (wpAny_loadName_local I.ok.kind b o q fin) hd
 .rcases b with b | b
  .exact wpAny_Name (wpAny_loadName_cell I.ok.kind b g a fin) hd
  .exact wpAny_Name (wpAny_loadName_free I.ok.kind b g a fin f) hd
theorem qU{i j pos}:PE X (.Constant (.int i) j pos) (tC (.int i)):=λ_ _ _ H _ I h=>wpAny_Constant_int ⟨.int i,H,I.tok _,⟨_,rfl⟩,h⟩
theorem wY{b j pos}:PE X (.Constant (.bool b) j pos) (tC (.bl b)):=λ_ _ _ H _ I h=>Constant_bool ⟨.bl b,H,I,rfl,h⟩
theorem wZ{j pos}:PE X (.Constant .none j pos) (tC .non):=λ_ _ _ H _ I h=>OS ⟨.non,H,I,rfl,h⟩
theorem xa{x j pos}:PE X (.Constant (.str x) j pos) (tC (.str x)):=λ_ _ _ H _ I h=>Calls.Constant_str ⟨.str x,H,I.tok _,⟨_,rfl⟩,h⟩
def Gl(X:Cx)(x:Str):Prop:=X.env.kindOf x=some .globalImplicit
theorem x8{E:Ip->Ir->Prop}{a:List (Addr×Obj)}{s:Ir}{σ:St}{H:Hp}{x:Str}{u:Ip}{pos:Pos}{Q:Ip->Ir->Prop}(I:Inv X a σ H s)(b:Gl X x)(c:X.mg x=some u)(h:Q u s)
 (hd:(x == ("__debug__" : Str))=false:=by decide):wpAny (model X.prog X.w) X.A (eval (.Name x pos) X.env) Q E s:=
 Nd I.ok.kind b (Calls.loadGlobal_global (by rw[I.ok.glob];exact I.mod.glob.keeps I.bk) c h) hd
theorem V9{E:Ip->Ir->Prop}{a:List (Addr×Obj)}{s:Ir}{σ:St}{H:Hp}{x:Str}{u:Ip}{pos:Pos}{Q:Ip->Ir->Prop}(I:Inv X a σ H s)(b:Gl X x)(c:X.mg x=none)(d:bootBuiltins x=some u)(h:Q u s)
 (e:x≠"__name__":=by decide) (hd:(x == ("__debug__" : Str))=false:=by decide):wpAny (model X.prog X.w) X.A (eval (.Name x pos) X.env) Q E s:=by
 obtain⟨i,f,g⟩:=I.mod.blt;exact Nd I.ok.kind b (Calls.loadGlobal_builtin (by rw[I.ok.glob];exact I.mod.glob.keeps I.bk) c (by rw[I.ok.blt];exact f.keeps I.bk) ((g x e).trans d) h) hd
theorem qV{x:Str}{v:V}{u:Ip}{pos:Pos}(a:Gl X x)(b:X.mg x=some u)(r:RelV v u)(hd:(x == ("__debug__" : Str))=false:=by decide):PE X (.Name x pos) (tC v):=
 λ_ _ _ H _ I h=>x8 I a b ⟨v,H,I,r,h⟩ hd
theorem qW{x:Str}{v:V}{u:Ip}{pos:Pos}(a:Gl X x)(b:X.mg x=none)(c:bootBuiltins x=some u)(r:RelV v u)(d:x≠"__name__":=by decide)(hd:(x == ("__debug__" : Str))=false:=by decide):PE X (.Name x pos) (tC v):=
 λ_ _ _ H _ I h=>V9 I a b c ⟨v,H,I,r,h⟩ d hd
variable{a b:Expr}{ta tb:TE}{pos:Pos}
def PC(X:Cx)(op:Px)(a b:Expr)(t:TE):Prop:=
 ∀(c:List (Addr×Obj))(s:Ir)(σ:St)(H:Hp)(Q:VK),Inv X c σ H s->t σ H Q->
  wpAny (model X.prog X.w) X.A (eval a X.env) (λv d=>wpAny (model X.prog X.w) X.A (eval b X.env) (λu e=>wpAny (model X.prog X.w) X.A (compareOp op v u) (EP X c σ Q) X.xe e) X.xe d) X.xe s
noncomputable def xb(ta:TE):TE:=λc H Q=>ta c H λx d=>Q (.bl (decide (x=.non))) d
noncomputable def xc(ta:TE):TE:=λc H Q=>ta c H λx d=>Q (.bl (!decide (x=.non))) d
theorem RelV.none_iff{x:V}{v:Ip}(r:RelV x v):(v == Kq)=decide (x=.non):=by
 cases x with
 | non=>cases r;rfl
 | bl _=>cases r;rfl
 | int _=>obtain⟨t,rfl⟩:=r;rfl
 | str _=>obtain⟨t,rfl⟩:=r;rfl
 | byt _=>obtain⟨t,rfl⟩:=r;rfl
 | flt _=>obtain⟨t,rfl⟩:=r;rfl
 | ref _=>cases r;rfl
 | ty _=>cases r;rfl
theorem qX{j c}(e:PE X a ta):PC X .Is a (.Constant .none j c) (xb ta):=by
 intro d s f H Q I h;refine aQ (e d s f H _ I h) λv n g=>?_;obtain⟨x,i,k,l,m⟩:=g;exact OS (is_none_gen ⟨.bl _,i,k,by rw[l.none_iff];rfl,m⟩)
theorem xf{j c}(e:PE X a ta):PC X .IsNot a (.Constant .none j c) (xc ta):=by
 intro d s f H Q I h;refine aQ (e d s f H _ I h) λv n g=>?_;obtain⟨x,i,k,l,m⟩:=g;exact OS (isnot_none_gen ⟨.bl _,i,k,by rw[l.none_iff];rfl,m⟩)
noncomputable def tB(t:TE):TT:=λd H Q=>t d H λx e=>∃c,x=.bl c/\Q c e
theorem qY{op:Px}{t:TE}(h:PC X op a b t)(e:behindInMarks op b=false:=by first | exact c _ (by decide) (by decide) | rfl):PE X (.Compare a [op] [b] pos) t:=λd s f H Q I g=>wpAny_Compare1 (h d s f H Q I g) e
theorem nc{op:Px}{t:TE}(h:PC X op a b t)(g:behindInMarks op b=false:=by first | exact e _ (by decide) (by decide) | rfl):PT X (.Compare a [op] [b] pos) (tB t):=by
 intro f s i H Q I j;refine Of (aQ (h f s i H _ I j) λv r g=>aQ g λu w k=>aQ k λc y l=>?_) g;obtain⟨x,m,n,o,p⟩:=l;obtain⟨d,rfl,q⟩:=p;cases o;exact Jz ⟨m,n,q⟩
theorem xh{e:Expr}{t:TE}(h:PE X e t)(he:∀whole,isTrue e X.env whole=(do let v <-whole;standAt e.pos;holding [v] (truthy v)):=by intro _;rfl):PT X e (tB t):=by
 intro c s f H Q I g;refine isTrue_plain (aQ (h c s f H _ I g) λv n i=>?_) (he _);obtain⟨x,j,k,l,m⟩:=i;obtain⟨d,rfl,q⟩:=m;cases l;exact Jz ⟨j,k,q⟩
variable{tA tB':TT}{rest:List Expr}
noncomputable def tAnd(t u:TT):TT:=λd H Q=>t d H λc e=>if c=true then u d e Q else Q false e
noncomputable def tOr(t u:TT):TT:=λd H Q=>t d H λc e=>if c=true then Q true e else u d e Q
noncomputable def tNot(t:TT):TT:=λd H Q=>t d H λc e=>Q (!c) e
theorem xi(f:PT X a tA):PW X (.BoolOp .And [a] pos) tA:=by
 intro i d s g H Q I h;refine isTrue_and (aQ (f d s g H Q I h) λc j e=>?_);cases c with
 | true=>exact isTrue_and_nil e
 | false=>exact e
theorem xj(f:PT X a tA):PW X (.BoolOp .Or [a] pos) tA:=by
 intro i d s g H Q I h;refine isTrue_or (aQ (f d s g H Q I h) λc j e=>?_);cases c with
 | false=>exact isTrue_or_nil e
 | true=>exact e
theorem xl(j:PT X a tA)(k:PW X (.BoolOp .And (b::rest) pos) tB'):PW X (.BoolOp .And (a::b::rest) pos) (tAnd tA tB'):=by
 intro l d s e H Q I h;refine isTrue_and (aQ (j d s e H _ I h) λc m n=>?_);obtain⟨f,g,i⟩:=n;cases c with
 | true=>exact k l d m e f Q g i
 | false=>exact⟨f,g,i⟩
theorem xm(j:PT X a tA)(k:PW X (.BoolOp .Or (b::rest) pos) tB'):PW X (.BoolOp .Or (a::b::rest) pos) (tOr tA tB'):=by
 intro l d s e H Q I h;refine isTrue_or (aQ (j d s e H _ I h) λc m n=>?_);obtain⟨f,g,i⟩:=n;cases c with
 | true=>exact⟨f,g,i⟩
 | false=>exact k l d m e f Q g i
theorem xn(e:PT X a tA):PT X (.UnaryOp .Not a pos) (tNot tA):=by
 intro d s f H Q I h;exact isTrue_not (Jh (e d s f H (λc g=>Q _ g) I h) (λ_ _ ⟨a,b,c⟩=>⟨a,b,c⟩) λ_ _ z=>z)
noncomputable def xo(ta tb:TE):TE:=λd H Q=>ta d H λx e=>∃c,x=.bl c/\if c=true then tb d e Q else Q (.bl false) e
noncomputable def xp(ta tb:TE):TE:=λd H Q=>ta d H λx e=>∃c,x=.bl c/\if c=true then Q (.bl true) e else tb d e Q
noncomputable def xq(ta:TE):TE:=λd H Q=>ta d H λx e=>∃c,x=.bl c/\Q (.bl (!c)) e
theorem qZ{d}{t:TE}(h:PE X a t):PE X (.BoolOp d [a] pos) t:=λc s e H Q I f=>BoolOp_one (h c s e H Q I f)
theorem xu(j:PE X a ta)(k:PE X (.BoolOp .And (b::rest) pos) tb):PE X (.BoolOp .And (a::b::rest) pos) (xo ta tb):=by
 intro d s f H Q I h;refine BoolOp_and (aQ (j d s f H _ I h) λv l m=>?_);obtain⟨x,g,i,n,e⟩:=m;obtain⟨c,rfl,e⟩:=e;cases n;refine Jz ?_;cases c with
 | true=>exact k d l f g Q i e
 | false=>exact⟨.bl false,g,i,rfl,e⟩
theorem xw(j:PE X a ta)(k:PE X (.BoolOp .Or (b::rest) pos) tb):PE X (.BoolOp .Or (a::b::rest) pos) (xp ta tb):=by
 intro d s f H Q I h;refine BoolOp_or (aQ (j d s f H _ I h) λv l m=>?_);obtain⟨x,g,i,n,e⟩:=m;obtain⟨c,rfl,e⟩:=e;cases n;refine Jz ?_;cases c with
 | false=>exact k d l f g Q i e
 | true=>exact⟨.bl true,g,i,rfl,e⟩
theorem xx(f:PE X a ta):PE X (.UnaryOp .Not a pos) (xq ta):=by
 intro d s g H Q I h;refine UnaryOp_ (aQ (f d s g H _ I h) λv m i=>?_);obtain⟨x,j,k,l,e⟩:=i;obtain⟨c,rfl,e⟩:=e;cases l;exact not_of (Jz ⟨.bl _,j,k,rfl,e⟩)
noncomputable def xy(t:TT)(ta tb:TE):TE:=λd H Q=>t d H λc e=>if c=true then ta d e Q else tb d e Q
theorem xA{c:Expr}(l:PT X c tA)(m:PE X a ta)(n:PE X b tb):PE X (.IfExp c a b pos) (xy tA ta tb):=by
 intro e s f H Q I h;refine wpAny_IfExp (aQ (l e s f H _ I h) λd g o=>?_);obtain⟨i,j,k⟩:=o;cases d with
 | true=>exact m e g f i Q j k
 | false=>exact n e g f i Q j k
end
def bE(K:Io)(H:Hp)(a:Addr)(c:List V):Prop:=
 Rd H a (.lst c)\/
  ∃(o:Obj)(b:Array Ip)(n:Nat),K.lookup a=some o/\o.cls=.type "list"/\o.dict=none/\o.data=.seq b n/\b.size<=sizeLine/\aF c b.toList
def cB(K:Io)(H:Hp)(a:Addr)(c:List V):Prop:=
 Rd H a (.tup c)\/
  ∃(o:Obj)(b:Array Ip)(n:Nat),K.lookup a=some o/\o.cls=.type "tuple"/\o.data=.seq b n/\b.size<=sizeLine/\aF c b.toList
noncomputable def xB:Ip->Option V
 | .none=>some .non
 | .bool b=>some (.bl b)
 | .int i _=>some (.int i)
 | .str x _=>some (.str x)
 | .bytes b _=>some (.byt b)
 | .float b _=>some (.flt b)
 | .ref a=>some (.ref a)
 | .type n=>some (.ty n)
 | _=>none
theorem RelV.abs{x:V}{u:Ip}(r:RelV x u):xB u=some x:=by
 cases x with
 | non=>cases r;rfl
 | bl _=>cases r;rfl
 | int _=>obtain⟨t,rfl⟩:=r;rfl
 | str _=>obtain⟨t,rfl⟩:=r;rfl
 | byt _=>obtain⟨t,rfl⟩:=r;rfl
 | flt _=>obtain⟨t,rfl⟩:=r;rfl
 | ref _=>cases r;rfl
 | ty _=>cases r;rfl
theorem RelV.inj{x y:V}{u:Ip}(r:RelV x u)(q:RelV y u):x=y:=IK (r.abs.symm.trans q.abs)
theorem aF.inj:∀{a b:List V}{c:List Ip},aF a c->aF b c->a=b
 | _,_,_,.nil,.nil=>rfl
 | _,_,_,.cons r t,.cons d e=>by rw[r.inj d,aF.inj t e]
section
variable{X:Cx}{pins:List (Addr×Obj)}{σ:St}{H:Hp}{s:Ir}{a:Addr}{xs ys:List V}
theorem bE.of{K:Io}(h:H a=some (.lst xs)):bE K H a xs:=.inl (.inl h)
theorem cB.of{K:Io}(h:H a=some (.tup xs)):cB K H a xs:=.inl (.inl h)
theorem Inv.list(I:Inv X pins σ H s)(h:bE X.K H a xs):∃b:List Ip,aF xs b/\PlainL s.heap a b.toArray/\xs.length<=sizeLine:=by
 rcases h with h | ⟨o,b,n,c,d,hd,f,g,r⟩
 .obtain⟨z,b,n,r,e⟩:=h.ok I.hok;exact⟨b,r,⟨_,n,e,rfl,rfl,rfl⟩,z⟩
 .refine⟨b.toList,r,⟨o,n,I.kIn a o c,d,hd,by simpa using f⟩,?_⟩;have e:=r.length;simp only[Ki]at e;omega
theorem Inv.tuple(I:Inv X pins σ H s)(h:cB X.K H a xs):∃b:List Ip,aF xs b/\Qb s.heap a b.toArray/\xs.length<=sizeLine:=by
 rcases h with h | ⟨o,b,n,c,d,f,g,r⟩
 .obtain⟨z,b,r,p⟩:=h.ok I.hok;exact⟨b,r,p,z⟩
 .refine⟨b.toList,r,⟨o,I.kIn a o c,d,n,by simpa using f⟩,?_⟩;have e:=r.length;simp only[Ki]at e;omega
theorem Inv.list_inj(I:Inv X pins σ H s)(h:bE X.K H a xs)(h':bE X.K H a ys):xs=ys:=by
 obtain⟨c,r,⟨o,n,e,_,_,d⟩,_⟩:=I.list h;obtain⟨b,i,⟨k,l,f,_,_,g⟩,_⟩:=I.list h';rw[e]at f;cases f;rw[d]at g;injection g with j _;have:c=b:=by simpa using congrArg Array.toList j
 subst this;exact r.inj i
theorem Inv.tuple_inj(I:Inv X pins σ H s)(h:cB X.K H a xs)(h':cB X.K H a ys):xs=ys:=by
 obtain⟨c,r,⟨o,e,_,n,d⟩,_⟩:=I.tuple h;obtain⟨b,i,⟨k,f,_,l,g⟩,_⟩:=I.tuple h';rw[e]at f;cases f;rw[d]at g;injection g with j _;have:c=b:=by simpa using congrArg Array.toList j
 subst this;exact r.inj i
end
abbrev Cx.wish(X:Cx)(E:Ip->Ir->Prop):Cx:={ X with xe:=E }
abbrev Cx.nox(X:Cx):Cx:=X.wish λ_ _=>False
theorem Cx.Ok.wish{X:Cx}(ok:X.Ok)(E:Ip->Ir->Prop):(X.wish E).Ok:=
 ⟨ok.mod,ok.kind,ok.glob,ok.blt,ok.above,ok.inj,ok.has,ok.cab,ok.hd,ok.frames,ok.stk,ok.exf,ok.bs,ok.bsz,ok.noex,ok.exfs,ok.funs,ok.frf⟩
theorem Cx.Ok.unwish{X:Cx}{E:Ip->Ir->Prop}(ok:(X.wish E).Ok):X.Ok:=
 ⟨ok.mod,ok.kind,ok.glob,ok.blt,ok.above,ok.inj,ok.has,ok.cab,ok.hd,ok.frames,ok.stk,ok.exf,ok.bs,ok.bsz,ok.noex,ok.exfs,ok.funs,ok.frf⟩
section
variable{X:Cx}{pins:List (Addr×Obj)}{σ:St}{H:Hp}{s:Ir}{E:Ip->Ir->Prop}
theorem Inv.wish(I:Inv X pins σ H s)(E:Ip->Ir->Prop):Inv (X.wish E) pins σ H s:=⟨I.ok.wish E,I.os,I.bare,I.base,I.loc,I.cell,I.free,I.freeC,I.pin,I.hok,I.len⟩
theorem Inv.unwish(I:Inv (X.wish E) pins σ H s):Inv X pins σ H s:=⟨I.ok.unwish,I.os,I.bare,I.base,I.loc,I.cell,I.free,I.freeC,I.pin,I.hok,I.len⟩
theorem SP.unwish{D:w9}{f:Flow}{c:Ir}(h:SP (X.wish E) pins D f c):SP X pins D f c:=by
 cases f with
 | next=>obtain⟨a,b,I,q⟩:=h;exact⟨a,b,I.unwish,q⟩
 | brk=>obtain⟨a,b,I,q⟩:=h;exact⟨a,b,I.unwish,q⟩
 | cont=>obtain⟨a,b,I,q⟩:=h;exact⟨a,b,I.unwish,q⟩
 | ret u=>obtain⟨v,a,b,I,r,q⟩:=h;exact⟨v,a,b,I.unwish,r,q⟩
theorem PT.nox{e:Expr}{t:TT}(h:PT X.nox e t):PT X e t:=λpins s σ H Q I a=>
 Jh (h pins s σ H Q (I.wish _) a) (λ_ _ ⟨b,c,q⟩=>⟨b,c.unwish,q⟩) λ_ _ z=>IY z
theorem cC.nox{st:List Stmt}{t:TS}(h:cC X.nox st t):cC X st t:=λpins s σ H D I a=>
 Jh (h pins s σ H D (I.wish _) a) (λ_ _ q=>q.unwish) λ_ _ z=>IY z
end
section
variable{X:Cx}{st:Stmt}{rest:List Stmt}{t u:TS}{e:Expr}{te:TE}{pos:Pos}
noncomputable def tNext:TS:=λD a H=>D.nx a H
noncomputable def xC(t u:TS):TS:=λD a H=>t { D with nx:=u D } a H
theorem xD:cC X [] tNext:=λ_ _ a H _ I h=>Lw ⟨a,H,I,h⟩
theorem rd(c:PS X st t)(d:cC X rest u):cC X (st::rest) (xC t u):=by
 intro a s g H D I h;refine NT (aQ (c a s g H { D with nx:=u D } I h) λf i q=>?_);cases f with
 | next=>
   obtain⟨b,j,k,q⟩:=q;exact d a i b j D k q
 | ret v=>exact q
 | brk=>exact q
 | cont=>exact q
theorem ng(b:PS X st t):cC X [st] t:=by
 intro a s c H D I h;refine NT (aQ (b a s c H D I h) λf d q=>?_);cases f with
 | next=>exact Lw q
 | ret v=>exact q
 | brk=>exact q
 | cont=>exact q
theorem Inv.quiet{a:List (Addr×Obj)}{σ:St}{H:Hp}{s:Ir}(I:Inv X a σ H s):interactive X.env=false:=by simp[interactive,I.ok.kind]
noncomputable def xE(te:TE):TS:=λD a H=>te a H λ_ b=>D.nx a b
theorem rf(he:PE X e te)(hs:swapsWith e none pos.line X.env=pure false:=by rfl):PS X (.Expr e pos) (xE te):=by
 intro a s b H D I h;exact wpAny_Expr_any (aQ (he a s b H _ I h) λv g ⟨x,c,d,i,f⟩=>⟨b,c,d,f⟩) I.quiet hs
noncomputable def xF(te:TE):TS:=λD a H=>te a H D.rt
theorem xG(he:PE X e te):PS X (.Return (some e) pos) (xF te):=by
 intro a s b H D I h;exact wpAny_Return_some (aQ (he a s b H _ I h) λv i ⟨x,c,d,f,g⟩=>⟨x,b,c,d,f,g⟩)
noncomputable def xH(c:TT)(t u:TS):TS:=λD a H=>c a H λb d=>if b=true then t D a d else u D a d
theorem rg{c:Expr}{a b:List Stmt}{i:TT}(n:PT X c i)(o:cC X a t)(p:cC X b u):PS X (.If c a b pos) (xH i t u):=by
 intro f s g H D I h;refine wpAny_If (aQ (n f s g H _ I h) λd j q=>?_);obtain⟨k,l,m⟩:=q;cases d with
 | true=>exact o f j g k D l m
 | false=>exact p f j g k D l m
noncomputable def tNever:TS:=λ_ _ _=>False
theorem xI:PS X st tNever:=λ_ _ _ _ _ _ h=>h.elim
end
abbrev TG:=V->St->Hp->(St->Hp->Prop)->Prop
abbrev TGs:=List V->St->Hp->(St->Hp->Prop)->Prop
def PG(X:Cx)(a:Expr)(t:TG):Prop:=
 ∀(b:List (Addr×Obj))(s:Ir)(σ:St)(H:Hp)(v:V)(u:Ip)(Q:St->Hp->Prop),Inv X b σ H s->RelV v u->t v σ H Q->
  wpAny (model X.prog X.w) X.A (assign a X.env u) (λ_ e=>∃c d,Inv X b c d e/\Q c d) X.xe s
def gm(X:Cx)(ts:List Expr)(t:TGs):Prop:=
 ∀(a:List (Addr×Obj))(s:Ir)(σ:St)(H:Hp)(vs:List V)(c:List Ip)(Q:St->Hp->Prop),Inv X a σ H s->aF vs c->t vs σ H Q->
  wpAny (model X.prog X.w) X.A (assignInOrder ((assignEach ts X.env).map (·.2)) c) (λ_ e=>∃b d,Inv X a b d e/\Q b d) X.xe s
section
variable{X:Cx}{pos:Pos}
noncomputable def gName(i:Nat):TG:=λv a H Q=>Q (a.set i (some v)) H
theorem av{i:Nat}{x:Str}(b:X.N.Nodup)(c:X.N[i]?=some x)(d:Loc X.env.scope x)(e:X.fn x=true\/X.env.scope.names.lookup x=some .local:=by first | exact .inl rfl | exact .inr rfl | assumption):PG X (.Name x pos) (gName i):=by
 intro a s g H v u Q I r h;exact wpAny_assign_Name (mZ I b c d r (λj f=>⟨_,H,f,h⟩) e)
noncomputable def gNil:TGs:=λa b H Q=>a=[]/\Q b H
noncomputable def gCons(t:TG)(u:TGs):TGs:=λb c H Q=>∃v r,b=v::r/\t v c H λa d=>u r a d Q
theorem xJ:gm X [] gNil:=by
 intro a s b H c d Q I r h;obtain⟨e,h⟩:=h;subst e;exact assignInOrder_nil ⟨b,H,I,h⟩
theorem xK{e:Expr}{b:List Expr}{t:TG}{u:TGs}(d:PG X e t)(f:gm X b u)
 (hs:(assignEach (e::b) X.env).map (·.2)=assign e X.env::(assignEach b X.env).map (·.2):=by rfl):gm X (e::b) (gCons t u):=by
 intro a s g H p q Q I r h;obtain⟨v,w,i,h⟩:=h;subst i;cases r with
 | cons r j=>
   rw[hs];refine assignInOrder_cons (aQ (d a s g H _ _ _ I r h) λ_ k l=>?_);obtain⟨c,m,n,o⟩:=l;exact f a k c m _ _ Q n j o
noncomputable def gTup(K:Io)(n:Nat)(t:TGs):TG:=λv c H Q=>∃a b,v=.ref a/\cB K H a b/\b.length=n/\t b c H Q
theorem xM{d:List Expr}{k:Nat}{t:TGs}{n:Nat}(j:X.calm=true)(h:gm X d t)
 (l:(assignEach d X.env).length=n:=by rfl) (f:(assignEach d X.env).findIdx? (·.1)=none:=by rfl):PG X (.Tuple d k pos) (gTup X.K n t):=by
 intro c s m H v u Q I r g;obtain⟨a,p,q,w,x,g⟩:=g;subst q;cases r;obtain⟨y,i,z,C⟩:=I.tuple w;refine assign_Tuple_tuple (I.ok.hd j) z (by simp[l,<-x,i.length]) f λD A=>?_;have B:=I.kept (t':=s.toks) λb o e=>A b o (IH (IA e)) e;exact h c _ m H p _ Q B (by simpa using i) g
noncomputable def rh(b:TE)(g:TG):TS:=λD a H=>b a H λx c=>g x a c D.nx
theorem xN{i:Nat}{x:Str}{e:Expr}{c:TE}{a:Pos}(d:X.N.Nodup)(f:X.N[i]?=some x)(g:Loc X.env.scope x)(he:PE X e c)(hs:swapsWith e (some (.Name x a)) pos.line X.env=pure false:=by rfl)(j:X.fn x=true\/X.env.scope.names.lookup x=some .local:=by first | exact .inl rfl | exact .inr rfl | assumption) :
 PS X (.Assign [.Name x a] e pos) (rh c (gName i)):=by
 intro b s k H D I h;refine wpAny_Assign_Name (aQ (he b s k H _ I h) λv r l=>?_) hs;obtain⟨y,m,n,o,p⟩:=l;exact mZ n d f g o (λu q=>⟨_,m,q,p⟩) j
noncomputable def xP(c:TT)(h:TS):TS:=λD a H=>∃W:Nat->St->Hp->Prop,(∃m,W m a H)/\∀m a H,W m a H->
 c a H λb e=>if b=true then ∃N:St->Hp->Prop,(∀d f,N d f->∃g,g<m/\W g d f)/\h { D with nx:=N,ct:=N,bk:=D.nx } a e else D.nx a e
theorem xQ{c:Expr}{g:List Stmt}{x:TT}{y:TS}(z:Py (model X.prog X.w) X.A X.env X.xe)(L:PT X c x)(O:cC X g y):PS X (.While c g [] pos) (xP x y):=by
 intro a s Q H D I h;obtain⟨W,⟨T,U⟩,i⟩:=h;refine wpAny_While (codeAny_whileLoop (λn Y=>∃j B,Inv X a j B Y/\W n j B) ?_ T ⟨Q,H,I,U⟩);rintro n s1 ⟨e,C,I1,w1⟩;refine Lf z (aQ (L a s1 e C _ I1 (i n e C w1)) λb s2 zq=>?_);obtain⟨E,G,l⟩:=zq;cases b with
 | true=>
   obtain⟨N,J,l⟩:=l;refine Lf z (aQ (O a s2 e E _ G l) λf s3 m=>?_);cases f with
   | next=>
     obtain⟨d,k,o,p⟩:=m;obtain⟨q,r,u⟩:=J d k p;exact⟨q,r,d,k,o,u⟩
   | cont=>
     obtain⟨d,k,o,p⟩:=m;obtain⟨q,r,u⟩:=J d k p;exact⟨q,r,d,k,o,u⟩
   | brk=>exact m
   | ret v=>exact m
 | false=>
   exact Lw ⟨e,E,G,l⟩
end
structure It where
 go:Nat->Hp->Prop
 yld:Nat->Hp->V->Hp->Prop
 stop:Nat->Hp->Prop
def o7(X:Cx)(a:List (Addr×Obj))(H:Hp)(b:Addr):Prop:=
 H b=none/\b≠X.env.locals/\b∉X.fs/\(b∈X.ex\/X.s₀.heap.objs.size<=b)/\(∀x c,X.env.cells.lookup x=some c->c≠b)/\∀p∈X.pn++a,p.1≠b
theorem Inv.fpOk{X:Cx}{a:List (Addr×Obj)}{σ:St}{H H':Hp}{s:Ir}{b:Addr}(I:Inv X a σ H s)(d:s.heap.objs.size<=b)(f:H' b=none):o7 X a H' b:=by
 refine⟨f,Kg (IL I.lt d),I.nofs d,.inr (Jm I.sz d),λx c e z=>?_,λp g z=>?_⟩
 .obtain⟨v,q⟩:=I.cell x c e;exact absurd (IL q.lt (by rw[z];exact d)) (JJ _)
 .exact absurd (IL (IA (I.pin p g).1) (by rw[z];exact d)) (JJ _)
structure iH(P:IS)(w:Jp)(K:Io)(tg:Expr)(J:It)(fp:List Addr)(it:Addr)(tn:Nat->Heap->Prop):Prop where
 mem:it∈fp
 obj:∀i h,tn i h->∀b∈fp,∃o,h.get? b=some o/\∀v,o.data≠.cell v
 keep:∀i h h',tn i h->(∀b∈fp,∀o,h.get? b=some o->h'.get? b=some o)->tn i h'
 item:∀(X:Cx),X.prog=P->X.w=w->X.K=K->X.calm=true->∀(i:Nat)(pins:List (Addr×Obj))(s:Ir)(σ:St)(H:Hp)(E:Ip->Ir->Prop),Inv X pins σ H s->(∀b∈fp,o7 X pins H b)->tn i s.heap->J.go i H->
  wpAny (model P w) X.A (pyNext (.ref it)) (λr s1=>∃u,r=some u/\
   wpAny (model P w) X.A (letOwnedTupleGo tg (.ref it) u) (λ_ s2=>∃x H',Inv X pins σ H' s2/\RelV x u/\J.yld i H x H'/\tn (i+1) s2.heap/\∀b∈fp,H' b=none) E s1) E s
 done:∀(X:Cx),X.prog=P->X.w=w->X.K=K->X.calm=true->∀(i:Nat)(pins:List (Addr×Obj))(s:Ir)(σ:St)(H:Hp)(E:Ip->Ir->Prop),Inv X pins σ H s->(∀b∈fp,o7 X pins H b)->tn i s.heap->J.stop i H->
  wpAny (model P w) X.A (pyNext (.ref it)) (λr s1=>r=none/\Inv X pins σ H s1) E s
 self:∀(A:Ji)(i:Nat)(s:Ir)(Q:Ip->Ir->Prop)(E:Ip->Ir->Prop),tn i s.heap->Q (.ref it) s->wpAny (model P w) A (pyIter (.ref it)) Q E s
abbrev TI:=St->Hp->(It->Hp->Prop)->Prop
inductive nh (X:Cx) (pins:List (Addr×Obj)) (σ:St) (tg:Expr) (R:It->Hp->Prop) (itv:Ip) (s2:Ir):Prop
 | mk (it:Addr) (fp:List Addr) (tn:Nat->Heap->Prop) (J:It) (H':Hp) (h0:itv=.ref it) (h1:Inv X pins σ H' s2) (h2:iH X.prog X.w X.K tg J fp it tn) (h3:tn 0 s2.heap) (h4:(∀b∈fp,o7 X pins H' b)) (h5:R J H'):nh X pins σ tg R itv s2
def PI(X:Cx)(b iter:Expr)(c:TI):Prop:=
 ∀(a:List (Addr×Obj))(s:Ir)(σ:St)(H:Hp)(R:It->Hp->Prop),Inv X a σ H s->c σ H R->
  wpAny (model X.prog X.w) X.A (eval iter X.env) (λv d=>wpAny (model X.prog X.w) X.A (pyIter v) (nh X a σ b R) X.xe d) X.xe s
theorem ni{M:Qa}{A:Ji}{E:Ip->Ir->Prop}{s:Ir}{b:Expr}{it:Addr}{u:Ip}{o:Obj}{n:String}{vs:Array Ip}{Q:Unit->Ir->Prop}(c:s.heap.get? it=some o)(d:o.cls=.type n)(hd:o.data=.fields vs)
 (e:["enumerate","zip","dict_itemiterator","dict_reverseitemiterator","odict_iterator","itertools.zip_longest","itertools.pairwise"].contains n=false) (a:Q () s):wpAny M A (letOwnedTupleGo b (.ref it) u) Q E s:=by
 cases b<;>first
  | exact Iv a
  | (cases u<;>first
   | exact Iv a
   | (refine Il (wpAny_load c ?_)
      rw[d,hd];show wpAny M A (if _=true then _ else _) Q E s;rw[if_neg (by intro h;rw[e]at h;cases h)];exact Iv a))
noncomputable def kX(K:Io)(a:Addr):It:=
 ⟨λi H=>∃b x,bE K H a b/\b[i]?=some x,λi H x c=>c=H/\∀b,bE K H a b->b[i]?=some x,λi H=>∃b,bE K H a b/\b.length<=i⟩
noncomputable def kY(K:Io)(a:Addr):It:=
 ⟨λi H=>∃b x,cB K H a b/\b[i]?=some x,λi H x c=>c=H/\∀b,cB K H a b->b[i]?=some x,λi H=>∃b,cB K H a b/\b.length<=i⟩
noncomputable def jN(lo:Int)(n:Nat):It:=⟨λi _=>i<n,λi H x a=>a=H/\x=.int (lo+i),λi _=>n<=i⟩
theorem rk{P:IS}{w:Jp}{K:Io}{tg:Expr}(a it:Addr):iH P w K tg (kX K a) [it] it (λi h=>h.IsListIter it a i) where
 mem:=by simp
 obj:=λi h st b hb=>by
  have e:b=it:=by simpa using hb
  subst e;obtain⟨o,e,c,d⟩:=st;exact⟨o,e,λv z=>by rw[d]at z;cases z⟩
 keep:=λi h h' st k=>st.at λo e=>k it (by simp) o e
 item:=by
  intro X hP hw hK hc i pins s σ H E I hf st hg;subst hP hw hK;obtain⟨xs,x,hq,hx⟩:=hg;obtain⟨its,rv,p,hz⟩:=I.list hq;obtain⟨u,hu,ru⟩:=rv.get hx;obtain⟨f0,f1,f2,f3,f4,f5⟩:=hf it (by simp);refine wpAny_pyNext_list_item st p.isList (by simpa using hu) λh' st' sb=>?_;have I1:Inv X pins σ H { s with heap:=h' }:=I.turned (λb o hb e=>(sb.2 b hb).trans e) f0 f1 f3 f4 f5;obtain⟨o,e,c,d⟩:=id st';exact⟨u,rfl,ni e c d rfl ⟨x,H,I1,ru,⟨rfl,λys hy=>by rw[I.list_inj hy hq];exact hx⟩,st',λb hb=>(hf b hb).1⟩⟩
 done:=by
  intro X hP hw hK hc i pins s σ H E I hf st hg;subst hP hw hK;obtain⟨xs,hq,hx⟩:=hg;obtain⟨its,rv,p,hz⟩:=I.list hq;obtain⟨f0,f1,f2,f3,f4,f5⟩:=hf it (by simp);have hl:=rv.length;exact wpAny_pyNext_list_end (I.ok.hd hc) st p.isList (by simp;omega) λh' eb=>⟨rfl,I.turned (λb o hb e=>eb b o hb e) f0 f1 f3 f4 f5⟩
 self:=λ_ _ _ _ _ st h=>wpAny_pyIter_listiter st h
theorem rp{P:IS}{w:Jp}{K:Io}{tg:Expr}(a it:Addr):iH P w K tg (kY K a) [it] it (λi h=>h.IsTupleIter it a i) where
 mem:=by simp
 obj:=λi h st b hb=>by
  have e:b=it:=by simpa using hb
  subst e;obtain⟨o,e,c,d⟩:=st;exact⟨o,e,λv z=>by rw[d]at z;cases z⟩
 keep:=λi h h' st k=>st.at λo e=>k it (by simp) o e
 item:=by
  intro X hP hw hK hc i pins s σ H E I hf st hg;subst hP hw hK;obtain⟨xs,x,hq,hx⟩:=hg;obtain⟨its,rv,p,hz⟩:=I.tuple hq;obtain⟨u,hu,ru⟩:=rv.get hx;obtain⟨f0,f1,f2,f3,f4,f5⟩:=hf it (by simp);refine wpAny_pyNext_tuple_item st (show s.heap.IsTuple a _ from p) (by simpa using hu) λh' st' sb=>?_;have I1:=I.turned (t':=s.toks) (λb o hb e=>(sb.2 b hb).trans e) f0 f1 f3 f4 f5;obtain⟨o,e,c,d⟩:=id st';exact⟨u,rfl,ni e c d rfl ⟨x,H,I1,ru,⟨rfl,λys hy=>by rw[I.tuple_inj hy hq];exact hx⟩,st',λb hb=>(hf b hb).1⟩⟩
 done:=by
  intro X hP hw hK hc i pins s σ H E I hf st hg;subst hP hw hK;obtain⟨xs,hq,hx⟩:=hg;obtain⟨its,rv,p,hz⟩:=I.tuple hq;obtain⟨f0,f1,f2,f3,f4,f5⟩:=hf it (by simp);have hl:=rv.length;exact wpAny_pyNext_tuple_end (I.ok.hd hc) st (show s.heap.IsTuple a _ from p) (by simp;omega) λh' eb=>⟨rfl,I.turned (λb o hb e=>eb b o hb e) f0 f1 f3 f4 f5⟩
 self:=λ_ _ _ _ _ st h=>wpAny_pyIter_tupleiter st h
theorem xR{P:IS}{w:Jp}{K:Io}{tg:Expr}(it:Addr)(lo:Int)(n:Nat):iH P w K tg (jN lo n) [it] it (λi h=>IsRangeIter h it (lo+(i:Nat)*1) ((n:Int) - (i:Nat)) 1) where
 mem:=by simp
 obj:=λi h st b hb=>by
  have e:b=it:=by simpa using hb
  subst e;exact⟨_,st,λv z=>by
   have z':=z;cases z'⟩
 keep:=λi h h' st k=>k it (by simp) _ st
 item:=by
  intro X hP hw hK hc i pins s σ H E I hf st hg;subst hP hw hK;obtain⟨f0,f1,f2,f3,f4,f5⟩:=hf it (by simp);have W:=PN.range (prog:=X.prog) (w:=X.w) (I.ok.hd hc) it lo 1 n;refine W.item i s _ _ hg st λv h' tk hv st' kk=>?_;obtain⟨t,rfl⟩:=hv;have I1:Inv X pins σ H { s with heap:=h',toks:=tk }:=I.turned (λb o hb e=>kk b o (by simpa using hb) e) f0 f1 f3 f4 f5;refine⟨_,rfl,ni st' rfl rfl rfl ⟨.int _,H,I1,⟨t,?_⟩,⟨rfl,rfl⟩,st',λb hb=>(hf b hb).1⟩⟩;rw[Int.mul_one]
 done:=by
  intro X hP hw hK hc i pins s σ H E I hf st hg;obtain⟨f0,f1,f2,f3,f4,f5⟩:=hf it (by simp);exact wpAny_pyNext_range_end (I.ok.hd hc) st (by have:n<=i:=hg;omega) λh' eb=>⟨rfl,I.turned (λb o hb e=>eb b o hb e) f0 f1 f3 f4 f5⟩
 self:=λ_ _ _ _ _ st h=>wpAny_pyIter_rangeiter st h
section
variable{X:Cx}{tg:Expr}
noncomputable def xS(K:Io)(c:TE):TI:=λd H R=>c d H λx b=>∃a,x=.ref a/\(∃e,bE K b a e)/\R (kX K a) b
noncomputable def xT(K:Io)(c:TE):TI:=λd H R=>c d H λx b=>∃a,x=.ref a/\(∃e,cB K b a e)/\R (kY K a) b
theorem HN{l:Expr}{g:TE}(i:PE X l g):PI X tg l (xS X.K g):=by
 intro c s j H R I h;refine aQ (i c s j H _ I h) λv f k=>?_;obtain⟨x,m,d,n,r⟩:=k;obtain⟨a,e,⟨z,u⟩,q⟩:=r;subst e;cases n;obtain⟨w,A,p,B⟩:=d.list u;refine Kj p.isList ?_;refine⟨f.heap.objs.size,[f.heap.objs.size],_,_,m,rfl,d.kept (t':=_) λb o e=>Im _ e,rk a _,⟨_,IB _ rfl,rfl,rfl⟩,λb y=>?_,q⟩;have e:b=f.heap.objs.size:=by simpa using y
 subst e;exact d.fpOk (Iw _) (d.hok.fresh (Iw _))
theorem HQ{l:Expr}{g:TE}(i:PE X l g):PI X tg l (xT X.K g):=by
 intro c s j H R I h;refine aQ (i c s j H _ I h) λv d k=>?_;obtain⟨x,m,f,n,r⟩:=k;obtain⟨a,e,⟨z,u⟩,q⟩:=r;subst e;cases n;obtain⟨w,A,p,B⟩:=f.tuple u;refine Me (show d.heap.IsTuple a _ from p) ?_;refine⟨d.heap.objs.size,[d.heap.objs.size],_,_,m,rfl,f.kept (t':=_) λb o e=>Im _ e,rp a _,⟨_,IB _ rfl,rfl,rfl⟩,λb y=>?_,q⟩;have e:b=d.heap.objs.size:=by simpa using y
 subst e;exact f.fpOk (Iw _) (f.hok.fresh (Iw _))
theorem rq{c:List (Addr×Obj)}{σ:St}{H:Hp}{s:Ir}{R:It->Hp->Prop}{E:Ip->Ir->Prop}{lo d:Int}{t u v:Tok}{i:Nat}(I:Inv X c σ H s)(j : -(2 ^ 62)<=lo)(k:lo<2 ^ 62)(l : -(2 ^ 62)<=d)(m:d<2 ^ 62)
 (q:R (jN lo (d - lo).toNat) H):wpAny (model X.prog X.w) X.A (pyIter (.ref s.heap.objs.size)) (nh X c σ tg R) E { s with heap:=s.heap.push { cls:=.type "range",data:=.fields #[.int lo t,.int d u,.int 1 v] },toks:=i }:=by
 refine wpAny_pyIter_range (IsRange.new ..) (small_one j k l m) ?_;have h:Inv X c σ H { s with heap:=s.heap.push { cls:=.type "range",data:=.fields #[.int lo t,.int d u,.int 1 v] },toks:=i }:=I.kept λb o e=>Im _ e;refine⟨(s.heap.push { cls:=.type "range",data:=.fields #[.int lo t,.int d u,.int 1 v] }).objs.size,[(s.heap.push { cls:=.type "range",data:=.fields #[.int lo t,.int d u,.int 1 v] }).objs.size],_,_,H,rfl,
  h.kept λb o e=>Im _ e,xR _ lo (d - lo).toNat,?_,λb n=>?_,q⟩
 .have p:lo+((0:Nat))*1=lo:=by simp
  have r:(((d - lo).toNat)) - ((0:Nat))=Kv.Range.rangeSize lo d 1:=by rw[rangeSize_one];split<;>omega
  rw[p,r];exact IB _ rfl
 .have e:b=(s.heap.push { cls:=.type "range",data:=.fields #[.int lo t,.int d u,.int 1 v] }).objs.size:=by simpa using n
  subst e;exact h.fpOk (Iw _) (h.hok.fresh (Iw _))
noncomputable def iRng1(a:TA):TI:=λb H R=>a b H λc d=>∃j:Int,c=[.int j]/\-(2 ^ 62)<=j/\j<2 ^ 62/\R (jN 0 j.toNat) d
noncomputable def iRng2(a:TA):TI:=λb H R=>a b H λc d=>∃i j:Int,c=[.int i,.int j]/\(-(2 ^ 62)<=i/\i<2 ^ 62/\-(2 ^ 62)<=j/\j<2 ^ 62)/\R (jN i (j - i).toNat) d
theorem xU{a:Expr}{d:TA}{p pos:Pos}(f:Gl X "range")(g:X.mg "range" = none)(i:PA X [a] d)(hs:starEach [a] X.env=[(false,eval a X.env)]:=by rfl):PI X tg (.Call (.Name "range" p) [a] [] pos) (iRng1 d):=by
 intro b s k H R I h;refine Call_ (V9 I f g boot_range (KI (aQ (i pos b s k H _ I h) λv w l=>?_) hs rfl));obtain⟨x,y,m,n,c⟩:=l;obtain⟨j,e,c,o,q⟩:=c;subst e;cases n with
 | cons r u=>
   cases u;obtain⟨t,rfl⟩:=r;exact call_range_1 (rq m (by simp) (by simp) c o (by simpa using q))
theorem xV{a b:Expr}{k:TA}{p pos:Pos}(l:Gl X "range")(m:X.mg "range" = none)(n:PA X [a,b] k)(hs:starEach [a,b] X.env=[(false,eval a X.env),(false,eval b X.env)]:=by rfl)(c:starEach [b] X.env=[(false,eval b X.env)]:=by rfl) :
 PI X tg (.Call (.Name "range" p) [a,b] [] pos) (iRng2 k):=by
 intro d s o H R I h;refine Call_ (V9 I l m boot_range (KI (aQ (n pos d s o H _ I h) λB C u=>?_) (by rw[hs,c]) (by rw[c];rfl)));obtain⟨D,E,v,w,f⟩:=u;obtain⟨i,j,e,⟨f,x,y,z⟩,q⟩:=f;subst e;cases w with
 | cons r g=>
   cases g with
   | cons A g=>
     cases g;obtain⟨t,rfl⟩:=r;obtain⟨G,rfl⟩:=A;exact call_range_2 (rq v f x y z q)
noncomputable def xW(f:TI)(g:TG)(h:TS):TS:=λD a H=>f a H λJ j=>∃W:Nat->Nat->St->Hp->Prop,(∃m,W 0 m a j)/\∀i m a H,W i m a H->
 (J.stop i H/\D.nx a H)\/(J.go i H/\∃N:St->Hp->Prop,(∀b c,N b c->∃e,e<m/\W (i+1) e b c)/\∀x c,J.yld i H x c->g x a c λd k=>h { D with nx:=N,ct:=N,bk:=D.nx } d k)
noncomputable def kZ(fp:List Addr)(h:Heap):List (Addr×Obj):=fp.filterMap λb=>(h.get? b).map λo=>(b,o)
theorem d6{fp:List Addr}{h:Heap}{b:Addr}{o:Obj}(a:b∈fp)(e:h.get? b=some o):(b,o)∈kZ fp h:=List.mem_filterMap.mpr ⟨b,a,by rw[e];rfl⟩
theorem xX{fp:List Addr}{h:Heap}{p:Addr×Obj}(a:p∈kZ fp h):p.1∈fp/\h.get? p.1=some p.2:=by
 obtain⟨b,c,e⟩:=List.mem_filterMap.mp a;cases q:h.get? b with
 | none=>rw[q]at e;cases e
 | some o=>
   rw[q]at e;have d:=IK e;subst d;exact⟨c,q⟩
theorem Inv.pinned{a:List (Addr×Obj)}{σ:St}{H:Hp}{s:Ir}{fp:List Addr}(I:Inv X a σ H s)(g:∀b∈fp,o7 X a H b)(h:∀b∈fp,∃o,s.heap.get? b=some o/\∀v,o.data≠.cell v):Inv X (a++kZ fp s.heap) σ H s:=
 I.pins_of λp i=>(IV.mp i).elim (λz=>I.pin p (IP _ z)) λz=>by
  obtain⟨c,e⟩:=xX z;obtain⟨j,k,l,_⟩:=g p.1 c;obtain⟨o,f,d⟩:=h p.1 c;rw[e]at f;cases f;exact⟨e,j,k,l,d⟩
theorem Inv.unpinned{a b:List (Addr×Obj)}{σ:St}{H:Hp}{s:Ir}(I:Inv X (a++b) σ H s):Inv X a σ H s:=I.pins_of λp c=>I.pin p (IP _ (Kd _ c))
theorem xY{iter:Expr}{z:List Stmt}{wi:TI}{g:TG}{tb:TS}{pos:Pos}(G:Py (model X.prog X.w) X.A X.env X.xe)(hc:X.calm=true)(hi:PI X tg iter wi)(hg:PG X tg g)(j:cC X z tb)
 (hs:∀x,foldedSetIterable iter X.env x=pure x:=by intro _;rfl):PS X (.For tg iter z [] pos) (xW wi g tb):=by
 intro c s σ H D I h;refine wpAny_For (aQ (hi c s σ H _ I h) λv s1 h1=>aQ h1 λc3 s2 h2=>?_) hs;obtain⟨it,fp,tn,J,H2,e,I2,T,a2,f2,W,⟨m0,w0⟩,L⟩:=h2;subst e;have k:∀{H':Hp},(∀b∈fp,H' b=none)->∀b∈fp,o7 X c H' b:=λhn b j=>⟨hn b j,(f2 b j).2⟩;refine codeAny_forLoop_any (λn s'=>∃i l H',Inv X c l H' s'/\tn i s'.heap/\(∀b∈fp,H' b=none)/\W i n l H') ?_ m0 ⟨0,σ,H2,I2,a2,λb j=>(f2 b j).1,w0⟩;rintro n s3 ⟨i,p,H3,I3,O,Q,w3⟩;rcases L i n p H3 w3 with⟨U,qn⟩ | ⟨go,N,hN,step⟩
 .refine Lf G (aQ (T.done X rfl rfl rfl hc i c s3 p H3 X.xe I3 (k Q) O U) λr s4 C=>?_);obtain⟨hr,I4⟩:=C;subst hr;exact Lw ⟨p,H3,I4,qn⟩
 .refine Lf G (aQ (T.item X rfl rfl rfl hc i c s3 p H3 X.xe I3 (k Q) O go) λr s4 C=>?_);obtain⟨u,hr,h4⟩:=C;subst hr;refine Lf G (aQ h4 λ_ s5 C=>?_);obtain⟨x,H5,I5,r5,y5,E,a4⟩:=C;have a5:=I5.pinned (k a4) (T.obj _ _ E);refine Lf G (aQ (hg _ s5 p H5 x u _ a5 r5 (step x H5 y5)) λ_ s6 C=>?_);obtain⟨a6,H6,I6,q6⟩:=C;refine Lf G (aQ (j _ s6 a6 H6 _ I6 q6) λf s7 B=>?_);have again:∀{a:St}{q:Hp},Inv X _ a q s7->N a q->∃m,m<n/\∃i l H',Inv X c l H' s7/\tn i _/\(∀b∈fp,H' b=none)/\W i m l H':=λ{a q} y Y=>by
   obtain⟨m',hm,w7⟩:=hN a q Y;refine⟨m',hm,i+1,a,q,y.unpinned,T.keep _ _ _ E λb j o e=>(y.pin _ (IP _ (IP _ (d6 j e)))).1,λb j=>?_,w7⟩;obtain⟨o,e,d⟩:=T.obj _ _ E b j;exact(y.pin _ (IP _ (IP _ (d6 j e)))).2.1
  cases f with
  | next=>obtain⟨a,q,y,Y⟩:=B;exact again y Y
  | cont=>obtain⟨a,q,y,Y⟩:=B;exact again y Y
  | brk=>obtain⟨a,q,y,B⟩:=B;exact⟨a,q,y.unpinned,B⟩
  | ret v=>obtain⟨x7,a,q,y,r7,B⟩:=B;exact⟨x7,a,q,y.unpinned,r7,B⟩
end
abbrev R2:=V->V->Hp->VK->Prop
def cq(X:Cx)(f:Ip->Ip->Sem Ip)(r:R2):Prop:=
 ∀(a:List (Addr×Obj))(s:Ir)(σ:St)(H:Hp)(x y:V)(v u:Ip)(Q:VK),Inv X a σ H s->RelV x v->RelV y u->r x y H Q->
  wpAny (model X.prog X.w) X.A (f v u) (EP X a σ Q) X.xe s
def nj(X:Cx)(f:Ip->Sem Ip)(r:V->Hp->VK->Prop):Prop:=
 ∀(a:List (Addr×Obj))(s:Ir)(σ:St)(H:Hp)(x:V)(v:Ip)(Q:VK),Inv X a σ H s->RelV x v->r x H Q->
  wpAny (model X.prog X.w) X.A (f v) (EP X a σ Q) X.xe s
def bh(X:Cx)(f:Ip)(r:List V->Hp->VK->Prop):Prop:=
 ∀(a:List (Addr×Obj))(s:Ir)(σ:St)(H:Hp)(b:List V)(c:List Ip)(Q:VK),Inv X a σ H s->aF b c->r b H Q->
  wpAny (model X.prog X.w) X.A (call f c) (EP X a σ Q) X.xe s
noncomputable def jO(r:R2)(b c:TE):TE:=λa H Q=>b a H λx d=>c a d λy e=>r x y e Q
noncomputable def xZ(r:V->Hp->VK->Prop)(a:TE):TE:=λb H Q=>a b H λx c=>r x c Q
noncomputable def rI(C:Int->Int->Prop)(g:Int->Int->V):R2:=λx y H Q=>∃i j,x=.int i/\y=.int j/\C i j/\Q (g i j) H
noncomputable def eZ(g:Int->Int->V):R2:=λx y H Q=>∃i j,x=.int i/\y=.int j/\Q (g i j) H
noncomputable def rU(g:Int->V):V->Hp->VK->Prop:=λx H Q=>∃i,x=.int i/\Q (g i) H
section
variable{X:Cx}{a b c:Expr}{ta tb tc:TE}{pos:Pos}
theorem nk(m:PE X a ta)(n:PE X b tb){d:List (Addr×Obj)}{s:Ir}{σ:St}{H:Hp}{R:V->V->Hp->Prop}(I:Inv X d σ H s)
 (h:ta σ H λx k=>tb σ k λy e=>R x y e) {Q:Ip->Ir->Prop} {f:Ip->Ip->Sem Ip}
 (o:∀v u j x y e,Inv X d σ e j->RelV x v->RelV y u->R x y e->wpAny (model X.prog X.w) X.A (f v u) Q X.xe j) :
 wpAny (model X.prog X.w) X.A (eval a X.env) (λv g=>wpAny (model X.prog X.w) X.A (eval b X.env) (λu i=>wpAny (model X.prog X.w) X.A (f v u) Q X.xe i) X.xe g) X.xe s:=by
 refine aQ (m d s σ H _ I h) λv p l=>?_;obtain⟨x,k,q,r,z⟩:=l;refine aQ (n d p σ k _ q z) λu j l=>?_;obtain⟨y,e,B,C,D⟩:=l;exact o v u j x y e B r C D
theorem ya{op:Operator}{r:R2}(e:cq X (binaryOp op) r)(f:PE X a ta)(g:PE X b tb):PE X (.BinOp a op b pos) (jO r ta tb):=by
 intro d s i H Q I h;exact wpAny_BinOp (nk f g I h λv u j x y k l m n q=>e d j i k x y v u Q l m n q)
theorem yb{op:UnaryOp}{r:V->Hp->VK->Prop}(f:nj X (unaryOp op) r)(g:PE X a ta):PE X (.UnaryOp op a pos) (xZ r ta):=by
 intro d s e H Q I h;exact UnaryOp_ (aQ (g d s e H _ I h) λv i ⟨x,j,k,l,m⟩=>f d i e j x v Q k l m)
theorem nq{f:Ip->Ip->Sem Ip}{C:Int->Int->Prop}{g:Int->Int->Int}
 (rule:∀(i j:Int)(t u:Tok)(s:Ir)(Q:Ip->Ir->Prop)(E:Ip->Ir->Prop),C i j->Q (.int (g i j) s.toks) { s with toks:=s.toks+1 }->wpAny (model X.prog X.w) X.A (f (.int i t) (.int j u)) Q E s) :
 cq X f (rI C λi j=>.int (g i j)):=by
 intro d s n H x y v u Q I e k h;obtain⟨i,j,rfl,rfl,l,q⟩:=h;obtain⟨t,rfl⟩:=e;obtain⟨m,rfl⟩:=k;exact rule i j t m s _ _ l ⟨.int _,H,I.tok _,⟨_,rfl⟩,q⟩
theorem rr{f:Ip->Ip->Sem Ip}{g:Int->Int->Int}
 (rule:∀(i j:Int)(t u:Tok)(s:Ir)(Q:Ip->Ir->Prop)(E:Ip->Ir->Prop),Q (.int (g i j) s.toks) { s with toks:=s.toks+1 }->wpAny (model X.prog X.w) X.A (f (.int i t) (.int j u)) Q E s) :
 cq X f (eZ λi j=>.int (g i j)):=by
 intro d s m H x y v u Q I e k h;obtain⟨i,j,rfl,rfl,q⟩:=h;obtain⟨t,rfl⟩:=e;obtain⟨l,rfl⟩:=k;exact rule i j t l s _ _ ⟨.int _,H,I.tok _,⟨_,rfl⟩,q⟩
theorem lg{f:Ip->Ip->Sem Ip}{g:Int->Int->Bool}
 (rule:∀(i j:Int)(t u:Tok)(s:Ir)(Q:Ip->Ir->Prop)(E:Ip->Ir->Prop),Q (.bool (g i j)) s->wpAny (model X.prog X.w) X.A (f (.int i t) (.int j u)) Q E s) :
 cq X f (eZ λi j=>.bl (g i j)):=by
 intro d s m H x y v u Q I e k h;obtain⟨i,j,rfl,rfl,q⟩:=h;obtain⟨t,rfl⟩:=e;obtain⟨l,rfl⟩:=k;exact rule i j t l s _ _ ⟨.bl _,H,I,rfl,q⟩
def rA(i j:Int):Prop:=0<j/\j<1073741824
def gz(i j:Int):Prop:=(-(2 ^ 64)<i/\i<2 ^ 64)\/(-(2 ^ 64)<j/\j<2 ^ 64)
theorem gz.ok{i j:Int}(h:gz i j):IntMulOk i j:=by
 rcases h with⟨d,e⟩ | ⟨d,e⟩
 .exact .of_left (intBits_le_64 d e)
 .exact .of_right (intBits_le_64 d e)
theorem op_add:cq X (binaryOp .Add) (eZ λi j=>.int (i+j)):=rr λ_ _ _ _ _ _ _ q=>add_int q
theorem nr:cq X (binaryOp .Sub) (eZ λi j=>.int (i - j)):=rr λ_ _ _ _ _ _ _ q=>sub_int q
theorem nu:cq X (binaryOp .Mult) (rI gz λi j=>.int (i*j)):=nq λ_ _ _ _ _ _ _ d q=>mul_int q d.ok
theorem yc:cq X (binaryOp .FloorDiv) (rI rA λi j=>.int (i / j)):=nq λi j _ _ _ _ _ d q=>by
 have e:_<j:=d.1;have f:=d.2;exact floordiv_int (by omega) (by rw[Int.fdiv_eq_ediv_of_nonneg i (by omega)];exact q) (.inl (PyProof.noPylong_small (by omega)))
theorem cu:cq X (binaryOp .Mod) (rI (λ_ j=>0<j) λi j=>.int (i%j)):=nq λi j _ _ _ _ _ d q=>by
 exact mod_int' (by omega) (by rw[Int.fmod_eq_emod_of_nonneg i (by omega)];exact q)
theorem yd{f:Ip->Sem Ip}{g:Int->Int}
 (rule:∀(i:Int)(t:Tok)(s:Ir)(Q:Ip->Ir->Prop)(E:Ip->Ir->Prop),Q (.int (g i) s.toks) { s with toks:=s.toks+1 }->wpAny (model X.prog X.w) X.A (f (.int i t)) Q E s) :
 nj X f (rU λi=>.int (g i)):=by
 intro d s j H x v Q I e h;obtain⟨i,rfl,q⟩:=h;obtain⟨t,rfl⟩:=e;exact rule i t s _ _ ⟨.int _,H,I.tok _,⟨_,rfl⟩,q⟩
theorem ye:nj X (unaryOp .USub) (rU λi=>.int (-i)):=yd λ_ _ _ _ _ q=>neg_int q
theorem y7:cq X (compareOp .Lt) (eZ λi j=>.bl (decide (i<j))):=lg λ_ _ _ _ _ _ _ q=>lt_int q
theorem jP:cq X (compareOp .LtE) (eZ λi j=>.bl (decide (i<=j))):=lg λ_ _ _ _ _ _ _ q=>le_int q
theorem yf:cq X (compareOp .Gt) (eZ λi j=>.bl (decide (j<i))):=lg λ_ _ _ _ _ _ _ q=>gt_int q
theorem yg:cq X (compareOp .GtE) (eZ λi j=>.bl (decide (j<=i))):=lg λ_ _ _ _ _ _ _ q=>ge_int q
theorem cq.or{f:Ip->Ip->Sem Ip}{r e:R2}(h:cq X f r)(h':cq X f e):cq X f (λx y H Q=>r x y H Q\/e x y H Q):=by
 intro d s g H x y v u Q I i j q;rcases q with q | q
 .exact h d s g H x y v u Q I i j q
 .exact h' d s g H x y v u Q I i j q
theorem D5(b:Expr){op:Px}(h:op≠.In:=by decide)(d:op≠.NotIn:=by decide):behindInMarks op b=false:=by
 have e:(op == Px.In)=false:=by cases op<;>first | rfl | exact absurd rfl h
 have f:(op == Px.NotIn)=false:=by cases op<;>first | rfl | exact absurd rfl d
 cases b<;>simp[behindInMarks,e,f]
theorem yh{op:Px}{r:R2}(e:cq X (compareOp op) r)(f:PE X a ta)(g:PE X b tb)(i:behindInMarks op b=false):PE X (.Compare a [op] [b] pos) (jO r ta tb):=by
 intro d s j H Q I h;exact wpAny_Compare1 (nk f g I h λv u k x y l m n o q=>e d k j l x y v u Q m n o q) i
noncomputable def rB(t:TE):TT:=λd H Q=>t d H λx e=>∃k,x=.bl k/\Q k e
theorem yi{op:Px}{r:R2}(g:cq X (compareOp op) r)(i:PE X a ta)(j:PE X b tb)(l:behindInMarks op b=false):PT X (.Compare a [op] [b] pos) (rB (jO r ta tb)):=by
 intro d s f H Q I h;refine Of (aQ (i d s f H _ I h) λv m ⟨x,n,o,p,q⟩=>aQ (j d m f n _ o q) λu w ⟨y,A,B,C,D⟩=>
  aQ (g d w f A x y v u _ B p C D) λc N ⟨z,E,G,J,k,e,L⟩=>?_) l
 subst e;cases J;exact Jz ⟨E,G,L⟩
noncomputable def rD(r f:R2)(ta tb tc:TE):TE:=λd H Q=>ta d H λx g=>tb d g λy h=>r x y h λz e=>∃k,z=.bl k/\
 (if k=true then tc d e λi j=>f y i j Q else Q (.bl false) e)
theorem yj{op g:Px}{r l:R2}(q:cq X (compareOp op) r)(j:cq X (compareOp g) l)(w:PE X a ta)(A:PE X b tb)(B:PE X c tc)
 (C:lastMarks [op,g] [b,c]=false:=by with_unfolding_all rfl):PE X (.Compare a [op,g] [b,c] pos) (rD r l ta tb tc):=by
 intro f s i H Q I h;refine Compare_chain (aQ (w f s i H _ I h) λv D ⟨x,E,G,J,L⟩=>chain_link (aQ (A f D i E _ G L) λu N ⟨y,O,T,m,U⟩=>
  aQ (q f N i O x y v u _ T J m U) λd Y ⟨z,n,o,r3,k,e,p⟩=>?_)) C
 subst e;cases r3;refine Jz ?_;cases k with
 | false=>exact ite_ff ⟨.bl false,n,o,rfl,p⟩
 | true=>exact ite_tt (chain_last (aQ (B f Y i n _ o p) λw' s4 ⟨z',H4,I4,r4,q4⟩=>j f s4 i H4 y z' u w' Q I4 m r4 q4))
theorem nv:(sizeLine:Nat)<2 ^ 63:=by decide
theorem Y3{x:V}{d:List Ip}(r:aF [x] d):∃u,d=[u]/\RelV x u:=by
 cases r with
 | cons e f=>cases f;exact⟨_,rfl,e⟩
theorem lh{x y:V}{d:List Ip}(r:aF [x,y] d):∃u e,d=[u,e]/\RelV x u/\RelV y e:=by
 cases r with
 | cons f g=>
   cases g with
   | cons h i=>cases i;exact⟨_,_,rfl,f,h⟩
theorem yk(g:X.calm=true):bh X (.builtin "max") (λe H Q=>∃i j,e=[.int i,.int j]/\Q (.int (if j > i then j else i)) H):=by
 intro f s l H e m Q I r h;obtain⟨i,j,rfl,q⟩:=h;obtain⟨u,n,rfl,⟨t,rfl⟩,⟨o,rfl⟩⟩:=lh r;refine max_two_ints (I.ok.hd g) λp v k=>⟨_,H,I.kept k,?_,q⟩;by_cases d:j > i
 .rw[if_pos d,if_pos d];exact⟨_,rfl⟩
 .rw[if_neg d,if_neg d];exact⟨_,rfl⟩
end
structure eO(h:Heap)(x dx C:Addr)(mA:Str->Option Ip):Prop where
 obj:h.get? x=some (KG C dx)
 ns:h.Ns1 dx mA
 ne:dx≠x
theorem yl{h:Heap}{d:Addr}{f:Str->Option Ip}(n:h.Ns1 d f):∃g,h.get? d=some g/\∀b,Nt b g=some (f b):=by
 obtain⟨o,i,r,j,hd,k,_,l⟩:=n;refine⟨o,j,λb=>?_⟩;have e:=l b;unfold nsFind findBy at e;rw[<-Array.find?_toList]at e;unfold Nt;rw[hd];dsimp only;split
 .rename_i y q;rw[q]at e;exact congrArg some e
 .rename_i q;rw[q]at e;have a:i.toList.any (·.refKey)=false:=by
   rw[List.any_eq_false];intro y m;obtain⟨z,t,c⟩:=k y (Array.mem_toList_iff.mp m);simp[Pz.refKey,c]
  have p:¬i.toList.any (·.refKey)=true:=by rw[a];exact JK
  rw[if_neg p];exact congrArg some e
theorem eO.look{h:Heap}{x c C:Addr}{d:Str->Option Ip}(I:eO h x c C d):∃b,PySem.W.InstAt h x (KG C c) C (some b)/\∀a,Nt a b=some (d a):=
 let⟨b,e,f⟩:=yl I.ns
 ⟨b,⟨I.obj,rfl,rfl,e⟩,f⟩
section
variable{prog:IS}{w:Jp}{A:Ji}{E:Ip->Ir->Prop}{s:Ir}{K:Io}{x dx C f:Addr}{mA:Str->Option Ip}{name:Str}{v:Ip}
theorem ym{a:Bool}{Q:Ip->Ir->Prop}(X:K.In s.heap)(I:eO s.heap x dx C mA)(c:MJ K C name=true)(d:Ny K C=true)
 (e:Kl K (.ref C) name=some none) (g:mA name=some v) (b:PySem.W.handedIn v=true) (h:Q v { s with toks:=s.toks+1 }) :
 wpAny (model prog w) A (getAttr (.ref x) name a) Q E s:=by
 obtain⟨j,J,i⟩:=I.look;exact PySem.W.get_value X J (MX c).1 (PySem.W.findObj_own d e rfl (by rw[i,g])) b h
theorem yn{b:Sem Bool}{Q:Ip×List Ip->Ir->Prop}(X:K.In s.heap)(I:eO s.heap x dx C mA)(a:MJ K C name=true)
 (c:Kl K (.ref C) name=some (some (.ref f))) (d:Pf K (.ref f)=true) (e:mA name=none) (h:Q (.ref f,[.ref x]) s) :
 wpAny (model prog w) A (getMethod (.ref x) name b) Q E s:=by
 obtain⟨g,J,i⟩:=I.look;exact PySem.W.method_fn X J (MX a).1 (MX a).2 c (beq_iff_eq.mp d) (by show(Nt name g).map _=some false;rw[i,e];rfl) h
theorem yo{ns:List Str}{Q:Unit->Ir->Prop}(X:K.In s.heap)(I:eO s.heap x dx C mA)
 (hs:Kl K (.ref C) "__setattr__" = some (some (.builtin "object.__setattr__"))) (hp:PySem.W.plainOver K C=true) (ht:Og K C name=some none) (hh:Ny K C=true)
 (hw:Nj mA ns) (hsz:ns.length<=sizeLine)
 (h:∀h',eO h' x dx C (λy=>if y=name then some v else mA y)->Kf dx s.heap h'->Q () { s with heap:=h',toks:=s.toks+2 }) :
 wpAny (model prog w) A (setAttr (.ref x) name v) Q E s:=by
 obtain⟨od,J,hl⟩:=I.look;refine PySem.W.set_plain X J hs (PySem.W.osa_open X J hp ht λb=>?_);obtain⟨cd,hc,hd'⟩:=PySem.W.any_some hh;have hx:=I.obj;refine Il (Iv (Il (Il (wpAny_loadPart hx (Il (PySem.W.Looks.here (PySem.W.looks_clsIn X hc) ?_))))));rw[hd'];refine Iv (Il (Iv (Il ?_)));refine wpAny_nsSet1 I.ns λh' hn2 hs2=>?_;obtain⟨oD,esD,epD,hoD,hdD,hcD⟩:=hn2.count (Nj.cons name v hw);refine Il (wpAny_lookBehind hoD (by rw[hdD];exact pastItsLine_dict (Jm hcD (by rw[IM];omega))) ?_);exact Iv (h _ ⟨(hs2.2 _ (JW I.ne)).trans I.obj,hn2,I.ne⟩ hs2)
theorem yp{R:OF->Ir->Prop}{vs:List Ip}{b:List (Str×Ip)}(X:K.In s.heap)(d:PySem.W.makesIn K C=true)
 (e:Kl K (.ref C) "__init__" = some (some (.ref f))) (g:PySem.W.typeIn K (.ref f)=some (.type "function"))
 (h:codeAny (model prog w) (A.under (.builtin "type.__call__" ⟨.ref C::vs,b⟩)) (.call (.ref f) ⟨.ref (s.heap.objs.size+1)::vs,b⟩) (PySem.W.InitBack (s.heap.objs.size+1) R)
  { s with heap:=(s.heap.push Lg).push (KG C s.heap.objs.size) }) :
 codeAny (model prog w) A (.call (.ref C) ⟨vs,b⟩) R s:=by
 exact PySem.W.make_core (PySem.W.makes_of X d) (OA X e) (λa=>PySem.W.bind_fn X a g) (.inl rfl) h
end
noncomputable def Z5(f:Str)(v:V):List (Str×V)->List (Str×V)
 | []=>[(f,v)]
 | (g,x)::r=>if g=f then(g,v)::r else(g,x)::Z5 f v r
theorem rE(f g:Str)(v:V):∀fs:List (Str×V),(Z5 f v fs).lookup g=if g=f then some v else fs.lookup g
 | []=>by
   show LY g [(f,v)]=_;by_cases h:g=f
   .have a:(g == f)=true:=beq_iff_eq.mpr h;simp only[LY,a,if_pos h]
   .have a:(g == f)=false:=beq_eq_false_iff_ne.mpr h;simp only[LY,a,if_neg h]
 | (k,x)::r=>by
   have ih:=rE f g v r;rw[show Z5 f v ((k,x)::r)=(if k=f then(k,v)::r else(k,x)::Z5 f v r)from rfl];by_cases b:k=f
   .rw[if_pos b];by_cases h:g=k
    .have a:(g == k)=true:=beq_iff_eq.mpr h;simp only[LY,a,if_pos (h.trans b)]
    .have a:(g == k)=false:=beq_eq_false_iff_ne.mpr h;simp only[LY,a,if_neg (λe:g=f=>h (e.trans b.symm))]
   .rw[if_neg b];by_cases h:g=k
    .have a:(g == k)=true:=beq_iff_eq.mpr h;simp only[LY,a,if_neg (λe:g=f=>b (h.symm.trans e))]
    .have a:(g == k)=false:=beq_eq_false_iff_ne.mpr h;simp only[LY,a];exact ih
theorem ny(f:Str)(v:V):∀fs:List (Str×V),f∈(Z5 f v fs).map (·.1)/\∀g,g∈fs.map (·.1)->g∈(Z5 f v fs).map (·.1)
 | []=>⟨by simp[Z5],λg h=>by simp at h⟩
 | (k,x)::r=>by
   obtain⟨b,c⟩:=ny f v r;rw[show Z5 f v ((k,x)::r)=(if k=f then(k,v)::r else(k,x)::Z5 f v r)from rfl];by_cases a:k=f
   .rw[if_pos a];subst a;exact⟨by simp,λg h=>by simpa using h⟩
   .rw[if_neg a];refine⟨?_,λg h=>?_⟩
    .rw[Jb];exact IE _ b
    .rw[Jb]at h ⊢;rcases IF.mp h with e | e
     .exact IF.mpr (.inl e)
     .exact IE _ (c g e)
theorem rF(f:Str)(v:V):∀fs:List (Str×V),(Z5 f v fs).length<=fs.length+1
 | []=>by simp[Z5]
 | (k,x)::r=>by
   have ih:=rF f v r;rw[show Z5 f v ((k,x)::r)=(if k=f then(k,v)::r else(k,x)::Z5 f v r)from rfl];by_cases a:k=f
   .rw[if_pos a,IM,IM];omega
   .rw[if_neg a,IM,IM];omega
theorem bV.some_of{v:V}{o:Option Ip}(r:bV (some v) o):∃u,o=some u/\RelV v u:=by
 cases o with
 | none=>exact(show False from r).elim
 | some u=>exact⟨u,rfl,r⟩
theorem bV.none_of{o:Option Ip}(r:bV none o):o=none:=by
 cases o with
 | none=>rfl
 | some u=>exact(show False from r).elim
theorem yq{v:V}{u:Ip}(r:RelV v u):PySem.W.handedIn u=true:=by
 cases v with
 | non=>cases(show u=_ from r);rfl
 | bl b=>cases(show u=Nx b from r);rfl
 | int i=>obtain⟨t,e⟩:=(show ∃t,u=Nw i t from r);cases e;rfl
 | str x=>obtain⟨t,e⟩:=(show ∃t,u=OR x t from r);cases e;rfl
 | byt b=>obtain⟨t,e⟩:=(show ∃t,u=Ip.bytes b t from r);cases e;rfl
 | flt b=>obtain⟨t,e⟩:=(show ∃t,u=Pu b t from r);cases e;rfl
 | ref a=>cases(show u=IZ a from r);rfl
 | ty n=>cases(show u=JC n from r);rfl
section
variable{P:IS}{w:Jp}{H H':Hp}{h h':Heap}{a C dx:Addr}{fs fs':List (Str×V)}
theorem lj(c:bU P w H h)(e:H a=some (.ins C dx fs)):∃b,eO h a dx C b/\(∀f,bV (fs.lookup f) (b f))/\Nj b (fs.map (·.1))/\fs.length<=1000/\H dx=some (.own a):=by
 obtain⟨d,z,ne,g,b,n,r,q⟩:=(show aP P w H h a _ from c a _ e);exact⟨b,⟨g,n,ne⟩,r,q,z,d⟩
end
structure ej(K:Io)(C:Addr):Prop where
 pg:MJ K C Str.empty=true
 hd:Ny K C=true
 po:PySem.W.plainOver K C=true
 sa:Kl K (.ref C) "__setattr__" = some (some (.builtin "object.__setattr__"))
theorem ej.get{K:Io}{C:Addr}(c:ej K C)(f:Str):MJ K C f=true:=c.pg
def bH(K:Io)(C:Addr)(f:Str):Prop:=Kl K (.ref C) f=some none
theorem bH.taker{K:Io}{C:Addr}{f:Str}(n:bH K C f):Og K C f=some none:=by
 unfold Og;rw[show Kl K _ f=some none from n];rfl
structure gY(K:Io)(C:Addr)(m:Str)(f:Addr):Prop where
 at_:Kl K (.ref C) m=some (some (.ref f))
 fn:Pf K (.ref f)=true
 kp:KC K (.ref f)=true
section
variable{X:Cx}{pins:List (Addr×Obj)}{σ:St}{H:Hp}{s:Ir}{a C dx:Addr}{fs:List (Str×V)}{f:Str}{v:V}{A:Ji}{E:Ip->Ir->Prop}
theorem yr{b:Bool}{Q:Ip->Ir->Prop}(I:Inv X pins σ H s)(e:H a=some (.ins C dx fs))(c:ej X.K C)(n:bH X.K C f)(l:fs.lookup f=some v)
 (h:∀u d,Inv X pins σ H d->RelV v u->Q u d):wpAny (model X.prog X.w) A (getAttr (.ref a) f b) Q E s:=by
 obtain⟨j,O,r,_,_,_⟩:=lj I.hok e;obtain⟨u,i,g⟩:=bV.some_of (by rw[<-l];exact r f);exact ym I.kIn O (c.get f) c.hd n i (yq g) (h u _ (I.tok _) g)
theorem t8{m:Str}{g:Addr}{b:Sem Bool}{Q:Ip×List Ip->Ir->Prop}(I:Inv X pins σ H s)(e:H a=some (.ins C dx fs))(c:ej X.K C)(k:gY X.K C m g)(l:fs.lookup m=none)
 (h:Q (.ref g,[.ref a]) s):wpAny (model X.prog X.w) A (getMethod (.ref a) m b) Q E s:=by
 obtain⟨i,O,r,_,_,_⟩:=lj I.hok e;have d:=bV.none_of (by rw[<-l];exact r m);exact yn I.kIn O (c.get m) k.at_ k.fn d h
theorem yt{y:V}{u:Ip}{Q:Unit->Ir->Prop}(I:Inv X pins σ H s)(e:H a=some (.ins C dx fs))(c:ej X.K C)(n:bH X.K C f)(L:fs.length<1000)(l:RelV y u)
 (h:∀i,Inv X pins σ (aJ H a (.ins C dx (Z5 f y fs))) i->Q () i):wpAny (model X.prog X.w) A (setAttr (.ref a) f u) Q E s:=by
 obtain⟨m,O,r,j,_,k⟩:=lj I.hok e;have p:(fs.map (·.1)).length<=sizeLine:=by rw[Iq,OJ];omega
 refine yo I.kIn O c.sa c.po n.taker c.hd j p λx d B=>h _ ?_;have hd:∃o,x.get? dx=some o:=let⟨o,_,_,D,_⟩:=d.ns;⟨o,D⟩;refine I.write (by rw[e];exact KR) (.inr k) (λb q G z=>(B.2 b G).trans z) hd ?_;refine⟨by rw[ak O.ne];exact k,?_,O.ne,d.obj,_,d.ns,λg=>?_,λg J=>?_⟩
 .have:=rF f y fs;omega
 .show bV _ _;rw[rE];by_cases q:g=f
  .rw[if_pos q,if_pos q];exact l
  .rw[if_neg q,if_neg q];exact r g
 .by_cases q:g=f
  .rw[q];exact(ny f y fs).1
  .refine(ny f y fs).2 g (j g λz=>J ?_);show(if g=f then some u else m g)=none;rw[if_neg q];exact z
theorem Inv.made(I:Inv X pins σ H s):Inv X pins σ (aJ (aJ H s.heap.objs.size (.own (s.heap.objs.size+1))) (s.heap.objs.size+1) (.ins C s.heap.objs.size []))
 { s with heap:=(s.heap.push Lg).push (KG C s.heap.objs.size) }:=by
 have d:(s.heap.push _).get? _=some Lg:=IB _ rfl;have g:((s.heap.push Lg).push (KG C s.heap.objs.size)).get? (s.heap.objs.size+1)=some (KG C s.heap.objs.size):=by
  have:=IB (s.heap.push Lg) (o:=KG C s.heap.objs.size) rfl
  rwa [JG]at this
 have h:(s.heap.push _).Ns _ _:=⟨Lg,#[],_,d,rfl,(λe i=>absurd i (by simp)),λ_=>rfl⟩;have j:=I.laid (o:=.own (s.heap.objs.size+1)) (t':=s.toks) (λb u q=>Im _ q) (Iw _) ⟨_,d⟩;refine j.laid (λb u q=>Im _ q) (Oh (JG _ _)) ?_;have ne:_≠s.heap.objs.size+1:=IH (JH _);refine⟨by rw[ak ne,C8],Lx _,ne,g,λ_=>none,(Heap.Ns1.of_empty h).at λo q=>Im _ q,λ_=>KR,λy k=>absurd rfl k⟩
theorem yw{prog:IS}{w:Jp}{b:Env}{e:Expr}{f:Str}{pos:Pos}{s:Ir}{Q:Ip->Ir->Prop}(d:attributeBase e f b (eval e b)=eval e b)
 (h:wpAny (model prog w) A (eval e b) (λo c=>wpAny (model prog w) A (getAttr o f true) Q E c) E s):wpAny (model prog w) A (eval (.Attribute e f pos) b) Q E s:=
 Attribute_any_ h (by rw[arm_eval_Attribute,d])
end
noncomputable def yx(K:Io)(c:TE)(f:Str):TE:=λd H Q=>c d H λx b=>∃a C e fs v,x=.ref a/\b a=some (.ins C e fs)/\ej K C/\bH K C f/\fs.lookup f=some v/\Q v b
noncomputable def sFld(K:Io)(e g:TE)(f:Str):TS:=λD b H=>g b H λy h=>e b h λx c=>∃a C d fs,x=.ref a/\c a=some (.ins C d fs)/\ej K C/\bH K C f/\fs.length<1000/\
 D.nx b (aJ c a (.ins C d (Z5 f y fs)))
section
variable{X:Cx}{o e value:Expr}{f:Str}{pos pos' tpos:Pos}{ta tv:TE}
theorem yy(he:PE X e ta)(d:attributeBase e f X.env (eval e X.env)=eval e X.env):PE X (.Attribute e f pos) (yx X.K ta f):=by
 intro b s g H Q I h;refine yw d (aQ (he b s g H _ I h) λu z i=>?_);obtain⟨x,j,k,m,a,C,A,fs,v,p,r,c,n,l,q⟩:=i;subst p;obtain rfl:u=IZ a:=m;exact yr k r c n l λB D w y=>⟨v,j,w,y,q⟩
theorem yz(g:PE X o ta)(i:PE X value tv)(hs:swapsWith value (some (.Attribute o f pos')) pos.line X.env=pure false):PS X (.Assign [.Attribute o f pos'] value pos) (sFld X.K ta tv f):=by
 intro b s d H D I h;refine Mu (aQ (i b s d H _ I h) λu j ⟨y,k,m,p,q⟩=>aQ (g b j d k _ m q) λov G r=>?_) hs;obtain⟨x,J,v,w,a,C,L,fs,z,A,c,n,l,B⟩:=r;subst z;obtain rfl:ov=IZ a:=w;exact yt v A c n l p λN E=>⟨d,_,E,B⟩
end
section
variable{X:Cx}{pins:List (Addr×Obj)}{σ:St}{H:Hp}{s:Ir}{A:Ji}{E:Ip->Ir->Prop}{Q:Ip->Ir->Prop}{c:Ip}{b:Bool}
inductive y8 (K:Io) (H:Hp):V->Ip->Prop where
 | non:y8 K H .non (.type "NoneType")
 | bl (x:Bool):y8 K H (.bl x) (.type "bool")
 | int (i:Int):y8 K H (.int i) (.type "int")
 | str (x:Str):y8 K H (.str x) (.type "str")
 | flt (x:UInt64):y8 K H (.flt x) (.type "float")
 | lst {a:Addr} {xs:List V} (e:H a=some (.lst xs)):y8 K H (.ref a) (.type "list")
 | frz {a:Addr} {o:Obj} {xs:List V} (e:H a=some (.frz o (.lst xs))):y8 K H (.ref a) (.type "list")
 | tup {a:Addr} {xs:List V} (e:H a=some (.tup xs)):y8 K H (.ref a) (.type "tuple")
 | dK {a:Addr} {kvs:List (Key×V)} (e:H a=some (.dK kvs)):y8 K H (.ref a) (.type "dict")
 | dT {a:Addr} {kvs:List (List Key×V)} (e:H a=some (.dT kvs)):y8 K H (.ref a) (.type "dict")
 | ins {a C dx:Addr} {fs:List (Str×V)} (e:H a=some (.ins C dx fs)) (cl:ej K C) (ha:Kl K (.ref C) "__class__" = some (some (.builtin "object.__class__")))
  (hn:PySem.W.specialIn K (.builtin "object.__class__") "__get__" = some (some (.builtin "getset_descriptor.__get__"))) (htk:PySem.W.takesIn K (.builtin "object.__class__")=some true)
  (hm:PySem.W.mroIn K C (.type "object")=some true):y8 K H (.ref a) (.ref C)
theorem rG{x:V}{u t:Ip}(I:Inv X pins σ H s)(d:RelV x u)(v:y8 X.K H x t)(e:OG X.K t c=some b)(h:∀z,Q (.bool b) { s with toks:=z }) :
 wpAny (model X.prog X.w) A (call (.builtin "isinstance") [u,c]) Q E s:=by
 cases v with
 | non=>cases(show u=_ from d);exact JP PySem.W.kitx_none I.kIn KR e nofun h
 | bl y=>cases(show u=Nx y from d);exact JP PySem.W.kitx_bool I.kIn KR e nofun h
 | int i=>obtain⟨t,q⟩:=(show ∃t,u=Nw i t from d);cases q;exact JP PySem.W.kitx_int I.kIn KR e nofun h
 | str y=>obtain⟨t,q⟩:=(show ∃t,u=OR y t from d);cases q;exact JP PySem.W.kitx_str I.kIn KR e nofun h
 | flt y=>obtain⟨t,q⟩:=(show ∃t,u=Pu y t from d);cases q;exact JP PySem.W.kitx_float I.kIn KR e nofun h
 | @lst a k f=>
   cases(show u=IZ a from d);obtain⟨_,_,n,_,g⟩:=(show aP _ X.w H _ a _ from I.hok a _ f);exact JP PySem.W.kitx_list I.kIn ⟨_,g,rfl⟩ e nofun h
 | @frz a T k f=>
   cases(show u=IZ a from d);obtain⟨_,_,_,n,_,g⟩:=(show aP _ X.w H _ a _ from I.hok a _ f);exact JP PySem.W.kitx_list I.kIn ⟨_,g,rfl⟩ e nofun h
 | @tup a k f=>
   cases(show u=IZ a from d);obtain⟨_,_,_,p⟩:=(show aP _ X.w H _ a _ from I.hok a _ f);obtain⟨o,g,j,_⟩:=p;exact JP PySem.W.kitx_tuple I.kIn ⟨o,g,j⟩ e nofun h
 | @dK a l f=>
   cases(show u=IZ a from d);obtain⟨_,_,U,_,p⟩:=(show aP _ X.w H _ a _ from I.hok a _ f);obtain⟨o,B,D,g,j,_⟩:=p;exact JP PySem.W.kitx_dict I.kIn ⟨o,g,j.1⟩ e nofun h
 | @dT a l f=>
   cases(show u=IZ a from d);obtain⟨_,_,k,_,o,B,D,g,j,_⟩:=(show aP _ X.w H _ a _ from I.hok a _ f);exact JP PySem.W.kitx_dict I.kIn ⟨o,g,j.1⟩ e nofun h
 | @ins a C Y fs f r G L m N=>
   cases(show u=IZ a from d);obtain⟨mA,O,_⟩:=lj I.hok f;obtain⟨od,J,_⟩:=O.look;exact JP (PySem.W.kitx_own (r.get _) r.hd G L m N) I.kIn J e nofun h
end
structure aL(k:Nat)(A:Ji):Prop where
 hd:A.handled=none
 dp:A.depth+3*k+5<recursionLimit
 un:A.units+16*k+200<cLine
theorem aL.mono{j k:Nat}{A:Ji}(r:aL k A)(h:j<=k):aL j A:=⟨r.hd,by have:=r.dp;omega,by have:=r.un;omega⟩
theorem aL.deeper{k:Nat}{A:Ji}(r:aL (k+1) A)(a:Env):aL k (A.deeper a):=
 ⟨r.hd,by have:=r.dp;show _+1+3*k+5<_;omega,by have:=r.un;show _+3+16*k+200<_;omega⟩
theorem aL.in1{k:Nat}{A:Ji}(r:aL (k+1) A):aL k A.in1:=
 ⟨r.hd,by have:=r.dp;show A.depth+3*k+5<_;omega,by have:=r.un;show _+1+16*k+200<_;omega⟩
theorem yA{A:Ji}{C:Addr}{a:List Ip}{b:List (Str×Ip)}:(A.under (.builtin "type.__call__" ⟨.ref C::a,b⟩)).depth=A.depth+1:=rfl
theorem yB{A:Ji}{C:Addr}{a:List Ip}{b:List (Str×Ip)}:(A.under (.builtin "type.__call__" ⟨.ref C::a,b⟩)).units=A.units+1:=rfl
theorem aL.make{k:Nat}{A:Ji}(r:aL (k+1) A)(C:Addr)(a:List Ip)(b:List (Str×Ip)):aL k (A.under (.builtin "type.__call__" ⟨.ref C::a,b⟩)):=
 ⟨r.hd,by have:=r.dp;rw[yA];omega,by have:=r.un;rw[yB];omega⟩
theorem aL.depth{k:Nat}{A:Ji}(r:aL k A):A.depth<recursionLimit:=by have:=r.dp;omega
theorem aL.units{k:Nat}{A:Ji}(r:aL k A):A.units+64<cLine:=by have:=r.un;omega
noncomputable def tNil:TA:=λ_ H Q=>Q [] H
noncomputable def rH(b:TE)(c:TA):TA:=λa H Q=>b a H λx d=>c a d λe f=>Q (x::e) f
section
variable{X:Cx}{e:Expr}{es:List Expr}{te:TE}{t:TA}{pos:Pos}
theorem lq:PA X [] tNil:=λ_ _ _ _ H Q I h=>LG ⟨[],H,I,.nil,h⟩
theorem d7(c:PE X e te)(d:PA X es t)(hs:starEach (e::es) X.env=(false,eval e X.env)::starEach es X.env:=by rfl):PA X (e::es) (rH te t):=by
 intro pos a s b H Q I h;rw[hs];show wpAny _ _ (spliced ((false,eval e _)::backTo pos _)) _ _ s;refine Kr (aQ (c a s b H _ I h) λu f g=>?_);obtain⟨x,i,j,k,l⟩:=g;exact aQ (d pos a f b i _ j l) λr v ⟨m,n,o,p,q⟩=>⟨x::m,n,o,.cons k p,q⟩
noncomputable def yC(t:TA):TE:=λc H Q=>t c H λa b=>a.length<=sizeLine/\∀p,b p=none->Q (.ref p) (aJ b p (.tup a))
noncomputable def yD(t:TA):TE:=λc H Q=>t c H λa b=>a.length<=sizeLine/\∀p,b p=none->Q (.ref p) (aJ b p (.lst a))
theorem yE{f}(h:PA X es t):PE X (.Tuple es f pos) (yC t):=by
 intro a s g H Q I i;refine wpAny_Tuple_spliced (aQ (h pos a s g H _ I i) λj l ⟨m,c,d,r,z,q⟩=>⟨by rw[<-r.length];exact z,?_⟩);have k:c _=none:=d.hok.fresh (Iw _);refine⟨.ref _,aJ c _ _,d.laid (λb u e=>Im _ e) (Iw _) ?_,rfl,q _ k⟩;exact⟨z,j,r,⟨_,IB _ rfl,rfl,_,rfl⟩⟩
theorem yF(h:PA X es t):PE X (.List es pos) (yD t):=by
 intro a s f H Q I g;refine wpAny_List_spliced (aQ (h pos a s f H _ I g) λi k ⟨l,c,d,r,z,q⟩=>⟨by rw[<-r.length];exact z,?_⟩);have j:c _=none:=d.hok.fresh (Iw _);refine⟨.ref _,aJ c _ _,d.laid (λb u e=>Im _ e) (Iw _) ?_,rfl,q _ j⟩;exact⟨z,i,0,r,IB _ rfl⟩
end
abbrev Sp:=List V->Hp->VK->XK->Prop
abbrev CXT:=List Env->Hp->Ir->XK->Ip->Ir->Prop
structure di(P:IS)(w:Jp)(K:Io)(mg:Str->Option Ip)(base:Heap)(A:Ji)(outer:List Env)(s:Ir)(H:Hp):Prop where
 frames:A.frames=some outer
 mod:Mod K mg base
 bs:∀b o,base.get? b=some o->s.heap.get? b=some o/\H b=none
 bsz:base.objs.size<=s.heap.objs.size
 funs:s.heap.FunFrames base outer
 frf:∀b∈frs outer,H b=none
 hok:bU P w H s.heap
 bare:Oe s.gens
def CE(a:List Env)(P:IS)(w:Jp)(H:Hp)(s:Ir)(Q:VK)(u:Ip)(b:Ir):Prop:=
 ∃v c,b.os=s.os/\Oe b.gens/\Un (frs a) [] H c s.heap b.heap/\bU P w c b.heap/\RelV v u/\Q v c
def CR(c:CXT)(a:List Env)(P:IS)(w:Jp)(H:Hp)(s:Ir)(Q:VK)(E:XK)(r:OF)(b:Ir):Prop:=
 match r with
 | .ok (.ret u)=>CE a P w H s Q u b
 | .ok _=>False
 | .error e=>c a H s E e b
structure ay(P:IS)(w:Jp)(K:Io)(mg:Str->Option Ip)(base:Heap)(CX:CXT)(k:Nat)(f:Addr)(fd:IQ)(ps:List Str)(sp:Sp):Prop where
 len:∀vs H Q E,sp vs H Q E->vs.length=ps.length
 run:∀(A:Ji)(outer:List Env)(s:Ir)(H:Hp)(args:Args)(us:List Ip)(vs:List V)(Q:VK)(E:XK),aL k A->di P w K mg base A outer s H->PX s fd args (ps.zip us)->aF vs us->sp vs H Q E->
  codeAny (model P w) A (.call (.ref f) args) (CR CX outer P w H s Q E) s
theorem ay.imp{P:IS}{w:Jp}{K:Io}{mg:Str->Option Ip}{base:Heap}{e:CXT}{k:Nat}{f:Addr}{g:IQ}{ps:List Str}{i c:Sp}(F:ay P w K mg base e k f g ps i)
 (h:∀b H Q E,c b H Q E->i b H Q E):ay P w K mg base e k f g ps c:=
 ⟨λb H Q E q=>F.len b H Q E (h _ _ _ _ q),λA a s H d j b Q E l m n o p=>F.run A a s H d j b Q E l m n o (h _ _ _ _ p)⟩
theorem di.make{P:IS}{w:Jp}{K:Io}{mg:Str->Option Ip}{base:Heap}{A:Ji}{a:List Env}{s:Ir}{H:Hp}(e:di P w K mg base A a s H)(C:Addr)(b:List Ip)(c:List (Str×Ip)) :
 di P w K mg base (A.under (.builtin "type.__call__" ⟨.ref C::b,c⟩)) a s H:=⟨by first | exact e.frames | (simpa[_]using _),e.mod,e.bs,e.bsz,e.funs,e.frf,e.hok,e.bare⟩
theorem di.in1{P:IS}{w:Jp}{K:Io}{mg:Str->Option Ip}{base:Heap}{A:Ji}{a:List Env}{s:Ir}{H:Hp}(e:di P w K mg base A a s H) :
 di P w K mg base A.in1 a s H:=⟨e.frames,e.mod,e.bs,e.bsz,e.funs,e.frf,e.hok,e.bare⟩
section
variable{X:Cx}{pins:List (Addr×Obj)}{σ:St}{H:Hp}{s s':Ir}
theorem Inv.env0(I:Inv X pins σ H s):di X.prog X.w X.K X.mg X.base X.A X.stack s H:=
 ⟨I.ok.frames,I.ok.mod,I.bs,Jm I.ok.bsz I.sz,I.stack,I.stkFree,I.hok,I.bare⟩
theorem Inv.after{Q:VK}{u:Ip}(I:Inv X pins σ H s)(h:CE X.stack X.prog X.w H s Q u s'):EP X pins σ Q u s':=by
 obtain⟨v,f,os,a,un,c,r,q⟩:=h;obtain⟨i,g,d,t,e⟩:=s';obtain rfl:e=s.os:=os;exact⟨v,f,I.call un c a (λb z=>absurd z (by simp)),r,q⟩
end
noncomputable def rJ(b:Sp)(a:List V)(E:XK)(t:TA):TE:=λc H Q=>t c H λd e=>b (d++a) e Q E
noncomputable def nz(C:Addr)(m:Str)(e:Sp)(b:List V)(E:XK)(f:TE)(t:TA):TE:=λc H Q=>f c H λx d=>∃a g fs,x=.ref a/\d a=some (.ins C g fs)/\fs.lookup m=none/\
 t c d λh i=>e (x::(h++b)) i Q E
noncomputable def rK(C:Addr)(d:Sp)(b:List V)(E:XK)(t:TA):TE:=λe H Q=>t e H λf c=>∀x a,c x=none->c a=none->a≠x->
 d (.ref x::(f++b)) (aJ (aJ c a (.own x)) x (.ins C a [])) (λv g=>v=.non/\Q (.ref x) g) E
def Binds(K:Io)(c:IQ)(ps:List Str)(b:List Ip):Prop:=
 ∀(s:Ir)(a:List Ip),K.In s.heap->(a++b).length=ps.length->PX s c ⟨a,[]⟩ (ps.zip (a++b))
theorem Binds.all{K:Io}{b:IQ}{ps:List Str}(h:∀a:List Ip,a.length=ps.length->bindArgs b ⟨a,[]⟩=pure (ps.zip a)):Binds K b ps []:=λs a _ c=>by
 rw[JD]at c ⊢;exact .of_eq (h a c)
def t9(c:CXT)(X:Cx)(E:XK):Prop:=∀(a:List (Addr×Obj))(σ:St)(H:Hp)(s:Ir)(e:Ip)(b:Ir),Inv X a σ H s->c X.stack H s E e b->X.xe e b
section
variable{X:Cx}{CX:CXT}{k:Nat}{f C:Addr}{fd:IQ}{ps:List Str}{sp:Sp}{dvs:List V}{ds:List Ip}{E:XK}{x m:Str}{p pos apos:Pos}{e o:Expr}{es:List Expr}{ta:TE}{t:TA}
theorem nA{a:List (Addr×Obj)}{σ:St}{H:Hp}{s:Ir}{Q:VK}{b:List Ip}{vs:List V}(F:ay X.prog X.w X.K X.mg X.base CX k f fd ps sp)(g:aL k X.A)(i:Binds X.K fd ps ds)(hd:aF dvs ds)(j:t9 CX X E)
 (I:Inv X a σ H s) (r:aF vs b) (h:sp (vs++dvs) H Q E):wpAny (model X.prog X.w) X.A (call (.ref f) b) (EP X a σ Q) X.xe s:=by
 have d:=r.append hd;have l:(b++ds).length=ps.length:=by rw[<-d.length];exact F.len _ _ _ _ h
 refine Ma (KW (F.run X.A _ s H ⟨b,[]⟩ _ _ Q E g I.env0 (i s b I.kIn l) d h) λr n c=>?_);cases r with
 | error e=>exact j a σ H s e n I c
 | ok q=>
   cases q with
   | ret u=>exact I.after c
   | next=>exact IY c
   | brk=>exact IY c
   | cont=>exact IY c
theorem yG(F:ay X.prog X.w X.K X.mg X.base CX k f fd ps sp)(d:aL k X.A)(g:Gl X x)(i:X.mg x=some (.ref f))(j:KC X.K (.ref f)=true)(l:Binds X.K fd ps ds)(hd:aF dvs ds)(n:t9 CX X E)
 (u:PA X (e::es) t) (b:(x == ("__debug__" : Str))=false:=by decide) (he:starEach (e::es) X.env=(false,eval e X.env)::starEach es X.env:=by rfl) (hpl:(backTo pos (starEach es X.env)).any (·.1)=false:=by rfl) :
 PE X (.Call (.Name x p) (e::es) [] pos) (rJ sp dvs E t):=by
 intro a s v H Q I h;refine Ks (x8 I g i ?_ b);refine Ls (h₀:=_) I.ok.mod.kin j (aQ (u pos a s v H _ I h) λy z ⟨B,D,c,r,q⟩=>⟨c.kIn,?_⟩) he hpl;exact nA F d l hd n c r q
theorem yH{v:Sem Bool}(he:PE X o ta)(c:ej X.K C)(g:gY X.K C m f)(F:ay X.prog X.w X.K X.mg X.base CX k f fd ps sp)(y:aL k X.A)(z:Binds X.K fd ps ds)(hd:aF dvs ds)(B:t9 CX X E)(D:PA X (e::es) t)
 (d:starEach (e::es) X.env=(false,eval e X.env)::starEach es X.env:=by rfl) (hpl:(backTo pos (starEach es X.env)).any (·.1)=false:=by rfl)
 (G:eval (.Call (.Attribute o m apos) (e::es) [] pos) X.env=(do
  let ov <-eval o X.env
  standAt apos.atName
  let(f,first) <-holding [ov] (getMethod ov m v)
  callWith pos f first (backTo pos (starEach (e::es) X.env)) (backToKw pos (keywordEach [] X.env))):=by rfl) :
 PE X (.Call (.Attribute o m apos) (e::es) [] pos) (nz C m sp dvs E ta t):=by
 intro b s i H Q I h;refine MD (aQ (he b s i H _ I h) λu J L=>?_) G;obtain⟨x,N,j,O,a,dx,fs,T,U,l,q⟩:=L;subst T;obtain rfl:u=IZ a:=O;refine t8 j U c g l ?_;refine Ls I.ok.mod.kin g.kp (aQ (D pos b J i N _ j q) λus s2 ⟨vs,H2,n,r,Y⟩=>⟨n.kIn,?_⟩) d hpl;exact nA (vs:=.ref a::vs) F y z hd B n (.cons rfl r) Y
theorem yI{i:Sem Bool}(he:PE X o ta)(c:ej X.K C)(g:gY X.K C m f)(F:ay X.prog X.w X.K X.mg X.base CX k f fd ps sp)(j:aL k X.A)(n:Binds X.K fd ps ds)(hd:aF dvs ds)(r:t9 CX X E)
 (v:eval (.Call (.Attribute o m apos) [] [] pos) X.env=(do
  let ov <-eval o X.env
  standAt apos.atName
  let(f,first) <-holding [ov] (getMethod ov m i)
  callWith pos f first (backTo pos (starEach [] X.env)) (backToKw pos (keywordEach [] X.env))):=by rfl) :
 PE X (.Call (.Attribute o m apos) [] [] pos) (nz C m sp dvs E ta tNil):=by
 intro b s y H Q I h;refine MD (aQ (he b s y H _ I h) λu J z=>?_) v;obtain⟨x,L,d,B,a,N,fs,D,G,l,q⟩:=z;subst D;obtain rfl:u=IZ a:=B;refine t8 d G c g l ?_;exact PySem.W.callWith_K0 d.kIn g.kp (nA (vs:=[.ref a]) F j n hd r d (.cons rfl .nil) q)
structure Mk(K:Io)(C f:Addr):Prop where
 makes:PySem.W.makesIn K C=true
 init:Kl K (.ref C) "__init__" = some (some (.ref f))
 fn:Pf K (.ref f)=true
 kp:KC K (.ref C)=true
theorem yJ{a:List (Addr×Obj)}{σ:St}{H:Hp}{s:Ir}{Q:VK}{c:List Ip}{vs:List V}(M:Mk X.K C f)(F:ay X.prog X.w X.K X.mg X.base CX k f fd ps sp)(l:aL (k+1) X.A)(n:Binds X.K fd ps ds)(hd:aF dvs ds)
 (q:t9 CX X E) (I:Inv X a σ H s) (r:aF vs c)
 (h:∀x d,H x=none->H d=none->d≠x->sp (.ref x::(vs++dvs)) (aJ (aJ H d (.own x)) x (.ins C d [])) (λv y=>v=.non/\Q (.ref x) y) E) :
 wpAny (model X.prog X.w) X.A (call (.ref C) c) (EP X a σ Q) X.xe s:=by
 have i:=h _ _ (I.hok.fresh (Lb _)) (I.hok.fresh (Iw _)) (IH (JH _));have g:=Inv.made (C:=C) I;have j:aF (V.ref (s.heap.objs.size+1)::_) _:=.cons rfl (r.append hd);have z:(IZ (s.heap.objs.size+1)::c++ds).length=ps.length:=by
  have e:=j.length;rw[F.len _ _ _ _ i]at e;exact e.symm
 refine Ma (yp I.kIn M.makes M.init (beq_iff_eq.mp M.fn) (KW (F.run _ _ _ _ ⟨IZ _::c,[]⟩ _ _ _ E (l.make C c [])
  (g.env0.make C c []) (n _ _ g.kIn z) j i) λr B b=>?_))
 cases r with
 | error e=>exact q a σ _ _ e B g b
 | ok D=>
   cases D with
   | ret u=>
     obtain⟨v,G,J,L,N,O⟩:=g.after b;subst N;exact⟨L,⟨V.ref _,G,J,rfl,O⟩⟩
   | next=>exact IY b
   | brk=>exact IY b
   | cont=>exact IY b
theorem yK(M:Mk X.K C f)(F:ay X.prog X.w X.K X.mg X.base CX k f fd ps sp)(d:aL (k+1) X.A)(g:Gl X x)(i:X.mg x=some (.ref C))(j:Binds X.K fd ps ds)(hd:aF dvs ds)(l:t9 CX X E)
 (n:PA X (e::es) t) (b:(x == ("__debug__" : Str))=false:=by decide) (he:starEach (e::es) X.env=(false,eval e X.env)::starEach es X.env:=by rfl) (hpl:(backTo pos (starEach es X.env)).any (·.1)=false:=by rfl) :
 PE X (.Call (.Name x p) (e::es) [] pos) (rK C sp dvs E t):=by
 intro a s u H Q I h;refine Ks (x8 I g i ?_ b);refine Ls (h₀:=_) I.ok.mod.kin M.kp (aQ (n pos a s u H _ I h) λv y ⟨z,B,c,r,q⟩=>⟨c.kIn,?_⟩) he hpl;exact yJ M F d j hd l c r q
end
def PK(X:Cx)(b:List MY)(t:TA):Prop:=
 ∀(pos:Pos)(a:List (Addr×Obj))(s:Ir)(σ:St)(H:Hp)(Q:List V->Hp->Prop),Inv X a σ H s->t σ H Q->wpAny (model X.prog X.w) X.A (evalAll ((backToKw pos (keywordEach b X.env)).map (·.2))) (AP X a σ Q) X.xe s
section
variable{X:Cx}{CX:CXT}{k:Nat}{f C:Addr}{fd:IQ}{ps ks:List Str}{sp:Sp}{E:XK}{x m:Str}{p pos apos kpos:Pos}{e o:Expr}{es:List Expr}{kws:List MY}{te ta:TE}{t tk:TA}{nm:Option Str}
theorem yL:PK X [] tNil:=λ_ _ _ _ H Q I h=>wpAny_evalAll_nil ⟨[],H,I,.nil,h⟩
theorem yM(c:PE X e te)(d:PK X kws t):PK X (⟨nm,e,kpos⟩::kws) (rH te t):=by
 intro pos a s b H Q I h;refine wpAny_evalAll_cons (Il (aQ (c a s b H _ I h) λu g ⟨x,i,j,l,n⟩=>Il (Mf (Iv ?_))));exact aQ (d pos a g b i _ j n) λz A ⟨q,r,v,w,y⟩=>⟨x::q,r,v,.cons l w,y⟩
variable{g:List Ip->List Ip->List Ip}{gV:List V->List V->List V}
end
structure C6(N P:List Str)(sc:Nc):Prop where
 kind:sc.kind=.function
 co:sc.isCoroutine=false
 gen:sc.isGenerator=false
 nd:N.Nodup
 pre:N.take P.length=P
 par:∀x∈P,sc.names.lookup x=some .local\/sc.names.lookup x=some .cell
 nofree:∀y∈sc.names,y.2≠.free
theorem rL{kindOf:Str->Option PY}{x:Str}:∀{binds:List (Str×Ip)}{m:Str->Option Ip},(∀v,(x,v)∉binds)->bindL kindOf binds m x=m x
 | [],_,_=>rfl
 | (n,v)::r,m,h=>by
   unfold bindL;rw[rL λw a=>h w (IE _ a)];split
   .have:x≠n:=by rintro rfl;exact h v Iz
    simp[this]
   .rfl
theorem rM{kindOf:Str->Option PY}{x:Str}:∀{binds:List (Str×Ip)}{m:Str->Option Ip},(∀v,(x,v)∉binds)->bindC kindOf binds m x=m x
 | [],_,_=>rfl
 | (n,v)::r,m,h=>by
   unfold bindC;rw[rM λw a=>h w (IE _ a)];split
   .rfl
   .have:x≠n:=by rintro rfl;exact h v Iz
    simp[this]
theorem rN{kindOf:Str->Option PY}{x:Str}{v:Ip}:∀{P:List Str}{vs:List Ip}{i:Nat}{m:Str->Option Ip},P.Nodup->P[i]?=some x->vs[i]?=some v->kindOf x=some .local->
 bindL kindOf (P.zip vs) m x=some v
 | [],_,_,_,_,h,_,_=>by simp at h
 | _::_,[],_,_,_,_,h,_=>by simp at h
 | p::P,w::vs,0,m,c,a,b,d=>by
   simp at a b;subst a;subst b;show bindL kindOf ((p,w)::P.zip vs) m p=_;unfold bindL;rw[rL λv e=>(JQ.mp c).1 (MZ e).1,if_pos d];simp
 | p::P,w::vs,i+1,m,c,a,b,d=>by
   show bindL kindOf ((p,w)::P.zip vs) m x=_;unfold bindL;exact rN (i:=i) (JQ.mp c).2 (by simpa using a) (by simpa using b) d
theorem rO{kindOf:Str->Option PY}{x:Str}{v:Ip}:∀{P:List Str}{vs:List Ip}{i:Nat}{m:Str->Option Ip},P.Nodup->P[i]?=some x->vs[i]?=some v->kindOf x≠some .local->
 bindC kindOf (P.zip vs) m x=some v
 | [],_,_,_,_,h,_,_=>by simp at h
 | _::_,[],_,_,_,_,h,_=>by simp at h
 | p::P,w::vs,0,m,c,a,b,d=>by
   simp at a b;subst a;subst b;show bindC kindOf ((p,w)::P.zip vs) m p=_;unfold bindC;rw[rM λv e=>(JQ.mp c).1 (MZ e).1,if_neg d];simp
 | p::P,w::vs,i+1,m,c,a,b,d=>by
   show bindC kindOf ((p,w)::P.zip vs) m x=_;unfold bindC;exact rO (i:=i) (JQ.mp c).2 (by simpa using a) (by simpa using b) d
noncomputable def start(N:List Str)(vs:List V):St:=vs.map some++LP (N.length - vs.length) none
noncomputable def Z6(CX:CXT)(P:IS)(w:Jp)(K:Io)(mg:Str->Option Ip)(base:Heap)(N:List Str)(qual:Str)(scope:Nc)(f:Addr)(cd:Ip)(A:Ji)(outer:List Env)(s:Ir)(H:Hp)(E:XK):Cx where
 prog:=P
 w:=w
 K:=K
 mg:=mg
 base:=base
 A:=A.deeper (envOfC qual scope s.heap.objs.size f cd)
 N:=N
 s₀:=s
 H₀:=H
 env:=envOfC qual scope s.heap.objs.size f cd
 outer:=outer
 stack:=envOfC qual scope s.heap.objs.size f cd::outer
 ex:=[]
 calm:=true
 fn:=λ_=>true
 pn:=[]
 xe:=λe s'=>wpAny (model P w) (A.deeper (envOfC qual scope s.heap.objs.size f cd)) (leaving (envOfC qual scope s.heap.objs.size f cd) e) (λ_ s''=>CX outer H s E e s'') (λe' s''=>CX outer H s E e' s'') s'
theorem rP{a:Nc}{n:Nat}{x:Str}(h:a.names.lookup x=some .cell):∃c,(cellsFrom n a.names []).lookup x=some c:=by
 have q:=Mr _ n [] (.inl h);exact Nz.mp q
theorem rQ{I:CXT}{P:IS}{w:Jp}{K:Io}{mg:Str->Option Ip}{base:Heap}{N ps:List Str}{j:Str}{d:Nc}{f:Addr}{cd:Ip}{A:Ji}{g:List Env}{s J:Ir}{H:Hp}{E:XK}{G:List Ip}{vs:List V}
 (S:C6 N ps d) (hd:A.handled=none) (e0:di P w K mg base A g s H) (Y:vs.length=ps.length) (r:aF vs G)
 (x:InCallC s s.heap.objs.size (bindL (envOfC j d s.heap.objs.size f cd).kindOf (ps.zip G) λ_=>none) (cellsFrom (s.heap.objs.size+1) d.names []) (bindC (envOfC j d s.heap.objs.size f cd).kindOf (ps.zip G) λ_=>none) J) :
 Inv (Z6 I P w K mg base N j d f cd A g s H E) [] (start N vs) H J:=by
 have Q:ps.length<=N.length:=by have:=congrArg List.length S.pre;rw[JI]at this;omega
 obtain⟨C,tk,rfl,L⟩:=x.done;have m:∀b:Addr,b∉(Z6 I P w K mg base N j d f cd A g s H E).ex:=λb z=>absurd (show b∈([])from z) nofun;refine⟨⟨e0.mod,S.kind,rfl,rfl,Iw _,λy z c C l=>?_,λy n=>?_,λy c _ h=>?_,λ_=>hd,Ji.frames_deeper e0.frames,.inr ⟨rfl,rfl⟩,λb z=>absurd z (m b),e0.bs,e0.bsz,λb _ _=>m b,λb z=>absurd z (m b),e0.funs,e0.frf⟩,
  rfl,e0.bare,Un.kept L,⟨_,x.toInCall.ns,λi y v C l h3=>?_⟩,λy c h=>⟨_,x.cell y c h⟩,e0.hok.fresh (Iw _),λy c h=>?_,λp o=>absurd (show p∈([])from o) nofun,e0.hok.kept L,?_⟩
 .exact name_of_addr x.apart (JE C) (JE l)
 .have n:=n;rcases n with n | n
  .exact rP n
  .exact absurd rfl (S.nofree _ (JE n))
 .exact Nl (x.above y c (JE h))
 .have D:i<vs.length:=by
   unfold start at l;by_cases D:i<vs.length
   .exact D
   .rw[KP (by simpa using D)]at l;rw[NJ]at l;split at l<;>cases l
  have T:vs[i]?=some v:=by
   unfold start at l;rw[JA (by simpa using D),Jc]at l;cases e:vs[i]? with
   | none=>rw[e]at l;cases l
   | some a=>rw[e]at l;cases l;rfl
  obtain⟨u,O,U⟩:=r.get T;have o:ps[i]?=some y:=by
   rw[<-S.pre,List.getElem?_take_of_lt (by omega)];exact C
  have B:ps.Nodup:=by rw[<-S.pre];exact S.nd.sublist (List.take_sublist _ _)
  refine⟨u,U,?_⟩;rcases S.par y (Ja o)with k | k
  .exact .inl ⟨k,rN B o O k⟩
  .obtain⟨c,e⟩:=rP k;refine .inr ⟨.inl k,c,e,?_⟩;have q:=x.cell y c e;rw[rO B o O (by show d.names.lookup y≠_;rw[k];decide)]at q;exact q
 .exact e0.hok.fresh (Nl (x.above y c (JE h)))
 .unfold start;show _=N.length;rw[IU,Iq,List.length_replicate];omega
theorem lr{G:CXT}{P:IS}{w:Jp}{K:Io}{mg:Str->Option Ip}{base:Heap}{k:Nat}{f:Addr}{l d:Str}{h:OT}{i:List Stmt}{a:Nc}{dV kV B pm g ct oc:Ip}{an od:Option Addr}
 {L:Array (Option Ip)} {N ps:List Str} {O:Sp} (lk:K.lookup f=some ⟨oc,od,.func (KY l d h i a dV kV B pm an g ct),L⟩) (T:Mz K g d=true) (S:C6 N ps a)
 (len:∀vs H Q E,O vs H Q E->vs.length=ps.length)
 (m:∀(A:Ji)(c:List Env)(s:Ir)(H:Hp)(vs:List V)(Q:VK)(E:XK),aL k (A.deeper (envOfC d a s.heap.objs.size f g))->O vs H Q E->
  ∃t,cC (Z6 G P w K mg base N d a f g A c s H E) i t/\t { nx:=λ_ H'=>Q .non H',rt:=Q } (start N vs) H) :
 ay P w K mg base G (k+1) f (KY l d h i a dV kV B pm an g ct) ps O:=by
 refine⟨len,λA c s H a5 us vs Q E U C hb r D=>?_⟩;have hl:=len _ _ _ _ D;have KX:K.In _:=C.mod.kin.keeps λb o e=>(C.bs b o e).1;have Y:=C.mod.nolimit.keeps λb o e=>(C.bs b o e).1;have p:∀y∈ps.zip us,a.names.lookup y.1=some .local\/(a.names.lookup y.1=some .cell/\((cellsFrom (s.heap.objs.size+1) _ []).lookup y.1).isSome=true):=λ⟨n,v⟩ hy=>by
  rcases S.par n (MZ hy).1 with q | q
  .exact .inl q
  .exact .inr ⟨q,Mr _ _ _ (.inl q)⟩
 refine codeAny_call_function U.depth (KX _ _ lk) rfl S.co S.gen rfl (PySem.W.codeRec_of KX T) (hb _ _ _ _ ?_);refine Nf S.kind p λb4 he s1 x=>?_;subst he;refine⟨Y.keeps x.toInCall.keep,codeAny_func ?_⟩;obtain⟨t,ht,hq⟩:=m A c s H vs Q E (U.deeper _) D;have I:Inv (Z6 G P w K mg base N d a f g A c s H E) [] _ H s1:=rQ S U.hd C hl r x;refine Jh (ht [] s1 _ H _ I hq) (λfl s' z=>?_) λe s' z=>z;have fin:∀{j:St}{H':Hp}{v:V}{u:Ip},Inv (Z6 G P w K mg base N d a f g A c s H E) [] j H' s'->RelV v u->Q v H'->CE c P w H s Q u s':=
  λ{j H' v u} J rv q=>⟨v,H',J.os,J.bare,J.base,J.hok,rv,q⟩
 cases fl with
 | ret u=>
   obtain⟨v,j,H',J,rv,q⟩:=z;exact fin J rv q
 | next=>
   obtain⟨j,H',J,q⟩:=z;exact fin (v:=V.non) J rfl q
 | brk=>
   obtain⟨_,_,_,q⟩:=z;exact IY q
 | cont=>
   obtain⟨_,_,_,q⟩:=z;exact IY q
section
variable{X:Cx}{x:Str}{p pos:Pos}{e:Expr}{es:List Expr}{t:TA}{id T:String}{r:List V->Hp->VK->Prop}
noncomputable def nB(r:List V->Hp->VK->Prop)(t:TA):TE:=λa H Q=>t a H λb c=>r b c Q
theorem V4(d:bh X (.builtin id) r)(f:Gl X x)(g:X.mg x=none)(i:bootBuiltins x=some (.builtin id))(j:PA X (e::es) t)(k:x≠"__name__":=by decide)(b:(x == ("__debug__" : Str))=false:=by decide)
 (he:starEach (e::es) X.env=(false,eval e X.env)::starEach es X.env:=by rfl) (hpl:(backTo pos (starEach es X.env)).any (·.1)=false:=by rfl):PE X (.Call (.Name x p) (e::es) [] pos) (nB r t):=by
 intro a s c H Q I h;refine Ks (V9 I f g i ?_ k b);exact PyProof.Rows.callWith_builtin1 (aQ (j pos a s c H _ I h) λl m ⟨n,o,q,u,v⟩=>d a m c o n l Q q u v) he hpl
theorem n6(d:bh X (.type T) r)(f:Gl X x)(g:X.mg x=none)(i:bootBuiltins x=some (.type T))(j:PA X (e::es) t)(k:x≠"__name__":=by decide)(b:(x == ("__debug__" : Str))=false:=by decide)
 (he:starEach (e::es) X.env=(false,eval e X.env)::starEach es X.env:=by rfl) (hpl:(backTo pos (starEach es X.env)).any (·.1)=false:=by rfl):PE X (.Call (.Name x p) (e::es) [] pos) (nB r t):=by
 intro a s c H Q I h;refine Ks (V9 I f g i ?_ k b);exact KI (aQ (j pos a s c H _ I h) λl m ⟨n,o,q,u,v⟩=>d a m c o n l Q q u v) he hpl
end
end L2
namespace HT
open PySem PyProof.Rows
section
variable{prog:IS}{w:Jp}{A:Ji}{E:Ip->Ir->Prop}{s:Ir}
theorem gA{t b:Addr}{vs c:List Ip}{Q:Ip->Ir->Prop}(v:Qb s.heap t vs.toArray)(x:Qb s.heap b c.toArray)(m:vs≠[])
 (y:c=[]->Q (.ref t) s) (z:c≠[]->Q (.ref s.heap.objs.size) { s with heap:=s.heap.push { cls:=.type "tuple",data:=.seq (vs++c).toArray } })
 (j:vs.length+c.length<=sizeLine):wpAny (model prog w) A (binaryOp .Add (.ref t) (.ref b)) Q E s:=by
 obtain⟨⟨cls,p,d,q⟩,h,B,n,hd⟩:=id v;obtain⟨⟨r,f,data2,g⟩,a,k,u,l⟩:=id x;subst B hd k l;have e:vs.toArray++c.toArray=(vs++c).toArray:=by simp
 by_cases i:c=[]
 .exact Ph ⟨_,h,rfl⟩ ⟨_,a,rfl⟩ NU OU Ms Mg (Mb _ _)
   (tuple_addW1 t b _ _ n u p f q g (by simpa using m) (by simp[i])) ⟨h,a,y i⟩
 .refine Ph ⟨_,h,rfl⟩ ⟨_,a,rfl⟩ NU OU Ms Mg (Mb _ _)
   (tuple_addW2 t b _ _ n u p f q g (by simpa using m) (by simpa using i) (by exact j)) ⟨h,a,?_⟩
  rw[e];exact z i
noncomputable def sIx(n d:Nat):Option Int->Nat
 | none=>d
 | some v=>if v<0 then(v+(n:Int)).toNat else min v.toNat n
theorem yN(n d:Nat)(hd:d<=n)(o:Option Int):sIx n d o<=n:=by
 cases o with
 | none=>exact hd
 | some v=>
   show(if v<0 then(v+_).toNat else min _ n)<=n;by_cases a:v<0
   .rw[if_pos a];omega
   .rw[if_neg a];exact Nat.min_le_right _ _
theorem dQ(v:Int)(n d:Nat):(if v<0 then max (v+(n:Int)) 0 else min v (n:Int))=((sIx n d (some v):Nat):Int):=by
 show _=(((if v<0 then(v+_).toNat else min _ n):Nat):Int);by_cases a:v<0
 .simp only[if_pos a];omega
 .simp only[if_neg a];omega
theorem yO(lo a:Option Int)(n:Nat):LQ lo a 1 (n:Int)=(((sIx n 0 lo:Nat):Int),((sIx n n a:Nat):Int)):=by
 have b:¬((1:Int)<0):=by omega
 unfold LQ;refine Prod.ext ?_ ?_
 .cases lo with
  | none=>rfl
  | some v=>exact dQ v n 0
 .cases a with
  | none=>rfl
  | some v=>exact dQ v n n
theorem yP(i j:Nat):LR (i:Int) (j:Int) 1=j - i:=by
 unfold LR;have a:(1:Int) > 0:=by omega
 simp only[a,if_true,Int.ediv_one];split<;>omega
theorem rR{v:Ip}{o:Option Int}{Q:Option Int->Ir->Prop}(p:PB v o)(h:Q o s):wpAny (model prog w) A (Kv.Slice.slicePartIndex v) Q E s:=by
 cases p with
 | none=>exact slicePart_none h
 | int i t=>exact slicePart_int h
theorem yQ{e:Addr}{d f:Ip}{lo c:Option Int}{n:Nat}{Q:Int×Int×Nat->Ir->Prop}(hs:s.heap.IsSliceOf e d f .none)(g:PB d lo)(i:PB f c)
 (h:Q (((sIx n 0 lo:Nat):Int),1,sIx n n c - sIx n 0 lo) s):wpAny (model prog w) A (Kv.Slice.sliceApplied (.ref e) (pure (n:Int))) Q E s:=by
 obtain⟨os,a,j,b⟩:=id hs;refine Il (Il (Jt a b (x:=d) rfl (Il (Jt a b rfl (Il (Jt a b rfl (Iv ?_)))))));refine Il (slicePart_none ?_);refine Il (rR g (Il (rR i (Il (Iv ?_)))));show wpAny _ _ (match LQ lo c 1 _ with | (lo,c)=>pure (lo,_,LR lo c 1)) _ _ s;rw[yO lo c n];show wpAny _ _ (pure _) _ _ s;rw[yP];exact Iv h
theorem yR(a:Array Ip)(i k:Nat):((Jj k).filterMap λ(m:Nat)=>a[((i:Int)+(m:Int)*1).toNat]?).toArray=((a.toList.drop i).take k).toArray:=by
 have e:(λ(m:Nat)=>a[((i:Int)+(m:Int)*1).toNat]?)=λm=>a[i+m]?:=by
  funext m;have:((i:Int)+(m:Int)*1).toNat=i+m:=by omega
  rw[this]
 rw[e];have:=pick_run a i k;rw[List.filterMap_map]at this;have b:(_ ∘ λx=>i+x)=λm=>a[i+m]?:=rfl;rw[b]at this;rw[this]
theorem cS{t d:Addr}{items:Array Ip}{j k:Ip}{lo a:Option Int}{Q:Ip->Ir->Prop}(c:Qb s.heap t items)(hs:s.heap.IsSliceOf d j k .none)(n:PB j lo)(o:PB k a)
 (p:¬(sIx items.size 0 lo=0/\sIx items.size items.size a=items.size))
 (h:Q (.ref s.heap.objs.size) { s with heap:=s.heap.push { cls:=.type "tuple",data:=.seq ((items.toList.drop (sIx items.size 0 lo)).take (sIx items.size items.size a - sIx items.size 0 lo)).toArray } })
 (r:items.size<=sizeLine):wpAny (model prog w) A (getItem (.ref t) (.ref d)) Q E s:=by
 have b:sizeOk (.seq ((items.toList.drop (sIx items.size 0 lo)).take (sIx items.size items.size a - sIx items.size 0 lo)).toArray):=by
  show((items.toList.drop _).take _).toArray.size<=sizeLine;rw[II,JI,JV,Ki];omega
 have v:sIx _ _ a<=items.size:=yN _ _ (Iw _) a;obtain⟨os,e,f,u⟩:=id hs;have g:s.TypeIs (.ref d) "slice":=⟨os,e,f⟩;unfold getItem
 try with_reducible refine Js ?_
 first | refine Il _ | skip
 refine Il (wpAny_sequenceKey c.typeIs rfl ?_);refine Il (Kz c.typeIs Lh
  (Kx Lh c.typeIs entry_tuple_getitem ?_ (args_tuple_getitem _ _)))
 show wpAny _ _ (Kv.Tuple.tupleItemsOf _>>=_) _ _ s;refine Il (tupleItemsOf_ c ?_);refine Il (Oi g ?_);refine Il (yQ hs n o ?_);have i:¬((((sIx items.size 0 lo):Int) == 0&&(1:Int) == 1&&(sIx items.size items.size a - sIx items.size 0 lo) == items.size)=true):=by
  intro q;rw[Jf,Jf]at q;have x:(_:Int)=0:=eq_of_beq q.1.1;have y:=eq_of_beq q.2;exact p ⟨by omega,by omega⟩
 show wpAny _ _ (if _=true then _ else _) _ _ s;rw[if_neg i,yR];first
  | exact Il (LH (Iv ⟨_,rfl,Iv h⟩) b)
  | exact Il _
  | exact Il _
  | exact Il _
end
end HT
namespace L2
open PySem PySem.Spec PyProof.Rows
abbrev TO:=St->Hp->(Option Int->Hp->Prop)->Prop
def PO(X:Cx)(e:Option Expr)(t:TO):Prop:=
 ∀(a:List (Addr×Obj))(s:Ir)(σ:St)(H:Hp)(Q:Option Int->Hp->Prop),Inv X a σ H s->t σ H Q->
  wpAny (model X.prog X.w) X.A (evalPart e X.env) (λu c=>∃o b,Inv X a σ b c/\PB u o/\Q o b) X.xe s
noncomputable def tNoPart:TO:=λ_ H Q=>Q none H
noncomputable def yS(t:TE):TO:=λa H Q=>t a H λx b=>∃i,x=.int i/\Q (some i) b
theorem S4{ns:List Int}:∀{a:List Ip},aF (ns.map V.int) a->LZ a ns:=by
 induction ns with
 | nil=>intro a r;cases r;exact .nil
 | cons n ns ih=>
   intro a r;cases r with
   | cons b c=>
     obtain⟨t,e⟩:=b;subst e;exact .cons n t (ih c)
section
variable{X:Cx}{e:Expr}{te:TE}{lo hi:Option Expr}{tl th:TO}{pos p2:Pos}
theorem yT:PO X none tNoPart:=by
 intro a s b H Q I h;exact Iv ⟨none,H,I,.none,h⟩
theorem yU(h:PE X e te):PO X (some e) (yS te):=by
 intro a s b H Q I c;refine aQ (h a s b H _ I c) λu l d=>?_;obtain⟨x,f,g,j,k⟩:=d;obtain⟨i,rfl,q⟩:=k;obtain⟨t,rfl⟩:=j;exact⟨some i,f,g,.int i t,q⟩
def iI(X:Cx)(r:V->Option Int->Option Int->Hp->VK->Prop):Prop:=
 ∀(a:List (Addr×Obj))(s:Ir)(σ:St)(H:Hp)(x:V)(v b c:Ip)(lo hi:Option Int)(d:Addr)(Q:VK),Inv X a σ H s->RelV x v->s.heap.IsSliceOf d b c .none->PB b lo->PB c hi->r x lo hi H Q->
  ∃T id,typeLookup (.type T) "__getitem__" = pure (some (.builtin id))/\s.TypeIs v T/\wpAny (model X.prog X.w) X.A (getItem v (.ref d)) (EP X a σ Q) X.xe s
theorem iI.or{r b:V->Option Int->Option Int->Hp->VK->Prop}(h:iI X r)(h':iI X b):iI X (λx lo hi H Q=>r x lo hi H Q\/b x lo hi H Q):=by
 intro a s c H x v d f lo hi g Q I i j k l q;rcases q with q | q
 .exact h a s c H x v d f lo hi g Q I i j k l q
 .exact h' a s c H x v d f lo hi g Q I i j k l q
noncomputable def yV(r:V->Option Int->Option Int->Hp->VK->Prop)(te:TE)(tl th:TO):TE:=λa H Q=>te a H λx b=>tl a b λl c=>th a c λu d=>r x l u d Q
theorem yW{r:V->Option Int->Option Int->Hp->VK->Prop}(n:iI X r)(he:PE X e te)(o:PO X lo tl)(p:PO X hi th):PE X (.Subscript e (.Slice lo hi none p2) pos) (yV r te tl th):=by
 intro a s c H Q I h;refine Subscript_ (aQ (he a s c H _ I h) λv w i=>?_);obtain⟨x,y,z,A,B⟩:=i;refine wpAny_Slice (aQ (o a w c y _ z B) λj C ⟨l,D,E,G,J⟩=>aQ (p a C c D _ E J) λk g i=>?_);obtain⟨u,m,L,N,O⟩:=i;refine Iv ?_;have U:Inv X a c m { g with heap:=g.heap.push { cls:=.type "slice",data:=.fields #[j,k,.none] } }:=L.kept λb ob q=>Im _ q;obtain⟨T,id,Y,ht,hg⟩:=n a { g with heap:=g.heap.push { cls:=.type "slice",data:=.fields #[j,k,.none] } } c m x v j k l u _ Q U A (Heap.IsSliceOf.new ..) G N O;exact tail_any ht Y hg rfl
noncomputable def iJ(a:List V)(lo hi:Option Int):List V:=(a.drop (HT.sIx a.length 0 lo)).take (HT.sIx a.length a.length hi - HT.sIx a.length 0 lo)
theorem rS(a:List V)(lo hi:Option Int):(iJ a lo hi).length<=a.length:=by
 unfold iJ;rw[JI,JV];omega
noncomputable def yX(K:Io):V->Option Int->Option Int->Hp->VK->Prop:=λx lo hi H Q=>∃a b,x=.ref a/\cB K H a b/\
 ¬(HT.sIx b.length 0 lo=0/\HT.sIx b.length b.length hi=b.length)/\∀p,H p=none->Q (.ref p) (aJ H p (.tup (iJ b lo hi)))
theorem yY:iI X (yX X.K):=by
 intro f s u H x v w y lo hi z Q I k l m n h;obtain⟨a,g,rfl,o,p,q⟩:=h;cases k;obtain⟨d,r,i,j⟩:=I.tuple o;have c:d.toArray.size=g.length:=by exact r.length.symm
 refine⟨"tuple",_,Lh.lookup,i.typeIs,?_⟩;refine HT.cS i l m n (by rw[c];exact p) ?_ (by rw[c];exact j);rw[c];refine⟨.ref _,_,I.laid (λb A q=>Im _ q) (Iw _) ?_,rfl,q _ (I.hok.fresh (Iw _))⟩;exact⟨Jm (rS g lo hi) j,_,(r.drop _).take _,Qb.new _ _⟩
noncomputable def rT(K:Io):R2:=λx y H Q=>∃a b d c,x=.ref a/\y=.ref b/\cB K H a d/\cB K H b c/\d≠[]/\d.length+c.length<=sizeLine/\
 (c=[]->Q (.ref a) H)/\(c≠[]->∀p,H p=none->Q (.ref p) (aJ H p (.tup (d++c))))
theorem aF.nil_iff{a:List V}{b:List Ip}(r:aF a b):b=[]↔a=[]:=by
 cases r with
 | _=>simp
theorem op_catT:cq X (binaryOp .Add) (rT X.K):=by
 intro f s A H x y v u Q I j k h;obtain⟨a,b,B,C,rfl,rfl,l,m,n,g,o,p⟩:=h;cases j;cases k;obtain⟨r,d,p1,_⟩:=I.tuple l;obtain⟨i,c,p2,_⟩:=I.tuple m;refine HT.gA p1 p2 (λz=>n (d.nil_iff.mp z)) (λz=>⟨.ref a,H,I,rfl,o (c.nil_iff.mp z)⟩) (λz=>?_) (by rw[<-d.length,<-c.length];exact g);refine⟨.ref _,_,I.laid (λb D q=>Im _ q) (Iw _) ?_,rfl,p (λw=>z (c.nil_iff.mpr w)) _ (I.hok.fresh (Iw _))⟩;exact⟨by rw[IU];exact g,_,d.append c,Qb.new _ _⟩
end
noncomputable def ixN(n:Nat)(i:Int):Option Nat:=if 0<=i then(if i<n then some i.toNat else none) else if -(n:Int)<=i then some (i+n).toNat else none
noncomputable def atI{a:Type}(b:List a)(i:Int):Option a:=(ixN b.length i).bind λj=>b[j]?
theorem yZ{n:Nat}{i:Int}{j:Nat}(h:ixN n i=some j):seqIndex? i n=some j/\j<n/\-(n:Int)<=i/\i<n:=by
 unfold ixN at h;by_cases b:0<=i
 .rw[if_pos b]at h;by_cases a:i<n
  .rw[if_pos a]at h;have e:_=j:=IK h;exact⟨by rw[seqIndex_of b a,e],by omega,by omega,a⟩
  .rw[if_neg a]at h;cases h
 .rw[if_neg b]at h;by_cases a : -(n:Int)<=i
  .rw[if_pos a]at h;have e:=IK h;exact⟨by rw[seqIndex_neg (by omega) a,e],by omega,a,by omega⟩
  .rw[if_neg a]at h;cases h
theorem rV{b:Type}{a:List b}{i:Int}{v:b}(h:atI a i=some v):∃j,seqIndex? i a.length=some j/\a[j]?=some v/\j<a.length/\-(a.length:Int)<=i/\i<a.length:=by
 unfold atI at h;cases e:ixN _ i with
 | none=>rw[e]at h;cases h
 | some j=>
   rw[e]at h;obtain⟨c,d,f,g⟩:=yZ e;exact⟨j,c,h,d,f,g⟩
def rW(b:Expr):Prop:=∀o i,subscripted b false o i=operate [o,i] (getItem o i)
def gZ(X:Cx)(r:R2):Prop:=
 ∀(c a:Expr)(b:List (Addr×Obj))(s:Ir)(σ:St)(H:Hp)(x y:V)(v u:Ip)(Q:VK),Inv X b σ H s->RelV x v->RelV y u->r x y H Q->
  subscripted a false v u=operate [v,u] (getItem v u)->wpAny (model X.prog X.w) X.A (subscriptTail c a v u) (EP X b σ Q) X.xe s
def rX(X:Cx)(id:String)(r:V->List V->Hp->VK->Prop):Prop:=
 ∀(a:List (Addr×Obj))(s:Ir)(σ:St)(H:Hp)(x:V)(b:List V)(v:Ip)(c:List Ip)(Q:VK),Inv X a σ H s->RelV x v->aF b c->r x b H Q->
  wpAny (model X.prog X.w) X.A (call (.builtin id) (v::c)) (EP X a σ Q) X.xe s
section
variable{X:Cx}{a b:Expr}{ta tb:TE}{pos:Pos}
theorem gZ.or{r f:R2}(h:gZ X r)(h':gZ X f):gZ X (λx y H Q=>r x y H Q\/f x y H Q):=by
 intro c d e s g H x y v u Q I i j q k;rcases q with q | q
 .exact h c d e s g H x y v u Q I i j q k
 .exact h' c d e s g H x y v u Q I i j q k
theorem y0{r:R2}(d:gZ X r)(e:PE X a ta)(f:PE X b tb)(hs:rW b):PE X (.Subscript a b pos) (jO r ta tb):=by
 intro c s g H Q I h;exact Subscript_ (nk e f I h λv u i x y j k l m q=>d a b c i g j x y v u Q k l m q (hs _ _))
noncomputable def rY(K:Io):R2:=λx y H Q=>∃p c i v,x=.ref p/\y=.int i/\bE K H p c/\atI c i=some v/\Q v H
noncomputable def rZ(K:Io):R2:=λx y H Q=>∃p c i v,x=.ref p/\y=.int i/\cB K H p c/\atI c i=some v/\Q v H
theorem ix_list:gZ X (rY X.K):=by
 intro e f c s B H x y v u Q I C D h n;obtain⟨p,T,i,z,rfl,rfl,E,G,q⟩:=h;cases C;obtain⟨t,rfl⟩:=D;obtain⟨g,r,k,U⟩:=I.list E;obtain⟨j,d,J,Y,L,N⟩:=rV G;obtain⟨w,o,l⟩:=r.get J;have O:=r.length;have hn:=nv;have fin:EP X c B Q w s:=⟨z,H,I,l,q⟩;by_cases A:0<=i
 .have m:i.toNat=j:=by
   rw[seqIndex_of A N]at d;exact IK d
  exact item_listR k.isList A (by omega) (by rw[m];simpa using o) fin n
 .have m:(i+(g.toArray.size)).toNat=j:=by
   rw[seqIndex_neg (by omega) L]at d;rw[II,<-O];exact IK d
  exact Oa (x:=w) k.isList.typeIs slot_list_getitem.lookup
   (wpAny_getItem_list_neg k.isList (by omega) (by rw[II]<;>omega) (by omega) (by rw[m];simpa using o) ⟨rfl,fin⟩) n
theorem za:gZ X (rZ X.K):=by
 intro d e c s k H x y v u Q I l m h n;obtain⟨p,J,i,z,rfl,rfl,o,A,q⟩:=h;cases l;obtain⟨t,rfl⟩:=m;obtain⟨B,r,g,L⟩:=I.tuple o;obtain⟨j,C,D,N,O,T⟩:=rV A;obtain⟨w,E,f⟩:=r.get D;have G:=r.length;have U:=nv;have fin:EP X c k Q w s:=⟨z,H,I,f,q⟩;exact Oa g.typeIs slot_tuple_getitem.lookup
  (getItem_tuple g (by omega) (by omega) (by rw[II,<-G];exact C) (by simpa using E) ⟨rfl,fin⟩) n
theorem zb(lo c:Option Int)(n:Nat):(sliceBounds lo c none n).1=((HT.sIx n 0 lo:Nat):Int)/\(sliceBounds lo c none n).2.1=((HT.sIx n n c:Nat):Int)/\(sliceBounds lo c none n).2.2=1:=by
 refine⟨?_,?_,rfl⟩
 .cases lo with
  | none=>rfl
  | some i=>
    simp only[sliceBounds,HT.sIx,Option.getD_none,show(1:Int) > 0 by decide,if_true];by_cases h:i<0
    .simp only[h,if_true]<;>omega
    .simp only[h,if_false]<;>omega
 .cases c with
  | none=>rfl
  | some i=>
    simp only[sliceBounds,HT.sIx,Option.getD_none,if_true];by_cases h:i<0
    .simp only[h,if_true]<;>omega
    .simp only[h,if_false]<;>omega
theorem zc(c:List Ip)(lo d:Option Int):slicePick c.toArray lo d none=((c.drop (HT.sIx c.length 0 lo)).take (HT.sIx c.length c.length d - HT.sIx c.length 0 lo)).toArray:=by
 obtain⟨e,f,g⟩:=zb lo d _;unfold slicePick;rw[e,f,g];simp only[sliceRange_one,pick_run]<;>rfl
noncomputable def zd(K:Io):V->Option Int->Option Int->Hp->VK->Prop:=λx lo d H Q=>∃a c,x=.ref a/\bE K H a c/\∀p,H p=none->Q (.ref p) (aJ H p (.lst (iJ c lo d)))
theorem sl_list:iI X (zd X.K):=by
 intro d s p H x v u w lo f y Q I g i j k h;obtain⟨a,l,rfl,m,q⟩:=h;cases g;obtain⟨n,r,e,o⟩:=I.list m;have c:=r.length;refine⟨"list",_,slot_list_getitem.lookup,e.isList.typeIs,?_⟩;refine wpAny_getItem_list_slice e.isList i j k .none nofun ?_ (by rw[II]<;>omega);rw[zc,<-c];refine⟨.ref _,_,I.laid (t':=_) (λb z q=>Im _ q) (Iw _) ?_,rfl,q _ (I.hok.fresh (Iw _))⟩;exact⟨Jm (rS l lo f) o,_,0,(r.drop _).take _,IB _ rfl⟩
noncomputable def lu:V->Bool
 | .non=>true
 | .bl _=>true
 | .int _=>true
 | .str _=>true
 | _=>false
noncomputable def nC:V->V->Bool
 | .non,.non=>true
 | .bl a,.bl b=>a == b
 | .bl a,.int b=>(if a then 1 else 0) == b
 | .int a,.bl b=>a == (if b then 1 else 0)
 | .int a,.int b=>a == b
 | .str a,.str b=>a == b
 | _,_=>false
theorem ze{A:Ji}{s:Ir}{y x:V}{u v:Ip}(e:RelV y u)(c:RelV x v)(g:lu y=true)(f:lu x=true):JL A s u v (nC y x):=by
 cases y with
 | non=>
   cases e;cases x with
   | non=>cases c;exact JL.same _
   | bl b=>cases c;exact JL.none_bool b
   | int b=>obtain⟨t,rfl⟩:=c;exact JL.none_int b t
   | str b=>obtain⟨t,rfl⟩:=c;exact JL.none_str b t
   | _=>exact absurd (show false=true from f) JK
 | bl a=>
   cases e;cases x with
   | non=>cases c;exact JL.bool_none a
   | bl b=>cases c;exact JL.bool_bool a b
   | int b=>obtain⟨t,rfl⟩:=c;exact JL.bool_int a b t
   | str b=>obtain⟨t,rfl⟩:=c;exact JL.bool_str a b t
   | _=>exact absurd (show false=true from f) JK
 | int a=>
   obtain⟨d,rfl⟩:=e;cases x with
   | non=>cases c;exact JL.int_none a d
   | bl b=>cases c;exact JL.int_bool a d b
   | int b=>obtain⟨t,rfl⟩:=c;exact JL.int_int a d b t
   | str b=>obtain⟨t,rfl⟩:=c;exact JL.int_str a d b t
   | _=>exact absurd (show false=true from f) JK
 | str a=>
   obtain⟨d,rfl⟩:=e;cases x with
   | non=>cases c;exact JL.str_none a d
   | bl b=>cases c;exact JL.str_bool a d b
   | int b=>obtain⟨t,rfl⟩:=c;exact JL.str_int a d b t
   | str b=>obtain⟨t,rfl⟩:=c;exact JL.str_str a d b t
   | _=>exact absurd (show false=true from f) JK
 | _=>exact absurd (show false=true from g) JK
theorem zf:bh X (.builtin "len") (λj H Q=>∃p e,j=[.ref p]/\(bE X.K H p e\/cB X.K H p e)/\Q (.int e.length) H):=by
 intro k s n H j o Q I r h;obtain⟨p,e,rfl,d,q⟩:=h;obtain⟨u,rfl,l⟩:=Y3 r;cases l;have v:=nv;rcases d with d | d
 .obtain⟨f,g,i,m⟩:=I.list d;have c:=g.length;exact Calls.call_len_list i.isList (by simp only[II]<;>omega) ⟨.int _,H,I.tok _,⟨s.toks+1,by rw[II,c]⟩,q⟩
 .obtain⟨f,g,i,m⟩:=I.tuple d;have c:=g.length;exact len_tuple i (by simp only[II]<;>omega) ⟨.int _,H,I.tok _,⟨s.toks+1,by rw[II,c]⟩,q⟩
theorem bh.or{f:Ip}{r e:List V->Hp->VK->Prop}(h:bh X f r)(h':bh X f e):bh X f (λd H Q=>r d H Q\/e d H Q):=by
 intro c s g H d i Q I j q;rcases q with q | q
 .exact h c s g H d i Q I j q
 .exact h' c s g H d i Q I j q
theorem zg:bh X (.type "list") (λB H Q=>∃p g,B=[.ref p]/\(bE X.K H p g\/cB X.K H p g)/\∀l,H l=none->Q (.ref l) (aJ H l (.lst g))):=by
 intro i s G H B L Q I r h;obtain⟨p,g,rfl,j,q⟩:=h;obtain⟨u,rfl,J⟩:=Y3 r;cases J;have fin:∀(c:List Ip),aF g c->_<=sizeLine->∀(h':Heap)(d),_->
  h'.get? _=some { cls:=.type "list",dict:=none,data:=.seq _ d,slots:=#[] }->EP X i G Q _ { s with heap:=h' }:=λc f k h' d m e=>
  ⟨.ref _,_,I.laid m (Iw _) (show aP _ X.w _ h' _ (.lst g)from⟨k,c,d,f,e⟩),rfl,q _ (I.hok.fresh (Iw _))⟩
 rcases j with j | j
 .obtain⟨c,f,y,k⟩:=I.list j;have v:=f.length;obtain⟨o,z,A,n,hd⟩:=y.isList;exact call_list_seq p (.inl rfl) z A hd (λh' d m e=>fin c f k h' d m e) (by simp only[II]<;>omega)
 .obtain⟨c,f,y,k⟩:=I.tuple j;have v:=f.length;obtain⟨o,z,A,n,hd⟩:=y;exact call_list_seq p (.inr rfl) z A hd (λh' d m e=>fin c f k h' d m e) (by simp only[II]<;>omega)
def sd(K:Io)(T:String)(x:V)(H:Hp):Prop:=match x with
 | .str _=>T="str"
 | .int _=>T="int"
 | .ref p=>(T="list"/\∃d,bE K H p d)\/(T="tuple"/\∃o,K.lookup p=some o/\o.cls=.type "tuple"/\o.dict=none)\/
  (T="dict"/\((∃c,H p=some (.dK c))\/∃c,H p=some (.dT c)))\/(T="set"/\∃S n,H p=some (.set S n))
 | _=>False
theorem zh{g:List (Addr×Obj)}{σ:St}{H:Hp}{s:Ir}{T:String}{x:V}{v:Ip}(I:Inv X g σ H s)(r:RelV x v)(h:sd X.K T x H) :
 s.TypeIs v T/\∀a,v=.ref a->∃l,s.heap.get? a=some l/\l.dict=none:=by
 cases x with
 | str z=>
   obtain⟨t,rfl⟩:=r;cases(show T="str" from h);exact⟨typeIs_str s z t,λ_ e=>nomatch e⟩
 | int i=>
   obtain⟨t,rfl⟩:=r;cases(show T="int" from h);exact⟨typeIs_int s i t,λ_ e=>nomatch e⟩
 | ref p=>
   cases r;rcases h with⟨rfl,y,q⟩ | ⟨rfl,o,d,u,hd⟩ | ⟨rfl,d⟩ | ⟨rfl,S,n,d⟩
   .obtain⟨w,_,m,_⟩:=I.list q;refine⟨m.isList.typeIs,λa e=>?_⟩;cases e;obtain⟨o,n,e,c,hd,_⟩:=m;exact⟨o,e,hd⟩
   .refine⟨⟨o,I.kIn p o d,u⟩,λa e=>?_⟩;cases e;exact⟨o,I.kIn _ o d,hd⟩
   .have z:∃o,s.heap.get? p=some o/\o.ExactDict:=by
     rcases d with⟨j,d⟩ | ⟨j,d⟩
     .obtain⟨_,_,_,_,o,_,_,e,f,_⟩:=I.hok p _ d;exact⟨o,e,f⟩
     .obtain⟨_,_,_,_,o,_,_,e,f,_⟩:=I.hok p _ d;exact⟨o,e,f⟩
    obtain⟨o,e,f⟩:=z;refine⟨⟨o,e,f.1⟩,λa k=>?_⟩;cases k;exact⟨o,e,f.2.1⟩
   .obtain⟨o,_,_,_,e,f,_⟩:=I.hok p _ d;refine⟨⟨o,e,f.1⟩,λa k=>?_⟩;cases k;exact⟨o,e,f.2.1⟩
 | _=>exact IY h
noncomputable def zi(K:Io)(T:String)(r:V->List V->Hp->VK->Prop)(e:TE)(t:TA):TE:=λc H Q=>e c H λx d=>sd K T x d/\t c d λf g=>r x f g Q
variable{o e:Expr}{es:List Expr}{to:TE}{t:TA}{name:Str}{apos cpos:Pos}{T id:String}{r:V->List V->Hp->VK->Prop}
theorem se(l:PlainAttrs T)(slot:Slot T name id)(f:typeOf (.builtin id)=pure (.type "method_descriptor"))(m:rX X id r)(n:PE X o to)(p:PA X (e::es) t)
 (hbase:attributeBase o name X.env (eval o X.env)=eval o X.env:=by rfl)
 (hfew:((backTo cpos (starEach (e::es) X.env)).all (λx=>!x.1)&&(backToKw cpos (keywordEach [] X.env)).all (λx=>x.1.isSome)
  &&decide ((e::es).length+([]:List MY).length+(if([]:List MY).isEmpty then 0 else 1)<30))=true:=by rfl)
 (hline:(apos.endLine == cpos.line)=true:=by rfl) (hs:starEach (e::es) X.env=(false,eval e X.env)::starEach es X.env:=by rfl) (d:(backTo cpos (starEach es X.env)).any (·.1)=false:=by rfl) :
 PE X (.Call (.Attribute o name apos) (e::es) [] cpos) (zi X.K T r to t):=by
 intro c s g H Q I h;refine wpAny_Call_method_late hbase hfew hline rfl (aQ (n c s g H _ I h) λv q u=>?_);obtain⟨x,w,i,j,y,z⟩:=u;obtain⟨A,B⟩:=zh i j y;refine⟨T,id,l,slot,f,A,B,?_⟩;have k:=p cpos c q g w _ i z;rw[hs]at k ⊢;refine Lo (by show(false||(backTo cpos _).any _)=false;rw[d]<;>rfl) (LM ?_);exact aQ k λC D ⟨E,G,J,L,N⟩=>m c D g G x E v C Q J j L N
/- xs.append(e),list.index on a module's tuple .. are rX facts of 06m -/
end
def sf(X:Cx)(id:String)(r:V->List V->Hp->VK->Prop):Prop:=
 ∀(a:List (Addr×Obj))(s:Ir)(σ:St)(H:Hp)(x:V)(b:List V)(v:Ip)(c:List Ip)(Q:VK),Inv X a σ H s->RelV x v->aF b c->r x b H Q->
  wpAny (model X.prog X.w) X.A (call (.builtin id) (v::c)) (EP X a σ Q) X.xe s
theorem aF.one:∀{x:V}{a:List Ip},aF [x] a->∃u,a=[u]/\RelV x u
 | _,_,.cons r .nil=>⟨_,rfl,r⟩
section
variable{X:Cx}{pins:List (Addr×Obj)}{σ:St}{H:Hp}{s:Ir}{l b:Addr}{xs ys zs:List V}
theorem Inv.lset{c a:List Ip}{n:Nat}{f:Array Ip->Array Ip}{t':Nat}(I:Inv X pins σ H s)(i:H l=some (.lst xs))
 (e:s.heap.get? l=some { cls:=.type "list",data:=.seq c.toArray n }) (j:f c.toArray=a.toArray) (k:aF ys a) (hz:ys.length<=sizeLine) :
 Inv X pins σ (aJ H l (.lst ys)) { s with heap:=s.heap.update l (KS f),toks:=t' }:=by
 have q:=PySem.IsL.update e f;rw[j]at q;refine I.write (by rw[i];exact trivial) (.inl rfl) (λp u m o=>(IW _ _ (JW m)).trans o) ⟨_,q⟩ ?_;exact⟨hz,a,_,k,q⟩
theorem Inv.lnew{a:List Ip}{t':Nat}(I:Inv X pins σ H s)(f:aF ys a)(hz:ys.length<=sizeLine) :
 Inv X pins σ (aJ H s.heap.objs.size (.lst ys)) { s with heap:=s.heap.push { cls:=.type "list",data:=.seq a.toArray },toks:=t' }:=
 I.laid (λ_ _ q=>Im _ q) (Iw _) ⟨hz,a,0,f,IB _ rfl⟩
theorem Inv.fresh(I:Inv X pins σ H s):H s.heap.objs.size=none:=I.hok.fresh (Iw _)
theorem Inv.lstM(I:Inv X pins σ H s)(d:H l=some (.lst xs)):xs.length<=sizeLine/\∃(a:List Ip)(n:Nat),aF xs a/\xs.length=a.length/\s.heap.get? l=some { cls:=.type "list",data:=.seq a.toArray n }:=by
 obtain⟨z,a,n,r,e⟩:=I.hok l _ d;exact⟨z,a,n,r,r.length,e⟩
theorem zj{n:Nat}(h:n<=sizeLine):NA n=false:=by
 exact decide_eq_false (by omega)
end
section
variable{X:Cx}
noncomputable def rAppend:V->List V->Hp->VK->Prop:=λx b H Q=>∃l a y,x=.ref l/\b=[y]/\H l=some (.lst a)/\a.length<sizeLine/\Q .non (aJ H l (.lst (a++[y])))
theorem zk:sf X "list.append" rAppend:=by
 intro a s i H x j v k Q I c d h;obtain⟨l,m,y,rfl,rfl,b,o,q⟩:=h;cases c;obtain⟨u,rfl,f⟩:=d.one;obtain⟨z,g,n,r,p,e⟩:=I.lstM b;refine call_meets F.slot_list_append ⟨_,e,rfl⟩ F.entry_list_append (F.args_list_append_2 _ _) (PySem.list_append l _ n u (by rw[II];omega)) ⟨e,?_⟩;refine⟨.non,_,I.lset b e (by simp) (r.append (.cons f .nil)) ?_,rfl,q⟩;rw[IU,List.length_singleton];omega
noncomputable def rExtend:V->List V->Hp->VK->Prop:=λx d H Q=>∃l b a c,x=.ref l/\d=[.ref b]/\H l=some (.lst a)/\H b=some (.lst c)/\a.length+c.length<=sizeLine/\Q .non (aJ H l (.lst (a++c)))
theorem zm:sf X "list.extend" rExtend:=by
 intro g s B H x C v D Q I j k h;obtain⟨l,b,E,G,rfl,rfl,i,m,J,q⟩:=h;cases j;obtain⟨u,rfl,o⟩:=k.one;cases o;obtain⟨z,c,n,r,L,e⟩:=I.lstM i;obtain⟨N,a,p,w,y,A⟩:=I.lstM m;have f:c.toArray.size+a.toArray.size<=sizeLine:=by rw[II,II];omega
 have d:¬(!c.toArray.isEmpty&&NA (c.toArray.size+a.toArray.size))=true:=by
  rw[zj f,Bool.and_false];exact JK
 refine call_meets F.slot_list_extend ⟨_,e,rfl⟩ F.entry_list_extend (F.args_list_extend_2 _ _)
  (AutoSeq1.list_extend_list_list_0 l _ n b _ p d (by omega) (by omega)) ⟨e,A,?_⟩
 refine⟨.non,_,I.lset i e (by simp) (r.append w) ?_,rfl,q⟩;rw[IU];omega
noncomputable def rCat:R2:=λx y H Q=>∃l b a c,x=.ref l/\y=.ref b/\H l=some (.lst a)/\H b=some (.lst c)/\a.length+c.length<=sizeLine/\∀p,H p=none->Q (.ref p) (aJ H p (.lst (a++c)))
theorem zo:cq X (binaryOp .Add) rCat:=by
 intro d s w H x y v u Q I f g h;obtain⟨l,b,A,B,rfl,rfl,i,j,C,q⟩:=h;cases f;cases g;obtain⟨z,c,n,r,D,e⟩:=I.lstM i;obtain⟨E,a,G,k,m,o⟩:=I.lstM j;refine PySem.P.add_list e o ?_ (by rw[II,II];omega);have p:c.toArray++a.toArray=(c++a).toArray:=by simp
 rw[p];exact⟨.ref _,_,I.lnew (r.append k) (by rw[IU];omega),rfl,q _ I.fresh⟩
end
end L2
namespace Att
open PySem PySem.W PySem.Calls PyProof.Rows
theorem zp{P:Params}{h:Heap}:∀(ns:List Int)(vs:List Ip),WellAll P h vs (ns.map WData.int)->LZ vs ns:=by
 intro ns;induction ns with
 | nil=>
   intro vs w;cases w;exact .nil
 | cons n ns ih=>
   intro vs w;cases w with
   | cons a b=>
     cases a;exact .cons _ _ (ih _ b)
theorem zt{l:OpenLaw}{n:Nat}(p:l.most=some n){P:Params}{h:Heap}{args:List WData}{b:List Ip}
 (c:l.row.toRowW.claim.pre args=true) (j:WellAll P h b args) :
 ∃a m ns,b=[IZ a]/\args=[WData.list (ns.map WData.int)]/\h.get? a=some { cls:=.type "list",data:=.seq m.toArray }/\LZ m ns/\ns.length<=n:=by
 have k:WShape.hasAll [] args [.list .int]=true:=(pre_splitW c).1;have s:l.pre.holds [] { args:=args }=true:=(pre_splitW c).2;obtain⟨d,r,rfl,u,v⟩:=hasAllW_cons k;obtain rfl:=hasAllW_nil v;obtain⟨B,rfl,w⟩:=hasW_list u;obtain⟨ns,rfl⟩:=items_int w;have e:ns.length<=n:=by
  have g:(WTm.not (.lt (.lit (.int (n:Int))) (.len (.arg 0)))).holds [] { args:=[.list (ns.map .int)] }=true:=by
   have g:=(holds_andW s).1;rw[p]at g;exact g
  have i:=condW_of g (w_not (w_lt w_lit (w_len_list (w_arg rfl))));rw[Iq]at i;refine Nat.le_of_not_lt λq=>?_;have x:(n:Int)<((ns.length)):=by omega
  first
   | (rw[decide_eq_true x]at i;exact absurd i (by simp))
   | (simp at i)
 cases j with
 | cons y z=>
   cases z;cases y with
   | list A f=>exact⟨_,_,ns,rfl,rfl,A,zp ns _ f,e⟩
theorem zu(l:OpenLaw)(args:List WData):l.row.toRowW.claim.post args (.bool true) args=true:=
 postW_of
  (show WShape.has [] _ .bool=true by first | rfl | decide | simp[WShape.has])
  (show(WTm.eq .res _).value [] { args:=args,res:=some _,after:=args }=some _ from w_eq_bool (w_res rfl) w_lit) rfl
theorem zv{l:OpenLaw}{n:Nat}{q:IS}{c:List Str}{XP:(Str->Option Ip)->Heap->Prop}{A:Jp->Heap->Prop}{d:DefRec}
 (I:l.most=some n) (s:d.params.defaults=[])
 (call:∀(w:Jp)(e b:Ir)(mg u:Str->Option Ip)(i:Addr)(o:Obj)(v cd g:Ip)(a:Addr)(vs:List Ip)(ns:List Int),
  Ground q c [] XP w e mg u b.heap->A w b.heap->
  b.heap.get? i=some o->o.data=.func (docDef d.name d.params d.body d.scope v cd g)->b.heap.CodeRec cd d.name->mg d.name=some (.ref i)->
  b.heap.get? a=some { cls:=.type "list",data:=.seq vs.toArray }->LZ vs ns->ns.length<=n->b.gens=#[]->
  codeAny (model l.prog w) callerA (.call (.ref i) ⟨[.ref a],[]⟩) (λr p=>r=.ok (.ret (.bool true))/\OldK b.heap p.heap/\p.os=b.os/\Oe p.gens) b) :
 WalkO q c XP A l.row.toRowW d [] (λf vs=>PySem.call f vs):=by
 intro w e b mg u G Y i o v cd g J kV L hd x C y N D E as j H O z Q;obtain rfl:J=.none:=Dflts.none C s;obtain rfl:kV=.none:=Dflts.noKw C;obtain⟨a,vs,ns,rfl,rfl,k,h,m⟩:=zt I j z;refine enter_call (KW (call w e b mg u i o v cd g a vs ns G Y L (fd_plain hd) x y k h m N) λr p T=>?_);obtain⟨rfl,U,h3,h4⟩:=T;exact⟨.inl ⟨.bool true,.bool true,[],rfl,λ_=>rfl,.bool true,zu l _,λ_=>⟨MR.nil,λ_ hm=>(nomatch hm)⟩⟩,U,h3,h4⟩
end Att
namespace L2
open PySem PySem.Spec PyProof.Rows
theorem nE:∀{vs:List Ip}{ns:List Int},LZ vs ns->aF (ns.map V.int) vs
 | _,_,.nil=>.nil
 | _,_,.cons n t h=>.cons ⟨t,rfl⟩ (nE h)
abbrev aS:CXT:=λ_ _ _ _ _ _=>False
abbrev E0:XK:=λ_ _ _=>False
theorem lx{X:Cx}:t9 aS X E0:=λ_ _ _ _ _ _ _ h=>h.elim
structure Fun(K:Io)(x qual:Str)(st:Stmt)(f:Addr)(fd:IQ):Prop where
 ex:∃(oc:Ip)(od:Option Addr)(kV doc pm:Ip)(an:Option Addr)(cdv ct:Ip)(osl:Array (Option Ip)),
  fd=KY x qual (O4 st) (G9 st) (C2 st) .none kV doc pm an cdv ct/\K.lookup f=some ⟨oc,od,.func fd,osl⟩/\Mz K cdv qual=true
 kp:KC K (.ref f)=true
section
variable{P:IS}{w:Jp}{K:Io}{mg:Str->Option Ip}{base:Heap}
theorem Fun.ok{x b:Str}{st:Stmt}{f:Addr}{j:IQ}{N ps:List Str}{k:Nat}{e:Sp}(F:Fun K x b st f j)(S:C6 N ps (C2 st))(len:∀vs H Q E,e vs H Q E->vs.length=ps.length)
 (d:∀(c:Ip)(A:Ji)(a:List Env)(s:Ir)(H:Hp)(vs:List V)(Q:VK)(E:XK),aL k (A.deeper (envOfC b (C2 st) s.heap.objs.size f c))->e vs H Q E->
  ∃t,cC (Z6 aS P w K mg base N b (C2 st) f c A a s H E).nox (G9 st) t/\t { nx:=λ_ l=>Q .non l,rt:=Q } (start N vs) H):ay P w K mg base aS (k+1) f j ps e:=by
 obtain⟨r,u,kV,m,v,y,c,z,n,rfl,lk,g⟩:=F.ex;refine lr lk g S len λA a s H vs Q E o i=>?_;obtain⟨t,h,q⟩:=d c A a s H vs Q E o i;exact⟨t,h.nox,q⟩
theorem Fun.binds{x a:Str}{st:Stmt}{f:Addr}{i:IQ}{ps:List Str}(F:Fun K x a st f i)
 (h:∀(kV b d:Ip)(e:Option Addr)(c ct:Ip)(g:List Ip),g.length=ps.length->bindArgs (KY x a (O4 st) (G9 st) (C2 st) .none kV b d e c ct) ⟨g,[]⟩=pure (ps.zip g)):Binds K i ps []:=by
 obtain⟨l,m,kV,b,d,e,c,ct,j,rfl,lk,k⟩:=F.ex;exact .all (h kV b d e c ct)
theorem zw{x a:Str}{st:Stmt}{f:Addr}{i:Ip}{j g:Option Addr}{e:Array (Option Ip)}{kV d h b ct:Ip}(l:K.lookup f=some ⟨i,j,.func (KY x a (O4 st) (G9 st) (C2 st) .none kV d h g b ct),e⟩)
 (c:Mz K b a=true) (k:KC K (.ref f)=true):Fun K x a st f (KY x a (O4 st) (G9 st) (C2 st) .none kV d h g b ct):=⟨⟨i,j,kV,d,h,g,b,ct,e,rfl,l,c⟩,k⟩
end
section
variable{X:Cx}
theorem pv(i:Nat){x:Str}{pos:Pos}(b:X.N[i]?=some x:=by rfl)(c:jh X.env.scope x:=by first | exact PQ rfl | exact OV (PQ rfl) | exact OV (OV rfl))(hd:(x == ("__debug__" : Str))=false:=by decide)
 (a:(x == ("__classdict__" : Str))=false:=by decide):PE X (.Name x pos) (fN i):=wX b c hd a
end
section
variable{κ:Type}[DecidableEq κ]
noncomputable def i7(a:List (κ×V))(k:κ):Option V:=(a.find? λb=>decide (b.1=k)).map (·.2)
noncomputable def Z7(a:List (κ×V))(k:κ)(v:V):List (κ×V):=
 if(a.any λb=>decide (b.1=k))=true then a.map (λb=>if b.1=k then(b.1,v) else b) else a++[(k,v)]
theorem y9{p:κ×V}{r:List (κ×V)}{k:κ}(e:p.1=k):i7 (p::r) k=some p.2:=by simp[i7,e]
theorem z7{p:κ×V}{r:List (κ×V)}{k:κ}(e:¬p.1=k):i7 (p::r) k=i7 r k:=by simp[i7,e]
theorem nF(k:κ):∀a:List (κ×V),(a.any λb=>decide (b.1=k))=(i7 a k).isSome
 | []=>rfl
 | p::r=>by
   rw[Lk];by_cases e:p.1=k
   .simp only[y9 e,decide_eq_true e,Bool.true_or,Option.isSome_some]
   .rw[z7 e,decide_eq_false e,Bool.false_or];exact nF k r
theorem j3(a:List (κ×V))(k:κ)(v:V):(Z7 a k v).length<=a.length+1:=by
 unfold Z7;split
 .simp
 .simp
theorem bV.isSome_eq{o:Option V}{u:Option Ip}(r:bV o u):o.isSome=u.isSome:=by
 cases o with
 | none=>cases u with
   | none=>rfl
   | some _=>exact(show False from r).elim
 | some _=>cases u with
   | none=>exact(show False from r).elim
   | some _=>rfl
theorem bV.getD{o:Option V}{u:Option Ip}{d:V}{d':Ip}(r:bV o u)(a:RelV d d'):RelV (o.getD d) (u.getD d'):=by
 cases o with
 | none=>cases u with
   | none=>exact a
   | some _=>exact(show False from r).elim
 | some _=>cases u with
   | none=>exact(show False from r).elim
   | some _=>exact r
theorem KV.val{a:List (κ×V)}{vs:List (κ×Ip)}(r:KV a vs)(k:κ):bV (i7 a k) (valueAt vs k):=by
 induction r with
 | nil=>exact KR
 | @cons p q i c h t ih=>
   obtain⟨f,g⟩:=h;by_cases e:p.1=k
   .have d:=f.symm.trans e;have b:valueAt (q::c) k=some q.2:=by simp[valueAt,d]
    rw[y9 e,b];exact g
   .have d:¬q.1=k:=λz=>e (f.trans z);have b:valueAt (q::c) k=valueAt c k:=by simp[valueAt,d]
    rw[z7 e,b];exact ih
theorem KV.any{a:List (κ×V)}{vs:List (κ×Ip)}(r:KV a vs)(k:κ):(a.any λb=>decide (b.1=k))=vs.any λb=>decide (b.1=k):=by
 induction r with
 | nil=>rfl
 | cons h t ih=>rw[Lk,Lk,ih,h.1]
theorem KV.repl{b:List (κ×V)}{vs:List (κ×Ip)}(r:KV b vs)(k:κ){y:V}{u:Ip}(d:RelV y u) :
 KV (b.map λa=>if a.1=k then(a.1,y) else a) (vs.map λa=>if a.1=k then(a.1,u) else a):=by
 induction r with
 | nil=>exact .nil
 | @cons p q g i h t ih=>
   rw[Jb,Jb];refine .cons ?_ ih;obtain⟨c,f⟩:=h;by_cases e:p.1=k
   .rw[if_pos e,if_pos (c.symm.trans e)];exact⟨c,d⟩
   .rw[if_neg e,if_neg (λz=>e (c.trans z))];exact⟨c,f⟩
theorem KV.put{a:List (κ×V)}{vs:List (κ×Ip)}(r:KV a vs)(k:κ){y:V}{u:Ip}(b:RelV y u):KV (Z7 a k y) (stored vs k u):=by
 unfold Z7 stored;rw[r.any k];by_cases e:(vs.any λc=>decide (c.1=k))=true
 .rw[if_pos e,if_pos e];exact r.repl k b
 .rw[if_neg e,if_neg e];exact Paired.snoc r ⟨rfl,b⟩
theorem KV.length{a:List (κ×V)}{vs:List (κ×Ip)}(r:KV a vs):a.length=vs.length:=Paired.length r
end
theorem ji{P:IS}{w:Jp}{k:Key}{u:Ip}(r:RelV (kV k) u):(P5 P w).is k u=true:=by
 cases k with
 | inl i=>obtain⟨t,e⟩:=(show ∃t,u=Nw i t from r);subst e;exact wM P w i t
 | inr x=>obtain⟨t,e⟩:=(show ∃t,u=OR x t from r);subst e;exact wN P w x t
theorem sg{P:IS}{w:Jp}:∀{a:List Key}{b:List Ip},aF (a.map kV) b->ItemsAre (P5 P w) a b
 | [],_,r=>by rw[Oj]at r;cases r;exact .nil
 | k::a,_,r=>by
   rw[Jb]at r;cases r with
   | cons h t=>exact .cons (ji h) (sg t)
abbrev KT(H:Hp):List (List Key×V)->List (List Key×Addr×Ip)->Prop:=Paired λp q=>p.1=q.1/\H q.2.1=some (.tup (p.1.map kV))/\RelV p.2 q.2.2
theorem KT.val{H:Hp}{a:List (List Key×V)}{f:List (List Key×Addr×Ip)}(r:KT H a f)(k:List Key):bV (i7 a k) ((atKey f k).map (·.2)):=by
 induction r with
 | nil=>exact KR
 | @cons p q j c h t ih=>
   obtain⟨g,_,i⟩:=h;by_cases e:p.1=k
   .have d:=g.symm.trans e;have b:atKey (q::c) k=some q.2:=by simp[atKey,d]
    rw[y9 e,b];exact i
   .have d:¬q.1=k:=λz=>e (g.trans z);have b:atKey (q::c) k=atKey c k:=by simp[atKey,d]
    rw[z7 e,b];exact ih
theorem KT.repl{H:Hp}{a:List (List Key×V)}{d:List (List Key×Addr×Ip)}(r:KT H a d)(k:List Key){y:V}{u:Ip}(g:RelV y u) :
 KT H (a.map λc=>if c.1=k then(c.1,y) else c) (d.map (putAt k u)):=by
 induction r with
 | nil=>exact .nil
 | @cons p q j l h t ih=>
   rw[Jb];refine .cons ?_ ih;obtain⟨b,f,i⟩:=h;unfold putAt;by_cases e:p.1=k
   .rw[if_pos e,if_pos (b.symm.trans e)];exact⟨b,f,g⟩
   .rw[if_neg e,if_neg (λz=>e (b.trans z))];exact⟨b,f,i⟩
theorem KT.put{H:Hp}{a:List (List Key×V)}{c:List (List Key×Addr×Ip)}(r:KT H a c)(k:List Key){b:Addr}{y:V}{u:Ip}(f:H b=some (.tup (k.map kV)))(d:RelV y u) :
 KT H (Z7 a k y) (storedH c k b u):=by
 have e:(a.any λg=>decide (g.1=k))=(atKey c k).isSome:=by
  rw[nF,(r.val k).isSome_eq,Mv]
 unfold Z7 storedH;rw[e];by_cases q:(atKey c k).isSome=true
 .rw[if_pos q,if_pos q];exact r.repl k d
 .rw[if_neg q,if_neg q];exact Paired.snoc r ⟨rfl,f,d⟩
theorem KT.keeps{H H':Hp}{a:List (List Key×V)}{c:List (List Key×Addr×Ip)}(r:KT H a c)(e:∀b d,H b=some (.tup d)->H' b=some (.tup d)):KT H' a c:=
 Paired.mapP r λ_ _ z=>⟨z.1,e _ _ z.2.1,z.2.2⟩
section
variable{P:IS}{w:Jp}{H:Hp}{h:Heap}{a:Addr}
theorem sh{u:HO}(ok:bU P w H h)(e:Rd H a u):aP P w H h a u:=e.ok ok
theorem iK{b:List (Key×V)}(ok:bU P w H h)(e:Rd H a (.dK b)):b.length<=sizeLine/\(a == sysModules)=false/\∃c,KV b c/\h.DictOf (P5 P w) a c:=
 show aP P w H h a _ from sh ok e
theorem zx{b:List (Key×V)}(ok:bU P w H h)(e:H a=some (.dK b)):b.length<=sizeLine/\(a == sysModules)=false/\∃c,KV b c/\h.DictOf (P5 P w) a c:=iK ok (.inl e)
theorem j4{b:List Key}(ok:bU P w H h)(e:H a=some (.tup (b.map kV))):(tupleKind (P5 P w)).is h b a:=by
 obtain⟨_,c,r,o,d,f,n,g⟩:=(show aP P w H h a _ from ok a _ e);exact⟨o,_,n,d,f,g,by simpa using sg r⟩
theorem iL{b:List (List Key×V)}(ok:bU P w H h)(e:Rd H a (.dT b)):b.length<=sizeLine/\(a == sysModules)=false/\
 ∃d,KT H b d/\h.DictOfH (tupleKind (P5 P w)) a d:=by
 obtain⟨z,y,d,r,o,g,i,j,k,n,s,u⟩:=(show aP P w H h a _ from sh ok e);refine⟨z,y,d,r,o,g,i,j,k,n,s,λx c=>?_,u⟩;have all:∀{l:List _}{m:List _},KT H l m->∀x∈m,(tupleKind (P5 P w)).is h x.1 x.2.1:=by
  intro l m q;induction q with
  | nil=>simp
  | @cons p q v A f t ih=>
    intro x c;rcases IF.mp c with e | c
    .subst e;exact j4 ok (by rw[<-f.1];exact f.2.1)
    .exact ih x c
 exact all r x c
theorem nG{b:List (List Key×V)}(ok:bU P w H h)(e:H a=some (.dT b)):b.length<=sizeLine/\(a == sysModules)=false/\
 ∃c,KT H b c/\h.DictOfH (tupleKind (P5 P w)) a c:=iL ok (.inl e)
end
def cM(H:Hp)(a:Addr)(y:V)(r:Option V):Prop:=
 (∃c k,Rd H a (.dK c)/\y=kV k/\r=i7 c k)\/∃c k b,Rd H a (.dT c)/\y=.ref b/\H b=some (.tup (k.map kV))/\r=i7 c k
def fO(H:Hp)(a:Addr)(y v:V)(H':Hp):Prop:=
 (∃c k,H a=some (.dK c)/\y=kV k/\c.length<sizeLine/\H'=aJ H a (.dK (Z7 c k v)))\/
 ∃c k b,H a=some (.dT c)/\y=.ref b/\H b=some (.tup (k.map kV))/\c.length<sizeLine/\H'=aJ H a (.dT (Z7 c k v))
theorem cM.t{H:Hp}{a b:Addr}{c:List (List Key×V)}{k:List Key}(e:H a=some (.dT c))(d:H b=some (.tup (k.map kV))):cM H a (.ref b) (i7 c k):=.inr ⟨c,k,b,.inl e,rfl,d,rfl⟩
theorem fO.t{H:Hp}{a b:Addr}{c:List (List Key×V)}{k:List Key}{v:V}(e:H a=some (.dT c))(d:H b=some (.tup (k.map kV)))(f:c.length<sizeLine) :
 fO H a (.ref b) v (aJ H a (.dT (Z7 c k v))):=.inr ⟨c,k,b,e,rfl,d,f,rfl⟩
section
variable{X:Cx}{pins:List (Addr×Obj)}{σ:St}{H:Hp}{s:Ir}{a:Addr}{y v:V}{u r:Ip}{o:Option V}{A:Ji}{E:Ip->Ir->Prop}
theorem Inv.big(I:Inv X pins σ H s):sysModules<s.heap.objs.size:=by
 have h:=(I.mod.glob.keeps I.bk).lt;exact Nm (by decide) h
theorem zy{Q:Ip->Ir->Prop}(C:A.units+1<cLine)(I:Inv X pins σ H s)(g:cM H a y (some v))(x:RelV y u)(h:∀f B,Inv X pins σ H B->RelV v f->Q f B) :
 wpAny (model X.prog X.w) A (getItem (.ref a) u) Q E s:=by
 rcases g with⟨i,k,e,j,l⟩ | ⟨i,k,b,e,j,D,l⟩
 .subst j;obtain⟨z,hd,J,c,m⟩:=iK I.hok e;obtain⟨f,n,d⟩:=bV.some_of (by rw[l];exact c.val k);exact wpAny_getItem_of (ji x) m.mapOf n (h f _ (I.tok _) d)
 .subst j;cases(show u=IZ b from x);obtain⟨z,hd,L,c,m⟩:=iL I.hok e;obtain⟨f,n,d⟩:=bV.some_of (by rw[l];exact c.val k);obtain⟨p,G,q⟩:=Jg.mp n;refine wpAny_getItem_heap (Kt C) (j4 I.hok D) m G ?_;rw[q];exact h f _ (I.tok _) d
theorem zA{Q:Ip->Ir->Prop}(n:A.units+1<cLine)(I:Inv X pins σ H s)(g:cM H a y o)(j:RelV y u)(h:∀m,Inv X pins σ H m->Q (.bool o.isSome) m) :
 wpAny (model X.prog X.w) A (compareOp .In u (.ref a)) Q E s:=by
 rcases g with⟨d,k,e,f,l⟩ | ⟨d,k,b,e,f,p,l⟩
 .subst f;obtain⟨z,hd,x,c,i⟩:=iK I.hok e;refine wpAny_in_of (ji j) hd i.mapOf ?_;rw[<-(c.val k).isSome_eq,<-l];exact h _ (I.tok _)
 .subst f;cases(show u=IZ b from j);obtain⟨z,hd,B,c,i⟩:=iL I.hok e;refine wpAny_in_heap (Kt n) (j4 I.hok p) hd i ?_;have q:=(c.val k).isSome_eq;rw[Mv]at q;rw[<-q,<-l];exact h _ (I.tok _)
theorem nH{h':Heap}{t':Nat}{ob:HO}(I:Inv X pins σ H s)(e:jM (H a))(hs:Kf a s.heap h')(he:∃q,h'.get? a=some q)(new:aP X.prog X.w (aJ H a ob) h' a ob) :
 Inv X pins σ (aJ H a ob) { s with heap:=h',toks:=t' }:=
 I.write e (.inl rfl) (λb q f z=>(hs.2 b f).trans z) he new
theorem zB{P:IS}{w:Jp}{H':Hp}{h':Heap}{b:List (Key×V)}{vs:List (Key×Ip)}(z:b.length<=sizeLine)(hd:(a == sysModules)=false)(c:KV b vs)(d:h'.DictOf (P5 P w) a vs) :
 aP P w H' h' a (.dK b):=⟨z,hd,vs,c,d⟩
theorem zC{H':Hp}{Q:Unit->Ir->Prop}(O:A.units+1<cLine)(I:Inv X pins σ H s)(g:fO H a y v H')(C:RelV y u)(D:RelV v r)(h:∀G,Inv X pins σ H' G->Q () G) :
 wpAny (model X.prog X.w) A (setItem (.ref a) u r) Q E s:=by
 rcases g with⟨d,k,e,m,l,n⟩ | ⟨d,k,b,e,m,J,l,n⟩
 .subst m n;obtain⟨z,hd,T,f,p⟩:=zx I.hok e;have U:T.length<=sizeLine:=by rw[<-f.length];exact z
  have x:(Z7 d k v).length<=sizeLine:=by have:=j3 d k v;omega
  refine wpAny_setItem_pairs (ji C) p λL i B=>h _ ?_;have Y:∃q,L.get? a=some q:=let⟨q,_,_,j,_⟩:=i;⟨q,j⟩;exact nH I (by rw[e];exact KR) B Y (zB x hd (f.put k D) i)
 .subst m n;cases(show u=IZ b from C);obtain⟨z,hd,xs,f,p⟩:=nG I.hok e;have U:xs.length<=sizeLine:=by rw[<-Paired.length f];exact z
  have x:(Z7 d k v).length<=sizeLine:=by have:=j3 d k v;omega
  refine wpAny_setItem_heap (Kt O) (j4 I.hok J) p λL i B=>h _ ?_;obtain⟨q,es,ep,j,h2,h3,h4,_,h5⟩:=i;refine nH I (by rw[e];exact KR) B ⟨q,j⟩ ⟨x,hd,_,(f.put k J D).keeps λc ys N=>?_,q,es,ep,j,h2,h3,h4,h5⟩;rw[ak (qR N e nofun)];exact N
end
def nJ(i:Expr):Prop:=∀ov a,subscripted i false ov a=operate [ov,a] (getItem ov a)
theorem zD{prog:IS}{w:Jp}{A:Ji}{E:Ip->Ir->Prop}{s:Ir}{g:Env}{b a:Expr}{pos:Pos}{T id:String}{Q:Ip->Ir->Prop}
 (l:typeLookup (.type T) "__getitem__" = pure (some (.builtin id))) (hs:nJ a)
 (h:wpAny (model prog w) A (eval b g) (λo e=>wpAny (model prog w) A (eval a g) (λi c=>c.TypeIs o T/\wpAny (model prog w) A (getItem o i) Q E c) E e) E s) :
 wpAny (model prog w) A (eval (.Subscript b a pos) g) Q E s:=by
 refine Subscript_ (Jh h (λo e j=>Jh j (λi c d=>?_) λ_ _ x=>x) λ_ _ x=>x);obtain⟨m,d⟩:=d;refine Il ?_;refine Il (Ol m l ?_);have fin:wpAny (model prog w) A (subscripted a false o i) (λr f=>wpAny (model prog w) A (letTemporaryGo b o r>>=λ_=>pure r) Q E f) E c:=by
  rw[hs o i];exact wpAny_operating (Jh d (λr f k=>Il (wpAny_letTemporaryGo (Iv k))) λ_ _ x=>x)
 first
  | exact Iv (Il fin)
  | exact Il _
  | exact Il fin
theorem zE{X:Cx}{c:List (Addr×Obj)}{σ:St}{H:Hp}{s:Ir}{a:Addr}{y:V}{o:Option V}(I:Inv X c σ H s)(g:cM H a y o):s.TypeIs (.ref a) "dict":=by
 rcases g with⟨d,k,e,_,_⟩ | ⟨d,k,b,e,_,_,_⟩
 .obtain⟨_,_,h,_,f⟩:=iK I.hok e;exact f.typeIs
 .obtain⟨_,_,i,_,f⟩:=iL I.hok e;exact f.typeIs
noncomputable def zF(d e:TE):TE:=λb H Q=>d b H λx f=>e b f λy c=>∃a v,x=.ref a/\cM c a y (some v)/\Q v c
noncomputable def si(d e:TE):TE:=λb H Q=>d b H λy f=>e b f λx c=>∃a o,x=.ref a/\cM c a y o/\Q (.bl o.isSome) c
noncomputable def zG(d e f:TE):TS:=λD b H=>f b H λv g=>d b g λx h=>e b h λy i=>∃a c,x=.ref a/\fO i a y v c/\D.nx b c
section
variable{X:Cx}{o i e value:Expr}{pos pos' tpos:Pos}{td ty tv:TE}
theorem zH(j:X.A.units+1<cLine)(k:PE X o td)(l:PE X i ty)(hs:nJ i):PE X (.Subscript o i pos) (zF td ty):=by
 intro b s d H Q I h;refine zD PySem.F.slot_dict_getitem.lookup hs (aQ (k b s d H _ I h) λu m ⟨x,n,p,q,r⟩=>aQ (l b m d n _ p r) λG J w=>?_);obtain⟨y,z,f,B,a,v,C,g,D⟩:=w;subst C;obtain rfl:u=IZ a:=q;exact⟨zE f g,zy j f g B λL N E c=>⟨v,z,E,c,D⟩⟩
theorem sj(d:X.A.units+1<cLine)(f:PE X i ty)(j:PE X o td):PC X .In i o (si ty td):=by
 intro b s c H Q I h;refine aQ (f b s c H _ I h) λD k ⟨y,l,m,n,p⟩=>aQ (j b k c l _ m p) λu E q=>?_;obtain⟨x,r,v,w,a,ov,z,g,B⟩:=q;subst z;obtain rfl:u=IZ a:=w;exact zA d v g n λG C=>⟨.bl _,r,C,rfl,B⟩
theorem zI(d:X.A.units+1<cLine)(f:PE X o td)(j:PE X i ty)(k:PE X value tv)(hs:swapsWith value (some (.Subscript o i pos')) pos.line X.env=pure false) :
 PS X (.Assign [.Subscript o i pos'] value pos) (zG td ty tv):=by
 intro b s c H D I h;refine wpAny_Assign_Subscript (aQ (k b s c H _ I h) λr l ⟨v,m,n,p,q⟩=>aQ (f b l c m _ n q) λu w ⟨x,z,B,C,E⟩=>aQ (j b w c z _ B E) λU Y G=>?_) hs;obtain⟨y,H3,J,L,a,N,O,g,Q⟩:=G;subst O;obtain rfl:u=IZ a:=C;exact zC d J g L p λs4 T=>⟨c,N,T,Q⟩
end
theorem zJ{P:IS}{w:Jp}{H:Hp}(h:Heap)(b:sysModules<h.objs.size):aP P w H (h.push { cls:=.type "dict",data:=.dict #[] }) h.objs.size (.dT []):=
 ⟨Lx _,beq_eq_false_iff_ne.mpr (JW (IH b)),[],.nil,_,#[],0,IB _ rfl,⟨rfl,rfl,rfl⟩,rfl,rfl,MA⟩
noncomputable def tDNewT:TE:=λ_ H Q=>∀p,H p=none->Q (.ref p) (aJ H p (.dT []))
section
variable{X:Cx}{pos:Pos}
theorem zK:PE X (.Dict [] [] pos) tDNewT:=λa s b H Q I h=>
 wpAny_Dict_empty ⟨.ref _,_,I.laid (λ_ _ q=>Im _ q) (Iw _) (zJ _ I.big),rfl,h _ (I.hok.fresh (Iw _))⟩
end
structure M1(X:Cx)(o:Expr)(m:Str)(apos:Pos)(e:Expr)(cpos:Pos):Prop where
 base:attributeBase o m X.env (eval o X.env)=eval o X.env
 few:((backTo cpos (starEach [e] X.env)).all (λx=>!x.1)&&(backToKw cpos (keywordEach [] X.env)).all (λx=>x.1.isSome)
  &&decide (([e]:List Expr).length+([]:List MY).length+(if([]:List MY).isEmpty then 0 else 1)<30))=true
 line:(apos.endLine == cpos.line)=true
 trees:backTo cpos (starEach [e] X.env)=[(false,eval e X.env)]
structure M2(X:Cx)(o:Expr)(m:Str)(apos:Pos)(e f:Expr)(cpos:Pos):Prop where
 base:attributeBase o m X.env (eval o X.env)=eval o X.env
 few:((backTo cpos (starEach [e,f] X.env)).all (λx=>!x.1)&&(backToKw cpos (keywordEach [] X.env)).all (λx=>x.1.isSome)
  &&decide (([e,f]:List Expr).length+([]:List MY).length+(if([]:List MY).isEmpty then 0 else 1)<30))=true
 line:(apos.endLine == cpos.line)=true
 trees:backTo cpos (starEach [e,f] X.env)=[(false,eval e X.env),(false,eval f X.env)]
def ly(H:Hp)(a:Addr):Prop:=(∃b,Rd H a (.dK b))\/∃b,Rd H a (.dT b)
theorem nK{X:Cx}{f:List (Addr×Obj)}{σ:St}{H:Hp}{s:Ir}{a:Addr}(I:Inv X f σ H s)(d:ly H a) :
 s.TypeIs (.ref a) "dict"/\(∀b,IZ a=.ref b->∃c,s.heap.get? b=some c/\c.dict=none)/\(a == sysModules)=false:=by
 rcases d with⟨h,e⟩ | ⟨h,e⟩
 .obtain⟨_,hd,k,_,g⟩:=iK I.hok e;refine⟨g.typeIs,λb q=>?_,hd⟩;cases q;obtain⟨c,_,_,i,j,_⟩:=g;exact⟨c,i,j.2.1⟩
 .obtain⟨_,hd,l,_,g⟩:=iL I.hok e;refine⟨g.typeIs,λb q=>?_,hd⟩;cases q;obtain⟨c,_,_,i,j,_⟩:=g;exact⟨c,i,j.2.1⟩
section
variable{X:Cx}{pins:List (Addr×Obj)}{σ:St}{H:Hp}{s:Ir}{a:Addr}{y d:V}{u r:Ip}{o:Option V}{A:Ji}{E:Ip->Ir->Prop}
theorem zL{Q:Ip->Ir->Prop}(q:A.units+1<cLine)(I:Inv X pins σ H s)(g:cM H a y o)(m:RelV y u)(h:∀n p,Inv X pins σ H p->RelV (o.getD .non) n->Q n p) :
 wpAny (model X.prog X.w) A (call (.builtin "dict.get") [.ref a,u]) Q E s:=by
 rcases g with⟨i,k,e,j,l⟩ | ⟨i,k,b,e,j,v,l⟩
 .subst j;obtain⟨z,hd,B,c,f⟩:=iK I.hok e;refine Om Km f.typeIs Lp (NK _ _) (meets_dict_get _ a (ji m) hd) ⟨_,f.mapOf,h _ _ (I.tok _) ?_⟩;rw[l];exact(c.val k).getD rfl
 .subst j;cases(show u=IZ b from m);obtain⟨z,hd,x,c,f⟩:=iL I.hok e;refine Om Km f.typeIs Lp (NK _ _) (meetsH_dict_get _ a b hd) ⟨Kt q,k,x,j4 I.hok v,f,h _ _ (I.tok _) ?_⟩;rw[l];exact(c.val k).getD rfl
theorem zM{Q:Ip->Ir->Prop}(v:A.units+1<cLine)(I:Inv X pins σ H s)(g:cM H a y o)(m:RelV y u)(n:RelV d r)(h:∀p q,Inv X pins σ H q->RelV (o.getD d) p->Q p q) :
 wpAny (model X.prog X.w) A (call (.builtin "dict.get") [.ref a,u,r]) Q E s:=by
 rcases g with⟨i,k,e,j,l⟩ | ⟨i,k,b,e,j,x,l⟩
 .subst j;obtain⟨z,hd,C,c,f⟩:=iK I.hok e;refine Om Km f.typeIs Lp (NL _ _ _) (meets_dict_get_default _ a (ji m) hd r) ⟨_,f.mapOf,h _ _ (I.tok _) ?_⟩;rw[l];exact(c.val k).getD n
 .subst j;cases(show u=IZ b from m);obtain⟨z,hd,B,c,f⟩:=iL I.hok e;refine Om Km f.typeIs Lp (NL _ _ _) (meetsH_dict_get_default _ a b hd r) ⟨Kt v,k,B,j4 I.hok x,f,h _ _ (I.tok _) ?_⟩;rw[l];exact(c.val k).getD n
end
noncomputable def zN(e f:TE):TE:=λb H Q=>e b H λx c=>∃a,x=.ref a/\ly c a/\f b c λy d=>∃o,cM d a y o/\Q (o.getD .non) d
noncomputable def zO(e f g:TE):TE:=λb H Q=>e b H λx c=>∃a,x=.ref a/\ly c a/\f b c λy h=>g b h λz d=>∃o,cM d a y o/\Q (o.getD z) d
section
variable{X:Cx}{o e f:Expr}{apos cpos:Pos}{td ty tx:TE}
theorem zP(k:X.A.units+1<cLine)(l:PE X o td)(he:PE X e ty)(m:M1 X o "get" apos e cpos):PE X (.Call (.Attribute o "get" apos) [e] [] cpos) (zN td ty):=by
 intro b s i H Q I h;refine NB m.base m.few m.line Mh Km Oo (aQ (l b s i H _ I h) λu n p=>?_);obtain⟨x,q,j,r,a,v,d,w⟩:=p;subst v;obtain rfl:u=IZ a:=r;obtain⟨z,B,_⟩:=nK j d;refine⟨z,B,?_⟩;rw[m.trees];refine Lo rfl (LM (Kr (aQ (he b n i q _ j w) λL N ⟨y,C,D,E,ov,g,G⟩=>LG ?_)));exact zL k D g E λO T J c=>⟨_,C,J,c,G⟩
theorem zQ(k:X.A.units+1<cLine)(l:PE X o td)(he:PE X e ty)(n:PE X f tx)(m:M2 X o "get" apos e f cpos):PE X (.Call (.Attribute o "get" apos) [e,f] [] cpos) (zO td ty tx):=by
 intro b s c H Q I h;refine NB m.base m.few m.line Mh Km Oo (aQ (l b s c H _ I h) λu p q=>?_);obtain⟨x,r,j,v,a,w,d,B⟩:=q;subst w;obtain rfl:u=IZ a:=v;obtain⟨C,D,_⟩:=nK j d;refine⟨C,D,?_⟩;rw[m.trees];refine Lo rfl (LM (Kr (aQ (he b p c r _ j B) λiv E ⟨y,G,J,L,N⟩=>
  Kr (aQ (n b E c G _ J N) λfv s3 ⟨z,O,T,U,ov,g,Y⟩=>LG ?_))))
 exact zM k T g L U λw' s4 I4 i=>⟨_,O,I4,i,Y⟩
end
end L2
set_option maxRecDepth 100000
namespace Ws
noncomputable section
inductive PO where
 | lst (l:List PV)
 | ro (l:List PV)
 | dI (kvs:List (Int×PV))
 | ins (c:Nat) (fs:List (Nat×PV))
   | dT (kvs:List (List Int×PV))
   | exc (c:Nat) (v:PV)
abbrev PHp:=List PO
inductive R (α:Type) where
 | ok (a:α) (A:PHp)
 | ex (c:Nat) (v:PV) (A:PHp)
 | no
abbrev M(a:Type):=PHp->R a
@[simp] noncomputable def ret{b:Type}(a:b):M b:=λA=>.ok a A
@[simp] noncomputable def stuck{a:Type}:M a:=λ_=>.no
@[simp] noncomputable def ao{d e:Type}(m:M d)(f:d->M e):M e:=λA=>match m A with
  | .ok a b=>f a b
  | .ex c v b=>.ex c v b
  | .no=>.no
noncomputable def G1{a:Type}(P:Prop)(m:M a):M a:=@ite _ P (Ll P) m stuck
theorem Q3{a:Type}{P:Prop}{m:M a}(h:P):G1 P m=m:=if_pos h
@[simp] theorem HR{a:Type}{m:M a}:G1 True m=m:=if_pos trivial
theorem C7{b:Type}{P:Prop}{m:M b}{A A':PHp}{a:b}(h:G1 P m A=.ok a A'):P/\m A=.ok a A':=by
 by_cases p:P
 .rw[Q3 p]at h;exact⟨p,h⟩
 .rw[show G1 P m=stuck from if_neg p]at h;cases h
theorem aB{b c:Type}{m:M b}{f:b->M c}{A A':PHp}{a:b}(h:m A=.ok a A'):ao m f A=f a A':=by simp_all
inductive sk {α β:Type} (m:M α) (f:α->M β) (A A':PHp) (b:β):Prop
 | mk (a:α) (A1:PHp) (h0:m A=.ok a A1) (h1:f a A1=.ok b A'):sk m f A A' b
theorem B0{d g:Type}{m:M d}{f:d->M g}{A A':PHp}{b:g}(h:ao m f A=.ok b A'):sk m f A A' b:=by
 unfold ao at h;cases e:m A with
 | ok a i=>rw[e]at h;exact⟨a,i,e,h⟩
 | ex c v i=>simp_all
 | no=>simp_all
abbrev PSt:=List (Option PV)
abbrev ED:=PSt->M PV
abbrev TD:=PSt->M Bool
abbrev AD:=PSt->M (List PV)
abbrev Fun:=List PV->M PV
inductive Fl where
 | nx (σ:PSt) | rt (v:PV) | bk (σ:PSt) | ct (σ:PSt)
abbrev SD:=PSt->M Fl
abbrev GD:=PV->PSt->M PSt
@[irreducible] noncomputable def LIM:Nat:=100000
theorem aE{n:Nat}(h:n<=10000):n<=LIM:=by unfold LIM;omega
theorem j5{n:Nat}(h:n<10000):n<LIM:=by unfold LIM;omega
@[simp] theorem HS:0<=LIM:=Lx _
@[simp] theorem HU:1<=LIM:=aE (by omega)
@[simp] theorem zR:2<=LIM:=aE (by omega)
@[simp] theorem HV:3<=LIM:=aE (by omega)
@[simp] theorem HW:4<=LIM:=aE (by omega)
mutual
noncomputable def bI:PV->PV->Bool
 | .non,.non=>true
 | .bl a,.bl b=>a == b
 | .int i,.int j=>decide (i=j)
 | .str x,.str y=>decide (x=y)
 | .tup l,.tup m=>eqvs l m
 | _,_=>false
noncomputable def eqvs:List PV->List PV->Bool
 | [],[]=>true
 | x::a,y::b=>bI x y&&eqvs a b
 | _,_=>false
end
mutual
noncomputable def Z1:PV->Bool
 | .non=>true
 | .int _=>true
 | .str _=>true
 | .tup l=>nices l
 | _=>false
noncomputable def nices:List PV->Bool
 | []=>true
 | x::a=>Z1 x&&nices a
end
noncomputable def N4(l:List PV):Bool:=l.all plain
@[simp] theorem HX(i:Int):plain (.int i)=true:=rfl
@[simp] theorem HY:plain .non=true:=rfl
@[simp] noncomputable def alloc(o:PO):M PV:=λA=>.ok (.ref A.length) (A++[o])
@[simp] noncomputable def G6(n:Nat):M (List PV):=λA=>match A[n]? with
  | some (.lst l)=>.ok l A
  | some (.ro l)=>.ok l A
  | _=>.no
@[simp] noncomputable def T3(n:Nat):M (List PV):=λA=>match A[n]? with
  | some (.lst l)=>.ok l A
  | _=>.no
@[simp] noncomputable def put(n:Nat)(o:PO):M Unit:=λA=>.ok () (A.set n o)
@[simp] noncomputable def z9(n:Nat):M (Nat×List (Nat×PV)):=λA=>match A[n]? with
  | some (.ins c fs)=>.ok (c,fs) A
  | _=>.no
@[simp] noncomputable def P6(v:PV):M (List PV):=match v with
  | .ref n=>G6 n
  | .tup l=>ret l
  | _=>stuck
@[simp] noncomputable def aa(i:Nat):ED:=λa=>match a[i]? with
  | some (some v)=>ret v
  | _=>stuck
@[simp] noncomputable def eK(v:PV):ED:=λ_=>ret v
@[simp] noncomputable def aNil:AD:=λ_=>ret []
@[simp] noncomputable def ag(e:ED)(b:AD):AD:=λa=>ao (e a) λx=>ao (b a) λc=>ret (x::c)
@[simp] noncomputable def U3(b:AD):ED:=λc=>ao (b c) λa=>G1 (a.length<=LIM) (ret (.tup a))
@[simp] noncomputable def bL(b:AD):ED:=λc=>ao (b c) λa=>G1 (a.length<=LIM) (alloc (.lst a))
abbrev OD:=PV->PV->M PV
@[simp] noncomputable def aq(f:OD)(a b:ED):ED:=λc=>ao (a c) λx=>ao (b c) λy=>f x y
@[simp] noncomputable def U4:OD
  | .int i,.int j=>ret (.int (i+j))
  | .tup l,.tup m=>G1 (l≠[]/\l.length+m.length<=LIM) (ret (.tup (l++m)))
  | .ref n,.ref k=>ao (T3 n) λl=>ao (T3 k) λm=>G1 (l.length+m.length<=LIM) (alloc (.lst (l++m)))
  | _,_=>stuck
@[simp] noncomputable def jR:OD
  | .int i,.int j=>ret (.int (i - j))
  | _,_=>stuck
@[simp] noncomputable def jS:OD
  | .int i,.int j=>G1 ((-(2 ^ 64)<i/\i<2 ^ 64)\/(-(2 ^ 64)<j/\j<2 ^ 64)) (ret (.int (i*j)))
  | _,_=>stuck
@[simp] noncomputable def dF:OD
  | .int i,.int j=>G1 (0<j) (ret (.int (i%j)))
  | _,_=>stuck
@[simp] noncomputable def nL:OD
  | .int i,.int j=>G1 (0<j/\j<1073741824) (ret (.int (i / j)))
  | _,_=>stuck
@[simp] noncomputable def fR:OD
  | .int i,.int j=>ret (.bl (decide (i<j)))
  | _,_=>stuck
@[simp] noncomputable def iM:OD
  | .int i,.int j=>ret (.bl (decide (i<=j)))
  | _,_=>stuck
@[simp] noncomputable def nM:OD
  | .int i,.int j=>ret (.bl (decide (j<i)))
  | _,_=>stuck
@[simp] noncomputable def sm:OD
  | .int i,.int j=>ret (.bl (decide (j<=i)))
  | _,_=>stuck
@[simp] noncomputable def so:PV->PV->Bool
  | .bl _,.bl _=>true
  | _,_=>false
@[simp] noncomputable def nN(x y:PV):M Bool:=match x,y with
  | .ref n,.ref k=>ao (G6 n) λl=>ao (G6 k) λm=>G1 (N4 l=true/\N4 m=true) (ret (eqvs l m))
  | x,y=>G1 (so x y=true\/(plain x=true/\plain y=true)) (ret (bI x y))
@[simp] noncomputable def cX:OD:=λx y=>ao (nN x y) λb=>ret (.bl b)
@[simp] noncomputable def dE:OD:=λx y=>ao (nN x y) λb=>ret (.bl (!b))
noncomputable def fb(x:PV)(l:List PV):Bool:=l.any λy=>bI y x
@[simp] noncomputable def fU:OD:=λx y=>ao (P6 y) λl=>G1 (plain x=true/\N4 l=true) (ret (.bl (fb x l)))
@[simp] noncomputable def jT:OD:=λx y=>ao (P6 y) λl=>G1 (plain x=true/\N4 l=true) (ret (.bl (!fb x l)))
@[simp] noncomputable def jU:PV->Bool
  | .non=>true
  | _=>false
@[simp] noncomputable def hJ(a:ED):ED:=λb=>ao (a b) λx=>ret (.bl (jU x))
@[simp] noncomputable def lz(a:ED):ED:=λb=>ao (a b) λx=>ret (.bl (!jU x))
@[simp] noncomputable def jj(f g:OD)(a b c:ED):ED:=λd=>ao (a d) λx=>ao (b d) λy=>ao (f x y) λz=>match z with
  | .bl true=>ao (c d) λu=>g y u
  | .bl false=>ret (.bl false)
  | _=>stuck
@[simp] noncomputable def jV(v:PV):M Bool:=match v with
  | .bl b=>ret b
  | _=>stuck
@[simp] noncomputable def E4(e:ED):TD:=λa=>ao (e a) jV
@[simp] noncomputable def tAnd(a b:TD):TD:=λd=>ao (a d) λc=>if c=true then b d else ret false
@[simp] noncomputable def tOr(a b:TD):TD:=λd=>ao (a d) λc=>if c=true then ret true else b d
@[simp] noncomputable def tNot(a:TD):TD:=λb=>ao (a b) λc=>ret (!c)
@[simp] noncomputable def j6(a b:ED):ED:=λd=>ao (ao (a d) jV) λc=>if c=true then b d else ret (.bl false)
@[simp] noncomputable def nO(a b:ED):ED:=λd=>ao (ao (a d) jV) λc=>if c=true then ret (.bl true) else b d
@[simp] noncomputable def nQ(a:ED):ED:=λb=>ao (ao (a b) jV) λc=>ret (.bl (!c))
@[simp] noncomputable def lA(t:TD)(a b:ED):ED:=λd=>ao (t d) λc=>if c=true then a d else b d
noncomputable def ixN(n:Nat)(i:Int):Option Nat:=if 0<=i then(if i<n then some i.toNat else none) else if -(n:Int)<=i then some (i+n).toNat else none
noncomputable def atI{a:Type}(b:List a)(i:Int):Option a:=(ixN b.length i).bind λj=>b[j]?
@[simp] noncomputable def bW:OD:=λx y=>match y with
  | .int i=>ao (P6 x) λl=>match atI l i with
    | some v=>ret v
    | none=>stuck
  | _=>stuck
noncomputable def Z8(n d:Nat):Option Int->Nat
 | none=>d
 | some v=>if v<0 then(max (v+n) 0).toNat else(min v n).toNat
noncomputable def ek{b:Type}(a:List b)(lo c:Option Int):List b:=(a.drop (Z8 a.length 0 lo)).take (Z8 a.length a.length c - Z8 a.length 0 lo)
abbrev LD:=PSt->M (Option Int)
@[simp] noncomputable def hU:LD:=λ_=>ret none
@[simp] noncomputable def hV(e:ED):LD:=λa=>ao (e a) λx=>match x with
  | .int i=>ret (some i)
  | _=>stuck
@[simp] noncomputable def hW(a:ED)(lo d:LD):ED:=λc=>ao (a c) λx=>ao (lo c) λl=>ao (d c) λh=>match x with
  | .ref n=>ao (G6 n) λb=>alloc (.lst (ek b l h))
  | .tup b=>G1 (¬(Z8 b.length 0 l=0/\Z8 b.length b.length h=b.length)) (ret (.tup (ek b l h)))
  | _=>stuck
@[simp] noncomputable def o8(a:ED):ED:=λb=>ao (a b) λx=>ao (P6 x) λl=>ret (.int l.length)
@[simp] noncomputable def jW(a:ED):ED:=λb=>ao (a b) λx=>ao (P6 x) λl=>alloc (.lst l)
noncomputable def M6:List PV->Option (List Int)
 | []=>some []
 | .int i::r=>(M6 r).map (i :: ·)
 | _=>none
noncomputable def U5:List PV->Option (List (List Int))
 | []=>some []
 | .tup (x::l)::r=>match M6 (x::l),U5 r with
   | some z,some a=>some (z::a)
   | _,_=>none
 | _=>none
noncomputable def lexLt:List Int->List Int->Bool
 | _,[]=>false
 | [],_::_=>true
 | x::a,y::b=>if x=y then lexLt a b else decide (x<y)
noncomputable def r6{c:Type}(lt:c->c->Bool)(a:c):List c->List c
 | []=>[a]
 | b::r=>if lt b a=true then b::r6 lt a r else a::b::r
noncomputable def aG{b:Type}(lt:b->b->Bool):List b->List b
 | []=>[]
 | a::r=>r6 lt a (aG lt r)
noncomputable def hX(i j:Int):Bool:=decide (i<j)
noncomputable def jX(l:List PV):M (List PV):=G1 (l.length<64) (match M6 l with
    | some ns=>ret ((aG hX ns).map .int)
    | none=>match U5 l with
      | some a=>ret ((aG lexLt a).map λt=>.tup (t.map .int))
      | none=>stuck)
@[simp] noncomputable def lB(a:ED):ED:=λb=>ao (a b) λx=>match x with
  | .ref n=>ao (G6 n) λl=>ao (jX l) λm=>alloc (.lst m)
  | _=>stuck
inductive Ty where
 | int | bool | tuple | list
@[simp] noncomputable def hY(t:Ty)(v:PV):M Bool:=match t,v with
  | .int,.int _=>ret true
  | .int,.bl _=>ret true
  | .bool,.bl _=>ret true
  | .tuple,.tup _=>ret true
  | .list,.ref n=>ao (T3 n) λ_=>ret true
  | _,.ref n=>ao (T3 n) λ_=>ret false
  | _,_=>ret false
@[simp] noncomputable def j7(a:ED)(t:Ty):ED:=λc=>ao (a c) λx=>ao (hY t x) λb=>ret (.bl b)
@[simp] noncomputable def j8(f:Nat):List (Nat×PV)->Option PV
  | []=>none
  | (g,u)::r=>if g=f then some u else j8 f r
@[simp] noncomputable def H8(a:ED)(f:Nat):ED:=λb=>ao (a b) λx=>match x with
  | .ref n=>ao (z9 n) λo=>match j8 f o.2 with
    | some v=>ret v
    | none=>stuck
  | _=>stuck
@[simp] noncomputable def putFld(f:Nat)(v:PV):List (Nat×PV)->List (Nat×PV)
  | []=>[(f,v)]
  | (g,u)::r=>if g=f then(g,v)::r else(g,u)::putFld f v r
@[simp] noncomputable def sFld(a:ED)(f:Nat)(e:ED):SD:=λb=>ao (e b) λv=>ao (a b) λx=>match x with
  | .ref n=>ao (z9 n) λo=>G1 (o.2.length<900) (ao (put n (.ins o.1 (putFld f v o.2))) λ_=>ret (.nx b))
  | _=>stuck
@[simp] noncomputable def aM(f:Fun)(a:AD):ED:=λb=>ao (a b) f
@[simp] noncomputable def hZ(c:Nat)(a:Fun)(b:AD):ED:=λd=>ao (b d) λe=>ao (alloc (.ins c [])) λx=>ao (a (x::e)) λ_=>ret x
@[simp] noncomputable def J8(c:Nat)(f:Fun)(a:ED)(d:AD):ED:=λb=>ao (a b) λx=>match x with
  | .ref n=>ao (z9 n) λo=>G1 (o.1=c) (ao (d b) λe=>f (x::e))
  | _=>stuck
@[simp] noncomputable def jY(a e:ED):ED:=λb=>ao (a b) λx=>match x with
  | .ref n=>ao (T3 n) λ_=>ao (e b) λv=>ao (T3 n) λl=>G1 (l.length<LIM) (ao (put n (.lst (l++[v]))) λ_=>ret .non)
  | _=>stuck
@[simp] noncomputable def gName(i:Nat):GD:=λv a=>ret (a.set i (some v))
abbrev GDs:=List PV->PSt->M PSt
@[simp] noncomputable def gNil:GDs:=λa b=>match a with
  | []=>ret b
  | _=>stuck
@[simp] noncomputable def gCons(g:GD)(r:GDs):GDs:=λb c=>match b with
  | v::w=>ao (g v c) λa=>r w a
  | _=>stuck
@[simp] noncomputable def gTup(n:Nat)(g:GDs):GD:=λv a=>match v with
  | .tup l=>G1 (l.length=n) (g l a)
  | _=>stuck
inductive It where
 | rng (lo:Int) (n:Nat) | lst (n:Nat) | tup (l:List PV) | enm (n:Nat)
   | fix (l:List PV)
   | zip (x y:PV)
   | enk (k n:Nat)
abbrev ID:=PSt->M It
@[simp] noncomputable def W7(a:ED):ID:=λb=>ao (a b) λx=>match x with
  | .ref n=>ao (G6 n) λ_=>ret (.lst n)
  | .tup l=>ret (.tup l)
  | _=>stuck
@[simp] noncomputable def iRng1(a:ED):ID:=λb=>ao (a b) λx=>match x with
  | .int j=>G1 (-(2 ^ 62)<=j/\j<2 ^ 62) (ret (.rng 0 j.toNat))
  | _=>stuck
@[simp] noncomputable def iRng2(a b:ED):ID:=λc=>ao (a c) λx=>ao (b c) λy=>match x,y with
  | .int i,.int j=>G1 ((-(2 ^ 62)<=i/\i<2 ^ 62)/\-(2 ^ 62)<=j/\j<2 ^ 62) (ret (.rng i (j - i).toNat))
  | _,_=>stuck
@[simp] noncomputable def lC(a:ED):ID:=λb=>ao (a b) λx=>match x with
  | .ref n=>ao (G6 n) λ_=>ret (.enm n)
  | _=>stuck
@[simp] noncomputable def item(J:It)(i:Nat):M (Option PV):=match J with
  | .rng lo n=>ret (if i<n then some (.int (lo+i)) else none)
  | .lst a=>ao (G6 a) λl=>ret l[i]?
  | .tup l=>ret l[i]?
  | .enm a=>ao (G6 a) λl=>ret (l[i]?.map λx=>.tup [.int i,x])
  | .fix l=>ret l[i]?
  | .zip x y=>ao (P6 x) λl=>ao (P6 y) λm=>ret (match l[i]?,m[i]? with
    | some u,some v=>some (.tup [u,v])
    | _,_=>none)
  | .enk k a=>ao (G6 a) λl=>ret (l[i]?.map λx=>.tup [.int ((k+i:Nat):Int),x])
@[simp] noncomputable def j9(J:It):M Nat:=match J with
  | .rng _ n=>ret n
  | .lst a=>ao (G6 a) λl=>ret l.length
  | .tup l=>ret l.length
  | .enm a=>ao (G6 a) λl=>ret l.length
  | .fix l=>ret l.length
  | .zip x _=>ao (P6 x) λl=>ret l.length
  | .enk _ a=>ao (G6 a) λl=>ret l.length
@[simp] noncomputable def sPass:SD:=λa=>ret (.nx a)
@[simp] noncomputable def D3(a b:SD):SD:=λd=>ao (a d) λf=>match f with
  | .nx c=>b c
  | o=>ret o
@[simp] noncomputable def T4(e:ED):SD:=λa=>ao (e a) λ_=>ret (.nx a)
@[simp] noncomputable def G5(e:ED):SD:=λa=>ao (e a) λv=>ret (.rt v)
@[simp] noncomputable def bF(t:TD)(a b:SD):SD:=λd=>ao (t d) λc=>if c=true then a d else b d
@[simp] noncomputable def N9(e:ED)(g:GD):SD:=λb=>ao (e b) λv=>ao (g v b) λa=>ret (.nx a)
@[simp] noncomputable def sNever:SD:=λ_=>stuck
noncomputable def nR(J:It)(g:GD)(a:SD):Nat->Nat->PSt->M Fl
 | 0,_,_=>stuck
 | f+1,i,d=>ao (item J i) λx=>match x with
   | none=>ret (.nx d)
   | some v=>ao (g v d) λc=>ao (a c) λo=>match o with
     | .nx b=>nR J g a f (i+1) b
     | .ct b=>nR J g a f (i+1) b
     | .bk b=>ret (.nx b)
     | .rt v=>ret (.rt v)
theorem nT:∃T:It->GD->SD->Nat->Nat->PSt->M Fl,(∀J g a i c,T J g a 0 i c=stuck)/\∀J g a f i c,T J g a (f+1) i c=ao (item J i) λx=>match x with
 | none=>ret (.nx c)
 | some v=>ao (g v c) λd=>ao (a d) λo=>match o with
   | .nx b=>T J g a f (i+1) b
   | .ct b=>T J g a f (i+1) b
   | .bk b=>ret (.nx b)
   | .rt v=>ret (.rt v):=⟨nR,λ_ _ _ _ _=>rfl,λ_ _ _ _ _ _=>rfl⟩
noncomputable def Y4:It->GD->SD->Nat->Nat->PSt->M Fl:=NV nT
theorem sr(J:It)(g:GD)(a:SD)(i:Nat)(σ:PSt):Y4 J g a 0 i σ=stuck:=(Kn nT).1 J g a i σ
theorem U6(J:It)(g:GD)(a:SD)(f i:Nat)(σ:PSt):Y4 J g a (f+1) i σ=ao (item J i) λx=>match x with
 | none=>ret (.nx σ)
 | some v=>ao (g v σ) λc=>ao (a c) λo=>match o with
   | .nx b=>Y4 J g a f (i+1) b
   | .ct b=>Y4 J g a f (i+1) b
   | .bk b=>ret (.nx b)
   | .rt v=>ret (.rt v):=(Kn nT).2 J g a f i σ
@[simp] noncomputable def fc(it:ID)(g:GD)(a:SD):SD:=λb=>ao (it b) λJ=>ao (j9 J) λn=>Y4 J g a (n+1) 0 b
noncomputable def nU(t:TD)(a:SD):Nat->PSt->M Fl
 | 0,_=>stuck
 | f+1,d=>ao (t d) λc=>if c=true then ao (a d) λo=>match o with
    | .nx b=>nU t a f b
    | .ct b=>nU t a f b
    | .bk b=>ret (.nx b)
    | .rt v=>ret (.rt v)
   else ret (.nx d)
theorem nV:∃T:TD->SD->Nat->PSt->M Fl,(∀t a d,T t a 0 d=stuck)/\∀t a f d,T t a (f+1) d=ao (t d) λc=>if c=true then ao (a d) λo=>match o with
 | .nx b=>T t a f b
 | .ct b=>T t a f b
 | .bk b=>ret (.nx b)
 | .rt v=>ret (.rt v)
 else ret (.nx d):=⟨nU,λ_ _ _=>rfl,λ_ _ _ _=>rfl⟩
noncomputable def k8:TD->SD->Nat->PSt->M Fl:=NV nV
theorem zS(t:TD)(a:SD)(σ:PSt):k8 t a 0 σ=stuck:=(Kn nV).1 t a σ
theorem su(t:TD)(a:SD)(f:Nat)(σ:PSt):k8 t a (f+1) σ=ao (t σ) λc=>if c=true then ao (a σ) λo=>match o with
 | .nx b=>k8 t a f b
 | .ct b=>k8 t a f b
 | .bk b=>ret (.nx b)
 | .rt v=>ret (.rt v)
 else ret (.nx σ):=(Kn nV).2 t a f σ
@[simp] noncomputable def nW(t:TD)(a:SD):SD:=λb=>k8 t a LIM b
noncomputable def cp{a:Type}(b:List (Option Nat))(σ:List (Option a)):List (Option a):=b.map λo=>match o with
 | none=>none
 | some j=>σ.getD j none
noncomputable def nX(J:It)(g:GD)(t:TD)(e:ED):Nat->Nat->PSt->M (List PV)
 | 0,_,_=>stuck
 | f+1,i,b=>ao (item J i) λx=>match x with
   | none=>ret []
   | some v=>ao (g v b) λa=>ao (t a) λc=>if c=true then ao (e a) λy=>ao (nX J g t e f (i+1) a) λd=>ret (y::d)
     else nX J g t e f (i+1) a
theorem nY:∃T:It->GD->TD->ED->Nat->Nat->PSt->M (List PV),(∀J g t e i b,T J g t e 0 i b=stuck)/\∀J g t e f i b,T J g t e (f+1) i b=ao (item J i) λx=>match x with
 | none=>ret []
 | some v=>ao (g v b) λa=>ao (t a) λc=>if c=true then ao (e a) λy=>ao (T J g t e f (i+1) a) λd=>ret (y::d)
   else T J g t e f (i+1) a:=⟨nX,λ_ _ _ _ _ _=>rfl,λ_ _ _ _ _ _ _=>rfl⟩
noncomputable def d8:It->GD->TD->ED->Nat->Nat->PSt->M (List PV):=NV nY
theorem sv(J:It)(g:GD)(t:TD)(e:ED)(i:Nat)(σ:PSt):d8 J g t e 0 i σ=stuck:=(Kn nY).1 J g t e i σ
theorem Y5(J:It)(g:GD)(t:TD)(e:ED)(f i:Nat)(σ:PSt):d8 J g t e (f+1) i σ=ao (item J i) λx=>match x with
 | none=>ret []
 | some v=>ao (g v σ) λa=>ao (t a) λc=>if c=true then ao (e a) λy=>ao (d8 J g t e f (i+1) a) λb=>ret (y::b)
   else d8 J g t e f (i+1) a:=(Kn nY).2 J g t e f i σ
@[simp] noncomputable def R1:TD:=λ_=>ret true
@[simp] noncomputable def M5(it:ID)(mk:PSt->PSt)(g:GD)(t:TD)(e:ED):ED:=λa=>ao (it a) λJ=>ao (j9 J) λn=>ao (d8 J g t e (n+1) 0 (mk a)) λb=>G1 (b.length<=LIM) (alloc (.lst b))
@[simp] noncomputable def start(n:Nat)(vs:List PV):PSt:=vs.map some++LP (n - vs.length) none
noncomputable def fin(o:Fl):M PV:=match o with
    | .rt v=>ret v
    | .nx _=>ret .non
    | _=>stuck
@[simp] theorem HZ(v:PV):fin (.rt v)=ret v:=rfl
@[simp] theorem Ia(σ:PSt):fin (.nx σ)=ret .non:=rfl
@[simp] noncomputable def fn(n p:Nat)(a:SD):Fun:=λb=>G1 (b.length=p) (ao (a (start n b)) fin)
end
theorem ai{A B:PHp}{n:Nat}{o:PO}(h:A<+:B)(e:A[n]?=some o):B[n]?=some o:=by
 obtain⟨t,rfl⟩:=h;rw[JA (IG.mp e).1];exact e
theorem E5{A:PHp}{n:Nat}{o:PO}(e:A[n]?=some o):n<A.length:=(IG.mp e).1
theorem Y6{A B:PHp}{n:Nat}{o:PO}(h:A<+:B)(e:A.length<=n):A<+:B.set n o:=by
 obtain⟨t,rfl⟩:=h;rw[List.set_append_right _ _ e];exact Iu _ _
theorem Q4{A B:PHp}{o:PO}(h:A<+:B):A<+:B++[o]:=h.trans (Iu _ _)
theorem aj{A:PHp}{o:PO}:(A++[o])[A.length]?=some o:=by simp
theorem az{A:PHp}{o p:PO}{n:Nat}(e:A[n]?=some p):(A++[o])[n]?=some p:=ai (Iu _ _) e
theorem G2{A:PHp}{o:PO}{n m:Nat}(h:m≠n):(A.set n o)[m]?=A[m]?:=by
 simp[JW h]
theorem aT{A:PHp}{o p:PO}{n:Nat}(h:A[n]?=some p):(A.set n o)[n]?=some o:=by
 simp[E5 h]
def Comes(r:R Fl)(P:PSt->PHp->Prop)(Q:PV->PHp->Prop):Prop:=
 (∃a A,r=.ok (.nx a) A/\P a A)\/∃v A,r=.ok (.rt v) A/\Q v A
def en(r:R Fl)(P:PSt->PHp->Prop)(Q:PV->PHp->Prop):Prop:=
 (∃a A,(r=.ok (.nx a) A\/r=.ok (.ct a) A)/\P a A)\/∃v A,r=.ok (.rt v) A/\Q v A
theorem turns_inv{J:It}{g:GD}{a:SD}{n:Nat}(P:Nat->PSt->PHp->Prop)(Q:PV->PHp->Prop)
 (d:∀b A,P n b A->item J n A=.ok none A)
 (hs:∀i b A,i<n->P i b A->∃v,item J i A=.ok (some v) A/\en (ao (g v b) a A) (P (i+1)) Q) :
 ∀k i b A,i+k=n->P i b A->Comes (Y4 J g a (k+1) i b A) (P n) Q
 | 0,i,b,A,e,h=>by
   obtain rfl:i=n:=by omega
   refine .inl ⟨b,A,?_,h⟩;rw[U6,aB (d b A h)];rfl
 | k+1,i,b,A,e,h=>by
   obtain⟨v,p,t⟩:=hs i b A (by omega) h;have j:Y4 J g a (k+1+1) i b A=ao (ao (g v b) a) (λo=>match o with
    | .nx c=>Y4 J g a (k+1) (i+1) c
    | .ct c=>Y4 J g a (k+1) (i+1) c
    | .bk c=>ret (.nx c)
    | .rt v=>ret (.rt v)) A:=by
    rw[U6,aB p];show ao _ _ A=_;unfold ao;cases g v b A<;>rfl
   rw[j];rcases t with⟨c,l,f,m⟩ | ⟨u,l,f,m⟩
   .rcases f with f | f<;>(rw[aB f];exact turns_inv P Q d hs k _ c l (by omega) m)
   .rw[aB f];exact .inr ⟨u,l,rfl,m⟩
theorem zT{it:ID}{g:GD}{b:SD}{a:Nat}{l:List PV}{σ:PSt}{A c:PHp}(d:it σ A=.ok (.enm a) c)(P:Nat->PSt->PHp->Prop)(Q:PV->PHp->Prop)(f:P 0 σ c)
 (e:∀i σ A,P i σ A->G6 a A=.ok l A)
 (hs:∀(i:Nat) v σ A,l[i]?=some v->P i σ A->en (ao (g (.tup [.int i,v]) σ) b A) (P (i+1)) Q):Comes (fc it g b σ A) (P l.length) Q:=by
 show Comes (ao _ _ A) _ _;rw[aB d];show Comes (ao (ao _ _) _ c) _ _;rw[aB (show ao (G6 a) _ c=.ok _ c by rw[aB (e 0 σ c f)];rfl)];refine turns_inv P Q (λσ A h=>?_) (λi σ A d h=>⟨.tup [.int i,l[i]],?_,hs i _ σ A (by simp) h⟩) _ 0 σ c (by simp) f
 .show ao _ _ A=_;rw[aB (e _ _ _ h)];simp
 .show ao _ _ A=_;rw[aB (e _ _ _ h)];simp[d]
theorem Comes.end{r:R Fl}{P:PSt->PHp->Prop}(h:Comes r P λ_ _=>False):∃a A,r=.ok (.nx a) A/\P a A:=by
 rcases h with h | ⟨_,_,_,h⟩
 .omega
 .simp_all
theorem en.nx{r:R Fl}{P:PSt->PHp->Prop}{Q:PV->PHp->Prop}{σ:PSt}{A:PHp}(e:r=.ok (.nx σ) A)(h:P σ A):en r P Q:=.inl ⟨σ,A,.inl e,h⟩
theorem Comes.mono{r:R Fl}{P b:PSt->PHp->Prop}{Q c:PV->PHp->Prop}(h:Comes r P Q)(d:∀a A,P a A->b a A)(f:∀v A,Q v A->c v A):Comes r b c:=by
 rcases h with⟨a,A,e,h⟩ | ⟨v,A,e,h⟩
 .exact .inl ⟨a,A,e,d _ _ h⟩
 .exact .inr ⟨v,A,e,f _ _ h⟩
theorem sx{J:It}{g:GD}{t:TD}{e:ED}{l:List PV}{S:PSt->Prop}{p:PV->Bool}{f:PV->PV}{A:PHp}
 (c:∀i,item J i A=.ok l[i]? A)
 (h:∀v∈l,∀b,S b->∃a,g v b A=.ok a A/\S a/\t a A=.ok (p v) A/\(p v=true->e a A=.ok (f v) A)) :
 ∀k i b,i+k=l.length->S b->d8 J g t e (k+1) i b A=.ok (((l.drop i).filter p).map f) A
 | 0,i,b,n,d=>by
   have:l.length<=i:=by omega
   rw[Y5,aB (c i)];simp[KN this,this]
 | k+1,i,b,n,d=>by
   have j:i<l.length:=by omega
   obtain⟨a,o,q,r,s⟩:=h l[i] (LV j) b d;have ih:=sx c h k (i+1) a (by omega) q;have u:=JR j;rw[Y5,aB (c i),IJ j];show ao _ _ A=_;rw[aB o,aB r,u];cases m:p l[i]with
   | true=>
     rw[if_pos rfl,aB (s m),aB ih,Mi m];rfl
   | false=>
     rw[if_neg (by simp),ih,Lm (by simp_all)]
theorem sy{it:ID}{mk:PSt->PSt}{g:GD}{t:TD}{e:ED}{a:Nat}{l:List PV}{S:PSt->Prop}{p:PV->Bool}{f:PV->PV}{σ:PSt}{A b:PHp}(j:it σ A=.ok (.lst a) b)(k:G6 a b=.ok l b)(m:l.length<=LIM)(i:S (mk σ))
 (h:∀v∈l,∀σ,S σ->∃d,g v σ b=.ok d b/\S d/\t d b=.ok (p v) b/\(p v=true->e d b=.ok (f v) b)) :
 M5 it mk g t e σ A=.ok (.ref b.length) (b++[.lst ((l.filter p).map f)]):=by
 show ao _ _ A=_;rw[aB j];show ao (ao _ _) _ b=_;rw[aB (show ao (G6 a) _ b=.ok _ b by rw[aB k];rfl)];have c:=sx (J:=.lst a) (by simp_all) h l.length 0 _ (by simp) i;rw[aB c,Q3]
 .rfl
 .rw[Iq];exact Jm (Jq _ _) m
theorem M8{A:PHp}{n:Nat}{l:List PV}(h:A[n]?=some (.lst l)):G6 n A=.ok l A:=by simp_all
theorem zU{A:PHp}{n:Nat}{l:List PV}(h:A[n]?=some (.lst l)):T3 n A=.ok l A:=by simp_all
mutual
theorem sA:∀x y:PV,Z1 x=true->(bI x y=true↔x=y)
 | .non,y,_=>by cases y<;>simp[bI]
 | .bl _,_,h=>by simp[Z1]at h
 | .int i,y,_=>by cases y<;>simp[bI]
 | .str s,y,_=>by cases y<;>simp[bI]
 | .tup l,y,h=>by
   cases y with
   | tup m=>simp only[PV.tup.injEq];exact eqvs_nice l m (by simpa[Z1]using h)
   | _=>simp[bI]
 | .ref _,_,h=>by simp[Z1]at h
theorem eqvs_nice:∀l m:List PV,nices l=true->(eqvs l m=true↔l=m)
 | [],m,_=>by cases m<;>simp[eqvs]
 | x::a,m,h=>by
   cases m with
   | nil=>simp[eqvs]
   | cons y b=>
     simp only[nices,Jf]at h;simp only[eqvs,Jf,Mj];rw[sA x y h.1,eqvs_nice a b h.2]
end
theorem T5{f:PV->Bool}(h:∀x,f x=true->Z1 x=true):∀l:List PV,l.all f=true->nices l=true
 | [],_=>rfl
 | x::a,e=>by
   rw[Ml,Jf]at e;simp only[nices,Jf];exact⟨h x e.1,T5 h a e.2⟩
theorem jZ(x:PV)(h:U2 x=true):Z1 x=true:=by cases x<;>simp_all [Z1]
theorem sC(x:PV)(h:jQ x=true):Z1 x=true:=by
 cases x with
 | tup l=>exact T5 jZ l h
 | _=>exact jZ _ h
theorem sD(x:PV)(h:z8 x=true):Z1 x=true:=by
 cases x with
 | tup l=>exact T5 sC l h
 | _=>exact jZ _ h
theorem d9(x:PV)(h:plain x=true):Z1 x=true:=by
 cases x with
 | tup l=>exact T5 sD l h
 | _=>exact jZ _ h
theorem sE(x y:PV)(h:plain x=true):bI x y=true↔x=y:=sA x y (d9 x h)
theorem zV(l m:List PV)(h:N4 l=true):eqvs l m=true↔l=m:=eqvs_nice l m (T5 d9 l h)
theorem u5(l:List PV):N4 l=true↔∀x∈l,plain x=true:=Jo
theorem Y7(ns:List Int):N4 (ns.map .int)=true:=by
 rw[u5];intro x a;obtain⟨i,_,rfl⟩:=IC.mp a;rfl
theorem cO{c:Type}(lt:c->c->Bool)(a:c):∀l:List c,(r6 lt a l).Perm (a::l)
 | []=>.refl _
 | b::r=>by
   unfold r6;split
   .exact((cO lt a r).cons b).trans (.swap a b r)
   .rfl
theorem N1{b:Type}(lt:b->b->Bool):∀l:List b,(aG lt l).Perm l
 | []=>.refl _
 | a::r=>(cO lt a _).trans ((N1 lt r).cons a)
theorem S8(ns:List Int):M6 (ns.map .int)=some ns:=by
 induction ns with
 | nil=>rfl
 | cons i r ih=>simp[M6,ih]
theorem u6:∀(ts:List (List Int)),(∀t∈ts,t≠[])->U5 (ts.map λt=>PV.tup (t.map .int))=some ts
 | [],_=>rfl
 | t::r,h=>by
   have ih:=u6 r λu a=>h u (IE _ a);cases t with
   | nil=>exact absurd rfl (h [] Iz)
   | cons x l=>
     have e:=S8 (x::l);simp only[Jb]at e;simp only[Jb,U5,e,ih]
theorem sF{ts:List (List Int)}{A:PHp}(h:ts.length<64)(a:∀t∈ts,t≠[]):jX (ts.map λt=>PV.tup (t.map .int)) A=.ok ((aG lexLt ts).map λt=>PV.tup (t.map .int)) A:=by
 unfold jX;rw[Iq,Q3 h];cases ts with
 | nil=>rfl
 | cons t r=>
   have e:M6 ((t::r).map λt=>PV.tup (t.map .int))=none:=by simp[M6]
   rw[u6 _ a];rfl
theorem sG{f:Type}{lt:f->f->Bool}(d:∀a b,lt a b=true->lt b a=false)(j:∀a b c,lt b a=false->lt c b=false->lt c a=false)(a:f) :
 ∀l:List f,l.Pairwise (λx y=>lt y x=false)->(r6 lt a l).Pairwise (λx y=>lt y x=false)
 | [],_=>by simp[r6]
 | b::r,h=>by
   rw[KZ]at h;unfold r6;split
   .rename_i g;rw[KZ];refine⟨λc e=>?_,sG d j a r h.2⟩;rcases IF.mp ((cO lt a r).mem_iff.mp e)with rfl | e
    .exact d _ _ g
    .exact h.1 c e
   .rename_i g;have i:lt b a=false:=by simpa using g
    rw[KZ];refine⟨λc e=>?_,KZ.mpr h⟩;rcases IF.mp e with rfl | e
    .omega
    .exact j a b c i (h.1 c e)
theorem V1{e:Type}{lt:e->e->Bool}(d:∀a b,lt a b=true->lt b a=false)(f:∀a b c,lt b a=false->lt c b=false->lt c a=false) :
 ∀l:List e,(aG lt l).Pairwise (λx y=>lt y x=false)
 | []=>by simp[aG]
 | a::r=>sG d f a _ (V1 d f r)
theorem zW(l:List Int):(aG hX l).Pairwise (·<=·):=by
 refine(V1 ?_ ?_ l).imp ?_
 .intro a b h;simp[hX]at *;omega
 .intro a b c d e;simp[hX]at *;omega
 .intro a b h;simp[hX]at h;exact h
theorem sH:∀{l m:List Int},l.Perm m->l.Pairwise (·<=·)->m.Pairwise (·<=·)->l=m
 | [],m,h,_,_=>(List.nil_perm.mp h).symm
 | x::l,[],h,_,_=>absurd h.length_eq (by simp)
 | x::l,y::m,h,a,b=>by
   rw[KZ]at a b;have e:x=y:=by
    have c:=h.mem_iff.mp Iz;have d:=h.mem_iff.mpr Iz;rcases IF.mp c with e | e
    .omega
    .grind
   subst e;rw[sH (List.perm_cons _ |>.mp h) a.2 b.2]
theorem nZ{d:Type}{lt:d->d->Bool}(c:∀a b,lt a b=false->lt b a=false->a=b):∀{l m:List d},l.Perm m->l.Pairwise (λx y=>lt y x=false)->m.Pairwise (λx y=>lt y x=false)->l=m
 | [],m,h,_,_=>(List.nil_perm.mp h).symm
 | x::l,[],h,_,_=>absurd h.length_eq (by simp)
 | x::l,y::m,h,f,g=>by
   rw[KZ]at f g;have e:x=y:=by
    have j:=h.mem_iff.mp Iz;have k:=h.mem_iff.mpr Iz;rcases IF.mp j with e | e
    .omega
    .rcases IF.mp k with i | i
     .exact i.symm
     .exact c _ _ (g.1 x e) (f.1 y i) |>.symm ▸ rfl
   subst e;rw[nZ c (List.perm_cons _ |>.mp h) f.2 g.2]
theorem n7:∀a b:List Int,lexLt a b=true->lexLt b a=false
 | _,[],h=>by simp[lexLt]at h
 | [],_::_,_=>rfl
 | x::c,y::d,h=>by
   simp only[lexLt]at h ⊢;by_cases e:x=y
   .subst e;simp only[if_true]at h ⊢;exact n7 c d h
   .rw[if_neg e]at h;rw[if_neg (JW e)];simp at h ⊢;omega
theorem oa:∀a b:List Int,lexLt a b=false->lexLt b a=false->a=b
 | [],[],_,_=>rfl
 | [],_::_,h,_=>by simp[lexLt]at h
 | _::_,[],_,h=>by simp[lexLt]at h
 | x::d,y::f,h,c=>by
   simp only[lexLt]at h c;by_cases e:x=y
   .subst e;simp only[if_true]at h c;rw[oa d f h c]
   .grind
theorem og:∀a b c:List Int,lexLt b a=false->lexLt c b=false->lexLt c a=false
 | [],_,_,_,_=>by simp[lexLt]
 | _::_,[],_,h,_=>by simp[lexLt]at h
 | _::_,_::_,[],_,h=>by simp[lexLt]at h
 | x::f,y::g,z::i,h,d=>by
   simp only[lexLt]at h d ⊢;by_cases e:y=x
   .subst e;simp only[if_true]at h;by_cases j:z=y
    .subst j;simp only[if_true]at d ⊢;exact og f g i h d
    .simp_all
   .grind
theorem zX(ts:List (List Int)):(aG lexLt ts).Pairwise (λx y=>lexLt y x=false):=V1 n7 og ts
@[simp] noncomputable def Ib(a:ED):ED:=λb=>ao (a b) λx=>match x with
  | .ref n=>ao (T3 n) λl=>match l[l.length - 1]? with
    | some y=>ao (put n (.lst l.dropLast)) λ_=>ret y
    | none=>stuck
  | _=>stuck
@[simp] noncomputable def Ic(n:Nat):M (List (Int×PV)):=λA=>match A[n]? with
  | some (.dI m)=>.ok m A
  | _=>.no
noncomputable def k9:List PV->Option (List Bool)
 | []=>some []
 | .bl b::r=>(k9 r).map (b :: ·)
 | _=>none
@[simp] noncomputable def ia(a:ED):ED:=λb=>ao (a b) λx=>match x with
  | .ref n=>ao (G6 n) λl=>match k9 l with
    | some bs=>ret (.bl (bs.all id))
    | none=>stuck
  | _=>stuck
noncomputable def ff(i:Int):List Int->Int
 | []=>i
 | j::r=>ff (if i<j then j else i) r
noncomputable def l3(i:Int):List Int->Int
 | []=>i
 | j::r=>l3 (if j<i then j else i) r
@[simp] noncomputable def oh(a d:ED):ED:=λb=>ao (a b) λx=>ao (d b) λv=>match x with
  | .ref n=>ao (G6 n) λl=>match M6 l with
    | some []=>ret v
    | some (i::r)=>ret (.int (ff i r))
    | none=>stuck
  | _=>stuck
@[simp] noncomputable def Ie(a:ED):ED:=λb=>ao (a b) λx=>match x with
  | .ref n=>ao (G6 n) λl=>match M6 l with
    | some (i::r)=>ret (.int (ff i r))
    | _=>stuck
  | _=>stuck
@[simp] noncomputable def oi(a:ED):ED:=λb=>ao (a b) λx=>match x with
  | .ref n=>ao (G6 n) λl=>match M6 l with
    | some (i::r)=>ret (.int (l3 i r))
    | _=>stuck
  | _=>stuck
theorem oj:∀(i:Int)(r:List Int),(l3 i r∈i::r)/\∀x∈i::r,l3 i r<=x
 | i,[]=>⟨by simp[l3],by simp[l3]⟩
 | i,j::r=>by
   unfold l3;obtain⟨a,b⟩:=oj (if j<i then j else i) r;have d:=b _ Iz;refine⟨?_,λx e=>?_⟩
   .rcases IF.mp a with z | z
    .rw[z];by_cases c:j<i<;>simp[c]
    .simp_all
   .grind
@[simp] noncomputable def l4(a:ED):ED:=λb=>ao (a b) λx=>match x with
  | .ref n=>ao (G6 n) λl=>G1 (l.length<=LIM) (ret (.tup l))
  | _=>stuck
@[simp] noncomputable def lD(a e:ED):ED:=λb=>ao (a b) λx=>match x with
  | .ref n=>ao (T3 n) λ_=>ao (e b) λv=>match v with
    | .ref k=>ao (T3 n) λl=>ao (T3 k) λm=>G1 (l.length+m.length<=LIM) (ao (put n (.lst (l++m))) λ_=>ret .non)
    | _=>stuck
  | _=>stuck
noncomputable def jk(l:List Int)(a:Int):List Int:=if l.any (·== a)=true then l else l++[a]
noncomputable def gn(ns:List Int):Nat:=(ns.foldl jk []).length
@[simp] noncomputable def om(a:ED):ED:=λb=>ao (a b) λx=>ao (P6 x) λl=>match M6 l with
  | some ns=>G1 (ns.length<1000) (ret (.int (gn ns)))
  | none=>stuck
theorem metI_cases(l:List Int)(a:Int):(a∈l/\jk l a=l)\/(a∉l/\jk l a=l++[a]):=by
 unfold jk;by_cases h:a∈l
 .simp_all
 .simp_all
theorem lE:∀(r l:List Int),l.Nodup->(r.foldl jk l).length<=l.length+r.length/\((r.foldl jk l).length=l.length+r.length↔(l++r).Nodup)
 | [],l,h=>by simp[h]
 | a::r,l,h=>by
   rw[List.foldl_cons];rcases metI_cases l a with⟨c,e⟩ | ⟨c,e⟩
   .rw[e];obtain⟨d,b⟩:=lE r l h;refine⟨by simp;omega,⟨λz=>by simp at z;omega,λz=>?_⟩⟩;exact absurd rfl ((KD.mp z).2.2 a c a Iz)
   .rw[e];have f:(l++[a]).Nodup:=by
     rw[KD];exact⟨h,by simp,λx j y g z=>by simp at g;exact c (by simp_all)⟩
    obtain⟨d,b⟩:=lE r _ f;have i:l++[a]++r=l++a::r:=by simp
    rw[i]at b;simp only[IU,IM,JS]at d b ⊢;exact⟨by omega,⟨λz=>b.mp (by omega),λz=>by have:=b.mpr z;omega⟩⟩
theorem sI(ns:List Int):gn ns<=ns.length:=by have:=(lE ns [] MA).1;simpa[gn]using this
theorem sJ(ns:List Int):gn ns<ns.length↔¬ns.Nodup:=by
 have h:=(lE ns [] MA).2;have a:=sI ns;simp only[JS,Pj]at h;unfold gn at *;constructor
 .grind
 .grind
@[simp] noncomputable def lF(a b:ED):ID:=λc=>ao (a c) λx=>ao (b c) λy=>ao (P6 x) λ_=>ao (P6 y) λ_=>ret (.zip x y)
@[simp] noncomputable def Ig(a:ED):ED:=λb=>ao (a b) λx=>match x with
  | .tup c=>ret (.tup c.reverse)
  | _=>stuck
@[simp] noncomputable def oq:OD
  | .int i,.int j=>ret (.int (i+j))
  | .tup l,.tup m=>G1 (l.length+m.length<=LIM) (ret (.tup (l++m)))
  | .ref n,.ref k=>ao (T3 n) λl=>ao (T3 k) λm=>G1 (l.length+m.length<=LIM) (alloc (.lst (l++m)))
  | _,_=>stuck
noncomputable section
noncomputable def eu{b:Type}(m:M b):M b:=λA=>match m A with
 | .ok a c=>.ok a c
 | _=>.no
theorem zY{b:Type}{m:M b}{A A':PHp}{a:b}(h:m A=.ok a A'):eu m A=.ok a A':=by unfold eu;rw[h]
noncomputable def u7(c:Nat)(f:Fun)(a:ED)(d:AD):ED:=λb=>ao (eu (a b)) λx=>match x with
 | .ref n=>ao (z9 n) λo=>G1 (o.1=c) (ao (eu (d b)) λe=>f (x::e))
 | _=>stuck
noncomputable def fj(s:SD):SD:=λa=>eu (s a)
noncomputable def gB(t:TD):TD:=λa=>eu (t a)
noncomputable def l5(c:Nat)(a:AD):SD:=λb=>ao (eu (a b)) λd A=>match d with
 | [v]=>.ex c v A
 | _=>.no
noncomputable def zZ(i:Nat):Fl->Fl
 | .nx a=>.nx (a.set i none)
 | .bk a=>.bk (a.set i none)
 | .ct a=>.ct (a.set i none)
 | .rt v=>.rt v
abbrev Hd:=Nat×Option Nat×SD
noncomputable def f6:List Hd->Nat->PV->PSt->M Fl
 | [],_,_,_=>stuck
 | (k,none,b)::r,c,v,a=>if gC c k=true then b a else f6 r c v a
 | (k,some i,b)::r,c,v,a=>if gC c k=true then ao (alloc (.exc c v)) λx=>ao (b (a.set i (some x))) λf=>ret (zZ i f) else f6 r c v a
noncomputable def ka(e:List Nat)(b:SD)(hs:List Hd):SD:=λd A=>match b d A with
 | .ok f a=>.ok f a
 | .ex c v a=>G1 (c∈e) (f6 hs c v d) a
 | .no=>.no
@[simp] noncomputable def ou(a b:ED):ED:=λc=>ao (a c) λx=>ao (b c) λy=>match x,y with
  | .int i,.int j=>ret (.int (if j > i then j else i))
  | _,_=>stuck
end
noncomputable section
end
noncomputable section
end
noncomputable section
noncomputable def R3:PV->Option (List Int)
 | .tup l=>M6 l
 | _=>none
noncomputable def X0(n:Nat):M (List (List Int×PV)):=λA=>match A[n]? with
 | some (.dT m)=>.ok m A
 | _=>.no
noncomputable def M3:List (List Int×PV)->List Int->Option PV
 | [],_=>none
 | p::r,k=>if p.1=k then some p.2 else M3 r k
noncomputable def Z2(a:List (List Int×PV))(k:List Int)(x:PV):List (List Int×PV):=
 if(a.any λp=>decide (p.1=k))=true then a.map (λp=>if p.1=k then(p.1,x) else p) else a++[(k,x)]
noncomputable def iN(y d:ED):ED:=λa=>ao (y a) λk=>ao (d a) λx=>match R3 k,x with
 | some i,.ref n=>ao (X0 n) λm=>ret (.bl (M3 m i).isSome)
 | _,_=>stuck
noncomputable def kb(d y e:ED):SD:=λa=>ao (e a) λv=>ao (d a) λx=>ao (y a) λk=>match x,R3 k with
 | .ref n,some i=>ao (X0 n) λm=>G1 (m.length<LIM) (ao (put n (.dT (Z2 m i v))) λ_=>ret (.nx a))
 | _,_=>stuck
noncomputable def ib(d y:ED):ED:=λa=>ao (d a) λx=>ao (y a) λk=>match x,R3 k with
 | .ref n,some i=>ao (X0 n) λm=>match M3 m i with
   | some v=>ret v
   | none=>stuck
 | _,_=>stuck
noncomputable def eTNew:ED:=λ_=>alloc (.dT [])
noncomputable def lG(d y:ED):ED:=λa=>ao (d a) λx=>match x with
 | .ref n=>ao (X0 n) λ_=>ao (y a) λk=>match R3 k with
   | some i=>ao (X0 n) λm=>ret ((M3 m i).getD .non)
   | _=>stuck
 | _=>stuck
noncomputable def ow(d y e:ED):ED:=λa=>ao (d a) λx=>match x with
 | .ref n=>ao (X0 n) λ_=>ao (y a) λk=>ao (e a) λv=>match R3 k with
   | some i=>ao (X0 n) λm=>ret ((M3 m i).getD v)
   | _=>stuck
 | _=>stuck
end
noncomputable section
noncomputable def small:List (List Int):=((Jj 10).map λa=>(Jj 10).map λb=>[((a:Nat):Int),((b:Nat):Int)]).flatten
noncomputable def Ih(a:ED):ED:=λb=>ao (a b) λx=>match x with
 | .ref n=>ao (X0 n) λm=>ret (.int m.length)
 | _=>stuck
noncomputable def oy(a:ED):ED:=λb=>ao (a b) λx=>match x with
 | .ref n=>ao (X0 n) λm=>G1 ((m.map (·.1)).Nodup/\∀p∈m,p.1∈small) (alloc (.dT m))
 | _=>stuck
end
noncomputable section
end
noncomputable section
end
noncomputable section
end
noncomputable section
end
noncomputable section
noncomputable def oz(a:ED):ED:=λc=>ao (a c) λx=>match x with
 | .bl b=>ret (.int (if b then 1 else 0))
 | _=>stuck
noncomputable def kc(x:PV):M Bool:=match x with
 | .str _=>ret true
 | .ref n=>ao (T3 n) λ_=>ret false
 | _=>ret false
noncomputable def lH(a:ED):ED:=λc=>ao (a c) λx=>ao (kc x) λb=>ret (.bl b)
end
noncomputable section
end
noncomputable section
end
noncomputable section
end
noncomputable section
end
noncomputable section
end
noncomputable def jl(d y e:ED):ED:=λa=>ao (d a) λx=>match x with
 | .ref n=>ao (X0 n) λ_=>ao (y a) λk=>ao (e a) λv=>match R3 k with
   | some i=>ao (X0 n) λm=>match M3 m i with
     | some w=>ret w
     | none=>G1 (m.length<LIM) (ao (put n (.dT (Z2 m i v))) λ_=>ret v)
   | _=>stuck
 | _=>stuck
noncomputable def oA(a:ED):ED:=λb=>ao (a b) λx=>match x with
 | .ref n=>ao (G6 n) λl=>match k9 l with
   | some bs=>ret (.bl (bs.any id))
   | none=>stuck
 | _=>stuck
noncomputable def gp:List PV->Option (List (List Int×PV))
 | []=>some []
 | .tup [k,v]::r=>(R3 k).bind λi=>(gp r).map ((i,v) :: ·)
 | _=>none
noncomputable def oB(a:ED):ED:=λc=>ao (a c) λx=>match x with
 | .ref n=>ao (T3 n) λl=>match gp l with
   | some m=>G1 (m.length<LIM) (alloc (.dT (m.foldl (λb p=>Z2 b p.1 p.2) [])))
   | none=>stuck
 | _=>stuck
noncomputable section
end
noncomputable section
end
noncomputable section
noncomputable def keyLt(a b:List Int):Bool:=if a.length=b.length then lexLt a b else decide (a.length<b.length)
noncomputable def Y8:List Int->List (List Int)->List Int
 | b,[]=>b
 | b,t::r=>Y8 (if keyLt t b then t else b) r
@[simp] noncomputable def oE(a:ED):ED:=λb=>ao (a b) λx=>match x with
  | .ref n=>ao (T3 n) λl=>match U5 l with
    | some (t::c)=>ret (.tup ((Y8 t c).map .int))
    | _=>stuck
  | _=>stuck
end
end Ws
namespace Ws
open PySem L2
noncomputable def z3:Expr->Bool
 | .Starred _ _=>true
 | _=>false
theorem D6{e:Expr}{b:List Expr}{a:Env}(h:z3 e=false):starEach (e::b) a=(false,eval e a)::starEach b a:=by
 cases e<;>first | rfl | cases h
mutual
inductive RV (ρ:List Addr) (H:Hp):PV->V->Prop
 | non:RV ρ H .non .non
 | bl (b:Bool):RV ρ H (.bl b) (.bl b)
 | int (i:Int):RV ρ H (.int i) (.int i)
 | str (x:Str):RV ρ H (.str x) (.str x)
 | tup {l:List PV} {a:Addr} {vs:List V} (h:H a=some (.tup vs)) (r:RVs ρ H l vs):RV ρ H (.tup l) (.ref a)
 | ref {n:Nat} {a:Addr} (h:ρ[n]?=some a):RV ρ H (.ref n) (.ref a)
inductive RVs (ρ:List Addr) (H:Hp):List PV->List V->Prop
 | nil:RVs ρ H [] []
 | cons {x:PV} {v:V} {l:List PV} {vs:List V} (h:RV ρ H x v) (r:RVs ρ H l vs):RVs ρ H (x::l) (v::vs)
end
structure aA(ρ:List Addr)(H:Hp)(ρ':List Addr)(H':Hp):Prop where
 pre:ρ<+:ρ'
 tup:∀a vs,H a=some (.tup vs)->H' a=some (.tup vs)
 xd:∀a fs,H a=some (.xd fs)->H' a=some (.xd fs)
theorem aA.refl(ρ:List Addr)(H:Hp):aA ρ H ρ H:=⟨Jk _,λ_ _ h=>h,λ_ _ h=>h⟩
theorem aA.trans{ρ d e:List Addr}{H g i:Hp}(a:aA ρ H d g)(b:aA d g e i):aA ρ H e i:=⟨a.pre.trans b.pre,λc f h=>b.tup c f (a.tup c f h),λc f h=>b.xd c f (a.xd c f h)⟩
theorem oF{ρ b:List Addr}{n:Nat}{a:Addr}(h:ρ<+:b)(e:ρ[n]?=some a):b[n]?=some a:=by
 obtain⟨t,rfl⟩:=h;rw[JA (IG.mp e).1];exact e
section
variable{ρ ρ':List Addr}{H H':Hp}
mutual
theorem RV.mono(e:aA ρ H ρ' H'):∀{x:PV}{v:V},RV ρ H x v->RV ρ' H' x v
 | _,_,.non=>.non
 | _,_,.bl b=>.bl b
 | _,_,.int i=>.int i
 | _,_,.str x=>.str x
 | _,_,.tup h r=>.tup (e.tup _ _ h) (RVs.mono e r)
 | _,_,.ref h=>.ref (oF e.pre h)
theorem RVs.mono(e:aA ρ H ρ' H'):∀{l:List PV}{vs:List V},RVs ρ H l vs->RVs ρ' H' l vs
 | _,_,.nil=>.nil
 | _,_,.cons h r=>.cons (RV.mono e h) (RVs.mono e r)
end
theorem RVs.length:∀{l:List PV}{vs:List V},RVs a H l vs->l.length=vs.length
 | _,_,.nil=>rfl
 | _,_,.cons _ r=>by simp[RVs.length r]
theorem RVs.get:∀{l:List PV}{vs:List V}{i:Nat}{x:PV},RVs a H l vs->l[i]?=some x->∃v,vs[i]?=some v/\RV a H x v
 | _,_,_,_,.nil,e=>by simp at e
 | _,_,0,_,.cons h _,e=>by simp at e;subst e;exact⟨_,rfl,h⟩
 | _,_,i+1,_,.cons _ r,e=>by
   obtain⟨v,b,c⟩:=RVs.get r (by simpa using e);exact⟨v,by simpa using b,c⟩
theorem RVs.get':∀{l:List PV}{vs:List V}{i:Nat}{v:V},RVs a H l vs->vs[i]?=some v->∃x,l[i]?=some x/\RV a H x v
 | _,_,_,_,.nil,e=>by simp at e
 | _,_,0,_,.cons h _,e=>by simp at e;subst e;exact⟨_,rfl,h⟩
 | _,_,i+1,_,.cons _ r,e=>by
   obtain⟨x,b,c⟩:=RVs.get' r (by simpa using e);exact⟨x,by simpa using b,c⟩
theorem RVs.append:∀{l m:List PV}{vs a:List V},RVs b H l vs->RVs b H m a->RVs b H (l++m) (vs++a)
 | _,_,_,_,.nil,s=>s
 | _,_,_,_,.cons h r,s=>.cons h (RVs.append r s)
theorem RVs.take:∀{l:List PV}{vs:List V}(n:Nat),RVs a H l vs->RVs a H (l.take n) (vs.take n)
 | _,_,0,_=>by simpa using .nil
 | _,_,_+1,.nil=>.nil
 | _,_,n+1,.cons h r=>.cons h (RVs.take n r)
theorem RVs.drop:∀{l:List PV}{vs:List V}(n:Nat),RVs a H l vs->RVs a H (l.drop n) (vs.drop n)
 | _,_,0,r=>r
 | _,_,_+1,.nil=>.nil
 | _,_,n+1,.cons _ r=>RVs.drop n r
theorem RVs.ints(ns:List Int):RVs a H (ns.map .int) (ns.map .int):=by
 induction ns with
 | nil=>exact .nil
 | cons i r ih=>exact .cons (.int i) ih
end
def Fz(K:Io)(H:Hp)(a:Addr)(c:List V):Prop:=
 (∃o,H a=some (.frz o (.lst c)))\/∃(o:Obj)(b:Array Ip)(n:Nat),K.lookup a=some o/\o.cls=.type "list"/\o.dict=none/\o.data=.seq b n/\b.size<=sizeLine/\aF c b.toList
theorem Fz.sq{K:Io}{H:Hp}{a:Addr}{b:List V}(h:Fz K H a b):bE K H a b:=by
 rcases h with⟨o,h⟩ | h
 .exact .inl (.inr ⟨o,h⟩)
 .exact .inr h
noncomputable def X1:PO->Bool
 | .ro _=>false
 | _=>true
noncomputable def sL:PO->Bool
 | .ro _=>false
 | .exc _ _=>false
 | _=>true
theorem z4{o:PO}(h:sL o=true):X1 o=true:=by cases o<;>first | rfl | cases h
structure Pairs{κ κ':Type}(f:κ->κ')(ρ:List Addr)(H:Hp)(kvs:List (κ×PV))(kv:List (κ'×V)):Prop where
 keys:kv.map (·.1)=kvs.map λp=>f p.1
 vals:RVs ρ H (kvs.map (·.2)) (kv.map (·.2))
theorem Pairs.mono{d a:Type}{f:d->a}{ρ b:List Addr}{H H':Hp}{c:List (d×PV)}{g:List (a×V)}(h:Pairs f ρ H c g)(e:aA ρ H b H'):Pairs f b H' c g:=⟨h.keys,h.vals.mono e⟩
noncomputable def o9(i:Nat):Str:=(["Keeper.says_word_on.<locals>.<lambda>","law.<locals>.<lambda>","_law_hand.<locals>.<lambda>"]:List Str).getD i "?"
inductive sM (cm:Nat->Addr) (H:Hp) (j:Nat):Prop
 | mk (ps:Array Ip) (h0:H (cm (31+5*j))=some (.tbl ps)) (h1:TriplesOk ps.toList)
   (h2:∀cv,codeAmong ⟨cm (32+5*j),cm (33+5*j),0,0⟩ ps.toList=some cv->∃c o vs t,cv=.ref c/\H c=some (.frz o (.own c))/\o.data=.fields vs/\vs[1]?=some (.str (o9 (cm (35+5*j))) t)):sM cm H j
def eP(cm:Nat->Addr)(H:Hp):Prop:=∀j,j<cm 30->sM cm H j
theorem eP.keep{cm:Nat->Addr}{H H':Hp}(t:eP cm H)(k:∀a u,H a=some u->((∃b,u=.tbl b)\/∃o c,u=.frz o (.own c))->H' a=some u):eP cm H':=λj d=>by
 obtain⟨b,f,g,h⟩:=t j d;refine⟨b,k _ _ f (.inl ⟨_,rfl⟩),g,λi e=>?_⟩;obtain⟨c,o,l,t,m,n,p⟩:=h i e;exact⟨c,o,l,t,m,k _ _ n (.inr ⟨_,_,rfl⟩),p⟩
section
variable(K:Io)(cm:Nat->Addr)
noncomputable def RO(ρ:List Addr)(H:Hp)(a:Addr):PO->Prop
 | .lst l=>∃f,H a=some (.lst f)/\RVs ρ H l f
 | .ro l=>∃f,Fz K H a f/\RVs ρ H l f
 | .dI e=>∃b,H a=some (.dK b)/\Pairs (JN:Int->Key) ρ H e b
 | .ins c fs=>(c<7/\∀p∈fs,p.1<19)/\∃h b,H a=some (.ins (cm c) h b)/\Pairs cR ρ H fs b
 | .dT e=>∃b,H a=some (.dT b)/\Pairs (OW JN:List Int->List Key) ρ H e b
 | .exc c v=>∃o d g,H a=some (.frz o (.own a))/\o.cls=.ref (cm c)/\o.dict=some d/\(∃vs:Array Ip,o.data=.fields vs/\vs[2]?=some .none)/\H d=some (.xd [("at",g)])/\RV ρ H v g
structure aR(ρ:List Addr)(A:PHp)(H:Hp):Prop where
 tab:eP cm H
 len:ρ.length=A.length
 obj:∀(n:Nat)(o:PO)(a:Addr),A[n]?=some o->ρ[n]?=some a->RO K cm ρ H a o
 inj:∀(m n:Nat)(a:Addr)(o p:PO),ρ[m]?=some a->ρ[n]?=some a->A[m]?=some o->A[n]?=some p->X1 o=true->X1 p=true->m=n
end
section
variable{K:Io}{cm:Nat->Addr}{ρ ρ':List Addr}{H H':Hp}{A:PHp}{a p:Addr}{o:PO}{n:Nat}
theorem RO.keep(r:RO K cm ρ H a o)(e:aA ρ H ρ' H')(b:∀u,H a=some u->H' a=some u):RO K cm ρ' H' a o:=by
 cases o with
 | lst l=>obtain⟨g,h,q⟩:=r;exact⟨g,b _ h,q.mono e⟩
 | ro l=>
   obtain⟨g,h,q⟩:=r;rcases h with⟨u,h⟩ | h
   .exact⟨g,.inl ⟨u,b _ h⟩,q.mono e⟩
   .exact⟨g,.inr h,q.mono e⟩
 | dI i=>obtain⟨f,h,q⟩:=r;exact⟨f,b _ h,q.mono e⟩
 | ins c fs=>obtain⟨j,k,f,h,q⟩:=r;exact⟨j,k,f,b _ h,q.mono e⟩
 | dT i=>obtain⟨f,h,q⟩:=r;exact⟨f,b _ h,q.mono e⟩
 | exc c v=>obtain⟨o,d,m,h,s,w,x,y,q⟩:=r;exact⟨o,d,m,b _ h,s,w,x,e.xd _ _ y,q.mono e⟩
theorem RO.some(r:RO K cm ρ H a o)(m:X1 o=true):∃u,H a=some u:=by
 cases o with
 | lst l=>obtain⟨f,h,q⟩:=r;exact⟨_,h⟩
 | ro l=>simp[X1]at m
 | dI b=>obtain⟨e,h,q⟩:=r;exact⟨_,h⟩
 | ins c fs=>obtain⟨_,g,e,h,q⟩:=r;exact⟨_,h⟩
 | dT b=>obtain⟨e,h,q⟩:=r;exact⟨_,h⟩
 | exc c v=>obtain⟨o,d,i,h,q⟩:=r;exact⟨_,h⟩
theorem R4{u:HO}(c:H p=none):∀b v,H b=some v->aJ H p u b=some v:=λb v h=>by
 rw[ak (G7 h c)];exact h
theorem aA.same{u:HO}(b:H p=none):aA ρ H ρ (aJ H p u):=⟨Jk _,λa c h=>R4 b a _ h,λa c h=>R4 b a _ h⟩
theorem aA.new{u:HO}(b:H p=none):aA ρ H (ρ++[p]) (aJ H p u):=⟨Iu _ _,λa c h=>R4 b a _ h,λa c h=>R4 b a _ h⟩
theorem aR.grow(r:aR K cm ρ A H)(e:aA ρ H ρ H')(c:∀b v,H b=some v->H' b=some v):aR K cm ρ A H':=
 ⟨r.tab.keep λa u h _=>c a u h,r.len,λn o a d f=>(r.obj n o a d f).keep e (c a),r.inj⟩
theorem aR.tup{vs:List V}(r:aR K cm ρ A H)(b:H p=none):aR K cm ρ A (aJ H p (.tup vs)):=r.grow (aA.same b) (R4 b)
theorem aR.alloc{u:HO}(r:aR K cm ρ A H)(w:H p=none)(C:RO K cm (ρ++[p]) (aJ H p u) p o)(O:X1 o=true):aR K cm (ρ++[p]) (A++[o]) (aJ H p u):=by
 have e:aA ρ H (ρ++[p]) (aJ H p u):=aA.new w;have b:∀(n:Nat)(q:PO),ρ[n]?=some p->A[n]?=some q->X1 q=true->False:=λn q d c N=>by
  obtain⟨v,I⟩:=(r.obj n q p c d).some N;rw[w]at I;cases I
 have split:∀{D:Type}{l:List D}{x y:D}{n:Nat},(l++[x])[n]?=some y->l[n]?=some y\/(n=l.length/\y=x):=λ{D l x y n} h=>by
  by_cases C:n<l.length
  .rw[JA C]at h;exact .inl h
  .rw[KP (by omega)]at h;have:n - l.length=0:=by
    by_cases z:n - l.length=0
    .exact z
    .rw[Jv (by simp;omega)]at h;cases h
   rw[this]at h;simp at h;exact .inr ⟨by omega,h.symm⟩
 refine⟨r.tab.keep λa u h _=>R4 w a u h,by simp[r.len],λn q a d c=>?_,λm n a q B d c k s J L=>?_⟩
 .rcases split d with d | ⟨rfl,rfl⟩
  .rcases split c with c | ⟨rfl,rfl⟩
   .exact(r.obj n q a d c).keep e (R4 w a)
   .rw[r.len,Jv (Iw _)]at d;cases d
  .rcases split c with c | ⟨_,rfl⟩
   .rw[<-r.len,Jv (Iw _)]at c;cases c
   .exact C
 .rcases split d with f | ⟨rfl,E⟩<;>rcases split c with g | ⟨rfl,G⟩
  .have i:A[m]?=some q:=by
    rcases split k with k | ⟨rfl,_⟩
    .exact k
    .rw[<-r.len,Jv (Iw _)]at f;cases f
   have j:A[n]?=some B:=by
    rcases split s with s | ⟨rfl,_⟩
    .exact s
    .rw[<-r.len,Jv (Iw _)]at g;cases g
   exact r.inj m n a q B f g i j J L
  .have i:A[m]?=some q:=by
    rcases split k with k | ⟨rfl,_⟩
    .exact k
    .rw[<-r.len,Jv (Iw _)]at f;cases f
   rw[G]at f;exact(b m q f i J).elim
  .have j:A[n]?=some B:=by
    rcases split s with s | ⟨rfl,_⟩
    .exact s
    .rw[<-r.len,Jv (Iw _)]at g;cases g
   rw[E]at g;exact(b n B g j L).elim
  .rfl
theorem aA.put{u:HO}(r:aR K cm ρ A H)(i:ρ[n]?=some a)(j:A[n]?=some o)(m:X1 o=true):aA ρ H ρ (aJ H a u):=by
 have e:∀b w,H b=some w->((∃f,w=.tup f)\/∃fs,w=.xd fs)->aJ H a u b=some w:=λb w h g=>by
  have ne:b≠a:=by
   rintro rfl;have q:=r.obj n o b j i;cases o with
   | ro l=>simp[X1]at m
   | ins c fs=>obtain⟨_,s,k,z,_⟩:=q;rw[h]at z;cases z;rcases g with⟨_,y⟩ | ⟨_,y⟩<;>cases y
   | exc c v=>obtain⟨o,d,x,z,_⟩:=q;rw[h]at z;cases z;rcases g with⟨_,y⟩ | ⟨_,y⟩<;>cases y
   | _=>obtain⟨k,z,_⟩:=q;rw[h]at z;cases z;rcases g with⟨_,y⟩ | ⟨_,y⟩<;>cases y
  rw[ak ne];exact h
 exact⟨Jk _,λb f h=>e b _ h (.inl ⟨_,rfl⟩),λb f h=>e b _ h (.inr ⟨_,rfl⟩)⟩
theorem aR.put{u:HO}{o':PO}(r:aR K cm ρ A H)(E:ρ[n]?=some a)(B:A[n]?=some o)(mt:sL o=true)(m':X1 o'=true)(Q:RO K cm ρ (aJ H a u) a o'):aR K cm ρ (A.set n o') (aJ H a u):=by
 have m:=z4 mt;have e:aA ρ H ρ (aJ H a u):=aA.put r E B m;have T:=E5 B;refine⟨r.tab.keep λb v h G=>?_,by simp[r.len],λk q b C h=>?_,λi j b q U Y e2 e3 e4 m1 m2=>?_⟩
 .have ne:b≠a:=by
   rintro rfl;have q:=r.obj n o b B E;cases o with
   | lst l=>obtain⟨s,z,_⟩:=q;rw[h]at z;cases z;rcases G with⟨_,y⟩ | ⟨_,_,y⟩<;>cases y
   | ro l=>cases mt
   | dI D=>obtain⟨s,z,_⟩:=q;rw[h]at z;cases z;rcases G with⟨_,y⟩ | ⟨_,_,y⟩<;>cases y
   | ins c fs=>obtain⟨_,dx,s,z,_⟩:=q;rw[h]at z;cases z;rcases G with⟨_,y⟩ | ⟨_,_,y⟩<;>cases y
   | dT D=>obtain⟨s,z,_⟩:=q;rw[h]at z;cases z;rcases G with⟨_,y⟩ | ⟨_,_,y⟩<;>cases y
   | exc c v=>cases mt
  rw[ak ne];exact h
 .by_cases g:k=n
  .subst g;rw[aT B]at C;cases C;rw[E]at h;cases h;exact Q
  .rw[G2 g]at C;have J:=r.obj k q b C h;by_cases I:b=a
   .subst I;cases L:X1 q with
    | true=>exact absurd (r.inj k n b q o h E C B L m) g
    | false=>
      cases q with
      | ro l=>
        obtain⟨s,z,w⟩:=J;rcases z with⟨v,z⟩ | z
        .obtain⟨v',N⟩:=(r.obj n o b B E).some m;have:=r.obj n o b B E;rw[z]at N;cases N;cases o with
         | lst l=>obtain⟨s,f,_⟩:=this;rw[z]at f;cases f
         | ro l=>simp[X1]at m
         | dI D=>obtain⟨s,f,_⟩:=this;rw[z]at f;cases f
         | ins c fs=>obtain⟨_,dx,s,f,_⟩:=this;rw[z]at f;cases f
         | dT D=>obtain⟨s,f,_⟩:=this;rw[z]at f;cases f
         | exc c v=>obtain⟨o,d,v',f,_⟩:=this;rw[z]at f;cases f
        .exact⟨s,.inr z,w.mono e⟩
      | _=>simp[X1]at L
   .exact J.keep e λv G=>by rw[ak I];exact G
 .have O:∀(k:Nat)(x:PO),(A.set n o')[k]?=some x->X1 x=true->∃y,A[k]?=some y/\X1 y=true:=λk x C hx=>by
   by_cases g:k=n
   .subst g;exact⟨o,B,m⟩
   .rw[G2 g]at C;exact⟨x,C,hx⟩
  obtain⟨y,y1,y2⟩:=O i q e3 m1;obtain⟨z,z1,z2⟩:=O j U e4 m2;exact r.inj i j b y z Y e2 y1 z1 y2 z2
end
structure cc(ρ:List Addr)(H:Hp)(σp:PSt)(σ:L2.St):Prop where
 len:σ.length=σp.length
 get:∀(i:Nat)(p:PV),σp[i]?=some (some p)->∃v,σ[i]?=some (some v)/\RV ρ H p v
theorem cc.mono{ρ a:List Addr}{H H':Hp}{b:PSt}{σ:L2.St}(h:cc ρ H b σ)(e:aA ρ H a H'):cc a H' b σ:=
 ⟨h.len,λi p c=>let⟨v,d,f⟩:=h.get i p c;⟨v,d,f.mono e⟩⟩
theorem cc.set{ρ:List Addr}{H:Hp}{a:PSt}{σ:L2.St}(h:cc ρ H a σ)(i:Nat){x:PV}{v:V}(r:RV ρ H x v):cc ρ H (a.set i (some x)) (σ.set i (some v)):=by
 refine⟨by simp[h.len],λj p b=>?_⟩;by_cases c:i=j
 .subst c;by_cases d:i<a.length
  .rw[List.getElem?_set]at b;simp[d]at b;subst b;exact⟨v,by simp[h.len,d],r⟩
  .rw[Jv (by simp;omega)]at b;cases b
 .rw[MM c]at b ⊢;exact h.get j p b
section
variable(K:Io)(cm:Nat->Addr)
inductive cW (d:ED) (σ:L2.St) (H:Hp) (Q:VK):Prop
 | mk (ρ:List Addr) (A:PHp) (σp:PSt) (v:PV) (A':PHp) (h0:aR K cm ρ A H) (h1:cc ρ H σp σ) (h2:d σp A=.ok v A') (h3:∀ρ' H' v',aA ρ H ρ' H'->aR K cm ρ' A' H'->RV ρ' H' v v'->Q v' H'):cW d σ H Q
inductive gq (d:TD) (σ:L2.St) (H:Hp) (Q:Bool->Hp->Prop):Prop
 | mk (ρ:List Addr) (A:PHp) (σp:PSt) (b:Bool) (A':PHp) (h0:aR K cm ρ A H) (h1:cc ρ H σp σ) (h2:d σp A=.ok b A') (h3:∀ρ' H',aA ρ H ρ' H'->aR K cm ρ' A' H'->Q b H'):gq d σ H Q
inductive gr (d:AD) (σ:L2.St) (H:Hp) (Q:List V->Hp->Prop):Prop
 | mk (ρ:List Addr) (A:PHp) (σp:PSt) (vs:List PV) (A':PHp) (h0:aR K cm ρ A H) (h1:cc ρ H σp σ) (h2:d σp A=.ok vs A') (h3:∀ρ' H' vs',aA ρ H ρ' H'->aR K cm ρ' A' H'->RVs ρ' H' vs vs'->Q vs' H'):gr d σ H Q
inductive jm (g:GD) (v:V) (σ:L2.St) (H:Hp) (Q:L2.St->Hp->Prop):Prop
 | mk (ρ:List Addr) (A:PHp) (σp:PSt) (x:PV) (σp':PSt) (A':PHp) (h0:aR K cm ρ A H) (h1:cc ρ H σp σ) (h2:RV ρ H x v) (h3:g x σp A=.ok σp' A') (h4:∀ρ' H' σ',aA ρ H ρ' H'->aR K cm ρ' A' H'->cc ρ' H' σp' σ'->Q σ' H'):jm g v σ H Q
inductive kd (g:GDs) (vs:List V) (σ:L2.St) (H:Hp) (Q:L2.St->Hp->Prop):Prop
 | mk (ρ:List Addr) (A:PHp) (σp:PSt) (xs:List PV) (σp':PSt) (A':PHp) (h0:aR K cm ρ A H) (h1:cc ρ H σp σ) (h2:RVs ρ H xs vs) (h3:g xs σp A=.ok σp' A') (h4:∀ρ' H' σ',aA ρ H ρ' H'->aR K cm ρ' A' H'->cc ρ' H' σp' σ'->Q σ' H'):kd g vs σ H Q
noncomputable def oG(D:w9)(ρ:List Addr)(H:Hp):Fl->Prop
 | .nx a=>∀b,cc ρ H a b->D.nx b H
 | .bk a=>∀b,cc ρ H a b->D.bk b H
 | .ct a=>∀b,cc ρ H a b->D.ct b H
 | .rt v=>∀c,RV ρ H v c->D.rt c H
inductive fK (s:SD) (D:w9) (σ:L2.St) (H:Hp):Prop
 | mk (ρ:List Addr) (A:PHp) (σp:PSt) (f:Fl) (A':PHp) (h0:aR K cm ρ A H) (h1:cc ρ H σp σ) (h2:s σp A=.ok f A') (h3:∀ρ' H',aA ρ H ρ' H'->aR K cm ρ' A' H'->oG D ρ' H' f):fK s D σ H
end
section
variable(X:Cx)(cm:Nat->Addr)
abbrev Pe(e:Expr)(d:ED):Prop:=PE X e (cW X.K cm d)
abbrev Pt(e:Expr)(d:TD):Prop:=PT X e (gq X.K cm d)
abbrev Pw(e:Expr)(d:TD):Prop:=PW X e (gq X.K cm d)
abbrev Pa(e:List Expr)(d:AD):Prop:=PA X e (gr X.K cm d)
abbrev Ps(e:Stmt)(d:SD):Prop:=PS X e (fK X.K cm d)
abbrev ic(e:List Stmt)(d:SD):Prop:=cC X e (fK X.K cm d)
abbrev Pg(e:Expr)(d:GD):Prop:=PG X e (jm X.K cm d)
end
section
variable{X:Cx}{cm:Nat->Addr}
theorem D7{e:Expr}{t t':TE}(h:PE X e t)(k:∀a H Q,t' a H Q->t a H Q):PE X e t':=λb s a H Q I q=>h b s a H Q I (k a H Q q)
theorem jn{e:Expr}{t t':TT}(h:PT X e t)(k:∀a H Q,t' a H Q->t a H Q):PT X e t':=λb s a H Q I q=>h b s a H Q I (k a H Q q)
theorem sN{e:Expr}{t t':TT}(h:PW X e t)(k:∀a H Q,t' a H Q->t a H Q):PW X e t':=λw b s a H Q I q=>h w b s a H Q I (k a H Q q)
theorem sO{c:List Expr}{t t':TA}(h:PA X c t)(k:∀a H Q,t' a H Q->t a H Q):PA X c t':=λpos b s a H Q I q=>h pos b s a H Q I (k a H Q q)
theorem W0{st:Stmt}{t t':TS}(h:PS X st t)(k:∀D a H,t' D a H->t D a H):PS X st t':=λb s a H D I q=>h b s a H D I (k D a H q)
theorem lJ{st:List Stmt}{t t':TS}(h:cC X st t)(k:∀D a H,t' D a H->t D a H):cC X st t':=λb s a H D I q=>h b s a H D I (k D a H q)
theorem sP{e:Expr}{t t':TG}(h:PG X e t)(k:∀v a H Q,t' v a H Q->t v a H Q):PG X e t':=λb s a H v u Q I r q=>h b s a H v u Q I r (k v a H Q q)
theorem sQ{c:List Expr}{t t':TGs}(h:gm X c t)(k:∀v a H Q,t' v a H Q->t v a H Q):gm X c t':=λb s a H d e Q I r q=>h b s a H d e Q I r (k d a H Q q)
theorem oH{i:Nat}{e:Expr}(h:PE X e (fN i)):Pe X cm e (aa i):=D7 h λo H Q b=>by
 obtain⟨c,A,a,v,d,r,f,g,k⟩:=b;have:∃p,a[i]?=some (some p)/\v=p/\d=A:=by
  unfold aa at g;rcases j:a[i]? with _ | (_ | p)
  .simp_all
  .simp_all
  .simp_all
 obtain⟨p,l,rfl,rfl⟩:=this;obtain⟨u,m,n⟩:=f.get i _ l;exact⟨u,m,k c H u (aA.refl _ _) r n⟩
theorem jo{e:Expr}{x:PV}{u:V}(h:PE X e (tC u))(b:∀a H,RV a H x u):Pe X cm e (eK x):=D7 h λg H Q c=>by
 obtain⟨a,A,d,v,i,r,j,f,k⟩:=c;cases f;exact k a H u (aA.refl _ _) r (b a H)
theorem au{i:Int}{j pos}:Pe X cm (.Constant (.int i) j pos) (eK (.int i)):=jo qU λ_ _=>.int i
theorem u8{b:Bool}{j pos}:Pe X cm (.Constant (.bool b) j pos) (eK (.bl b)):=jo wY λ_ _=>.bl b
theorem lK{j pos}:Pe X cm (.Constant .none j pos) (eK .non):=jo wZ λ_ _=>.non
def W2(K:Io)(cm:Nat->Addr)(f:OD)(r:R2):Prop:=∀b A H x y z d e g (Q:VK),aR K cm b A H->RV b H x e->RV b H y g->f x y A=.ok z d->
 (∀a c h,aA b H a c->aR K cm a d c->RV a c z h->Q h c)->r e g H Q
theorem lL{f:OD}{r:R2}{a b:ED}(B:W2 X.K cm f r){σ:L2.St}{H:Hp}{Q:VK}(h:cW X.K cm (aq f a b) σ H Q):jO r (cW X.K cm a) (cW X.K cm b) σ H Q:=by
 obtain⟨C,A,c,z,D,E,q,d,k⟩:=h;obtain⟨x,s,G,d⟩:=B0 d;obtain⟨y,u,I,d⟩:=B0 d;exact⟨C,A,c,x,s,E,q,G,λe Y J v g i=>⟨e,s,c,y,u,g,q.mono v,I,λj L N w l m=>B j u L x y z D J N Q l (i.mono w) m d λn O T U o p=>k n O T ((v.trans w).trans U) o p⟩⟩
theorem aI{op:Operator}{f:OD}{r:R2}{a b:Expr}{c d:ED}{pos:Pos}(e:cq X (binaryOp op) r)(g:W2 X.K cm f r)(i:Pe X cm a c)(j:Pe X cm b d):Pe X cm (.BinOp a op b pos) (aq f c d):=
 D7 (ya e i j) λk H Q h=>lL g h
theorem W4{op:Px}{f:OD}{r:R2}{a b:Expr}{c d:ED}{pos:Pos}(e:cq X (compareOp op) r)(g:W2 X.K cm f r)(i:Pe X cm a c)(j:Pe X cm b d)(k:behindInMarks op b=false):Pe X cm (.Compare a [op] [b] pos) (aq f c d):=
 D7 (yh e i j k) λl H Q h=>lL g h
theorem kf{d:ED}{t:TE}(h:∀σ H Q,cW X.K cm d σ H Q->t σ H Q){σ:L2.St}{H:Hp}{Q:Bool->Hp->Prop}(q:gq X.K cm (E4 d) σ H Q):rB t σ H Q:=by
 obtain⟨j,A,e,b,s,l,m,a,k⟩:=q;obtain⟨x,n,o,a⟩:=B0 a;refine h σ H _ ⟨j,A,e,x,n,l,m,o,λf p u r g i=>?_⟩;cases x with
 | bl c=>
   cases a;cases i;exact⟨_,rfl,k f p r g⟩
 | _=>cases a
theorem E7{op:Px}{f:OD}{r:R2}{a b:Expr}{c d:ED}{pos:Pos}(e:cq X (compareOp op) r)(g:W2 X.K cm f r)(i:Pe X cm a c)(j:Pe X cm b d)(k:behindInMarks op b=false):Pt X cm (.Compare a [op] [b] pos) (E4 (aq f c d)):=
 jn (yi e i j k) λl H Q h=>kf (λ_ _ _=>lL g) h
theorem K5{e:Expr}{d:ED}(h:Pe X cm e d)(he:∀whole,isTrue e X.env whole=(do let v <-whole;standAt e.pos;holding [v] (truthy v)):=by intro _;rfl):Pt X cm e (E4 d):=
 jn (xh h he) λa H Q q=>kf (λ_ _ _ z=>z) q
theorem oJ{f:OD}{g:Int->Int->PV}{g':Int->Int->V}{C:Int->Int->Prop}(h:∀x y A z a,f x y A=.ok z a->∃i j,x=.int i/\y=.int j/\C i j/\z=g i j/\a=A)(c:∀b H i j,RV b H (g i j) (g' i j))(K:Io)(cm:Nat->Addr):W2 K cm f (rI C g'):=
 λb A H x y z a o p Q d e l m k=>by
  obtain⟨i,j,rfl,rfl,n,rfl,rfl⟩:=h _ _ _ _ _ m;cases e;cases l;exact⟨i,j,rfl,rfl,n,k b H _ (aA.refl _ _) d (c _ _ _ _)⟩
theorem kh{f:OD}{g:Int->Int->PV}{g':Int->Int->V}(h:∀x y A z a,f x y A=.ok z a->∃i j,x=.int i/\y=.int j/\z=g i j/\a=A)(c:∀b H i j,RV b H (g i j) (g' i j))(K:Io)(cm:Nat->Addr):W2 K cm f (eZ g'):=
 λb A H x y z a n o Q d e l m k=>by
  obtain⟨i,j,rfl,rfl,rfl,rfl⟩:=h _ _ _ _ _ m;cases e;cases l;exact⟨i,j,rfl,rfl,k b H _ (aA.refl _ _) d (c _ _ _ _)⟩
theorem oK:W2 X.K cm jR (eZ λi j=>.int (i - j)):=kh (λx y A z a h=>by cases x<;>cases y<;>first | (cases h;exact⟨_,_,rfl,rfl,rfl,rfl⟩) | cases h) (λ_ _ _ _=>.int _) _ _
theorem gD:W2 X.K cm fR (eZ λi j=>.bl (decide (i<j))):=kh (λx y A z a h=>by cases x<;>cases y<;>first | (cases h;exact⟨_,_,rfl,rfl,rfl,rfl⟩) | cases h) (λ_ _ _ _=>.bl _) _ _
theorem ki:W2 X.K cm iM (eZ λi j=>.bl (decide (i<=j))):=kh (λx y A z a h=>by cases x<;>cases y<;>first | (cases h;exact⟨_,_,rfl,rfl,rfl,rfl⟩) | cases h) (λ_ _ _ _=>.bl _) _ _
theorem z5:W2 X.K cm nM (eZ λi j=>.bl (decide (j<i))):=kh (λx y A z a h=>by cases x<;>cases y<;>first | (cases h;exact⟨_,_,rfl,rfl,rfl,rfl⟩) | cases h) (λ_ _ _ _=>.bl _) _ _
theorem z6:W2 X.K cm sm (eZ λi j=>.bl (decide (j<=i))):=kh (λx y A z a h=>by cases x<;>cases y<;>first | (cases h;exact⟨_,_,rfl,rfl,rfl,rfl⟩) | cases h) (λ_ _ _ _=>.bl _) _ _
theorem cw:W2 X.K cm dF (rI (λ_ j=>0<j) λi j=>.int (i%j)):=oJ (λx y A z a h=>by
 cases x<;>cases y<;>first | (obtain⟨c,h⟩:=C7 h;cases h;exact⟨_,_,rfl,rfl,c,rfl,rfl⟩) | cases h) (λ_ _ _ _=>.int _) _ _
theorem Aa:W2 X.K cm nL (rI rA λi j=>.int (i / j)):=oJ (λx y A z a h=>by
 cases x<;>cases y<;>first | (obtain⟨c,h⟩:=C7 h;cases h;exact⟨_,_,rfl,rfl,c,rfl,rfl⟩) | cases h) (λ_ _ _ _=>.int _) _ _
theorem oM:W2 X.K cm jS (rI gz λi j=>.int (i*j)):=oJ (λx y A z a h=>by
 cases x<;>cases y<;>first | (obtain⟨c,h⟩:=C7 h;cases h;exact⟨_,_,rfl,rfl,c,rfl,rfl⟩) | cases h) (λ_ _ _ _=>.int _) _ _
end
section
variable{K:Io}{ρ:List Addr}{H:Hp}{A:PHp}{n:Nat}{v:V}{l:List PV}
theorem L3{cm:Nat->Addr}{A':PHp}(g:aR K cm ρ A H)(r:RV ρ H (.ref n) v)(h:G6 n A=.ok l A'):A'=A/\∃a d,v=.ref a/\bE K H a d/\RVs ρ H l d:=by
 cases r with
 | ref i=>
   unfold G6 at h;rcases b:A[n]? with _ | o
   .rw[b]at h;cases h
   .have q:=g.obj n o _ b i;cases o with
    | lst m=>rw[b]at h;cases h;obtain⟨d,e,f⟩:=q;exact⟨rfl,_,d,rfl,bE.of e,f⟩
    | ro m=>rw[b]at h;cases h;obtain⟨d,e,f⟩:=q;exact⟨rfl,_,d,rfl,e.sq,f⟩
    | dI m=>rw[b]at h;cases h
    | ins c m=>rw[b]at h;cases h
    | dT m=>rw[b]at h;cases h
    | exc c m=>rw[b]at h;cases h
theorem P7{cm:Nat->Addr}{A':PHp}(f:aR K cm ρ A H)(r:RV ρ H (.ref n) v)(h:T3 n A=.ok l A'):A'=A/\A[n]?=some (.lst l)/\∃a d,v=.ref a/\ρ[n]?=some a/\H a=some (.lst d)/\RVs ρ H l d:=by
 cases r with
 | ref e=>
   unfold T3 at h;rcases b:A[n]? with _ | o
   .rw[b]at h;cases h
   .have q:=f.obj n o _ b e;cases o with
    | lst m=>rw[b]at h;cases h;obtain⟨d,g,i⟩:=q;exact⟨rfl,rfl,_,d,rfl,e,g,i⟩
    | ro m=>rw[b]at h;cases h
    | dI m=>rw[b]at h;cases h
    | ins c m=>rw[b]at h;cases h
    | dT m=>rw[b]at h;cases h
    | exc c m=>rw[b]at h;cases h
theorem kj{cm:Nat->Addr}{c:Nat}{fs:List (Nat×PV)}{a:Addr}(b:aR K cm ρ A H)(d:A[n]?=some (.ins c fs))(e:ρ[n]?=some a):c<7:=(b.obj n _ _ d e).1.1
theorem lM{cm:Nat->Addr}{A':PHp}{o:Nat×List (Nat×PV)}(g:aR K cm ρ A H)(r:RV ρ H (.ref n) v)(h:z9 n A=.ok o A'):A'=A/\A[n]?=some (.ins o.1 o.2)/\∃a e d,v=.ref a/\ρ[n]?=some a/\H a=some (.ins (cm o.1) e d)/\Pairs cR ρ H o.2 d/\∀p∈o.2,p.1<19:=by
 cases r with
 | ref f=>
   unfold z9 at h;rcases b:A[n]? with _ | o
   .rw[b]at h;cases h
   .have q:=g.obj n o _ b f;cases o with
    | lst m=>rw[b]at h;cases h
    | ro m=>rw[b]at h;cases h
    | dI m=>rw[b]at h;cases h
    | ins c m=>rw[b]at h;cases h;obtain⟨i,e,d,j,k⟩:=q;exact⟨rfl,rfl,_,e,d,rfl,f,j,k,i.2⟩
    | dT m=>rw[b]at h;cases h
    | exc c m=>rw[b]at h;cases h
theorem l6{cm:Nat->Addr}{x:PV}{A':PHp}(f:aR K cm ρ A H)(r:RV ρ H x v)(h:P6 x A=.ok l A'):A'=A/\∃a b,v=.ref a/\(bE K H a b\/cB K H a b)/\RVs ρ H l b:=by
 cases x with
 | ref n=>
   obtain⟨e,a,b,c,d,g⟩:=L3 f r h;exact⟨e,a,b,c,.inl d,g⟩
 | tup m=>
   cases h;cases r with
   | tup c d=>exact⟨rfl,_,_,rfl,.inr (cB.of c),d⟩
 | _=>cases h
theorem Ab{b:Type}(a:List b)(i:Int):L2.atI a i=atI a i:=rfl
theorem RVs.at{a:List V}{i:Int}{x:PV}(r:RVs ρ H l a)(h:atI l i=some x):∃u,L2.atI a i=some u/\RV ρ H x u:=by
 rw[Ab];unfold atI at h ⊢;rw[<-r.length];rcases e:ixN l.length i with _ | j
 .rw[e]at h;cases h
 .rw[e]at h;obtain⟨u,b,c⟩:=r.get (i:=j) h;exact⟨u,b,c⟩
theorem lN(n d:Nat)(o:Option Int):HT.sIx n d o=Z8 n d o:=by
 cases o with
 | none=>rfl
 | some v=>
   have e:=HT.dQ v n d;show HT.sIx n d _=if v<0 then(max (v+n) 0).toNat else(min v n).toNat;by_cases h:v<0
   .rw[if_pos h]at e ⊢;omega
   .rw[if_neg h]at e ⊢;omega
theorem RVs.slc{a:List V}(r:RVs ρ H l a)(lo b:Option Int):RVs ρ H (ek l lo b) (iJ a lo b):=by
 unfold ek iJ;rw[lN,lN,<-r.length];exact(r.drop _).take _
end
theorem X2{n:Nat}(h:n<=LIM):n<=sizeLine:=Jm h (by unfold LIM;decide)
theorem lO{n:Nat}(h:n<LIM):n<sizeLine:=IL h (by unfold LIM;decide)
section
variable{X:Cx}{cm:Nat->Addr}
noncomputable def oN(K:Io):R2:=λx y H Q=>(∃i j,x=.int i/\y=.int j/\Q (.int (i+j)) H)\/(rT K x y H Q\/rCat x y H Q)
theorem op_add3:cq X (binaryOp .Add) (oN X.K):=op_add.or (op_catT.or zo)
theorem aN:W2 X.K cm U4 (oN X.K):=λq A H x y z N O T Q f r s d k=>by
 cases x with
 | int i=>
   cases y with
   | int j=>cases d;cases r;cases s;exact .inl ⟨i,j,rfl,rfl,k q H _ (aA.refl _ _) f (.int _)⟩
   | _=>cases d
 | tup l=>
   cases y with
   | tup m=>
     obtain⟨c,d⟩:=C7 d;cases d;cases r with
     | tup B g=>
       cases s with
       | tup E o=>
         refine .inr (.inl ⟨_,_,_,_,rfl,rfl,cB.of B,cB.of E,?_,?_,?_⟩)
         .intro e;subst e;have:=g.length;exact c.1 (NM.mp (by simpa using this))
         .rw[<-g.length,<-o.length];exact X2 c.2
         .refine⟨λz=>?_,λ_ p h=>?_⟩
          .subst z;cases o;refine k q H _ (aA.refl _ _) f ?_;rw[JD];exact .tup B g
          .refine k q _ _ (aA.same h) (f.tup h) (.tup C8 ?_);exact(g.mono (aA.same h)).append (o.mono (aA.same h))
   | _=>cases d
 | ref n=>
   cases y with
   | ref m=>
     obtain⟨U,Y,G,u⟩:=B0 d;obtain⟨rfl,_,a,C,rfl,_,I,g⟩:=P7 f r G;obtain⟨l2,A2,J,v⟩:=B0 u;obtain⟨rfl,_,b,D,rfl,_,L,o⟩:=P7 f s J;obtain⟨c,w⟩:=C7 v;cases w;refine .inr (.inr ⟨a,b,C,D,rfl,rfl,I,L,?_,λp h=>?_⟩)
     .rw[<-g.length,<-o.length];exact X2 c
     .have e:aA q H _ (aJ H p (.lst (C++D))):=aA.new h;exact k _ _ _ e (f.alloc h ⟨_,C8,(g.mono e).append (o.mono e)⟩ rfl) (.ref (by rw[<-f.len];simp))
   | _=>cases d
 | _=>cases y<;>cases d
noncomputable def sR(K:Io):R2:=λx y H Q=>rY K x y H Q\/rZ K x y H Q
theorem Ac:gZ X (sR X.K):=ix_list.or za
theorem Ad:W2 X.K cm bW (sR X.K):=λg A H x y z r s v Q e n o h k=>by
 cases y with
 | int i=>
   obtain⟨l,B,p,b⟩:=B0 h;obtain⟨rfl,a,j,rfl,c,q⟩:=l6 e n p;rcases f:atI l i with _ | u
   .rw[f]at b;cases b
   .rw[f]at b;cases b;cases o;obtain⟨w,m,d⟩:=q.at f;rcases c with c | c
    .exact .inl ⟨a,j,i,w,rfl,rfl,c,m,k g H w (aA.refl _ _) e d⟩
    .exact .inr ⟨a,j,i,w,rfl,rfl,c,m,k g H w (aA.refl _ _) e d⟩
 | _=>cases h
theorem ba{a b:Expr}{c d:ED}{pos:Pos}(e:Pe X cm a c)(f:Pe X cm b d)(hs:rW b):Pe X cm (.Subscript a b pos) (aq bW c d):=
 D7 (y0 Ac e f hs) λg H Q h=>lL Ad h
theorem oO{ρ:List Addr}{H:Hp}{x:PV}{v:V}(r:RV ρ H x v):decide (v=.non)=jU x:=by
 cases r<;>simp
theorem Ae{a:Expr}{h:ED}{j:Nat}{pos b:Pos}(i:Pe X cm a h):Pe X cm (.Compare a [.Is] [.Constant .none j b] pos) (hJ h):=
 D7 (qY (qX i)) λu H Q l=>by
  obtain⟨m,A,c,v,n,o,p,d,k⟩:=l;obtain⟨x,w,q,d⟩:=B0 d;cases d;exact⟨m,A,c,x,n,o,p,q,λe r y s f g=>k e r _ s f (by rw[oO g];exact .bl _)⟩
theorem lP{a:Expr}{h:ED}{j:Nat}{pos b:Pos}(i:Pe X cm a h):Pt X cm (.Compare a [.Is] [.Constant .none j b] pos) (E4 (hJ h)):=
 jn (nc (qX i)) λσ H Q q=>kf (λσ H Q l=>by
  obtain⟨ρ,A,c,v,A',m,n,d,k⟩:=l;obtain⟨x,s,o,d⟩:=B0 d;cases d;exact⟨ρ,A,c,x,A',m,n,o,λe p u r f g=>k e p _ r f (by rw[oO g];exact .bl _)⟩) q
theorem sS{a:Expr}{h:ED}{j:Nat}{pos b:Pos}(i:Pe X cm a h):Pt X cm (.Compare a [.IsNot] [.Constant .none j b] pos) (E4 (lz h)):=
 jn (nc (xf i)) λσ H Q q=>kf (λσ H Q l=>by
  obtain⟨ρ,A,c,v,A',m,n,d,k⟩:=l;obtain⟨x,s,o,d⟩:=B0 d;cases d;exact⟨ρ,A,c,x,A',m,n,o,λe p u r f g=>k e p _ r f (by rw[oO g];exact .bl _)⟩) q
theorem Af{f g:OD}{r L:R2}{a b c:ED}(hf:W2 X.K cm f r)(hg:W2 X.K cm g L){σ:L2.St}{H:Hp}{Q:VK}(h:cW X.K cm (jj f g a b c) σ H Q):rD r L (cW X.K cm a) (cW X.K cm b) (cW X.K cm c) σ H Q:=by
 obtain⟨ρ,A,e,z,A',rl,o,d,k⟩:=h;obtain⟨x,N,e1,d⟩:=B0 d;obtain⟨y,O,e2,d⟩:=B0 d;obtain⟨m,T,e3,d⟩:=B0 d;refine⟨ρ,A,e,x,N,rl,o,e1,λp H1 vx U q s=>⟨p,N,e,y,O,q,o.mono U,e2,λv H2 Y x2 w j=>hf v O H2 x y m T vx Y _ w (s.mono x2) j e3 λl H3 v3 x3 n B=>?_⟩⟩;have i:=(U.trans x2).trans x3;cases m with
 | bl t=>
   cases B;refine⟨t,rfl,?_⟩;cases t with
   | true=>
     obtain⟨u,A4,e4,d⟩:=B0 d;exact⟨l,T,e,u,A4,n,o.mono i,e4,λC H4 v4 x4 D E=>hg C A4 H4 y u z A' Y v4 Q D ((j.mono x3).mono x4) E d λG H5 v5 x5 I J=>k G H5 v5 ((i.trans x4).trans x5) I J⟩
   | false=>
     cases d;exact k l H3 _ i n (.bl false)
 | _=>cases d
theorem oP{op d:Px}{f g:OD}{r i:R2}{a b c:Expr}{j k l:ED}{pos:Pos}(m:cq X (compareOp op) r)(n:W2 X.K cm f r)(e:cq X (compareOp d) i)(o:W2 X.K cm g i)
 (p:Pe X cm a j) (q:Pe X cm b k) (s:Pe X cm c l) (u:lastMarks [op,d] [b,c]=false:=by with_unfolding_all rfl):Pe X cm (.Compare a [op,d] [b,c] pos) (jj f g j k l):=
 D7 (yj m e p q s u) λv H Q h=>Af n o h
theorem P8{a:Expr}{t:TD}{pos:Pos}(h:Pt X cm a t):Pt X cm (.UnaryOp .Not a pos) (tNot t):=jn (xn h) λr H Q i=>by
 obtain⟨j,A,d,b,l,m,n,e,k⟩:=i;obtain⟨c,s,o,e⟩:=B0 e;cases e;exact⟨j,A,d,c,l,m,n,o,λf p q g=>k f p q g⟩
theorem kl{a:Expr}{t:TD}{pos:Pos}(h:Pt X cm a t):Pw X cm (.BoolOp .And [a] pos) t:=xi h
theorem X3{a:Expr}{t:TD}{pos:Pos}(h:Pt X cm a t):Pw X cm (.BoolOp .Or [a] pos) t:=xj h
theorem u9{a b:Expr}{rest:List Expr}{t u:TD}{pos:Pos}(n:Pt X cm a t)(o:Pw X cm (.BoolOp .And (b::rest) pos) u):Pw X cm (.BoolOp .And (a::b::rest) pos) (tAnd t u):=
 sN (xl n o) λB H Q p=>by
  obtain⟨q,A,d,z,r,s,l,g,k⟩:=p;obtain⟨c,m,v,g⟩:=B0 g;refine⟨q,A,d,c,m,s,l,v,λe w h f=>?_⟩;cases c with
  | true=>exact⟨e,m,d,z,r,f,l.mono h,g,λi x y j=>k i x (h.trans y) j⟩
  | false=>cases g;exact k e w h f
theorem i4{a b:Expr}{rest:List Expr}{t u:TD}{pos:Pos}(n:Pt X cm a t)(o:Pw X cm (.BoolOp .Or (b::rest) pos) u):Pw X cm (.BoolOp .Or (a::b::rest) pos) (tOr t u):=
 sN (xm n o) λB H Q p=>by
  obtain⟨q,A,d,z,r,s,l,g,k⟩:=p;obtain⟨c,m,v,g⟩:=B0 g;refine⟨q,A,d,c,m,s,l,v,λe w h f=>?_⟩;cases c with
  | true=>cases g;exact k e w h f
  | false=>exact⟨e,m,d,z,r,f,l.mono h,g,λi x y j=>k i x (h.trans y) j⟩
theorem oQ{x:PV}{A A':PHp}{c:Bool}(h:jV x A=.ok c A'):x=.bl c/\A'=A:=by
 cases x with
 | bl b=>cases h;exact⟨rfl,rfl⟩
 | _=>cases h
theorem U7{a:Expr}{d:ED}{pos:Pos}(h:Pe X cm a d):Pe X cm (.BoolOp .And [a] pos) d:=qZ h
theorem Ag{a:Expr}{d:ED}{pos:Pos}(h:Pe X cm a d):Pe X cm (.BoolOp .Or [a] pos) d:=qZ h
theorem X4{a b:Expr}{rest:List Expr}{d u:ED}{pos:Pos}(p:Pe X cm a d)(q:Pe X cm (.BoolOp .And (b::rest) pos) u):Pe X cm (.BoolOp .And (a::b::rest) pos) (j6 d u):=
 D7 (xu p q) λG H Q r=>by
  obtain⟨s,A,e,z,v,w,o,h,k⟩:=r;obtain⟨c,I,i,h⟩:=B0 h;obtain⟨x,J,y,i⟩:=B0 i;obtain⟨rfl,rfl⟩:=oQ i;refine⟨s,A,e,_,_,w,o,y,λf B L j g l=>?_⟩;cases l;refine⟨c,rfl,?_⟩;cases c with
  | true=>exact⟨f,_,e,z,v,g,o.mono j,h,λm C D E n=>k m C D (j.trans E) n⟩
  | false=>cases h;exact k f B _ j g (.bl false)
theorem Ah{a b:Expr}{rest:List Expr}{d u:ED}{pos:Pos}(p:Pe X cm a d)(q:Pe X cm (.BoolOp .Or (b::rest) pos) u):Pe X cm (.BoolOp .Or (a::b::rest) pos) (nO d u):=
 D7 (xw p q) λG H Q r=>by
  obtain⟨s,A,e,z,v,w,o,h,k⟩:=r;obtain⟨c,I,i,h⟩:=B0 h;obtain⟨x,J,y,i⟩:=B0 i;obtain⟨rfl,rfl⟩:=oQ i;refine⟨s,A,e,_,_,w,o,y,λf B L j g l=>?_⟩;cases l;refine⟨c,rfl,?_⟩;cases c with
  | true=>cases h;exact k f B _ j g (.bl true)
  | false=>exact⟨f,_,e,z,v,g,o.mono j,h,λm C D E n=>k m C D (j.trans E) n⟩
theorem sT{a:Expr}{d:ED}{pos:Pos}(j:Pe X cm a d):Pe X cm (.UnaryOp .Not a pos) (nQ d):=
 D7 (xx j) λs H Q l=>by
  obtain⟨m,A,b,z,u,n,o,e,k⟩:=l;obtain⟨c,v,f,e⟩:=B0 e;obtain⟨x,w,p,f⟩:=B0 f;obtain⟨rfl,rfl⟩:=oQ f;cases e;refine⟨m,A,b,_,_,n,o,p,λg q y r h i=>?_⟩;cases i;exact⟨c,rfl,k g q _ r h (.bl _)⟩
theorem sU{c a b:Expr}{t:TD}{d u:ED}{pos:Pos}(s:Pt X cm c t)(v:Pe X cm a d)(w:Pe X cm b u):Pe X cm (.IfExp c a b pos) (lA t d u):=
 D7 (xA s v w) λD H Q x=>by
  obtain⟨y,A,e,z,r,B,m,j,k⟩:=x;obtain⟨c,n,C,j⟩:=B0 j;refine⟨y,A,e,c,n,B,m,C,λh E l i=>?_⟩;cases c with
  | true=>exact⟨h,n,e,z,r,i,m.mono l,j,λf o p q g=>k f o p (l.trans q) g⟩
  | false=>exact⟨h,n,e,z,r,i,m.mono l,j,λf o p q g=>k f o p (l.trans q) g⟩
theorem r_nil:Pa X cm [] aNil:=sO lq λf H Q a=>by
 obtain⟨b,A,c,g,h,d,i,e,k⟩:=a;cases e;exact k b H [] (aA.refl _ _) d .nil
theorem r_cons{e:Expr}{c:List Expr}{d:ED}{n:AD}(h:Pe X cm e d)(s:Pa X cm c n)(hs:starEach (e::c) X.env=(false,eval e X.env)::starEach c X.env:=by exact D6 rfl):Pa X cm (e::c) (ag d n):=
 sO (d7 h s hs) λG H Q u=>by
  obtain⟨v,A,a,I,w,y,o,b,k⟩:=u;obtain⟨x,p,z,b⟩:=B0 b;obtain⟨B,J,C,b⟩:=B0 b;cases b;exact⟨v,A,a,x,p,y,o,z,λf L N q g i=>⟨f,p,a,B,w,g,o.mono q,C,λj D E r l m=>k j D _ (q.trans r) l (.cons (i.mono r) m)⟩⟩
theorem aW{l:List Expr}{m:AD}{f:Nat}{pos:Pos}(h:Pa X cm l m):Pe X cm (.Tuple l f pos) (U3 m):=
 D7 (yE h) λz H Q q=>by
  obtain⟨r,A,g,v,s,u,w,b,k⟩:=q;obtain⟨x,B,y,b⟩:=B0 b;obtain⟨c,b⟩:=C7 b;cases b;refine⟨r,A,g,x,s,u,w,y,λa n i f j d=>⟨by rw[<-d.length];exact X2 c,λp o=>?_⟩⟩;have e:aA a n a (aJ n p (.tup i)):=aA.same o;exact k a _ _ (f.trans e) (j.tup o) (.tup C8 (d.mono e))
theorem bz{j:List Expr}{l:AD}{pos:Pos}(h:Pa X cm j l):Pe X cm (.List j pos) (bL l):=
 D7 (yF h) λz H Q o=>by
  obtain⟨q,A,f,v,B,r,s,a,k⟩:=o;obtain⟨u,w,x,a⟩:=B0 a;obtain⟨c,a⟩:=C7 a;cases a;refine⟨q,A,f,u,w,r,s,x,λg m i y b d=>⟨by rw[<-d.length];exact X2 c,λp n=>?_⟩⟩;have e:aA g m _ (aJ m p (.lst i)):=aA.new n;exact k _ _ _ (y.trans e) (b.alloc n ⟨_,C8,d.mono e⟩ rfl) (.ref (by rw[<-b.len];simp))
inductive km (K:Io) (cm:Nat->Addr) (d:LD) (σ:L2.St) (H:Hp) (Q:Option Int->Hp->Prop):Prop
 | mk (ρ:List Addr) (A:PHp) (σp:PSt) (v:Option Int) (A':PHp) (h0:aR K cm ρ A H) (h1:cc ρ H σp σ) (h2:d σp A=.ok v A') (h3:∀ρ' H',aA ρ H ρ' H'->aR K cm ρ' A' H'->Q v H'):km K cm d σ H Q
theorem sV{e:Option Expr}{t t':L2.TO}(h:L2.PO X e t)(k:∀a H Q,t' a H Q->t a H Q):L2.PO X e t':=λb s a H Q I q=>h b s a H Q I (k a H Q q)
theorem dP:L2.PO X none (km X.K cm hU):=sV yT λf H Q a=>by
 obtain⟨b,A,c,v,g,d,h,e,k⟩:=a;cases e;exact k b H (aA.refl _ _) d
theorem jq{e:Expr}{d:ED}(h:Pe X cm e d):L2.PO X (some e) (km X.K cm (hV d)):=sV (yU h) λu H Q j=>by
 obtain⟨l,A,b,v,w,m,n,o,k⟩:=j;obtain⟨x,p,q,a⟩:=B0 o;refine⟨l,A,b,x,p,m,n,q,λc r y s f g=>?_⟩;cases x with
 | int i=>cases a;cases g;exact⟨i,rfl,k c r s f⟩
 | _=>cases a
theorem jr{e:Expr}{lo I:Option Expr}{d:ED}{dl J:LD}{p2 pos:Pos}(he:Pe X cm e d)(Y:L2.PO X lo (km X.K cm dl))(hu:L2.PO X I (km X.K cm J)):Pe X cm (.Subscript e (.Slice lo I none p2) pos) (hW d dl J):=
 D7 (yW (sl_list.or yY) he Y hu) λσ H Q hq=>by
  obtain⟨ρ,A,f,v,A',rl,s,ev,k⟩:=hq;obtain⟨x,L,e1,u⟩:=B0 ev;obtain⟨l,N,e2,w⟩:=B0 u;obtain⟨h,A3,e3,g⟩:=B0 w;refine⟨ρ,A,f,x,L,rl,s,e1,λy H1 v1 z B C=>⟨y,L,f,l,N,B,s.mono z,e2,λD H2 E G=>⟨D,N,f,h,A3,G,(s.mono z).mono E,e3,λm O T b=>?_⟩⟩⟩;have o:=(z.trans E).trans T;have q:=C.mono (E.trans T);cases x with
  | ref n=>
    obtain⟨xs,A4,e4,i⟩:=B0 g;obtain⟨rfl,a,U,rfl,hs,r⟩:=L3 b q e4;cases i;refine .inl ⟨a,U,rfl,hs,λp j=>?_⟩;have e:aA m O _ (aJ O p (.lst (iJ U l h))):=aA.new j;exact k _ _ _ (o.trans e) (b.alloc j ⟨_,C8,(r.slc l h).mono e⟩ rfl) (.ref (by rw[<-b.len];simp))
  | tup xs=>
    obtain⟨c,i⟩:=C7 g;cases i;cases q with
    | tup ha r=>
      refine .inr ⟨_,_,rfl,cB.of ha,by rw[lN,lN,<-r.length];exact c,λp j=>?_⟩;exact k m _ _ (o.trans (aA.same j)) (b.tup j) (.tup C8 ((r.slc l h).mono (aA.same j)))
  | _=>cases g
theorem f7{d:ED}{f:PV->M PV}{r:List V->Hp->VK->Prop}{e:ED}(he:∀σ,e σ=ao (d σ) f)
 (y:∀b A H x z c v (Q:VK),aR X.K cm b A H->RV b H x v->f x A=.ok z c->(∀a g s,aA b H a g->aR X.K cm a c g->RV a g z s->Q s g)->r [v] H Q)
 {σ:L2.St} {H:Hp} {Q:VK} (h:cW X.K cm e σ H Q):nB r (gr X.K cm (ag d aNil)) σ H Q:=by
 obtain⟨b,A,i,z,c,B,C,u,k⟩:=h;rw[he]at u;obtain⟨x,w,D,j⟩:=B0 u;refine⟨b,A,i,[x],w,B,C,by show ao _ _ A=_;rw[aB D];rfl,λl E G I m n=>?_⟩;cases n with
 | cons J L=>
   cases L;exact y l w E x z c _ Q m J j λo N O T p q=>k o N O (I.trans T) p q
theorem bM{e:Expr}{d:ED}{p pos:Pos}(he:Pe X cm e d)(f:Gl X "len")(g:X.mg "len" = none)(hs:starEach [e] X.env=(false,eval e X.env)::starEach [] X.env:=by exact D6 rfl):Pe X cm (.Call (.Name "len" p) [e] [] pos) (o8 d):=
 D7 (V4 zf f g PySem.boot_len (r_cons he r_nil hs) (he:=hs)) λo H Q h=>f7 (λ_=>rfl) (λρ A H x z A' v Q c i j k=>by
  obtain⟨l,q,e1,b⟩:=B0 j;obtain⟨rfl,a,m,rfl,n,r⟩:=l6 c i e1;cases b;exact⟨a,m,rfl,n,k ρ H _ (aA.refl _ _) c (by rw[<-r.length];exact .int _)⟩) h
theorem oR{e:Expr}{d:ED}{p pos:Pos}(he:Pe X cm e d)(i:Gl X "list")(j:X.mg "list" = none)(m:bootBuiltins "list" = some (.type "list"))(hs:starEach [e] X.env=(false,eval e X.env)::starEach [] X.env:=by exact D6 rfl):Pe X cm (.Call (.Name "list" p) [e] [] pos) (jW d):=
 D7 (n6 zg i j m (r_cons he r_nil hs) (he:=hs)) λs H Q h=>f7 (λ_=>rfl) (λρ A H x z A' v Q b n o k=>by
  obtain⟨l,u,e1,c⟩:=B0 o;obtain⟨rfl,a,f,rfl,q,r⟩:=l6 b n e1;cases c;refine⟨a,f,rfl,q,λp g=>?_⟩;have e:aA ρ H _ (aJ H p (.lst f)):=aA.new g;exact k _ _ _ e (b.alloc g ⟨_,C8,r.mono e⟩ rfl) (.ref (by rw[<-b.len];simp))) h
theorem Pairs.look{f:Nat->Str}{ρ:List Addr}{H:Hp}(n:∀i j,f i=f j->i<19->j<19->i=j):∀{c:List (Nat×PV)}{l:List (Str×V)}{i:Nat}{x:PV},Pairs f ρ H c l->(∀p∈c,p.1<19)->i<19->j8 i c=some x->∃v,l.lookup (f i)=some v/\RV ρ H x v
 | [],l,i,x,h,_,_,e=>by cases e
 | (g,u)::r,l,i,x,h,o,s,e=>by
   cases l with
   | nil=>have:=h.keys;simp at this
   | cons p q=>
     have k:=h.keys;simp only[Jb,Mj]at k;have w:=h.vals;cases w with
     | cons y A=>
       have B:=o _ Iz;obtain⟨p1,p2⟩:=p;by_cases d:g=i
       .subst d;simp at e;subst e;exact⟨p2,by simp[show p1=f g from k.1],y⟩
       .have m:¬f i=p1:=λz=>d (n g i (by rw[z];exact k.1.symm) B s);simp only[j8,d]at e;obtain⟨v,a,b⟩:=Pairs.look n ⟨k.2,A⟩ (λp C=>o p (IE _ C)) s e;refine⟨v,?_,b⟩;rw[KU,beq_eq_false_iff_ne.mpr m];exact a
end
theorem sW:∀i j,cR i=cR j->i<19->j<19->i=j:=by
 intro i j h b c;have a:∀i:_root_.Fin 19,∀j:_root_.Fin 19,cR i.1=cR j.1->i=j:=by decide +kernel
 exact congrArg (·.1) (a ⟨i,b⟩ ⟨j,c⟩ h)
section
variable{X:Cx}{cm:Nat->Addr}
theorem Ai{o:Expr}{d:ED}{f:Str}{i:Nat}{pos:Pos}(he:Pe X cm o d)(y:cR i=f)(z:i<19)(B:∀c,c<7->ej X.K (cm c))(C:∀c,c<7->bH X.K (cm c) f)
 (D:attributeBase o f X.env (eval o X.env)=eval o X.env:=by rfl):Pe X cm (.Attribute o f pos) (H8 d i):=
 D7 (yy he D) λσ H Q E=>by
  obtain⟨G,A,h,v,A',I,J,L,k⟩:=E;obtain⟨x,N,O,j⟩:=B0 L;refine⟨G,A,h,x,N,I,J,O,λl T v1 U b m=>?_⟩;cases x with
  | ref n=>
    obtain⟨o,A2,Y,e⟩:=B0 j;obtain⟨rfl,r,a,dx,kv,rfl,g,hH,hp,hs⟩:=lM b m Y;rcases p:j8 i o.2 with _ | u
    .rw[p]at e;cases e
    .rw[p]at e;cases e;obtain⟨w,s,q⟩:=hp.look sW hs z p;rw[y]at s;exact⟨a,_,dx,kv,w,rfl,hH,B _ (kj b r g),C _ (kj b r g),s,k l T w U b q⟩
  | _=>simp_all
theorem Pairs.put{ρ:List Addr}{H:Hp}{i:Nat}{x:PV}{v:V}(l:i<19)(f:RV ρ H x v):∀{a:List (Nat×PV)}{c:List (Str×V)},Pairs cR ρ H a c->(∀p∈a,p.1<19)->Pairs cR ρ H (putFld i x a) (Z5 (cR i) v c)
 | [],c,h,_=>by
   cases c with
   | nil=>exact⟨rfl,.cons f .nil⟩
   | cons p q=>have:=h.keys;simp at this
 | (g,u)::r,c,h,m=>by
   cases c with
   | nil=>have:=h.keys;simp at this
   | cons p q=>
     have k:=h.keys;simp only[Jb,Mj]at k;have o:=h.vals;cases o with
     | cons s n=>
       obtain⟨p1,p2⟩:=p;have w:=m _ Iz;have d:p1=cR g:=k.1;by_cases b:g=i
       .subst b;have e:Z5 (cR g) v ((p1,p2)::q)=(p1,v)::q:=by
         show(if p1=cR g then _ else _)=_;rw[if_pos d]
        rw[e];simp only[putFld];exact⟨by simp[d,k.2],.cons f n⟩
       .have j:¬p1=cR i:=λz=>b (sW g i (by rw[<-z];exact d.symm) w l);have e:Z5 (cR i) v ((p1,p2)::q)=(p1,p2)::Z5 (cR i) v q:=by
         show(if p1=cR i then _ else _)=_;rw[if_neg j]
        rw[e];simp only[putFld,b,if_false];have ih:=Pairs.put l f ⟨k.2,n⟩ λp y=>m p (IE _ y);exact⟨by simp only[Jb];rw[ih.keys,d],.cons s ih.vals⟩
theorem sX{i:Nat}{x:PV}(d:i<19):∀{b:List (Nat×PV)},(∀p∈b,p.1<19)->∀p∈putFld i x b,p.1<19
 | [],_,p,a=>by simp at a;subst a;exact d
 | (g,u)::r,c,p,a=>by
   unfold putFld at a;split at a
   .rcases IF.mp a with rfl | a
    .simp_all
    .exact c p (IE _ a)
   .rcases IF.mp a with rfl | a
    .exact c _ Iz
    .exact sX d (λq e=>c q (IE _ e)) p a
theorem Aj{o b:Expr}{d e:ED}{f:Str}{i:Nat}{pos l:Pos}(ho:Pe X cm o d)(hv:Pe X cm b e)(hf:cR i=f)(Q:i<19)(hc:∀c,c<7->ej X.K (cm c))(hn:∀c,c<7->bH X.K (cm c) f)
 (hs:swapsWith b (some (.Attribute o f l)) pos.line X.env=pure false:=by rfl):Ps X cm (.Assign [.Attribute o f l] b pos) (sFld d i e):=
 W0 (yz ho hv hs) λD σ H hq=>by
  obtain⟨ρ,A,m,fl,A',rl,u,ev,k⟩:=hq;obtain⟨y,T,e1,v⟩:=B0 ev;obtain⟨x,A2,e2,p⟩:=B0 v;refine⟨ρ,A,m,y,T,rl,u,e1,λw H1 v1 z B C=>⟨w,T,m,x,A2,B,u.mono z,e2,λj U v2 E g G=>?_⟩⟩;cases x with
  | ref n=>
    obtain⟨o,A3,e3,I⟩:=B0 p;obtain⟨rfl,q,a,J,L,rfl,h,hH,Y,r⟩:=lM g G e3;obtain⟨c,N⟩:=C7 I;cases N;have b7:L.length=o.2.length:=by have:=congrArg List.length Y.keys;simpa using this
    refine⟨a,cm o.1,J,L,rfl,hH,hc _ (kj g q h),hn _ (kj g q h),by omega,?_⟩;rw[<-hf];have s:aA j U j (aJ U a (.ins (cm o.1) J (Z5 (cR i) v1 L))):=aA.put g h q rfl;have O:aR X.K cm j (A3.set n (.ins o.1 _)) _:=
     g.put h q rfl rfl ⟨⟨kj g q h,sX Q r⟩,J,_,C8,(Y.mono s).put Q ((C.mono E).mono s) r⟩
    exact k j _ ((z.trans E).trans s) O σ (((u.mono z).mono E).mono s)
  | _=>cases p
theorem sY{o e:Expr}{d u:ED}{i b:Pos}(N:Pe X cm o d)(he:Pe X cm e u)
 (O:attributeBase o "append" X.env (eval o X.env)=eval o X.env:=by rfl) (hs:starEach [e] X.env=(false,eval e X.env)::starEach [] X.env:=by exact D6 rfl)
 (hfew:((backTo b (starEach [e] X.env)).all (λx=>!x.1)&&(backToKw b (keywordEach [] X.env)).all (λx=>x.1.isSome)&&decide ([e].length+([]:List MY).length+(if([]:List MY).isEmpty then 0 else 1)<30))=true:=by rfl)
 (hline:(i.endLine == b.line)=true:=by rfl):Pe X cm (.Call (.Attribute o "append" i) [e] [] b) (jY d u):=
 D7 (se NN PySem.F.slot_list_append PySem.F.type_list_append zk N (r_cons he r_nil hs) (hbase:=O) (hfew:=hfew) (hline:=hline) (hs:=hs)) λσ H Q T=>by
  obtain⟨U,A,j,v,A',Y,G,ev,k⟩:=T;obtain⟨x,A1,e1,m⟩:=B0 ev;refine⟨U,A,j,x,A1,Y,G,e1,λr H1 v1 I p q=>?_⟩;cases x with
  | ref n=>
    obtain⟨l0,A2,e2,s⟩:=B0 m;obtain⟨rfl,hA,a,xs,rfl,hn,hH,r0⟩:=P7 p q e2;refine⟨.inl ⟨rfl,xs,bE.of hH⟩,?_⟩;obtain⟨y,A3,e3,w⟩:=B0 s;obtain⟨l,A4,e4,z⟩:=B0 w;obtain⟨c,B⟩:=C7 z;cases B;refine⟨r,_,j,[y],A3,p,G.mono I,by show ao _ _ _=_;rw[aB e3];rfl,λC H2 b0 J f D=>?_⟩;cases D with
    | cons hv hr=>
      cases hr;obtain⟨rfl,g,a2,ys,e5,h,E,L⟩:=P7 f (q.mono J) e4;cases e5;refine⟨a,ys,_,rfl,rfl,E,by rw[<-L.length];exact lO c,?_⟩;refine k C _ _ ((I.trans J).trans (aA.put f h g rfl)) (f.put h g rfl rfl ⟨_,C8,?_⟩) .non;exact(L.mono (aA.put f h g rfl)).append (.cons (hv.mono (aA.put f h g rfl)) .nil)
  | _=>cases m
theorem aC{i:Nat}{e:Expr}(h:PG X e (L2.gName i)):Pg X cm e (gName i):=sP h λv m H Q b=>by
 obtain⟨c,A,d,x,a,n,f,g,j,l,k⟩:=b;cases l;exact k c H _ (aA.refl _ _) f (g.set i j)
theorem cT:gm X [] (kd X.K cm gNil):=sQ xJ λj l H Q c=>by
 obtain⟨d,A,e,f,a,m,g,h,i,b,k⟩:=c;cases f with
 | nil=>cases b;cases i;exact⟨rfl,k d H _ (aA.refl _ _) g h⟩
 | cons y n=>cases b
theorem aV{e:Expr}{c:List Expr}{g:GD}{r:GDs}(u:Pg X cm e g)(v:gm X c (kd X.K cm r))(hs:(assignEach (e::c) X.env).map (·.2)=assign e X.env::(assignEach c X.env).map (·.2):=by rfl):gm X (e::c) (kd X.K cm (gCons g r)):=
 sQ (xK u v hs) λU Y H Q w=>by
  obtain⟨x,A,d,z,a,B,C,D,E,p,k⟩:=w;cases z with
  | nil=>cases p
  | cons y G=>
    obtain⟨b,q,I,f⟩:=B0 p;cases E with
    | cons J L=>
      exact⟨_,_,rfl,x,A,d,y,b,q,C,D,J,I,λh H1 N s i j=>⟨h,q,b,G,a,B,i,j,L.mono s,f,λl O m T n o=>k l O m (s.trans T) n o⟩⟩
theorem gE{b:List Expr}{j n:Nat}{g:GDs}{pos:Pos}(m:X.calm=true)(h:gm X b (kd X.K cm g))(o:(assignEach b X.env).length=n:=by rfl)(d:(assignEach b X.env).findIdx? (·.1)=none:=by rfl):Pg X cm (.Tuple b j pos) (gTup n g):=
 sP (xM m h o d) λv B H Q p=>by
  obtain⟨q,A,e,x,a,s,u,w,y,i,k⟩:=p;cases x with
  | tup l=>
    obtain⟨c,f⟩:=C7 i;cases y with
    | tup z r=>exact⟨_,_,rfl,cB.of z,by rw[<-r.length];exact c,q,A,e,l,a,s,u,w,r,f,k⟩
  | _=>cases i
theorem lQ{st:Stmt}:Ps X cm st sNever:=W0 xI λD c H ⟨d,A,a,f,e,g,h,b,k⟩=>by cases b
theorem E3:ic X cm [] sPass:=lJ xD λD a H b=>by
 obtain⟨c,A,d,f,i,e,g,h,k⟩:=b;cases h;exact k c H (aA.refl _ _) e a g
theorem C5{st:Stmt}{s:SD}(h:Ps X cm st s):ic X cm [st] s:=ng h
theorem C4{st:Stmt}{rest:List Stmt}{s r:SD}(p:Ps X cm st s)(q:ic X cm rest r):ic X cm (st::rest) (D3 s r):=
 lJ (rd p q) λD L H u=>by
  obtain⟨w,A,g,f,x,y,z,B,k⟩:=u;obtain⟨o,m,C,a⟩:=B0 B;refine⟨w,A,g,o,m,y,z,C,λb n h c=>?_⟩;cases o with
  | nx i=>exact λe d=>⟨b,m,i,f,x,c,d,a,λj E G l=>k j E (h.trans G) l⟩
  | rt v=>cases a;exact λI J=>k b n h c I J
  | _=>cases a;exact λe d=>k b n h c e d
theorem jt{e:Expr}{d:ED}{pos:Pos}(h:Pe X cm e d)(hs:swapsWith e none pos.line X.env=pure false:=by rfl):Ps X cm (.Expr e pos) (T4 d):=
 W0 (rf h hs) λD l H m=>by
  obtain⟨n,A,a,f,o,p,i,q,k⟩:=m;obtain⟨x,v,r,b⟩:=B0 q;cases b;exact⟨n,A,a,x,o,p,i,r,λc s w j g u=>k c s j g l (i.mono j)⟩
theorem D1{e:Expr}{d:ED}{pos:Pos}(h:Pe X cm e d):Ps X cm (.Return (some e) pos) (G5 d):=
 W0 (xG h) λD v H j=>by
  obtain⟨l,A,a,f,m,n,o,p,k⟩:=j;obtain⟨x,w,q,b⟩:=B0 p;cases b;exact⟨l,A,a,x,m,n,o,q,λc r s u g i=>k c r u g s i⟩
theorem Q8{c:Expr}{a b:List Stmt}{t:TD}{s u:SD}{pos:Pos}(r:Pt X cm c t)(v:ic X cm a s)(w:ic X cm b u):Ps X cm (.If c a b pos) (bF t s u):=
 W0 (rg r v w) λD G H y=>by
  obtain⟨z,A,d,f,q,B,m,C,k⟩:=y;obtain⟨x,n,E,h⟩:=B0 C;refine⟨z,A,d,x,n,B,m,E,λi I l j=>?_⟩;cases x with
  | true=>exact⟨i,n,d,f,q,j,m.mono l,h,λe o p g=>k e o (l.trans p) g⟩
  | false=>exact⟨i,n,d,f,q,j,m.mono l,h,λe o p g=>k e o (l.trans p) g⟩
theorem Ak{d:ED}{g:GD}{q:TE}{r:TG}(he:∀σ H Q,cW X.K cm d σ H Q->q σ H Q)(y:∀v σ H Q,jm X.K cm g v σ H Q->r v σ H Q){D:w9}{σ:L2.St}{H:Hp}(h:fK X.K cm (N9 d g) D σ H):rh q r D σ H:=by
 obtain⟨z,A,a,f,B,C,s,E,k⟩:=h;obtain⟨x,u,G,b⟩:=B0 E;obtain⟨c,N,I,e⟩:=B0 b;cases e;exact he _ _ _ ⟨z,A,a,x,u,C,s,G,λi O T w j l=>y _ _ _ _ ⟨i,u,a,x,c,B,j,s.mono w,l,I,λm J n L o p=>k m J (w.trans L) o n p⟩⟩
theorem K4{i:Nat}{x:Str}{e:Expr}{d:ED}{pos a:Pos}(c:X.N.Nodup)(f:X.N[i]?=some x)(g:L2.Loc X.env.scope x)(he:Pe X cm e d)(hs:swapsWith e (some (.Name x a)) pos.line X.env=pure false:=by rfl)
 (j:X.fn x=true\/X.env.scope.names.lookup x=some .local:=by first | exact .inl rfl | exact .inr rfl | assumption):Ps X cm (.Assign [.Name x a] e pos) (N9 d (gName i)):=
 W0 (xN c f g he hs j) λD σ H h=>Ak (λ_ _ _ z=>z) (λv σ H Q l=>by
  obtain⟨ρ,A,m,x,b,A',n,o,p,q,k⟩:=l;cases q;exact k ρ H _ (aA.refl _ _) n (o.set i p)) h
end
inductive bf (K:Io) (cm:Nat->Addr) (f:Fun) (n:Nat) (vs:List V) (H:Hp) (Q:VK) (_E:L2.XK):Prop
 | mk (ρ:List Addr) (A:PHp) (ps:List PV) (v:PV) (A':PHp) (h0:aR K cm ρ A H) (h1:RVs ρ H ps vs) (h2:ps.length=n) (h3:f ps A=.ok v A') (h4:∀ρ' H' v',aA ρ H ρ' H'->aR K cm ρ' A' H'->RV ρ' H' v v'->Q v' H'):bf K cm f n vs H Q _E
theorem cc.start0{ρ:List Addr}{H:Hp}{ps:List PV}{vs:List V}{N:List Str}(r:RVs ρ H ps vs):cc ρ H (Ws.start N.length ps) (L2.start N vs):=by
 have c:=r.length;refine⟨by unfold Ws.start L2.start;simp[c],λi p a=>?_⟩;unfold Ws.start at a;by_cases b:i<ps.length
 .rw[JA (by simpa using b),Jc]at a;rcases e:ps[i]? with _ | q
  .rw[e]at a;cases a
  .rw[e]at a;cases a;obtain⟨v,d,f⟩:=r.get e;refine⟨v,?_,f⟩;unfold L2.start;rw[JA (by simp;omega),Jc,d];rfl
 .rw[KP (by simpa using b),NJ]at a;split at a<;>cases a
section
variable{P:IS}{w:Jp}{K:Io}{mg:Str->Option Ip}{base:Heap}{cm:Nat->Addr}
theorem Al{x b:Str}{st:Stmt}{f:Addr}{p:IQ}{N ps:List Str}{k:Nat}{s:SD}(F:L2.Fun K x b st f p)(S:C6 N ps (C2 st))
 (d:∀(c:Ip)(A:Ji)(a:List Env)(j:Ir)(H:Hp)(E:L2.XK),aL k (A.deeper (Je b (C2 st) j.heap.objs.size f c))->
  cC (Z6 aS P w K mg base N b (C2 st) f c A a j H E).nox (G9 st) (fK K cm s)) :
 ay P w K mg base aS (k+1) f p ps (bf K cm (fn N.length ps.length s) ps.length):=by
 refine F.ok S (λG H Q E ⟨q,A,r,v,A',y,l,z,_,_⟩=>by rw[<-l.length];exact z) λc A a j H G Q E I h=>⟨_,d c A a j H E I,?_⟩;obtain⟨q,B,r,v,B',y,l,z,J,k⟩:=h;obtain⟨_,m⟩:=C7 J;obtain⟨o,L,O,e⟩:=B0 m;refine⟨q,B,Ws.start _ r,o,L,y,cc.start0 l,O,λg C D i=>?_⟩;cases o with
 | nx T=>cases e;exact λU _=>k g C _ D i .non
 | rt u=>cases e;exact λY n=>k g C Y D i n
 | _=>cases e
end
section
variable{X:Cx}{cm:Nat->Addr}
theorem Am{f:Fun}{n:Nat}{m:AD}(r:∀o A v b,f o A=.ok v b->o.length=n){σ:L2.St}{H:Hp}{Q:VK}(h:cW X.K cm (aM f m) σ H Q):rJ (bf X.K cm f n) [] E0 (gr X.K cm m) σ H Q:=by
 obtain⟨s,A,c,v,b,u,w,x,k⟩:=h;obtain⟨p,q,y,a⟩:=B0 x;refine⟨s,A,c,p,q,u,w,y,λd G z B e g=>?_⟩;rw[JD];exact⟨d,q,p,v,b,e,g,r _ _ _ _ a,a,λi C D E j l=>k i C D (B.trans E) j l⟩
theorem oS{n p:Nat}{s:SD}{vs:List PV}{A A':PHp}{v:PV}(h:fn n p s vs A=.ok v A'):vs.length=p:=(C7 h).1
theorem An{f:Fun}{n k:Nat}{b:Addr}{d:IQ}{ps:List Str}{x:Str}{e:Expr}{a:List Expr}{g:AD}{p pos:Pos}(F:ay X.prog X.w X.K X.mg X.base aS k b d ps (bf X.K cm f n))(j:∀i A v l,f i A=.ok v l->i.length=n)(m:aL k X.A)(o:Gl X x)(q:X.mg x=some (.ref b))(r:KC X.K (.ref b)=true)(s:L2.Binds X.K d ps [])
 (u:Pa X cm (e::a) g) (c:(x == ("__debug__" : Str))=false:=by decide) (he:starEach (e::a) X.env=(false,eval e X.env)::starEach a X.env:=by exact D6 rfl) (hpl:(backTo pos (starEach a X.env)).any (·.1)=false:=by rfl) :
 Pe X cm (.Call (.Name x p) (e::a) [] pos) (aM f g):=
 D7 (yG F m o q r s .nil lx u c he hpl) λy H Q h=>Am j h
theorem sZ{c:Nat}{f:Fun}{n:Nat}{m:Str}{d:ED}{Y:AD}(hn:∀vs A v y,f vs A=.ok v y->vs.length=n)(hm:∀i,i<19->cR i≠m){σ:L2.St}{H:Hp}{Q:VK}(h:cW X.K cm (J8 c f d Y) σ H Q) :
 nz (cm c) m (bf X.K cm f n) [] E0 (cW X.K cm d) (gr X.K cm Y) σ H Q:=by
 obtain⟨ρ,A,b,v,y,rl,rs,ev,k⟩:=h;obtain⟨x,A1,e1,e⟩:=B0 ev;refine⟨ρ,A,b,x,A1,rl,rs,e1,λB H1 v1 x1 g r=>?_⟩;cases x with
 | ref j=>
   obtain⟨o,A2,e2,C⟩:=B0 e;obtain⟨rfl,hA,a,dx,D,rfl,b5,hH,hp,hs⟩:=lM g r e2;obtain⟨hc,E⟩:=C7 C;obtain⟨xs,A3,e3,s⟩:=B0 E;subst hc;have G:D.lookup m=none:=by
    have I:∀(l:List (Str×V)),(∀z∈l.map (·.1),z≠m)->l.lookup m=none:=λl=>by
     induction l with
     | nil=>intro _;rfl
     | cons p q ih=>
       intro u;rw[KU,beq_eq_false_iff_ne.mpr (λz=>u p.1 (by simp) z.symm)];exact ih λz w=>u z (by simp at w ⊢;exact .inr w)
    refine I D λz u=>?_;rw[hp.keys]at u;obtain⟨q,hq,rfl⟩:=IC.mp u;exact hm _ (hs q hq)
   refine⟨a,dx,D,rfl,hH,G,B,_,b,xs,A3,g,rs.mono x1,e3,λJ H2 c4 x2 L N=>?_⟩;rw[JD];exact⟨J,A3,.ref j::xs,v,y,L,.cons (r.mono x2) N,hn _ _ _ _ s,s,λO H3 v3 x3 T U=>k O H3 v3 ((x1.trans x2).trans x3) T U⟩
 | _=>cases e
theorem Ao{c:Nat}{f:Fun}{n k:Nat}{l:Addr}{p:IQ}{ps:List Str}{m:Str}{o e:Expr}{b:List Expr}{d:ED}{q:AD}{a pos:Pos}{s:Sem Bool}(u:Pe X cm o d)(x:ej X.K (cm c))(y:gY X.K (cm c) m l)
 (F:ay X.prog X.w X.K X.mg X.base aS k l p ps (bf X.K cm f n)) (z:∀r A v B,f r A=.ok v B->r.length=n) (g:∀i,i<19->cR i≠m) (C:aL k X.A) (D:L2.Binds X.K p ps []) (E:Pa X cm (e::b) q)
 (j:starEach (e::b) X.env=(false,eval e X.env)::starEach b X.env:=by exact D6 rfl) (hpl:(backTo pos (starEach b X.env)).any (·.1)=false:=by rfl)
 (G:eval (.Call (.Attribute o m a) (e::b) [] pos) X.env=(do
  let ov <-eval o X.env
  standAt a.atName
  let(f,first) <-holding [ov] (getMethod ov m s)
  callWith pos f first (backTo pos (starEach (e::b) X.env)) (backToKw pos (keywordEach [] X.env))):=by rfl) :
 Pe X cm (.Call (.Attribute o m a) (e::b) [] pos) (J8 c f d q):=
 D7 (yH u x y F C D .nil lx E j hpl G) λI H Q h=>sZ z g h
theorem Ap{c:Nat}{f:Fun}{n:Nat}{G:AD}(U:c<7)(Y:∀I A v i,f I A=.ok v i->I.length=n/\v=.non){σ:L2.St}{H:Hp}{Q:VK}(h:cW X.K cm (hZ c f G) σ H Q):rK (cm c) (bf X.K cm f n) [] E0 (gr X.K cm G) σ H Q:=by
 obtain⟨ρ,A,j,v,i,rl,rs,ev,k⟩:=h;obtain⟨J,l,e1,m⟩:=B0 ev;obtain⟨x,A2,e2,o⟩:=B0 m;cases e2;obtain⟨u,A3,L,p⟩:=B0 o;cases p;refine⟨ρ,A,j,J,l,rl,rs,e1,λa q a6 x1 b r x g hx d s=>?_⟩;rw[JD];have w:aA a q a (aJ q g (.own x)):=aA.same d;have y:=b.grow w (R4 d);have e:aJ q g (.own x) x=none:=by rw[ak (JW s)];exact hx
 have N:aA a _ _ (aJ _ x (.ins (cm c) g [])):=aA.new e;have z:aR X.K cm _ (l++[.ins c []]) _:=y.alloc e ⟨⟨U,by simp⟩,g,[],C8,⟨rfl,.nil⟩⟩ rfl;have O:(a++[x])[l.length]?=some x:=by rw[<-b.len];simp
 obtain⟨B,rfl⟩:=Y _ _ _ _ L;refine⟨a++[x],_,.ref _::J,.non,i,z,.cons (.ref O) ((r.mono w).mono N),B,L,λC H4 v4 T D E=>?_⟩;cases E;exact⟨rfl,k C H4 _ (((x1.trans w).trans N).trans T) D (.ref (oF T.pre O))⟩
theorem Aq{c:Nat}(l:c<7){f:Fun}{n k:Nat}{d:Addr}{g:IQ}{ps:List Str}{x:Str}{e:Expr}{a:List Expr}{i:AD}{p pos:Pos}(Mk:L2.Mk X.K (cm c) d)(F:ay X.prog X.w X.K X.mg X.base aS k d g ps (bf X.K cm f n))(m:∀j A v o,f j A=.ok v o->j.length=n/\v=.non)(q:aL (k+1) X.A)
 (r:Gl X x) (s:X.mg x=some (.ref (cm c))) (u:L2.Binds X.K g ps []) (y:Pa X cm (e::a) i) (b:(x == ("__debug__" : Str))=false:=by decide) (he:starEach (e::a) X.env=(false,eval e X.env)::starEach a X.env:=by exact D6 rfl) (hpl:(backTo pos (starEach a X.env)).any (·.1)=false:=by rfl) :
 Pe X cm (.Call (.Name x p) (e::a) [] pos) (hZ c f i):=
 D7 (yK Mk F q r s u .nil lx y b he hpl) λz H Q h=>Ap l m h
noncomputable def oU(K:Io)(a:Addr):L2.It:=
 ⟨λi H=>∃b x,bE K H a b/\b[i]?=some x,λi H x c=>∃y p,(∀b,bE K H a b->b[i]?=some y)/\H p=none/\x=.ref p/\c=aJ H p (.tup [.int i,y]),λi H=>∃b,bE K H a b/\b.length<=i⟩
noncomputable def Ar(K:Io)(k:Nat)(a:Addr):L2.It:=
 ⟨λi H=>∃b x,bE K H a b/\b[i]?=some x,λi H x c=>∃y p,(∀b,bE K H a b->b[i]?=some y)/\H p=none/\x=.ref p/\c=aJ H p (.tup [.int ((k+i:Nat):Int),y]),λi H=>∃b,bE K H a b/\b.length<=i⟩
noncomputable def As(vs:List V):L2.It:=⟨λi _=>i<vs.length,λi H x a=>a=H/\vs[i]?=some x,λi _=>vs.length<=i⟩
def fk(k:Bool)(K:Io)(H:Hp)(a:Addr)(b:List V):Prop:=match k with
 | true=>cB K H a b
 | false=>bE K H a b
noncomputable def kindOf:PV->Bool
 | .tup _=>true
 | _=>false
noncomputable def oV(K:Io)(e f:Bool)(a b:Addr):L2.It:=
 ⟨λi H=>∃c d x y,fk e K H a c/\fk f K H b d/\c[i]?=some x/\d[i]?=some y,
  λi H v g=>∃x y p,(∀c,fk e K H a c->c[i]?=some x)/\(∀d,fk f K H b d->d[i]?=some y)/\H p=none/\v=.ref p/\g=aJ H p (.tup [x,y]),
  λi H=>∃c d,fk e K H a c/\fk f K H b d/\(c.length<=i\/d.length<=i)⟩
theorem Z9{K:Io}{ρ:List Addr}{H:Hp}{A:PHp}{l:List PV}{v:V}{x:PV}{A':PHp}(f:aR K cm ρ A H)(r:RV ρ H x v)(h:P6 x A=.ok l A'):A'=A/\∃a b,v=.ref a/\fk (kindOf x) K H a b/\RVs ρ H l b:=by
 cases x with
 | ref n=>
   obtain⟨e,a,b,c,d,g⟩:=L3 f r h;exact⟨e,a,b,c,d,g⟩
 | tup m=>
   cases h;cases r with
   | tup c d=>exact⟨rfl,_,_,rfl,cB.of c,d⟩
 | _=>cases h
noncomputable def ie(K:Io)(ρ:List Addr)(H:Hp):It->L2.It->Prop
 | .rng lo n,j=>j=jN lo n
 | .lst m,j=>∃a,ρ[m]?=some a/\j=kX K a
 | .tup l,j=>∃a c,H a=some (.tup c)/\RVs ρ H l c/\j=kY K a
 | .enm m,j=>∃a,ρ[m]?=some a/\j=oU K a
 | .fix l,j=>∃c,RVs ρ H l c/\j=As c
 | .zip x y,j=>∃a b,RV ρ H x (.ref a)/\RV ρ H y (.ref b)/\j=oV K (kindOf x) (kindOf y) a b
 | .enk k m,j=>∃a,ρ[m]?=some a/\j=Ar K k a
theorem ie.mono{K:Io}{ρ f:List Addr}{H H':Hp}{J:It}{j:L2.It}(h:ie K ρ H J j)(e:aA ρ H f H'):ie K f H' J j:=by
 cases J with
 | rng lo n=>exact h
 | tup l=>obtain⟨a,g,c,d,i⟩:=h;exact⟨a,g,e.tup _ _ c,d.mono e,i⟩
 | fix l=>obtain⟨g,c,d⟩:=h;exact⟨g,c.mono e,d⟩
 | zip x y=>obtain⟨a,b,c,d,i⟩:=h;exact⟨a,b,c.mono e,d.mono e,i⟩
 | _=>obtain⟨a,c,d⟩:=h;exact⟨a,oF e.pre c,d⟩
inductive gF (K:Io) (cm:Nat->Addr) (d:ID) (σ:L2.St) (H:Hp) (R:L2.It->Hp->Prop):Prop
 | mk (ρ:List Addr) (A:PHp) (σp:PSt) (J:It) (A':PHp) (h0:aR K cm ρ A H) (h1:cc ρ H σp σ) (h2:d σp A=.ok J A') (h3:∀ρ' H' j,aA ρ H ρ' H'->aR K cm ρ' A' H'->ie K ρ' H' J j->R j H'):gF K cm d σ H R
noncomputable def oW(K:Io)(cm:Nat->Addr)(ρ:List Addr)(A:PHp)(H:Hp)(j:L2.It)(i:Nat):Option PV->Prop
 | none=>j.stop i H
 | some v=>j.go i H/\∀y a,j.yld i H y a->aA ρ H ρ a/\aR K cm ρ A a/\RV ρ a v y
theorem tf{K:Io}{ρ:List Addr}{H:Hp}{A A':PHp}{J:It}{j:L2.It}{i:Nat}{x:Option PV}(g:aR K cm ρ A H)(E:ie K ρ H J j)(e:item J i A=.ok x A') :
 A'=A/\oW K cm ρ A H j i x:=by
 cases J with
 | rng lo n=>
   cases e;cases E;refine⟨rfl,?_⟩;by_cases h:i<n
   .show oW K cm ρ A H _ i (if i<n then some (PV.int (lo+i)) else none);rw[if_pos h];refine⟨h,λy I k=>?_⟩;obtain⟨s,w⟩:=k;subst s;subst w;exact⟨aA.refl _ _,g,.int _⟩
   .show oW K cm ρ A H _ i (if i<n then some (PV.int (lo+i)) else none);rw[if_neg h];exact Nat.le_of_not_lt h
 | fix l=>
   cases e;obtain⟨L,r,rfl⟩:=E;refine⟨rfl,?_⟩;rcases c:l[i]? with _ | v
   .show L.length<=i;rw[<-r.length];exact JB.mp c
   .obtain⟨u,d,o⟩:=r.get c;refine⟨(IG.mp d).1,λy I ⟨B,q⟩=>?_⟩;subst B;rw[d]at q;cases q;exact⟨aA.refl _ _,g,o⟩
 | zip x y=>
   obtain⟨a,b,ra,rb,rfl⟩:=E;obtain⟨l,A1,s,w⟩:=B0 e;obtain⟨rfl,a',f,h1,N,r1⟩:=Z9 g ra s;cases h1;obtain⟨m,A2,B,q⟩:=B0 w;obtain⟨rfl,b',O,G,Q,r2⟩:=Z9 g rb B;cases G;cases q;refine⟨rfl,?_⟩;rcases c:l[i]? with _ | u
   .exact⟨f,O,N,Q,.inl (by rw[<-r1.length];exact JB.mp c)⟩
   .rcases hj:m[i]? with _ | v
    .exact⟨f,O,N,Q,.inr (by rw[<-r2.length];exact JB.mp hj)⟩
    .obtain⟨u',d,ru⟩:=r1.get c;obtain⟨v',hv,o⟩:=r2.get hj;refine⟨⟨f,O,u',v',N,Q,d,hv⟩,λz I k=>?_⟩;obtain⟨x',y',p,T,U,Y,g4,g5⟩:=k;have T:=T f N;have U:=U O Q;rw[d]at T;cases T;rw[hv]at U;cases U;subst g4;subst g5;exact⟨aA.same Y,g.tup Y,.tup C8 (.cons (ru.mono (aA.same Y)) (.cons (o.mono (aA.same Y)) .nil))⟩
 | lst m=>
   obtain⟨a,C,rfl⟩:=E;obtain⟨l,A1,s,w⟩:=B0 e;obtain⟨rfl,b,f,hb,D,r⟩:=L3 g (.ref C) s;cases hb;cases w;refine⟨rfl,?_⟩;rcases c:l[i]? with _ | v
   .exact⟨f,D,by rw[<-r.length];exact JB.mp c⟩
   .obtain⟨u,d,o⟩:=r.get c;refine⟨⟨f,u,D,d⟩,λy I k=>?_⟩;obtain⟨B,q⟩:=k;subst B;have:=q f D;rw[d]at this;cases this;exact⟨aA.refl _ _,g,o⟩
 | tup l=>
   obtain⟨a,L,C,r,rfl⟩:=E;cases e;refine⟨rfl,?_⟩;rcases c:l[i]? with _ | v
   .exact⟨L,cB.of C,by rw[<-r.length];exact JB.mp c⟩
   .obtain⟨u,d,o⟩:=r.get c;refine⟨⟨L,u,cB.of C,d⟩,λy I k=>?_⟩;obtain⟨B,q⟩:=k;subst B;have:=q L (cB.of C);rw[d]at this;cases this;exact⟨aA.refl _ _,g,o⟩
 | _=>
   obtain⟨a,C,rfl⟩:=E;obtain⟨l,A1,s,w⟩:=B0 e;obtain⟨rfl,b,f,hb,D,r⟩:=L3 g (.ref C) s;cases hb;cases w;refine⟨rfl,?_⟩;rcases c:l[i]? with _ | v
   .exact⟨f,D,by rw[<-r.length];exact JB.mp c⟩
   .obtain⟨u,d,o⟩:=r.get c;refine⟨⟨f,u,D,d⟩,λy I k=>?_⟩;obtain⟨y',p,G,h3,h4,h5⟩:=k;have G:=G f D;rw[d]at G;cases G;subst h4;subst h5;exact⟨aA.same h3,g.tup h3,.tup C8 (.cons (.int _) (.cons (o.mono (aA.same h3)) .nil))⟩
theorem oX{J:It}{A A':PHp}{n:Nat}(h:j9 J A=.ok n A'):A'=A:=by
 have b:∀a,ao (G6 a) (λl=>ret l.length) A=.ok n A'->A'=A:=λa h=>by
  obtain⟨l,f,c,e⟩:=B0 h;cases e;unfold G6 at c;rcases d:A[a]? with _ | o
  .rw[d]at c;cases c
  .cases o<;>rw[d]at c<;>cases c<;>rfl
 cases J with
 | lst m=>exact b m h
 | enm m=>exact b m h
 | enk k m=>exact b m h
 | zip x y=>
   cases x with
   | ref n=>
     exact b n h
   | tup l=>cases h;rfl
   | _=>cases h
 | _=>cases h;rfl
theorem iO{tg iter:Expr}{C:List Stmt}{it:ID}{g:GD}{b:SD}{pos:Pos}(hp:Py (model X.prog X.w) X.A X.env X.xe)(hc:X.calm=true)(hi:L2.PI X tg iter (gF X.K cm it))(hg:Pg X cm tg g)(hb:ic X cm C b)
 (hs:∀x,foldedSetIterable iter X.env x=pure x:=by intro _;rfl):Ps X cm (.For tg iter C [] pos) (fc it g b):=
 W0 (xY hp hc hi hg hb hs) λD σ H hq=>by
  obtain⟨ρ,A,Q,f,A',rl,rs,ev,k⟩:=hq;obtain⟨J,A1,e1,a8⟩:=B0 ev;obtain⟨n,A2,e2,a9⟩:=B0 a8;obtain rfl:=oX e2;refine⟨ρ,A,Q,J,A2,rl,rs,e1,λE H1 j x1 b0 rj=>?_⟩;refine⟨λi m G T=>∃d B a,aA E H1 d T/\aR X.K cm d B T/\cc d T a G/\Y4 J g b (m+1) i a B=.ok f A',⟨n,E,A2,Q,aA.refl _ _,b0,rs.mono x1,a9⟩,?_⟩;rintro i m G T ⟨d,B,a,x2,U,Y,a0⟩;rw[U6]at a0;obtain⟨x,B1,e3,a1⟩:=B0 a0;obtain⟨rfl,I⟩:=tf U (rj.mono x2) e3;cases x with
  | none=>
    cases a1;exact .inl ⟨I,k d T (x1.trans x2) U G Y⟩
  | some v=>
    refine .inr ⟨I.1,λa2 O=>∃e B3 c,aA E H1 e O/\aR X.K cm e B3 O/\cc e O c a2/\Y4 J g b m (i+1) c B3=.ok f A',?_,λy O hy=>?_⟩
    .rintro a2 O ⟨e,B3,c,x3,L,b2,h⟩;cases m with
     | zero=>rw[sr]at h;cases h
     | succ m=>exact⟨m,JH _,e,B3,c,x3,L,b2,h⟩
    .obtain⟨x3,L,b3⟩:=I.2 y O hy;obtain⟨a3,B4,e4,h⟩:=B0 a1;obtain⟨o,B5,e5,p⟩:=B0 h;refine⟨d,B1,a,v,a3,B4,L,Y.mono x3,b3,e4,λb5 H4 g4 x4 b6 b7=>⟨b5,B4,a3,o,B5,b6,b7,e5,λq H5 x5 r=>?_⟩⟩;have s:=(((x2.trans x3).trans x4).trans x5);cases o with
     | nx z=>exact λN l=>⟨q,B5,z,s,r,l,p⟩
     | ct z=>exact λN l=>⟨q,B5,z,s,r,l,p⟩
     | bk z=>cases p;exact λN l=>k q H5 (x1.trans s) r N l
     | rt u=>cases p;exact λv' c0=>k q H5 (x1.trans s) r v' c0
theorem Au{c:Expr}{q:List Stmt}{t:TD}{b:SD}{pos:Pos}(hp:Py (model X.prog X.w) X.A X.env X.xe)(hc:Pt X cm c t)(hb:ic X cm q b):Ps X cm (.While c q [] pos) (nW t b):=
 W0 (xQ hp hc hb) λD σ H hq=>by
  obtain⟨N,A,O,f,Y,rl,rs,ev,k⟩:=hq;refine⟨λm s J=>∃e B a,aA N H e J/\aR X.K cm e B J/\cc e J a s/\k8 t b m a B=.ok f Y,⟨LIM,N,A,O,aA.refl _ _,rl,rs,ev⟩,?_⟩;rintro m s J ⟨e,B,a,x1,Q,v,i⟩;cases m with
  | zero=>rw[zS]at i;cases i
  | succ m=>
    rw[su]at i;obtain⟨x,B1,e1,C⟩:=B0 i;refine⟨e,B,a,x,B1,Q,v,e1,λE H2 L G=>?_⟩;cases x with
    | false=>
      cases C;exact k E H2 (x1.trans L) G s (v.mono L)
    | true=>
      obtain⟨o,T,e2,j⟩:=B0 C;refine⟨λI y=>∃d B3 r,aA N H d y/\aR X.K cm d B3 y/\cc d y r I/\k8 t b m r B3=.ok f Y,λI y h=>⟨m,JH _,h⟩,E,B1,a,o,T,G,v.mono L,e2,λd y x3 l=>?_⟩;have n:=(x1.trans L).trans x3;cases o with
      | nx p=>exact λz g=>⟨d,T,p,n,l,g,j⟩
      | ct p=>exact λz g=>⟨d,T,p,n,l,g,j⟩
      | bk p=>cases j;exact λz g=>k d y n l z g
      | rt u=>cases j;exact λv' U=>k d y n l v' U
theorem oY{c iter:Expr}{t t':L2.TI}(h:L2.PI X c iter t)(k:∀a H R,t' a H R->t a H R):L2.PI X c iter t':=λb s a H R I q=>h b s a H R I (k a H R q)
theorem dR{l a:Expr}{d:ED}{p pos:Pos}(m:Gl X "range")(n:X.mg "range" = none)(o:Pe X cm a d)(hs:starEach [a] X.env=[(false,eval a X.env)]:=by rfl):L2.PI X l (.Call (.Name "range" p) [a] [] pos) (gF X.K cm (iRng1 d)):=
 oY (xU m n (r_cons o r_nil hs) hs) λG H R q=>by
  obtain⟨r,A,e,J,I,s,u,v,k⟩:=q;obtain⟨x,w,y,b⟩:=B0 v;refine⟨r,A,e,[x],w,s,u,by show ao _ _ A=_;rw[aB y];rfl,λf z B C g h=>?_⟩;cases x with
  | int i=>
    obtain⟨c,j⟩:=C7 b;cases j;cases h with
    | cons D E=>cases E;cases D;exact⟨i,rfl,c.1,c.2,k f z _ C g rfl⟩
  | _=>cases b
theorem Av{w a b:Expr}{d e:ED}{p pos:Pos}(z:Gl X "range")(B:X.mg "range" = none)(C:Pe X cm a d)(D:Pe X cm b e)(hs:starEach [a,b] X.env=[(false,eval a X.env),(false,eval b X.env)]:=by rfl)(f:starEach [b] X.env=[(false,eval b X.env)]:=by rfl):L2.PI X w (.Call (.Name "range" p) [a,b] [] pos) (gF X.K cm (iRng2 d e)):=
 oY (xV z B (r_cons C (r_cons D r_nil f) (by rw[hs,f])) hs f) λσ H R E=>by
  obtain⟨G,A,h,J,A',I,L,N,k⟩:=E;obtain⟨x,u,O,l⟩:=B0 N;obtain⟨y,v,Q,g⟩:=B0 l;refine⟨G,A,h,[x,y],v,I,L,by show ao _ _ A=_;rw[aB O];show ao (ao _ _) _ u=_;rw[aB (show ao _ _ u=.ok [y] v by rw[aB Q];rfl)];rfl,λm T U Y n o=>?_⟩;cases x with
  | int i=>
    cases y with
    | int j=>
      obtain⟨c,q⟩:=C7 g;cases q;cases o with
      | cons hv hr=>
        cases hr with
        | cons r s=>cases s;cases hv;cases r;exact⟨i,j,rfl,⟨c.1.1,c.1.2,c.2.1,c.2.2⟩,k m T _ Y n rfl⟩
    | _=>cases g
  | _=>cases g
noncomputable def Aw(K:Io)(d:TE):L2.TI:=λe H R=>d e H λx b=>(∃a,x=.ref a/\(∃c,bE K b a c)/\R (kX K a) b)\/(∃a,x=.ref a/\(∃c,cB K b a c)/\R (kY K a) b)
theorem Ax{r l:Expr}{k:TE}(u:PE X l k):L2.PI X r l (Aw X.K k):=by
 intro f s w H R I h;refine aQ (u f s w H _ I h) λv d y=>?_;obtain⟨x,m,c,n,z⟩:=y;rcases z with⟨a,e,⟨A,g⟩,q⟩ | ⟨a,e,⟨A,g⟩,q⟩
 .subst e;cases n;obtain⟨i,B,p,C⟩:=c.list g;refine Kj p.isList ?_;refine⟨d.heap.objs.size,[d.heap.objs.size],_,_,m,rfl,c.kept λb o e=>Im _ e,rk a _,⟨_,IB _ rfl,rfl,rfl⟩,λb j=>?_,q⟩;have e:b=d.heap.objs.size:=by simpa using j
  subst e;exact c.fpOk (Iw _) (c.hok.fresh (Iw _))
 .subst e;cases n;obtain⟨i,B,p,C⟩:=c.tuple g;refine Me (show d.heap.IsTuple a _ from p) ?_;refine⟨d.heap.objs.size,[d.heap.objs.size],_,_,m,rfl,c.kept λb o e=>Im _ e,rp a _,⟨_,IB _ rfl,rfl,rfl⟩,λb j=>?_,q⟩;have e:b=d.heap.objs.size:=by simpa using j
  subst e;exact c.fpOk (Iw _) (c.hok.fresh (Iw _))
theorem bb{o l:Expr}{d:ED}(p:Pe X cm l d):L2.PI X o l (gF X.K cm (W7 d)):=oY (Ax p) λG H R q=>by
 obtain⟨s,A,g,J,I,u,v,w,k⟩:=q;obtain⟨x,y,z,b⟩:=B0 w;refine⟨s,A,g,x,y,u,v,z,λf i L j c e=>?_⟩;cases x with
 | ref n=>
   obtain⟨l,N,B,h⟩:=B0 b;obtain⟨rfl,a,C,rfl,D,r⟩:=L3 c e B;cases h;cases e with
   | ref E=>exact .inl ⟨a,rfl,⟨C,D⟩,k f i _ j c ⟨a,E,rfl⟩⟩
 | tup l=>
   cases b;cases e with
   | tup m r=>exact .inr ⟨_,rfl,⟨_,cB.of m⟩,k f i _ j c ⟨_,_,m,r,rfl⟩⟩
 | _=>cases b
end
section
variable{ρ:List Addr}{H:Hp}
mutual
theorem RV.uniq:∀{x y:PV}{v:V},RV ρ H x v->RV ρ H y v->Z1 x=true->Z1 y=true->x=y
 | _,_,_,.non,h,_,_=>by cases h;rfl
 | _,_,_,.bl b,_,n,_=>by simp[Z1]at n
 | _,_,_,.int i,h,_,_=>by cases h;rfl
 | _,_,_,.str z,h,_,_=>by cases h;rfl
 | _,_,_,.tup d e,h,f,c=>by
   cases h with
   | tup a g=>
     rw[d]at a;cases a;rw[RVs.uniq e g (by simpa[Z1]using f) (by simpa[Z1]using c)]
   | ref a=>simp[Z1]at c
 | _,_,_,.ref _,_,n,_=>by simp[Z1]at n
theorem RVs.uniq:∀{l m:List PV}{vs:List V},RVs ρ H l vs->RVs ρ H m vs->nices l=true->nices m=true->l=m
 | _,_,_,.nil,h,_,_=>by cases h;rfl
 | _,_,_,.cons c d,h,a,b=>by
   cases h with
   | cons e f=>
     simp only[nices,Jf]at a b;rw[RV.uniq c e a.1 b.1,RVs.uniq d f a.2 b.2]
end
end
theorem lR:∀{l m:List PV},l.length≠m.length->eqvs l m=false
 | [],[],h=>absurd rfl h
 | [],_::_,_=>rfl
 | _::_,[],_=>rfl
 | x::a,y::b,h=>by
   have:a.length≠b.length:=by simpa using h
   simp[eqvs,lR this]
theorem lT:∀{l m:List PV},l.length=m.length->eqvs l m=(Jj l.length).all λj=>bI (l.getD j .non) (m.getD j .non)
 | [],[],_=>rfl
 | [],_::_,h=>by simp at h
 | _::_,[],h=>by simp at h
 | x::a,y::b,h=>by
   have e:a.length=b.length:=by simpa using h
   rw[IM,Lq,Ml,List.all_map];simp only[eqvs,lT e];rfl
theorem oZ{l m:List PV}:eqvs l m=((Jj (min l.length m.length)).all (λj=>bI (l.getD j .non) (m.getD j .non))&&l.length == m.length):=by
 by_cases h:l.length=m.length
 .rw[lT h,h];simp
 .rw[lR h,beq_eq_false_iff_ne.mpr h,Bool.and_false]
section
variable{X:Cx}{pins:List (Addr×Obj)}{σ:L2.St}{H:Hp}{s:Ir}{ρ:List Addr}{A:Ji}
open PySem.SeqAt
theorem ju{x y:PV}{a b:V}{u v:Ip}(d:RV ρ H x a)(f:RV ρ H y b)(i:U2 x=true)(j:U2 y=true)(g:L2.RelV a u)(h:L2.RelV b v):EqAt A s u v (bI x y):=by
 have c:=ze (A:=A) (s:=s) g h (by cases d<;>simp_all [lu]) (by cases f<;>simp_all [lu]);have e:nC a b=bI x y:=by
  cases d<;>cases f<;>simp_all [nC,bI]<;>(try (exact(ME _ _)))
 rw[<-e];exact c
theorem n8{f:PV->Bool}{l m:List PV}{a b:Addr}{vs g:List V}(I:L2.Inv X pins σ H s)(D:H a=some (.tup vs))(o:H b=some (.tup g))(p:RVs ρ H l vs)(q:RVs ρ H m g)(r:l.all f=true)(E:m.all f=true)(w:∀x,f x=true->Z1 x=true)(Y:A.units<cLine)
 (ih:∀x y G J u v,RV ρ H x G->RV ρ H y J->f x=true->f y=true->L2.RelV G u->L2.RelV J v->EqAt A.in1 s u v (bI x y)) :
 (a≠b->RcAt A s (.ref a) (.ref b) (eqvs l m))/\RcAt A s (.ref a) (.ref b) (eqvs l m)/\EqAt A s (.ref a) (.ref b) (eqvs l m):=by
 obtain⟨_,k,z,pi⟩:=I.hok a _ D;obtain⟨_,c,d,B⟩:=I.hok b _ o;have C:RcAt A s (.ref a) (.ref b) (eqvs l m):=by
  have h:=RcAt.tuples (e:=λj=>bI (l.getD j .non) (m.getD j .non)) pi B Y (λj L N=>by
   have l1:j<vs.length:=by rw[z.length];exact L
   have l2:j<g.length:=by rw[d.length];exact N
   obtain⟨x,O,rx⟩:=p.get' (i:=j) (v:=vs[j]) (by simp);obtain⟨y,Q,ry⟩:=q.get' (i:=j) (v:=g[j]) (by simp);obtain⟨u,T,ru⟩:=z.get (i:=j) (x:=vs[j]) (by simp);obtain⟨v,U,rv⟩:=d.get (i:=j) (x:=g[j]) (by simp);have d1:l.getD j .non=x:=by rw[Jr,O];rfl
   have d2:m.getD j .non=y:=by rw[Jr,Q];rfl
   have q1:k.toArray[j]=u:=by
    rw[IJ L]at T;simpa using IK T
   have q2:c.toArray[j]=v:=by
    rw[IJ N]at U;simpa using IK U
   rw[d1,d2,q1,q2];exact ih x y _ _ u v rx ry (Jo.mp r x (Ja O)) (Jo.mp E y (Ja Q)) ru rv)
  rw[oZ];have z1:k.toArray.size=l.length:=by rw[II,<-z.length,p.length]
  have z2:c.toArray.size=m.length:=by rw[II,<-d.length,q.length]
  rw[z1,z2]at h;exact h
 refine⟨λ_=>C,C,?_⟩;by_cases n:a=b
 .subst n;rw[D]at o;cases o;have e:=RVs.uniq p q (T5 w l r) (T5 w m E);subst e;rw[(eqvs_nice l l (T5 w l r)).mpr rfl];exact EqAt.same _
 .exact EqAt.of_refs n C
theorem R5{x y:PV}{o p:V}{u v:Ip}(I:L2.Inv X pins σ H s)(q:RV ρ H x o)(w:RV ρ H y p)(c:A.units<cLine)(d:L2.RelV o u)(e:L2.RelV p v)
 (h:(∃l,x=.tup l/\U2 y=true)\/(∃m,y=.tup m/\U2 x=true)):EqAt A s u v (bI x y)/\RcAt A s u v (bI x y)/\LU A s u v (!bI x y):=by
 rcases h with⟨l,rfl,f⟩ | ⟨m,rfl,g⟩
 .cases q with
  | tup j r=>
    obtain⟨_,k,z,a⟩:=I.hok _ _ j;cases d;cases w with
    | non=>cases e;exact⟨EqAt.tuple_none a c,RcAt.tuple_none a c,LU.tuple_none a c⟩
    | int i=>obtain⟨t,rfl⟩:=e;exact⟨EqAt.tuple_int _ _ a c,RcAt.tuple_int _ _ a c,LU.tuple_int _ _ a c⟩
    | str i=>obtain⟨t,rfl⟩:=e;exact⟨EqAt.tuple_str _ _ a c,RcAt.tuple_str _ _ a c,LU.tuple_str _ _ a c⟩
    | bl b=>simp at f
    | tup n B=>simp at f
    | ref n=>simp at f
 .cases w with
  | tup j r=>
    obtain⟨_,k,z,a⟩:=I.hok _ _ j;cases e;cases q with
    | non=>cases d;exact⟨EqAt.none_tuple a c,RcAt.none_tuple a c,LU.none_tuple a c⟩
    | int i=>obtain⟨t,rfl⟩:=d;exact⟨EqAt.int_tuple _ _ a c,RcAt.int_tuple _ _ a c,LU.int_tuple _ _ a c⟩
    | str i=>obtain⟨t,rfl⟩:=d;exact⟨EqAt.str_tuple _ _ a c,RcAt.str_tuple _ _ a c,LU.str_tuple _ _ a c⟩
    | bl b=>simp at g
    | tup n B=>simp at g
    | ref n=>simp at g
theorem O9(A:Ji)(n:Nat)(h:A.units+(n+1)<cLine):A.in1.units+n<cLine:=by
 show _+1+n<cLine;omega
theorem Ay(I:L2.Inv X pins σ H s)(A:Ji)(w:A.units+1<cLine)(x y:PV)(e f:V)(u v:Ip)(a:RV ρ H x e)(b:RV ρ H y f)(g:jQ x=true)(h:jQ y=true)(c:L2.RelV e u)(d:L2.RelV f v):EqAt A s u v (bI x y):=by
 cases x with
 | tup l=>
   cases y with
   | tup m=>
     cases a with
     | tup i j=>
       cases b with
       | tup k n=>
         cases c;cases d;exact(n8 I i k j n g h jZ (by omega) (λx y e f u v a b o p q r=>ju a b o p q r)).2.2
   | _=>exact(R5 I a b (by omega) c d (.inl ⟨_,rfl,h⟩)).1
 | _=>
   cases y with
   | tup m=>exact(R5 I a b (by omega) c d (.inr ⟨_,rfl,g⟩)).1
   | _=>exact ju a b g h c d
theorem tj(I:L2.Inv X pins σ H s)(A:Ji)(w:A.units+2<cLine)(x y:PV)(c d:V)(u v:Ip)(a:RV ρ H x c)(b:RV ρ H y d)(g:z8 x=true)(h:z8 y=true)(e:L2.RelV c u)(f:L2.RelV d v):EqAt A s u v (bI x y):=by
 cases x with
 | tup l=>
   cases y with
   | tup m=>
     cases a with
     | tup i j=>
       cases b with
       | tup k n=>
         cases e;cases f;exact(n8 I i k j n g h sC (by omega) (λx y c d u v a b o p q r=>Ay I _ (O9 A 1 (by omega)) x y c d u v a b o p q r)).2.2
   | _=>exact(R5 I a b (by omega) e f (.inl ⟨_,rfl,h⟩)).1
 | _=>
   cases y with
   | tup m=>exact(R5 I a b (by omega) e f (.inr ⟨_,rfl,g⟩)).1
   | _=>exact ju a b g h e f
theorem pa(I:L2.Inv X pins σ H s)(A:Ji)(w:A.units+3<cLine)(x y:PV)(c d:V)(u v:Ip)(a:RV ρ H x c)(b:RV ρ H y d)(g:plain x=true)(h:plain y=true)(e:L2.RelV c u)(f:L2.RelV d v):EqAt A s u v (bI x y):=by
 cases x with
 | tup l=>
   cases y with
   | tup m=>
     cases a with
     | tup i j=>
       cases b with
       | tup k n=>
         cases e;cases f;exact(n8 I i k j n g h sD (by omega) (λx y c d u v a b o p q r=>tj I _ (O9 A 2 (by omega)) x y c d u v a b o p q r)).2.2
   | _=>exact(R5 I a b (by omega) e f (.inl ⟨_,rfl,h⟩)).1
 | _=>
   cases y with
   | tup m=>exact(R5 I a b (by omega) e f (.inr ⟨_,rfl,g⟩)).1
   | _=>exact ju a b g h e f
end
end Ws
namespace Ws
open PySem PySem.SeqAt L2
section
variable{X:Cx}{cm:Nat->Addr}{pins:List (Addr×Obj)}{σ:L2.St}{H:Hp}{s:Ir}{ρ:List Addr}{A:Ji}
theorem tp{x y:PV}{f g:V}{u v:Ip}(h:RV ρ H x f)(b:RV ρ H y g)(k:U2 x=true)(c:U2 y=true)(d:L2.RelV f u)(a:L2.RelV g v):RcAt A s u v (bI x y)/\LU A s u v (!bI x y):=by
 have l:∀(i j:Int),(i == j)=decide _:=λi j=>by rw[ME]
 have m:∀(i j:Str),(i == j)=decide _:=λi j=>by rw[ME]
 cases h with
 | non=>
   cases d;cases b with
   | non=>cases a;exact⟨RcAt.none_none,LU.none_none⟩
   | int i=>obtain⟨t,rfl⟩:=a;exact⟨RcAt.none_int _ _,LU.none_int _ _⟩
   | str i=>obtain⟨t,rfl⟩:=a;exact⟨RcAt.none_str _ _,LU.none_str _ _⟩
   | _=>simp at c
 | int i=>
   obtain⟨t,rfl⟩:=d;cases b with
   | non=>cases a;exact⟨RcAt.int_none _ _,LU.int_none _ _⟩
   | int j=>obtain⟨e,rfl⟩:=a;exact⟨RcAt.int_int _ _ _ _,LU.int_int _ _ _ _⟩
   | str j=>obtain⟨e,rfl⟩:=a;exact⟨RcAt.int_str _ _ _ _,LU.int_str _ _ _ _⟩
   | _=>simp at c
 | str i=>
   obtain⟨t,rfl⟩:=d;cases b with
   | non=>cases a;exact⟨RcAt.str_none _ _,LU.str_none _ _⟩
   | int j=>obtain⟨e,rfl⟩:=a;exact⟨RcAt.str_int _ _ _ _,LU.str_int _ _ _ _⟩
   | str j=>obtain⟨e,rfl⟩:=a;exact⟨RcAt.str_str _ _ _ _,LU.str_str _ _ _ _⟩
   | _=>simp at c
 | _=>simp at k
theorem pb{f:PV->Bool}{l m:List PV}{vs c:List V}{b a:List Ip}(w:RVs ρ H l vs)(z:RVs ρ H m c)(h:aF vs b)(d:aF c a)(B:l.all f=true)(C:m.all f=true)
 (ih:∀x y k n u v,RV ρ H x k->RV ρ H y n->f x=true->f y=true->L2.RelV k u->L2.RelV n v->EqAt A s u v (bI x y)) :
 ∀j (e:j<b.toArray.size) (g:j<a.toArray.size),EqAt A s b.toArray[j] a.toArray[j] (bI (l.getD j .non) (m.getD j .non)):=λj e g=>by
 have Q:j<vs.length:=by rw[h.length];exact e
 have l2:j<c.length:=by rw[d.length];exact g
 obtain⟨x,o,D⟩:=w.get' (i:=j) (v:=vs[j]) (by simp);obtain⟨y,p,E⟩:=z.get' (i:=j) (v:=c[j]) (by simp);obtain⟨u,q,G⟩:=h.get (i:=j) (x:=vs[j]) (by simp);obtain⟨v,r,I⟩:=d.get (i:=j) (x:=c[j]) (by simp);have J:l.getD j .non=x:=by rw[Jr,o];rfl
 have L:m.getD j .non=y:=by rw[Jr,p];rfl
 have N:b.toArray[j]=u:=by
  rw[IJ e]at q;simpa using IK q
 have O:a.toArray[j]=v:=by
  rw[IJ g]at r;simpa using IK r
 rw[J,L,N,O];exact ih x y _ _ u v D E (Jo.mp B x (Ja o)) (Jo.mp C y (Ja p)) G I
noncomputable def iP(K:Io)(g:Bool->Bool):R2:=λd e H Q=>∃(ρ:List Addr),
 (∃x y,RV ρ H x d/\RV ρ H y e/\plain x=true/\plain y=true/\Q (.bl (g (bI x y))) H)\/(∃b c,d=.bl b/\e=.bl c/\Q (.bl (g (b == c))) H)\/
 (∃a b l m f h,d=.ref a/\e=.ref b/\bE K H a f/\bE K H b h/\RVs ρ H l f/\RVs ρ H m h/\N4 l=true/\N4 m=true/\Q (.bl (g (eqvs l m))) H)
theorem tq(hr:X.A.units+64<cLine){r w:V}{u v:Ip}{Q:VK}{g:Bool->Bool}(I:L2.Inv X pins σ H s)(n:L2.RelV r u)(o:L2.RelV w v)(h:iP X.K g r w H Q):∃b,RcAt X.A s u v b/\LU X.A s u v (!b)/\Q (.bl (g b)) H:=by
 obtain⟨ρ,h⟩:=h;rcases h with⟨x,y,f,i,O,T,q⟩ | ⟨b,c,rfl,rfl,q⟩ | ⟨a,b,l,m,xs,ys,rfl,rfl,z,B,G,J,p1,p2,q⟩
 .refine⟨bI x y,?_,?_,q⟩<;>
  (cases x with
  | tup l=>
    cases y with
    | tup m=>
      cases f with
      | tup ha G=>
        cases i with
        | tup hb J=>
          cases n;cases o;obtain⟨_,C,L,D⟩:=I.hok _ _ ha;obtain⟨_,k,j,e⟩:=I.hok _ _ hb;have p:C.toArray.size=l.length:=by rw[II,<-L.length,G.length]
          have E:k.toArray.size=m.length:=by rw[II,<-j.length,J.length]
          have N:=pb G J L j (show l.all z8=true from O) (show m.all z8=true from T) (λx y r w u v f i z B U Y=>tj I _ (O9 X.A 2 (by omega)) x y r w u v f i z B U Y);first
           | (have h:=RcAt.tuples D e (by omega) N
              rw[p,E,<-oZ]at h;exact h)
           | (have h:=LU.tuples D e (by omega) N
              rw[p,E,<-oZ]at h;exact h)
    | _=>first | exact(R5 I f i (by omega) n o (.inl ⟨_,rfl,T⟩)).2.1 | exact(R5 I f i (by omega) n o (.inl ⟨_,rfl,T⟩)).2.2
  | _=>
    cases y with
    | tup m=>first | exact(R5 I f i (by omega) n o (.inr ⟨_,rfl,O⟩)).2.1 | exact(R5 I f i (by omega) n o (.inr ⟨_,rfl,O⟩)).2.2
    | _=>first | exact(tp f i O T n o).1 | exact(tp f i O T n o).2)
 .cases n;cases o;exact⟨b == c,RcAt.bool_bool _ _,LU.bool_bool _ _,q⟩
 .cases n;cases o;obtain⟨C,L,D,_⟩:=I.list z;obtain⟨k,j,e,_⟩:=I.list B;have p:C.toArray.size=l.length:=by rw[II,<-L.length,G.length]
  have E:k.toArray.size=m.length:=by rw[II,<-j.length,J.length]
  refine⟨eqvs l m,?_,?_,q⟩
  .by_cases d:l.length=m.length
   .have N:=pb G J L j p1 p2 (λx y r w u v f i z B U Y=>pa I _ (O9 X.A 3 (by omega)) x y r w u v f i z B U Y);have h:=RcAt.lists D.isList e.isList (by rw[p,E,d]) (by omega) N;rw[p,<-lT d]at h;exact h
   .rw[lR d];exact RcAt.lists_lengths D.isList e.isList (by rw[p,E];exact bne_iff_ne.mpr d) (by omega)
  .by_cases d:l.length=m.length
   .have N:=pb G J L j p1 p2 (λx y r w u v f i z B U Y=>pa I _ (O9 X.A 3 (by omega)) x y r w u v f i z B U Y);have h:=LU.lists D.isList e.isList (by rw[p,E,d]) (by omega) N;rw[p,<-lT d]at h;exact h
   .rw[lR d];exact LU.lists_lengths D.isList e.isList (by rw[p,E];exact bne_iff_ne.mpr d) (by omega)
theorem O5(a:X.A.units+64<cLine):cq X (compareOp .Eq) (iP X.K id):=by
 intro pins s σ H x y v u Q I c d q;obtain⟨b,e,_,f⟩:=tq a I c d q;exact e _ _ _ _ ⟨.bl b,H,I,rfl,f⟩
theorem T6(a:X.A.units+64<cLine):cq X (compareOp .NotEq) (iP X.K not):=by
 intro pins s σ H x y v u Q I c d q;obtain⟨b,_,e,f⟩:=tq a I c d q;exact e _ _ _ _ ⟨.bl _,H,I,rfl,f⟩
theorem lU{x y:PV}{B i:PHp}{b:Bool}{j o:V}{Q:VK}{g:Bool->Bool}(u:aR X.K cm ρ B H)(d:RV ρ H x j)(e:RV ρ H y o)(h:nN x y B=.ok b i)(q:Q (.bl (g b)) H):i=B/\iP X.K g j o H Q:=by
 have f:∀x y,RV ρ H x j->RV ρ H y o->G1 (so x y=true\/(plain x=true/\plain y=true)) (ret (bI x y)) B=.ok b i->i=B/\iP X.K g j o H Q:=λx y d e h=>by
  obtain⟨c,h⟩:=C7 h;cases h;refine⟨rfl,ρ,?_⟩;rcases c with c | c
  .cases x with
   | bl v=>
     cases y with
     | bl w=>cases d;cases e;exact .inr (.inl ⟨v,w,rfl,rfl,q⟩)
     | _=>simp at c
   | _=>simp at c
  .exact .inl ⟨x,y,d,e,c.1,c.2,q⟩
 cases x with
 | ref n=>
   cases y with
   | ref k=>
     obtain⟨l,T,z,C⟩:=B0 h;obtain⟨rfl,a,D,rfl,E,r⟩:=L3 u d z;obtain⟨m,U,G,I⟩:=B0 C;obtain⟨rfl,J,L,rfl,p,N⟩:=L3 u e G;obtain⟨c,O⟩:=C7 I;cases O;exact⟨rfl,ρ,.inr (.inr ⟨a,J,l,m,D,L,rfl,rfl,E,p,r,N,c.1,c.2,q⟩)⟩
   | _=>exact f _ _ d e h
 | _=>cases y<;>exact f _ _ d e h
theorem T7:W2 X.K cm cX (iP X.K id):=λρ B H x y z j l m Q a d e h k=>by
 obtain⟨b,n,f,c⟩:=B0 h;cases c;have i:=(lU (g:=id) (Q:=λ_ _=>True) a d e f trivial).1;subst i;exact(lU a d e f (k ρ H _ (aA.refl _ _) a (.bl b))).2
theorem Y9:W2 X.K cm dE (iP X.K not):=λρ B H x y z j l m Q a d e h k=>by
 obtain⟨b,n,f,c⟩:=B0 h;cases c;have i:=(lU (g:=not) (Q:=λ_ _=>True) a d e f trivial).1;subst i;exact(lU a d e f (k ρ H _ (aA.refl _ _) a (.bl _))).2
noncomputable def lV(K:Io)(b:Bool):R2:=λd e H Q=>∃(ρ:List Addr)(x:PV)(a:Addr)(l:List PV)(c:List V),RV ρ H x d/\e=.ref a/\(bE K H a c\/cB K H a c)/\RVs ρ H l c/\plain x=true/\N4 l=true/\Q (.bl (if b then !fb x l else fb x l)) H
noncomputable def pd(ρ:List Addr)(H:Hp)(x:PV)(u:Ip):Bool:=@decide (∃y a,L2.RelV a u/\RV ρ H y a/\plain y=true/\bI y x=true) (Ll _)
theorem tu{x y:PV}{a:V}{u:Ip}(b:L2.RelV a u)(c:RV ρ H y a)(d:plain y=true):pd ρ H x u=bI y x:=by
 cases e:bI y x with
 | true=>exact@decide_eq_true _ (Ll _) ⟨y,a,b,c,d,e⟩
 | false=>
   refine@decide_eq_false _ (Ll _) λg=>?_;obtain⟨z,k,h,i,j,f⟩:=g;have:=h.inj b;subst this;have:=RV.uniq i c (d9 _ j) (d9 _ d);subst this;rw[e]at f;cases f
theorem l7{x:PV}:∀{l:List PV}{b:List V}{c:List Ip},RVs ρ H l b->aF b c->N4 l=true->c.any (pd ρ H x)=fb x l
 | _,_,_,.nil,.nil,_=>rfl
 | _,_,_,.cons h r,.cons d e,p=>by
   have a:=p;unfold N4 at a;rw[Ml,Jf]at a;rw[Lk,tu d h a.1,l7 r e a.2];rfl
theorem l8{x:PV}{d:V}{v:Ip}(I:L2.Inv X pins σ H s)(A:Ji)(b:A.units+3<cLine)(e:RV ρ H x d)(f:plain x=true)(g:L2.RelV d v):∀{l:List PV}{i:List V}{j:List Ip},RVs ρ H l i->aF i j->N4 l=true->∀u∈j,EqAt A s u v (pd ρ H x u)
 | _,_,_,.nil,.nil,_=>λu b=>by cases b
 | _,_,_,.cons h r,.cons k m,p=>λu c=>by
   have a:=p;unfold N4 at a;rw[Ml,Jf]at a;rcases IF.mp c with rfl | c
   .rw[tu k h a.1];exact pa I A b _ _ _ _ _ _ h e a.1 f k g
   .exact l8 I A b e f g r m a.2 u c
theorem jv(o:X.A.units+64<cLine):cq X (compareOp .In) (lV X.K false):=by
 intro pins s σ H x y v u Q I i m h;obtain⟨ρ,z,a,l,p,j,rfl,b,r,k,d,q⟩:=h;cases m;rcases b with b | b
 .obtain⟨e,c,f,n⟩:=I.list b;refine in_listAt _ f.isList (λw g=>l8 I _ (O9 X.A 3 (by omega)) j k i r c d w (by simpa using g)) ⟨.bl _,H,I,rfl,?_⟩;rw[MK,l7 r c d];exact q
 .obtain⟨e,c,f,n⟩:=I.tuple b;refine in_tupleAt _ f (λw g=>l8 I _ (O9 X.A 3 (by omega)) j k i r c d w (by simpa using g)) ⟨.bl _,H,I,rfl,?_⟩;rw[MK,l7 r c d];exact q
theorem tw(o:X.A.units+64<cLine):cq X (compareOp .NotIn) (lV X.K true):=by
 intro pins s σ H x y v u Q I i m h;obtain⟨ρ,z,a,l,p,j,rfl,b,r,k,d,q⟩:=h;cases m;rcases b with b | b
 .obtain⟨e,c,f,n⟩:=I.list b;refine notIn_listAt _ f.isList (λw g=>l8 I _ (O9 X.A 3 (by omega)) j k i r c d w (by simpa using g)) ⟨.bl _,H,I,rfl,?_⟩;rw[MK,l7 r c d];exact q
 .obtain⟨e,c,f,n⟩:=I.tuple b;refine notIn_tupleAt _ f (λw g=>l8 I _ (O9 X.A 3 (by omega)) j k i r c d w (by simpa using g)) ⟨.bl _,H,I,rfl,?_⟩;rw[MK,l7 r c d];exact q
theorem jw:W2 X.K cm fU (lV X.K false):=λρ B H x y z n o p Q e f g h k=>by
 obtain⟨l,q,i,b⟩:=B0 h;obtain⟨rfl,a,j,rfl,m,r⟩:=l6 e g i;obtain⟨c,d⟩:=C7 b;cases d;exact⟨ρ,x,a,l,j,f,rfl,m,r,c.1,c.2,k ρ H _ (aA.refl _ _) e (.bl _)⟩
theorem tz:W2 X.K cm jT (lV X.K true):=λρ B H x y z n o p Q e f g h k=>by
 obtain⟨l,q,i,b⟩:=B0 h;obtain⟨rfl,a,j,rfl,m,r⟩:=l6 e g i;obtain⟨c,d⟩:=C7 b;cases d;exact⟨ρ,x,a,l,j,f,rfl,m,r,c.1,c.2,k ρ H _ (aA.refl _ _) e (.bl _)⟩
noncomputable def ko:Ty->String
 | .int=>"int"
 | .bool=>"bool"
 | .tuple=>"tuple"
 | .list=>"list"
structure lW(K:Io):Prop where
 t (a b:String) (ha:a∈["NoneType","bool","int","str","list","tuple"]) (hb:b∈["int","bool","tuple","list"]):OG K (.type a) (.type b)=some (a == b||(a == "bool"&&b == "int"))
noncomputable def Az(K:Io)(t:Ty):List V->Hp->VK->Prop:=λb H Q=>∃v a,b=[v,.ty (ko t)]/\a∈["NoneType","bool","int","str","list","tuple"]/\y8 K H v (.type a)/\Q (.bl (a == ko t||(a == "bool"&&ko t == "int"))) H
theorem AA(a:lW X.K)(t:Ty):bh X (.builtin "isinstance") (Az X.K t):=by
 intro pins s σ H i j Q I r h;obtain⟨v,d,rfl,e,b,q⟩:=h;obtain⟨u,w,rfl,f,c⟩:=lh r;cases c;exact rG I f b (a.t d _ e (by cases t<;>simp[ko])) λg=>⟨.bl _,H,I.tok g,rfl,q⟩
theorem X5{e:Expr}{d:ED}{t:Ty}{j:Str}{p p2 pos:Pos}(u:lW X.K)(he:Pe X cm e d)(L:Gl X "isinstance")(N:X.mg "isinstance" = none)(w:Gl X j)(y:X.mg j=none)(B:bootBuiltins j=some (.type (ko t)))
 (hs:starEach [e,.Name j p2] X.env=(false,eval e X.env)::starEach [.Name j p2] X.env:=by exact D6 rfl) (C:starEach [PD j p2] X.env=(false,eval (.Name j p2) X.env)::starEach [] X.env:=by exact D6 rfl) (hpl:(backTo pos (starEach [PD j p2] X.env)).any (·.1)=false:=by rfl)
 (J:j≠"__name__":=by decide) (D:(j == ("__debug__" : Str))=false:=by decide) :
 Pe X cm (.Call (.Name "isinstance" p) [e,.Name j p2] [] pos) (j7 d t):=
 D7 (V4 (AA u t) L N MS (d7 he (d7 (qW (v:=.ty _) w y B rfl J D) lq C) hs) (he:=hs)) λσ H Q O=>by
  obtain⟨ρ,A,E,v,A',T,U,Y,k⟩:=O;obtain⟨x,A1,e1,G⟩:=B0 Y;obtain⟨b,A2,m,I⟩:=B0 G;cases I;refine⟨ρ,A,E,x,A1,T,U,e1,λg o v1 q f h=>?_⟩;cases x with
  | non=>cases h;cases t<;>cases m<;>exact⟨_,"NoneType",rfl,by simp,.non,k g o _ q f (.bl _)⟩
  | bl c=>cases h;cases t<;>cases m<;>exact⟨_,"bool",rfl,by simp,.bl c,k g o _ q f (.bl _)⟩
  | int i=>cases h;cases t<;>cases m<;>exact⟨_,"int",rfl,by simp,.int i,k g o _ q f (.bl _)⟩
  | str z=>cases h;cases t<;>cases m<;>exact⟨_,"str",rfl,by simp,.str z,k g o _ q f (.bl _)⟩
  | tup l=>
    cases h with
    | tup ha r=>cases t<;>cases m<;>exact⟨_,"tuple",rfl,by simp,.tup ha,k g o _ q f (.bl _)⟩
  | ref n=>
    cases t<;>
    (obtain⟨l,A3,e3,e4⟩:=B0 m
     obtain⟨rfl,hA,a,xs,rfl,J,hH,r⟩:=P7 f h e3;cases e4;exact⟨_,"list",rfl,by simp,.lst hH,k g o _ q f (.bl _)⟩)
end
end Ws
namespace Ws
open PySem L2
theorem tD{X:Cx}{a:List (Addr×Obj)}{σ:L2.St}{H:Hp}{s:Ir}{h':Heap}{t':Nat}{fp:List Addr}{T:Addr}{o:HO}(I:L2.Inv X a σ H s)(i:∀b∈fp,o7 X a H b)
 (k:∀b u,b∉fp->s.heap.get? b=some u->h'.get? b=some u) (j:s.heap.objs.size<=T) (new:aP X.prog X.w (aJ H T o) h' T o):L2.Inv X a σ (aJ H T o) { s with heap:=h',toks:=t' }:=by
 have f:=I.hok.fresh j;have neT:∀b u,s.heap.get? b=some u->b≠T:=λb u e=>IH (IL (IA e) j);have g:∀b u,H b=some u->b∉fp:=λb u e z=>by rw[(i b z).1]at e;cases e
 refine I.step (λb h=>?_) (λb u _ _ d e _=>k b u d e) (λb u _ _ d e _=>⟨u.slots,k b u d e⟩) (λb u d e n=>by rw[ak (neT b u e)];exact n) (λb u d e=>⟨u,k b u d e⟩)
  (λb x e=>by rw[ak (G7 e f)];exact e) (λb u x e=>by rw[ak (G7 e f)];exact e) (λb N e=>⟨#[],by rw[ak (G7 e f),e];simp⟩) (λm A=>?_) (λb u e=>?_) I.bare
 .obtain⟨_,B,_,C,D,E⟩:=i b h;exact⟨C,B,D,E⟩
 .obtain⟨y,G,J,L,r⟩:=A;exact⟨y,G,J,k _ y (λz=>(i _ z).2.1 rfl) L,r⟩
 .by_cases h:b=T
  .subst h;rw[C8]at e;cases e;exact new
  .rw[ak h]at e;refine(I.hok b u e).stay (λc v d q=>k c v ?_ q) (λc q=>by rw[ak (G7 q f)];exact q) λc x q=>by rw[ak (G7 q f)];exact q
   rcases d with rfl | d
   .exact g c u e
   .exact g c _ d
theorem tE{X:Cx}{a:List (Addr×Obj)}{σ:L2.St}{H:Hp}{s:Ir}{h':Heap}{t':Nat}{fp:List Addr}(I:L2.Inv X a σ H s)(g:∀b∈fp,o7 X a H b)
 (k:∀b u,b∉fp->s.heap.get? b=some u->h'.get? b=some u):L2.Inv X a σ H { s with heap:=h',toks:=t' }:=by
 have f:∀b u,H b=some u->b∉fp:=λb u e z=>by rw[(g b z).1]at e;cases e
 refine I.step (λb o=>?_) (λb u _ _ d e _=>k b u d e) (λb u _ _ d e _=>⟨u.slots,k b u d e⟩) (λb u d e n=>n) (λb u d e=>⟨u,k b u d e⟩)
  (λb j e=>e) (λb u j e=>e) (λb E e=>⟨#[],by rw[e];simp⟩) (λm p=>?_) (λb u e=>?_) I.bare
 .obtain⟨_,w,_,x,y,A⟩:=g b o;exact⟨x,w,y,A⟩
 .obtain⟨l,B,C,D,r⟩:=p;exact⟨l,B,C,k _ l (λz=>(g _ z).2.1 rfl) D,r⟩
 .refine(I.hok b u e).stay (λc v d q=>k c v ?_ q) (λc q=>q) λc j q=>q;rcases d with rfl | d
  .exact f c u e
  .exact f c _ d
theorem AB{P:IS}{w:Jp}{K:Io}{elts:List Expr}{x1:Nat}{pos:Pos}(a e it:Addr)(hei:e≠it):iH P w K (.Tuple elts x1 pos) (oU K a) [e,it] e (λi h=>(∃old,IsEnum h e it i old)/\h.IsListIter it a i) where
 mem:=by simp
 obj:=λi h st b hb=>by
  obtain⟨⟨old,he⟩,o,e1,c,d⟩:=st;rcases IF.mp hb with rfl | hb
  .exact⟨_,he,λv z=>by cases z⟩
  .have e2:b=it:=by simpa using hb
   subst e2;exact⟨o,e1,λv z=>by rw[d]at z;cases z⟩
 keep:=λi h h' st k=>by
  obtain⟨⟨old,he⟩,hit⟩:=st;exact⟨⟨old,k e (by simp) _ he⟩,hit.at λo x=>k it (by simp) o x⟩
 item:=by
  intro X hP hw hK hc i pins s σ H E I hf st hg;subst hP hw hK;obtain⟨xs,x,hq,hx⟩:=hg;obtain⟨its,rv,p,hz⟩:=I.list hq;obtain⟨u,hu,ru⟩:=rv.get hx;obtain⟨⟨old,he⟩,hit⟩:=st;have el:=IA he;refine wpAny_pyNext_enum_item he hit p.isList (by simpa using hu) hei λh' ho hit' hT hsz hk=>?_;refine⟨.ref _,rfl,wpAny_letOwnedTupleGo_enum ho λh2 he2 hs2=>?_⟩;have sb:∀b u,b≠e->h'.get? b=some u->h2.get? b=some u:=λb u hb q=>(hs2.2 b hb).trans q;have hTe:=Kg el;have I2:L2.Inv X pins σ (aJ H s.heap.objs.size (.tup [.int i,x])) { s with heap:=h2,toks:=s.toks+1 }:=by
   refine tD I hf (λb u hb q=>?_) (Iw _) ?_
   .have h1:b≠e:=λz=>hb (by simp[z]);have h2:b≠it:=λz=>hb (by simp[z]);exact sb b u h1 (hk b u h1 h2 q)
   .exact⟨by show 2<=sizeLine;decide,[.int i _,u],.cons ⟨_,rfl⟩ (.cons ru .nil),_,sb _ _ hTe hT,rfl,_,rfl⟩
  refine⟨.ref _,aJ H _ _,I2,rfl,⟨x,_,λys hy=>by rw[I.list_inj hy hq];exact hx,I.hok.fresh (Iw _),rfl,rfl⟩,⟨⟨u,by exact_mod_cast he2⟩,hit'.at λo y=>sb it o hei.symm y⟩,λb hb=>?_⟩
  .rw[ak]
   .exact(hf b hb).1
   .rcases IF.mp hb with rfl | hb
    .exact hTe.symm
    .have e2:b=it:=by simpa using hb
     subst e2;obtain⟨_,y,_⟩:=hit;exact IH (IA y)
 done:=by
  intro X hP hw hK hc i pins s σ H E I hf st hg;subst hP hw hK;obtain⟨xs,hq,hx⟩:=hg;obtain⟨its,rv,p,hz⟩:=I.list hq;obtain⟨⟨old,he⟩,hit⟩:=st;have hl:=rv.length;exact wpAny_pyNext_enum_end (I.ok.hd hc) he hit p.isList (by simp;omega) λh' eb=>⟨rfl,tE I hf λb u hb q=>eb b u (λz=>hb (by simp[z])) q⟩
 self:=λ_ _ _ _ _ st h=>by
  obtain⟨⟨old,he⟩,_⟩:=st;exact wpAny_pyIter_enum he h
section
variable{X:Cx}{cm:Nat->Addr}
theorem tF{l:Expr}{d:ED}{f:List Expr}{z:Nat}{g p pos:Pos}(U:Gl X "enumerate")(Y:X.mg "enumerate" = none)(hl:Pe X cm l d)(hs:starEach [l] X.env=(false,eval l X.env)::starEach [] X.env:=by exact D6 rfl):L2.PI X (.Tuple f z g) (.Call (.Name "enumerate" p) [l] [] pos) (gF X.K cm (lC d)):=by
 intro i s σ H R I h;obtain⟨ρ,A,B,J,A',rl,rs,ev,k⟩:=h;obtain⟨x,A1,e1,j⟩:=B0 ev;refine PyProof.Rows.Call_ (V9 I U Y PyProof.Rows.boot_enumerate (KI (aQ ((r_cons hl r_nil hs) pos i s σ H (λO c=>∃a w,O=[.ref a]/\bE X.K c a w/\R (oU X.K a) c) I ⟨ρ,A,B,[x],A1,rl,rs,by show ao _ _ A=_;rw[aB e1];rfl,λC c a8 z o D=>?_⟩) λus e zq=>?_) hs rfl))
 .cases x with
  | ref n=>
    obtain⟨m,A2,e2,E⟩:=B0 j;cases D with
    | cons Q hr=>
      cases hr;obtain⟨rfl,a,w,rfl,G,r⟩:=L3 o Q e2;cases E;cases Q with
      | ref hn=>exact⟨a,w,rfl,G,k C c _ z o ⟨a,hn,rfl⟩⟩
  | _=>cases j
 .obtain⟨O,c,y,r1,q1⟩:=zq;obtain⟨a,w,rfl,G,q⟩:=q1;obtain⟨u,rfl,rx⟩:=Y3 r1;cases rx;obtain⟨b6,rv,pl,hz⟩:=y.list G;refine call_enumerate_list pl.isList λh' T L c0 kp=>?_;refine wpAny_pyIter_enum T ?_;have I2:=y.kept (t':=e.toks) kp;refine⟨e.heap.objs.size+1,[e.heap.objs.size+1,e.heap.objs.size],_,_,c,rfl,I2,AB a _ _ (Nat.succ_ne_self _),⟨⟨_,T⟩,L⟩,λb N=>?_,q⟩;have v:e.heap.objs.size<=b:=by
   rcases IF.mp N with rfl | N
   .simp
   .have:b=e.heap.objs.size:=by simpa using N
    exact Oh this.symm
  exact y.fpOk v (y.hok.fresh v)
end
structure dc(P:IS)(w:Jp)(K:Io)(mg:Str->Option Ip)(base:Heap)(cm:Nat->Addr)(x:Str)(k:Nat)(ps:List Str)(f:Fun)(n:Nat):Prop where
 ex:∃(fa:Addr)(fd:IQ),ay P w K mg base aS k fa fd ps (bf K cm f n)/\mg x=some (.ref fa)/\KC K (.ref fa)=true/\L2.Binds K fd ps []
 len:∀vs A v A',f vs A=.ok v A'->vs.length=n
structure Q9(P:IS)(w:Jp)(K:Io)(mg:Str->Option Ip)(base:Heap)(cm:Nat->Addr)(c:Nat)(m:Str)(k:Nat)(ps:List Str)(f:Fun)(n:Nat):Prop where
 ex:∃(fa:Addr)(fd:IQ),ay P w K mg base aS k fa fd ps (bf K cm f n)/\gY K (cm c) m fa/\L2.Binds K fd ps []
 len:∀vs A v A',f vs A=.ok v A'->vs.length=n
structure jx(P:IS)(w:Jp)(K:Io)(mg:Str->Option Ip)(base:Heap)(cm:Nat->Addr)(c:Nat)(x:Str)(k:Nat)(ps:List Str)(f:Fun)(n:Nat):Prop where
 ex:∃(fa:Addr)(fd:IQ),ay P w K mg base aS k fa fd ps (bf K cm f n)/\L2.Mk K (cm c) fa/\mg x=some (.ref (cm c))/\L2.Binds K fd ps []
 len:∀vs A v A',f vs A=.ok v A'->vs.length=n/\v=.non
section
variable{X:Cx}{cm:Nat->Addr}
theorem aD{f:Fun}{n k d:Nat}{ps:List Str}{x:Str}{e:Expr}{a:List Expr}{g:AD}{p pos:Pos}(D:dc X.prog X.w X.K X.mg X.base cm x k ps f n)(h:k<=d)(i:aL d X.A)(j:Gl X x)
 (l:Pa X cm (e::a) g) (b:(x == ("__debug__" : Str))=false:=by decide) (he:starEach (e::a) X.env=(false,eval e X.env)::starEach a X.env:=by exact D6 rfl) (hpl:(backTo pos (starEach a X.env)).any (·.1)=false:=by rfl) :
 Pe X cm (.Call (.Name x p) (e::a) [] pos) (aM f g):=by
 obtain⟨q,r,F,m,c,o⟩:=D.ex;exact An F D.len (i.mono h) j m c o l b he hpl
theorem aH{c:Nat}{f:Fun}{n k j:Nat}{ps:List Str}{m:Str}{o e:Expr}{b:List Expr}{d:ED}{l:AD}{a pos:Pos}{p:Sem Bool}(D:Q9 X.prog X.w X.K X.mg X.base cm c m k ps f n)(q:k<=j)(r:aL j X.A)(s:ej X.K (cm c))(u:Pe X cm o d)(v:Pa X cm (e::b) l)(g:∀i,i<19->cR i≠m)
 (h:starEach (e::b) X.env=(false,eval e X.env)::starEach b X.env:=by exact D6 rfl) (hpl:(backTo pos (starEach b X.env)).any (·.1)=false:=by rfl)
 (x:eval (.Call (.Attribute o m a) (e::b) [] pos) X.env=(do
  let ov <-eval o X.env
  standAt a.atName
  let(f,first) <-holding [ov] (getMethod ov m p)
  callWith pos f first (backTo pos (starEach (e::b) X.env)) (backToKw pos (keywordEach [] X.env))):=by rfl) :
 Pe X cm (.Call (.Attribute o m a) (e::b) [] pos) (J8 c f d l):=by
 obtain⟨B,C,F,y,z⟩:=D.ex;exact Ao u s y F D.len g (r.mono q) z v h hpl x
theorem lX{c:Nat}{f:Fun}{n k d:Nat}{ps:List Str}{x:Str}{e:Expr}{a:List Expr}{g:AD}{p pos:Pos}(D:jx X.prog X.w X.K X.mg X.base cm c x k ps f n)(h:k+1<=d)(i:aL d X.A)
 (j:Gl X x) (l:Pa X cm (e::a) g) (b:(x == ("__debug__" : Str))=false:=by decide) (he:starEach (e::a) X.env=(false,eval e X.env)::starEach a X.env:=by exact D6 rfl) (hpl:(backTo pos (starEach a X.env)).any (·.1)=false:=by rfl) (m:c<7:=by decide) :
 Pe X cm (.Call (.Name x p) (e::a) [] pos) (hZ c f g):=by
 obtain⟨s,u,F,o,q,r⟩:=D.ex;exact Aq m o F D.len (i.mono h) j q r l b he hpl
theorem tG{x:Str}{i:Int}{pos:Pos}(b:Gl X x)(a:∃t,X.mg x=some (.int i t))(hd:(x == ("__debug__" : Str))=false:=by decide):Pe X cm (.Name x pos) (eK (.int i)):=by
 obtain⟨t,a⟩:=a;exact jo (qV b a (show L2.RelV (.int i) _ from⟨t,rfl⟩) hd) λ_ _=>.int i
end
structure K6(K:Io)(mg:Str->Option Ip)(cm:Nat->Addr):Prop where
 kit:lW K
 cls:∀c,c<7->ej K (cm c)
 na:∀c i,i<19->c<7->bH K (cm c) (cR i)
 b_len:mg "len" = none
 b_range:mg "range" = none
 b_list:mg "list" = none
 b_sorted:mg "sorted" = none
 b_isinstance:mg "isinstance" = none
 b_int:mg "int" = none
 b_bool:mg "bool" = none
 b_tuple:mg "tuple" = none
 b_enumerate:mg "enumerate" = none
 b_reversed:mg "reversed" = none
 b_max:mg "max" = none
 b_min:mg "min" = none
 b_all:mg "all" = none
 b_any:mg "any" = none
 b_set:mg "set" = none
 b_zip:mg "zip" = none
 b_dict:mg "dict" = none
section
variable{prog:IS}{w:Jp}{A:Ji}{R:OF->Ir->Prop}{s:Ir}
abbrev tH(b:List Expr)(a:Env):Sem Bool:=forIn b true λc r=>if r=true then do let ok <-isTrue c a (eval c a);pure (ForInStep.yield ok) else pure (ForInStep.yield r)
theorem AE{p a iter:Expr}{q:List Expr}{o:Nc}{pos:Pos}{it u:Ip}{e:Env}(I:Nat->Ir->Prop)
 (y:∀n s,I n s->wpAny (model prog w) A (pyNext it) (λr b=>match r with
  | none=>R (.ok .next) b
  | some v=>wpAny (model prog w) A (letOwnedTupleGo a it v) (λ_ f=>wpAny (model prog w) A (assign a e v) (λ_ g=>
   wpAny (model prog w) A (tH q e) (λok c=>
    if ok=true then wpAny (model prog w) A (eval p e) (λx i=>
     wpAny (model prog w) A (call (.builtin "list.append") [u,x]) (λ_ j=>∃m,m<n/\I m j) (λ_ _=>False) i) (λ_ _=>False) c
    else ∃m,m<n/\I m c) (λ_ _=>False) g) (λ_ _=>False) f) (λ_ _=>False) b) (λ_ _=>False) s)
 (n:Nat) (h:I n s):codeAny (model prog w) A (.compLoop (.ListComp p [⟨a,iter,q,0⟩] o pos) 0 it u e) R s:=by
 refine codeAny_loop rfl I (λn s E=>?_) n h;show wpAny _ A _ _ _ s;refine wpAny_noted ?_;rw[compTurn_list];refine Il (Mf (Il (Jh (y n s E) (λr b k=>?_) λ_ _ d=>d.elim)));cases r with
 | none=>exact Iv k
 | some v=>
   refine Il (Jh k (λ_ f z=>?_) λ_ _ d=>d.elim);refine Il (Jh z (λ_ g B=>Il (Jh B (λok c l=>?_) λ_ _ d=>d.elim)) λ_ _ d=>d.elim);cases ok with
   | false=>exact Iv ⟨rfl,l⟩
   | true=>
     exact Il (Il (Jh l (λx i C=>Il (Jh C (λ_ j D=>Iv (Iv ⟨rfl,D⟩)) λ_ _ d=>d.elim)) λ_ _ d=>d.elim))
end
noncomputable def fm(X:Cx)(N:List Str)(scope:Nc)(cl:List (Str×Addr))(C:Addr)(s₀:Ir)(H₀:Hp)(fp:List Addr):Cx where
 prog:=X.prog
 w:=X.w
 K:=X.K
 mg:=X.mg
 base:=X.base
 A:=X.A
 N:=N
 s₀:=s₀
 H₀:=H₀
 env:=compEnvC scope cl C X.env
 outer:=X.stack
 stack:=X.stack
 ex:=fp
 fn:=λ_=>false
 calm:=X.calm
 pn:=[]
 xe:=λ_ _=>False
inductive be (X:Cx) (scope:Nc) (cl:List (Str×Addr)):List Str->List (Option Nat)->Prop where
 | nil:be X scope cl [] []
 | own {x:Str} {N:List Str} {js:List (Option Nat)} (h:be X scope cl N js):be X scope cl (x::N) (none::js)
 | free {x:Str} {j:Nat} {N:List Str} {js:List (Option Nat)} (h1:X.N[j]?=some x) (h2:X.env.kindOf x=some .cell\/X.env.kindOf x=some .free) (h3:jh X.env.scope x) (h4:cl.lookup x=X.env.cells.lookup x) (h5:(relabel scope X.env).names.lookup x=some .cell\/(relabel scope X.env).names.lookup x=some .free) (h:be X scope cl N js):be X scope cl (x::N) (some j::js)
theorem be.len{X:Cx}{a:Nc}{c:List (Str×Addr)}:∀{N:List Str}{b:List (Option Nat)},be X a c N b->b.length=N.length
 | _,_,.nil=>rfl
 | _,_,.own h=>by simp[h.len]
 | _,_,.free _ _ _ _ _ h=>by simp[h.len]
theorem be.get{X:Cx}{f:Nc}{l:List (Str×Addr)}:∀{N:List Str}{m:List (Option Nat)}{i j:Nat}{x:Str},be X f l N m->N[i]?=some x->m[i]?=some (some j)->X.N[j]?=some x/\(X.env.kindOf x=some .cell\/X.env.kindOf x=some .free)/\jh X.env.scope x/\l.lookup x=X.env.cells.lookup x/\((relabel f X.env).names.lookup x=some .cell\/(relabel f X.env).names.lookup x=some .free)
 | _,_,_,_,_,.nil,h,_=>by simp at h
 | _,_,0,_,_,.own _,_,h=>by simp at h
 | _,_,i+1,_,_,.own h,g,k=>be.get h (by simpa using g) (by simpa using k)
 | _,_,0,_,_,.free a b c d e _,g,k=>by simp at g k;subst g;subst k;exact⟨a,b,c,d,e⟩
 | _,_,i+1,_,_,.free _ _ _ _ _ h,g,k=>be.get h (by simpa using g) (by simpa using k)
theorem tI{c:Type}{b:List (Option Nat)}{σ:List (Option c)}{i:Nat}{v:c}(h:(cp b σ)[i]?=some (some v)):∃j,b[i]?=some (some j)/\σ[j]?=some (some v):=by
 unfold cp at h;rw[Jc]at h;rcases e:b[i]? with _ | (_ | j)
 .rw[e]at h;cases h
 .rw[e]at h;cases h
 .rw[e]at h;refine⟨j,rfl,?_⟩;have a:σ.getD j none=some v:=IK h;rw[Jr]at a;rcases d:σ[j]? with _ | o
  .rw[d]at a;cases a
  .rw[d]at a;exact congrArg some a
theorem cc.bst{ρ:List Addr}{H:Hp}{a:PSt}{σ:L2.St}(h:cc ρ H a σ)(b:List (Option Nat)):cc ρ H (Ws.cp b a) (Ws.cp b σ):=by
 refine⟨by simp[Ws.cp],λi p c=>?_⟩;obtain⟨j,d,e⟩:=tI c;obtain⟨v,f,g⟩:=h.get j p e;refine⟨v,?_,g⟩;unfold Ws.cp;rw[Jc,d];show some (σ.getD j none)=_;rw[Jr,f];rfl
structure kq(X:Cx)(scope:Nc)(cl:List (Str×Addr)):Prop where
 kind:scope.kind=.function
 clos:closureFor scope X.env=pure cl
 nocell:∀y∈scope.names,y.2≠.cell
 names:∀y∈scope.names,y.2=.local->scope.names.lookup y.1=some .local
 sub:∀p∈cl,X.env.cells.lookup p.1=some p.2
 has:∀y∈scope.names,y.2=.free->(cl.lookup y.1).isSome=true
theorem AF{X:Cx}{a:Nc}{f:List (Str×Addr)}(S:kq X a f){x:Str}(h:(relabel a X.env).names.lookup x=some .cell\/(relabel a X.env).names.lookup x=some .free):∃c,f.lookup x=some c:=by
 have d:∀k,(x,k)∈(relabel a X.env).names->k=.cell\/k=.free->∃c,f.lookup x=some c:=λk j l=>by
  obtain⟨⟨n,m⟩,g,e⟩:=IC.mp j;dsimp only at e;have b:n=x/\m=.free:=by
   split at e
   .rename_i i;cases e;simp only[Jf,beq_iff_eq]at i;exact⟨rfl,i.1.1⟩
   .cases e;rcases l with rfl | rfl
    .exact absurd rfl (S.nocell _ g)
    .simp
  obtain⟨rfl,rfl⟩:=b;exact Nz.mp (S.has _ g rfl)
 rcases h with h | h
 .exact d _ (JE h) (.inl rfl)
 .exact d _ (JE h) (.inr rfl)
section
variable{X:Cx}{cm:Nat->Addr}{pins:List (Addr×Obj)}{σ:L2.St}{H:Hp}{s:Ir}
theorem AG{N:List Str}{G:List (Option Nat)}{a:Nc}{n:List (Str×Addr)}{C:Addr}{fp:List Addr}{h':Heap}{t':Nat}{m:Str->Option Ip}(S:kq X a n)(Fr:be X a n N G)(I:L2.Inv X pins σ H s)(k:∀b∈fp,o7 X pins H b)(r:∀b∈fp,b<s.heap.objs.size)
 (w:s.heap.objs.size<=C) (J:∀b u,s.heap.get? b=some u->h'.get? b=some u) (A:h'.Ns C m):L2.Inv (fm X N a n C s H fp) [] (Ws.cp G σ) H { s with heap:=h',toks:=t' }:=by
 have B:L2.Inv X pins σ H { s with heap:=h',toks:=t' }:=I.kept J;have sub:=λx c e=>S.sub (x,c) (JE e);refine⟨⟨I.ok.mod,S.kind,I.ok.glob,I.ok.blt,w,λx y c D E=>I.ok.inj x y c (sub x c D) (sub y c E),λx L=>AF S L,λx c h=>(nomatch h),I.ok.hd,I.ok.frames,.inl rfl,λb d=>⟨IH (IL (r b d) w),λx c e=>(k b d).2.2.2.2.1 x c (sub x c e)⟩,
  I.bs,Jm I.ok.bsz I.sz,λb o e d=>?_,λb d O=>?_,I.stack,I.stkFree⟩,rfl,I.bare,Un.kept J,⟨m,A,λi x v D E h3=>?_⟩,λx c e=>B.cell x c (sub x c e),I.hok.fresh w,λx c e=>I.freeC x c (sub x c e),λp Q=>absurd (show p∈([])from Q) (by simp),B.hok,by simp[Ws.cp,Fr.len,fm]⟩
 .rcases(k b d).2.2.2.1 with z | z
  .exact I.ok.noex b o e z
  .exact absurd (IL (IA e) (Jm I.ok.bsz z)) (JJ _)
 .rcases IF.mp (I.stkSub b O)with z | z
  .exact(k b d).2.1 z
  .exact(k b d).2.2.1 z
 .obtain⟨j,T,U⟩:=tI E;obtain⟨Y,l,a3,a4,a5⟩:=Fr.get D T;obtain⟨m0,_,hl⟩:=B.loc;obtain⟨u,ru,lk⟩:=hl j x v Y U a3;refine⟨u,ru,?_⟩;rcases lk with⟨q,_⟩ | ⟨_,c,e1,e2⟩
  .rcases l with l | l<;>(rw[l]at q;cases q)
  .exact .inr ⟨a5,c,a4.trans e1,e2⟩
theorem AH{D:Addr}{o:HO}{fp:List Addr}(I:L2.Inv X pins σ H s)(a:o7 X pins H D)(new:aP X.prog X.w (aJ H D o) s.heap D o):L2.Inv X pins σ (aJ H D o) s:=by
 have i:=a.1;have ne:∀b u,H b=some u->b≠D:=λb u e z=>by rw[z,i]at e;cases e
 obtain⟨l,g,d,p,os⟩:=s;refine I.step (ch:=[D]) (λb f=>?_) (λb u _ _ _ e _=>e) (λb u _ _ _ e _=>⟨u.slots,e⟩) (λb u j e n=>by rw[ak (λz=>j (by simp[z]))];exact n) (λb u _ e=>⟨u,e⟩)
  (λb h e=>by rw[ak (ne b _ e)];exact e) (λb u h e=>by rw[ak (ne b _ e)];exact e) (λb r e=>⟨#[],by rw[ak (ne b _ e),e];simp⟩) (λm k=>k) (λb u e=>?_) I.bare
 .have e:b=D:=by simpa using f
  subst e;exact⟨a.2.2.2.1,a.2.1,a.2.2.2.2.1,a.2.2.2.2.2⟩
 .by_cases f:b=D
  .subst f;rw[C8]at e;cases e;exact new
  .rw[ak f]at e;exact(I.hok b u e).stay (λc v _ q=>q) (λc q=>by rw[ak (ne c _ q)];exact q) λc h q=>by rw[ak (ne c _ q)];exact q
end
section
variable{X:Cx}{cm:Nat->Addr}
def kr(X:Cx)(b:List Expr)(t:TT):Prop:=
 ∀(a:List (Addr×Obj))(s:Ir)(σ:L2.St)(H:Hp)(Q:Bool->Hp->Prop),L2.Inv X a σ H s->t σ H Q->wpAny (model X.prog X.w) X.A (tH b X.env) (TP X a σ Q) X.xe s
theorem P3:kr X [] (gq X.K cm R1):=λa s h H Q I c=>by
 obtain⟨d,A,e,b,i,f,j,g,k⟩:=c;cases g;exact wpAny_tests_nil ⟨H,I,k d H (aA.refl _ _) f⟩
theorem ku{c:Expr}{t:TD}(h:Pt X cm c t):kr X [c] (gq X.K cm t):=λa s b H Q I q=>wpAny_tests_one (h a s b H Q I q)
structure tJ(C:Cx->Prop)(Z:Hp->Prop)(P:IS)(w:Jp)(K:Io)(tg:Expr)(J:L2.It)(fp:List Addr)(it:Addr)(tn:Nat->Heap->Prop):Prop where
 obj:∀i h,tn i h->∀b∈fp,∃o,h.get? b=some o/\∀v,o.data≠.cell v
 keep:∀i h h',tn i h->(∀b∈fp,∀o,h.get? b=some o->h'.get? b=some o)->tn i h'
 item:∀(X:Cx),X.prog=P->X.w=w->X.K=K->C X->∀(i:Nat)(pins:List (Addr×Obj))(s:Ir)(σ:L2.St)(H:Hp)(E:Ip->Ir->Prop),L2.Inv X pins σ H s->(∀b∈fp,o7 X pins H b)->tn i s.heap->J.go i H->
  wpAny (model P w) X.A (pyNext (.ref it)) (λr s1=>∃u,r=some u/\
   wpAny (model P w) X.A (letOwnedTupleGo tg (.ref it) u) (λ_ s2=>∃x H',L2.Inv X pins σ H' s2/\L2.RelV x u/\J.yld i H x H'/\tn (i+1) s2.heap/\∀b∈fp,H' b=none) E s1) E s
 done:∀(X:Cx),X.prog=P->X.w=w->X.K=K->C X->∀(i:Nat)(pins:List (Addr×Obj))(s:Ir)(σ:L2.St)(H:Hp)(E:Ip->Ir->Prop),L2.Inv X pins σ H s->(∀b∈fp,o7 X pins H b)->tn i s.heap->J.stop i H->Z H->
  wpAny (model P w) X.A (pyNext (.ref it)) (λr s1=>r=none/\L2.Inv X pins σ H s1) E s
 self:∀(A:Ji)(i:Nat)(s:Ir)(Q:Ip->Ir->Prop)(E:Ip->Ir->Prop),tn i s.heap->Q (.ref it) s->wpAny (model P w) A (pyIter (.ref it)) Q E s
theorem tK{P:IS}{w:Jp}{K:Io}{g:Expr}{J:L2.It}{fp:List Addr}{it:Addr}{h:Nat->Heap->Prop}(T:iH P w K g J fp it h):tJ (λX=>X.calm=true) (λ_=>True) P w K g J fp it h:=
 ⟨T.obj,T.keep,T.item,λX a b c d i e s k H E I f t j _=>T.done X a b c d i e s k H E I f t j,T.self⟩
theorem tL{h0 tg iter:Expr}{h1:List Expr}{a:Nc}{pos:Pos}{cl:List (Str×Addr)}{N:List Str}{js:List (Option Nat)}{g:GD}{t:TD}{e:ED}{G:List (Addr×Obj)}{σ:L2.St}{H:Hp}{s:Ir}
 {it:Addr} {fp:List Addr} {tn:Nat->Heap->Prop} {j:L2.It} {J:It} {ρ:List Addr} {A A':PHp} {h3:PSt} {n:Nat} {ys:List PV} {RR:Ip->Addr->OF->Ir->Prop} {E:Ip->Ir->Prop}
 {C Z:_} {W:PHp->Prop} (hC:∀Y:Cx,Y.calm=X.calm->Y.A=X.A->C Y) (hz:∀{h H' B},aA ρ H h H'->aR X.K cm h B H'->W B->Z H') (r2:W A) (kg:∀v σ B U B',g v σ B=.ok U B'->W B->W B') (kt:∀σ B b B',t σ B=.ok b B'->W B->W B') (ke:∀σ B v B',e σ B=.ok v B'->W B->W B') (S:kq X a cl) (Fr:be X a cl N js)
 (hg:∀C s0 H0 fp,PG (fm X N a cl C s0 H0 fp) tg (jm X.K cm g)) (ht:∀C s0 H0 fp,kr (fm X N a cl C s0 H0 fp) h1 (gq X.K cm t)) (he:∀C s0 H0 fp,PE (fm X N a cl C s0 H0 fp) h0 (cW X.K cm e))
 (I:L2.Inv X G σ H s) (T:tJ C Z X.prog X.w X.K tg j fp it tn) (st:tn 0 s.heap) (hf:∀b∈fp,o7 X G H b) (rj:ie X.K ρ H J j) (rl:aR X.K cm ρ A H) (rs:cc ρ H h3 σ)
 (ev:d8 J g t e (n+1) 0 (Ws.cp js h3) A=.ok ys A') (hy:ys.length<=LIM)
 (r3:∀D C s' m,s'.heap.Ns C m->C≠X.env.locals->(∀m0,Kf C s'.heap m0->∃h H',aA ρ H h H'/\aR X.K cm h (A'++[.lst ys]) H'/\h[A'.length]?=some D/\L2.Inv X G σ H' { s' with heap:=m0 }/\o7 X G H' C)->RR (.ref D) C (.ok .next) s') :
 wpAny (model X.prog X.w) X.A (newList []) (λm1 a3=>wpAny (model X.prog X.w) X.A (newFunctionEnv a X.env.globals cl [] X.env.qual none .none (some X.env)) (λg3 m2=>
  codeAny (model X.prog X.w) X.A (.compStart (.ListComp h0 [⟨tg,iter,h1,0⟩] a pos) 0 (.ref it) m1 { g3 with scope:=relabel a X.env }) (RR m1 g3.locals) m2) E a3) E s:=by
 refine LH (wpAny_newFunctionEnv S.nocell (by intro y hy;simp at hy) (λa4 a0 Q=>?_) S.kind);dsimp only at a0 Q ⊢;generalize h5:s.heap.push { cls:=.type "list",dict:=none,data:=.seq ([]:List Ip).toArray }=H2 at a0 Q ⊢;have h6:H2.objs.size=s.heap.objs.size+1:=by rw[<-h5,JG]
 have h7:∀b∈fp,b<s.heap.objs.size:=λb d=>by
  obtain⟨o,ho,_⟩:=T.obj 0 _ st b d;exact IA ho
 have c2:s.heap.objs.size≠H2.objs.size:=by rw[h6];exact IH (JH _)
 have O:s.heap.objs.size<=H2.objs.size:=by rw[h6];exact Lb _
 have n2:∀b o,s.heap.get? b=some o->a4.get? b=some o:=λb o q=>Q.extBut b o (by rw[h6];exact IH (Li (IA q))) (Im _ (h5 ▸ Im _ q));have n3:a4.PlainList s.heap.objs.size #[]:=⟨_,Q.extBut _ _ c2 (Im _ (h5 ▸ IB _ rfl))⟩;generalize a8:s.heap.objs.size=D at *;generalize B3:H2.objs.size=C at *
 let Y:=fm X N a cl C s H fp
 have c3:∀b∈fp,b≠D:=λb d=>IH (h7 b d);have c4:∀b o,s.heap.get? b=some o->b<D:=λb o q=>by rw[<-a8];exact IA q
 have nD:D∉frs X.stack:=λz=>by
  obtain⟨_,o,ho,_⟩:=I.stack.mem z;exact JJ _ (c4 _ _ ho)
 have i1:∀x c,X.env.cells.lookup x=some c->c<D:=λx c q=>by
  obtain⟨v,o,ho,_⟩:=I.cell x c q;exact c4 _ _ ho
 have g4:∀x c,cl.lookup x=some c->X.env.cells.lookup x=some c:=λx c q=>S.sub (x,c) (JE q);have n5:∀(ps:List (Addr×Obj))(H':Hp),(∀p∈ps,∀b∈fp,p.1≠b)->(∀b∈fp,H' b=none)->∀b∈fp,o7 Y ps H' b:=λps H' r4 hn b d=>
  ⟨hn b d,IH (IL (h7 b d) O),λhz=>(IF.mp (I.stkSub b hz)).elim (hf b d).2.1 (hf b d).2.2.1,.inl d,λx c q=>(hf b d).2.2.2.2.1 x c (g4 x c q),λp hp=>r4 p (by simpa[Y,fm]using hp) b d⟩
 have I0:L2.Inv Y [] (Ws.cp js σ) H { s with heap:=a4,toks:=s.toks+([]:List (Str×Ip)).length }:=AG S Fr I hf (λb d=>by rw[a8];exact h7 b d) (by rw[a8];exact O) n2 a0;have o1:tn 0 a4:=T.keep 0 _ _ st λb d o q=>n2 b o q;have g5:∀a3:Ir,a3={ s with heap:=a4,toks:=s.toks+([]:List (Str×Ip)).length }->
  codeAny (model X.prog X.w) X.A (.compLoop (.ListComp h0 [⟨tg,iter,h1,0⟩] a pos) 0 (.ref it) (.ref D) (compEnvC a cl C X.env)) (RR (.ref D) C) a3:=by
  rintro a3 rfl;refine AE (λm s'=>∃i U H' h B b1 b2 a5 l f,L2.Inv Y [] U H' s'/\tn i s'.heap/\(∀b∈fp,H' b=none)/\aA ρ H h H'/\aR X.K cm h B H'/\cc h H' b1 U/\d8 J g t e (m+1) i b1 B=.ok b2 A'/\
   s'.heap.PlainList D (MF f)/\H' D=none/\aF l f/\RVs h H' a5 l/\a5++b2=ys/\W B) ?_ n ⟨0,_,H,ρ,A,Ws.cp js h3,ys,[],[],[],I0,o1,λb d=>(hf b d).1,aA.refl _ _,rl,rs.bst js,ev,n3,by rw[<-a8];exact I.hok.fresh (Iw _),.nil,.nil,rfl,r2⟩
  rintro m s' ⟨i,U,H',h,B,b1,b2,a5,l,f,I1,o2,r7,x1,f1,s3,p0,pl,f4,va,ra,d0,i2⟩;obtain⟨L,s4⟩:=id pl;have dD:∀v,({ cls:=.type "list",data:=.seq f.toArray L }:Obj).data≠.cell v:=λv z=>nomatch z;have I2:L2.Inv Y [(D,{ cls:=.type "list",data:=.seq f.toArray L })] U H' s':=I1.pins_of λp hp=>by
   have e:p=(D,{ cls:=.type "list",data:=.seq f.toArray L }):=by simpa using hp
   subst e;exact⟨s4,f4,c2,nD,dD⟩
  have f2:=n5 [(D,{ cls:=.type "list",data:=.seq f.toArray L })] H' (λp hp b d=>by
   have e:p=(D,{ cls:=.type "list",data:=.seq f.toArray L }):=by simpa using hp
   subst e;exact(c3 b d).symm) r7
  rw[Y5]at p0;obtain⟨x,B1,e1,p4⟩:=B0 p0;obtain⟨rfl,j1⟩:=tf f1 (rj.mono x1) e1;cases x with
  | none=>
    cases p4;rw[JD]at d0;subst d0;refine aQ (T.done Y rfl rfl rfl (hC Y rfl rfl) i _ s' U H' (λ_ _=>False) I2 f2 o2 j1 (hz x1 f1 i2)) λr s1 zq=>?_;obtain⟨hr,I3⟩:=zq;subst hr;have t1:=I3.pin (D,{ cls:=.type "list",data:=.seq f.toArray L }) (by simp);obtain⟨mC,t2,_⟩:=id I3.loc;refine r3 D C s1 mC t2 (λz=>?_) λh2 sb=>?_
    .have:=I.lt;rw[<-z,a8]at this;exact absurd (IL this O) (JJ _)
    .have ch:∀b∈fp,(b∈X.ex\/X.s₀.heap.objs.size<=b)/\b≠X.env.locals/\(∀x c,X.env.cells.lookup x=some c->c≠b)/\∀p∈X.pn++G,p.1≠b:=λb d=>⟨(hf b d).2.2.2.1,(hf b d).2.1,(hf b d).2.2.2.2.1,(hf b d).2.2.2.2.2⟩;have IX:L2.Inv X G σ H' s1:=I.call' I3.os I3.base I3.hok I3.bare ch;have b4:∀(f5:Hp) b,D<=b->f5 b=none->o7 X G f5 b:=λf5 b d hn=>by
      rw[<-a8]at d;exact I.fpOk (H':=f5) d hn
     have t3:L2.Inv X G σ H' { s1 with heap:=h2 }:=IX.turned (t':=s1.toks) (λb o d q=>(sb.2 b d).trans q) I3.free (b4 H' C O I3.free).2.1 (b4 H' C O I3.free).2.2.2.1 (b4 H' C O I3.free).2.2.2.2.1 (b4 H' C O I3.free).2.2.2.2.2;have d2:l.length<=sizeLine:=by rw[<-ra.length];exact X2 hy
     have u0:L2.Inv X G σ (aJ H' D (.lst l)) { s1 with heap:=h2 }:=AH (fp:=fp) t3 (b4 H' D (Iw _) f4) ⟨d2,f,L,va,(sb.2 D c2).trans t1.1⟩;have ex:aA h H' (h++[D]) (aJ H' D (.lst l)):=aA.new f4;refine⟨h++[D],aJ H' D (.lst l),x1.trans ex,f1.alloc f4 ⟨l,C8,ra.mono ex⟩ rfl,by rw[<-f1.len];simp,u0,b4 _ C O ?_⟩;rw[ak (JW c2)];exact I3.free
  | some v=>
    refine aQ (T.item Y rfl rfl rfl (hC Y rfl rfl) i _ s' U H' (λ_ _=>False) I2 f2 o2 j1.1) λr s1 zq=>?_;obtain⟨u,hr,h4⟩:=zq;subst hr;refine aQ h4 λ_ s2 zq=>?_;obtain⟨xv,H3,I3,ru,v1,g0,v2⟩:=zq;obtain⟨x2,v3,v4⟩:=j1.2 xv H3 v1;have f3:=n5 [(D,{ cls:=.type "list",data:=.seq f.toArray L })] H3 (λp hp b d=>by
     have e:p=(D,{ cls:=.type "list",data:=.seq f.toArray L }):=by simpa using hp
     subst e;exact(c3 b d).symm) v2
    have I4:=I3.pinned f3 (T.obj _ _ g0);obtain⟨b6,B4,e4,w1⟩:=B0 p4;obtain⟨b5,B5,e5,b7⟩:=B0 w1;refine aQ (hg C s H fp _ s2 U H3 xv u (λa6 H5=>∃a7,aA h H3 a7 H5/\aR X.K cm a7 B4 H5/\cc a7 H5 b6 a6) I4 ru ⟨h,B1,b1,v,b6,B4,v3,s3.mono x2,v4,e4,λa7 H5 a6 x5 k0 c0=>⟨a7,x5,k0,c0⟩⟩) λ_ s5 zq=>?_;obtain⟨a6,H5,I5,a7,x5,k0,c0⟩:=zq;refine aQ (ht C s H fp _ s5 a6 H5 (λb H6=>b=b5/\∃a1,aA a7 H5 a1 H6/\aR X.K cm a1 B5 H6) I5 ⟨a7,B4,b6,b5,B5,k0,c0,e5,λa1 H6 x6 g1=>⟨rfl,a1,x6,g1⟩⟩) λok s6 zq=>?_;obtain⟨H6,I6,x0,a1,x6,g1⟩:=zq;subst x0;have k1:aA h H' a1 H6:=(x2.trans x5).trans x6;have e0:∀{e2:L2.St}{H7:Hp}{s7:Ir},L2.Inv Y ([(D,{ cls:=.type "list",data:=.seq f.toArray L })]++kZ fp s2.heap) e2 H7 s7->(s7.heap.get? D=some { cls:=.type "list",data:=.seq f.toArray L }/\H7 D=none)/\(∀b∈fp,H7 b=none)/\(∀b∈fp,∀o,s2.heap.get? b=some o->s7.heap.get? b=some o):=λ{e2 H7 s7} I7=>by
     have p1:=I7.pin (D,{ cls:=.type "list",data:=.seq f.toArray L }) (IP _ (Kd _ (by simp)));refine⟨⟨p1.1,p1.2.1⟩,λb d=>?_,λb d o q=>?_⟩
     .obtain⟨o,q,_⟩:=T.obj _ _ g0 b d;exact(I7.pin (b,o) (IP _ (IP _ (d6 d q)))).2.1
     .exact(I7.pin (b,o) (IP _ (IP _ (d6 d q)))).1
    have e3:∀{ps:List (Addr×Obj)}{e2:L2.St}{H7:Hp}{s7:Ir},L2.Inv Y ps e2 H7 s7->L2.Inv Y [] e2 H7 s7:=λI7=>I7.pins_of λp hp=>absurd hp (by simp);cases ok with
    | false=>
      rw[if_neg (by simp)];rw[if_neg (by simp)]at b7;cases m with
      | zero=>rw[sv]at b7;cases b7
      | succ m=>
        obtain⟨⟨u1,u2⟩,u3,u4⟩:=e0 I6;exact⟨m,JH _,i+1,a6,H6,a1,B5,b6,b2,a5,l,f,e3 I6,T.keep _ _ _ g0 u4,u3,x1.trans k1,g1,c0.mono x6,b7,⟨L,u1⟩,u2,va,ra.mono k1,d0,kt _ _ _ _ e5 (kg _ _ _ _ _ e4 i2)⟩
    | true=>
      rw[if_pos rfl];rw[if_pos rfl]at b7;obtain⟨y,B7,e7,y1⟩:=B0 b7;obtain⟨p5,B8,e8,y3⟩:=B0 y1;cases y3;refine aQ (he C s H fp _ s6 a6 H6 (λyv H7=>∃b0,aA a1 H6 b0 H7/\aR X.K cm b0 B7 H7/\RV b0 H7 y yv) I6 ⟨a1,B5,b6,y,B7,g1,c0.mono x6,e7,λb0 H7 yv x7 k2 k3=>⟨b0,x7,k2,k3⟩⟩) λyu s7 zq=>?_;obtain⟨yv,H7,I7,ry,b0,x7,k2,k3⟩:=zq;obtain⟨⟨u1,u2⟩,u3,u4⟩:=e0 I7;have d2:f.length<=sizeLine:=by
       rw[<-va.length,<-ra.length];refine X2 (Jm ?_ hy);rw[<-d0,IU];exact NW _ _
      refine wpAny_list_append_plain (items:=f.toArray) ⟨L,u1⟩ (λh8 y4 p6=>?_) (by rw[II];exact d2);have I8:L2.Inv Y [] a6 H7 { s7 with heap:=h8 }:=(e3 I7).turned (t':=s7.toks) (λb o d q=>(p6.2 b d).trans q) u2 c2 (.inr (by show s.heap.objs.size<=D;rw[a8];exact Iw _)) (λx c q=>IH (i1 x c (g4 x c q))) (λp hp=>absurd (show p∈([]:List (Addr×Obj))from hp) (by simp));cases m with
      | zero=>rw[sv]at e8;cases e8
      | succ m=>
        have p7:=k1.trans x7;refine⟨m,JH _,i+1,a6,H7,b0,B7,b6,p5,a5++[y],l++[yv],f++[yu],I8,T.keep _ _ _ g0 λb d o q=>(p6.2 b (c3 b d)).trans (u4 b d o q),u3,x1.trans p7,k2,(c0.mono x6).mono x7,e8,by simpa using y4,u2,va.append (.cons ry .nil),(ra.mono p7).append (.cons k3 .nil),by rw[<-d0];simp,ke _ _ _ _ e7 (kt _ _ _ _ e5 (kg _ _ _ _ _ e4 i2))⟩
 exact codeAny_compStart_list (g5 _ rfl) (T.self X.A 0 _ _ _ o1 (g5 _ rfl))
theorem O0{i B iter:Expr}{l:List Expr}{a:Nc}{pos:Pos}{o:List (Str×Addr)}{N:List Str}(js:List (Option Nat)){it:ID}{g:GD}{t:TD}{e:ED}(hc:X.calm=true)(S:kq X a o)(Fr:be X a o N js)(hi:L2.PI X B iter (gF X.K cm it))
 (hg:∀C p q f,PG (fm X N a o C p q f) B (jm X.K cm g)) (ht:∀C p q f,kr (fm X N a o C p q f) l (gq X.K cm t)) (he:∀C p q f,PE (fm X N a o C p q f) i (cW X.K cm e))
 (hs:∀x,foldedSetIterable iter X.env x=pure x:=by intro _;rfl):Pe X cm (.ListComp i [⟨B,iter,l,0⟩] a pos) (M5 it (Ws.cp js) g t e):=by
 intro r s σ H Q I ⟨ρ,A,E,v,A',rl,rs,ev,k⟩;obtain⟨J,A1,e1,G⟩:=B0 ev;obtain⟨n,A2,e2,L⟩:=B0 G;obtain rfl:=oX e2;obtain⟨ys,A3,e3,O⟩:=B0 L;obtain⟨c,U⟩:=C7 O;cases U;refine NC rfl hs S.clos S.kind S.names (Jh (hi r s σ H (λj u=>∃b,aA ρ H b u/\aR X.K cm b A2 u/\ie X.K b u J j) I ⟨ρ,A,E,J,A2,rl,rs,e1,λb u j y d Y=>⟨b,y,d,Y⟩⟩) (λxv s1 h1=>Jh h1 (λc1 s2 h2=>?_) λ_ _ z=>z) λ_ _ z=>z);obtain⟨c3,f,tn,j,u,rfl,I1,T,st,hf,b,y,d,Y⟩:=h2;refine tL (W:=λ_=>True) (λ_ h _=>h.trans hc) (λ_ _ _=>trivial) trivial (λ_ _ _ _ _ _ z=>z) (λ_ _ _ _ _ z=>z) (λ_ _ _ _ _ z=>z) S Fr hg ht he I1 (tK T) st hf Y d (rs.mono y) e3 c λD C s' m hn d1 w=>⟨m,hn,λa0 sb=>?_⟩;obtain⟨a1,H2,x2,a2,hD,I2,_⟩:=w a0 sb;exact⟨.ref D,H2,I2,rfl,k a1 H2 _ (y.trans x2) a2 (.ref hD)⟩
theorem pe{u tg iter:Expr}{w:List Expr}{a:Nc}{pos f py:Pos}{y:Str}{i:Nat}{L:List (Str×Addr)}{N:List Str}(js:List (Option Nat)){it:ID}{g:GD}{t:TD}{e:ED}(hc:X.calm=true)(S:kq X a L)(Fr:be X a L N js)(hi:L2.PI X tg iter (gF X.K cm it))
 (hg:∀C O Q G,PG (fm X N a L C O Q G) tg (jm X.K cm g)) (ht:∀C O Q G,kr (fm X N a L C O Q G) w (gq X.K cm t)) (he:∀C O Q G,PE (fm X N a L C O Q G) u (cW X.K cm e))
 (hN:X.N.Nodup) (a4:X.N[i]?=some y) (hy:L2.Loc X.env.scope y)
 (a5:swapsWith (.ListComp u [⟨tg,iter,w,0⟩] a pos) (some (.Name y py)) f.line X.env=pure true:=by rfl)
 (a6:X.fn y=true\/X.env.scope.names.lookup y=some .local:=by first | exact .inl rfl | exact .inr rfl)
 (hs:∀x,foldedSetIterable iter X.env x=pure x:=by intro _;rfl):Ps X cm (.Assign [.Name y py] (.ListComp u [⟨tg,iter,w,0⟩] a pos) f) (N9 (M5 it (Ws.cp js) g t e) (gName i)):=by
 intro l s σ H Dn I ⟨ρ,A,a8,fl,A',rl,rs,ev,k⟩;obtain⟨v,A0,e0,b0⟩:=B0 ev;obtain⟨g0,A9,e9,b1⟩:=B0 b0;cases e9;cases b1;obtain⟨J,A1,e1,b2⟩:=B0 e0;obtain⟨n,A2,e2,b3⟩:=B0 b2;obtain rfl:=oX e2;obtain⟨ys,A3,e3,b4⟩:=B0 b3;obtain⟨c,b5⟩:=C7 b4;cases b5;rw[exec_Assign_Name_used _ _ _ _ a5];refine Il (Mf (Il ?_));refine Il (Jh (NC rfl hs S.clos S.kind S.names (Jh (hi l s σ H (λj U=>∃d,aA ρ H d U/\aR X.K cm d A2 U/\ie X.K d U J j) I ⟨ρ,A,a8,J,A2,rl,rs,e1,λd U j Y B rj=>⟨d,Y,B,rj⟩⟩) (λxv s1 h1=>Jh h1 (λg6 s2 h2=>?_) λ_ _ z=>z) λ_ _ z=>z)) (λ_ s' hq=>Iv (Iv hq)) λ_ _ z=>z);obtain⟨h3,G,tn,j,U,rfl,I1,T,st,hf,d,Y,B,rj⟩:=h2;refine tL (W:=λ_=>True) (λ_ h _=>h.trans hc) (λ_ _ _=>trivial) trivial (λ_ _ _ _ _ _ z=>z) (λ_ _ _ _ _ z=>z) (λ_ _ _ _ _ z=>z) S Fr hg ht he I1 (tK T) st hf rj B (rs.mono Y) e3 c λD C s' m hn h8 a0=>?_;obtain⟨b7,H2,x2,c1,hD,I2,r⟩:=a0 _ (.refl ..);obtain⟨oC,es,ep,c2,a1,rC⟩:=id hn;have I3:L2.Inv X (l++[(C,oC)]) σ H2 s':=L2.Inv.pins_of (I:=I2) λp E=>by
  rcases IV.mp E with E | E
  .exact I2.pin p (IP _ E)
  .have e:p=(C,oC):=by simpa using E
   subst e;exact⟨c2,r.1,r.2.1,r.2.2.1,λv z=>by rw[a1]at z;cases z⟩
 refine wpAny_assign_Name (mZ I3 hN a4 hy (show L2.RelV (.ref D) _ from rfl) (λs3 I4=>?_) a6);have pC:=I4.pin (C,oC) (by simp);refine⟨m,⟨oC,es,ep,pC.1,a1,rC⟩,λh4 sb=>?_⟩;have I5:=I4.pins_of λp E=>I4.pin p (IP _ (Kd _ E));have I6:=I5.turned (t':=s3.toks) (λb o hb q=>(sb.2 b hb).trans q) r.1 r.2.1 r.2.2.2.1 r.2.2.2.2.1 r.2.2.2.2.2;exact⟨σ.set i _,H2,I6,k b7 H2 (Y.trans x2) c1 _ (((rs.mono Y).mono x2).set i (.ref hD))⟩
end
theorem aw{a:Type}{P:a->Prop}:∀x∈([]:List a),P x:=by simp
theorem af{b:Type}{P:b->Prop}{a:b}{l:List b}(h:P a)(r:∀x∈l,P x):∀x∈a::l,P x:=λx c=>(IF.mp c).elim (λe=>e ▸ h) (r x)
end Ws
namespace Ws
open PySem PySem.W PyProof.Rows L2
noncomputable def fq{b:Type}(n:Nat)(lt:Nat->Nat->Bool):KasT b->(b->Prop)->Prop
 | .ret a,Q=>Q a
 | .ask i j k,Q=>i<n/\j<n/\fq n lt (k (lt i j)) Q
theorem b8{b c:Type}{n:Nat}{lt:Nat->Nat->Bool}{f:b->KasT c}{Q:c->Prop}:∀{t:KasT b},fq n lt t (λa=>fq n lt (f a) Q)->fq n lt (t.bind f) Q
 | .ret _,h=>h
 | .ask _ _ k,⟨d,e,g⟩=>⟨d,e,b8 (t:=k _) g⟩
theorem tM{c:Type}{n:Nat}{lt:Nat->Nat->Bool}{b:Nat->Nat->(Bool->Ir->Prop)->Ir->Prop}{G:c->Ir->Prop}{s:Ir}(e:∀i j C,i<n->j<n->C (lt i j) s->b i j C s):∀{t:KasT c}{Q:c->Prop},fq n lt t Q->(∀a,Q a->G a s)->t.kasWp b G s
 | .ret a,Q,h,d=>d a h
 | .ask i j k,Q,⟨f,g,l⟩,d=>e i j _ f g (tM e (t:=k _) l d)
section
variable{n:Nat}{α:Type}{key:Nat->α}{lt:Nat->Nat->Bool}
structure Ord(key:Nat->α)(lt:Nat->Nat->Bool):Prop where
 asym:∀a b,lt a b=true->lt b a=false
 tr:∀a b c,lt b a=false->lt c b=false->lt c a=false
 tot:∀a b,lt a b=false->lt b a=false->key a=key b
 cong:∀a b c d,key a=key b->key c=key d->lt a c=lt b d
structure Pm(n:Nat)(p:Array Nat):Prop where
 size:p.size=n
 perm:p.Perm (MF (Jj n))
theorem Pm.bd{p:Array Nat}(h:Pm n p)(b:0<n)(i:Nat):p.getD i 0<n:=by
 by_cases a:i<p.size
 .have e:p.getD i 0=p[i]:=by simp[Array.getD,a]
  rw[e];have c:p[i]∈p.toList:=by simp
  have:=(Ng.mp h.perm).mem_iff.mp c;simpa using this
 .have e:p.getD i 0=0:=by simp[Array.getD,a]
  rw[e];exact b
theorem ky{p q:Array Nat}{i j:Nat}(h:p[i]?=q[j]?):p.getD i 0=q.getD j 0:=by
 rw[Ly,Ly,h]
theorem Pm.rev{p:Array Nat}(h:Pm n p)(i j:Nat):Pm n (PZ p i j):=⟨by unfold PZ;rw[mirror_size];exact h.size,(mirror_perm _ _ _ _).trans h.perm⟩
theorem pf{p:Array Nat}{i j:Nat}(a:j<=p.size)(k:Nat):(PZ p i j).getD k 0=if i<=k/\k<j then p.getD (i+j - 1 - k) 0 else p.getD k 0:=by
 have e:=getElem?_mirror_all (i:=i) a k;by_cases h:i<=k/\k<j
 .rw[if_pos h]at e ⊢;exact ky e
 .rw[if_neg h]at e ⊢;exact ky e
theorem Pm.bub{p:Array Nat}(h:Pm n p)(i d:Nat):Pm n (bubble p i d):=⟨by rw[bubble_size];exact h.size,(bubble_perm _ _ _).trans h.perm⟩
theorem tN{p:Array Nat}{a d:Nat}(hs:a<p.size)(hd:d<=a)(k:Nat):(bubble p a d).getD k 0=if k=a - d then p.getD a 0 else if a - d<k/\k<=a then p.getD (k - 1) 0 else p.getD k 0:=by
 have e:=getElem?_bubble hs d hd k;by_cases b:k=a - d
 .rw[if_pos b]at e ⊢;exact ky e
 .rw[if_neg b]at e ⊢;by_cases c:a - d<k/\k<=a
  .rw[if_pos c]at e ⊢;exact ky e
  .rw[if_neg c]at e ⊢;exact ky e
def fL(lt:Nat->Nat->Bool)(p:Array Nat)(m:Nat):Prop:=∀i j,i<=j->j<m->lt (p.getD j 0) (p.getD i 0)=false
def ig(lt:Nat->Nat->Bool)(p:Array Nat)(m:Nat):Prop:=∀i j,i<=j->j<m->lt (p.getD i 0) (p.getD j 0)=false
variable(O:Ord key lt)(hn:0<n)
include O hn
theorem Ord.irr(a:Nat):lt a a=false:=by
 cases h:lt a a with
 | false=>rfl
 | true=>have:=O.asym a a h;rw[h]at this;exact this
theorem AI{p:Array Nat}{m:Nat}(h:fL lt p m)(a:m=0\/lt (p.getD m 0) (p.getD (m - 1) 0)=false):fL lt p (m+1):=λi j b d=>by
 by_cases e:j=m
 .subst e;by_cases c:i=j
  .subst c;exact O.irr hn _
  .rcases a with a | a
   .omega
   .exact O.tr _ _ _ (h i _ (by omega) (by omega)) a
 .exact h i j b (by omega)
theorem l9{p:Array Nat}{m:Nat}(h:ig lt p m)(a:m=0\/lt (p.getD (m - 1) 0) (p.getD m 0)=false):ig lt p (m+1):=λi j b d=>by
 by_cases e:j=m
 .subst e;by_cases c:i=j
  .subst c;exact O.irr hn _
  .rcases a with a | a
   .omega
   .exact O.tr _ _ _ a (h i _ (by omega) (by omega))
 .exact h i j b (by omega)
theorem ph{p:Array Nat}(i:Pm n p){Q:Nat->Prop}:∀f m,1<=m->fL lt p m->(∀e,m<=e->e<=m+f->fL lt p e->(e<m+f->lt (p.getD e 0) (p.getD (e - 1) 0)=true)->Q e)->fq n lt (kas_asc p f m) Q
 | 0,m,_,g,h=>h m (Iw _) (Iw _) g λz=>by omega
 | f+1,m,k,g,h=>by
   refine⟨i.bd hn m,i.bd hn (m - 1),?_⟩;cases j:lt (p.getD m 0) (p.getD (m - 1) 0)with
   | true=>exact h m (Iw _) (by omega) g λ_=>j
   | false=>
     simp only[Lu,if_false];exact ph i f (m+1) (by omega) (AI O hn g (.inr j)) λe a b c d=>h e (by omega) (by omega) c λz=>d (by omega)
theorem pj{p:Array Nat}{i j:Nat}(a:j<=p.size)(he:∀k,i<=k->k<j->key (p.getD k 0)=key (p.getD (j - 1) 0))(k:Nat):key ((PZ p i j).getD k 0)=key (p.getD k 0):=by
 rw[pf a];by_cases h:i<=k/\k<j
 .rw[if_pos h,he _ (by omega) (by omega),he k h.1 h.2]
 .rw[if_neg h]
theorem pk{p q:Array Nat}{m:Nat}(h:∀k,key (p.getD k 0)=key (q.getD k 0))(hd:ig lt q m):ig lt p m:=λi j a b=>by rw[O.cong _ _ _ _ (h i) (h j)];exact hd i j a b
def pw(key:Nat->α)(p:Array Nat)(m q:Nat):Prop:=q+1<=m/\∀k,m - (q+1)<=k->k<m->key (p.getD k 0)=key (p.getD (m - 1) 0)
omit O hn in
theorem px{p:Array Nat}{m:Nat}(h:1<=m):pw key p m 0:=⟨h,λk a b=>by rw[show k=m - 1 by omega]⟩
theorem lY{Q:Array Nat×Nat×Nat->Prop}:∀f (p:Array Nat) m q,Pm n p->m+f<=n->ig lt p m->pw key p m q->(∀o g r,Pm n o->m<=g->g<=m+f->ig lt o g->pw key o g r->Q (o,g,r))->fq n lt (kas_desc f p m q) Q
 | 0,p,m,q,l,v,hd,s,h=>h p m q l (Iw _) (Iw _) hd s
 | f+1,p,m,q,l,v,hd,s,h=>by
   refine⟨l.bd hn m,l.bd hn (m - 1),?_⟩;have z:=s.1;cases w:lt (p.getD m 0) (p.getD (m - 1) 0)with
   | true=>
     simp only[if_true];by_cases x:q > 0
     .rw[if_pos x];have y:=pj O hn (p:=p) (i:=m - (q+1)) (j:=m) (by rw[l.size];omega) s.2;refine lY f _ (m+1) 0 (l.rev _ _) (by omega) ?_ (px (by omega)) λo g r a b c d e=>h o g r a (by omega) (by omega) d e;exact pk O hn y (l9 O hn hd (.inr (O.asym _ _ w)))
     .rw[if_neg x];exact lY f p (m+1) 0 l (by omega) (l9 O hn hd (.inr (O.asym _ _ w))) (px (by omega)) λo g r a b c d e=>h o g r a (by omega) (by omega) d e
   | false=>
     simp only[Lu,if_false];refine⟨l.bd hn (m - 1),l.bd hn m,?_⟩;cases u:lt (p.getD (m - 1) 0) (p.getD m 0)with
     | true=>exact h p m q l (Iw _) (by omega) hd s
     | false=>
       simp only[Lu,if_false];refine lY f p (m+1) (q+1) l (by omega) (l9 O hn hd (.inr u)) ⟨by omega,λk A B=>?_⟩ λo g r a b c d e=>h o g r a (by omega) (by omega) d e;rw[Nat.add_sub_cancel];by_cases e:k=m
       .rw[e]
       .rw[s.2 k (by omega) (by omega)];exact O.tot _ _ u w
theorem tO{p:Array Nat}{m:Nat}(f:Pm n p)(k:1<=m)(e:m<=n)(hd:ig lt p m){Q:Nat×Array Nat->Prop}(h:∀d g,Pm n g->1<=d->d<=n->fL lt g d->Q (d,g)):fq n lt (kas_tail3 m n p) Q:=by
 refine b8 ?_;have l:fL lt (PZ p 0 m) m:=λi j o q=>by
  rw[pf (by rw[f.size];exact e),pf (by rw[f.size];exact e),if_pos ⟨by omega,q⟩,if_pos ⟨by omega,by omega⟩];exact hd _ _ (by omega) (by omega)
 exact ph O hn (f.rev 0 m) _ m k l λd a b c _=>h d _ (f.rev 0 m) (by omega) (by omega) c
theorem tP{p:Array Nat}{m:Nat}(j:Pm n p)(q:1<=m)(k:m<n)(hd:ig lt p (m+1)){Q:Nat×Array Nat->Prop}(h:∀f g,Pm n g->1<=f->f<=n->fL lt g f->Q (f,g)):fq n lt (kas_descPart m n p) Q:=by
 refine b8 (lY O hn _ p _ 0 j (by omega) hd (px (by simp)) λg f l a b c d e=>?_);by_cases i:l > 0
 .rw[if_pos i];have o:=pj O hn (by rw[a.size];omega) e.2;exact tO O hn (a.rev _ _) (by omega) (by omega) (pk O hn o d) h
 .rw[if_neg i];exact tO O hn a (by omega) (by omega) d h
theorem AJ{p:Array Nat}(f:Pm n p)(A:2<=n){Q:Nat×Array Nat->Prop}(h:∀q r,Pm n r->1<=q->q<=n->fL lt r q->Q (q,r)):fq n lt (kas_count n p) Q:=by
 refine b8 (ph O hn f _ 1 (Iw _) (λi j l s=>by rw[show i=j by omega];exact O.irr hn _) λm a b c d=>?_);by_cases u:(m == n)=true
 .rw[if_pos u];exact h m p f a (by omega) c
 .rw[if_neg u];have o:m<n:=by have:m≠n:=λz=>u (by simp[z]);omega
  have e:=d (by omega);by_cases v:m > 1
  .rw[if_pos v];refine⟨f.bd hn 0,f.bd hn _,?_⟩;cases w:lt _ _ with
   | true=>exact h m p f a (by omega) c
   | false=>
     have g:∀k,0<=k->k<m->key _=key _:=λk _ x=>by
      refine O.tot _ _ ?_ (c k (m - 1) (by omega) (by omega));exact O.tr _ _ _ w (c 0 k (by omega) x)
     have y:=pj O hn (by rw[f.size];omega) g;refine tP O hn (f.rev 0 m) a o (pk O hn y (l9 O hn (λi j l s=>?_) (.inr (O.asym _ _ e)))) h;rw[O.cong _ _ _ _ (g i (by simp) (by omega)) (g j (by simp) s)];exact O.irr hn _
  .rw[if_neg v];have:m=1:=by omega
   subst this;refine tP O hn f a o (l9 O hn (λi j l s=>by rw[show i=j by omega];exact O.irr hn _) (.inr (O.asym _ _ e))) h
theorem pz{p:Array Nat}(d:Pm n p){k:Nat}(g:fL lt p k){Q:Nat->Prop}:∀f l r,l<=r->r<=k->r - l<=f->(∀i,i<l->lt (p.getD k 0) (p.getD i 0)=false)->(∀i,r<=i->i<k->lt (p.getD k 0) (p.getD i 0)=true)->
 (∀j,j<=k->(∀i,i<j->lt (p.getD k 0) (p.getD i 0)=false)->(∀i,j<=i->i<k->lt (p.getD k 0) (p.getD i 0)=true)->Q j)->fq n lt (kas_place p k f l r) Q
 | 0,l,r,q,c,v,m,o,h=>h l (by omega) m λi a b=>o i (by omega) b
 | f+1,l,r,q,c,v,m,o,h=>by
   unfold kas_place;by_cases s:l>=r
   .rw[if_pos s];exact h l (by omega) m λi a b=>o i (by omega) b
   .rw[if_neg s];refine⟨d.bd hn k,d.bd hn _,?_⟩;cases u:lt (p.getD k 0) (p.getD ((l+r) / 2) 0)with
    | true=>
      simp only[if_true];refine pz d g f l ((l+r) / 2) (by omega) (by omega) (by omega) m (λi a b=>?_) h;cases e:lt (p.getD k 0) (p.getD i 0)with
      | true=>rfl
      | false=>
        have:=O.tr _ _ _ (g ((l+r) / 2) i a b) e;rw[u]at this;exact this.symm
    | false=>
      simp only[Lu,if_false];refine pz d g f ((l+r) / 2+1) r (by omega) c (by omega) (λi a=>?_) o h;exact O.tr _ _ _ (g i ((l+r) / 2) (by omega) (by omega)) u
theorem tQ{Q:Array Nat->Prop}:∀f (p:Array Nat) k,Pm n p->k+f=n->fL lt p k->(∀r,Pm n r->fL lt r n->Q r)->fq n lt (kas_bin f p k) Q
 | 0,p,k,e,v,d,h=>h p e (by rw[<-v];exact d)
 | f+1,p,k,e,v,d,h=>by
   refine b8 (pz O hn e d k 0 k (by omega) (by omega) (by omega) (λi a=>by omega) (λi a b=>by omega) λl z w x=>?_);refine tQ f _ (k+1) (e.bub _ _) (by omega) (λi j s A=>?_) h;have g:k<p.size:=by rw[e.size];omega
   have u:k - (k - l)=l:=by omega
   rw[tN g (by omega),tN g (by omega),u];by_cases m:j=l
   .rw[if_pos m];by_cases c:i=l
    .rw[if_pos c];exact O.irr hn _
    .rw[if_neg c,if_neg (by omega)];exact w i (by omega)
   .rw[if_neg m];by_cases o:l<j/\j<=k
    .rw[if_pos o];by_cases c:i=l
     .rw[if_pos c];exact O.asym _ _ (x (j - 1) (by omega) (by omega))
     .rw[if_neg c];by_cases q:l<i/\i<=k
      .rw[if_pos q];exact d (i - 1) (j - 1) (by omega) (by omega)
      .rw[if_neg q];exact d i (j - 1) (by omega) (by omega)
    .rw[if_neg o];have y:j<l:=by omega
     rw[if_neg (by omega),if_neg (by omega)];exact d i j s (by omega)
theorem AK(g:2<=n){Q:Array Nat->Prop}(h:∀e,Pm n e->fL lt e n->Q e):fq n lt (kas_sort n) Q:=by
 refine b8 (AJ O hn ⟨by simp,.refl _⟩ g λm p a b c d=>?_);by_cases f:m<n
 .rw[if_pos f,Nat.max_eq_left b];exact tQ O hn _ p m a (by omega) d h
 .rw[if_neg f];have:m=n:=by omega
  subst this;exact h p a d
end
noncomputable def gs(fin:Bool):List Int->List Int->Bool
 | x::a,y::b=>if x=y then gs fin a b else decide (x<y)
 | _,_=>fin
theorem tR:∀a b:List Int,gs (decide (a.length<b.length)) a b=lexLt a b
 | [],[]=>rfl
 | [],_::_=>by simp[gs,lexLt]
 | _::_,[]=>by simp[gs,lexLt]
 | x::a,y::b=>by
   simp only[gs,lexLt,IM,Nat.add_lt_add_iff_right];rw[tR a b]
section
variable{prog:IS}{w:Jp}{A:Ji}{E:Ip->Ir->Prop}{s:Ir}
theorem tS{fin:Bool}{Q:Bool->Ir->Prop}:∀{vs b:List Ip}{ns d:List Int}(i:Nat),LZ vs ns->LZ b d->Q (gs fin ns d) s->KatLex prog w A true fin Q (vs.zip b) i s
 | _,_,_,_,i,.nil,_,h=>by simpa[gs]using kat_nil h
 | _,_,_,_,i,.cons _ _ _,.nil,h=>by simpa[gs]using kat_nil h
 | _,_,_,_,i,.cons a t f,.cons c u g,h=>by
   rw[List.zip_cons_cons];refine kat_cons (wpAny_eqBool_int ?_);by_cases e:a=c
   .subst e;simp only[gs,if_true]at h;rw[beq_self_eq_true];exact kat_yes (tS (i+1) f g h)
   .rw[beq_eq_false_iff_ne.mpr e];simp only[gs,e,if_false]at h;refine kat_no ?_;cases j:(true&&i == 0)with
    | true=>exact oneLt_int h
    | false=>exact kat_one _ _ (lt_int h)
def ij(h:Heap)(v:Ip)(t:List Int):Prop:=∃a o b n,v=.ref a/\h.get? a=some o/\o.cls=.type "tuple"/\o.data=.seq b n/\LZ b.toList t/\t≠[]
theorem pA{h:Heap}:∀{vs:List Ip}{ts:List (List Int)}{i:Nat},Paired (ij h) vs ts->i<vs.length->ij h (vs.getD i .none) (ts.getD i [])
 | _,_,_,.nil,a=>by simp at a
 | _,_,0,.cons r _,_=>r
 | _,_,i+1,.cons _ t,a=>by
   have:=pA (i:=i) t (by simpa using a);simpa using this
theorem tT{h:Heap}:∀{vs:List Ip}{ts:List (List Int)},Paired (ij h) vs ts->∃fs,KatTups h vs fs/\fs.length=vs.length/\∀f∈fs,∃i t,f=Nw i t
 | _,_,.nil=>⟨[],KatTups.nil,rfl,by simp⟩
 | _,_,.cons r t=>by
   obtain⟨a,o,c,n,rfl,j,l,hd,b,d⟩:=r;obtain⟨fs,k,m,p⟩:=tT t;cases e:c.toList with
   | nil=>rw[e]at b;cases b;exact absurd rfl d
   | cons v r=>
     rw[e]at b;cases b with
     | cons i q u=>
       refine⟨.int i q::fs,KatTups.cons j l hd (by rw[<-Ot,e];rfl) k,by simp[m],λf g=>?_⟩;rcases IF.mp g with rfl | g
       .exact⟨_,_,rfl⟩
       .exact p f g
theorem AL(ts:List (List Int)):Ord (λi=>ts.getD i []) (λi j=>lexLt (ts.getD i []) (ts.getD j [])):=
 ⟨λ_ _ h=>n7 _ _ h,λ_ _ _ h a=>og _ _ _ h a,λ_ _ h a=>oa _ _ h a,λ_ _ _ _ h a=>congr (congrArg lexLt h) a⟩
def f8(ts:List (List Int))(n:Nat)(p:List Nat):Prop:=p.Perm (Jj n)/\(p.map λi=>ts.getD i []).Pairwise (λx y=>lexLt y x=false)
theorem AM{a:Addr}{vs:List Ip}{ts:List (List Int)}{n:Nat}{P:PySem.Fin->Ir->Prop}(B:s.heap.get? a=some (seqObj "list" vs.toArray n))(ht:Paired (ij s.heap) vs ts)(T:vs.length<64)
 (h:∀p,f8 ts vs.length p->P (.done (.ret .none)) { s with heap:=sortedHeap s.heap a vs (MF (p.map λi=>vs.getD i Kq)) }) :
 wpAny (model prog w) A (Kv.«list.sort» ⟨[.ref a],[]⟩) P E s:=by
 rw[list_sort_plain];have ha:=IA B;refine Il (listItems_at B rfl ?_);refine Il (OX B rfl ?_);obtain⟨U,D⟩:∃U,(s.heap.update a _).get? a=some (seqObj "list" #[] U):=⟨_,Ou B (λ_=>#[])⟩;refine Il (PF D rfl ?_);refine Il (wpAny_newTuple ?_);refine Il (OY ?_);refine Js ?_;have l:(((s.heap.update a (KS λ_=>#[])).push (seqObj "tuple" vs.toArray 0)).push (seqObj "list" #[] 0)).get? a=some (seqObj "list" #[] U):=by
  rw[Mw _ _ _ (by rw[size_push',ML];exact IH (Li ha)),Mw _ _ _ (by rw[ML];exact IH ha)];exact D
 dsimp only;have Y:vs.toArray.size=vs.length:=by simp
 have a0:∀v t,ij s.heap v t->ij (((s.heap.update a (KS λ_=>#[])).push (seqObj "tuple" vs.toArray 0)).push (seqObj "list" #[] 0)) v t:=λv t hq=>by
  obtain⟨b,o,x,k,e,q,c,d,r⟩:=hq;have hb:b≠a:=by
   rintro rfl;rw[B]at q;cases q;exact absurd (JC.inj (show JC "list" = JC "tuple" from c)) (by decide)
  exact⟨b,o,x,k,e,Im _ (Im _ (by rw[OK _ _ _ _ hb];exact q)),c,d,r⟩
 have y:=L2.Paired.mapP ht a0;by_cases z:vs.toArray.size<2
 .rw[if_pos z,if_pos z];refine Il (Iv ?_);refine Il (Iv ?_);dsimp only;refine Il (PF l rfl ?_);refine Il (OX l rfl ?_ (hsz2:=by rw[Array.size_map];show(pairsOf vs).size<=_;rw[pairsOf_size,OJ];omega));simp only[bne_self_eq_false];have u:f8 ts vs.length (Jj vs.length):=by
   refine⟨.refl _,?_⟩;rw[Y]at z;match hl:vs.length,z with
   | 0,_=>simp
   | 1,_=>simp
  have g:(arrOf (SortSt.mk' general' (vs.toArray.zip vs.toArray) #[] 7 none)).map (·.2)=MF ((Jj vs.length).map λi=>vs.getD i Kq):=by
   apply Array.toList_inj.mp;show((vs.toArray.zip _).map _).toList=_;apply List.ext_getElem
   .simp
   .intro i h1 z;have G:i<vs.length:=by simpa using h1
    simp[G]
  have:=h _ u;rw[<-g]at this;exact Iv this
 .rw[if_neg z,if_neg z];have H:2<=vs.length:=by omega
  obtain⟨fs,hk,c0,a5⟩:=tT y;refine Il (kat_kind hk (by omega) (λv hv=>by
   obtain⟨i,t,rfl⟩:=a5 v hv;exact Looks.of_pure rfl) rfl ?_)
  have ev:(kas_sort vs.length).kasWp (kas_ask prog w A (tuples' (JC "int" != JC "tuple")) vs) (λp I=>f8 ts vs.length p.toList/\I={ s with heap:=((s.heap.update a (KS λ_=>#[])).push (seqObj "tuple" vs.toArray 0)).push (seqObj "list" #[] 0) }) { s with heap:=((s.heap.update a (KS λ_=>#[])).push (seqObj "tuple" vs.toArray 0)).push (seqObj "list" #[] 0) }:=by
   refine tM (λi j C G O hC=>?_) (AK (AL ts) (by omega) H λp u J=>?_) λp u=>⟨u,rfl⟩
   .obtain⟨b,o,x,k,e,q,c,d,r,_⟩:=pA y G;obtain⟨b',o',L,k',e',q',c',d',r',_⟩:=pA y O;unfold kas_ask;rw[e,e'];refine kat_lt q d q' d' (tS 0 r r' ?_);have z1:x.size=(ts.getD i []).length:=by rw[<-r.length];simp
    have z2:L.size=(ts.getD j []).length:=by rw[<-r'.length];simp
    rw[z1,z2,tR];exact hC
   .refine⟨by simpa using Ng.mp u.perm,?_⟩;rw[ND,JT];intro i j G O e0;have:=J i j (by omega) (by rw[<-u.size];simpa using O);have a6:i<p.size:=by simpa using G
    have a7:j<p.size:=by simpa using O
    simpa[a6,a7]using this
  refine Il (Jh (kat_run (Q:=λm I=>∃p:Array Nat,_=_/\arrOf m=p.map _/\failedOf m=none/\f8 ts _ _/\I={ s with heap:=((s.heap.update a _).push _).push _ })
   rfl H T (λp' m I a1 a2 a3 a4=>⟨p',a1,a2,a3,a4.1,a4.2⟩) ev) ?_ λ_ _ e=>e)
  rintro⟨⟨⟩,m⟩ I ⟨p,u,a8,hf,N,rfl⟩;have g:=kat_snds rfl a8;have b2:(MF (p.toList.map λi=>vs.getD i Kq)).size=vs.length:=by rw[II,Iq,Ki,u]
  refine Il (PF l rfl ?_);rw[g];refine Il (OX l rfl ?_ (hsz2:=by rw[OJ];omega));rw[hf];simp only[bne_self_eq_false];exact Iv (h _ N)
theorem AN{l:Addr}{vs:List Ip}{ts:List (List Int)}{Q:Ip->Ir->Prop}(m:s.heap.IsList l vs.toArray)(n:Paired (ij s.heap) vs ts)(f:vs.length<64)
 (h:∀p,f8 ts vs.length p->Q (.ref (s.heap.objs.size+1)) { s with heap:=sortedAll s.heap vs (MF (p.map λi=>vs.getD i Kq)) }) :
 wpAny (model prog w) A (call (.builtin "sorted") [.ref l]) Q E s:=by
 refine Calls.call_function_entry kind_sorted plain_sorted entry_sorted (args_sorted1 _) ?_;refine Il (Iv ?_);refine Il (collect_list m ?_);refine Il (OY ?_);have a:((s.heap.push (seqObj "list" #[] 0)).update s.heap.objs.size (KS (·++vs.toArray))).objs.size=s.heap.objs.size+1:=by
  rw[ML,size_push']
 have d:(((s.heap.push (seqObj "list" #[] 0)).update s.heap.objs.size (KS (·++vs.toArray))).push (seqObj "list" vs.toArray 0)).get? (s.heap.objs.size+1)=some (seqObj "list" vs.toArray 0):=by
  rw[<-a];exact IB _ rfl
 rw[a];have keep:∀b o,s.heap.get? b=some o->(((s.heap.push _).update _ _).push (seqObj "list" vs.toArray 0)).get? b=some o:=λb o q=>by
  have c:=IA q;rw[Mw _ _ _ (by rw[a];exact IH (Li c)),OK _ _ _ _ (IH c),Mw _ _ _ (IH c)];exact q
 refine Il (Js (Kx slot_list_sort ⟨_,d,rfl⟩ entry_list_sort (AM d (L2.Paired.mapP n λv t ⟨b,o,g,k,e,q,r⟩=>⟨b,o,g,k,e,keep b o q,r⟩) f λp u=>⟨_,rfl,?_⟩) (args_list_sort _)));exact Iv ⟨_,rfl,h p u⟩
end
section
variable{X:Cx}{cm:Nat->Addr}
noncomputable def AO(K:Io):List V->Hp->VK->Prop:=λb H Q=>∃a ns,b=[.ref a]/\bE K H a (ns.map V.int)/\ns.length<64/\∀l,H l=none->Q (.ref l) (aJ H l (.lst ((aG hX ns).map V.int)))
theorem call_sortI:bh X (.builtin "sorted") (AO X.K):=by
 intro i s A H B C Q I r h;obtain⟨a,ns,rfl,l,m,q⟩:=h;obtain⟨u,rfl,n⟩:=Y3 r;cases n;obtain⟨d,p,v,D⟩:=I.list l;have j:=S4 p;have E:=j.length;refine sorted_ints v.isList j (by omega) λf w x y z=>?_;have e:=sH (y.trans (N1 _ _).symm) z (zW ns);subst e;obtain⟨c,g⟩:=sortedAll_at _ d f;have k:(aG hX ns).length=_:=(N1 _ _).length_eq;refine⟨.ref _,_,I.laid (λb o e=>sortedAll_old e) (Lb _) ?_,rfl,q _ (I.hok.fresh (Lb _))⟩;refine⟨by rw[Iq,OJ];omega,_,c,nE x,?_⟩;exact g
def iQ(H:Hp)(x:V)(t:List Int):Prop:=∃b,x=.ref b/\H b=some (.tup (t.map V.int))/\t≠[]
noncomputable def AQ(K:Io):List V->Hp->VK->Prop:=λd H Q=>∃a b c,d=[.ref a]/\bE K H a b/\Paired (iQ H) b c/\b.length<64/\∀l p,f8 c b.length p->H l=none->Q (.ref l) (aJ H l (.lst (p.map λi=>b.getD i .non)))
theorem tU{a:List (Addr×Obj)}{σ:L2.St}{H:Hp}{s:Ir}(I:L2.Inv X a σ H s):∀{f:List V}{c:List Ip}{ts:List (List Int)},aF f c->Paired (iQ H) f ts->Paired (ij s.heap) c ts
 | _,_,_,.nil,.nil=>.nil
 | _,_,_,.cons r t,.cons h k=>by
   refine .cons ?_ (tU I t k);obtain⟨b,rfl,g,e⟩:=h;cases r;obtain⟨_,d,i,j,l,m,n,hd⟩:=I.hok b _ g;exact⟨b,j,d.toArray,n,rfl,l,m,hd,by simpa using S4 i,e⟩
theorem tV{b:List V}{a:List Ip}(r:aF b a):∀p:List Nat,(∀i∈p,i<b.length)->aF (p.map λi=>b.getD i .non) (p.map λi=>a.getD i .none)
 | [],_=>.nil
 | i::p,h=>by
   have c:=h i Iz;obtain⟨u,d,e⟩:=r.get (i:=i) (x:=b[i]) (by simp[c]);refine .cons ?_ (tV r p λj f=>h j (IE _ f));have g:b.getD i .non=b[i]:=by simp[c]
   have k:a.getD i .none=u:=by rw[Jr,d];rfl
   show L2.RelV (b.getD i .non) (a.getD i .none);rw[g,k];exact e
theorem AR:bh X (.builtin "sorted") (AQ X.K):=by
 intro k s D H E G Q I r h;obtain⟨a,l,m,rfl,n,v,w,q⟩:=h;obtain⟨u,rfl,x⟩:=Y3 r;cases x;obtain⟨f,g,y,J⟩:=I.list n;have z:=g.length;refine AN y.isList (tU I g v) (by omega) λp A=>?_;have d:f8 m l.length p:=by rw[z];exact A
 obtain⟨c,j⟩:=sortedAll_at _ f _;have B:p.length=l.length:=by rw[d.1.length_eq];simp
 refine⟨.ref _,_,I.laid (λb o e=>sortedAll_old e) (Lb _) ?_,rfl,q _ p d (I.hok.fresh (Lb _))⟩;refine⟨by rw[Iq];omega,p.map λi=>f.getD i _,c,tV g p λi C=>?_,j⟩;have:=d.1.mem_iff.mp C;simpa using this
theorem S9:∀{l:List PV}{ns:List Int},M6 l=some ns->l=ns.map .int
 | [],ns,h=>by simp[M6]at h;subst h;rfl
 | x::r,ns,h=>by
   cases x with
   | int i=>
     simp only[M6,Jg]at h;obtain⟨m,a,rfl⟩:=h;rw[S9 a];rfl
   | _=>simp[M6]at h
theorem v6:∀{l:List PV}{ts:List (List Int)},U5 l=some ts->l=ts.map (λt=>PV.tup (t.map .int))/\∀t∈ts,t≠[]
 | [],ts,h=>by simp[U5]at h;subst h;simp
 | x::r,ts,h=>by
   cases x with
   | tup m=>
     cases m with
     | nil=>simp[U5]at h
     | cons y g=>
       unfold U5 at h;rcases c:M6 (y::g)with _ | z
       .rw[c]at h;cases h
       .rcases d:U5 r with _ | i
        .rw[c,d]at h;cases h
        .rw[c,d]at h;cases h;obtain⟨a,b⟩:=v6 d;have f:=S9 c;refine⟨by rw[a,f];rfl,λt e=>?_⟩;rcases IF.mp e with rfl | e
         .rintro rfl;simp at f
         .exact b t e
   | _=>simp[U5]at h
theorem RVs.ints_inv{ρ:List Addr}{H:Hp}:∀{ns:List Int}{a:List V},RVs ρ H (ns.map .int) a->a=ns.map V.int
 | [],_,h=>by cases h;rfl
 | i::ns,_,h=>by cases h with | cons h r=>cases h;rw[RVs.ints_inv r];rfl
theorem tW{ρ:List Addr}{H:Hp}:∀{ts:List (List Int)}{b:List V},RVs ρ H (ts.map λt=>PV.tup (t.map .int)) b->(∀t∈ts,t≠[])->Paired (iQ H) b ts
 | [],_,h,_=>by cases h;exact .nil
 | t::ts,_,h,a=>by
   cases h with
   | cons h r=>
     cases h with
     | tup c d=>
       rw[RVs.ints_inv d]at c;exact .cons ⟨_,rfl,c,a t Iz⟩ (tW r λu e=>a u (IE _ e))
theorem tX{ρ:List Addr}{H:Hp}{l:List PV}{a:List V}(r:RVs ρ H l a):∀p:List Nat,(∀i∈p,i<l.length)->RVs ρ H (p.map λi=>l.getD i .non) (p.map λi=>a.getD i .non)
 | [],_=>.nil
 | i::p,h=>by
   have b:=h i Iz;obtain⟨u,c,d⟩:=r.get (i:=i) (x:=l[i]) (by simp[b]);refine .cons ?_ (tX r p λj e=>h j (IE _ e));have f:l.getD i .non=l[i]:=by simp[b]
   have g:a.getD i .non=u:=by rw[Jr,c];rfl
   show RV ρ H (l.getD i .non) (a.getD i .non);rw[f,g];exact d
theorem AS{a:Type}(ts:List a)(d:a){p:List Nat}(b:p.Perm (Jj ts.length)):(p.map λi=>ts.getD i d).Perm ts:=by
 refine(b.map _).trans ?_;have:(Jj ts.length).map (λi=>ts.getD i d)=ts:=by
  apply List.ext_getElem
  .simp
  .intro i e c;simp[c]
 rw[this]
theorem tY{e:Expr}{d:ED}{p pos:Pos}(hr:X.A.units+64<cLine)(he:Pe X cm e d)(L:Gl X "sorted")(N:X.mg "sorted" = none)(hs:starEach [e] X.env=(false,eval e X.env)::starEach [] X.env:=by exact D6 rfl):Pe X cm (.Call (.Name "sorted" p) [e] [] pos) (lB d):=
 D7 (V4 (call_sortI.or AR) L N PyProof.Rows.boot_sorted (r_cons he r_nil hs) (he:=hs)) λσ H Q h=>f7 (λ_=>rfl) (λρ A H x z A' v Q g O I k=>by
  cases x with
  | ref n=>
    obtain⟨l,A1,e1,y⟩:=B0 I;obtain⟨rfl,a,B,rfl,J,r⟩:=L3 g O e1;obtain⟨m,A2,T,j⟩:=B0 y;obtain⟨o,c⟩:=C7 T;rcases b:M6 l with _ | ns
    .rcases C:U5 l with _ | f
     .rw[b,C]at c;cases c
     .rw[b,C]at c;cases c;cases j;obtain⟨rfl,E⟩:=v6 C;have G:B.length=f.length:=by rw[<-r.length];simp
      refine .inr ⟨a,B,f,rfl,J,tW r E,by rw[<-r.length];exact o,λD p u q=>?_⟩;rw[G]at u;have U:=nZ oa ((AS f [] u.1).trans (N1 _ _).symm) u.2 (zX f);have s:∀i∈p,i<_:=λi b=>by simpa using u.1.mem_iff.mp b
      have Y:(aG lexLt f).map (λt=>PV.tup (t.map .int))=p.map λi=>(f.map λt=>PV.tup (t.map .int)).getD i .non:=by
       rw[<-U,IT];refine JF λi b=>?_;have:=s i b;simp[this]
      have w:aA ρ H _ (aJ H D (.lst (p.map λi=>B.getD i .non))):=aA.new q;refine k _ _ _ w (g.alloc q ⟨_,C8,?_⟩ rfl) (.ref (by rw[<-g.len];simp));rw[Y];exact(tX r p λi b=>by rw[Iq];exact s i b).mono w
    .rw[b]at c;cases c;cases j;have G:=S9 b;subst G;have hx:=RVs.ints_inv r;subst hx;refine .inl ⟨a,ns,rfl,J,by simpa using o,λD q=>?_⟩;have w:aA ρ H _ (aJ H D (.lst ((aG hX ns).map V.int))):=aA.new q;exact k _ _ _ w (g.alloc q ⟨_,C8,RVs.ints _⟩ rfl) (.ref (by rw[<-g.len];simp))
  | _=>cases I) h
end
end Ws
namespace Ws
open PySem L2
theorem AU(K:Io):lW K:=⟨λa b c d=>by
 simp only[IF,Jl,or_false]at c d;rcases c with rfl | rfl | rfl | rfl | rfl | rfl<;>rcases d with rfl | rfl | rfl | rfl<;>with_unfolding_all rfl⟩
def v7(s:SD):Prop:=∀a A v b,s a A≠.ok (.rt v) b
theorem M0{a b:SD}(d:v7 a)(e:v7 b):v7 (D3 a b):=λi A v j h=>by
 obtain⟨o,k,f,c⟩:=B0 h;cases o with
 | nx g=>exact e _ _ _ _ c
 | rt u=>exact d _ _ _ _ f
 | _=>cases c
theorem lZ{t:TD}{a b:SD}(e:v7 a)(f:v7 b):v7 (bF t a b):=λg A v i h=>by
 obtain⟨c,j,k,d⟩:=B0 h;cases c with
 | true=>exact e _ _ _ _ d
 | false=>exact f _ _ _ _ d
theorem ma:v7 sPass:=λa A v b h=>by cases h
theorem n9:v7 sNever:=λa A v b h=>by cases h
theorem tZ{e:ED}{g:GD}:v7 (N9 e g):=λc A v d h=>by
 obtain⟨x,f,i,a⟩:=B0 h;obtain⟨y,j,k,b⟩:=B0 a;cases b
theorem O6{a e:ED}{f:Nat}:v7 (sFld a f e):=λi A v j h=>by
 obtain⟨x,k,l,c⟩:=B0 h;obtain⟨y,m,p,b⟩:=B0 c;cases y with
 | ref n=>
   obtain⟨o,q,r,d⟩:=B0 b;obtain⟨_,g⟩:=C7 d;cases g
 | _=>cases b
theorem md{n p:Nat}{s:SD}(hs:v7 s){vs:List PV}{A A':PHp}{v:PV}(h:fn n p s vs A=.ok v A'):v=.non:=by
 obtain⟨_,b⟩:=C7 h;obtain⟨o,e,c,a⟩:=B0 b;cases o with
 | nx d=>cases a;rfl
 | rt u=>exact absurd c (hs _ _ _ _)
 | _=>cases a
noncomputable def pB(K:Io)(cm:Nat->Addr):Sp:=λc H Q _=>∃(a:Addr)(ns:List Int),c=[.ref a]/\bE K H a (ns.map V.int)/\ns.length<=63/\(∀b d,H b≠some (.lst d))/\eP cm H/\∀e,Q (.bl true) e
theorem AV{K:Io}{cm:Nat->Addr}{f:Fun}(h:∀ns:List Int,∃g,f [.ref 0] [.ro (ns.map .int)]=.ok (.bl true) g)(vs:List V)(H:Hp)(Q:VK)(E:L2.XK)(q:pB K cm vs H Q E):bf K cm f 1 vs H Q E:=by
 obtain⟨a,ns,rfl,c,_,j,l,k⟩:=q;obtain⟨g,e⟩:=h ns;have r:Fz K H a (ns.map V.int):=by
  rcases c with(c | c) | c
  .exact absurd c (j _ _)
  .exact .inl c
  .exact .inr c
 refine⟨[a],[.ro (ns.map .int)],[.ref 0],.bl true,g,⟨l,rfl,λn o b d i=>?_,λm n b o p d i s u y z=>?_⟩,.cons (.ref rfl) .nil,rfl,e,λv w A _ _ x=>by cases x;exact k w⟩
 .cases n with
  | zero=>simp at d i;subst d;subst i;exact⟨_,r,RVs.ints ns⟩
  | succ n=>simp at d
 .cases m with
  | zero=>cases n with
    | zero=>rfl
    | succ n=>simp at u
  | succ m=>simp at s
end Ws
namespace Ws
open PySem PySem.W
theorem AW{f:String->Option Kv}{p:IS}{w:Jp}{m:Nat}{e:Option Ip}:∀(n:Nat)(S:LN)(t:Pk)(R:LN),
 pD (stepOk m e) (stepT (denote f) p w) n S t=some R->topRun f p w m e n S.abs t=some R.abs:=by
 intro n;induction n with
 | zero=>intro S t R h;cases h
 | succ n ih=>
   intro S t R h;unfold topRun;have d:@Bool.rec (λ_=>Option LN) _ _ _=some R:=h;cases a:through t with
   | true=>rw[a]at d;cases d;rfl
   | false=>
     rw[a]at d;cases b:stepOk m e t with
     | false=>rw[b]at d;cases d
     | true=>
       rw[b]at d;cases c:stepT _ p w S t with
       | none=>rw[c]at d;cases d
       | some r=>
         rw[c]at d;obtain⟨g,i⟩:=r;rw[stepT_spec c];exact ih g i R d
theorem AX(w:Jp)(os:Q2):(pE w os).abs=⟨Mm w.params,#[],Pd,PJ,os⟩:=by kernel_rfl
theorem AY(P:Params):((Mm P).isNs mainGlobals,(Mm P).objs.size,(Mm P).nsMap mainGlobals "__annotations__")=(true,11,some (.ref 6)):=by kernel_rfl
noncomputable def ik(h:Heap):Frag:=(Jj h.objs.size).filterMap λa=>(h.get? a).map λo=>(a,o)
theorem pF{h:Heap}:∀(l:List Nat){a:Addr}{o:Obj},(l.filterMap λa=>(h.get? a).map λo=>(a,o)).lookup a=some o->h.get? a=some o
 | [],_,_,e=>by cases e
 | b::l,a,o,e=>by
   rw[KH]at e;cases q:h.get? b with
   | none=>rw[q]at e;exact pF l e
   | some x=>
     rw[q]at e;change ((b,x)::_).lookup a=some o at e;rw[KU]at e;by_cases z:(a == b)=true
     .rw[z]at e;cases e;rw[beq_iff_eq.mp z];exact q
     .have c:(a == b)=false:=by simpa using z
      rw[c]at e;exact pF l e
theorem AZ(h:Heap):(ik h).In h:=λa o e=>pF _ e
theorem Ba(S:LN):ik S.abs.heap=jy S:=by
 have g:S.abs.heap.objs.size=S.n:=absHeap_size ..;unfold ik jy;rw[g];have e:∀l:List Nat,(∀a∈l,a<S.n)->(l.filterMap λa=>(S.abs.heap.get? a).map λo=>(a,o))=l.filterMap λa=>(alive ((S.tree.get a).getD default)).map λo=>(a,o):=by
  intro l;induction l with
  | nil=>intro _;rfl
  | cons a l ih=>
    intro h;have f:S.abs.heap.get? a=alive ((S.tree.get a).getD default):=by
     show(absHeap _ S.n _).get? a=_;unfold Heap.get?;rw[absHeap_at,if_pos (h a (.head _))];cases(S.tree.get a).getD default with
     | mk c d i k=>cases i<;>rfl
    rw[KH,KH,f,ih λb j=>h b (.tail _ j)]
 exact e _ λa f=>JO.mp f
noncomputable def Kw(p:IS)(N:Nat)(w:Jp):Frag:=match openEnds treeTable p w N with
 | some s=>ik s.heap
 | none=>[]
theorem Bb{p f:IS}{q:IS->IS}{a:List Str}{Xt:IS->Ir->Bool}{N:Nat}{v:Type}{ob:Frag->v}{va:IS->v}
 {ok:Nat->Option Ip->Pk->Bool} {st:(Code->Sem Fin)->IS->Jp->LN->Pk->Option (LN×Pk)} {x:(String->Option Kv)->Code->Sem Fin} {y:String->Option Kv}
 {z:IS->List Str->List Str->(Ir->Bool)->Bool->Ir->_}
 (C:p=f) (i:stepOk=ok) (j:stepT=st) (l:denote=x) (m:treeTable=y) (n:openSeen=z)
 (op:∀w:Jp,(fencedOpening treeTable p w N).map (λs=>(s.heap,s.gens,s.drawn,s.toks))=some (Mm w.params,#[],Pd,PJ))
 (D:∀(w:Jp)(os:Q2),(pD (ok 11 (some (.ref 6))) (st (x y) f w) N (pE w os) (topStub f)).map (λS=>(lk z f (q f) a (Xt f) w S.abs,ob (jy S)))=some ((true,openGood (q f) a),va f)) :
 LeftO p (q p) a (Xt p) (λs=>ik s.heap) (Kw p N) N/\∀w,ob (Kw p N w)=va p:=by
 subst C i j l m n;have g:∀w,∃s,openEnds treeTable p w N=some s/\openSeen (q p) a (importedModules p.main.body) (Xt p) true s=openGood (q p) a/\ob (ik s.heap)=va p:=by
  intro w;obtain⟨⟨h,J,d,k,os⟩,e,A⟩:=Jg.mp (op w);simp only[OZ]at A;obtain⟨rfl,rfl,rfl,rfl⟩:=A;obtain⟨S,r,c⟩:=Jg.mp (D w os);simp only[lk,OZ]at c;obtain⟨⟨E,o⟩,u⟩:=c;have B:=AW N _ _ _ r;rw[AX]at B;have b:=AY w.params;simp only[OZ]at b;obtain⟨G,H,I⟩:=b;refine⟨S.abs,?_,o,by rw[Ba];exact u⟩;unfold openEnds;rw[e];show topFrom treeTable p w N _=_;unfold topFrom;rw[G,H,I,B];show(match staticsOk _ _ _&&namesBound p _&&gensDone _&&laidKept _ _ with | true=>some _ | false=>none)=_;rw[E]
 refine⟨λw=>?_,λw=>?_⟩
 .obtain⟨s,e,o,_⟩:=g w;rw[e];unfold Kw;rw[e];exact congrArg some (Prod.ext o rfl)
 .obtain⟨s,e,_,u⟩:=g w;unfold Kw;rw[e];exact u
noncomputable def Bc:Stmt->Pos
 | .FunctionDef _ _ _ _ _ _ _ _ _ p=>p
 | _=>⟨0,0,0,0⟩
theorem Bd{l:OpenLaw}{q:IS}{loose:List Str}{N:Nat}{d:DefRec}
 (left:LeftO l.row.prog q loose (λs=>xlAt q [] s&&recOk (RowW.records l.row.toRowW) s) (λs=>ik s.heap) (Kw l.row.prog N) N)
 (hdef:defOf q l.row.name=some (d,[])) (hp:l.row.prog.theDef l.row.name=some (d.params,d.body,d.scope)) (hk:kwWritten? d.params.kwonlyargs d.params.kw_defaults=some [])
 (hwr:(!l.row.writes||l.row.records.isEmpty)=true) (k1:l.row.wellSaid=true) (ok:(chainsOk q&&opensWell l.row.prog&&(frees l.row.toRowW&&l.row.within.isEmpty))=true) (hb:l.row.prog.bare) (hw:l.row.toRowW.promised)
 (call:WalkO q loose (XL q []) (λw h=>(Kw l.row.prog N w).In h) l.row.toRowW d [] λf vs=>PySem.call f vs):l.row.Holds:=
 holds_open left (λw s e=>by rw[<-e];exact AZ _) (λw h h' x k=>x.keeps k) (λs e=>xl_of s (MN.mp e).1) XL.keeps hdef hp hk (λs e=>recFacts_of (MN.mp e).2) hwr k1 ok hb hw call
theorem p1{d e:Type}{a c:d}{b f:e}(h:(a,b)=(c,f)):a=c:=(PL h).1
theorem p2{d e:Type}{a f:d}{b c:e}(h:(a,b)=(f,c)):b=c:=(PL h).2
end Ws
open PySem PySem.Spec PyProof.Rows
namespace Ws
open PySem L2
section
variable{ρ:List Addr}{H:Hp}{K:Io}{A:PHp}{n:Nat}{v:V}
theorem Pairs.cons_inv{c a:Type}{f:c->a}{p:c×PV}{r:List (c×PV)}{d:List (a×V)}(h:Pairs f ρ H (p::r) d):∃u b,d=(f p.1,u)::b/\RV ρ H p.2 u/\Pairs f ρ H r b:=by
 obtain⟨k,v⟩:=h;cases d with
 | nil=>cases k
 | cons q t=>
   obtain⟨g,u⟩:=q;simp only[Jb,Mj]at k;cases v with
   | cons e i=>exact⟨u,t,by rw[<-k.1],e,k.2,i⟩
theorem Pairs.nil_inv{c a:Type}{f:c->a}{b:List (a×V)}(h:Pairs f ρ H [] b):b=[]:=by
 obtain⟨k,v⟩:=h;cases b with
 | nil=>rfl
 | cons q t=>cases k
theorem Pairs.cons'{b a:Type}{f:b->a}{p:b×PV}{u:V}{r:List (b×PV)}{c:List (a×V)}(h:RV ρ H p.2 u)(t:Pairs f ρ H r c):Pairs f ρ H (p::r) ((f p.1,u)::c):=
 ⟨by rw[Jb,Jb,t.keys],.cons h t.vals⟩
end
end Ws
namespace Ws
open PySem PySem.W PyProof.Rows L2
section
variable{X:Cx}{cm:Nat->Addr}
theorem pG{M:Qa}{A:Ji}{E:Ip->Ir->Prop}{s:Ir}{e:Expr}{a:Env}{pos:Pos}{Q:List Ip->Ir->Prop}(hs:starEach [e] a=(false,eval e a)::starEach [] a)(h:wpAny M A (eval e a) (λu b=>Q [u] b) E s):wpAny M A (spliced (backTo pos (starEach [e] a))) Q E s:=by
 rw[hs];exact Kr (aQ h λu b q=>LG q)
theorem Be{σ:L2.St}{H:Hp}{Q:List V->Hp->Prop}(h:gr X.K cm aNil σ H Q):tNil σ H Q:=by
 obtain⟨a,A,b,e,f,c,g,d,k⟩:=h;cases d;exact k a H [] (aA.refl _ _) c .nil
theorem m3{c:Nat}{f:Fun}{n k q:Nat}{ps:List Str}{m:Str}{o:Expr}{d:ED}{b pos:Pos}{r:Sem Bool}(D:Q9 X.prog X.w X.K X.mg X.base cm c m k ps f n)(s:k<=q)(u:aL q X.A)(x:ej X.K (cm c))(y:Pe X cm o d)(e:∀i,i<19->cR i≠m)
 (z:eval (.Call (.Attribute o m b) [] [] pos) X.env=(do
  let ov <-eval o X.env
  standAt b.atName
  let(f,first) <-holding [ov] (getMethod ov m r)
  callWith pos f first (backTo pos (starEach [] X.env)) (backToKw pos (keywordEach [] X.env))):=by rfl) :
 Pe X cm (.Call (.Attribute o m b) [] [] pos) (J8 c f d aNil):=by
 obtain⟨fa,fd,F,B,C⟩:=D.ex;refine D7 (yI y x B F (u.mono s) C .nil lx z) λσ H Q h=>?_;obtain⟨E,A,g,v,G,I,J,L,k⟩:=sZ D.len e h;exact⟨E,A,g,v,G,I,J,L,λj N O T l p=>by
  obtain⟨a,U,fs,Y,h2,h3,h4⟩:=k j N O T l p;exact⟨a,U,fs,Y,h2,h3,Be h4⟩⟩
end
structure eQ(K:Io)(x qual:Str)(st:Stmt)(f:Addr)(fd:IQ)(items:Array Ip):Prop where
 ex:∃(T:Addr)(oc:Ip)(od:Option Addr)(kV doc pm:Ip)(an:Option Addr)(cdv ct:Ip)(osl:Array (Option Ip))(tc:Ip)(td:Option Addr)(tn:Nat)(ts:Array (Option Ip)),
  fd=KY x qual (O4 st) (G9 st) (C2 st) (.ref T) kV doc pm an cdv ct/\K.lookup f=some ⟨oc,od,.func fd,osl⟩/\Mz K cdv qual=true/\K.lookup T=some ⟨tc,td,.seq items tn,ts⟩
 kp:KC K (.ref f)=true
section
variable{P:IS}{w:Jp}{K:Io}{mg:Str->Option Ip}{base:Heap}{cm:Nat->Addr}
theorem eQ.binds{x a:Str}{st:Stmt}{f:Addr}{j:IQ}{items:Array Ip}{ps:List Str}{e:List Ip}(F:eQ K x a st f j items)(n:Nat)(r:n+e.length=ps.length)
 (h:∀(T:Addr)(kV b g:Ip)(i:Option Addr)(c ct:Ip)(d:List Ip),d.length=n->∃k,bindArgs (KY x a (O4 st) (G9 st) (C2 st) (.ref T) kV b g i c ct) ⟨d,[]⟩=(seqItems? (.ref T)>>=k)/\k (some items)=pure (ps.zip (d++e))):L2.Binds K j ps e:=by
 obtain⟨T,u,v,kV,b,g,i,c,ct,l,y,z,A,B,rfl,lk,m,lt⟩:=F.ex;intro s d X o;obtain⟨k,p,q⟩:=h T kV b g i c ct d (by rw[IU]at o;omega);exact binds_K X rfl lt rfl p q
theorem Bf{x a:Str}{st:Stmt}{f T:Addr}{items:Array Ip}{i:Ip}{j g:Option Addr}{e:Array (Option Ip)}{kV d h b ct:Ip}{m:Ip}{n:Option Addr}{o:Nat}{ts:Array (Option Ip)}
 (l:K.lookup f=some ⟨i,j,.func (KY x a (O4 st) (G9 st) (C2 st) (.ref T) kV d h g b ct),e⟩) (c:Mz K b a=true) (k:KC K (.ref f)=true) (lt:K.lookup T=some ⟨m,n,.seq items o,ts⟩) :
 eQ K x a st f (KY x a (O4 st) (G9 st) (C2 st) (.ref T) kV d h g b ct) items:=⟨⟨T,i,j,kV,d,h,g,b,ct,e,m,n,o,ts,rfl,l,c,lt⟩,k⟩
theorem Bg{x b:Str}{st:Stmt}{f:Addr}{q:IQ}{items:Array Ip}{N ps:List Str}{k:Nat}{s:SD}(F:eQ K x b st f q items)(S:C6 N ps (C2 st))
 (d:∀(c:Ip)(A:Ji)(a:List Env)(j:Ir)(H:Hp)(E:L2.XK),aL k (A.deeper (Je b (C2 st) j.heap.objs.size f c))->
  cC (Z6 aS P w K mg base N b (C2 st) f c A a j H E).nox (G9 st) (fK K cm s)) :
 ay P w K mg base aS (k+1) f q ps (bf K cm (fn N.length ps.length s) ps.length):=by
 obtain⟨T,oc,od,kV,I,pm,an,c,ct,J,tc,td,tn,ts,rfl,lk,l,lt⟩:=F.ex;refine lr lk l S (λL H Q E ⟨r,A,y,v,A',z,m,C,_,_⟩=>by rw[<-m.length];exact C) λA a j H L Q E O h=>⟨_,(d c A a j H E O).nox,?_⟩;obtain⟨r,B,y,v,B',z,m,C,U,k⟩:=h;obtain⟨_,n⟩:=C7 U;obtain⟨o,Y,e1,e⟩:=B0 n;refine⟨r,B,Ws.start _ y,o,Y,z,cc.start0 m,e1,λg D G i=>?_⟩;cases o with
 | nx a1=>cases e;exact λa2 _=>k g D _ G i .non
 | rt u=>cases e;exact λv' p=>k g D v' G i p
 | _=>cases e
end
section
variable{X:Cx}{cm:Nat->Addr}
theorem pH:∀{bs:List Bool}{a:List Ip},aF (bs.map V.bl) a->∀(i:Nat)(v:Ip),a[i]?=some v->∃b,bs[i]?=some b/\v=.bool b
 | [],_,.nil,i,v,h=>by simp at h
 | b::bs,_,.cons r t,0,v,h=>by
   cases r;simp at h;subst h;exact⟨b,rfl,rfl⟩
 | b::bs,_,.cons r t,i+1,v,h=>pH t i v (by simpa using h)
theorem Bh(bs:List Bool):((Jj bs.length).all λi=>(bs[i]?).getD true)=bs.all id:=by
 induction bs with
 | nil=>rfl
 | cons b r ih=>
   rw[IM,Lq,Ml,List.all_map,Ml,<-ih];rfl
noncomputable def Bi(K:Io):List V->Hp->VK->Prop:=λb H Q=>∃(a:Addr)(bs:List Bool),b=[.ref a]/\bE K H a (bs.map V.bl)/\Q (.bl (bs.all id)) H
theorem Bj(c:X.calm=true):bh X (.builtin "all") (Bi X.K):=by
 intro n s G H J L Q I r h;obtain⟨a,bs,rfl,w,q⟩:=h;obtain⟨u,rfl,x⟩:=Y3 r;cases x;obtain⟨f,p,y,N⟩:=I.list w;have d:=y.isList;have k:a<s.heap.objs.size:=by
  obtain⟨_,e,_⟩:=d;exact IA e
 have g:f.length=bs.length:=by
  have:=p.length;simpa using this.symm
 refine call_all_walk (Kj d ⟨s.heap.objs.size,[s.heap.objs.size,a],[s.heap.objs.size],_,_,_,λi=>(bs[i]?).getD true,rfl,
  PN.list (A:=X.A.in1) (I.ok.hd c) _ a (IH k) _,⟨⟨_,IB _ rfl,rfl,rfl⟩,d.push _⟩,?_,?_⟩)
 .intro i v z B O C l;obtain⟨b,m,rfl⟩:=pH p i v (by simpa using C);have j:B ((bs[i]?).getD true) z:=l;rw[m]at j;exact Jz j
 .intro T U D;have m:f.toArray.size=bs.length:=by exact g
  rw[m,Bh];exact⟨.bl _,H,I.kept (λb o e=>D b o (λE=>by rw[Iy.mp E]at e;exact absurd (IA e) (JJ _)) (Im _ e)),rfl,q⟩
theorem pI:∀{l:List PV}{bs:List Bool},k9 l=some bs->l=bs.map .bl
 | [],bs,h=>by simp[k9]at h;subst h;rfl
 | x::r,bs,h=>by
   cases x with
   | bl b=>
     simp only[k9,Jg]at h;obtain⟨m,a,rfl⟩:=h;rw[pI a];rfl
   | _=>simp[k9]at h
theorem pJ:∀{ρ:List Addr}{H:Hp}{bs:List Bool}{a:List V},RVs ρ H (bs.map PV.bl) a->a=bs.map V.bl
 | _,_,[],_,.nil=>rfl
 | _,_,b::bs,_,.cons h t=>by cases h;rw[pJ t];rfl
theorem jz{e:Expr}{d:ED}{p pos:Pos}(c:X.calm=true)(he:Pe X cm e d)(m:Gl X "all")(o:X.mg "all" = none)(hs:starEach [e] X.env=(false,eval e X.env)::starEach [] X.env:=by exact D6 rfl):Pe X cm (.Call (.Name "all" p) [e] [] pos) (ia d):=
 D7 (V4 (Bj c) m o rfl (r_cons he r_nil hs) (he:=hs)) λs H Q h=>f7 (λ_=>rfl) (λρ A H x z A' v Q g q i k=>by
  cases x with
  | ref n=>
    obtain⟨l,u,e1,b⟩:=B0 i;obtain⟨rfl,a,w,rfl,r,j⟩:=L3 g q e1;cases f:k9 l with
    | none=>rw[f]at b;cases b
    | some bs=>
      rw[f]at b;cases b;rw[pI f]at j;exact⟨a,bs,rfl,by rw[<-pJ j];exact r,k ρ H _ (aA.refl _ _) g (.bl _)⟩
  | _=>cases i) h
end
noncomputable def fM(val:Nat->Int)(j n:Nat):List Int:=(Jj (n - j)).map λi=>val (j+i)
theorem Bk(val:Nat->Int)(n:Nat):fM val n n=[]:=by simp[fM]
theorem Bl(val:Nat->Int){j n:Nat}(h:j<n):fM val j n=val j::fM val (j+1) n:=by
 unfold fM;rw[show n - j=(n - (j+1))+1 by omega,Lq,Jb,IT];have e:((λi=>val (j+i)) ∘ Nat.succ)=λi=>val (j+1+i):=by
  funext i;show val _=val _;congr 1;omega
 rw[e,Nat.add_zero]
section
variable{prog:IS}{w:Jp}{A:Ji}{R:OF->Ir->Prop}{I:Addr}{fp wr:List Addr}{n:Nat}{P:Nat->Ip->Prop}{St:Nat->Heap->Prop}{kw:List (Str×Ip)}
theorem ub:(toString "max"++toString ".loop" : String)="max.loop":=rfl
theorem Bm(W:PN prog w A.in1 I fp wr n P St)(val:Nat->Int)(hv:∀i v,P i v->∃t,v=.int (val i) t)(S:Addr)(L:S∉fp) :
 ∀(k j:Nat)(s:Ir)(m:Int)(t:Tok)(c:Nat),n - j=k->j<=n->St j s.heap->
 s.heap.get? S=some { cls:=.type "list",dict:=none,data:=.seq #[.int m t,.int m t] c,slots:=#[] }->
 (∀u Q tk,(∀b o,b∉wr->b≠S->s.heap.get? b=some o->Q.get? b=some o)->R (.ok (.ret (.int (ff m (fM val j n)) u))) { s with heap:=Q,toks:=tk })->
 codeAny (model prog w) A (.builtin "max.loop" ⟨[.ref I,.none,.ref S],kw⟩) R s:=by
 have Y:S∉wr:=λz=>L (W.sub _ z);intro k;induction k with
 | zero=>
   intro j s m t c hk hj st x done;obtain rfl:j=n:=by omega
   refine(Ko NX ?_);rw[Le Ln _];refine(Il (m:=seqItems? (.ref S)) (Ju x rfl ?_));refine(Il (JU (W.done s _ _ st λh1 y r=>?_)));have B:=r S _ Y x;refine(Il (m:=updateSeq S (λ_=>#[])) (Lz B rfl (Il (Lc (Iv ?_)))));have d:=done t (h1.update S (KS λ_=>#[])) y λb o hb a e=>(IW _ _ (λz=>a z.symm)).trans (r b o hb e);rw[Bk]at d;exact d
 | succ k ih=>
   intro j s m t c hk hj st x done;have g:j<n:=by omega
   refine(Ko NX ?_);rw[Le Ln _];refine(Il (m:=seqItems? (.ref S)) (Ju x rfl ?_));refine(Il (JU (W.item j s _ _ g st λv h1 y hP C r=>?_)));have B:=r S _ Y x;obtain⟨D,rfl⟩:=hv j v hP;refine(Il (m:=(tryCatch (holding [.int (val j) D,.int (val j) D] (richCompare .Gt (.int (val j) D) (.int m t)>>=_)) _)) (JU (Js (Il ?_))));refine CmpOf.ints_gt (P:=λi v=>i=0/\v=.int (val j) D\/i=1/\v=.int m t) (λi=>if i=0 then val j else m) (λi v h=>?_) 0 1 _ _ _ _ _ (.inl ⟨rfl,rfl⟩) (.inr ⟨rfl,rfl⟩) ?_
   .rcases h with⟨rfl,rfl⟩ | ⟨rfl,rfl⟩
    .exact⟨_,rfl⟩
    .exact⟨_,rfl⟩
   .refine(Il (Js (Jz ?_)));refine(Il (Lc (Iv ?_)));have l:ff m (fM val j n)=ff (if m<val j then val j else m) (fM val (j+1) n):=by rw[Bl val g];rfl
    show wpAny _ A.in1 (if decide (val j > m)=true then _ else _) _ _ _;by_cases p:m<val j
    .rw[if_pos p]at l;rw[if_pos (by simpa using p)];apply Il;refine(Lz B rfl (Il (Lc ?_)));rw[ub];refine(Iv ⟨KA Ln _,ih (j+1) _ (val j) D _ (by omega) g (W.frame _ _ _ C λb G o e=>?_) (Jw _ B rfl) λu H q J=>?_⟩)
     .exact(IW _ _ (λz:S=b=>L (by rw[z];exact G))).trans e
     .have d:=done u H q λb o f a e=>J b o f a ((IW _ _ (λz=>a z.symm)).trans (r b o f e));rw[l]at d;exact d
    .rw[if_neg p]at l;rw[if_neg (by simpa using p)];apply Il;refine(Lc ?_);rw[ub];refine(Iv ⟨KA Ln _,ih (j+1) _ m t c (by omega) g C B λu H q J=>?_⟩);have d:=done u H q λb o f a e=>J b o f a (r b o f e);rw[l]at d;exact d
theorem Bn(W:PN prog w A.in1 I fp wr n P St)(val:Nat->Int)(B:∀i v,P i v->∃t,v=.int (val i) t)(S:Addr)(m:S∉fp){s:Ir}{c:Nat}{d:Ip}(st:St 0 s.heap)
 (C:s.heap.get? S=some { cls:=.type "list",dict:=none,data:=.seq #[] c,slots:=#[] })
 (J:n=0->∀a q,(∀b o,b∉wr->b≠S->s.heap.get? b=some o->a.get? b=some o)->R (.ok (.ret d)) { s with heap:=a,toks:=q })
 (L:0<n->∀r a q,(∀b o,b∉wr->b≠S->s.heap.get? b=some o->a.get? b=some o)->R (.ok (.ret (.int (ff (val 0) (fM val 1 n)) r))) { s with heap:=a,toks:=q }) :
 codeAny (model prog w) A (.builtin "max.loop" ⟨[.ref I,.none,.ref S],[("default",d)]⟩) R s:=by
 have N:=λz=>m (W.sub _ z);refine(Ko NX ?_);refine(Il (Ju C rfl ?_));by_cases O:n=0
 .subst O;refine(Il (JU (W.done s _ _ st λG h l=>?_)));refine(Il (LI (Iv ?_)));exact J rfl G h λb o Q _ e=>l b o Q e
 .refine(Il (JU (W.item 0 s _ _ (by omega) st λv G h T u l=>?_)));have H:=l S _ N C;obtain⟨U,rfl⟩:=B 0 v T;show wpAny _ _ (updateSeq S _>>=_) _ _ _;apply Il;refine(Lz H rfl ?_);refine(Iv ⟨KA Ln _,Bm W val B S m _ 1 _ _ U _ rfl (by omega) (W.frame _ _ _ u λb x o e=>?_) (Jw _ H rfl) λr Y y k2=>?_⟩)
  .exact(IW _ _ (λz:S=b=>m (by rw[z];exact x))).trans e
  .exact L (by omega) r Y y λb o j k e=>k2 b o j k ((IW _ _ (λz=>k z.symm)).trans (l b o j e))
end
section
variable{prog:IS}{w:Jp}{A:Ji}{E:Ip->Ir->Prop}{s:Ir}{Q:Ip->Ir->Prop}
theorem Bo(a d:Ip):argsOk "max" ⟨[a],[("default",d)]⟩:=rfl
theorem Bp{id:String}{b:Kv}{args:List Ip}{c:List (Str×Ip)}(j:builtinKind id=none)(k:plainId id=true)(l:entryFor table id=some b)(g:argsOk id ⟨args,c⟩)
 (h:wpAny (model prog w) A.in1 (b ⟨args,c⟩) (λfin a=>match fin with
  | .done f=>(match (Except.ok f:OF)with | .ok (.ret v)=>Q v a | .ok _=>False | .error e=>E e a)
  | .again i=>i.quiet=true/\codeAny (model prog w) A i (λr a=>match r with | .ok (.ret v)=>Q v a | .ok _=>False | .error e=>E e a) a) E s):wpAny (model prog w) A (call (.builtin id) args c) Q E s:=by
 refine(Ma (MO k l ?_));simp only[checkBuiltinCall,j];cases z:Manifest.signature? id with
 | none=>exact Iv h
 | some d=>
   simp only[argsOk,z]at g;show wpAny _ _ (Bind.checkArgs id d ⟨args,c⟩) _ _ s;rw[show Bind.checkArgs id d ⟨args,c⟩=pure ()from g];exact Iv h
theorem Bq{l:Addr}{c:List Ip}{ns:List Int}{d:Ip}(O:A.handled=none)(H:s.heap.IsList l c.toArray)(I:LZ c ns)
 (T:ns=[]->∀m h,(∀b o,s.heap.get? b=some o->m.get? b=some o)->Q d { s with heap:=m,toks:=h })
 (U:∀i r,ns=i::r->∀t m h,(∀b o,s.heap.get? b=some o->m.get? b=some o)->Q (.int (ff i r) t) { s with heap:=m,toks:=h }) :
 wpAny (model prog w) A (call (.builtin "max") [.ref l] [("default",d)]) Q E s:=by
 have j:l<s.heap.objs.size:=by
  obtain⟨_,e,_⟩:=H;exact IA e
 have f:c.toArray.size=ns.length:=by exact I.length
 refine Bp F.kind_max F.plain_max F.entry_max (Bo _ _) ?_;refine(Il (PM (show LA "max" ["key","default"] 0 ⟨[],[("default",d)]⟩=pure [none,some d]from rfl) ?_));refine(Il (Iv ?_));refine(Il (Kj H ?_));refine(Il (LH ?_));have W:=PN.list (prog:=prog) (w:=w) (A:=A.in1) O _ l (IH j) c.toArray;have q:∀i v,c.toArray[i]?=some v->∃t,v=Nw (ns.getD i 0) t:=by
  intro i v G;rw[List.getElem?_toArray]at G;have u:i<ns.length:=by
   have:=(IG.mp G).1
   rwa [I.length]at this
  obtain⟨t,Y⟩:=I.get i ns[i] (IJ u);rw[Y]at G;exact⟨t,by rw[<-IK G];simp[u]⟩
 have x:(s.heap.push { cls:=.type "list_iterator",data:=.fields #[.ref l,.int 0 0] }).objs.size=_+1:=JG ..;have y:∀(g:Heap),(∀b o,b∉[s.heap.objs.size]->b≠(s.heap.push { cls:=.type "list_iterator",data:=.fields #[.ref l,.int 0 0] }).objs.size->((s.heap.push { cls:=.type "list_iterator",data:=.fields #[.ref l,.int 0 0] }).push { cls:=.type "list",data:=.seq #[] 0 }).get? b=some o->g.get? b=some o)->∀b o,s.heap.get? b=some o->g.get? b=some o:=by
  intro g B b o e;have N:=IA e;exact B b o (λz=>absurd (Iy.mp z) (IH N)) (by rw[x];exact IH (Li N)) (Im _ (Im _ e))
 have J:∀i r,ns=i::r->ff (ns.getD 0 0) (fM (λk=>ns.getD k 0) 1 ns.length)=ff i r:=by
  rintro i r rfl;have:fM (λk=>(i::r).getD k 0) 1 (i::r).length=r:=by
   unfold fM;refine List.ext_getElem? λk=>?_;rw[Jc];simp only[IM,Nat.add_sub_cancel];by_cases L:k<r.length
   .rw[List.getElem?_range L];simp[Pl 1 k,L]
   .simp[L]
  rw[this];rfl
 have st0:=W.frame 0 _ ((s.heap.push { cls:=.type "list_iterator",data:=.fields #[.ref l,.int 0 0] }).push { cls:=.type "list",data:=.seq #[] 0 }) ⟨⟨_,IB _ rfl,rfl,rfl⟩,H.push _⟩ λb _ o e=>Im _ e;refine(Iv ⟨KA Ln _,Bn W _ q (s.heap.push { cls:=.type "list_iterator",data:=.fields #[.ref l,.int 0 0] }).objs.size ?_ st0 (IB _ rfl) ?_ ?_⟩)
 .rw[x];intro z;rcases IF.mp z with e | z
  .exact Nat.succ_ne_self _ e
  .have e:=Iy.mp z;rw[<-e]at j;exact JJ _ (Nat.lt_of_succ_lt j)
 .intro C g h B;exact T (by rw[f]at C;exact NM.mp C) g h (y g B)
 .intro C t g h B;obtain⟨i,r,D⟩:∃i r,ns=i::r:=by
   cases ns with
   | nil=>rw[f]at C;exact absurd C (by simp)
   | cons i r=>exact⟨i,r,rfl⟩
  rw[f,J i r D];exact U i r D t g h (y g B)
end
section
variable{X:Cx}{cm:Nat->Addr}
noncomputable def Br(K:Io)(t e:TA):TE:=λb H Q=>t b H λf g=>e b g λh c=>∃(a:Addr)(ns:List Int)(d:V),f=[.ref a]/\h=[d]/\bE K c a (ns.map V.int)/\Q (match ns with | []=>d | i::r=>.int (ff i r)) c
theorem Bs{e f:Expr}{p b pos:Pos}{t x:TA}(g:X.calm=true)(B:Gl X "max")(C:X.mg "max" = none)(D:PA X [e] t)(l:PK X [⟨some "default",f,b⟩] x)
 (he:backTo pos (starEach [e] X.env)=(false,eval e X.env)::backTo pos (starEach [] X.env):=by rfl)
 (hpl:(backTo pos (starEach [e] X.env)).any (·.1)=false:=by rfl) (j:(backToKw pos (keywordEach [⟨some "default",f,b⟩] X.env)).all (·.1.isSome)=true:=by rfl)
 (m:(backToKw pos (keywordEach [⟨some "default",f,b⟩] X.env)).any (·.1.isNone)=false:=by rfl)
 (n:(backToKw pos (keywordEach [⟨some "default",f,b⟩] X.env)).filterMap (·.1)=[("default" : Str)]:=by rfl) :
 PE X (.Call (.Name "max" p) [e] [⟨some "default",f,b⟩] pos) (Br X.K t x):=by
 intro c s y H Q I h;refine(Ks (V9 I B C (show bootBuiltins "max" = some _ from by rfl) ?_ (by decide) rfl));refine(callWith_kw (aQ (D pos c s y H _ I h) λus E ⟨vs,G,J,L,N⟩=>aQ (l pos c E y G _ J N) λws s2 O=>?_) he hpl j m);obtain⟨zs,A,k,T,U⟩:=O;rw[n];obtain⟨a,ns,d,rfl,rfl,Y,q⟩:=U;obtain⟨u,rfl,rx⟩:=Y3 L;obtain⟨z,rfl,rz⟩:=Y3 T;cases rx;obtain⟨a2,ri,pl,hz⟩:=k.list Y;refine(Bq (k.ok.hd g) pl.isList (S4 ri) (λo h' v w=>?_) (λi r o t h' v w=>?_))
 .subst o;exact⟨d,A,k.kept w,rz,q⟩
 .subst o;exact⟨.int _,A,k.kept w,⟨t,rfl⟩,q⟩
theorem b9:∀{ρ:List Addr}{H:Hp}{ns:List Int}{a:List V},RVs ρ H (ns.map PV.int) a->a=ns.map V.int
 | _,_,[],_,.nil=>rfl
 | _,_,i::ns,_,.cons h t=>by cases h;rw[b9 t];rfl
theorem Bt{e f:Expr}{d d':ED}{p b pos:Pos}(g:X.calm=true)(he:Pe X cm e d)(T:Pe X cm f d')(U:Gl X "max")(Y:X.mg "max" = none)(hs:starEach [e] X.env=(false,eval e X.env)::starEach [] X.env:=by exact D6 rfl)
 (h1:backTo pos (starEach [e] X.env)=(false,eval e X.env)::backTo pos (starEach [] X.env):=by rfl)
 (h2:(backTo pos (starEach [e] X.env)).any (·.1)=false:=by rfl) (h3:(backToKw pos (keywordEach [⟨some "default",f,b⟩] X.env)).all (·.1.isSome)=true:=by rfl)
 (h4:(backToKw pos (keywordEach [⟨some "default",f,b⟩] X.env)).any (·.1.isNone)=false:=by rfl)
 (h5:(backToKw pos (keywordEach [⟨some "default",f,b⟩] X.env)).filterMap (·.1)=[("default" : Str)]:=by rfl):Pe X cm (.Call (.Name "max" p) [e] [⟨some "default",f,b⟩] pos) (oh d d'):=
 D7 (Bs g U Y (r_cons he r_nil hs) (yM T yL) h1 h2 h3 h4 h5) λσ H Q s=>by
  obtain⟨ρ,A,j,v,A',rl,J,ev,k⟩:=s;obtain⟨x,L,e1,u⟩:=B0 ev;obtain⟨y,A2,e2,m⟩:=B0 u;refine⟨ρ,A,j,[x],L,rl,J,by show ao _ _ A=_;rw[aB e1];rfl,λw H1 b1 z B C=>⟨w,L,j,y,A2,B,J.mono z,e2,λo N O D h E=>?_⟩⟩;cases C with
  | cons hv hr=>
    cases hr;have G:=hv.mono D;cases x with
    | ref n=>
      obtain⟨l,A3,e3,c⟩:=B0 m;obtain⟨rfl,a,xs,rfl,s,q⟩:=L3 h G e3;cases I:M6 l with
      | none=>rw[I]at c;cases c
      | some ns=>
        rw[I]at c;rw[S9 I]at q;refine⟨a,ns,O,rfl,rfl,by rw[<-b9 q];exact s,?_⟩;cases ns with
        | nil=>cases c;exact k o N O (z.trans D) h E
        | cons i r=>cases c;exact k o N _ (z.trans D) h (.int _)
    | _=>cases m
theorem uc{i:Int}{j:Nat}{pos a:Pos}:Pe X cm (.UnaryOp .USub (.Constant (.int i) j pos) a) (eK (.int (-i))):=
 D7 (yb ye qU) λg H Q b=>by
  obtain⟨c,A,d,v,h,e,l,f,k⟩:=b;cases f;exact⟨i,rfl,k c H _ (aA.refl _ _) e (.int _)⟩
noncomputable def Bu(K:Io):List V->Hp->VK->Prop:=λb H Q=>∃(a:Addr)(i:Int)(r:List Int),b=[.ref a]/\bE K H a ((i::r).map V.int)/\Q (.int (l3 i r)) H
theorem Bv(c:X.calm=true):bh X (.builtin "min") (Bu X.K):=by
 intro k s N H b O Q I r h;obtain⟨a,i,f,rfl,o,q⟩:=h;obtain⟨u,rfl,p⟩:=Y3 r;cases p;obtain⟨w,y,z,T⟩:=I.list o;have l:=S4 y;have m:=z.isList;obtain⟨b,e⟩:=l.allInts.items;have d:(i::f)=b.toList.map (·.1):=by rw[<-l.numsOf,<-nums_intItems,<-e]
 have g:0<b.size:=by
  have A:=congrArg List.length d;simp at A;omega
 rw[e]at m;refine min_intList (I.ok.hd c) m g λv U Y B C=>?_;obtain⟨t,rfl⟩:=intItems_at B;obtain⟨h1,D⟩:=argBest_lt (numAt b) (b.size - 1);have E:numAt b (argBest (λi j=>decide (numAt b i<numAt b j)) (b.size - 1))=l3 i f:=by
  have G:numAt b (argBest (λi j=>decide (numAt b i<numAt b j)) (b.size - 1))∈i::f:=by
   rw[d,numAt_eq];exact getD_mem (by rw[Iq,Ki];omega)
  have J:∀x∈i::f,numAt b (argBest (λi j=>decide (numAt b i<numAt b j)) (b.size - 1))<=x:=by
   intro x n;rw[d]at n;obtain⟨j,L,rfl⟩:=mem_getD n;rw[Iq,Ki]at L;rw[<-numAt_eq];exact D j (by omega)
  have:=(oj i f).2 _ G;have:=J _ (oj i f).1;omega
 rw[E];exact⟨.int _,H,I.kept C,⟨t,rfl⟩,q⟩
theorem Bw{e:Expr}{d:ED}{p pos:Pos}(c:X.calm=true)(he:Pe X cm e d)(o:Gl X "min")(q:X.mg "min" = none)(hs:starEach [e] X.env=(false,eval e X.env)::starEach [] X.env:=by exact D6 rfl):Pe X cm (.Call (.Name "min" p) [e] [] pos) (oi d):=
 D7 (V4 (Bv c) o q rfl (r_cons he r_nil hs) (he:=hs)) λw H Q h=>f7 (λ_=>rfl) (λρ A H x z A' v Q g s j k=>by
  cases x with
  | ref n=>
    obtain⟨l,y,e1,b⟩:=B0 j;obtain⟨rfl,a,B,rfl,u,m⟩:=L3 g s e1;cases f:M6 l with
    | none=>rw[f]at b;cases b
    | some ns=>
      rw[f]at b;cases ns with
      | nil=>cases b
      | cons i r=>
        cases b;rw[S9 f]at m;exact⟨a,i,r,rfl,by rw[<-b9 m];exact u,k ρ H _ (aA.refl _ _) g (.int _)⟩
  | _=>cases j) h
end
end Ws
namespace Ws
open PySem PySem.W PyProof.Rows L2
section
variable{X:Cx}{cm:Nat->Addr}
noncomputable def Bx(K:Io):List V->Hp->VK->Prop:=λc H Q=>∃(a:Addr)(b:List V),c=[.ref a]/\bE K H a b/\∀p,H p=none->Q (.ref p) (aJ H p (.tup b))
theorem By:bh X (.type "tuple") (Bx X.K):=by
 intro d s v H w x Q I r h;obtain⟨a,j,rfl,k,q⟩:=h;obtain⟨u,rfl,l⟩:=Y3 r;cases l;obtain⟨c,f,m,g⟩:=I.list k;have n:=f.length;refine call_tuple_list m.isList (λy p=>?_) (by rw[II,<-n];exact g);have i:=I.kept (t':=s.toks) p;exact⟨.ref _,_,i.laid (o:=.tup j) (λb o e=>Im _ e) (Iw _) ⟨g,c,f,_,IB _ rfl,rfl,_,rfl⟩,rfl,q _ (i.hok.fresh (Iw _))⟩
theorem pK{e:Expr}{d:ED}{p pos:Pos}(he:Pe X cm e d)(r:Gl X "tuple")(s:X.mg "tuple" = none)(b:bootBuiltins "tuple" = some (.type "tuple"))(hs:starEach [e] X.env=(false,eval e X.env)::starEach [] X.env:=by exact D6 rfl):Pe X cm (.Call (.Name "tuple" p) [e] [] pos) (l4 d):=
 D7 (n6 By r s b (r_cons he r_nil hs) (he:=hs)) λy H Q h=>f7 (λ_=>rfl) (λρ A H x z A' v Q i u j k=>by
  cases x with
  | ref n=>
    obtain⟨l,B,e1,f⟩:=B0 j;obtain⟨rfl,a,m,rfl,w,b⟩:=L3 i u e1;obtain⟨c,g⟩:=C7 f;cases g;refine⟨a,m,rfl,w,λp o=>?_⟩;have q:aA ρ H ρ (aJ H p (.tup m)):=aA.same o;exact k ρ _ _ q (i.tup o) (.tup C8 (b.mono q))
  | _=>cases j) h
theorem ud{o e:Expr}{d u:ED}{p f:Pos}(ho:Pe X cm o d)(he:Pe X cm e u)
 (hb:attributeBase o "extend" X.env (eval o X.env)=eval o X.env:=by rfl) (hs:starEach [e] X.env=(false,eval e X.env)::starEach [] X.env:=by exact D6 rfl)
 (hfew:((backTo f (starEach [e] X.env)).all (λx=>!x.1)&&(backToKw f (keywordEach [] X.env)).all (λx=>x.1.isSome)&&decide ([e].length+([]:List MY).length+(if([]:List MY).isEmpty then 0 else 1)<30))=true:=by rfl)
 (hline:(p.endLine == f.line)=true:=by rfl):Pe X cm (.Call (.Attribute o "extend" p) [e] [] f) (lD d u):=
 D7 (se NN PySem.F.slot_list_extend PySem.F.type_list_extend zm ho (r_cons he r_nil hs) (hbase:=hb) (hfew:=hfew) (hline:=hline) (hs:=hs)) λσ H Q hq=>by
  obtain⟨ρ,A,q,v,A',rl,O,ev,k⟩:=hq;obtain⟨x,A1,e1,r⟩:=B0 ev;refine⟨ρ,A,q,x,A1,rl,O,e1,λB H1 v1 T s w=>?_⟩;cases x with
  | ref n=>
    obtain⟨l0,A2,e2,C⟩:=B0 r;obtain⟨rfl,hA,a,xs,rfl,hn,hH,r0⟩:=P7 s w e2;refine⟨.inl ⟨rfl,xs,bE.of hH⟩,?_⟩;obtain⟨y,A3,e3,z⟩:=B0 C;refine⟨B,_,q,[y],A3,s,O.mono T,by show ao _ _ _=_;rw[aB e3];rfl,λD H2 b5 U g E=>?_⟩;cases E with
    | cons hv hr=>
      cases hr;cases y with
      | ref j=>
        obtain⟨l,A4,e4,G⟩:=B0 z;obtain⟨rfl,h,a2,ys,e5,i,I,Y⟩:=P7 g (w.mono U) e4;cases e5;obtain⟨m,A5,e6,J⟩:=B0 G;obtain⟨rfl,c4,b,zs,rfl,d0,L,r3⟩:=P7 g hv e6;obtain⟨c,N⟩:=C7 J;cases N;refine⟨a,b,ys,zs,rfl,rfl,I,L,by rw[<-Y.length,<-r3.length];exact X2 c,?_⟩;refine k D _ _ ((T.trans U).trans (aA.put g i h rfl)) (g.put i h rfl rfl ⟨_,C8,?_⟩) .non;exact(Y.mono (aA.put g i h rfl)).append (r3.mono (aA.put g i h rfl))
      | _=>cases z
  | _=>cases r
end
section
variable{prog:IS}{w:Jp}{A:Ji}{E:Ip->Ir->Prop}{s:Ir}
theorem Bz{it t:Addr}{i:Nat}{a:Array Ip}{x:Ip}{Q:Ip->Ir->Prop}(c:s.heap.IsTupleIter it t i)(h:s.heap.IsTuple t a)(j:a[i]?=some x)
 (k:∀d,d.IsTupleIter it t (i+1)->Kf it s.heap d->Q x { s with heap:=d }):wpAny (model prog w) A (Ld (.ref it)) Q E s:=by
 obtain⟨o,b,l,hd⟩:=id c;obtain⟨m,e,_,n,f⟩:=h;refine Il (Kz c.typeIs KQ (Kx KQ c.typeIs Na ?_ (MT _)));show wpAny _ _ (field _ 0>>=_) _ _ s;refine Il (Jt b hd (x:=.ref t) rfl ?_);refine Il (Jt b hd rfl ?_);refine Il (Ju e f ?_);simp only[NF,j];refine Il (MB b hd (by simp) (Iv ⟨x,rfl,Iv (k _ ⟨_,Jw _ b (LB (Ka hd _)),(Obj.cls_mapFields ..).trans l,by rw[Ka hd];simp[rawInt]⟩ (Kk ..))⟩))
theorem BA{it t:Addr}{i:Nat}{b:Array Ip}{Q:Ip->Ir->Prop}(j:A.handled=none)(c:s.heap.IsTupleIter it t i)(l:s.heap.IsTuple t b)(n:b[i]?=none)
 (p:∀d e,Heap.ExtBut it s.heap d->(∃o,d.get? e=some o/\o.cls=.type "StopIteration")->E (.ref e) { s with heap:=d }):wpAny (model prog w) A (Ld (.ref it)) Q E s:=by
 obtain⟨o,f,q,hd⟩:=id c;obtain⟨r,g,_,u,h⟩:=l;refine Il (Kz c.typeIs KQ (Kx KQ c.typeIs Na ?_ (MT _)));show wpAny _ _ (field _ 0>>=_) _ _ s;refine Il (Jt f hd (x:=.ref t) rfl ?_);refine Il (Jt f hd rfl ?_);refine Il (Ju g h ?_);simp only[NF,n];refine Il (LI (Il (MB f hd (by simp) ?_)));refine Il ?_;refine Il (m:=firstArgMember _ _) (PM (a:=Kq) rfl ?_);refine LH ?_ (by size_fits);refine Il (wpAny_handled ?_);first | rw[show _=none from j] | rw[j]
 refine Il (Iv (wpAny_throw ?_));exact p _ _ (((Kk ..).extBut.push _).push _) ⟨_,IB _ rfl,rfl⟩
def bp(k:Bool)(h:Heap)(it l:Addr)(i:Nat):Prop:=match k with
 | true=>h.IsTupleIter it l i
 | false=>h.IsListIter it l i
def SeqAt(k:Bool)(h:Heap)(l:Addr)(a:Array Ip):Prop:=match k with
 | true=>h.IsTuple l a
 | false=>h.IsList l a
theorem bp.at{k:Bool}{h h':Heap}{it l:Addr}{i:Nat}(x:bp k h it l i)(e:∀o,h.get? it=some o->h'.get? it=some o):bp k h' it l i:=by
 cases k with
 | true=>exact Heap.IsTupleIter.at x e
 | false=>exact Heap.IsListIter.at x e
theorem SeqAt.at{k:Bool}{h h':Heap}{l:Addr}{a:Array Ip}(x:SeqAt k h l a)(e:∀o,h.get? l=some o->h'.get? l=some o):SeqAt k h' l a:=by
 cases k with
 | true=>obtain⟨o,b,c⟩:=x;exact⟨o,e o b,c⟩
 | false=>exact Heap.IsList.at x e
theorem bp.obj{k:Bool}{h:Heap}{it l:Addr}{i:Nat}(x:bp k h it l i):∃o a,h.get? it=some o/\o.data=.fields a:=by
 cases k with
 | _=>obtain⟨o,b,_,c⟩:=x;exact⟨o,_,b,c⟩
theorem SeqAt.lt{k:Bool}{h:Heap}{l:Addr}{a:Array Ip}(x:SeqAt k h l a):l<h.objs.size:=by
 cases k with
 | _=>obtain⟨o,b,_⟩:=x;exact IA b
theorem o0{k:Bool}{it t:Addr}{i:Nat}{a:Array Ip}{x:Ip}{Q:Ip->Ir->Prop}(c:bp k s.heap it t i)(d:SeqAt k s.heap t a)(e:a[i]?=some x)
 (f:∀b,bp k b it t (i+1)->Kf it s.heap b->Q x { s with heap:=b }):wpAny (model prog w) A (Ld (.ref it)) Q E s:=by
 cases k with
 | true=>exact Bz c d e f
 | false=>exact wpAny_nextOf_list_item c d e f
theorem mf{k:Bool}{it t:Addr}{i:Nat}{a:Array Ip}{Q:Ip->Ir->Prop}(c:A.handled=none)(d:bp k s.heap it t i)(f:SeqAt k s.heap t a)(g:a[i]?=none)
 (h:∀b e,Heap.ExtBut it s.heap b->(∃o,b.get? e=some o/\o.cls=.type "StopIteration")->E (.ref e) { s with heap:=b }):wpAny (model prog w) A (Ld (.ref it)) Q E s:=by
 cases k with
 | true=>exact BA c d f g h
 | false=>exact wpAny_nextOf_list_end c d f g h
noncomputable def kz(k:Bool)(l:Addr):Obj:={ cls:=.type (match k with | true=>"tuple_iterator" | false=>"list_iterator"),data:=.fields #[.ref l,.int 0 0] }
theorem ue(k:Bool)(h:Heap)(l:Addr):bp k (h.push (kz k l)) h.objs.size l 0:=by
 cases k with
 | _=>exact⟨_,IB _ rfl,rfl,rfl⟩
theorem uf{k:Bool}{l:Addr}{a:Array Ip}{Q:Ip->Ir->Prop}(b:SeqAt k s.heap l a)(c:Q (.ref s.heap.objs.size) { s with heap:=s.heap.push (kz k l) }):wpAny (model prog w) A (pyIter (.ref l)) Q E s:=by
 cases k with
 | true=>exact Me b c
 | false=>exact Kj b c
def pL(h:Heap)(z TI TO:Addr):Prop:=∃(a:Ip)(e:Bool),(a=.none\/∃T:Addr,a=rawInt T)/\h.get? z=some { cls:=.type "zip",dict:=none,data:=.fields #[a,.bool e,.bool false,.ref TI,.ref TO],slots:=#[] }
abbrev mh(d:Ip)(e:Bool)(TI TO:Addr):Obj:={ cls:=.type "zip",dict:=none,data:=.fields #[d,.bool e,.bool false,.ref TI,.ref TO],slots:=#[] }
structure ft(k1 k2:Bool)(z TI TO i1 i2 l1 l2:Addr)(i:Nat)(h:Heap):Prop where
 zr:pL h z TI TO
 ti:PR h TI (.ref i1) (.ref i2)
 to:∃a b,PR h TO a b
 j1:bp k1 h i1 l1 i
 j2:bp k2 h i2 l2 i
abbrev Kp(z TO a b:Addr)(h h':Heap):Prop:=∀c o,c≠z->c≠TO->c≠a->c≠b->h.get? c=some o->h'.get? c=some o
structure ZA(z TI TO i1 i2 l1 l2:Addr):Prop where
 TIz:TI≠z
 TOz:TO≠z
 i1z:i1≠z
 i2z:i2≠z
 TITO:TI≠TO
 TIi1:TI≠i1
 TIi2:TI≠i2
 TOi1:TO≠i1
 TOi2:TO≠i2
 i12:i1≠i2
 l1z:l1≠z
 l1TO:l1≠TO
 l1i1:l1≠i1
 l1i2:l1≠i2
 l2z:l2≠z
 l2TO:l2≠TO
 l2i1:l2≠i1
 l2i2:l2≠i2
theorem ft.keep{f g:Bool}{z TI TO c d j l2:Addr}{i:Nat}{h h':Heap}(S:ft f g z TI TO c d j l2 i h)(k:∀b∈[z,TI,TO,c,d],∀o,h.get? b=some o->h'.get? b=some o):ft f g z TI TO c d j l2 i h':=by
 obtain⟨⟨l,m,n,p⟩,q,⟨a,b,r⟩,u,v⟩:=S;exact⟨⟨l,m,n,k z (by simp) _ p⟩,k TI (by simp) _ q,⟨a,b,k TO (by simp) _ r⟩,u.at λo e=>k c (by simp) o e,v.at λo e=>k d (by simp) o e⟩
theorem BB{a:Addr}{Q:Option Obj->Ir->Prop}(h:Q (s.heap.get? a) s):wpAny (model prog w) A (loadIfAlive a) Q E s:=λ_ _ _=>h
theorem ug{z TI TO:Addr}{Q:Bool->Ir->Prop}(hz:pL s.heap z TI TO)(h:∀b c d a,c.get? z=some (mh d a TI TO)->(b=false->∃T:Addr,d=rawInt T)->Kf z s.heap c->Q b { s with heap:=c }) :
 wpAny (model prog w) A (Kv.SmallTypes.ownedTupleIsFree (.ref z)) Q E s:=by
 obtain⟨d,a,j,hz⟩:=hz;rcases j with rfl | ⟨T,rfl⟩
 .exact Il (Jt hz rfl rfl (Iv (h true _ _ _ hz (by simp) ⟨rfl,λ_ _=>rfl⟩)))
 .refine Il (Jt hz rfl rfl ?_);refine Il (BB ?_);by_cases i:(s.heap.get? ((T:Int).toNat)).isNone=true
  .rw[if_pos i];exact Iv (h true _ _ _ hz (by simp) ⟨rfl,λ_ _=>rfl⟩)
  .rw[if_neg i];refine Il (Jt hz rfl (x:=.bool a) rfl ?_);cases a with
   | true=>
     exact Iv (h false _ _ _ hz (λ_=>⟨T,rfl⟩) ⟨rfl,λ_ _=>rfl⟩)
   | false=>
     refine Il (Kb hz (by simp) λk e f=>Iv (h false k _ true e (λ_=>⟨T,rfl⟩) f))
theorem BC{k1 k2:Bool}{z TI TO i1 i2 l1 l2:Addr}{k:Nat}{xs ys:Array Ip}{x y:Ip}{Q:Ip->Ir->Prop}(D:ZA z TI TO i1 i2 l1 l2)(S:ft k1 k2 z TI TO i1 i2 l1 l2 k s.heap)
 (e1:SeqAt k1 s.heap l1 xs) (e2:SeqAt k2 s.heap l2 ys) (hx:xs[k]?=some x) (hy:ys[k]?=some y)
 (hQ:∀h',ft k1 k2 z TI TO i1 i2 l1 l2 (k+1) h'->PR h' s.heap.objs.size x y->Kp z TO i1 i2 s.heap h'->Q (.ref s.heap.objs.size) { s with heap:=h' }) :
 wpAny (model prog w) A (Kv.«zip.__next__» ⟨[.ref z],[]⟩) (λfin s'=>∃v,fin=.done (.ret v)/\Q v s') E s:=by
 obtain⟨hz,a2,⟨a,b,e3⟩,h1,h2⟩:=S;obtain⟨g0,g1,_,b4⟩:=id hz;show wpAny _ _ (field _ 2>>=_) _ _ _;refine Il (Jt b4 rfl (x:=.bool false) rfl ?_);refine Il (Jt b4 rfl rfl ?_);refine Il (Ju a2 rfl ?_);refine Il (ug hz λfr h0 f0 f1 a3 e4 m=>?_);have a0:=m.extBut _ _ D.TOz e3;have j1:=h1.at λo e=>m.extBut _ _ D.i1z e;have j2:=h2.at λo e=>m.extBut _ _ D.i2z e;have q1:=e1.at λo e=>m.extBut _ _ D.l1z e;have q2:=e2.at λo e=>m.extBut _ _ D.l2z e;cases fr with
 | true=>
   simp only[if_true];refine Il (LI ?_);refine Il (Jt a3 rfl rfl ?_);refine Il (Kb a3 (by simp) λb5 p g=>?_);replace p:b5.get? z=some _:=p;refine Il ?_;simp only[List.zipIdx_cons,List.zipIdx_nil,List.forIn_cons,List.forIn_nil];refine Il (Il (NO ?_));refine Il (o0 (j1.at λo e=>g.extBut _ _ D.i1z e) (q1.at λo e=>g.extBut _ _ D.l1z e) hx λb6 q d=>Iv ?_);have C:=d.extBut _ _ D.TOi1 (g.extBut _ _ D.TOz a0);refine Il (Ju C rfl ?_);refine Il (MP C λb7 n h=>?_);replace n:PR b7 TO x b:=n;refine Il (Lc (Iv ?_));refine Il (Il (NO ?_));refine Il (o0 (j2.at λo e=>h.extBut _ _ D.TOi2.symm (d.extBut _ _ D.i12.symm (g.extBut _ _ D.i2z e))) (q2.at λo e=>h.extBut _ _ D.l2TO (d.extBut _ _ D.l2i1 (g.extBut _ _ D.l2z e))) hy λG r f=>Iv ?_);have H:=f.extBut _ _ D.TOi2 n;refine Il (Ju H rfl ?_);refine Il (MP H λl i j=>?_);replace i:PR l TO x y:=i;refine Il (Lc (Iv (Iv ?_)));refine Il (Ju i rfl ?_);have a4:l.objs.size=s.heap.objs.size:=by rw[j.1,f.1,h.1,d.1,g.1,m.1]
   have J:=j.extBut _ _ D.TOz.symm (f.extBut _ _ D.i2z.symm (h.extBut _ _ D.TOz.symm (d.extBut _ _ D.i1z.symm p)));have L:Kp z TO i1 i2 _ l:=λc o I c2 c3 c4 e=>
    j.extBut _ _ c2 (f.extBut _ _ c4 (h.extBut _ _ c2 (d.extBut _ _ c3 (g.extBut _ _ I (m.extBut _ _ I e)))))
   have a8:=q.at λo e=>j.extBut _ _ D.TOi1.symm (f.extBut _ _ D.i12 (h.extBut _ _ D.TOi1.symm e));have a9:=r.at λo e=>j.extBut _ _ D.TOi2.symm e;have a1:=IA J;show wpAny _ _ (Kv.SmallTypes.ownedTupleHandOut (.ref z) (.ref l.objs.size)>>=_) _ _ _;refine Il ?_;have b0:(l.push { cls:=.type "tuple",data:=.seq #[x,y] }).get? z=some _:=Im _ J;refine Il (Kb b0 (by simp) λc0 u N=>?_);replace u:c0.get? z=some (mh _ f1 TI TO):=u;refine Kb u (by simp) λO B U=>?_;replace B:O.get? z=some _:=B;have up:∀c o,c≠z->l.get? c=some o->O.get? c=some o:=λc o I e=>U.extBut _ _ I (N.extBut _ _ I (Im _ e));have Y:=U.extBut _ _ (Kg a1) (N.extBut _ _ (Kg a1) (IB _ rfl));refine Iv ⟨_,rfl,?_⟩;rw[a4]at Y ⊢;exact hQ O ⟨⟨_,_,.inr ⟨_,rfl⟩,B⟩,up _ _ D.TIz (L _ _ D.TIz D.TITO D.TIi1 D.TIi2 a2),⟨_,_,up _ _ D.TOz i⟩,a8.at λo e=>up _ o D.i1z e,a9.at λo e=>up _ o D.i2z e⟩ Y λc o I c2 c3 c4 e=>up c o I (L c o I c2 c3 c4 e)
 | false=>
   obtain⟨T,hT⟩:=e4 rfl;refine Il ?_;refine Il (Il (Js ?_));refine Il (o0 j1 q1 hx λb6 q d=>Iv (Iv ?_));refine Il (Il (Js ?_));refine Il (o0 (j2.at λo e=>d.extBut _ _ D.i12.symm e) (q2.at λo e=>d.extBut _ _ D.l2i1 e) hy λG r f=>Iv (Iv (Iv ?_)));refine Il (wpAny_newTuple ?_ (by show 2<=sizeLine;decide));have a4:G.objs.size=s.heap.objs.size:=by rw[f.1,d.1,m.1]
   refine Iv ⟨_,rfl,?_⟩;have hk:Kp z TO i1 i2 _ G:=λc o I c2 c3 c4 e=>f.extBut _ _ c4 (d.extBut _ _ c3 (m.extBut _ _ I e));have b1:=f.extBut _ _ D.i2z.symm (d.extBut _ _ D.i1z.symm a3);have hp:PR _ G.objs.size x y:=IB _ rfl;rw[a4]at hp ⊢;refine hQ _ ⟨⟨_,_,.inr ⟨T,hT⟩,Im _ b1⟩,Im _ (hk _ _ D.TIz D.TITO D.TIi1 D.TIi2 a2),⟨a,b,Im _ (f.extBut _ _ D.TOi2 (d.extBut _ _ D.TOi1 a0))⟩,
    q.at λo e=>Im _ (f.extBut _ _ D.i12 e),r.at λo e=>Im _ e⟩ hp λc o I c2 c3 c4 e=>Im _ (hk c o I c2 c3 c4 e)
theorem BD{k1 k2:Bool}{z TI TO i1 i2 l1 l2:Addr}{k:Nat}{xs ys:Array Ip}{Q:Fin->Ir->Prop}(hh:A.handled=none)(D:ZA z TI TO i1 i2 l1 l2)(S:ft k1 k2 z TI TO i1 i2 l1 l2 k s.heap)
 (b1:SeqAt k1 s.heap l1 xs) (b2:SeqAt k2 s.heap l2 ys) (B:xs[k]?=none\/ys[k]?=none)
 (hE:∀h' e,Kp z TO i1 i2 s.heap h'->(∃o,h'.get? e=some o/\o.cls=.type "StopIteration")->E (.ref e) { s with heap:=h' }) :
 wpAny (model prog w) A (Kv.«zip.__next__» ⟨[.ref z],[]⟩) Q E s:=by
 obtain⟨hz,b4,⟨a,b,b5⟩,h1,h2⟩:=S;obtain⟨g0,g1,_,O⟩:=id hz;show wpAny _ _ (field _ 2>>=_) _ _ _;refine Il (Jt O rfl (x:=.bool false) rfl ?_);refine Il (Jt O rfl rfl ?_);refine Il (Ju b4 rfl ?_);refine Il (ug hz λfr h0 f0 f1 T e6 i=>?_);have U:=i.extBut _ _ D.TOz b5;have j1:=h1.at λo e=>i.extBut _ _ D.i1z e;have j2:=h2.at λo e=>i.extBut _ _ D.i2z e;have q1:=b1.at λo e=>i.extBut _ _ D.l1z e;have q2:=b2.at λo e=>i.extBut _ _ D.l2z e;cases fr with
 | true=>
   simp only[if_true];refine Il (LI ?_);refine Il (Jt T rfl rfl ?_);refine Il (Kb T (by simp) λY j f=>?_);replace j:Y.get? z=some (mh .ellipsis f1 TI TO):=j;refine Il ?_;simp only[List.zipIdx_cons,List.zipIdx_nil,List.forIn_cons,List.forIn_nil];refine Il (Il (NO ?_));cases H:xs[k]? with
   | none=>
     refine Il (mf hh (j1.at λo e=>f.extBut _ _ D.i1z e) (q1.at λo e=>f.extBut _ _ D.l1z e) H λn e d I=>?_);obtain⟨oe,m,q⟩:=I;have r:=d _ _ D.i1z.symm j;have J:e≠z:=λx=>by subst x;rw[r]at m;cases m;simp at q
     refine Kb r (by simp) λC _ g=>hE C e (λc o u _ L _ x=>g.extBut _ _ u (d _ _ L (f.extBut _ _ u (i.extBut _ _ u x)))) ⟨oe,g.extBut _ _ J m,q⟩
   | some x=>
     have hy:ys[k]?=none:=by rcases B with h | h;· rw[H]at h;cases h
                             .exact h
     refine Il (o0 (j1.at λo e=>f.extBut _ _ D.i1z e) (q1.at λo e=>f.extBut _ _ D.l1z e) H λn N d=>Iv ?_);have p:=d.extBut _ _ D.TOi1 (f.extBut _ _ D.TOz U);refine Il (Ju p rfl ?_);refine Il (MP p λC a7 g=>?_);refine Il (Lc (Iv ?_));refine Il (Il (NO ?_));refine Il (mf hh (j2.at λo e=>g.extBut _ _ D.TOi2.symm (d.extBut _ _ D.i12.symm (f.extBut _ _ D.i2z e))) (q2.at λo e=>g.extBut _ _ D.l2TO (d.extBut _ _ D.l2i1 (f.extBut _ _ D.l2z e))) hy λG e l I=>?_);obtain⟨oe,m,q⟩:=I;have v:=l _ _ D.i2z.symm (g.extBut _ _ D.TOz.symm (d.extBut _ _ D.i1z.symm j));have J:e≠z:=λx=>by subst x;rw[v]at m;cases m;simp at q
     refine Kb v (by simp) λa0 _ y=>hE a0 e (λc o u c2 L c4 x=>y.extBut _ _ u (l _ _ c4 (g.extBut _ _ c2 (d.extBut _ _ L (f.extBut _ _ u (i.extBut _ _ u x)))))) ⟨oe,y.extBut _ _ J m,q⟩
 | false=>
   refine Il ?_;refine Il (Il (Js ?_));cases H:xs[k]? with
   | none=>exact Il (mf hh j1 q1 H λn e d I=>hE n e (λc o u _ L _ x=>d _ _ L (i.extBut _ _ u x)) I)
   | some x=>
     have hy:ys[k]?=none:=by rcases B with h | h;· rw[H]at h;cases h
                             .exact h
     refine Il (o0 j1 q1 H λn N d=>Iv (Iv ?_));refine Il (Il (Js ?_));exact Il (mf hh (j2.at λo e=>d.extBut _ _ D.i12.symm e) (q2.at λo e=>d.extBut _ _ D.l2i1 e) hy λG e l I=>hE G e (λc o u _ L c4 x=>l _ _ c4 (d.extBut _ _ L (i.extBut _ _ u x))) I)
theorem BE{e f:Bool}{z TI TO b c d l2:Addr}{k:Nat}{j l:Array Ip}{x y:Ip}{Q:Option Ip->Ir->Prop}(D:ZA z TI TO b c d l2)(S:ft e f z TI TO b c d l2 k s.heap)
 (g:SeqAt e s.heap d j) (i:SeqAt f s.heap l2 l) (o:j[k]?=some x) (p:l[k]?=some y)
 (q:∀a,ft e f z TI TO b c d l2 (k+1) a->PR a s.heap.objs.size x y->Kp z TO b c s.heap a->Q (some (.ref s.heap.objs.size)) { s with heap:=a }) :
 wpAny (model prog w) A (pyNext (.ref z)) Q E s:=by
 have n:s.TypeIs (.ref z) "zip":=by obtain⟨_,_,_,h⟩:=S.zr;exact⟨_,h,rfl⟩
 refine Il (wpAny_attempt (Kz n Mn (Kx Mn n F.entry_zip_next (BC D S g i o p λa r u v=>Iv (q a r u v)) (F.args_zip_next_1 _))))
theorem BF{j l:Bool}{z TI TO b c d l2:Addr}{k:Nat}{m n:Array Ip}{Q:Option Ip->Ir->Prop}(r:A.handled=none)(D:ZA z TI TO b c d l2)(S:ft j l z TI TO b c d l2 k s.heap)
 (f:SeqAt j s.heap d m) (g:SeqAt l s.heap l2 n) (a:m[k]?=none\/n[k]?=none) (u:∀i,Kp z TO b c s.heap i->Q none { s with heap:=i }) :
 wpAny (model prog w) A (pyNext (.ref z)) Q E s:=by
 have q:s.TypeIs (.ref z) "zip":=by obtain⟨_,_,_,h⟩:=S.zr;exact⟨_,h,rfl⟩
 refine Il (wpAny_attempt (Kz q Mn (Kx Mn q F.entry_zip_next (BD r D S f g a λi e v x=>?_) (F.args_zip_next_1 _))));obtain⟨o,y,B⟩:=x;exact Il (wpAny_isInstance ⟨o,y,B⟩ isSubtype_stop (Iv (u _ v)))
theorem BG{q r:Bool}{g:Expr}{z TI TO h i j l2 T:Addr}{k:Nat}{Q:Unit->Ir->Prop}(H:∀u p,g≠.List u p)(D:ZA z TI TO h i j l2)(S:ft q r z TI TO h i j l2 k s.heap)
 (v:∀f,ft q r z TI TO h i j l2 k f->Kf z s.heap f->Q () { s with heap:=f }) :
 wpAny (model prog w) A (letOwnedTupleGo g (.ref z) (.ref T)) Q E s:=by
 have y:=v _ S ⟨rfl,λ_ _=>rfl⟩;cases g with
 | Tuple B N pos=>
   obtain⟨⟨I,C,O,G⟩,l,⟨a,b,m⟩,J,L⟩:=S;refine Il (wpAny_load G ?_);by_cases c:(["enumerate","zip","dict_itemiterator","dict_reverseitemiterator","odict_iterator","itertools.zip_longest","itertools.pairwise"].contains "zip"&&(#[I,.bool C,.bool false,.ref TI,.ref TO])[0]? == some (rawInt T))=true
   .show wpAny _ _ (if _ then _ else _) Q E s;rw[if_pos c];refine Kb G (by simp) λf n d=>v f ⟨⟨.none,C,.inl rfl,n⟩,d.extBut _ _ D.TIz l,⟨a,b,d.extBut _ _ D.TOz m⟩,J.at λo e=>d.extBut _ _ D.i1z e,L.at λo e=>d.extBut _ _ D.i2z e⟩ d
   .show wpAny _ _ (if _ then _ else _) Q E s;rw[if_neg c];exact Iv y
 | List u p=>exact absurd rfl (H _ _)
 | _=>exact Iv y
theorem uh{z TI TO:Addr}{Q:Ip->Ir->Prop}(hz:pL s.heap z TI TO)(h:Q (.ref z) s):wpAny (model prog w) A (pyIter (.ref z)) Q E s:=by
 have a:s.TypeIs (.ref z) "zip":=by obtain⟨_,_,_,h⟩:=hz;exact⟨_,h,rfl⟩
 refine wpAny_pyIter_slot a F.slot_zip_iter (Kx F.slot_zip_iter a F.entry_zip_iter ?_ (F.args_zip_iter_1 _));exact Iv ⟨_,rfl,"zip",_,a,Mn.lookup,h⟩
end
section
variable{X:Cx}{cm:Nat->Addr}
theorem jA{k:Bool}{c:List (Addr×Obj)}{σ:L2.St}{H:Hp}{s:Ir}{a:Addr}{d:List V}(I:L2.Inv X c σ H s)(h:fk k X.K H a d):∃b:List Ip,aF d b/\SeqAt k s.heap a b.toArray:=by
 cases k with
 | true=>obtain⟨b,r,p,_⟩:=I.tuple h;exact⟨b,r,p⟩
 | false=>obtain⟨b,r,p,_⟩:=I.list h;exact⟨b,r,p.isList⟩
theorem ui{k:Bool}{b:List (Addr×Obj)}{σ:L2.St}{H:Hp}{s:Ir}{a:Addr}{c d:List V}(I:L2.Inv X b σ H s)(h:fk k X.K H a c)(h':fk k X.K H a d):c=d:=by
 cases k with
 | true=>exact I.tuple_inj h h'
 | false=>exact I.list_inj h h'
end
theorem BH{P:IS}{w:Jp}{K:Io}{tg:Expr}(ht:∀es p,tg≠.List es p)(k1 k2:Bool)(a b z TI TO i1 i2:Addr)(D:ZA z TI TO i1 i2 a b) :
 iH P w K tg (oV K k1 k2 a b) [z,TI,TO,i1,i2] z (λi h=>ft k1 k2 z TI TO i1 i2 a b i h) where
 mem:=by simp
 obj:=λi h S c hc=>by
  obtain⟨⟨f0,f1,_,hz⟩,ti,⟨x,y,to⟩,j1,j2⟩:=S;simp only[IF,Jl,or_false]at hc;rcases hc with rfl | rfl | rfl | rfl | rfl
  .exact⟨_,hz,λv z=>by cases z⟩
  .exact⟨_,ti,λv z=>by cases z⟩
  .exact⟨_,to,λv z=>by cases z⟩
  .obtain⟨o,vs,h1,h2⟩:=j1.obj;exact⟨o,h1,λv z=>by rw[h2]at z;cases z⟩
  .obtain⟨o,vs,h1,h2⟩:=j2.obj;exact⟨o,h1,λv z=>by rw[h2]at z;cases z⟩
 keep:=λi h h' S k=>S.keep k
 item:=by
  intro X hP hw hK hc i pins s σ H E I hf S hg;subst hP hw hK;obtain⟨xs,ys,x,y,hq1,hq2,hx,hy⟩:=hg;obtain⟨its1,r1,p1⟩:=jA I hq1;obtain⟨its2,r2,p2⟩:=jA I hq2;obtain⟨u,hu,ru⟩:=r1.get hx;obtain⟨v,hv,rv⟩:=r2.get hy;refine BE D S p1 p2 (by simpa using hu) (by simpa using hv) λh' S' hT hk=>?_;refine⟨.ref _,rfl,BG ht D S' λh2 S2 hs2=>?_⟩;have zlt:z<s.heap.objs.size:=by obtain⟨_,_,_,e⟩:=S.zr;exact IA e
  have I2:L2.Inv X pins σ (aJ H s.heap.objs.size (.tup [x,y])) { s with heap:=h2 }:=by
   refine tD I hf (λb u hb q=>?_) (Iw _) ?_
   .have n1:b≠z:=λe=>hb (by simp[e]);exact hs2.extBut _ _ n1 (hk b u n1 (λe=>hb (by simp[e])) (λe=>hb (by simp[e])) (λe=>hb (by simp[e])) q)
   .exact⟨by show 2<=sizeLine;decide,[u,v],.cons ru (.cons rv .nil),_,hs2.extBut _ _ (Kg zlt) hT,rfl,_,rfl⟩
  refine⟨.ref _,aJ H _ _,I2,rfl,⟨x,y,_,λzs hz=>by rw[ui I hz hq1];exact hx,λzs hz=>by rw[ui I hz hq2];exact hy,I.hok.fresh (Iw _),rfl,rfl⟩,S2,λb hb=>?_⟩;rw[ak]
  .exact(hf b hb).1
  .intro e;subst e;have:∃o,s.heap.get? s.heap.objs.size=some o:=by
    obtain⟨⟨f0,f1,_,hz⟩,ti,⟨x,y,to⟩,j1,j2⟩:=S;simp only[IF,Jl,or_false]at hb;rcases hb with e | e | e | e | e
    .rw[e];exact⟨_,hz⟩
    .rw[e];exact⟨_,ti⟩
    .rw[e];exact⟨_,to⟩
    .rw[e];obtain⟨o,vs,h1,h2⟩:=j1.obj;exact⟨o,h1⟩
    .rw[e];obtain⟨o,vs,h1,h2⟩:=j2.obj;exact⟨o,h1⟩
   obtain⟨o,ho⟩:=this;exact absurd (IA ho) (JJ _)
 done:=by
  intro X hP hw hK hc i pins s σ H E I hf S hg;subst hP hw hK;obtain⟨xs,ys,hq1,hq2,hx⟩:=hg;obtain⟨its1,r1,p1⟩:=jA I hq1;obtain⟨its2,r2,p2⟩:=jA I hq2;have l1:=r1.length;have l2:=r2.length;refine BF (I.ok.hd hc) D S p1 p2 ?_ λh' hk=>⟨rfl,tE I hf λb u hb q=>hk b u (λe=>hb (by simp[e])) (λe=>hb (by simp[e])) (λe=>hb (by simp[e])) (λe=>hb (by simp[e])) q⟩;rcases hx with hx | hx
  .left;simp;omega
  .right;simp;omega
 self:=λ_ _ _ _ _ S h=>uh S.zr h
abbrev mi(a:Bool)(h:Heap)(b:Addr):Heap:=h.push (kz a b)
abbrev mj(a b:Bool)(h:Heap)(c l2:Addr):Heap:=(mi a h c).push (kz b l2)
abbrev ml(a d:Bool)(h:Heap)(b l2:Addr):Heap:=(mj a d h b l2).push { cls:=.type "tuple",data:=.seq #[.ref h.objs.size,.ref (mi a h b).objs.size] }
abbrev mq(b c:Bool)(h:Heap)(d l2:Addr):Heap:=(ml b c h d l2).push { cls:=.type "tuple",data:=.seq #[.none,.none] }
abbrev jB(a b:Bool)(h:Heap)(c l2:Addr):Heap:=(mq a b h c l2).push (mh .none false (mj a b h c l2).objs.size (ml a b h c l2).objs.size)
theorem BI(b c:Bool)(a l2:Addr)(l m:Array Ip) :
 Meets (Kv.«zip.__new__» ⟨[.type "zip",.ref a,.ref l2],[]⟩) (λ_ R s=>SeqAt b s.heap a l/\SeqAt c s.heap l2 m/\R (.ok (.ret (.ref (mq b c s.heap a l2).objs.size))) { s with heap:=jB b c s.heap a l2 }):=
 .of_wp λp w A R s h=>by
  obtain⟨q,g,d,r,os⟩:=s;obtain⟨f,i,h⟩:=h;have u:=sub_zip;have j:SeqAt b (Ir.heap ⟨q,g,d,r,os⟩) a l:=f;have k:SeqAt c (Ir.heap ⟨q.push (kz b a),g,d,r,os⟩) l2 m:=i.at λo e=>Im _ e
  wp_walk using uf j,uf k
  exact⟨_,rfl,h⟩
section
variable{prog:IS}{w:Jp}{A:Ji}{E:Ip->Ir->Prop}{s:Ir}
theorem BJ{b d:Bool}{a l2:Addr}{n p:Array Ip}{Q:Ip->Ir->Prop}(f:SeqAt b s.heap a n)(g:SeqAt d s.heap l2 p)
 (h:∀i,ft b d (s.heap.objs.size+4) (s.heap.objs.size+2) (s.heap.objs.size+3) s.heap.objs.size (s.heap.objs.size+1) a l2 0 i->(∀c o,s.heap.get? c=some o->i.get? c=some o)->Q (.ref (s.heap.objs.size+4)) { s with heap:=i }) :
 wpAny (model prog w) A (call (.type "zip") [.ref a,.ref l2]) Q E s:=by
 refine callType_new F.called_zip rfl (F.typeCall_zip_2 _ _) (F.newCall_zip_2 _ _) (λobj=>F.args_object_init_3 obj _ _) F.entry_zip_new (BI b d a l2 n p) ⟨f,g,?_⟩;have j:(mi b s.heap a).objs.size=_+1:=JG ..;have k:(mj b d s.heap a l2).objs.size=s.heap.objs.size+2:=by rw[JG,j]
 have l:(ml b d s.heap a l2).objs.size=s.heap.objs.size+3:=by rw[JG,k]
 have r:(mq b d s.heap a l2).objs.size=s.heap.objs.size+4:=by rw[JG,l]
 have m:(jB b d _ a l2).get? (mq b d s.heap a l2).objs.size=some _:=IB _ rfl;have u:(jB b d _ a l2).get? (ml b d s.heap a l2).objs.size=some _:=Im _ (IB _ rfl);have v:(jB b d _ a l2).get? (mj b d s.heap a l2).objs.size=some _:=Im _ (Im _ (IB _ rfl));have y:bp d (jB b d _ a l2) (mi b s.heap a).objs.size l2 0:=(ue d _ l2).at λo e=>Im _ (Im _ (Im _ e));have z:bp b (jB b d _ a l2) _ a 0:=(ue b s.heap a).at λo e=>Im _ (Im _ (Im _ (Im _ e)));rw[k,l,r]at m;rw[j,k]at v;rw[l]at u;rw[j]at y;rw[r];exact⟨⟨_,m,rfl⟩,h _ ⟨⟨_,_,.inl rfl,m⟩,v,⟨_,_,u⟩,z,y⟩ λc o x=>Im _ (Im _ (Im _ (Im _ (Im _ x))))⟩
end
section
variable{X:Cx}{cm:Nat->Addr}
theorem il{a b U:Expr}{d e:ED}{p pos:Pos}(ht:∀es p,U≠.List es p)(hg:Gl X "zip")(hm:X.mg "zip" = none)(ha:Pe X cm a d)(hb:Pe X cm b e)
 (hs:starEach [a,b] X.env=(false,eval a X.env)::starEach [b] X.env:=by exact D6 rfl) (n:starEach [b] X.env=(false,eval b X.env)::starEach [] X.env:=by exact D6 rfl):L2.PI X U (.Call (.Name "zip" p) [a,b] [] pos) (gF X.K cm (lF d e)):=by
 intro o s σ H R I h;obtain⟨ρ,A,C,J,A',rl,rs,ev,k⟩:=h;obtain⟨x,Y,e1,D⟩:=B0 ev;obtain⟨y,A2,e2,E⟩:=B0 D;refine Call_ (V9 I hg hm (show bootBuiltins "zip" = some _ from by rfl) (callWith_type1 (aQ ((r_cons ha (r_cons hb r_nil n) hs) pos o s σ H (λvs f=>∃a z b B,vs=[.ref a,.ref b]/\fk (kindOf x) X.K f a z/\fk (kindOf y) X.K f b B/\R (oV X.K (kindOf x) (kindOf y) a b) f) I ⟨ρ,A,C,[x,y],A2,rl,rs,by show ao _ _ A=_;rw[aB e1];show ao (ao _ _) _ Y=_;rw[aB (show ao _ _ Y=.ok [y] A2 by rw[aB e2];rfl)];rfl,λG f c4 x1 g L=>?_⟩) λus i zq=>?_) hs (by rw[n];rfl)))
 .cases L with
  | cons hv hr=>
    cases hr with
    | cons u N=>
      cases N;obtain⟨l,A3,e3,O⟩:=B0 E;obtain⟨rfl,a,z,rfl,Q,r⟩:=Z9 g hv e3;obtain⟨m,A4,e4,T⟩:=B0 O;obtain⟨rfl,b,B,rfl,j,r2⟩:=Z9 g u e4;cases T;exact⟨a,z,b,B,rfl,Q,j,k G f _ x1 g ⟨a,b,hv,u,rfl⟩⟩
 .obtain⟨vs,f,v,r1,q1⟩:=zq;obtain⟨a,z,b,B,rfl,Q,j,q⟩:=q1;cases r1 with
  | cons h1 t1=>
    cases t1 with
    | cons h2 t2=>
      cases t2;cases h1;cases h2;obtain⟨a4,r1,p1⟩:=jA v Q;obtain⟨a5,r2,p2⟩:=jA v j;refine BJ p1 p2 λh' S kp=>?_;refine uh S.zr ?_;have I2:=v.kept (t':=i.toks) kp;have la:=p1.lt;have lb:=p2.lt;refine⟨i.heap.objs.size+4,[i.heap.objs.size+4,i.heap.objs.size+2,i.heap.objs.size+3,_,i.heap.objs.size+1],_,_,f,rfl,I2,BH ht _ _ a b _ _ _ _ _ ?_,S,λc hc=>?_,q⟩
      .have la:@LT.lt Nat _ a _:=la;have lb:@LT.lt Nat _ b _:=lb;constructor<;>first | exact IH (by omega) | exact Kg (by simp)
      .have w:i.heap.objs.size<=c:=by
        simp only[IF,Jl,or_false]at hc;rcases hc with rfl | rfl | rfl | rfl | rfl
        .simp
        .simp
        .simp
        .simp
        .simp
       exact v.fpOk w (v.hok.fresh w)
end
abbrev fV(led:Bool):Obj:={ cls:=.type "set",dict:=none,data:=.set #[] 0 (.fresh 0 0 led) }
section
variable{prog:IS}{w:Jp}{A:Ji}{E:Ip->Ir->Prop}{s:Ir}
set_option maxHeartbeats 3200000 in
theorem BK{l:Addr}{a:Array Ip}{ns:List Int}{Q:Ip->Ir->Prop}(hh:A.handled=none)(hl:s.heap.IsTuple l a)(hi:LZ a.toList ns)(J:a.size+1<scanBound)
 (h:∀(h':Heap)(L:Nat),h'.SetOf (intKind prog w) s.heap.objs.size (λO=>(firstMet (λi=>ns.getD i 0) a.size).any (·== O)) (firstMet (λi=>ns.getD i 0) a.size).length->(∀b o,b<s.heap.objs.size->s.heap.get? b=some o->h'.get? b=some o)->Q (.ref s.heap.objs.size) { s with heap:=h',toks:=L }) :
 wpAny (model prog w) A (call (.type "set") [.ref l]) Q E s:=by
 obtain⟨c,tl,a9⟩:=Kc.mro;have T:=Kc.made;have b0:=Kc.sub;refine Ma (codeAny_of_tree ?_);show wpAny _ _ (callAny (.type "set") _) _ _ _;refine Iv ⟨Nn _ (by decide +kernel),Ko PySem.F.entry_type_call ?_⟩;rw[Ji.under_plain (weight_type_call_type "set" [.ref l] []) rfl];have h1:=Kc.notType;have h2:=Kc.canCreate;have c2:=PySem.F.typeCall_set_1 (.ref l);repeat (any_goals (first | assumption | wp_step))
 refine KW (code_set_new_1 (.ref l) (E:=E) (Q₁:=λobj j=>∃led:Bool,obj=.ref s.heap.objs.size/\j={ s with heap:=s.heap.push (fV led) }) λled=>⟨led,rfl,rfl⟩) λr j U=>?_;cases r with
 | error e=>exact U
 | ok fl=>
   cases fl with
   | ret obj=>
     obtain⟨led,rfl,rfl⟩:=U;have hS:(s.heap.push (fV led)).get? s.heap.objs.size=some (fV led):=IB _ rfl;have hT:MU { s with heap:=s.heap.push (fV led) } (.ref s.heap.objs.size) "set":=⟨_,hS,rfl⟩;have c5:=Kc.init.lookup;have d0:=Kc.init.bind (.ref s.heap.objs.size);repeat (any_goals (first | assumption | wp_step))
     refine KW (MO (R:=wants (λr k=>r=.none/\∃h' L,k={ s with heap:=h',toks:=L }/\
      h'.SetOf (intKind prog w) s.heap.objs.size (λO=>(firstMet (λi=>ns.getD i 0) a.size).any (·== O)) (firstMet (λi=>ns.getD i 0) a.size).length/\
      (∀b o,b<s.heap.objs.size->s.heap.get? b=some o->h'.get? b=some o)) E) Kc.init.plain PySem.F.entry_set_init (check_set_init_1 hT ?_)) λu k d=>?_
     .obtain⟨ol,x,y,nl,hdl⟩:=hl;obtain⟨b3,m,Y,g⟩:=ol;simp only at y hdl;subst y;subst hdl;have z:(s.heap.push (fV led)).get? l=some { cls:=.type "tuple",dict:=m,data:=.seq a nl,slots:=g }:=Im _ x;have b5:=PySem.F.sub_tuple_set;have b6:=PySem.F.sub_tuple_frozenset;have d2:(JC "tuple" == JC "dict")=false:=by decide
      have C:(s.heap.push (fV led)).IsTuple l a:=⟨_,z,rfl,nl,rfl⟩;unfold Kv.«set.__init__» noKeywords Kv.Frozenset.updateFrom;generalize a1:pyIter=PI
      wp_walk
      subst a1;refine Me C ?_;refine Il (wpAny_runValue ?_);have D:l<s.heap.objs.size:=IA x;have a2:A.in1.in1.in1.handled=none:=by simp[hh]
      have G:l≠(s.heap.push (fV led)).objs.size:=by
       rw[JG];exact IH (Li D)
      have a3:s.heap.objs.size∉[(s.heap.push (fV led)).objs.size,l]:=by
       rw[JG];simp only[IF,Iy,Jl,or_false,not_or];exact⟨IH (JH _),Kg D⟩
      have H:∀(i:Nat)(v:Ip),a[i]?=some v->∃t,v=.int ((λi=>ns.getD i 0) i) t:=λi v hv=>LZ.int_at hi i v (by rw[Ot];exact hv);refine codeAny_set_update_loopS ((PN.tuple a2 _ l G a).toS) s.heap.objs.size a3 (λi=>ns.getD i 0) H J (a.size - 0) 0 _ (by omega) (Lx _)
       ⟨⟨_,IB _ rfl,rfl,rfl⟩,(C.push _)⟩ ?hS0 ?hR
      case hS0=>
       have I:((s.heap.push (fV led)).push { cls:=.type "tuple_iterator",data:=.fields #[.ref l,.int 0 0] }).get? s.heap.objs.size=some (fV led):=Im _ hS;exact SetOf_congr ((setObjOf_fresh (knd:=intKind prog w) led).setOf I (by unfold scanBound;omega)) (λ_=>rfl) rfl
      case hR=>
       intro s' N n;obtain⟨h',g',d',a4,a5⟩:=s';have eg:g'=s.gens:=N.gens;have ed:d'=s.drawn:=N.drawn;have eo:a5=s.os:=N.os;subst eg;subst ed;subst eo;show wpAny _ _ _ _ _ _;refine Iv ?_;show wpAny _ _ (PySem.ret Kq) _ _ _;refine Iv ⟨rfl,h',a4,rfl,n,λb o J e=>?_⟩;have a6:b≠s.heap.objs.size:=IH J;have a7:b≠(s.heap.push (fV led)).objs.size:=by
        rw[JG];exact IH (Li J)
       exact N.heap b o (by simp only[IF,Iy,Jl,or_false,not_or];exact⟨a6,a7⟩) (Im _ (Im _ e))
     .cases u with
      | error e=>exact d
      | ok p=>
        cases p with
        | ret r=>
          obtain⟨rfl,h',L,rfl,n,a8⟩:=d;repeat (any_goals (first | assumption | wp_step))
          exact h _ _ n a8
        | _=>exact d.elim
   | _=>exact U.elim
end
theorem BL(ns:List Int):(firstMet (λi=>ns.getD i 0) ns.length).length=gn ns:=by
 unfold firstMet gn;have e:(Jj ns.length).map (λi=>ns.getD i 0)=ns:=by
  refine List.ext_getElem? λk=>?_;rw[Jc];by_cases a:k<ns.length
  .simp[a]
  .simp[a]
 rw[e];rfl
section
variable{X:Cx}{cm:Nat->Addr}
theorem BM{e:Expr}{d:ED}{p1 p2 q1 T:Pos}(j:X.calm=true)(he:Pe X cm e d)(U:Gl X "len")(Y:X.mg "len" = none)(a0:Gl X "set")(a1:X.mg "set" = none)
 (C:starEach [e] X.env=(false,eval e X.env)::starEach [] X.env:=by exact D6 rfl)
 (D:starEach [.Call (.Name "set" p2) [e] [] T] X.env=(false,eval (.Call (.Name "set" p2) [e] [] T) X.env)::starEach [] X.env:=by rfl) :
 Pe X cm (.Call (.Name "len" p1) [.Call (.Name "set" p2) [e] [] T] [] q1) (om d):=by
 intro r s σ H Q I h;obtain⟨ρ,A,a2,v,A',rl,rs,ev,k⟩:=h;obtain⟨x,A1,e1,a3⟩:=B0 ev;refine Call_ (V9 I U Y PySem.boot_len (callWith_builtin1 (pG D ?_) D rfl));refine Call_ (V9 I a0 a1 (show bootBuiltins "set" = some _ from by rfl) (callWith_type1 (pG C ?_) C rfl));refine aQ (he r s σ H (λv z=>∃(a:Addr)(ns:List Int),v=.ref a/\fk (kindOf x) X.K z a (ns.map V.int)/\ns.length<1000/\Q (.int (gn ns)) z) I ⟨ρ,A,a2,x,A1,rl,rs,e1,λa4 z v1 x1 E a5=>?_⟩) λu G zq=>?_
 .obtain⟨l,A2,e2,m⟩:=B0 a3;obtain⟨rfl,a,xs,rfl,hH,r0⟩:=Z9 E a5 e2;cases p:M6 l with
  | none=>rw[p]at m;cases m
  | some ns=>
    rw[p]at m;obtain⟨c,a6⟩:=C7 m;cases a6;rw[S9 p]at r0;exact⟨a,ns,rfl,by rw[<-b9 r0];exact hH,c,k a4 z _ x1 E (.int _)⟩
 .obtain⟨w1,z,J,r1,a,ns,ew,O,L,q⟩:=zq;subst ew;obtain rfl:u=IZ a:=r1;have fin:∀(y)(B:Nat)(n:Nat),n=ns.length->y.SetOf (intKind X.prog X.w) G.heap.objs.size (λk'=>(firstMet (λi=>ns.getD i 0) n).any (·== k')) (firstMet (λi=>ns.getD i 0) n).length->
   (∀b o,b<G.heap.objs.size->G.heap.get? b=some o->y.get? b=some o)->wpAny (model X.prog X.w) X.A (call (.builtin "len") [.ref G.heap.objs.size]) (EP X r σ Q) X.xe { G with heap:=y,toks:=B }:=by
   intro y B n hn f g;subst hn;obtain⟨o,es,ep,t,ho,hex,hd,_,_,_,hf,a8⟩:=f;have hn:es.size=gn ns:=by rw[a8];exact BL ns
   have e9:=sI ns;refine call_len_set ho hex hd hf (by omega) ?_;rw[hn];exact⟨.int _,z,J.kept (λb ob e=>g b ob (IA e) e),⟨_,rfl⟩,q⟩
  cases hk:kindOf x with
  | true=>
    rw[hk]at O;obtain⟨a9,ri,pl,hz⟩:=J.tuple O;have p:=S4 ri;have N:=p.length;refine BK (J.ok.hd j) pl (by simpa using p) (by rw[II,N];exact IL (Nat.succ_lt_succ L) (by decide)) λy B f g=>fin y B _ (by rw[II,N]) f g
  | false=>
    rw[hk]at O;obtain⟨a9,ri,pl,hz⟩:=J.list O;have p:=S4 ri;have N:=p.length;refine call_set_list (J.ok.hd j) pl.isList (by simpa using p) (by rw[II,N];exact IL (Nat.succ_lt_succ L) (by decide)) λy B f g=>fin y B _ (by rw[II,N]) f g
noncomputable def uj(K:Io):R2:=λx y H Q=>∃a b c,x=.ref a/\y=.ref b/\cB K H a []/\cB K H b c/\Q (.ref b) H
theorem BN:cq X (binaryOp .Add) (uj X.K):=by
 intro i s G H x y v u Q I o p h;obtain⟨a,b,J,rfl,rfl,r,w,q⟩:=h;cases o;cases p;obtain⟨z,A,p1,_⟩:=I.tuple r;obtain⟨j,L,p2,_⟩:=I.tuple w;cases A;obtain⟨⟨cls,B,k,C⟩,l,D,n,hd⟩:=id p1;obtain⟨⟨m,d,data2,e⟩,c,f,E,g⟩:=id p2;subst D hd f g;exact Ph ⟨_,l,rfl⟩ ⟨_,c,rfl⟩ NU OU Ms Mg (Mb _ _)
  (tuple_addW0 a b #[] _ n E B d C e rfl) ⟨l,c,⟨.ref b,H,I,rfl,q⟩⟩
noncomputable def uk(K:Io):R2:=λx y H Q=>oN K x y H Q\/uj K x y H Q
theorem BO:cq X (binaryOp .Add) (uk X.K):=op_add3.or BN
theorem BP:W2 X.K cm oq (uk X.K):=λb A H x y z j g h Q d e f a k=>by
 cases x with
 | tup l=>
   cases y with
   | tup m=>
     by_cases o:l=[]
     .subst o;obtain⟨c,a⟩:=C7 a;cases a;cases e with
      | tup q r=>
        cases r;cases f with
        | tup p s=>exact .inr ⟨_,_,_,rfl,rfl,cB.of q,cB.of p,k b H _ (aA.refl _ _) d (.tup p s)⟩
     .obtain⟨c,a⟩:=C7 a;cases a;exact .inl (aN b _ H _ _ _ _ g h Q d e f (show G1 _ _ _=_ by rw[Q3 ⟨o,c⟩];rfl) k)
   | _=>cases a
 | int i=>exact .inl (aN b A H _ y z j g h Q d e f (by cases y<;>exact a) k)
 | ref n=>exact .inl (aN b A H _ y z j g h Q d e f (by cases y<;>exact a) k)
 | _=>cases y<;>cases a
end
end Ws
namespace Ws
open PySem PySem.W PyProof.Rows PySem.Calls
structure mr(h:Heap)(C:Addr)(newId:String):Prop where
 obj:∃nm q N bs bm hdct sn sub ab col dd k0 k1 k2 k3 k5,h.get? C=some (excClassObj nm q C N bs bm hdct sn sub ab col dd k0 k1 k2 k3 k5 newId)/\bm.contains (.type "ValueError")=true/\bm.contains (.type "BaseException")=true/\bm.contains (.type "AttributeError")=false/\bm.contains (.type "NameError")=false
abbrev iR(C t:Addr):Obj:={ cls:=.ref C,data:=.fields #[.ref t,.none,.none,.none,.bool false,.none] }
section
variable{prog:IS}{w:Jp}{A:Ji}{R:OF->Ir->Prop}{h:Heap}{g:Array Pr}{d:Drawn}{t:Nat}{os:Q2}{C fI:Addr}{rest:List Ip}
theorem VEF:ExcBaseFacts "ValueError" "ValueError.__new__" "ValueError.__init__" [.type "ValueError",.type "Exception",.type "BaseException",.type "object"]:=PySem.F.excBase_ValueError
theorem BQ(Y:mr h C "ValueError.__new__")(n:R (.ok (.ret (.ref (h.objs.size+1)))) ⟨(h.push { cls:=.type "tuple",data:=.seq rest.toArray }).push (iR C h.objs.size),g,d,t,os⟩)(c:rest.length<=sizeLine) :
 codeAny (model prog w) A (.call (.builtin "ValueError.__new__") ⟨.ref C::rest,[]⟩) R ⟨h,g,d,t,os⟩:=by
 obtain⟨v,q,N,bs,e,m,x,sub,y,o,z,B,D,E,G,H,a,r,I,s,u⟩:=Y.obj;have b:(IZ C::e).contains (.type "ValueError")=true:=by rw[Ku,r,MG]
 have f:(IZ C::e).contains (.type "AttributeError")=false:=by rw[Ku,s];rfl
 have i:(IZ C::e).contains (.type "NameError")=false:=by rw[Ku,u];rfl
 have j:=VEF.noStar;refine codeAny_call_builtin_code (Nn _ VEF.quiet) ?_;simp only[checkBuiltinCall,VEF.newKind,VEF.newSplit,VEF.newRow];repeat (first | refine JX a ?_ | (refine KJ a ?_;rw[b]) | refine wpAny_staticBase_exc a ?_ | refine wpAny_madeBy_exc a ?_ | simp only[bne_self_eq_false,Lu,if_false] | wp_step)
 have k:=VEF.ends;refine codeAny_builtinAt VEF.entry ?_;unfold Kv.«BaseException.__new__»;refine PySem.wpAt_bind ?_;show PySem.wpAt _ _ _ (stack>>=_) _ _ _;refine PySem.wpAt_bind (PySem.wpAt_stack λp below=>OL ?_)
 wp_walk
 refine OL ?_;rw[VEF.owner];repeat (first | with_reducible refine wpAny_madeHere_exc VEF.canon a ?_ | with_reducible refine JX a ?_ | (with_reducible refine KJ a ?_;first | rw[b] | rw[f] | rw[i]) | wp_step)
 show R _ _;rw[JG];exact n
theorem BR(Y:mr h C "ValueError.__new__")(p:Looks (model prog w) h (typeLookup (.ref C) "__init__") (some (.ref fI)))(s:∀a,Looks (model prog w) h (bindSpecial (.ref fI) a) (.ref fI,[a]))(f:rest.length<=sizeLine)
 (u:codeAny (model prog w) (A.under (.builtin "type.__call__" ⟨.ref C::rest,[]⟩)) (.call (.ref fI) ⟨.ref (h.objs.size+1)::rest,[]⟩) (InitBack (h.objs.size+1) R) ⟨(h.push { cls:=.type "tuple",data:=.seq rest.toArray }).push (iR C h.objs.size),g,d,t,os⟩) :
 codeAny (model prog w) A (.call (.ref C) ⟨rest,[]⟩) R ⟨h,g,d,t,os⟩:=by
 have x:=Y;obtain⟨G,q,N,bs,y,n,H,sub,I,B,J,L,O,Q,T,U,j,c1,c2,c3,c4⟩:=Y.obj;have f1:=tc_lookup;have f2:=tc_bind (.ref C);have hT:(⟨h,g,d,t,os⟩:Ir).TypeIs (.ref C) "type":=⟨_,j,rfl⟩;refine codeAny_of_tree ?_;show wpAny _ _ (callAny (.ref C) _) _ _ _;repeat (any_goals (first | assumption | with_reducible refine JX j ?_ | wp_step))
 refine⟨rfl,?_⟩;refine codeAny_call_builtin_at (Nn _ (by decide +kernel)) entry_typeCall (wpAny_check_type_call_sub j ?_);repeat (first | with_reducible refine JX j ?_ | with_reducible refine wpAny_madeBy_exc j ?_ | with_reducible refine Ma ?_ | wp_step)
 refine BQ (rest:=rest) x ?_ f;show wpAny _ _ _ _ _ _;have l:∀b o,h.get? b=some o->((h.push { cls:=.type "tuple",data:=.seq rest.toArray }).push (iR C h.objs.size)).get? b=some o:=λb o e=>Im _ (Im _ e);have i:=l _ _ j;have k:((h.push { cls:=.type "tuple",data:=.seq rest.toArray }).push (iR C h.objs.size)).get? (h.objs.size+1)=some (iR C h.objs.size):=by heap_get
 have m:(IZ C::y).contains (.ref C)=true:=by simp
 unfold isInstance;repeat (first | with_reducible refine JX k ?_ | (with_reducible refine KJ i ?_;rw[m]) | wp_step)
 have D:=p.keeps l;have E:=(s (.ref (h.objs.size+1))).keeps l;show wpAny _ _ (typeLookup (.ref C) "__init__") _ _ _;refine D.here ?_;refine Js (Il (E.here ?_));refine Il (Ma ?_);refine KW u λr s' z=>?_;rcases r with e | (v | _ | _ | _)<;>first | exact z | exact z.elim | skip
 obtain⟨rfl,z⟩:=z;exact Iv (Iv z)
end
end Ws
namespace Ws
open PySem PySem.W PyProof.Rows PySem.Calls Builtin Builtin.ObjectAttr
noncomputable def kA:List Ip:=[.type "ValueError",.type "Exception",.type "BaseException",.type "object"]
noncomputable def V2:List Ip->Bool
 | .ref _::r=>V2 r
 | l=>l == kA
theorem BU(a:Ip):refuseLoop a "__setattr__" kA=pure ():=rfl
theorem um(a:Ip):∀{l:List Ip},V2 l=true->refuseLoop a "__setattr__" l=pure ()
 | .ref c::r,e=>by rw[refuseLoop_ref];exact um a (by cases r<;>exact e)
 | [],e=>by cases e
 | .type n::r,e=>by rw[show JC n::r=kA from beq_iff_eq.mp e];exact BU a
 | .none::r,e=>by cases e
 | .bool _::r,e=>by cases e
 | .int _ _::r,e=>by cases e
 | .str _ _::r,e=>by cases e
 | .bytes _ _::r,e=>by cases e
 | .float _ _::r,e=>by cases e
 | .builtin _::r,e=>by cases e
 | .ellipsis::r,e=>by cases e
 | .notImplemented::r,e=>by cases e
theorem uo:∀{l:List Ip},V2 l=true->l.contains (.type "object")=true
 | .ref c::r,e=>by rw[Ku,uo (l:=r) (by cases r<;>exact e),MG]
 | [],e=>by cases e
 | .type n::r,e=>by rw[show JC n::r=kA from beq_iff_eq.mp e];rfl
 | .none::r,e=>by cases e
 | .bool _::r,e=>by cases e
 | .int _ _::r,e=>by cases e
 | .str _ _::r,e=>by cases e
 | .bytes _ _::r,e=>by cases e
 | .float _ _::r,e=>by cases e
 | .builtin _::r,e=>by cases e
 | .ellipsis::r,e=>by cases e
 | .notImplemented::r,e=>by cases e
section
variable{prog:IS}{w:Jp}{A:Ji}{E:Ip->Ir->Prop}{R:OF->Ir->Prop}{s:Ir}{K:Frag}{x C:Addr}{ox:Obj}{cd:ClassData}{name:Str}{v:Ip}
theorem BV{U:Tok}(X:K.In s.heap)(I:InstAt s.heap x ox C none)(H:clsIn K C=some cd)(G:V2 cd.mro=true)(hh:cd.hasDict=true)(ht:findIn K (.ref C) name=some none){vs:Array Ip}(d:ox.data=.fields vs)(f:ox.dict=none)
 (h:∀i,i.get? x=some { ox with dict:=some s.heap.objs.size }->i.Ns1 s.heap.objs.size (λy=>if y=name then some v else none)->(∀b o,b≠x->s.heap.get? b=some o->i.get? b=some o)->R (.ok (.ret .none)) { s with heap:=i,toks:=s.toks+1 }) :
 codeAny (model prog w) A (.call (.builtin "object.__setattr__") ⟨[.ref x,.str name U,v],[]⟩) R s:=by
 have k:=PySem.F.store_object;have ne:cd.mro.isEmpty=false:=by cases q:cd.mro with
  | nil=>rw[q]at G;cases G
  | cons _ _=>rfl
 have sub:Looks (model prog w) _ (isInstance _ _) true:=I.type.andThen (looks_mroIn X (by unfold mroIn;rw[H,Option.bind_some,if_neg (by rw[ne];decide),uo G]));refine MO k.slot.plain k.entry (@check_slot _ _ _ s "object.__setattr__" "object" "__setattr__" _ [.str name U,v] [] _ k.kind k.split sub (k.args _ _ v) ?_);have hm:Looks (model prog w) _ (mroOf (.ref C)) _:=(looks_clsIn X H).andThen .now;rw[osa_eq,refuse_eq];refine Il (Il (I.type.here (Il (hm.here ?_))));rw[um _ G];refine Iv (Il (I.type.here (Il ((looks_findIn X ht).here (Il (Iv ?_))))));obtain⟨J,l,hn,_⟩:=I;obtain⟨oc,a4,a5,m⟩:=ox;dsimp only at l d f;subst l d f;refine Il (Iv (Il (Il (wpAny_loadPart J (Il ((looks_clsIn X H).here ?_))))));rw[hh];refine Il (wpAny_alloc ?_);have n:(s.heap.push { cls:=JC "dict",data:=MH #[] }).get? x=some { cls:=.ref C,data:=.fields vs,slots:=m }:=Im _ J;have g:=IA J;refine Il (wpAny_update n ?_);refine Iv ?_;have L:(s.heap.push { cls:=JC "dict",data:=MH #[] }).get? _=some { cls:=JC "dict",data:=MH #[] }:=IB _ rfl;have p:((s.heap.push { cls:=JC "dict",data:=MH #[] }).update x λo=>{ cls:=o.cls,dict:=some s.heap.objs.size,data:=o.data,slots:=o.slots }).get? s.heap.objs.size=some { cls:=JC "dict",data:=MH #[] }:=by
  rw[IW _ _ (IH g)];exact L
 have r:((s.heap.push { cls:=JC "dict",data:=MH #[] }).update x λo=>{ cls:=o.cls,dict:=some s.heap.objs.size,data:=o.data,slots:=o.slots }).get? x=some { cls:=.ref C,dict:=some s.heap.objs.size,data:=.fields vs,slots:=m }:=by
  rw[Jw _ n rfl]
 have u:((s.heap.push { cls:=JC "dict",data:=MH #[] }).update x λo=>{ cls:=_,dict:=some _,data:=_,slots:=_ }).Ns1 _ _:=⟨_,#[],_,p,rfl,(λe he=>absurd he (by simp)),MR.nil,λ_=>rfl⟩;have kp:∀b o,b≠x->s.heap.get? b=some o->((s.heap.push { cls:=JC "dict",data:=MH #[] }).update x λo=>{ cls:=o.cls,dict:=some s.heap.objs.size,data:=o.data,slots:=o.slots }).get? b=some o:=λb o N e=>by
  rw[IW _ _ (JW N)];exact Im _ e
 generalize(s.heap.push { cls:=JC "dict",data:=MH #[] }).update x _=h2 at p r u kp;refine Il (Iv (Il ?_));refine wpAny_nsSet1 (s:={ s with heap:=h2 }) u λi B D=>?_;obtain⟨oD,a8,a9,O,Q,T⟩:=B.count (Nj.cons name v (ns:=[]) (λ_ z=>absurd rfl z));refine Il (wpAny_lookBehind O (by rw[Q];exact pastItsLine_dict (Jm T (by simp))) ?_);refine Iv (h _ ((D.2 _ (IH g)).trans r) B λb o N e=>?_);exact(D.2 _ (IH (IA e))).trans (kp b o N e)
end
end Ws
namespace Ws
open PySem PySem.W PyProof.Rows PySem.Calls L2
noncomputable def uq:Option Addr->Ip
 | none=>.none
 | some T=>.ref T
inductive mu (C:Addr) (d tb:Option Addr) (e:Addr) (h:Heap):Prop
 | mk (oe) (vs) (h0:h.get? e=some oe) (h1:oe.cls=.ref C) (h2:oe.dict=d) (h3:oe.data=.fields vs) (h4:vs[1]?=some (uq tb)) (h5:vs[2]?=some .none):mu C d tb e h
noncomputable def XO(C:Addr)(d a:Option Addr)(e:Addr):HO:=.ext (mu C d a e)
inductive pM (T:Addr) (fl:Ip) (h:Heap):Prop
 | mk (oT) (ts) (h0:h.get? T=some oT) (h1:oT.data=.fields ts) (h2:ts[3]?=some fl):pM T fl h
noncomputable def TO(T:Addr)(a:Ip):HO:=.ext (pM T a)
theorem pN{P:IS}{w:Jp}{H:Hp}{h:Heap}{C e:Addr}{d a:Option Addr}(x:mu C d a e h):aP P w H h e (XO C d a e):=by
 obtain⟨b,p,c,q⟩:=id x;refine⟨x,⟨b,c⟩,λr s y k=>?_⟩;obtain⟨o,f,g,i,j,l,m,n⟩:=y;exact⟨o,f,k _ g,i,j,l,m,n⟩
theorem pO{P:IS}{w:Jp}{H:Hp}{h:Heap}{T:Addr}{a:Ip}(x:pM T a h):aP P w H h T (TO T a):=by
 obtain⟨b,i,c,j⟩:=id x;refine⟨x,⟨b,c⟩,λl m y k=>?_⟩;obtain⟨o,d,e,f,g⟩:=y;exact⟨o,d,k _ e,f,g⟩
theorem pP{X:Cx}{a:List (Addr×Obj)}{σ:L2.St}{H:Hp}{s:Ir}{C e:Addr}{d b:Option Addr}(I:L2.Inv X a σ H s)(h:H e=some (XO C d b e)):mu C d b e s.heap:=(I.hok e _ h).1
structure XK(K:Io)(C fI:Addr):Prop where
 obj:∃nm q N bs bm hdct sn sub ab col dd k0 k1 k2 k3 k5,K.lookup C=some (excClassObj nm q C N bs bm hdct sn sub ab col dd k0 k1 k2 k3 k5 "ValueError.__new__")/\V2 bm=true/\hdct=true
 init:findIn K (.ref C) "__init__" = some (some (.ref fI))
 fn:isFn K (.ref fI)=true
 kp:keepIn K (.ref C)=true
 sa:findIn K (.ref C) "__setattr__" = some (some (.builtin "object.__setattr__"))
 na:findIn K (.ref C) "at" = some none
theorem pQ:∀{l:List Ip},V2 l=true->l.contains (.type "ValueError")=true/\l.contains (.type "BaseException")=true/\l.contains (.type "AttributeError")=false/\l.contains (.type "NameError")=false
 | .ref c::r,e=>by
   obtain⟨a,b,d,f⟩:=pQ (l:=r) (by cases r<;>exact e);refine⟨?_,?_,?_,?_⟩<;>rw[Ku]<;>first | rw[a] | rw[b] | rw[d] | rw[f]
   .exact MG _
   .exact MG _
   .rfl
   .rfl
 | [],e=>by cases e
 | .type n::r,e=>by rw[show JC n::r=kA from beq_iff_eq.mp e];exact⟨rfl,rfl,rfl,rfl⟩
 | .none::r,e=>by cases e
 | .bool _::r,e=>by cases e
 | .int _ _::r,e=>by cases e
 | .str _ _::r,e=>by cases e
 | .bytes _ _::r,e=>by cases e
 | .float _ _::r,e=>by cases e
 | .builtin _::r,e=>by cases e
 | .ellipsis::r,e=>by cases e
 | .notImplemented::r,e=>by cases e
theorem XK.cls{K:Io}{C c:Addr}{h:Heap}(x:XK K C c)(X:K.In h):mr h C "ValueError.__new__":=by
 obtain⟨d,q,N,bs,e,a,f,sub,g,b,i,j,k,l,m,n,o,p,_⟩:=x.obj;exact⟨d,q,N,bs,e,a,f,sub,g,b,i,j,k,l,m,n,X _ _ o,pQ p⟩
theorem XK.cd{K:Io}{C b:Addr}(x:XK K C b):∃cd,clsIn K C=some cd/\V2 cd.mro=true/\cd.hasDict=true:=by
 obtain⟨f,q,N,bs,g,a,h,sub,i,c,j,k,l,m,n,o,d,e,hd⟩:=x.obj;refine⟨_,by unfold clsIn;rw[d],?_,hd⟩;exact e
theorem pR{P:IS}{w:Jp}{fs:List Addr}{H H':Hp}{h h':Heap}(ch:List Addr)(ok:bU P w H h)(r:∀b∈ch,∃d,H b=some (.ext d))(m:∀b∈fs,H b=none)
 (k:∀b u,b∉ch->b∉fs->h.get? b=some u->h'.get? b=some u) (j:∀b u,b∈fs->h.get? b=some u->∃j,h'.get? b=some { u with slots:=j })
 (C:∀b∈ch,∃o,h'.get? b=some o) (f:∀b u,b∉ch->H b=some u->H' b=some u) (x:∀b,b<h.objs.size->H b=none->H' b=none)
 (new:∀b u,b∈ch\/h.objs.size<=b->H' b=some u->aP P w H' h' b u):Un fs [] H H' h h'/\bU P w H' h':=by
 have p:∀b,H b=none->b∉ch:=λb n z=>by obtain⟨d,e⟩:=r b z;rw[n]at e;cases e
 have i:∀b u,H b=some u->b∉fs:=λb u e z=>by rw[m b z]at e;cases e
 have nx:∀b u,H b=some u->(∀d,u≠.ext d)->b∉ch:=λb u e q z=>by obtain⟨d,y⟩:=r b z;rw[e]at y;exact q d (IK y)
 refine⟨⟨λb o e n a _=>k b o (p b n) a e,λb o e n a _=>j b o a e,λb o e n _=>x b (IA e) n,λb o e _=>?_,λb D e=>f b _ (nx b _ e (by intro d q;cases q)) e,λb o u e=>f b _ (nx b _ e (by simp)) e,λb G e=>⟨#[],by rw[f b _ (nx b _ e (by simp)) e];simp⟩⟩,λb u e=>?_⟩
 .by_cases a:b∈ch
  .exact C b a
  .by_cases A:b∈fs
   .obtain⟨s,q⟩:=j b o A e;exact⟨_,q⟩
   .exact⟨o,k b o a A e⟩
 .by_cases a:b∈ch
  .exact new b u (.inl a) e
  .by_cases E:h.objs.size<=b
   .exact new b u (.inr E) e
   .rcases l:H b with _ | v
    .rw[x b (by omega) l]at e;cases e
    .have B:=f b v a l;rw[e]at B;cases B;refine(ok b u l).stay (λc o g q=>k c o ?_ ?_ q) (λc q=>f c _ (nx c _ q (by simp)) q) λc D q=>f c _ (nx c _ q (by intro d z;cases z)) q
     .rcases g with rfl | g
      .exact a
      .exact nx c _ g (by simp)
     .rcases g with rfl | g
      .exact i _ _ l
      .exact i _ _ g
section
variable{X:Cx}{o value:Expr}{pos pos':Pos}{to tv:TE}
noncomputable def ur(K:Io)(to tv:TE):TS:=λD a H=>tv a H λy c=>to a c λx b=>∃e C f,x=.ref e/\b e=some (XO C none none e)/\XK K C f/\∀d,b d=none->d≠e->D.nx a (aJ (aJ b e (XO C (some d) none e)) d (.xd [("at",y)]))
theorem BW(N:PE X o to)(O:PE X value tv)(hs:swapsWith value (some (.Attribute o "at" pos')) pos.line X.env=pure false):PS X (.Assign [.Attribute o "at" pos'] value pos) (ur X.K to tv):=by
 intro d s k H D I h;refine Mu (aQ (O d s k H _ I h) λu Q ⟨y,T,U,Y,q⟩=>aQ (N d Q k T _ U q) λov A zq=>?_) hs;obtain⟨x,H2,g,rx,e,C,fI,ex,l,m,q2⟩:=zq;subst ex;obtain rfl:ov=IZ e:=rx;obtain⟨oe,vs,B,E,G,n,h5,h6⟩:=pP g l;obtain⟨cd,c1,c2,c3⟩:=m.cd;have J:InstAt _ e oe C none:=⟨B,E,by unfold notCls;rw[n],by rw[G];trivial⟩;refine set_plain g.kIn J m.sa (BV g.kIn J c1 c2 c3 m.na n G λh' L g2 g3=>?_);have j:=g.hok.fresh (Iw _);have p:=Kg (IA B);refine⟨k,_,?_,q2 _ j p⟩;have r:=Y;obtain⟨u1,u2⟩:=pR (fs:=[]) (H':=aJ (aJ H2 e (XO C (some A.heap.objs.size) none e)) _ (.xd [("at",y)])) [e] g.hok (λb a=>by
  rw[Iy.mp a];exact⟨_,l⟩) (λ_ z=>nomatch z) (λb o a _ q=>g3 b o (λz=>a (by simp[z])) q) (λ_ _ z=>nomatch z) (λb a=>by rw[Iy.mp a];exact⟨_,L⟩)
  (λb v a q=>by rw[ak (G7 q j),ak (λz=>a (by simp[z]))];exact q)
  (λb a q=>by rw[ak (IH a),ak (λz=>by rw[z,l]at q;cases q)];exact q)
  (λb v a q=>by
   by_cases i:b=A.heap.objs.size
   .rw[i,C8]at q;cases q;rw[i];refine⟨_,g2,λf=>?_⟩;by_cases w:f="at"
    .subst w;exact r
    .have:=beq_eq_false_iff_ne.mpr w;simp[LY,w,this,bV]
   .rw[ak i]at q;by_cases c:b=e
    .rw[c,C8]at q;cases q;rw[c];exact pN ⟨_,vs,L,E,rfl,n,h5,h6⟩
    .rw[ak c]at q;rcases a with a | a
     .exact absurd (Iy.mp a) c
     .rw[g.hok.fresh a]at q;cases q)
 exact g.un (u1.mono (λ_ z=>nomatch z) λ_ z=>z) u2
end
theorem BX(f:Array Ip->Array Ip)(o:Obj):(La f o).dict=o.dict:=by
 obtain⟨c,d,a,b⟩:=o;cases a<;>rfl
inductive V5 (fl:Ip) (H:Hp) (e C:Addr) (v:V):Prop
 | mk (d) (tb) (h0:H e=some (XO C (some d) tb e)) (h1:H d=some (.xd [("at",v)])) (h2:∀T,tb=some T->H T=some (TO T fl)/\T≠e):V5 fl H e C v
def cP(H H':Hp):Prop:=∀b u,H b=some u->(∀a,u≠.ext a)->H' b=some u
theorem cP.refl(H:Hp):cP H H:=λ_ _ e _=>e
theorem cP.trans{H d f:Hp}(a:cP H d)(b:cP d f):cP H f:=λc u e n=>b c u (a c u e n) n
section
variable{M:Qa}{A:Ji}{E:Ip->Ir->Prop}{s:Ir}{P:IS}{w:Jp}
theorem uu{base:Heap}{g:Env}{c:List Env}{L e:Addr}{D:Obj}{vs:Array Ip}{i:Ip}{j:Bool}{Q:Unit->Ir->Prop}
 (G:A.frames=some (g::c)) (Y:s.heap.FunFrames base (g::c)) (hf:g.frame=some L)
 (he:s.heap.get? e=some D) (hd:D.data=.fields vs) (H:1<vs.size)
 (h:∀y T oT ts,(∀b o,b≠e->b∉frs (g::c)->s.heap.get? b=some o->y.get? b=some o)->(∀b o,b≠e->b∈frs (g::c)->s.heap.get? b=some o->∃I,y.get? b=some { o with slots:=I })->
  s.heap.objs.size<=T->y.get? e=some (La (·.setIfInBounds 1 (IZ T)) D)->y.get? T=some oT->oT.data=.fields ts->ts[3]?=some (rawInt L)->Q () { s with heap:=y }) :
 wpAny M A (do let a <-frameOf g;let n <-entryPlaceOf L j;let b <-EntryCells.newEntry i a .none (rawInt L) .none n;setField (.ref e) 1 b) Q E s:=by
 have z:e∉(g::c).filterMap _:=λhm=>by
  obtain⟨_,o,C,J⟩:=Y.mem hm;rw[he]at C;injection C with C;subst C;exact J vs hd
 refine Il (wpAny_frameOf_fun G Y hf λd f=>?_);refine Il (wpAny_entryPlaceOf λn N=>?_);refine Il (LH ?_ (N.sizeOk5 _ _ _ _ _));have k:=(f.2.1 e z).trans he;have l:=Im { cls:=.type "traceback",dict:=none,data:=.fields ([i,.ref L,.none,rawInt L,.none]++(if n.isEmpty then LP 6 Kq else n)).toArray } k;have O:=Kg (IA k);have u:=Ka hd (·.setIfInBounds 1 (IZ d.objs.size));have v:=Jw _ l (LB u);have x:=(IW (d.push { cls:=.type "traceback",dict:=none,data:=.fields ([i,.ref L,.none,rawInt L,.none]++(if n.isEmpty then LP 6 Kq else n)).toArray })
  (La (·.setIfInBounds 1 (IZ d.objs.size))) (JW O)).trans (IB d rfl)
 have keep:∀b o,b≠e->d.get? b=some o->
  ((d.push { cls:=.type "traceback",dict:=none,data:=.fields ([i,.ref L,.none,rawInt L,.none]++(if n.isEmpty then LP 6 Kq else n)).toArray }).update e (La (·.setIfInBounds 1 (IZ d.objs.size)))).get? b=some o:=
  λb o m B=>by
   rw[IW _ _ (JW m)];exact Im _ B
 refine MB l hd H (h _ _ _ _ (λb o m U B=>keep b o m ((f.2.1 b U).trans B)) (λb o m _ B=>?_) (by rw[f.1];exact Iw _) v x rfl rfl);obtain⟨I,q⟩:=f.2.2 b o B;exact⟨I,keep b _ m q⟩
theorem pS{J:Ip}{H:Hp}{e C:Addr}{v:V}{Q:Unit->Ir->Prop}(ok:bU P w H s.heap)(f:V5 J H e C v)
 (h:∀m H',Un [] [] H H' s.heap m->bU P w H' m->V5 .none H' e C v->cP H H'->Q () { s with heap:=m }):wpAny M A (setFlight (.ref e) none) Q E s:=by
 obtain⟨d,L,p,l,N⟩:=f;obtain⟨oe,vs,y,g2,g3,B,D,g6⟩:=(ok e _ p).1;cases L with
 | none=>
   refine Il (Jt y B D ?_);exact Iv (h _ H Un.refl ok ⟨d,none,p,l,λT z=>nomatch z⟩ (cP.refl H))
 | some T=>
   obtain⟨k,G⟩:=N T rfl;obtain⟨oT,ts,I,r,O⟩:=(ok T _ k).1;have g:=(LL.mp O).1;refine Il (Jt y B D ?_);have j:∀b,b≠T->(s.heap.update T (La (·.setIfInBounds 3 ((none:Option Addr).elim Kq λf=>rawInt f)))).get? b=s.heap.get? b:=λb a=>IW _ _ (JW a);have i:=Jw (La (·.setIfInBounds 3 ((none:Option Addr).elim Kq λf=>rawInt f))) I (LB (Ka r _));obtain⟨U,Y⟩:=pR (fs:=[]) (H':=aJ H T (TO T .none)) [T] ok
    (λb a=>by rw[Iy.mp a];exact⟨_,k⟩) (λ_ z=>nomatch z) (λb o a _ q=>(j b (λz=>a (by simp[z]))).trans q) (λ_ _ z=>nomatch z) (λb a=>by rw[Iy.mp a];exact⟨_,i⟩)
    (λb u a q=>by rw[ak (λz=>a (by simp[z]))];exact q) (λb _ q=>by rw[ak (λz=>by rw[z,k]at q;cases q)];exact q)
    (λb u a q=>by
     by_cases c:b=T
     .rw[c,C8]at q;cases q;rw[c];exact pO ⟨_,_,i,Ka r _,by simp[g]⟩
     .rw[ak c]at q;rcases a with a | a
      .exact absurd (Iy.mp a) c
      .rw[ok.fresh a]at q;cases q)
   refine MB I r g (h _ _ U Y ⟨d,some T,by rw[ak (JW G)];exact p,by rw[ak (λz=>by rw[z,k]at l;cases l)];exact l,λT' z=>?_⟩ λb u q n=>?_)
   .cases z;exact⟨C8,G⟩
   .rw[ak (λz=>by rw[z,k]at q;exact n _ (IK q).symm)];exact q
theorem uv{base:Heap}{i:Env}{c:List Env}{L e C:Addr}{H:Hp}{v:V}{Q:Unit->Ir->Prop}(N:A.frames=some (i::c))(hl:s.heap.FunFrames base (i::c))(hf:i.frame=some L)
 (y:∀b∈frs (i::c),H b=none) (ok:bU P w H s.heap) (f:V5 .none H e C v)
 (h:∀h' H',Un (frs (i::c)) [] H H' s.heap h'->bU P w H' h'->V5 (rawInt L) H' e C v->cP H H'->Q () { s with heap:=h' }):wpAny M A (noteFrame (.ref e) i) Q E s:=by
 obtain⟨d,tb,m,f2,f3⟩:=f;obtain⟨oe,vs,g1,g2,g3,g4,g5,g6⟩:=(ok e _ m).1;have B:=(LL.mp g5).1;unfold noteFrame;simp only[hf];refine Il (Jt g1 g4 g5 ?_);have fin:∀(ch:List Addr)(h0 h':Heap)(T:Addr)(J:Obj)(ts:Array Ip),(∀b∈ch,∃φ,H b=some (.ext φ))->e∈ch->(∀b∈ch,b≠e->∃o,h'.get? b=some o/\∀u,H b=some u->aP P w (aJ (aJ H e (XO C (some d) (some T) e)) T (TO T (rawInt L))) h' b u)->
  (∀b o,b∉ch->b∉frs (i::c)->s.heap.get? b=some o->h'.get? b=some o)->(∀b o,b∈frs (i::c)->s.heap.get? b=some o->∃sl,h'.get? b=some { o with slots:=sl })->
  s.heap.objs.size<=T->h'.get? e=some (La (·.setIfInBounds 1 (IZ T)) oe)->h'.get? T=some J->J.data=.fields ts->ts[3]?=some (rawInt L)->Q () { s with heap:=h' }:=by
  intro ch h0 h' T J ts hx a9 U hk hs hT he b0 b1 b2;have l:=ok.fresh hT;have Y:T≠e:=λz=>by rw[z,m]at l;cases l
  obtain⟨u1,u2⟩:=pR (H':=aJ (aJ H e (XO C _ (some T) e)) T (TO T _)) ch ok hx y hk hs
   (λb a=>by
    by_cases j:b=e
    .rw[j];exact⟨_,he⟩
    .obtain⟨o,q,_⟩:=U b a j;exact⟨o,q⟩)
   (λb u a q=>by rw[ak (G7 q l),ak (λz=>a (by rw[z];exact a9))];exact q)
   (λb a q=>by rw[ak (IH (IL a hT)),ak (λz=>by rw[z,m]at q;cases q)];exact q)
   (λb u a q=>by
    by_cases D:b=T
    .rw[D,C8]at q;cases q;rw[D];exact pO ⟨_,_,b0,b1,b2⟩
    .rw[ak D]at q;by_cases j:b=e
     .rw[j,C8]at q;cases q;rw[j];exact pN ⟨_,_,he,(Obj.cls_mapFields _ _).trans g2,(BX _ _).trans g3,Ka g4 _,by simp[B,uq],by rw[Array.getElem?_setIfInBounds_ne (by simp)];exact g6⟩
     .rw[ak j]at q;rcases a with a | a
      .obtain⟨o,_,r⟩:=U b a j;exact r u q
      .rw[ok.fresh a]at q;cases q)
  refine h h' _ u1 u2 ⟨d,some T,by rw[ak (JW Y)];exact C8,?_,λT' z=>?_⟩ λb u q n=>?_
  .rw[ak (G7 f2 l),ak (λz=>by rw[z,m]at f2;cases f2)];exact f2
  .cases z;exact⟨C8,Y⟩
  .rw[ak (G7 q l),ak (λz=>by rw[z,m]at q;exact n _ (IK q).symm)];exact q
 have fe:e∉frs _:=λz=>by rw[y e z]at m;cases m
 cases tb with
 | none=>
   refine uu N hl hf g1 g4 B λh' T J ts k1 k2 k3 k4 k5 k6 k7=>fin [e] s.heap h' T J ts (λb a=>by rw[Iy.mp a];exact⟨_,m⟩) (by simp) (λb a z=>absurd (Iy.mp a) z) (λb o a G q=>k1 b o (λz=>a (by simp[z])) G q) (λb o a q=>k2 b o (λz=>fe (by rw[<-z];exact a)) a q) k3 k4 k5 k6 k7
 | some p=>
   obtain⟨f4,f5⟩:=f3 p rfl;obtain⟨J,ts,t1,t2,t3⟩:=(ok p _ f4).1;have x:=(LL.mp t3).1;have fT:p∉frs _:=λz=>by rw[y p z]at f4;cases f4
   refine Il (Jt t1 t2 t3 ?_);refine Il (MB t1 t2 x ?_);have g:∀b,b≠p->(s.heap.update p (La (·.setIfInBounds 3 Kq))).get? b=s.heap.get? b:=λb a=>IW _ _ (JW a);have a2:=Jw (La (·.setIfInBounds 3 Kq)) t1 (LB (Ka t2 _));have k:∀b o,s.heap.get? b=some o->(∀vs,o.data≠.fields vs)->b≠p:=λb o a I q=>by
    rw[q,t1]at a;injection a with a;subst a;exact I ts t2
   refine uu N (hl.of_keeps λb o a I=>⟨o,(g b (k b o a I)).trans a,rfl⟩) hf ((g e (JW f5)).trans g1) g4 B λh' T c1 c2 k1 k2 k3 k4 k5 k6 k7=>fin [e,p] s.heap h' T c1 c2 (λb a=>?_) (by simp) (λb a z=>?_) (λb o a G q=>?_) (λb o a q=>?_) ?_ k4 k5 k6 k7
   .rcases IF.mp a with rfl | a
    .exact⟨_,m⟩
    .rw[Iy.mp a];exact⟨_,f4⟩
   .obtain rfl:b=p:=by
     rcases IF.mp a with a | a
     .exact absurd a z
     .exact Iy.mp a
    have q:=k1 b _ z fT a2;refine⟨_,q,λu hu=>?_⟩;rw[f4]at hu;cases hu;exact pO ⟨_,_,q,Ka t2 _,by simp[x]⟩
   .exact k1 b o (λz=>a (by simp[z])) G ((g b (λz=>a (by simp[z]))).trans q)
   .exact k2 b o (λz=>fe (by rw[<-z];exact a)) a ((g b (λz=>fT (by rw[<-z];exact a))).trans q)
   .have:=k3;rw[ML]at this;exact this
theorem BY{base:Heap}{c:Env}{a:List Env}{L e C:Addr}{H:Hp}{v:V}{Q:Unit->Ir->Prop}(g:A.frames=some (c::a))(l:s.heap.FunFrames base (c::a))(m:c.frame=some L)
 (i:∀b∈frs (c::a),H b=none) (ok:bU P w H s.heap) (f:V5 .none H e C v)
 (h:∀j d,Un (frs (c::a)) [] H d s.heap j->bU P w d j->V5 .none d e C v->cP H d->Q () { s with heap:=j }):wpAny M A (leaving c (.ref e)) Q E s:=by
 refine Il (uv g l m i ok f λG I n o p q=>?_);exact pS o p λr u x y B D=>h r u (n.trans (x.mono nofun λ_ z=>z)) y B (q.trans D)
end
section
variable(K:Io)(cm:Nat->Addr)
def dj(ρ:List Addr)(H:Hp)(c:Nat)(v:PV)(A':PHp)(f:Addr->Hp->Prop):Prop:=∀b d a e,aA ρ H b d->aR K cm b A' d->RV b d v e->V5 .none d a (cm c) e->f a d
noncomputable def ez(ρ:List Addr)(H:Hp)(f:Addr->Hp->Prop)(Q:VK):R PV->Prop
 | .ok v d=>∀a b e,aA ρ H a b->aR K cm a d b->RV a b v e->Q e b
 | .ex c v d=>dj K cm ρ H c v d f
 | .no=>False
inductive pT (XQ:Addr->Hp->Prop) (d:ED) (σ:L2.St) (H:Hp) (Q:VK):Prop
 | mk (ρ:List Addr) (A:PHp) (σp:PSt) (h0:aR K cm ρ A H) (h1:cc ρ H σp σ) (h2:ez K cm ρ H XQ Q (d σp A)):pT XQ d σ H Q
inductive gG (f:Fun) (n:Nat) (vs:List V) (H:Hp) (Q:VK) (E:L2.XK):Prop
 | mk (ρ:List Addr) (A:PHp) (ps:List PV) (h0:aR K cm ρ A H) (h1:RVs ρ H ps vs) (h2:ps.length=n) (h3:ez K cm ρ H (λa H'=>E (.ref a) none H') Q (f ps A)):gG f n vs H Q E
noncomputable def de(ρ:List Addr)(H:Hp)(e:Addr->Hp->Prop)(D:w9):R Fl->Prop
 | .ok f b=>∀a d,aA ρ H a d->aR K cm a b d->oG D a d f
 | .ex c v b=>dj K cm ρ H c v b e
 | .no=>False
inductive q5 (XE:Addr->Hp->Prop) (s:SD) (D:w9) (σ:L2.St) (H:Hp):Prop
 | mk (ρ:List Addr) (A:PHp) (σp:PSt) (h0:aR K cm ρ A H) (h1:cc ρ H σp σ) (h2:de K cm ρ H XE D (s σp A)):q5 XE s D σ H
end
section
variable{K:Io}{cm:Nat->Addr}{ρ ρ1:List Addr}{H H1:Hp}{XQ:Addr->Hp->Prop}{Q:VK}{D:w9}
theorem dj.ext{c:Nat}{v:PV}{A':PHp}(h:dj K cm ρ H c v A' XQ)(x:aA ρ H ρ1 H1):dj K cm ρ1 H1 c v A' XQ:=λb d a e y r g f=>h b d a e (x.trans y) r g f
theorem ez.ext{r:R PV}(h:ez K cm ρ H XQ Q r)(x:aA ρ H ρ1 H1):ez K cm ρ1 H1 XQ Q r:=by
 cases r with
 | ok v b=>exact λa d e y f g=>h a d e (x.trans y) f g
 | ex c v b=>exact dj.ext h x
 | no=>exact h
theorem de.ext{r:R Fl}(h:de K cm ρ H XQ D r)(x:aA ρ H ρ1 H1):de K cm ρ1 H1 XQ D r:=by
 cases r with
 | ok v b=>exact λa d y e=>h a d (x.trans y) e
 | ex c v b=>exact dj.ext h x
 | no=>exact h
theorem cP.ext{H':Hp}(c:cP H H'):aA ρ H ρ H':=⟨Jk _,λa b h=>c a _ h (by simp),λa b h=>c a _ h (by simp)⟩
theorem BZ{H':Hp}{a:Addr}{o:PO}(r:RO K cm ρ H a o)(c:cP H H'):RO K cm ρ H' a o:=by
 have e:aA ρ H ρ H':=c.ext;cases o with
 | lst l=>obtain⟨f,h,q⟩:=r;exact⟨f,c _ _ h (by intro b z;cases z),q.mono e⟩
 | ro l=>
   obtain⟨f,h,q⟩:=r;rcases h with⟨u,h⟩ | h
   .exact⟨f,.inl ⟨u,c _ _ h (by intro b z;cases z)⟩,q.mono e⟩
   .exact⟨f,.inr h,q.mono e⟩
 | ins i fs=>obtain⟨j,k,g,h,q⟩:=r;exact⟨j,k,g,c _ _ h (by intro b z;cases z),q.mono e⟩
 | exc i v=>obtain⟨o,d,m,h,n,p,s,w,q⟩:=r;exact⟨o,d,m,c _ _ h (by intro b z;cases z),n,p,s,c _ _ w (by intro b z;cases z),q.mono e⟩
 | _=>obtain⟨g,h,q⟩:=r;exact⟨g,c _ _ h (by intro b z;cases z),q.mono e⟩
theorem aR.calm{H':Hp}{A:PHp}(r:aR K cm ρ A H)(c:cP H H'):aR K cm ρ A H':=⟨r.tab.keep (λa u h b=>c a u h λf z=>by rw[z]at b;rcases b with⟨_,y⟩ | ⟨_,_,y⟩<;>cases y),r.len,λn o a d e=>BZ (r.obj n o a d e) c,r.inj⟩
end
noncomputable def fu(P:IS)(w:Jp):CXT:=λb H s E e c=>∃a C v d,e=.ref a/\c.os=s.os/\Oe c.gens/\Un (frs b) [] H d s.heap c.heap/\bU P w d c.heap/\V5 .none d a C v/\E (.ref a) none d
inductive iS (X:Cx) (pins:List (Addr×Obj)) (σ:L2.St) (XQ:Addr->Hp->Prop) (e:Ip) (s':Ir):Prop
 | mk (a) (C) (v) (H') (h0:e=.ref a) (h1:L2.Inv X pins σ H' s') (h2:V5 .none H' a C v) (h3:XQ a H'):iS X pins σ XQ e s'
def kB(X:Cx)(cm:Nat->Addr)(e:Expr)(d:ED):Prop:=
 ∀(a:List (Addr×Obj))(s:Ir)(σ:L2.St)(H:Hp)(Q:VK)(b:Addr->Hp->Prop),L2.Inv X a σ H s->pT X.K cm b d σ H Q->wpAny (model X.prog X.w) X.A (eval e X.env) (EP X a σ Q) (iS X a σ b) s
section
variable{X:Cx}{cm:Nat->Addr}{pins:List (Addr×Obj)}{σ:L2.St}{H:Hp}{s s':Ir}
theorem Ca{E:L2.XK}{e:Ip}(I:L2.Inv X pins σ H s)(h:fu X.prog X.w X.stack H s E e s'):iS X pins σ (λa i=>E (.ref a) none i) e s':=by
 obtain⟨a,C,v,i,rfl,os,c,un,j,f,q⟩:=h;obtain⟨l,g,d,t,k⟩:=s';obtain rfl:k=s.os:=os;exact⟨a,C,v,i,rfl,I.call un j c (λb z=>absurd z (by simp)),f,q⟩
theorem Cb{k:Nat}{f:Addr}{g:IQ}{ps:List Str}{i:Sp}{Q:VK}{E:L2.XK}{b:List Ip}{vs:List V}(F:ay X.prog X.w X.K X.mg X.base (fu X.prog X.w) k f g ps i)(j:aL k X.A)(l:L2.Binds X.K g ps [])
 (I:L2.Inv X pins σ H s) (r:aF vs b) (h:i vs H Q E):wpAny (model X.prog X.w) X.A (call (.ref f) b) (EP X pins σ Q) (iS X pins σ λa m=>E (.ref a) none m) s:=by
 have n:b.length=ps.length:=by rw[<-r.length];exact F.len _ _ _ _ h
 have c:=l s b I.kIn (by rw[JD];exact n);rw[JD]at c;refine Ma (KW (F.run X.A _ s H ⟨b,[]⟩ b vs Q E j I.env0 c r h) λr s' d=>?_);cases r with
 | error e=>exact Ca I d
 | ok o=>
   cases o with
   | ret u=>exact I.after d
   | next=>exact IY d
   | brk=>exact IY d
   | cont=>exact IY d
theorem Cc{d:Addr->Hp->Prop}{e:Ip}(h:iS X pins σ (λa c=>∃b,IZ a=.ref b/\d b c) e s'):iS X pins σ d e s':=by
 obtain⟨a,C,v,c,f,I,g,b,i,j⟩:=h;cases i;exact⟨a,C,v,c,f,I,g,j⟩
end
section
variable{X:Cx}{cm:Nat->Addr}
theorem Cd{c:Nat}{f:Fun}{n k:Nat}{fa:Addr}{fd:IQ}{ps:List Str}{m:Str}{o e:Expr}{T:List Expr}{d:ED}{ds:AD}{C pos:Pos}{pl:Sem Bool}(ho:PE X.nox o (cW X.K cm d))(hc:ej X.K (cm c))(hm:gY X.K (cm c) m fa)
 (F:ay X.prog X.w X.K X.mg X.base (fu X.prog X.w) k fa fd ps (gG X.K cm f n)) (hn:∀vs A,f vs A≠.no->vs.length=n) (b4:∀i,i<19->cR i≠m) (hr:aL k X.A) (hb:L2.Binds X.K fd ps []) (ha:PA X.nox (e::T) (gr X.K cm ds))
 (b5:starEach (e::T) X.env=(false,eval e X.env)::starEach T X.env:=by exact D6 rfl) (hpl:(backTo pos (starEach T X.env)).any (·.1)=false:=by rfl)
 (ht:eval (.Call (.Attribute o m C) (e::T) [] pos) X.env=(do
  let ov <-eval o X.env
  standAt C.atName
  let(f,first) <-holding [ov] (getMethod ov m pl)
  callWith pos f first (backTo pos (starEach (e::T) X.env)) (backToKw pos (keywordEach [] X.env))):=by rfl) :
 kB X cm (.Call (.Attribute o m C) (e::T) [] pos) (u7 c f d ds):=by
 intro O s σ H Q XQ I ⟨ρ,A,D,rl,rs,g⟩;unfold u7 ao eu at g;rcases hd:d D A with⟨x,A1⟩ | ⟨c',v,A1⟩ | _
 case ex=>rw[hd]at g;exact IY g
 case no=>rw[hd]at g;exact IY g
 rw[hd]at g;refine MD (Jh (ho O s σ H (λv1 U=>∃y,aA ρ H y U/\aR X.K cm y A1 U/\RV y U x v1) (I.wish _) ⟨ρ,A,D,x,A1,rl,rs,hd,λy U v1 x1 J L=>⟨y,x1,J,L⟩⟩) (λu s1 zq=>?_) λ_ _ z=>IY z) ht;obtain⟨x',U,I1,rx,y,x1,J,L⟩:=zq;cases x with
 | ref j=>
   rcases hi:z9 j A1 with⟨ob,A2⟩ | ⟨c',v,A2⟩ | _
   case ex=>simp only[ao]at g;unfold z9 at hi;split at hi<;>cases hi
   case no=>simp only[ao]at g;rw[hi]at g;exact IY g
   obtain⟨rfl,hA,a,dx,kv,rfl,g0,hH,hp,hs⟩:=lM J L hi;have G:ez X.K cm ρ H XQ Q (ao (z9 j) (λo=>G1 (o.1=c) (ao (eu (ds D)) λvs=>f (.ref j::vs))) A2):=g;rw[aB hi]at G;have h:=G;clear g G;by_cases Y:ob.1=c
   case neg=>rw[show G1 _ _=stuck from if_neg Y]at h;exact IY h
   rw[Q3 Y]at h;subst Y;have b7:kv.lookup m=none:=by
    have c0:∀(l:List (Str×V)),(∀z∈l.map (·.1),z≠m)->l.lookup m=none:=λl=>by
     induction l with
     | nil=>simp
     | cons p q ih=>
       intro hz;rw[KU,beq_eq_false_iff_ne.mpr (λz=>hz p.1 (by simp) z.symm)];exact ih λz a5=>hz z (by simp at a5 ⊢;exact .inr a5)
    refine c0 kv λz hz=>?_;rw[hp.keys]at hz;obtain⟨q,hq,rfl⟩:=IC.mp hz;exact b4 _ (hs q hq)
   obtain rfl:u=IZ a:=rx;refine t8 I1.unwish hH hc hm b7 ?_;unfold ao eu at h;rcases N:ds D A2 with⟨xs,A3⟩ | ⟨c',v,A3⟩ | _
   case ex=>rw[N]at h;exact IY h
   case no=>rw[N]at h;exact IY h
   rw[N]at h;have g:ez X.K cm ρ H XQ Q (f _ A3):=h;refine Ls I.ok.mod.kin hm.kp (Jh (ha pos O s1 σ U (λa6 H2=>∃B,aA y U B H2/\aR X.K cm B A3 H2/\RVs B H2 xs a6) I1 ⟨y,A2,D,xs,A3,J,rs.mono x1,N,λB H2 a6 x2 a1 a2=>⟨B,x2,a1,a2⟩⟩) (λus s2 ⟨vs,H2,I2,r,B,x2,a1,a2⟩=>⟨I2.kIn,?_⟩) λ_ _ z=>IY z) b5 hpl;refine Jh (Cb (vs:=.ref a::vs) (E:=λe _ H'=>∃b,e=.ref b/\XQ b H') F hr hb I2.unwish (.cons rfl r) ⟨B,A3,.ref j::xs,a1,.cons (L.mono x2) a2,hn _ A3 (λz=>by rw[z]at g;exact g),?_⟩) (λ_ _ z=>z) λ_ _ z=>Cc z;have o2:=(g.ext x1).ext x2;revert o2;cases f _ A3 with
   | ok v A'=>exact λz=>z
   | ex c v A'=>simp
   | no=>exact λz=>z
 | _=>exact IY g
end
def mv(X:Cx)(c:Addr->Hp->Prop):Prop:=∀(b:List (Addr×Obj))(σ:L2.St)(H:Hp)(s:Ir)(a C:Addr)(v:V),L2.Inv X b σ H s->V5 .none H a C v->c a H->X.xe (.ref a) s
section
variable{X:Cx}{cm:Nat->Addr}{XE:Addr->Hp->Prop}
theorem noX_inv{c:Type}{m:M c}{A:PHp}{r:R c}(h:eu m A=r):(∃a b,m A=.ok a b/\r=.ok a b)\/r=.no:=by
 unfold eu at h;rcases d:m A with⟨a,b⟩ | _ | _<;>rw[d]at h
 .exact .inl ⟨a,b,rfl,h.symm⟩
 .exact .inr h.symm
 .exact .inr h.symm
theorem Ce{st:Stmt}{t:TS}(h:PS X.nox st t):PS X st t:=λa s b H D I c=>
 Jh (h a s b H D (I.wish _) c) (λ_ _ q=>q.unwish) λ_ _ z=>IY z
theorem kC{st:Stmt}{s:SD}(h:PS X.nox st (fK X.K cm s)):PS X st (q5 X.K cm XE (fj s)):=W0 (Ce h) λD j H c=>by
 obtain⟨a,A,b,d,g,o⟩:=c;rcases noX_inv rfl with⟨f,i,e,q⟩ | q
 .have o:de X.K cm a H XE D (eu _ A):=o;rw[q]at o;exact⟨a,A,b,f,i,d,g,e,o⟩
 .have o:de X.K cm a H XE D (eu _ A):=o;rw[q]at o;exact IY o
theorem kD{st:List Stmt}{s:SD}(h:cC X.nox st (fK X.K cm s)):cC X st (q5 X.K cm XE (fj s)):=lJ (cC.nox h) λD j H c=>by
 obtain⟨a,A,b,d,g,o⟩:=c;rcases noX_inv rfl with⟨f,i,e,q⟩ | q
 .have o:de X.K cm a H XE D (eu _ A):=o;rw[q]at o;exact⟨a,A,b,f,i,d,g,e,o⟩
 .have o:de X.K cm a H XE D (eu _ A):=o;rw[q]at o;exact IY o
theorem V3{st:Stmt}{s:SD}(h:PS X st (q5 X.K cm XE s)):cC X [st] (q5 X.K cm XE s):=ng h
theorem V6{st:Stmt}{rest:List Stmt}{s r:SD}(l:PS X st (q5 X.K cm XE s))(m:cC X rest (q5 X.K cm XE r)):cC X (st::rest) (q5 X.K cm XE (D3 s r)):=
 lJ (rd l m) λD z H n=>by
  obtain⟨p,A,e,q,u,o⟩:=n;refine⟨p,A,e,q,u,?_⟩;unfold D3 ao at o;rcases w:s e A with⟨f,j⟩ | ⟨c,v,j⟩ | _<;>rw[w]at o
  .intro a k h b;cases f with
   | nx i=>exact λg d=>⟨a,j,i,b,d,de.ext o h⟩
   | rt v=>exact λx y=>o a k h b x y
   | _=>exact λg d=>o a k h b g d
  .exact o
  .exact o
theorem jC{c:Expr}{a b:List Stmt}{t:TD}{s u:SD}{pos:Pos}(j:PT X.nox c (gq X.K cm t))(k:cC X a (q5 X.K cm XE s))(l:cC X b (q5 X.K cm XE u)):PS X (.If c a b pos) (q5 X.K cm XE (bF (gB t) s u)):=
 W0 (rg (PT.nox j) k l) λD v H m=>by
  obtain⟨n,A,d,p,h,o⟩:=m;unfold bF gB ao at o;rcases noX_inv rfl with⟨x,i,r,q⟩ | q<;>rw[q]at o
  .refine⟨n,A,d,x,i,p,h,r,λe w g f=>?_⟩;cases x with
   | true=>exact⟨e,i,d,f,h.mono g,de.ext o g⟩
   | false=>exact⟨e,i,d,f,h.mono g,de.ext o g⟩
  .exact IY o
theorem Cf{e:Expr}{d:ED}(i:mv X XE)(h:kB X cm e d):PE X e (pT X.K cm XE d):=λb s g H Q I ⟨j,A,c,k,l,o⟩=>
 Jh (h b s g H Q XE I ⟨j,A,c,k,l,o⟩) (λ_ _ z=>z) λu m ⟨a,C,v,n,p,r,f,q⟩=>by subst p;exact i b g n m a C v r f q
theorem uw{e:Expr}{d:ED}{pos:Pos}(k:mv X XE)(h:kB X cm e d)(hs:swapsWith e none pos.line X.env=pure false:=by rfl):PS X (.Expr e pos) (q5 X.K cm XE (T4 d)):=
 W0 (rf (Cf k h) hs) λD l H m=>by
  obtain⟨n,A,a,p,i,o⟩:=m;refine⟨n,A,a,p,i,?_⟩;unfold T4 ao at o;rcases hs:d a A with⟨f,q⟩ | ⟨c,v,q⟩ | _<;>rw[hs]at o
  .exact λb r u j g s=>o b r j g l (i.mono j)
  .exact o
  .exact o
end
theorem Cg{fs:List Addr}{L:Addr}{H0 H H':Hp}{i h h':Heap}(a:Un fs [] H0 H i h)(b:Un (L::fs) [] H H' h h')(p:i.objs.size<=L):Un fs [] H0 H' i h':=by
 have ne:∀b o,i.get? b=some o->b≠L:=λb o e=>IH (IL (IA e) p);refine⟨λc o e n g d=>?_,λc o e n g d=>?_,λc o e n d=>?_,λc o e d=>?_,λc m e=>b.tups c m (a.tups c m e),λc o u e=>b.frzs c o u (a.frzs c o u e),λc q e=>?_⟩
 .exact b.keep c o (a.keep c o e n g d) (a.free c o e n d) (λz=>(IF.mp z).elim (ne c o e) g) d
 .obtain⟨v,f⟩:=a.slot c o e n g d;obtain⟨j,k⟩:=b.slot c _ f (a.free c o e n d) (IE _ g) d;exact⟨j,k⟩
 .obtain⟨l,f⟩:=a.there c o e d;exact b.free c l f (a.free c o e n d) d
 .obtain⟨l,f⟩:=a.there c o e d;exact b.there c l f d
 .obtain⟨r,f⟩:=a.tbls c q e;obtain⟨s,k⟩:=b.tbls c _ f;exact⟨r++s,by rw[k,Nk]⟩
def mw(E:L2.XK)(a:Addr)(H':Hp):Prop:=∃C v,V5 .none H' a C v/\∀b,cP H' b->V5 .none b a C v->E (.ref a) none b
section
variable{P:IS}{w:Jp}{K:Io}{mg:Str->Option Ip}{base:Heap}{cm:Nat->Addr}
theorem v8{N:List Str}{e:Str}{b:Nc}{f:Addr}{h:Ip}{A:Ji}{d:List Env}{k:Ir}{H0:Hp}{E:L2.XK}:mv (Z6 (fu P w) P w K mg base N e b f h A d k H0 E) (mw E):=by
 intro i m H s a n o I _ ⟨C,v,l,q⟩;refine BY (P:=P) (w:=w) I.ok.frames I.stack rfl I.stkFree I.hok l λp j u ok g c=>?_;refine⟨a,C,v,j,rfl,I.os,I.bare,?_,ok,g,q j c g⟩;exact Cg I.base (u.mono I.stkSub λ_ z=>z) (Iw _)
theorem Ci{n p:Nat}{s:SD}{i:List PV}{B:PHp}{ρ:List Addr}{H:Hp}{Q:VK}{E:L2.XK}(h:ez K cm ρ H (λa f=>E (.ref a) none f) Q (fn n p s i B)) :
 de K cm ρ H (mw E) { nx:=λ_ f=>Q .non f,rt:=Q } (s (Ws.start n i) B):=by
 unfold fn at h;by_cases y:i.length=p
 case neg=>rw[show G1 _ _=stuck from if_neg y]at h;exact IY h
 rw[Q3 y]at h;unfold ao at h;rcases z:s _ B with⟨o,A⟩ | ⟨c,v,A⟩ | _<;>rw[z]at h
 .cases o with
  | nx C=>exact λb j k d D _=>h b j _ k d .non
  | rt u=>exact λb j k d g l=>h b j g k d l
  | _=>exact IY h
 .exact λm f a g x G I q=>⟨cm c,g,q,λr calm e=>h m r a g (x.trans calm.ext) (G.calm calm) (I.mono calm.ext) e⟩
 .exact h
theorem Cj{x b:Str}{st:Stmt}{f:Addr}{j:IQ}{N ps:List Str}{k:Nat}{s:SD}(F:L2.Fun K x b st f j)(S:C6 N ps (C2 st))
 (d:∀(c:Ip)(A:Ji)(a:List Env)(e:Ir)(H:Hp)(E:L2.XK),aL k (A.deeper (Je b (C2 st) e.heap.objs.size f c))->
  cC (Z6 (fu P w) P w K mg base N b (C2 st) f c A a e H E) (G9 st) (q5 K cm (mw E) s)) :
 ay P w K mg base (fu P w) (k+1) f j ps (gG K cm (fn N.length ps.length s) ps.length):=by
 obtain⟨y,z,kV,q,C,D,c,G,r,rfl,lk,g⟩:=F.ex;refine lr lk g S (λu H Q E ⟨l,A,m,n,i,p,_⟩=>by rw[<-i.length];exact p) λA a e H u Q E v h=>⟨_,d c A a e H E v,?_⟩;obtain⟨l,B,m,n,i,p,o⟩:=h;exact⟨l,B,Ws.start _ m,n,cc.start0 i,Ci o⟩
end
theorem Ck{n p:Nat}{s:SD}{vs:List PV}{A:PHp}(h:fn n p s vs A≠.no):vs.length=p:=by
 by_cases a:vs.length=p
 .exact a
 .exfalso;apply h;show G1 _ _ A=_;rw[show G1 _ _=stuck from if_neg a];rfl
structure kE(P:IS)(w:Jp)(K:Io)(mg:Str->Option Ip)(base:Heap)(cm:Nat->Addr)(c:Nat)(m:Str)(k:Nat)(ps:List Str)(f:Fun)(n:Nat):Prop where
 ex:∃(fa:Addr)(fd:IQ),ay P w K mg base (fu P w) k fa fd ps (gG K cm f n)/\gY K (cm c) m fa/\L2.Binds K fd ps []
 len:∀vs A,f vs A≠.no->vs.length=n
section
variable{X:Cx}{cm:Nat->Addr}
theorem pU{c:Nat}{f:Fun}{n k j:Nat}{ps:List Str}{m:Str}{o e:Expr}{b:List Expr}{d:ED}{l:AD}{a pos:Pos}{p:Sem Bool}(D:kE X.prog X.w X.K X.mg X.base cm c m k ps f n)(q:k<=j)(r:aL j X.A)(s:ej X.K (cm c))(u:PE X.nox o (cW X.K cm d))(v:PA X.nox (e::b) (gr X.K cm l))(g:∀i,i<19->cR i≠m)
 (h:starEach (e::b) X.env=(false,eval e X.env)::starEach b X.env:=by exact D6 rfl) (hpl:(backTo pos (starEach b X.env)).any (·.1)=false:=by rfl)
 (x:eval (.Call (.Attribute o m a) (e::b) [] pos) X.env=(do
  let ov <-eval o X.env
  standAt a.atName
  let(f,first) <-holding [ov] (getMethod ov m p)
  callWith pos f first (backTo pos (starEach (e::b) X.env)) (backToKw pos (keywordEach [] X.env))):=by rfl) :
 kB X cm (.Call (.Attribute o m a) (e::b) [] pos) (u7 c f d l):=by
 obtain⟨B,C,F,y,z⟩:=D.ex;exact Cd u s y F D.len g (r.mono q) z v h hpl x
end
noncomputable def jD(K:Io):Sp:=λa H Q _=>∃e C b v,a=[.ref e,v]/\H e=some (XO C none none e)/\XK K C b/\∀d,H d=none->d≠e->Q .non (aJ (aJ H e (XO C (some d) none e)) d (.xd [("at",v)]))
theorem Cm{P:IS}{w:Jp}{K:Io}{mg:Str->Option Ip}{base:Heap}{x b:Str}{st:Stmt}{f:Addr}{j:IQ}{k:Nat}{N:List Str}(F:L2.Fun K x b st f j)(S:C6 N N (C2 st))(m:N.length=2)
 (g:∀(c:Ip)(A:Ji)(a:List Env)(i:Ir)(H:Hp)(E:L2.XK),aL k (A.deeper (Je b (C2 st) i.heap.objs.size f c))->
  cC (Z6 aS P w K mg base N b (C2 st) f c A a i H E).nox (G9 st) (ur K (fN 0) (fN 1))) :
 ay P w K mg base aS (k+1) f j N (jD K):=by
 refine F.ok S (λn H Q E ⟨e,C,l,v,h,_⟩=>by rw[h,m];rfl) λc A a i H n Q E o h=>⟨_,g c A a i H E o,?_⟩;obtain⟨e,C,l,v,rfl,p,q,r⟩:=h;have s:(L2.start N [V.ref e,v])[0]?=some (some (V.ref e)):=by unfold L2.start;simp
 have u:(L2.start N [V.ref e,v])[1]?=some (some v):=by unfold L2.start;simp
 exact⟨v,u,.ref e,s,e,C,l,rfl,p,q,λd y z=>r d y z⟩
section
variable{X:Cx}{pins:List (Addr×Obj)}{σ:L2.St}{H:Hp}{s:Ir}{E:Ip->Ir->Prop}
theorem Cn{C n:Addr}{z:IQ}{k:Nat}{ps:List Str}{v:V}{u:Ip}{Q:VK}(m:XK X.K C n)(F:ay X.prog X.w X.K X.mg X.base aS k n z ps (jD X.K))(D:aL (k+1) X.A)(G:L2.Binds X.K z ps [])
 (I:L2.Inv X pins σ H s) (r:L2.RelV v u) (h:∀e d,H e=none->H d=none->d≠e->Q (.ref e) (aJ (aJ H e (XO C (some d) none e)) d (.xd [("at",v)]))) :
 wpAny (model X.prog X.w) X.A (call (.ref C) [u]) (EP X pins σ Q) E s:=by
 have J:∀b o,s.heap.get? b=some o->(s.heap.push { cls:=.type "tuple",data:=.seq [u].toArray }).get? b=some o:=λb o e=>Im _ e;have L:((s.heap.push { cls:=.type "tuple",data:=.seq [u].toArray }).push (iR C s.heap.objs.size)).get? (s.heap.objs.size+1)=some (iR C s.heap.objs.size):=by heap_get
 have N:=I.kept (t':=s.toks) J;have p:=N.laid (a:=s.heap.objs.size+1) (o:=XO C none none _) (t':=s.toks) (λb o q=>Im _ q) (Oh (JG _ _))
  (pN ⟨_,_,L,rfl,rfl,rfl,rfl,rfl⟩)
 have x:=I.hok.fresh (Lb _);have i:jD X.K [.ref _,v] _ (λw O=>w=.non/\Q _ O) E0:=
  ⟨s.heap.objs.size+1,C,n,v,rfl,C8,m,λd hd j=>⟨rfl,by
   rw[wO];exact h _ d x (by rw[ak j]at hd;exact hd) j⟩⟩
 have B:aF [V.ref _,v] [IZ (s.heap.objs.size+1),u]:=.cons rfl (.cons r .nil);have T:[IZ (s.heap.objs.size+1),u].length=ps.length:=by
  have e:=B.length;rw[F.len _ _ _ _ i]at e;exact e.symm
 have y:=G _ [IZ _,u] p.kIn (by exact T);obtain⟨hh,g,d,t,os⟩:=s;refine Ma (BR (m.cls I.kIn) (OA I.kIn m.init) (λl=>PySem.W.bind_fn I.kIn l (beq_iff_eq.mp m.fn)) (by simp[sizeLine]) (KW (F.run _ _ _ _ ⟨[IZ _,u],[]⟩ _ _ _ _ (D.make C [u] [])
  (p.env0.make C [u] []) y B i) λr s' c=>?_))
 cases r with
 | error e=>exact IY c
 | ok U=>
   cases U with
   | ret u=>
     obtain⟨v,Y,I3,rv,ev,q3⟩:=p.after c;subst ev;exact⟨rv,⟨V.ref _,Y,I3,rfl,q3⟩⟩
   | next=>exact IY c
   | brk=>exact IY c
   | cont=>exact IY c
end
section
variable{M:Qa}{A:Ji}{E:Ip->Ir->Prop}{env:Env}
theorem Co{s:Ir}{x:Sem Ip}{C:Addr}{Q:Flow->Ir->Prop}(o:A.handled=none)
 (h:wpAny M A x (λv a=>∃e i j,v=.ref e/\mr a.heap C "ValueError.__new__"/\a.heap.get? e=some i/\i.cls=.ref C/\i.data=.fields j/\j[1]?=some .none/\E (.ref e) a) E s) :
 wpAny M A (raiseStmt env (some x) none) Q E s:=by
 unfold raiseStmt;refine Il (Jh h (λv a c=>?_) λ_ _ x=>x);obtain⟨e,i,j,rfl,p,l,f,hd,r,u⟩:=c;obtain⟨z,q,N,bs,w,m,B,sub,D,y,G,H,I,J,L,O,n,_,b,_⟩:=p.obj;have k:(IZ C::w).contains (.type "BaseException")=true:=by rw[Ku,b,MG]
 obtain⟨T,g,d,U,os⟩:=a;repeat (first | (with_reducible refine JX l ?_;first | rw[f] | rw[hd]) | with_reducible refine JX n ?_ | (with_reducible refine KJ n ?_;rw[k]) | with_reducible refine Jt l hd r ?_ | wp_step)
 exact wpAny_raiseNew_none o u
end
structure iT(P:IS)(w:Jp)(K:Io)(mg:Str->Option Ip)(base:Heap)(cm:Nat->Addr)(c:Nat)(x:Str)(k:Nat):Prop where
 ex:∃(fI:Addr)(fd:IQ)(ps:List Str),ay P w K mg base aS k fI fd ps (jD K)/\XK K (cm c) fI/\mg x=some (.ref (cm c))/\L2.Binds K fd ps []
section
variable{X:Cx}{cm:Nat->Addr}{XE:Addr->Hp->Prop}
theorem Cp{H:Hp}{C e d:Addr}{v:V}(he:H e=none)(hd:H d=none)(a:d≠e):V5 .none (aJ (aJ H e (XO C (some d) none e)) d (.xd [("at",v)])) e C v:=
 ⟨d,none,by rw[ak (JW a),C8],C8,λT z=>nomatch z⟩
theorem m4{c k k':Nat}{x:Str}{e:Expr}{ds:AD}{np f pos:Pos}(hx:mv X XE)(hc:X.calm=true)(D:iT X.prog X.w X.K X.mg X.base cm c x k)(hk:k+1<=k')(hr:aL k' X.A)(hg:Gl X x)
 (ha:PA X.nox [e] (gr X.K cm ds)) (y:(x == ("__debug__" : Str))=false:=by decide) (he:starEach [e] X.env=(false,eval e X.env)::starEach [] X.env:=by exact D6 rfl) (hpl:(backTo f (starEach [] X.env)).any (·.1)=false:=by rfl) :
 PS X (.Raise (some (.Call (.Name x np) [e] [] f)) none pos) (q5 X.K cm XE (l5 c ds)):=by
 intro h s σ H D' I ⟨ρ,A,B,rl,rs,o⟩;obtain⟨fI,fd,ps,F,E,hm,hb⟩:=D.ex;rw[arm_exec_Raise];refine Il (Mf (Co (C:=cm c) (I.ok.hd hc) (Il (Jh ?_ (λv s3 l=>Il (Mf (Iv l))) λ_ _ x=>x))));unfold l5 ao at o;rcases noX_inv rfl with⟨G,A1,e1,q⟩ | q<;>rw[q]at o
 case inr=>exact IY o
 refine Ks (x8 I hg hm ?_ y);refine Ls I.ok.mod.kin E.kp (Jh (ha f h s σ H (λm g=>∃b,aA ρ H b g/\aR X.K cm b A1 g/\RVs b g G m) (I.wish _) ⟨ρ,A,B,G,A1,rl,rs,e1,λb g v1 J i j=>⟨b,J,i,j⟩⟩) (λus s1 ⟨m,g,I1,r,b,J,i,j⟩=>⟨I1.kIn,?_⟩) λ_ _ z=>IY z) he hpl;rcases G with _ | ⟨v,_ | ⟨w',t⟩⟩
 .exact IY o
 .cases j with
  | cons rv rn=>
    rename_i u t';cases rn;cases r with
    | cons r1 r2=>
      rename_i u' t';cases r2;refine Jh (Cn (Q:=λz H2=>∃a d,z=.ref a/\g a=none/\g d=none/\d≠a/\H2=aJ (aJ g a (XO _ (some d) none a)) d _) E F (hr.mono hk) hb I1.unwish r1 λa d L n l=>⟨a,d,rfl,L,n,l,rfl⟩) (λz s2 zq=>?_) λ_ _ z=>z;obtain⟨z',H2,N,rz,a,d,L,n,l,O,h5⟩:=zq;subst L;obtain rfl:z=IZ a:=rz;subst h5;have fl:V5 .none _ a (cm c) u:=Cp n l O;have p:aJ g a (XO (cm c) (some d) none a) d=none:=by rw[ak O];exact l
      have T:aA b g b (aJ g a (XO (cm c) (some d) none a)):=aA.same n;have U:aA b _ b (aJ _ d (.xd [("at",u)])):=aA.same p;have Y:=(i.grow T (R4 n)).grow U (R4 p);obtain⟨oe,ws,y1,y2,y3,y4,y5,y6⟩:=pP N (by rw[ak (JW O),C8]);exact⟨a,oe,ws,rfl,E.cls N.kIn,y1,y2,y4,y5,hx h σ _ s2 a _ u N fl (o b _ a u ((J.trans T).trans U) Y ((rv.mono T).mono U) fl)⟩
 .exact IY o
end
theorem uz{K:Io}{C C' n:Addr}(x:XK K C n):∃d q N bs c a e sub f b g h i j k l,K.lookup C=some (excClassObj d q C N bs c a e sub f b g h i j k l "ValueError.__new__")/\V2 c=true/\(IZ C::c).contains (.ref C')=jE K C C':=by
 obtain⟨d,q,N,bs,c,a,e,sub,f,b,g,h,i,j,k,l,m,o,_⟩:=x.obj;refine⟨d,q,N,bs,c,a,e,sub,f,b,g,h,i,j,k,l,m,o,?_⟩;unfold jE;rw[m]
section
variable{M:Qa}{A:Ji}{E:Ip->Ir->Prop}{s:Ir}
theorem Cq{K:Io}{C C' w i e:Addr}{p:Obj}{Q:Bool->Ir->Prop}(b:K.In s.heap)(x:XK K C w)(y:XK K C' i)(he:s.heap.get? e=some p)(c:p.cls=.ref C)(j:Q (jE K C C') s):wpAny M A (excMatches (.ref e) (.ref C')) Q E s:=by
 obtain⟨nm,q,N,bs,z,r,sn,sub,ab,B,dd,k0,k1,k2,k3,k5,D,ho,G⟩:=uz (C':=C') x;obtain⟨H,q',N',I,k,l,J,u,L,v,O,T,U,Y,a0,a1,m,n,_⟩:=uz (C':=C') y;have hC:=b _ _ D;have h:=b _ _ m;have a:=(pQ n).2.1;have o:(IZ C'::k).contains (.type "BaseException")=true:=by rw[Ku,a,MG]
 have f:=tc_notTuple;rw[<-G]at j;obtain⟨hp,g,d,t,os⟩:=s;unfold excMatches;repeat (first | (with_reducible refine JX he ?_;rw[c]) | with_reducible refine JX h ?_ | (with_reducible refine KJ h ?_;rw[o]) | with_reducible refine KJ hC ?_ | wp_step)
 cases hb:(IZ C::z).contains (.ref C')<;>(rw[hb]at j;wp_walk;exact j)
end
abbrev kF(X:Cx)(a:Addr):Cx:={ X with A:=X.A.mark (some (.ref a)),calm:=false,xe:=λ_ _=>False }
section
variable{X:Cx}{pins:List (Addr×Obj)}{σ:L2.St}{H:Hp}{s:Ir}{a:Addr}
theorem uA(I:L2.Inv X pins σ H s)(a:Addr):L2.Inv (kF X a) pins σ H s:=
 ⟨⟨I.ok.mod,I.ok.kind,I.ok.glob,I.ok.blt,I.ok.above,I.ok.inj,I.ok.has,I.ok.cab,(λz=>by cases z),I.ok.frames,I.ok.stk,I.ok.exf,I.ok.bs,I.ok.bsz,I.ok.noex,I.ok.exfs,I.ok.funs,I.ok.frf⟩,I.os,I.bare,I.base,I.loc,I.cell,I.free,I.freeC,I.pin,I.hok,I.len⟩
theorem my(O:X.Ok)(I:L2.Inv (kF X a) pins σ H s):L2.Inv X pins σ H s:=⟨O,I.os,I.bare,I.base,I.loc,I.cell,I.free,I.freeC,I.pin,I.hok,I.len⟩
theorem Cr{D:w9}{f:Flow}(O:X.Ok)(h:SP (kF X a) pins D f s):SP X pins D f s:=by
 cases f with
 | next=>obtain⟨b,c,I,q⟩:=h;exact⟨b,c,my O I,q⟩
 | brk=>obtain⟨b,c,I,q⟩:=h;exact⟨b,c,my O I,q⟩
 | cont=>obtain⟨b,c,I,q⟩:=h;exact⟨b,c,my O I,q⟩
 | ret u=>obtain⟨v,b,c,I,r,q⟩:=h;exact⟨v,b,c,my O I,r,q⟩
end
structure pV(K:Io)(cm:Nat->Addr)(es:List Nat):Prop where
 xk:∀c∈es,∃fI,XK K (cm c) fI
 sub:∀c∈es,∀k∈es,jE K (cm c) (cm k)=gC c k
section
variable{X:Cx}{cm:Nat->Addr}
def PH(X:Cx)(cm:Nat->Addr)(i:List Nat)(hs:List MV)(j:List Hd):Prop:=
 ∀(b:List (Addr×Obj))(s:Ir)(σ:L2.St)(H:Hp)(D:w9)(E:Ip->Ir->Prop)(a:Addr)(c:Nat)(h:V)(ρ:List Addr)(A:PHp)(e:PSt)(v:PV)(f:Fl)(A':PHp),L2.Inv X b σ H s->V5 .none H a (cm c) h->c∈i->
  aR X.K cm ρ A H->cc ρ H e σ->RV ρ H v h->f6 j c v e A=.ok f A'->(∀d g,aA ρ H d g->aR X.K cm d A' g->oG D d g f)->wpAny (model X.prog X.w) X.A (handleBy (.ref a) X.env hs) (SP X b D) E s
theorem Cs{d:List Nat}{hs:List MV}:PH X cm d hs []:=by
 intro b s h H D E a c i j A e v f l I m n o p q g k;cases g
theorem Ct{n:List Nat}{hs:List MV}{J:List Hd}{k:Nat}{x:Str}{np pos:Pos}{e:Stmt}{g:List Stmt}{b:SD}(p:pV X.K cm n)(L:k∈n)(hg:Gl X x)(hm:X.mg x=some (.ref (cm k)))
 (hb:∀a,cC (kF X a) (e::g) (fK X.K cm b)) (hr:PH X cm n hs J) (r:(x == ("__debug__" : Str))=false:=by decide) :
 PH X cm n (.ExceptHandler (some (.Name x np)) none (e::g) pos::hs) ((k,none,b)::J):=by
 intro h s N H D E a c v' O A j v f Q I o y T U rv l Y;obtain⟨fI,xk⟩:=p.xk c y;obtain⟨a8,B⟩:=p.xk k L;obtain⟨d,tb,f1,f2,f3⟩:=id o;obtain⟨oe,vs,y1,y2,y3,y4,y5,y6⟩:=pP I f1;refine wpAny_handleBy_cons (codeAny_handlers_test (x8 (X:=kF X a) (uA I a) hg hm ?_ r)) (by intro q;cases q);refine Cq I.kIn xk B y1 y2 ?_;rw[p.sub c y k L];unfold f6 at l;cases m:gC c k with
 | true=>
   rw[m,if_pos rfl]at l;refine codeAny_handlers_suite ?_;refine pS (P:=X.prog) (w:=X.w) I.hok o λh' H' u ok b3 i=>?_;have I2:=I.un (t':=s.toks) (u.mono (λ_ z=>nomatch z) λ_ z=>z) ok;refine Jh (hb a h _ N H' D (uA I2 a) ⟨O,A,j,f,Q,T.calm i,U.mono i.ext,l,λC H1 x1 G=>Y C H1 (i.ext.trans x1) G⟩) (λo s2 q=>?_) λ_ _ z=>IY z;exact Cr I.ok q
 | false=>
   rw[m,if_neg (by simp)]at l;exact hr h s N H D E a c v' O A j v f Q I o y T U rv l Y
end
structure XG(K:Io)(C:Addr):Prop where
 ga:findIn K (.ref C) "__getattribute__" = some (some (.builtin "BaseException.__getattribute__"))
 gt:findIn K (.ref C) "__getattr__" = some none
 hd:hasDictIn K C=true
 cl:findIn K (.ref C) "__class__" = some (some (.builtin "object.__class__"))
 cg:specialIn K (.builtin "object.__class__") "__get__" = some (some (.builtin "getset_descriptor.__get__"))
 ct:takesIn K (.builtin "object.__class__")=some true
 mo:mroIn K C (.type "object")=some true
structure Cu(K:Io)(cm:Nat->Addr)(es:List Nat):Prop where
 xg:∀c∈es,XG K (cm c)
 kit:∀c∈es,∀k∈es,kitOne K (.ref (cm c)) (.ref (cm k))=some (gC c k)
 kitV:∀c∈es,kitOne K (.ref (cm c)) (.type "ValueError")=some true
def uB(X:Cx)(cm:Nat->Addr)(st:Stmt)(c:SD):Prop:=
 ∀(a:List (Addr×Obj))(s:Ir)(σ:L2.St)(H:Hp)(D:w9)(b:Addr->Hp->Prop),L2.Inv X a σ H s->q5 X.K cm b c D σ H->wpAny (model X.prog X.w) X.A (exec st X.env) (SP X a D) (iS X a σ b) s
section
variable{X:Cx}{cm:Nat->Addr}
theorem Cv{e:Expr}{d:ED}{pos:Pos}(h:kB X cm e d)(hs:swapsWith e none pos.line X.env=pure false:=by rfl):uB X cm (.Expr e pos) (T4 d):=by
 intro a s g H D n I ⟨p,A,b,q,l,o⟩;refine wpAny_Expr_any (Jh (h a s g H _ n I ⟨p,A,b,q,l,?_⟩) (λv B ⟨x,i,r,C,u⟩=>⟨g,i,r,u⟩) λ_ _ z=>z) I.quiet hs;unfold T4 ao at o;rcases hs:d b A with⟨f,w⟩ | ⟨c,v,w⟩ | _<;>rw[hs]at o
 .exact λj i E m k y=>o j i m k g (l.mono m)
 .exact o
 .exact o
theorem Cw{G:List Nat}{st:Stmt}{h₀:MV}{hs:List MV}{pos:Pos}{b:SD}{J:List Hd}(i:X.stack=X.env::X.outer/\X.env.frame=some X.env.locals)(hb:uB X cm st b)(hh:PH X cm G (h₀::hs) J) :
 Ps X cm (.Try [st] (h₀::hs) [] [] pos) (ka G b J):=by
 intro g s T H D I ⟨U,A,e,f,Y,rl,rs,h,k⟩;refine wpAny_Try_except (NT (Jh (hb g s T H D (λa r=>∃c v d j o,aA U H d r/\aR X.K cm d j r/\RV d r v o/\V5 .none r a (cm c) o/\c∈G/\f6 J c v e j=.ok f Y) I ⟨U,A,e,rl,rs,?_⟩) (λu y q=>?_) λh y zq=>?_))
 .unfold ka at h;rcases L:b e A with⟨f1,j⟩ | ⟨c,v,j⟩ | _<;>rw[L]at h
  .cases h;exact k
  .obtain⟨N,h⟩:=C7 h;exact λl H' a o B m n u=>⟨c,v,l,j,o,B,m,n,u,N,h⟩
  .cases h
 .cases u with
  | next=>exact Lw (Lw q)
  | _=>exact q
 .obtain⟨a,C,v0,r,h1,p,_,c,v,d,j,o,B,m,n,u,N,O⟩:=zq;subst h1;have w:=p.ok.frames;have hl:=p.stack;have x:=p.stkFree;rw[i.1]at w hl x;refine uv w hl i.2 x p.hok u λh2 H2 u2 o2 f2 c2=>?_;have I2:=p.call (t':=y.toks) (d':=y.drawn) (ch:=[]) (by rw[i.1];exact u2) o2 p.bare (λb z=>absurd z nofun);refine pS o2 f2 λh3 H3 u3 o3 f3 c3=>?_;have I3:=I2.un (t':=y.toks) (u3.mono nofun λ_ z=>z) o3;have E:=c2.trans c3;exact hh g _ T H3 D X.xe a c o d j e v f Y I3 f3 N (m.calm E) ((rs.mono B).mono E.ext) (n.mono E.ext) O λl H' x' Q=>k l H' ((B.trans E.ext).trans x') Q
end
end Ws
namespace Ws
open PySem L2
section
variable{X:Cx}{cm:Nat->Addr}
theorem Cy{a b:Expr}{d d':ED}{p pos:Pos}(c:X.calm=true)(z:Pe X cm a d)(B:Pe X cm b d')(C:Gl X "max")(D:X.mg "max" = none)
 (hs:starEach [a,b] X.env=(false,eval a X.env)::starEach [b] X.env:=by exact D6 rfl) (g:starEach [b] X.env=(false,eval b X.env)::starEach [] X.env:=by exact D6 rfl) (hpl:(backTo pos (starEach [b] X.env)).any (·.1)=false:=by rfl) :
 Pe X cm (.Call (.Name "max" p) [a,b] [] pos) (ou d d'):=
 D7 (V4 (yk c) C D PyProof.Rows.boot_max (d7 z (d7 B lq g) hs) (he:=hs) (hpl:=hpl)) λY H Q E=>by
  obtain⟨G,A,f,v,A',I,s,J,k⟩:=E;obtain⟨x,u,L,h⟩:=B0 J;obtain⟨y,N,O,e⟩:=B0 h;refine⟨G,A,f,x,u,I,s,L,λl H1 v1 w m n=>⟨l,u,f,y,N,m,s.mono w,O,λo T v2 U q r=>?_⟩⟩;cases x with
  | int i=>
    cases y with
    | int j=>
      cases e;cases n;cases r;exact⟨i,j,rfl,k o T _ (w.trans U) q (.int _)⟩
    | _=>cases e
  | _=>cases y<;>cases e
end
end Ws
namespace Ws
open PySem L2
theorem uC{i j:List Int}(h:i.map (JN:Int->Key)=j.map JN):i=j:=(List.map_inj_right λ_ _ z=>JN.inj z).mp h
section
variable{ρ:List Addr}{H:Hp}{K:Io}{A:PHp}{n:Nat}{v:V}
abbrev PT2(ρ:List Addr)(H:Hp)(m:List (List Int×PV))(a:List (List Key×V)):Prop:=Pairs (OW JN:List Int->List Key) ρ H m a
theorem PT2.len{m:List (List Int×PV)}{a:List (List Key×V)}(h:PT2 ρ H m a):m.length=a.length:=by
 have:=congrArg List.length h.keys;simpa using this.symm
theorem PT2.val:∀{m:List (List Int×PV)}{a:List (List Key×V)}(i:List Int),PT2 ρ H m a->(M3 m i=none/\i7 a (i.map JN)=none)\/∃x u,M3 m i=some x/\i7 a (i.map JN)=some u/\RV ρ H x u
 | [],a,i,h=>by obtain rfl:=h.nil_inv;exact .inl ⟨rfl,rfl⟩
 | p::r,a,i,h=>by
   obtain⟨u,b,rfl,c,t⟩:=h.cons_inv;unfold M3;by_cases e:p.1=i
   .rw[if_pos e,y9 (by rw[e])];exact .inr ⟨_,_,rfl,rfl,c⟩
   .rw[if_neg e,z7 (λz=>e (uC z))];exact PT2.val i t
theorem PT2.some_eq{m:List (List Int×PV)}{c:List (List Key×V)}(i:List Int)(h:PT2 ρ H m c):(i7 c (i.map JN)).isSome=(M3 m i).isSome:=by
 rcases PT2.val i h with⟨a,b⟩ | ⟨x,u,a,b,_⟩<;>rw[a,b]<;>rfl
theorem uD(i:List Int):∀m:List (List Int×PV),(m.any λp=>decide (p.1=i))=(M3 m i).isSome
 | []=>rfl
 | p::r=>by
   unfold M3;rw[Lk];by_cases e:p.1=i
   .rw[if_pos e,decide_eq_true e];rfl
   .rw[if_neg e,decide_eq_false e,Bool.false_or];exact uD i r
theorem PT2.repl{x:PV}{u:V}(b:RV ρ H x u)(i:List Int):∀{m:List (List Int×PV)}{a:List (List Key×V)},PT2 ρ H m a->PT2 ρ H (m.map λp=>if p.1=i then(p.1,x) else p) (a.map λp=>if p.1=(i.map JN) then(p.1,u) else p)
 | [],a,h=>by obtain rfl:=h.nil_inv;exact⟨rfl,.nil⟩
 | p::r,a,h=>by
   obtain⟨w,c,rfl,d,t⟩:=h.cons_inv;have ih:=PT2.repl b i t;rw[Jb,Jb];by_cases e:p.1=i
   .rw[if_pos e,if_pos (by rw[e])];exact Pairs.cons' b ih
   .rw[if_neg e,if_neg (λz=>e (uC z))];exact Pairs.cons' d ih
theorem PT2.snoc{x:PV}{u:V}(b:RV ρ H x u)(i:List Int):∀{m:List (List Int×PV)}{a:List (List Key×V)},PT2 ρ H m a->PT2 ρ H (m++[(i,x)]) (a++[(i.map JN,u)])
 | [],a,h=>by obtain rfl:=h.nil_inv;exact Pairs.cons' b ⟨rfl,.nil⟩
 | p::r,a,h=>by
   obtain⟨w,c,rfl,d,t⟩:=h.cons_inv;exact Pairs.cons' d (PT2.snoc b i t)
theorem PT2.put{x:PV}{u:V}(c:RV ρ H x u)(i:List Int){m:List (List Int×PV)}{b:List (List Key×V)}(h:PT2 ρ H m b):PT2 ρ H (Z2 m i x) (Z7 b (i.map JN) u):=by
 unfold Z2 Z7;have e:(b.any λp=>decide (p.1=(i.map JN)))=(m.any λp=>decide (p.1=i)):=by
  rw[uD,nF];exact h.some_eq i
 rw[e];by_cases a:(m.any λp=>decide (p.1=i))=true
 .rw[if_pos a,if_pos a];exact h.repl c i
 .rw[if_neg a,if_neg a];exact h.snoc c i
theorem R6{cm:Nat->Addr}{m:List (List Int×PV)}{A':PHp}(e:aR K cm ρ A H)(r:RV ρ H (.ref n) v)(h:X0 n A=.ok m A'):A'=A/\A[n]?=some (.dT m)/\∃a c,v=.ref a/\ρ[n]?=some a/\H a=some (.dT c)/\PT2 ρ H m c:=by
 cases r with
 | ref d=>
   unfold X0 at h;rcases b:A[n]? with _ | o
   .rw[b]at h;cases h
   .have q:=e.obj n o _ b d;cases o with
    | dT m=>rw[b]at h;cases h;obtain⟨f,g,i⟩:=q;exact⟨rfl,rfl,_,f,rfl,d,g,i⟩
    | _=>rw[b]at h;cases h
end
theorem X6{ρ:List Addr}{H:Hp}{a:PV}{j:List Int}{v:V}(h:R3 a=some j)(r:RV ρ H a v):∃b,v=.ref b/\H b=some (.tup ((j.map JN).map L2.kV)):=by
 cases a with
 | tup l=>
   cases r with
   | tup d c=>
     rw[S9 h]at c;have:=b9 c;refine⟨_,rfl,?_⟩;rw[d,this];congr 2;simp[L2.kV]
 | _=>cases h
section
variable{X:Cx}{cm:Nat->Addr}
theorem uE{y d:ED}{σ:L2.St}{H:Hp}{Q:VK}(h:cW X.K cm (iN y d) σ H Q):si (cW X.K cm y) (cW X.K cm d) σ H Q:=by
 obtain⟨D,A,e,v,A',E,u,G,k⟩:=h;obtain⟨w,z,I,i⟩:=B0 G;obtain⟨x,J,L,c⟩:=B0 i;refine⟨D,A,e,w,z,E,u,I,λl H1 v1 B o p=>⟨l,z,e,x,J,o,u.mono B,L,λq N v2 C f r=>?_⟩⟩;rcases g:R3 w with _ | j<;>rw[g]at c
 .cases c
 cases x with
 | ref n=>
   obtain⟨m,A3,O,s⟩:=B0 c;obtain⟨rfl,hA,a,kv,rfl,hn,T,U⟩:=R6 f r O;cases s;obtain⟨b,rfl,Y⟩:=X6 g (p.mono C);refine⟨a,_,rfl,cM.t T Y,?_⟩;rw[U.some_eq j];exact k q N _ (B.trans C) f (.bl _)
 | _=>cases c
theorem uF{i o:Expr}{y d:ED}{pos:Pos}(a:X.A.units+1<cLine)(b:Pe X cm i y)(c:Pe X cm o d)(e:behindInMarks .In o=false:=by rfl):Pe X cm (.Compare i [.In] [o] pos) (iN y d):=
 D7 (qY (sj a b c) e) λf H Q h=>uE h
theorem Cz{i o:Expr}{y d:ED}{pos:Pos}(a:X.A.units+1<cLine)(b:Pe X cm i y)(c:Pe X cm o d)(e:behindInMarks .In o=false:=by rfl):Pt X cm (.Compare i [.In] [o] pos) (E4 (iN y d)):=
 jn (nc (sj a b c) e) λf H Q h=>kf (λ_ _ _=>uE) h
theorem uG{o i g:Expr}{d y e:ED}{pos p:Pos}(hu:X.A.units+1<cLine)(ho:Pe X cm o d)(hi:Pe X cm i y)(hv:Pe X cm g e)(hs:swapsWith g (some (.Subscript o i p)) pos.line X.env=pure false:=by rfl) :
 Ps X cm (.Assign [.Subscript o i p] g pos) (kb d y e):=
 W0 (zI hu ho hi hv hs) λD σ H hq=>by
  obtain⟨ρ,A,q,f,A',rl,u,ev,k⟩:=hq;obtain⟨w,A1,e1,E⟩:=B0 ev;obtain⟨x,A2,e2,G⟩:=B0 E;obtain⟨kx,A3,e3,h⟩:=B0 G;refine⟨ρ,A,q,w,A1,rl,u,e1,λI H1 v1 v J L=>⟨I,A1,q,x,A2,J,u.mono v,e2,λN H2 v2 z O Q=>⟨N,A2,q,kx,A3,O,(u.mono v).mono z,e3,λl H3 v3 B r T=>?_⟩⟩⟩;rcases s:R3 kx with _ | j<;>rw[s]at h
  .cases x<;>cases h
  cases x with
  | ref n=>
    obtain⟨m,A4,e4,U⟩:=B0 h;obtain⟨rfl,hA,a,kv,rfl,hn,hH,hp⟩:=R6 r (Q.mono B) e4;obtain⟨c,Y⟩:=C7 U;cases Y;obtain⟨b,rfl,hb⟩:=X6 s T;refine⟨a,_,rfl,fO.t hH hb (by rw[<-hp.len];exact lO c),?_⟩;have C:aA l H3 l (aJ H3 a (.dT (Z7 kv (j.map JN) v1))):=aA.put r hn hA rfl;have a0:aR X.K cm l (A4.set n (.dT _)) _:=
     r.put hn hA rfl rfl ⟨_,C8,PT2.put ((((L.mono z).mono B)).mono C) j (hp.mono C)⟩
    exact k l _ (((v.trans z).trans B).trans C) a0 σ ((((u.mono v).mono z).mono B).mono C)
  | _=>cases h
theorem jF{o i:Expr}{d y:ED}{pos:Pos}(L:X.A.units+1<cLine)(N:Pe X cm o d)(O:Pe X cm i y)(hs:nJ i):Pe X cm (.Subscript o i pos) (ib d y):=
 D7 (zH L N O hs) λσ H Q T=>by
  obtain⟨U,A,f,v,A',Y,C,ev,k⟩:=T;obtain⟨x,D,e1,l⟩:=B0 ev;obtain⟨E,A2,e2,c⟩:=B0 l;refine⟨U,A,f,x,D,Y,C,e1,λp H1 v1 G q r=>⟨p,D,f,E,A2,q,C.mono G,e2,λs H2 v2 I g w=>?_⟩⟩;rcases h:R3 E with _ | j<;>rw[h]at c
  .cases x<;>cases c
  cases x with
  | ref n=>
    obtain⟨m,A3,e3,e⟩:=B0 c;obtain⟨rfl,hA,a,kv,rfl,hn,hH,hp⟩:=R6 g (r.mono I) e3;obtain⟨b,rfl,hb⟩:=X6 h w;rcases hp.val j with⟨B,J⟩ | ⟨z,u,B,J,ru⟩
    .rw[B]at e;cases e
    .rw[B]at e;cases e;exact⟨a,u,rfl,by rw[<-J];exact cM.t hH hb,k s H2 _ (G.trans I) g ru⟩
  | _=>cases c
theorem mz{pos:Pos}:Pe X cm (.Dict [] [] pos) eTNew:=
 D7 zK λg H Q ⟨c,A,d,v,h,a,i,e,k⟩ p b=>by
  cases e;have f:aA c H _ (aJ H p (.dT [])):=aA.new b;exact k _ _ _ f (a.alloc b ⟨_,C8,⟨rfl,.nil⟩⟩ rfl) (.ref (by rw[<-a.len];simp))
theorem uH{o e:Expr}{d y:ED}{c f:Pos}(Y:X.A.units+1<cLine)(ho:Pe X cm o d)(he:Pe X cm e y)(m:M1 X o "get" c e f:=by exact⟨rfl,rfl,rfl,rfl⟩):Pe X cm (.Call (.Attribute o "get" c) [e] [] f) (lG d y):=
 D7 (zP Y ho he m) λσ H Q hq=>by
  obtain⟨ρ,A,i,v,A',rl,O,ev,k⟩:=hq;obtain⟨x,A1,e1,l⟩:=B0 ev;refine⟨ρ,A,i,x,A1,rl,O,e1,λz H1 v1 B p r=>?_⟩;cases x with
  | ref n=>
    obtain⟨m0,A2,e2,C⟩:=B0 l;obtain⟨rfl,hA,a,kv,rfl,hn,hH,hp⟩:=R6 p r e2;refine⟨a,rfl,.inr ⟨kv,.inl hH⟩,?_⟩;obtain⟨T,A3,e3,g⟩:=B0 C;refine⟨z,_,i,T,A3,p,O.mono B,e3,λs U v2 D h E=>?_⟩;rcases w:R3 T with _ | j<;>rw[w]at g
    .cases g
    obtain⟨m1,A5,e5,G⟩:=B0 g;obtain⟨rfl,b4,a2,b5,e6,b7,I,J⟩:=R6 h (r.mono D) e5;cases e6;cases G;obtain⟨b,rfl,hb⟩:=X6 w E;refine⟨_,cM.t I hb,?_⟩;rcases J.val j with⟨L,N⟩ | ⟨q,u,L,N,ru⟩
    .rw[L]at k;rw[N];exact k s U _ (B.trans D) h .non
    .rw[L]at k;rw[N];exact k s U _ (B.trans D) h ru
  | _=>cases l
theorem CA{o e f:Expr}{d y z:ED}{c g:Pos}(hu:X.A.units+1<cLine)(ho:Pe X cm o d)(he:Pe X cm e y)(hf:Pe X cm f z)(m:M2 X o "get" c e f g:=by exact⟨rfl,rfl,rfl,rfl⟩):Pe X cm (.Call (.Attribute o "get" c) [e,f] [] g) (ow d y z):=
 D7 (zQ hu ho he hf m) λσ H Q hq=>by
  obtain⟨ρ,A,h,v,A',rl,I,ev,k⟩:=hq;obtain⟨x,A1,e1,p⟩:=B0 ev;refine⟨ρ,A,h,x,A1,rl,I,e1,λJ H1 v1 D r s=>?_⟩;cases x with
  | ref n=>
    obtain⟨m0,A2,e2,L⟩:=B0 p;obtain⟨rfl,hA,a,kv,rfl,hn,hH,hp⟩:=R6 r s e2;refine⟨a,rfl,.inr ⟨kv,.inl hH⟩,?_⟩;obtain⟨kx,A3,e3,N⟩:=B0 L;obtain⟨w,A4,e4,i⟩:=B0 N;refine⟨J,_,h,kx,A3,r,I.mono D,e3,λO H2 v2 E T U=>⟨O,A3,h,w,A4,T,(I.mono D).mono E,e4,λB H3 v3 G l Y=>?_⟩⟩;rcases C:R3 kx with _ | j<;>rw[C]at i
    .cases i
    obtain⟨m1,A5,e5,a0⟩:=B0 i;obtain⟨rfl,d1,a2,d2,e6,e7,a1,a3⟩:=R6 l ((s.mono E).mono G) e5;cases e6;cases a0;obtain⟨b,rfl,hb⟩:=X6 C (U.mono G);refine⟨_,cM.t a1 hb,?_⟩;rcases a3.val j with⟨h1,h2⟩ | ⟨q,u,h1,h2,ru⟩
    .rw[h1]at k;rw[h2];exact k B H3 _ ((D.trans E).trans G) l Y
    .rw[h1]at k;rw[h2];exact k B H3 _ ((D.trans E).trans G) l ru
  | _=>cases p
end
end Ws
namespace Ws
open PySem PySem.W PyProof.Rows PySem.SeqAt L2
open MeetsSeq MeetsSeq2 MeetsSeq3 SeqRoads2
def bN(A:Ji)(s:Ir)(y x:Ip)(b:Bool):Prop:=
 ∀(prog:IS)(w:Jp)(E:Ip->Ir->Prop)(Q:Ip->Ir->Prop),Q (.bool b) s->wpAny (model prog w) A (richCompare .Lt y x) Q E s
noncomputable def X7(e f:Nat->Bool)(m n:Nat):Nat->Nat->Bool
 | _,0=>decide (m<n)
 | i,k+1=>if e i then X7 e f m n (i+1) k else f i
theorem bN.ints(A:Ji)(s:Ir)(i j:Int)(t u:Tok):bN A s (.int i t) (.int j u) (decide (i<j)):=λa w E Q h=>by
 exact lt_int h
theorem CB(l b:Addr)(z p B q:Ip)(n I:Nat)(J C:Option Addr)(L D:Array (Option Ip))(e0 e1 b0 b1:Bool) :
 Meets (Kv.«tuple.__lt__» ⟨[.ref l,.ref b],[]⟩)
  (λA R s=>s.heap.get? l=some { cls:=.type "tuple",dict:=J,data:=.seq #[z,p] n,slots:=L }/\s.heap.get? b=some { cls:=.type "tuple",dict:=C,data:=.seq #[B,q] I,slots:=D }/\
   EqAt A.in1 s z B e0/\(e0=false->bN A.in1 s z B b0)/\(e0=true->EqAt A.in1 s p q e1)/\(e0=true->e1=false->bN A.in1 s p q b1)/\
   R (.ok (.ret (.bool (if e0 then(if e1 then false else b1) else b0)))) s):=
 .of_wp λc w A R s h=>by
  obtain⟨N,g,d,O,os⟩:=s;obtain⟨Q,T,U,Y,h2,h3,h⟩:=h;have f2:=NG
  wp_walk using Lj Q,Lj T,NY _ (λe b E=>b.1=none/\E=⟨N,g,d,O,os⟩/\((e=[(z,B),(p,q)])\/(e=[(p,q)]/\e0=true)\/(e=[]/\e0=true/\e1=true))) _
  case turn=>
   rintro⟨y,x⟩ e b E ⟨k,rfl,f⟩;rcases f with f | ⟨f,m⟩ | ⟨f,_⟩
   .injection f with o a;injection o with e1 e2;subst e1 e2 a;refine Il (U c w _ _ ?_);cases v:e0 with
    | true=>
      wp_walk
      exact⟨rfl,rfl,.inr (.inl ⟨rfl,rfl⟩)⟩
    | false=>
      rw[v]at h;simp only[OH,if_true];refine Il (LI ?_);refine Il (Y v c w _ _ ?_)
      wp_walk
      exact⟨_,rfl,h⟩
   .injection f with o a;injection o with G H;subst G H a;refine Il (h2 m c w _ _ ?_);cases i:e1 with
    | true=>
      wp_walk
      exact⟨rfl,rfl,.inr (.inr ⟨rfl,m,rfl⟩)⟩
    | false=>
      rw[m,i]at h;simp only[OH,if_true];refine Il (LI ?_);refine Il (h3 m i c w _ _ ?_)
      wp_walk
      exact⟨_,rfl,h⟩
   .cases f
  case fin=>
   rintro⟨a3,a4⟩ E ⟨k,rfl,f⟩;simp only at k;subst k;rcases f with f | ⟨f,m⟩ | ⟨_,m,i⟩
   .cases f
   .cases f
   .rw[m,i]at h
    wp_walk
    exact⟨_,rfl,by simpa[Mx]using h⟩
  case h=>
   exact⟨rfl,rfl,.inl rfl⟩
theorem bN.tuples{A:Ji}{s:Ir}{l b:Addr}{e f g i:Ip}{e0 e1 b0 b1:Bool}(u:s.heap.IsTuple l #[e,f])(v:s.heap.IsTuple b #[g,i])(x:A.units<cLine)
 (y:EqAt A.in1 s e g e0) (z:e0=false->bN A.in1 s e g b0) (B:e0=true->EqAt A.in1 s f i e1) (C:e0=true->e1=false->bN A.in1 s f i b1):bN A s (.ref l) (.ref b) (if e0 then(if e1 then false else b1) else b0):=λm w E Q h=>by
 obtain⟨⟨cls,D,o,G⟩,p,q,n,hd⟩:=id u;obtain⟨⟨r,j,data2,k⟩,a,c,H,d⟩:=id v;simp only at q hd c d;subst q hd c d;exact Ob ⟨_,p,rfl⟩ ⟨_,a,rfl⟩ F.slot_tuple_lt F.entry_tuple_lt (F.args_tuple_lt_2 _ _) (CB l b e f g i n H D j G k e0 e1 b0 b1)
  ⟨p,a,y,z,B,C,show Nx _≠_/\Q _ s from⟨nofun,h⟩⟩ x
theorem uI:∀(k i:Nat)(a b:List Int),min a.length b.length - i=k->i<=min a.length b.length->X7 (λj=>decide (a.getD j 0=b.getD j 0)) (λj=>decide (a.getD j 0<b.getD j 0)) a.length b.length i k=lexLt (a.drop i) (b.drop i)
 | 0,i,a,b,l,m=>by
   show decide (a.length<b.length)=_;rcases Nat.lt_or_ge a.length b.length with z | z
   .have d:a.drop i=[]:=KN (by omega);obtain⟨y,c,n⟩:∃y c,b.drop i=y::c:=by
     cases h:b.drop i with
     | nil=>have:=MQ.mp h;omega
     | cons y c=>exact⟨y,c,rfl⟩
    rw[d,n,decide_eq_true z];rfl
   .have d:b.drop i=[]:=KN (by omega);rw[d,decide_eq_false (by omega)];cases a.drop i<;>rfl
 | k+1,i,a,b,l,m=>by
   have f:i<a.length:=by omega
   have g:i<b.length:=by omega
   rw[JR f,JR g];show(if decide (a.getD i 0=b.getD i 0)=true then X7 _ _ a.length b.length (i+1) k else decide (a.getD i 0<b.getD i 0))=(if a[i]=b[i] then lexLt (a.drop (i+1)) (b.drop (i+1)) else decide (a[i]<b[i]));rw[uI k (i+1) a b (by omega) (by omega)];have o:a.getD i 0=a[i]:=by simp[f]
   have p:b.getD i 0=b[i]:=by simp[g]
   rw[o,p];by_cases e:a[i]=b[i]
   .rw[if_pos e,if_pos (decide_eq_true e)]
   .rw[if_neg e,if_neg (by simpa using e)]
section
variable{X:Cx}{cm:Nat->Addr}{pins:List (Addr×Obj)}{σ:L2.St}{H:Hp}{s:Ir}
theorem uJ(A:Ji)(s:Ir)(i j:Int)(t u:Tok):EqAt A s (.int i t) (.int j u) (decide (i=j)):=
 ju (ρ:=[]) (H:=λ_=>none) (.int i) (.int j) rfl rfl ⟨t,rfl⟩ ⟨u,rfl⟩
end
end Ws
namespace Ws
open PySem PySem.W PyProof.Rows L2
theorem fw:typeLookup (.type "list") "keys" = pure none:=rfl
theorem CC{prog:IS}{w:Jp}{A:Ji}{E:Ip->Ir->Prop}{s:Ir}{a:Addr}{o:Obj}{q:Array Ip}{k:Nat}{b:Str}{Q:Option Ip->Ir->Prop}
 (r:s.heap.get? a=some o) (u:o.cls=.type "list") (f:o.data=.seq q k) (hd:o.dict=none) (i:typeLookup (.type "list") b=pure none) (j:(["__module__","__name__","__qualname__","__doc__","__annotations__"]:List Str).contains b=false) (B:A.handled=none)
 (h:∀n v e,Heap.NewExcOf s.heap n e "AttributeError"->Q none { s with heap:=n,toks:=v }) (p:b.length+100<=sizeLine:=by size_fits) :
 wpAny (model prog w) A (getAttr? (.ref a) b) Q E s:=by
 obtain⟨c,C,D,G⟩:=o;simp only at u f hd;subst u f hd;obtain⟨H,g,d,v,os⟩:=s;have z:∀l,(⟨H,g,d,l,os⟩:Ir).TypeIs (.ref a) "list":=λ_=>⟨_,r,rfl⟩;have I:=sub_AttributeError;have J:=Mc.lookup;have L:=Mc.bind (.ref a);have N:=am_list_getattr_none;unfold getAttr? getAttrBy? getAttrBy;repeat (any_goals (first | assumption | exact z _ | ((with_reducible show wpAny _ _ (call (Ip.builtin "list.__getattribute__") _ _) _ _ _);refine call_meets Mc (z _) am_entry_list_getattribute (F.args_list_getattribute_2 _ _) (meets_getattribute_miss_list a q k G b _ i j p) ⟨r,B,λn l e m=>?_⟩) | wp_step))
 obtain⟨O,T,U⟩:=m.there;show wpAny _ _ (getattributeRaised _ _ _ _ _ _ _) _ _ _;unfold getattributeRaised;repeat (any_goals (first | assumption | wp_step))
 exact h _ _ _ m.of
theorem uK:entryFor table "dict.update.loop" = some Kv.«dict.update.loop»:=entryFor_of_tree rfl
theorem uL:plainId "dict.update.loop" = true:=by decide +kernel
theorem CD{c a:Type}{m:Type->Type}[Monad m][LawfulMonad m](d:Array c)(b:a)(f:c->a->m (ForInStep a)):forIn d b f=forIn d.toList b f:=by simp
section
variable{prog:IS}{w:Jp}{A:Ji}{E:Ip->Ir->Prop}{s:Ir}
theorem CF{k:String}{d:Addr}{o:Obj}{f:Array Pz}{l:Nat}{Q:Array Pz->Ir->Prop}(m:s.heap.get? d=some o)(hd:o.data=.dict f l)
 (n:∀e∈f.toList,∃a,e.key=.ref a/\s.TypeIs (.ref a) "tuple") (p:∀e∈f.toList,(f.filter (·.hash == e.hash)).size<=1) (h:Q f s):wpAny (model prog w) A (Kv.Dict.entriesForEmpty k d) Q E s:=by
 refine Il (LJ m hd ?_);refine Il ?_;rw[CD];refine NY _ (λc _ i=>i=s/\∀e∈c,e∈_) _ ?_ ?_ _ _ ⟨rfl,λe g=>g⟩
 .rintro e c b i ⟨rfl,j⟩;have g:=j e Iz;obtain⟨a,q,r⟩:=n e g;refine Il ?_;rw[q];refine Il (Ol r PySem.F.slot_tuple_eq.lookup (Iv ?_));rw[if_pos (by decide),if_neg (by have:=p e g;omega)];exact Iv ⟨rfl,λx u=>j x (IE _ u)⟩
 .rintro b i ⟨rfl,_⟩;exact Iv h
abbrev TK(prog:IS)(w:Jp):HeapKind prog w (List Key):=tupleKind (P5 prog w)
theorem CG{o:Addr}{l:List (List Key×Addr×Ip)}{Q:Ip->Ir->Prop}(J:(o == sysModules)=false)(ho:s.heap.DictOfH (TK prog w) o l)(a5:l.length<=sizeLine)
 (u:∀x∈l,(l.filter λy=>(TK prog w).hash y.1 == (TK prog w).hash x.1).length<=1)
 (h:∀L,L.DictOfH (TK prog w) s.heap.objs.size l->Kf s.heap.objs.size (s.heap.push { cls:=.type "dict",data:=.dict #[] }) L->Q (.ref s.heap.objs.size) { s with heap:=L }) :
 wpAny (model prog w) A (call (.type "dict") [.ref o]) Q E s:=by
 obtain⟨oo,j,ep,v,hc,g,d,hk,hn⟩:=id ho;have z:=size_of_entries d;refine callType_codes (Q₁:=λobj k=>obj=.ref _/\k={ s with heap:=s.heap.push { cls:=.type "dict",data:=.dict #[] } }) Oc (Nh _) NP (kt_code_dict_new _ ⟨rfl,rfl⟩) ?_;rintro obj k ⟨rfl,rfl⟩;have i:(s.heap.push { cls:=.type "dict",data:=.dict #[] }).get? _=some { cls:=.type "dict",data:=.dict #[] }:=IB _ rfl;have B:MU { s with heap:=s.heap.push { cls:=.type "dict",data:=.dict #[] } } (.ref _) "dict":=⟨_,i,rfl⟩;have c:(s.heap.push { cls:=.type "dict",data:=.dict #[] }).get? o=some oo:=Im _ v;have m:MU { s with heap:=s.heap.push { cls:=.type "dict",data:=.dict #[] } } (.ref o) "dict":=⟨_,c,hc.1⟩;have N:s.heap.objs.size≠o:=λe=>absurd (IA v) (by rw[e];exact JJ _);refine⟨B,NH _ _,?_⟩;refine Il ?_;refine Il (MI B ?_);refine Iv ?_;show wpAny _ _ (NQ "dict.__init__" _ _ [] .none) _ _ _;refine Il (Oi m ?_);refine Il ?_;refine Il ?_;refine Il (wpAny_isInstance m isSubtype_dict_dict ?_);refine Il (Ol m PySem.F.slot_dict_iter.lookup (Iv ?_));refine Il (Iv ?_);unfold Kv.Dict.mergeDict;rw[if_neg (by simpa using N)];unfold Kv.Dict.showsAll;rw[if_neg (by rw[J];exact JK)];refine Il (Iv ?_);refine Il (LJ c g ?_);cases p:l with
 | nil=>
   subst p;have C:j=#[]:=Array.toList_inj.mp (by rw[d];rfl);subst C;rw[if_neg (by simp)];refine Il (wpAny_dictEpoch c g ?_);refine Il (LJ c g ?_);refine Il ?_;rw[Std.Legacy.Range.forIn_eq_forIn_range'];refine Iv ?_;refine Iv ?_;refine Il (Iv (Iv ⟨rfl,h _ ?_ (Kf.refl _ _)⟩));exact⟨_,_,_,i,⟨rfl,rfl,rfl⟩,rfl,rfl,λx q=>by simp at q,MA⟩
 | cons O xr=>
   have T:O∈l:=by rw[p];exact Iz
   have r:∀e∈j.toList,∃a,e.key=.ref a/\MU { s with heap:=s.heap.push { cls:=.type "dict",data:=.dict #[] } } (.ref a) "tuple":=by
    intro e I;rw[d]at I;obtain⟨x,q,rfl⟩:=IC.mp I;obtain⟨U,D,n,Y,h2,_⟩:=hk x q;exact⟨x.2.1,rfl,U,Im _ Y,h2⟩
   have G:(decide (j.size<=8)&&j.all λe=>(keyPart e.key).isSome)=false:=by
    rw[Bool.and_eq_false_iff];refine .inr ?_;rw[<-Array.all_toList,List.all_eq_false];refine⟨entryOfKey _ O,by rw[d];exact IC.mpr ⟨O,T,rfl⟩,?_⟩;simp[entryOfKey,keyPart]
   rw[G];refine Il (LJ i rfl ?_);refine Il (CF c g r (λe I=>?_) ?_)
   .have H:=I;rw[d]at H;obtain⟨x,q,rfl⟩:=IC.mp H;have:=u x q;rw[<-Ki,Array.toList_filter,d,LC,Iq];exact this
   .have a1:j.isEmpty=false:=by
     cases hh:j.isEmpty with
     | false=>rfl
     | true=>
       have:j.size=0:=by simpa using hh
       rw[z,p]at this;simp at this
    rw[a1];refine Il (wpAny_updateDictKeysTo i rfl ?_ (by omega));refine Iv ?_;refine Il (Iv (Iv ⟨rfl,h _ ?_ (Kk ..)⟩));have a2:Obj.ExactDict { cls:=.type "dict",data:=.dict #[] }:=⟨rfl,rfl,rfl⟩;refine⟨_,j,_,Jw _ i (OM (LO rfl _)),a2.mapDictKeys _,LO rfl _,d,λx q=>?_,hn⟩;refine(TK prog w).keeps (?_) i rfl (Kk ..);obtain⟨U,D,n,Y,h2⟩:=hk x q;exact⟨U,D,n,Im _ Y,h2⟩
end
noncomputable def hashK(k:List Int):Int:=reduceHash (Kv.Tuple.tupleHashOf (k.map hashInt))
theorem CH(P:IS)(w:Jp)(k:List Int):(TK P w).hash (k.map JN)=hashK k:=by
 show reduceHash _=_;rw[IT];rfl
theorem CI:(small.map hashK).Nodup:=by decide +kernel
theorem CJ{a b:List Int}(c:a∈small)(d:b∈small)(h:hashK a=hashK b):a=b:=by
 obtain⟨i,e,rfl⟩:=Ke.mp c;obtain⟨j,f,rfl⟩:=Ke.mp d;have:=(NS (h₀:=by simpa using e) (h₁:=by simpa using f) CI).mp (by simpa using h);subst this;rfl
theorem CK{P:IS}{w:Jp}{d:List (List Int)}(hs:∀k∈d,k∈small):∀{c:List (List Key×Addr×Ip)},c.map (·.1)=d.map (OW JN)->d.Nodup->∀x∈c,(c.filter λy=>(TK P w).hash y.1 == (TK P w).hash x.1).length<=1:=by
 intro c m o x r;have f:(c.map λy=>(TK P w).hash y.1).Nodup:=by
  have e:(c.map λy=>(TK P w).hash y.1)=d.map hashK:=by
   have:(c.map λy=>(TK P w).hash y.1)=(c.map (·.1)).map (TK P w).hash:=by rw[IT];rfl
   rw[this,m,IT];exact JF λk _=>CH P w k
  rw[e];have g:∀l:List _,(∀k∈l,k∈small)->l.Nodup->(l.map hashK).Nodup:=by
   intro l;induction l with
   | nil=>intro _ _;simp
   | cons a l ih=>
     intro h n;rw[JQ]at n;rw[Jb,JQ];refine⟨λz=>?_,ih (λk p=>h k (IE _ p)) n.2⟩;obtain⟨b,j,e⟩:=IC.mp z;exact n.1 (CJ (h b (IE _ j)) (h a Iz) e ▸ j)
  exact g d hs o
 have i:∀(l:List (List _×Addr×Ip))(v:Int),(l.map λy=>(TK P w).hash y.1).Nodup->(l.filter λy=>(TK P w).hash y.1 == v).length<=1:=by
  intro l v;induction l with
  | nil=>intro _;simp
  | cons a l ih=>
    intro n;rw[Jb,JQ]at n;by_cases e:(TK P w).hash a.1=v
    .have:l.filter (λy=>(TK P w).hash y.1 == v)=[]:=by
      rw[Od];intro y q z;exact n.1 (IC.mpr ⟨y,q,by rw[eq_of_beq z,e]⟩)
     rw[Mi (by simpa using e),this];simp
    .rw[Lm (by simpa using e)];exact ih n.2
 exact i c _ f
theorem CL{H:Hp}{a:List (List Key×V)}{b:List (List Key×Addr×Ip)}(r:KT H a b):a.map (·.1)=b.map (·.1):=by
 induction r with
 | nil=>rfl
 | cons h _ ih=>rw[Jb,Jb,ih,h.1]
section
variable{X:Cx}{cm:Nat->Addr}
theorem CM:bh X (.type "dict") (λi H Q=>∃(a:Addr)(d:List (List Key×V))(j:List (List Int)),i=[.ref a]/\H a=some (.dT d)/\d.map (·.1)=j.map (OW JN)/\j.Nodup/\(∀k∈j,k∈small)/\∀l,H l=none->Q (.ref l) (aJ H l (.dT d))):=by
 intro w s σ H i us Q I r h;obtain⟨a,d,j,rfl,y,m,A,n,q⟩:=h;obtain⟨u,rfl,B⟩:=Y3 r;cases B;obtain⟨z,hd,i,f,C⟩:=nG I.hok y;have D:=Paired.length f;refine CG hd C (by rw[<-D];exact z) (CK n (by rw[<-CL f];exact m) A) λh' p E=>?_;obtain⟨G,J,L,N,O,T,U,_,Y⟩:=p;have g:=I.hok.fresh (Iw _);refine⟨.ref _,_,I.laid (o:=.dT d) (λb o x=>(E.2 b (IH (IA x))).trans (Im _ x)) (Iw _) ⟨z,beq_eq_false_iff_ne.mpr (JW (IH I.big)),i,KT.keeps f (λc ys v=>?_),G,J,L,N,O,T,U,Y⟩,rfl,q _ g⟩;rw[ak (λe=>by rw[e,g]at v;cases v)];exact v
theorem CN{e:Expr}{d:ED}{p pos:Pos}(he:Pe X cm e d)(r:Gl X "dict")(s:X.mg "dict" = none)(hs:starEach [e] X.env=(false,eval e X.env)::starEach [] X.env:=by exact D6 rfl):Pe X cm (.Call (.Name "dict" p) [e] [] pos) (oy d):=
 D7 (n6 CM r s (show bootBuiltins "dict" = some _ from by rfl) (r_cons he r_nil hs) (he:=hs)) λB H Q h=>f7 (λ_=>rfl) (λρ A H x z A' v Q f u j k=>by
  cases x with
  | ref n=>
    obtain⟨m,C,e1,g⟩:=B0 j;obtain⟨rfl,E,a,l,rfl,G,w,b⟩:=R6 f u e1;obtain⟨c,i⟩:=C7 g;cases i;refine⟨a,l,m.map _,rfl,w,by rw[b.keys,IT];rfl,c.1,λk y=>?_,λD o=>?_⟩
    .obtain⟨p,b,rfl⟩:=IC.mp y;exact c.2 p b
    .have q:aA ρ H _ (aJ H D (.dT l)):=aA.new o;exact k _ _ _ q (f.alloc o ⟨_,C8,b.mono q⟩ rfl) (.ref (by rw[<-f.len];simp))
  | _=>cases j) h
end
end Ws
namespace Ws
open PySem PySem.W PyProof.Rows L2
section
variable{X:Cx}{cm:Nat->Addr}
theorem mB{x:Str}{j pos}:Pe X cm (.Constant (.str x) j pos) (eK (.str x)):=jo xa λ_ _=>.str x
theorem CO:bh X (.type "int") (λa H Q=>∃b,a=[.bl b]/\Q (.int (if b then 1 else 0)) H):=by
 intro c s e H a f Q I r h;obtain⟨b,rfl,q⟩:=h;obtain⟨u,rfl,d⟩:=Y3 r;cases d;exact call_int_bool ⟨.int _,H,I.tok _,⟨_,rfl⟩,q⟩
theorem CP{e:Expr}{d:ED}{p pos:Pos}(he:Pe X cm e d)(c:Gl X "int")(f:X.mg "int" = none)(hs:starEach [e] X.env=(false,eval e X.env)::starEach [] X.env:=by exact D6 rfl):Pe X cm (.Call (.Name "int" p) [e] [] pos) (oz d):=
 D7 (n6 CO c f LF (r_cons he r_nil hs) (he:=hs)) λl H Q h=>f7 (λ_=>rfl) (λg A H x z m v Q i j a k=>by
  cases x with
  | bl b=>cases a;cases j;exact⟨b,rfl,k g H _ (aA.refl _ _) i (.int _)⟩
  | _=>cases a) h
theorem CQ(K:Io)(a:String)(b:a∈["NoneType","bool","int","str","list","tuple"]):OG K (.type a) (.type "str")=some (a == "str"):=by
 simp only[IF,Jl,or_false]at b;rcases b with rfl | rfl | rfl | rfl | rfl | rfl<;>with_unfolding_all rfl
theorem CS:bh X (.builtin "isinstance") (λe H Q=>∃v a,e=[v,.ty "str"]/\a∈["NoneType","bool","int","str","list","tuple"]/\y8 X.K H v (.type a)/\Q (.bl (a == "str")) H):=by
 intro d s j H k l Q I r h;obtain⟨v,a,rfl,f,b,q⟩:=h;obtain⟨u,w,rfl,g,c⟩:=lh r;cases c;exact rG I g b (CQ X.K a f) λi=>⟨.bl _,H,I.tok i,rfl,q⟩
theorem uM{e:Expr}{d:ED}{p p2 pos:Pos}(he:Pe X cm e d)(C:Gl X "isinstance")(D:X.mg "isinstance" = none)(q:Gl X "str")(s:X.mg "str" = none)
 (hs:starEach [e,.Name "str" p2] X.env=(false,eval e X.env)::starEach [.Name "str" p2] X.env:=by exact D6 rfl) (u:starEach [PD "str" p2] X.env=(false,eval (.Name "str" p2) X.env)::starEach [] X.env:=by exact D6 rfl) (hpl:(backTo pos (starEach [PD "str" p2] X.env)).any (·.1)=false:=by rfl) :
 Pe X cm (.Call (.Name "isinstance" p) [e,.Name "str" p2] [] pos) (lH d):=
 D7 (V4 CS C D MS (d7 he (d7 (qW (v:=.ty "str") q s (show bootBuiltins "str" = some _ from by rfl) rfl (by decide) rfl) lq u) hs) (he:=hs)) λσ H Q E=>by
  obtain⟨G,A,w,v,A',I,J,L,k⟩:=E;obtain⟨x,N,O,y⟩:=B0 L;obtain⟨b,A2,j,B⟩:=B0 y;cases B;refine⟨G,A,w,x,N,I,J,O,λg m v1 o f h=>?_⟩;cases x with
  | non=>cases h;cases j;exact⟨_,"NoneType",rfl,by simp,.non,k g m _ o f (.bl _)⟩
  | bl c=>cases h;cases j;exact⟨_,"bool",rfl,by simp,.bl c,k g m _ o f (.bl _)⟩
  | int i=>cases h;cases j;exact⟨_,"int",rfl,by simp,.int i,k g m _ o f (.bl _)⟩
  | str z=>cases h;cases j;exact⟨_,"str",rfl,by simp,.str z,k g m _ o f (.bl _)⟩
  | tup l=>
    cases h with
    | tup T r=>cases j;exact⟨_,"tuple",rfl,by simp,.tup T,k g m _ o f (.bl _)⟩
  | ref n=>
    obtain⟨l,A3,U,Y⟩:=B0 j;obtain⟨rfl,hA,a,xs,rfl,hn,hH,r⟩:=P7 f h U;cases Y;exact⟨_,"list",rfl,by simp,.lst hH,k g m _ o f (.bl _)⟩
end
section
variable{prog:IS}{w:Jp}{A:Ji}{R:OF->Ir->Prop}{I:Addr}{fp wr:List Addr}{n:Nat}{P:Nat->Ip->Prop}{St:Nat->Heap->Prop}{kw:List (Str×Ip)}
theorem mD:(toString "min"++toString ".loop" : String)="min.loop":=rfl
end
theorem CT{P:IS}{w:Jp}{K:Io}{mg:Str->Option Ip}{base:Heap}{cm:Nat->Addr}{k n:Nat}{d:Addr}{e:IQ}{ps:List Str}:ay P w K mg base aS k d e ps (bf K cm (λ_=>stuck) n):=
 ⟨λf H Q E ⟨g,A,h,v,i,_,_,_,a,_⟩=>(nomatch a),λA b s H c j f Q E l m o p ⟨g,B,h,v,i,_,_,_,a,_⟩=>(nomatch a)⟩
theorem pW{J:It}{g:GD}{b:SD}(c:v7 b):∀(f i:Nat)(σ:PSt)(A:PHp)(v:PV)(A':PHp),Y4 J g b f i σ A≠.ok (.rt v) A'
 | 0,i,σ,A,v,A',h=>by rw[sr]at h;cases h
 | f+1,i,σ,A,v,A',h=>by
   rw[U6]at h;obtain⟨x,k,l,h⟩:=B0 h;cases x with
   | none=>cases h
   | some y=>
     obtain⟨e,m,n,h⟩:=B0 h;obtain⟨o,d,j,h⟩:=B0 h;cases o with
     | nx a=>exact pW c f (i+1) a d v A' h
     | ct a=>exact pW c f (i+1) a d v A' h
     | bk a=>cases h
     | rt z=>exact c _ _ _ _ j
theorem CU{it:ID}{g:GD}{b:SD}(a:v7 b):v7 (fc it g b):=λc A v d h=>by
 obtain⟨J,e,f,h⟩:=B0 h;obtain⟨n,i,j,h⟩:=B0 h;exact pW a _ _ _ _ _ _ h
theorem CV{d y e:ED}:v7 (kb d y e):=λf A v g h=>by
 obtain⟨j,k,l,h⟩:=B0 h;obtain⟨b,o,p,h⟩:=B0 h;obtain⟨c,q,r,h⟩:=B0 h;cases b with
 | ref n=>
   cases a:R3 c with
   | none=>rw[a]at h;cases h
   | some i=>
     rw[a]at h;obtain⟨m,s,u,h⟩:=B0 h;obtain⟨_,h⟩:=C7 h;cases h
 | _=>cases h
end Ws
namespace Ws
open PySem PySem.W PyProof.Rows PySem.Builtin PySem.Builtin.Str L2
section
variable{X:Cx}{cm:Nat->Addr}
theorem o4{x z:Str}{pos:Pos}(b:Gl X x)(a:∃t,X.mg x=some (.str z t))(hd:(x == ("__debug__" : Str))=false:=by decide):Pe X cm (.Name x pos) (eK (.str z)):=by
 obtain⟨t,a⟩:=a;exact jo (qV b a (show L2.RelV (.str z) _ from⟨t,rfl⟩) hd) λ_ _=>.str z
end
end Ws
namespace Ws
open PySem PySem.W PyProof.Rows L2
section
variable{prog:IS}{w:Jp}{K:Type}[DecidableEq K]{knd:HeapKind prog w K}{A:Ji}{E:Ip->Ir->Prop}{s:Ir}
theorem CW{d a:Addr}{e:List (K×Addr×Ip)}{k:K}{v:Ip}{Q:Ip->Ir->Prop}(D:knd.room A)(b:knd.is s.heap k a)(J:s.heap.DictOfH knd d e)(u:e.length<=sizeLine)
 (f:∀p,atKey e k=some p->Q p.2 { s with toks:=s.toks+knd.draws k })
 (g:atKey e k=none->∀z,z.DictOfH knd d (storedH e k a v)->Kf d s.heap z->Q v { s with heap:=z,toks:=s.toks+knd.draws k }) :
 wpAny (model prog w) A (dictSetDefault d (.ref a) v) Q E s:=by
 obtain⟨o,L,N,l,O,hd,c,n,B⟩:=J;have q:=size_of_entries c;refine Js ?_;refine Il (knd.pyHash D b ?_);refine Il (wpAny_dictFind_heap D b l hd c n B (λh=>?_) λj p r=>?_)
 .have H:=atKey_none_of_get h;have i:storedH e k a v=e++[(k,a,v)]:=by
   unfold storedH;rw[H];rfl
  refine Il (LI ?_);refine Il (wpAny_updateDictKeys (hz:=by rw[q];exact u) l hd (Iv (g H _ ⟨_,_,N+1,Jw _ l (OM (LO hd _)),
   O.mapDictKeys _,LO hd _,?_,λx m=>?_,?_⟩ (Kk ..))))
  .rw[i,Jy,<-c,Array.toList_push];rfl
  .rw[i]at m;rcases IV.mp m with m | m
   .exact knd.keeps (n x m) l hd (Kk ..)
   .cases Iy.mp m;exact knd.keeps b l hd (Kk ..)
  .rw[i,Jy];refine KD.mpr ⟨B,by simp,?_⟩;intro a1 T b1 I U;rw[Jb,Oj,Iy]at I;obtain⟨y,Y,ey⟩:=IC.mp T;obtain⟨j,r⟩:=OB Y;refine h j y.2 ?_;rw[r,show k=y.1 from I.symm.trans (U.symm.trans ey.symm)]
 .refine Il (LJ l hd ?_);have C:L[j]?=some (entryOfKey knd (k,p)):=by rw[entry_at c j,r];rfl
  rw[C];exact Il (LI (Iv (f p (atKey_of_get B r))))
theorem CY{d a:Addr}{e:List (K×Addr×Ip)}{k:K}{dflt:Ip}{Q:Ip->Ir->Prop}(hd:(d == sysModules)=false)(n:knd.room A.in1)(f:knd.is s.heap k a)(j:s.heap.DictOfH knd d e)(h:e.length<=sizeLine)
 (b:∀p,atKey e k=some p->∀i,Q p.2 { s with toks:=i })
 (c:atKey e k=none->∀g i,g.DictOfH knd d (storedH e k a dflt)->Kf d s.heap g->Q dflt { s with heap:=g,toks:=i }) :
 wpAny (model prog w) A (call (.builtin "dict.setdefault") [.ref d,.ref a,dflt]) Q E s:=by
 have m:=j.typeIs;refine Kx MW m PySem.F.entry_dict_setdefault ?_ (PySem.F.args_dict_setdefault_3 _ _ _);refine Il ?_;refine Il (MI m ?_);refine Iv ?_;show wpAny _ _ (if _=true then _ else _) _ _ s;rw[if_neg (by rw[hd];exact JK)];refine Il (CW n f j h (λp o=>?_) λq g r u=>?_)
 .exact Iv ⟨_,rfl,b p o _⟩
 .exact Iv ⟨_,rfl,c q g _ r u⟩
end
section
variable{X:Cx}{cm:Nat->Addr}{o e f:Expr}{apos cpos:Pos}{td ty tx:TE}
noncomputable def CZ(td ty tx:TE):TE:=λg H Q=>td g H λx h=>∃a,x=.ref a/\ly h a/\ty g h λy i=>tx g i λz d=>∃c k b,d a=some (.dT c)/\y=.ref b/\d b=some (.tup (k.map L2.kV))/\
 (∀v,i7 c k=some v->Q v d)/\(i7 c k=none->c.length<sizeLine/\Q z (aJ d a (.dT (Z7 c k z))))
theorem C0(T:X.A.units+1<cLine)(U:PE X o td)(he:PE X e ty)(Y:PE X f tx)(m:M2 X o "setdefault" apos e f cpos):PE X (.Call (.Attribute o "setdefault" apos) [e,f] [] cpos) (CZ td ty tx):=by
 intro g s q H Q I h;refine NB m.base m.few m.line Mh MW PySem.F.type_dict_setdefault (aQ (U g s q H _ I h) λu s1 zq=>?_);obtain⟨x,H1,D,rx,a,ex,d,q1⟩:=zq;subst ex;obtain rfl:u=IZ a:=rx;obtain⟨t1,t2,_⟩:=nK D d;refine⟨t1,t2,?_⟩;rw[m.trees];refine Lo rfl (LM (Kr (aQ (he g s1 q H1 _ D q1) λiv s2 ⟨y,H2,I2,ry,q2⟩=>
  Kr (aQ (Y g s2 q H2 _ I2 q2) λfv s3 ⟨z,H3,n,E,i,k,b,r,ey,G,q3,J⟩=>LG ?_))))
 subst ey;cases(show iv=IZ b from ry);obtain⟨zz,hd,xs,j,dd⟩:=nG n.hok r;have hl:=Paired.length j;refine CY (knd:=TK _ X.w) hd (Kt T) (j4 n.hok G) dd (by rw[<-hl];exact zz) (λp hp tk=>?_) λh0 h' tk B hs=>?_
 .have:=j.val k;rw[hp]at this;cases l:i7 i k with
  | none=>rw[l]at this;exact this.elim
  | some v=>rw[l]at this;exact⟨v,H3,n.kept (λ_ _ e=>e),this,q3 v l⟩
 .have:=j.val k;rw[h0]at this;cases l:i7 i k with
  | some v=>rw[l]at this;exact this.elim
  | none=>
    have d0:=(J l).1;have C:(Z7 i k z).length<=sizeLine:=by have:=j3 i k z;omega
    obtain⟨L,es,ep,N,h2,h3,h4,_,h5⟩:=B;refine⟨z,_,nH (ob:=.dT _) n (by rw[r];exact KR) hs ⟨L,N⟩ ⟨C,hd,_,KT.keeps (j.put k G E) (λc ys O=>?_),L,es,ep,N,h2,h3,h4,h5⟩,E,(J l).2⟩;rw[ak (qR O r nofun)];exact O
theorem uN{d y x:ED}(hu:X.A.units+1<cLine)(ho:Pe X cm o d)(he:Pe X cm e y)(hf:Pe X cm f x)(m:M2 X o "setdefault" apos e f cpos:=by exact⟨rfl,rfl,rfl,rfl⟩):Pe X cm (.Call (.Attribute o "setdefault" apos) [e,f] [] cpos) (jl d y x):=
 D7 (C0 hu ho he hf m) λσ H Q hq=>by
  obtain⟨ρ,A,p,v,A',rl,rs,ev,k⟩:=hq;obtain⟨xv,A1,e1,B⟩:=B0 ev;refine⟨ρ,A,p,xv,A1,rl,rs,e1,λa1 H1 v1 O C D=>?_⟩;cases xv with
  | ref n=>
    obtain⟨m0,A2,e2,a2⟩:=B0 B;obtain⟨rfl,hA,a,kv,rfl,hn,hH,hp⟩:=R6 C D e2;obtain⟨kx,A3,e3,a4⟩:=B0 a2;obtain⟨z,A4,e4,q⟩:=B0 a4;refine⟨a,rfl,.inr ⟨kv,.inl hH⟩,a1,_,p,kx,A3,C,rs.mono O,e3,λa5 H2 v2 T a6 a7=>⟨a5,A3,p,z,A4,a6,(rs.mono O).mono T,e4,λg H3 v3 U h E=>?_⟩⟩;rcases G:R3 kx with _ | j<;>rw[G]at q
    .cases q
    obtain⟨mm,A5,e5,i⟩:=B0 q;obtain⟨rfl,I,a3,J,e6,L,a8,l⟩:=R6 h ((D.mono T).mono U) e5;cases e6;obtain⟨b,rfl,hb⟩:=X6 G (a7.mono U);refine⟨J,j.map _,b,a8,rfl,hb,λw r=>?_,λr=>?_⟩
    .rcases PT2.val j l with⟨N,s⟩ | ⟨w',u,N,s,g3⟩
     .rw[s]at r;cases r
     .rw[s]at r;cases r;rw[N]at i;cases i;exact k g _ _ ((O.trans T).trans U) h g3
    .rcases PT2.val j l with⟨N,s⟩ | ⟨w',u,N,s,g3⟩
     .rw[N]at i;obtain⟨c,a9⟩:=C7 i;cases a9;have Y:aA g H3 g (aJ H3 a (.dT (Z7 J (j.map JN) v3))):=aA.put h L I rfl;exact⟨by rw[<-l.len];exact lO c,k g _ _ (((O.trans T).trans U).trans Y) (h.put L I rfl rfl ⟨_,C8,PT2.put (E.mono Y) j (l.mono Y)⟩) (E.mono Y)⟩
     .rw[s]at r;cases r
  | _=>cases B
end
section
variable{X:Cx}{cm:Nat->Addr}
theorem Dc(bs:List Bool):((Jj bs.length).any λi=>(bs[i]?).getD true)=bs.any id:=by
 induction bs with
 | nil=>rfl
 | cons b r ih=>
   rw[IM,Lq,Lk,List.any_map,Lk,<-ih];rfl
noncomputable def Dd(K:Io):List V->Hp->VK->Prop:=λb H Q=>∃(a:Addr)(bs:List Bool),b=[.ref a]/\bE K H a (bs.map V.bl)/\Q (.bl (bs.any id)) H
theorem De(c:X.calm=true):bh X (.builtin "any") (Dd X.K):=by
 intro n s G H J L Q I r h;obtain⟨a,bs,rfl,w,q⟩:=h;obtain⟨u,rfl,x⟩:=Y3 r;cases x;obtain⟨f,p,y,N⟩:=I.list w;have d:=y.isList;have k:a<s.heap.objs.size:=by
  obtain⟨_,e,_⟩:=d;exact IA e
 have g:f.length=bs.length:=by
  have:=p.length;simpa using this.symm
 refine call_any_walk (Kj d ⟨s.heap.objs.size,[s.heap.objs.size,a],[s.heap.objs.size],_,_,_,λi=>(bs[i]?).getD true,rfl,
  PN.list (A:=X.A.in1) (I.ok.hd c) _ a (IH k) _,⟨⟨_,IB _ rfl,rfl,rfl⟩,d.push _⟩,?_,?_⟩)
 .intro i v z B O C l;obtain⟨b,m,rfl⟩:=pH p i v (by simpa using C);have j:B ((bs[i]?).getD true) z:=l;rw[m]at j;exact Jz j
 .intro T U D;have m:f.toArray.size=bs.length:=by exact g
  rw[m,Dc];exact⟨.bl _,H,I.kept (λb o e=>D b o (λE=>by rw[Iy.mp E]at e;exact absurd (IA e) (JJ _)) (Im _ e)),rfl,q⟩
theorem Df{e:Expr}{d:ED}{p pos:Pos}(c:X.calm=true)(he:Pe X cm e d)(m:Gl X "any")(o:X.mg "any" = none)(hs:starEach [e] X.env=(false,eval e X.env)::starEach [] X.env:=by exact D6 rfl):Pe X cm (.Call (.Name "any" p) [e] [] pos) (oA d):=
 D7 (V4 (De c) m o rfl (r_cons he r_nil hs) (he:=hs)) λs H Q h=>f7 (λ_=>rfl) (λρ A H x z A' v Q g q i k=>by
  cases x with
  | ref n=>
    obtain⟨l,u,e1,b⟩:=B0 i;obtain⟨rfl,a,w,rfl,r,j⟩:=L3 g q e1;cases f:k9 l with
    | none=>rw[f]at b;cases b
    | some bs=>
      rw[f]at b;cases b;rw[pI f]at j;exact⟨a,bs,rfl,by rw[<-pJ j];exact r,k ρ H _ (aA.refl _ _) g (.bl _)⟩
  | _=>cases i) h
end
end Ws
namespace Ws
open PySem PySem.W PyProof.Rows L2
noncomputable def foldH{K:Type}[DecidableEq K](b:List (K×Addr×Ip)):List (K×Addr×Ip):=b.foldl (λa p=>storedH a p.1 p.2.1 p.2.2) []
theorem Dg{K:Type}[DecidableEq K](a:List (K×Addr×Ip))(p:K×Addr×Ip):foldH (a++[p])=storedH (foldH a) p.1 p.2.1 p.2.2:=by
 unfold foldH;rw[List.foldl_append];rfl
theorem Dh{K:Type}[DecidableEq K](b:List (K×Addr×Ip))(k:K)(a:Addr)(v:Ip):(storedH b k a v).length<=b.length+1:=by
 unfold storedH;split<;>simp
theorem uO{K:Type}[DecidableEq K](b:List (K×Addr×Ip)):(foldH b).length<=b.length:=by
 have c:∀(l a:List (K×Addr×Ip)),(l.foldl (λa p=>storedH a p.1 p.2.1 p.2.2) a).length<=a.length+l.length:=by
  intro l;induction l with
  | nil=>simp
  | cons p l ih=>
    intro a;have d:=ih (storedH a p.1 p.2.1 p.2.2);have e:=Dh a p.1 p.2.1 p.2.2;simp only[List.foldl_cons,IM];omega
 simpa[foldH]using c b []
theorem Di{K:Type}[DecidableEq K](d:List (K×Addr×Ip)):∀x∈foldH d,∃q∈d,x.1=q.1/\x.2.1=q.2.1:=by
 have f:∀(l a:List (K×Addr×Ip)),∀x∈l.foldl (λa p=>storedH a p.1 p.2.1 p.2.2) a,(∃q∈a,x.1=q.1/\x.2.1=q.2.1)\/∃q∈l,x.1=q.1/\x.2.1=q.2.1:=by
  intro l;induction l with
  | nil=>intro a x c;exact .inl ⟨x,c,rfl,rfl⟩
  | cons p l ih=>
    intro a x c;rcases ih _ x c with⟨q,b,e⟩ | ⟨q,b,e⟩
    .have b:q∈storedH a p.1 _ _:=b;unfold storedH at b;split at b
     .obtain⟨i,g,rfl⟩:=IC.mp b;refine .inl ⟨i,g,?_⟩;unfold putAt at e;split at e<;>exact e
     .rcases IV.mp b with z | z
      .exact .inl ⟨q,z,e⟩
      .cases Iy.mp z;exact .inr ⟨p,Iz,e⟩
    .exact .inr ⟨q,IE _ b,e⟩
 intro x c;rcases f d [] x c with⟨q,b,_⟩ | h
 .cases b
 .exact h
theorem mE{P:IS}{w:Jp}{h h':Heap}{k:List Key}{a:Addr}(c:(TK P w).is h k a)(d:∀o,h.get? a=some o->h'.get? a=some o):(TK P w).is h' k a:=by
 obtain⟨e,b,n,f,g⟩:=c;exact⟨e,b,n,d _ f,g⟩
theorem f9{P:IS}{w:Jp}{h h':Heap}{D:Addr}{a:List (List Key×Addr×Ip)}(b:h.DictOfH (TK P w) D a)(c:∀o,h.get? D=some o->h'.get? D=some o)(d:∀x∈a,(TK P w).is h' x.1 x.2.1):h'.DictOfH (TK P w) D a:=by
 obtain⟨o,e,f,g,i,j,k,_,l⟩:=b;exact⟨o,e,f,c _ g,i,j,k,d,l⟩
theorem uP{P:IS}{w:Jp}{h:Heap}{a:List (List Key×Addr×Ip)}(c:∀j (b:j<a.length),(TK P w).is h a[j].1 a[j].2.1)(i:Nat):∀x∈foldH (a.take i),(TK P w).is h x.1 x.2.1:=by
 intro x d;obtain⟨q,e,f,g⟩:=Di _ x d;obtain⟨j,b,rfl⟩:=List.getElem_of_mem (List.mem_of_mem_take e);rw[f,g];exact c j b
section
variable{prog:IS}{w:Jp}{A:Ji}{R:OF->Ir->Prop}{E:Ip->Ir->Prop}{s:Ir}
theorem Dj{I D:Addr}{fp y:List Addr}{G:Array Pr->Array Pr->Prop}{P:Nat->Ip->Prop}{St:Nat->Ir->Prop}{a:List (List Key×Addr×Ip)}
 (W:WalksS prog w A.in1 I fp y G a.length P St) (z:D∉fp) (res:Ip) (B:Nat->Addr) (Y:∀i v,P i v->v=.ref (B i)) (C:∀i,i<a.length->B i≠D/\B i∉y) (u:∀i (hi:i<a.length),a[i].2.1≠D/\a[i].2.1∉y) (hu:(TK prog w).room A.in1) (hz:a.length<=sizeLine) :
 ∀(k i:Nat)(s:Ir),a.length - i=k->i<=a.length->St i s->s.heap.DictOfH (TK prog w) D (foldH (a.take i))->
  (∀j (d:j<a.length),s.heap.IsTuple (B j) #[.ref a[j].2.1,a[j].2.2]/\(TK prog w).is s.heap a[j].1 a[j].2.1)->
  (∀l,Moved (D::y) G s l->l.heap.DictOfH (TK prog w) D (foldH a)->R (.ok (.ret res)) l)->
  codeAny (model prog w) A (.builtin "dict.update.loop" ⟨[.ref D,.ref I,rawInt i,res],[]⟩) R s:=by
 have H:=λh=>z (W.sub _ h);have p:∀b∈y,b∈D::y:=λb J=>IE _ J;intro k;induction k with
 | zero=>
   intro i s hk hi x U g hR;have a1:i=a.length:=by omega
   subst a1;rw[Ky]at U;refine Ko uK ?_;refine Il (W.done s _ _ x λl q=>?_);refine Iv (hR l (q.mono p) ?_);refine f9 U (λo f=>q.heap D o H f) ?_;have:=uP (i:=a.length) λj d=>mE (g j d).2 λo f=>q.heap _ o (u j d).2 f;rw[Ky]at this;exact this
 | succ k ih=>
   intro i s hk hi x U g hR;have m:i<a.length:=by omega
   refine Ko uK ?_;refine Il (W.item i s _ _ m x λv l hP L q=>?_);obtain rfl:=Y i v hP;have c:∀j _,l.heap.IsTuple (B j) #[.ref a[j].2.1,a[j].2.2]/\(TK prog w).is l.heap a[j].1 a[j].2.1:=by
    intro j d;obtain⟨⟨o,f,r⟩,h2⟩:=g j d;exact⟨⟨o,q.heap _ o (C j d).2 f,r⟩,mE h2 λo f=>q.heap _ o (u j d).2 f⟩
   have a3:=f9 U (λo f=>q.heap D o H f) (uP (i:=i) λj d=>(c j d).2);obtain⟨⟨ot,N,a4,nt,a5⟩,O⟩:=c i m;have hT:l.TypeIs (.ref _) "tuple":=⟨ot,N,a4⟩;refine Il (Js ?_);refine Il (JU ?_);refine Il (Oi hT ?_);refine Il (Ju N a5 ?_);refine Iv ?_;refine Js ?_;refine wpAny_dictSet_heap hu O a3 (λh' a6 n=>?_) (by have:=uO (a.take i);have:(a.take i).length<=a.length:=(by rw[JI];omega);omega);have a7:a.take (i+1)=a.take i++[a[i]]:=by rw[JY,IJ m];rfl
   have hc:((i:Int)+1)=((i+1)):=by push_cast;rfl
   refine Iv ⟨KA uL _,ih (i+1) _ (by omega) m (W.frame _ l _ _ L (NW _ _) λb J o e=>?_) (by rw[a7,Dg];exact a6) (λj d=>?_) λa8 Q T=>?_⟩
   .rw[n.2 b (λh:b=D=>z (by rw[<-h];exact J))];exact e
   .obtain⟨⟨o,f,r⟩,h2⟩:=c j d;exact⟨⟨o,by rw[n.2 _ (C j d).1];exact f,r⟩,mE h2 λo f=>by rw[n.2 _ (u j d).1];exact f⟩
   .refine hR a8 (Moved.trans W.gtrans ((q.mono p).then_heap (NW _ _) λb o J e=>?_) Q) T;rw[n.2 b (λh:b=D=>J (by rw[h];exact Iz))];exact e
theorem Dk{l:Addr}{items:Array Ip}{c:List (List Key×Addr×Ip)}{Q:Ip->Ir->Prop}(hh:A.handled=none)(hu:(TK prog w).room A.in1.in1)(hl:PlainL s.heap l items)(Y:Nat->Addr)(I:items.size=c.length)(hz:c.length<=sizeLine)
 (q:∀j (hj:j<c.length),items[j]?=some (.ref (Y j))/\s.heap.IsTuple (Y j) #[.ref c[j].2.1,c[j].2.2]/\(TK prog w).is s.heap c[j].1 c[j].2.1)
 (h:∀J tk,J.DictOfH (TK prog w) s.heap.objs.size (foldH c)->(∀b o,s.heap.get? b=some o->J.get? b=some o)->Q (.ref s.heap.objs.size) { s with heap:=J,toks:=tk }) :
 wpAny (model prog w) A (call (.type "dict") [.ref l]) Q E s:=by
 refine callType_codes (Q₁:=λobj y=>obj=.ref _/\y={ s with heap:=s.heap.push { cls:=.type "dict",data:=.dict #[] } }) Oc (Nh _) NP (kt_code_dict_new _ ⟨rfl,rfl⟩) ?_;rintro obj y ⟨rfl,rfl⟩;have d:(s.heap.push { cls:=.type "dict",data:=.dict #[] }).DictOfH (TK prog w) _ []:=⟨_,#[],0,IB _ rfl,⟨rfl,rfl,rfl⟩,rfl,rfl,λx L=>(nomatch L),MA⟩;obtain⟨ol,n,N,D,a1,k⟩:=id hl;have m:(s.heap.push { cls:=.type "dict",data:=.dict #[] }).get? l=some _:=Im _ N;have hT:MU { s with heap:=s.heap.push { cls:=.type "dict",data:=.dict #[] } } (.ref l) "list":=⟨_,m,D⟩;refine⟨d.typeIs,NH _ _,?_⟩;refine Il ?_;refine Il (MI d.typeIs ?_);refine Iv ?_;show wpAny _ _ (NQ "dict.__init__" _ _ [] .none) _ _ _;refine Il (Oi hT ?_);refine Il (CC m D k a1 fw rfl (by simpa using hh) λH b6 e1 ne=>?_);refine Il (LI ?_);have O:H.IsList l items:=⟨_,ne.keeps _ _ m,D,n,k⟩;refine Il (Kj O ?_);have a:s.heap.objs.size<H.objs.size:=by
  obtain⟨o,_,_,p,_⟩:=d;exact IA (ne.keeps _ _ p)
 have G:H.DictOfH (TK prog w) s.heap.objs.size (foldH (c.take 0)):=by
  exact f9 d (λo p=>ne.keeps _ _ p) λx L=>nomatch L
 have T:=IA N;have U:=IH (Nm T a);have WW:=(PN.list (prog:=prog) (w:=w) (A:=A.in1.in1) (by simpa using hh) _ l U items).toS;rw[I]at WW;have a2:s.heap.objs.size∉[H.objs.size,l]:=by
  simp only[IF,Jl,or_false,not_or];exact⟨IH a,Kg T⟩
 have B:∀i,i<c.length->Y i<s.heap.objs.size:=by
  intro i f;obtain⟨_,⟨o,p,_⟩,_⟩:=q i f;exact IA p
 have C:∀i (f:i<c.length),c[i].2.1<s.heap.objs.size:=by
  intro i f;obtain⟨_,_,ot,b7,n,H,h2⟩:=q i f;exact IA H
 refine Iv ⟨KA uL _,Dj WW a2 .none Y (λi v hv=>?_) (λi f=>⟨IH (B i f),?_⟩) (λi f=>⟨IH (C i f),?_⟩) hu hz c.length 0 _ rfl (Lx _)
  ⟨⟨_,IB _ rfl,rfl,rfl⟩,O.push _⟩ ?_ (λj hj=>?_) λs' hm hD=>?_⟩
 .have f:i<c.length:=by
   rcases Nat.lt_or_ge i _ with z | z
   .rw[<-I];exact z
   .rw[Array.getElem?_eq_none z]at hv;cases hv
  have:=(q i f).1;rw[hv]at this;exact IK this
 .rw[Iy];exact IH (Nm (B i f) a)
 .rw[Iy];exact IH (Nm (C i f) a)
 .exact f9 G (λo p=>Im _ p) λx L=>nomatch L
 .obtain⟨_,⟨o,p,r⟩,h2⟩:=q j hj;exact⟨⟨o,Im _ (ne.keeps _ _ (Im _ p)),r⟩,mE h2 λo p=>Im _ (ne.keeps _ _ (Im _ p))⟩
 .obtain⟨J,g',d',a4,a5⟩:=s';have eg:g'=s.gens:=hm.gens;have ed:d'=s.drawn:=hm.drawn;have eo:a5=s.os:=hm.os;subst eg;subst ed;subst eo;refine⟨rfl,h J a4 hD λb o e=>?_⟩;have hb:=IA e;refine hm.heap b o ?_ (Im _ (ne.keeps _ _ (Im _ e)));simp only[IF,Jl,or_false,not_or];exact⟨IH hb,IH (Nm hb a)⟩
end
abbrev TripT:=Addr×Addr×List Int×V
def mF(H:Hp)(t:TripT):Prop:=H t.1=some (.tup [.ref t.2.1,t.2.2.2])/\H t.2.1=some (.tup ((t.2.2.1.map JN).map L2.kV))
theorem uQ{ρ:List Addr}{H:Hp}:∀{l:List PV}{d:List V}{m:List (List Int×PV)},RVs ρ H l d->gp l=some m->∃a:List TripT,d=a.map (λt=>V.ref t.1)/\(∀t∈a,mF H t)/\m.map (·.1)=a.map (·.2.2.1)/\RVs ρ H (m.map (·.2)) (a.map (·.2.2.2))
 | [],d,m,r,h=>by
   cases r;cases h;exact⟨[],rfl,by simp,rfl,.nil⟩
 | x::l,d,m,r,h=>by
   cases r with
   | cons f j=>
     match x,f,h with
     | .tup [k,v],f,h=>
       rcases e:R3 k with _ | i
       .simp[gp,e]at h
       rcases g:gp l with _ | B
       .simp[gp,e,g]at h
       .simp only[gp,e,g,Ov,Option.bind_some,Option.some.injEq]at h;subst h;obtain⟨a,n,o,p,q⟩:=uQ j g;cases f with
        | tup s c=>
          cases c with
          | cons u c=>
            obtain⟨b,rfl,w⟩:=X6 e u;cases c with
            | cons y c=>
              cases c;refine⟨(_,b,i,_)::a,by rw[n];rfl,λt A=>?_,by simp[p],.cons y q⟩;rcases IF.mp A with z | z
              .subst z;exact⟨s,w⟩
              .exact o t z
noncomputable def v9(b:List TripT)(a:List (List Key×V)):List (List Key×V):=b.foldl (λa t=>Z7 a (t.2.2.1.map JN) t.2.2.2) a
theorem uR{ρ:List Addr}{H:Hp}:∀(m:List (List Int×PV))(a:List TripT)(b:List (List Int×PV))(c:List (List Key×V)),m.map (·.1)=a.map (·.2.2.1)->RVs ρ H (m.map (·.2)) (a.map (·.2.2.2))->PT2 ρ H b c->PT2 ρ H (m.foldl (λd p=>Z2 d p.1 p.2) b) (v9 a c)
 | [],[],b,c,_,_,h=>h
 | [],_::_,_,_,e,_,_=>by simp at e
 | _::_,[],_,_,e,_,_=>by simp at e
 | p::m,t::a,b,c,e,r,h=>by
   simp only[Jb,Mj]at e;cases r with
   | cons f g=>
     show PT2 ρ H (m.foldl _ (Z2 b p.1 p.2)) (v9 a (Z7 c (t.2.2.1.map JN) t.2.2.2));rw[<-e.1];exact uR m a _ _ e.2 g (PT2.put f p.1 h)
def uS(s:Ir)(t:TripT)(q:List Key×Addr×Ip):Prop:=q.1=t.2.2.1.map JN/\q.2.1=t.2.1/\L2.RelV t.2.2.2 q.2.2/\s.heap.IsTuple t.1 #[.ref q.2.1,q.2.2]
section
variable{X:Cx}{cm:Nat->Addr}{pins:List (Addr×Obj)}{σ:L2.St}{H:Hp}{s:Ir}
theorem uT(I:L2.Inv X pins σ H s):∀(a:List TripT),(∀t∈a,mF H t)->∃b:List (List Key×Addr×Ip),b.length=a.length/\∀j (c:j<b.length) (d:j<a.length),uS s a[j] b[j]
 | [],_=>⟨[],rfl,λj c=>absurd c (by simp)⟩
 | t::a,h=>by
   obtain⟨b,e,f⟩:=uT I a λx g=>h x (IE _ g);obtain⟨_,i,k,l⟩:=I.hok _ _ (h t Iz).1;obtain⟨m,n,rfl,o,p⟩:=lh k;cases(show m=IZ t.2.1 from o);refine⟨(t.2.2.1.map JN,t.2.1,n)::b,by simp[e],λj c d=>?_⟩;cases j with
   | zero=>exact⟨rfl,rfl,p,l⟩
   | succ j=>exact f j (by simpa using c) (by simpa using d)
theorem uU:∀(a:List TripT)(b:List (List Key×Addr×Ip))(c:List (List Key×V))(d:List (List Key×Addr×Ip)),b.length=a.length->(∀j (g:j<b.length) (i:j<a.length),uS s a[j] b[j])->(∀t∈a,mF H t)->KT H c d->KT H (v9 a c) (b.foldl (λf p=>storedH f p.1 p.2.1 p.2.2) d)
 | [],[],c,d,_,_,_,h=>h
 | [],_::_,_,_,e,_,_,_=>by simp at e
 | _::_,[],_,_,e,_,_,_=>by simp at e
 | t::a,q::b,c,d,e,k,l,h=>by
   have r:=k 0 (by simp) (by simp);obtain⟨m,n,o,_⟩:=r;simp only[List.getElem_cons_zero]at m n o;show KT H (v9 a (Z7 c (t.2.2.1.map JN) t.2.2.2)) (b.foldl _ (storedH d q.1 q.2.1 q.2.2));refine uU a b _ _ (by simpa using e) (λj g i=>by have:=k (j+1) (by simpa using g) (by simpa using i);simpa using this) (λx u=>l x (IE _ u)) ?_;rw[m,n];exact h.put _ (l t Iz).2 o
theorem Dl{e:Expr}{d:ED}{p q:Pos}(B:X.calm=true)(hu:X.A.units+64<cLine)(he:Pe X cm e d)(hg:Gl X "dict")(hm:X.mg "dict" = none)
 (hs:starEach [e] X.env=(false,eval e X.env)::starEach [] X.env:=by exact D6 rfl) :
 Pe X cm (.Call (.Name "dict" p) [e] [] q) (oB d):=by
 intro pins s σ H Q I h;obtain⟨ρ,A,N,v,A',rl,rs,ev,k⟩:=h;obtain⟨x,A1,e1,G⟩:=B0 ev;refine Call_ (V9 I hg hm (show bootBuiltins "dict" = some _ from by rfl) (callWith_type1 (pG hs ?_) hs rfl));refine aQ (he pins s σ H (λv w=>∃(a:Addr)(f:List TripT),v=.ref a/\bE X.K w a (f.map λt=>V.ref t.1)/\(∀t∈f,mF w t)/\f.length<=sizeLine/\∀l,w l=none->Q (.ref l) (aJ w l (.dT (v9 f [])))) I ⟨ρ,A,N,x,A1,rl,rs,e1,λO w v1 x1 C T=>?_⟩) λu s1 zq=>?_
 .cases x with
  | ref n=>
    obtain⟨l,A2,U,i⟩:=B0 G;obtain⟨rfl,hA,a,xs,rfl,hn,hH,r0⟩:=P7 C T U;cases Y:gp l with
    | none=>rw[Y]at i;cases i
    | some m=>
      rw[Y]at i;obtain⟨c,a0⟩:=C7 i;cases a0;obtain⟨f,f1,f2,f3,f4⟩:=uQ r0 Y;have hl:f.length=m.length:=by
       have:=congrArg List.length f3;simpa using this.symm
      refine⟨a,f,rfl,by rw[<-f1];exact bE.of hH,f2,by rw[hl];exact Nl (lO c),λD hD=>?_⟩;have ex:aA O w _ (aJ w D (.dT (v9 f []))):=aA.new hD;refine k _ _ _ (x1.trans ex) (C.alloc hD ⟨_,C8,?_⟩ rfl) (.ref (by rw[<-C.len];simp));exact uR m f [] [] f3 (f4.mono ex) ⟨rfl,.nil⟩
  | _=>cases G
 .obtain⟨w1,w,y,r1,a,f,ew,hq,E,hz,qq⟩:=zq;subst ew;obtain rfl:u=IZ a:=r1;obtain⟨a1,ri,pl,_⟩:=y.list hq;obtain⟨ws,g,w2⟩:=uT y f E;have J:a1.length=f.length:=by rw[<-ri.length];simp
  refine Dk (y.ok.hd B) (Kt (O9 X.A 1 (by omega))) pl (λj=>(f.getD j (0,0,[],.non)).1) (by rw[II,J,g]) (by rw[g];exact hz) (λj hj=>?_) λh' tk dd hk=>?_
  .have r:j<f.length:=by rw[<-g];exact hj
   have e0:f.getD j (0,0,[],.non)=f[j]:=by simp[r]
   rw[e0];obtain⟨g1,g2,g3,g4⟩:=w2 j hj r;refine⟨?_,g4,?_⟩
   .obtain⟨u,hu,ru⟩:=ri.get (by rw[Jc,IJ r];rfl);cases(show u=IZ f[j].1 from ru);simpa using hu
   .rw[g1,g2];exact j4 y.hok (E _ (LV r)).2
  .have L:=uU f ws [] [] g w2 E .nil;have a2:(v9 f []).length<=sizeLine:=by
    rw[Paired.length L];exact Jm (uO ws) (by rw[g];exact hz)
   obtain⟨qo,es,ep,a3,h2,h3,h4,_,h5⟩:=dd;refine⟨.ref _,_,y.laid (o:=.dT _) (λb o U=>hk b o U) (Iw _) ⟨a2,beq_eq_false_iff_ne.mpr (JW (IH y.big)),_,KT.keeps L (λc ys ec=>?_),qo,es,ep,a3,h2,h3,h4,h5⟩,rfl,qq _ (y.hok.fresh (Iw _))⟩;rw[ak (λz=>by rw[z,y.hok.fresh (Iw _)]at ec;cases ec)];exact ec
end
end Ws
namespace Ws
open PySem L2
section
variable{P:IS}{w:Jp}{K:Io}{mg:Str->Option Ip}{base:Heap}{cm:Nat->Addr}{x qual:Str}{st:Stmt}{f:Addr}{fd:IQ}{items:Array Ip}{N ps:List Str}{k:Nat}{s:SD}
theorem mG{n:Nat}(h:n+64<cLine):n+1<cLine:=Mo (Nat.add_le_add_left (by simp) _) h
theorem D8(F:L2.Fun K x qual st f fd)(S:C6 N ps (C2 st))
 (e:∀(b:Ip)(A:Ji)(a:List Env)(c:Ir)(H:Hp)(E:L2.XK),aL k (A.deeper (Je qual (C2 st) c.heap.objs.size f b))->(A.deeper (Je qual (C2 st) c.heap.objs.size f b)).units+64<cLine->(A.deeper (Je qual (C2 st) c.heap.objs.size f b)).units+1<cLine->
  cC (Z6 aS P w K mg base N qual (C2 st) f b A a c H E).nox (G9 st) (fK K cm s)) :
 ay P w K mg base aS (k+1) f fd ps (bf K cm (fn N.length ps.length s) ps.length):=Al F S λb A a c H E d=>e b A a c H E d d.units (mG d.units)
theorem Dm(F:eQ K x qual st f fd items)(S:C6 N ps (C2 st))
 (e:∀(b:Ip)(A:Ji)(a:List Env)(c:Ir)(H:Hp)(E:L2.XK),aL k (A.deeper (Je qual (C2 st) c.heap.objs.size f b))->(A.deeper (Je qual (C2 st) c.heap.objs.size f b)).units+64<cLine->(A.deeper (Je qual (C2 st) c.heap.objs.size f b)).units+1<cLine->
  cC (Z6 aS P w K mg base N qual (C2 st) f b A a c H E).nox (G9 st) (fK K cm s)) :
 ay P w K mg base aS (k+1) f fd ps (bf K cm (fn N.length ps.length s) ps.length):=Bg F S λb A a c H E d=>e b A a c H E d d.units (mG d.units)
theorem pX(F:L2.Fun K x qual st f fd)(S:C6 N ps (C2 st))
 (e:∀(b:Ip)(A:Ji)(a:List Env)(c:Ir)(H:Hp)(E:L2.XK),aL k (A.deeper (Je qual (C2 st) c.heap.objs.size f b))->(A.deeper (Je qual (C2 st) c.heap.objs.size f b)).units+64<cLine->(A.deeper (Je qual (C2 st) c.heap.objs.size f b)).units+1<cLine->
  cC (Z6 (fu P w) P w K mg base N qual (C2 st) f b A a c H E) (G9 st) (q5 K cm (mw E) s)) :
 ay P w K mg base (fu P w) (k+1) f fd ps (gG K cm (fn N.length ps.length s) ps.length):=Cj F S λb A a c H E d=>e b A a c H E d d.units (mG d.units)
end
section
variable{X:Cx}{cm:Nat->Addr}{o value:Expr}{d e:ED}{f:Str}{pos pos':Pos}
theorem ah(i:Nat){x:Str}(b:X.N[i]?=some x:=by rfl)(c:jh X.env.scope x:=by first | exact PQ rfl | exact OV (PQ rfl) | exact OV (OV rfl))(hd:(x == ("__debug__" : Str))=false:=by decide)
 (a:(x == ("__classdict__" : Str))=false:=by decide):Pe X cm (.Name x pos) (aa i):=oH (L2.pv i b c hd a)
theorem uV{K:Io}{mg:Str->Option Ip}{i:Nat}(B:K6 K mg cm)(a:cR i=f)(b:i<19):∀c,c<7->bH K (cm c) f:=λc h=>a ▸ B.na c i b h
theorem aO(i:Nat){mg:Str->Option Ip}(B:K6 X.K mg cm)(he:Pe X cm o d)(a:cR i=f:=by rfl)(b:i<19:=by decide)(c:attributeBase o f X.env (eval o X.env)=eval o X.env:=by rfl):Pe X cm (.Attribute o f pos) (H8 d i):=Ai he a b B.cls (uV B a b) c
theorem q8(i:Nat){mg:Str->Option Ip}(B:K6 X.K mg cm)(c:Pe X cm o d)(g:Pe X cm value e)(a:cR i=f:=by rfl)(b:i<19:=by decide)(hs:swapsWith value (some (.Attribute o f pos')) pos.line X.env=pure false:=by rfl):Ps X cm (.Assign [.Attribute o f pos'] value pos) (sFld d i e):=Aj c g a b B.cls (uV B a b) hs
end
end Ws
local macro_rules | `(tactic| walk_at "sc")=>`(tactic| exact⟨rfl,rfl,rfl,by decide +kernel,rfl,by decide +kernel,by decide +kernel⟩)
local macro_rules | `(tactic| walk_at "fb")=>`(tactic| first | exact(λ_=>rfl) | exact(λh=>nomatch h))
local macro_rules | `(tactic| walk_at "o2")=>`(tactic| first | exact PQ rfl | exact OV rfl)
local macro_rules | `(tactic| walk_at "o3")=>`(tactic| first | exact PQ rfl | exact OV (PQ rfl) | exact OV (OV rfl))
namespace Ws
open PySem SetTable
noncomputable def Dp(m:Nat)(p:Probe):Probe:=advance { mask:=m,place:=#[],dummies:=#[],finger:=0,led:=true,moves:=0,plain:=true } p
noncomputable def st0(m:Nat)(h:Int):Probe:=probeStart { mask:=m,place:=#[],dummies:=#[],finger:=0,led:=true,moves:=0,plain:=true } h
noncomputable def uW(m:Nat)(h:Int):Nat->Probe
 | 0=>st0 m h
 | k+1=>Dp m (uW m h k)
noncomputable def pos(m:Nat)(h:Int)(k:Nat):Nat:=(uW m h k).j
end Ws
namespace Ws
open PySem PySem.W PyProof.Rows PySem.SeqAt
open MeetsSeq MeetsSeq2 MeetsSeq3 SeqRoads2
theorem Dq(l b:Addr)(a c:Array Ip)(n N:Nat)(O D:Option Addr)(Q E:Array (Option Ip))(e f:Nat->Bool) :
 Meets (Kv.«tuple.__lt__» ⟨[.ref l,.ref b],[]⟩)
  (λA R s=>s.heap.get? l=some { cls:=.type "tuple",dict:=O,data:=.seq a n,slots:=Q }/\s.heap.get? b=some { cls:=.type "tuple",dict:=D,data:=.seq c N,slots:=E }/\
   (∀j (G:j<a.size) (T:j<c.size),EqAt A.in1 s a[j] c[j] (e j))/\(∀j (G:j<a.size) (T:j<c.size),e j=false->bN A.in1 s a[j] c[j] (f j))/\
   R (.ok (.ret (.bool (X7 e f a.size c.size 0 (min a.size c.size))))) s):=
 .of_wp λm w A R s h=>by
  obtain⟨U,g,d,Y,os⟩:=s;obtain⟨hl,hb,h0,G,h⟩:=h;have f2:=NG;have zl:(a.toList.zip c.toList).length=min a.size c.size:=by simp
  wp_walk using Lj hl,Lj hb,NY _ (λo b H=>b.1=none/\H=⟨U,g,d,Y,os⟩/\∃i,o=(a.toList.zip c.toList).drop i/\i<=min a.size c.size/\X7 e f a.size c.size 0 (min a.size c.size)=X7 e f a.size c.size i (min a.size c.size - i)) _
  case turn=>
   rintro⟨y,x⟩ o b H ⟨q,rfl,i,C,hi,k⟩;have I:i<(a.toList.zip c.toList).length:=by
    have:=congrArg List.length C;rw[JV,IM]at this;omega
   have a4:i<min a.size c.size:=by omega
   have J:i<a.size:=by omega
   have L:i<c.size:=by omega
   rw[JR I]at C;injection C with r u;have r:(y,x)=(a[i],c[i]):=by rw[r];simp
   injection r with e1 e2;subst e1 e2 u;have st:min a.size c.size - i=(min a.size c.size - (i+1))+1:=by omega
   rw[st]at k;have k:X7 e f a.size c.size 0 (min a.size c.size)=if e i then X7 e f a.size c.size (i+1) (min a.size c.size - (i+1)) else f i:=k;refine Il (h0 i J L m w _ _ ?_);cases v:e i with
   | true=>
     rw[v]at k
     wp_walk
     exact⟨rfl,rfl,i+1,rfl,by omega,k⟩
   | false=>
     rw[v]at k;have k:X7 e f a.size c.size 0 (min a.size c.size)=f i:=k;rw[k]at h;simp only[OH,if_true];refine Il (LI ?_);refine Il (G i J L v m w _ _ ?_)
     wp_walk
     exact⟨_,rfl,h⟩
  case fin=>
   rintro⟨a7,a8⟩ H ⟨q,rfl,i,C,hi,k⟩;simp only at q;subst q;have a9:(a.toList.zip c.toList).length<=i:=MQ.mp C.symm;have e0:min a.size c.size - i=0:=by omega
   rw[e0]at k;rw[k]at h
   wp_walk
   exact⟨_,rfl,by simpa[Mx,X7]using h⟩
  case h=>
   exact⟨rfl,rfl,0,rfl,Lx _,rfl⟩
theorem bN.tupN{A:Ji}{s:Ir}{l b:Addr}{a c:Array Ip}{e f:Nat->Bool}(y:s.heap.IsTuple l a)(z:s.heap.IsTuple b c)(B:A.units<cLine)
 (C:∀j (k:j<a.size) (D:j<c.size),EqAt A.in1 s a[j] c[j] (e j)) (k:∀j (k:j<a.size) (D:j<c.size),e j=false->bN A.in1 s a[j] c[j] (f j)):bN A s (.ref l) (.ref b) (X7 e f a.size c.size 0 (min a.size c.size)):=λp w E Q h=>by
 obtain⟨⟨cls,G,q,H⟩,r,u,n,hd⟩:=id y;obtain⟨⟨v,m,data2,o⟩,d,g,I,i⟩:=id z;simp only at u hd g i;subst u hd g i;exact Ob (op:=.Lt) ⟨_,r,rfl⟩ ⟨_,d,rfl⟩ F.slot_tuple_lt F.entry_tuple_lt (F.args_tuple_lt_2 _ _) (Dq l b a c n I G m H o e f)
  ⟨r,d,C,k,show Nx _≠Ip.notImplemented/\Q (.bool _) s from⟨(λx=>nomatch x),h⟩⟩ B
theorem bN.tupI{A:Ji}{s:Ir}{l b:Addr}{i k:List Ip}{ns a:List Int}(x:s.heap.IsTuple l i.toArray)(y:s.heap.IsTuple b k.toArray)(m:LZ i ns)(n:LZ k a)(z:A.units<cLine):bN A s (.ref l) (.ref b) (lexLt ns a):=by
 have B:=m.length;have l2:=n.length;have g:∀{vs:List Ip}{c:List Int},LZ vs c->∀j (h:j<vs.toArray.size),∃t,vs.toArray[j]=.int (c.getD j 0) t:=λ{vs c} v j h=>by
  have w:j<c.length:=by rw[<-v.length];simpa using h
  obtain⟨t,e⟩:=v.get j c[j] (IJ w);refine⟨t,?_⟩;have:vs[j]?=some vs.toArray[j]:=by simp at h ⊢
  rw[this]at e;rw[IK e];simp[w]
 have d:=bN.tupN (A:=A) (s:=s) (e:=λj=>decide (ns.getD j 0=a.getD j 0)) (f:=λj=>decide (ns.getD j 0<a.getD j 0)) x y z (λj o p=>?_) λj o p _=>?_
 .have C:i.toArray.size=ns.length:=by simpa using B
  have D:k.toArray.size=a.length:=by simpa using l2
  rw[C,D,uI _ 0 ns a (by omega) (Lx _)]at d;exact d
 .obtain⟨t,q⟩:=g m j o;obtain⟨u,r⟩:=g n j p;rw[q,r];exact uJ _ _ _ _ _ _
 .obtain⟨t,q⟩:=g m j o;obtain⟨u,r⟩:=g n j p;rw[q,r];exact bN.ints _ _ _ _ _ _
end Ws
namespace Ws
open PySem PySem.W PyProof.Rows PySem.Calls L2
section
variable{P:IS}{w:Jp}{K:Io}{mg:Str->Option Ip}{base:Heap}{cm:Nat->Addr}{name qual x:Str}{params:OT}{body:Expr}{scope:Nc}{pm ctv:Ip}{f c':Addr}{d:ED}{k:Nat}
theorem Dr(S:C6 [x] [x] scope)
 (C:∀(A:Ji)(a:List Env)(r:Ir)(H:Hp),aL k (A.deeper (envOfC qual scope r.heap.objs.size f (.ref c')))->PE (Z6 aS P w K mg base [x] qual scope f (.ref c') A a r H E0).nox body (cW K cm d))
 (i:∀u:Ip,bindArgs (kla_fn name qual params body scope [] pm (.ref c') ctv) ⟨[u],[]⟩=pure [(x,u)])
 {A:Ji} {a:List Env} {s:Ir} {H:Hp} {v:V} {u:Ip} {Q:VK} (j:aL (k+1) A) (e0:di P w K mg base A a s H)
 (D:s.heap.get? f=some (ON name qual params body scope [] pm c' ctv)) (l:s.heap.CodeRec (.ref c') qual) (E:L2.RelV v u) (h:cW K cm d [some v] H Q) :
 codeAny (model P w) A (.call (.ref f) ⟨[u],[]⟩) (CR aS a P w H s Q E0) s:=by
 have m:s.heap.NoLimit:=e0.mod.nolimit.keeps λb o e=>(e0.bs b o e).1;have c:∀y∈[x].zip [u],scope.names.lookup y.1=some .local\/(scope.names.lookup y.1=some .cell/\((cellsFrom (s.heap.objs.size+1) scope.names []).lookup y.1).isSome=true):=λ⟨n,v⟩ G=>by
  rcases S.par n (MZ G).1 with q | q
  .exact .inl q
  .exact .inr ⟨q,Mr _ _ _ (.inl q)⟩
 refine kla_callFunE j.depth D rfl S.co S.gen rfl l ?_;rw[i];refine Iv ?_;refine Nf S.kind c λL N B z=>?_;subst N;refine⟨m.keeps z.toInCall.keep,kla_codeExpr ?_⟩;have I:L2.Inv (Z6 aS P w K mg base [x] qual scope f (.ref c') A a s H E0) [] (L2.start [x] [v]) H B:=rQ S j.hd e0 rfl (.cons E .nil) z;have g:=C A a s H (j.deeper _) [] B (L2.start [x] [v]) H Q (I.wish _) h;refine Jh g (λu' O p=>?_) λe O p=>p.elim;obtain⟨T,U,J,Y,q⟩:=p;exact⟨T,U,J.os,J.bare,J.base,J.hok,Y,q⟩
end
theorem uX{p q:Pos}(e:p.line=q.line)(f:p.col=q.col):∀l:List Ip,codeAmong p l=codeAmong q l:=λl=>by
 fun_induction codeAmong p l with
 | case1 a t b u c r h=>
   rw[e,f]at h;simp only[codeAmong];rw[if_pos h]
 | case2 a t b u c r h ih=>
   rw[e,f]at h;simp only[codeAmong];rw[if_neg h];exact ih
 | case3 l h=>
   unfold codeAmong;split
   .exact(h _ _ _ _ _ _ rfl).elim
   .rfl
structure kG(mg:Str->Option Ip)(base:Heap)(cm:Nat->Addr)(j:Nat):Prop where
 lt:j<cm 30
 hd:CodeHd base (cm (34+5*j)) (cm (31+5*j))
 un:∀i,i<cm 30->cm (31+5*i)=cm (31+5*j)->i=j
 bm:∃bm o,mg "__builtins__" = some (.ref bm)/\bm≠builtinsNs/\bm≠mainGlobals/\base.get? bm=some o/\o.cls=.type "module"/\o.dict=some builtinsNs/\o.data=.plain
def eA(H H':Hp):Prop:=∀b u,H b=some u->(∀a,u≠.tbl a)->H' b=some u
section
variable{K:Io}{cm:Nat->Addr}{ρ:List Addr}{H H':Hp}{A:PHp}{a:Addr}{o:PO}
theorem eA.ext(c:eA H H'):aA ρ H ρ H':=⟨Jk _,λa b h=>c a _ h (by intro d z;cases z),λa b h=>c a _ h (by intro d z;cases z)⟩
theorem Ds(r:RO K cm ρ H a o)(c:eA H H'):RO K cm ρ H' a o:=by
 have e:aA ρ H ρ H':=c.ext;cases o with
 | lst l=>obtain⟨g,h,q⟩:=r;exact⟨g,c _ _ h (by intro b z;cases z),q.mono e⟩
 | ro l=>
   obtain⟨g,h,q⟩:=r;rcases h with⟨u,h⟩ | h
   .exact⟨g,.inl ⟨u,c _ _ h (by intro b z;cases z)⟩,q.mono e⟩
   .exact⟨g,.inr h,q.mono e⟩
 | dI i=>obtain⟨f,h,q⟩:=r;exact⟨f,c _ _ h (by intro b z;cases z),q.mono e⟩
 | ins j fs=>obtain⟨k,m,f,h,q⟩:=r;exact⟨k,m,f,c _ _ h (by intro b z;cases z),q.mono e⟩
 | dT i=>obtain⟨f,h,q⟩:=r;exact⟨f,c _ _ h (by intro b z;cases z),q.mono e⟩
 | exc j v=>obtain⟨o,d,n,h,p,s,w,x,q⟩:=r;exact⟨o,d,n,c _ _ h (by intro b z;cases z),p,s,w,c _ _ x (by intro b z;cases z),q.mono e⟩
theorem aR.calmT(r:aR K cm ρ A H)(c:eA H H')(t:eP cm H'):aR K cm ρ A H':=⟨t,r.len,λn o a b d=>Ds (r.obj n o a b d) c,r.inj⟩
end
inductive RecAt (H:Hp) (c:Addr) (q:Str):Prop
 | mk (o:Obj) (vs:Array Ip) (t:Tok) (h0:H c=some (.frz o (.own c))) (h1:o.data=.fields vs) (h2:vs[1]?=some (.str q t)):RecAt H c q
section
variable{X:Cx}{cm:Nat->Addr}{ρ:List Addr}{H:Hp}{A:PHp}{pins:List (Addr×Obj)}{σ:L2.St}{s:Ir}{j:Nat}{E:Ip->Ir->Prop}{Q:Ip->Ir->Prop}{params:OT}{body:Expr}{scope:Nc}{pos:Pos}
theorem RecAt.code{c:Addr}{q:Str}(r:RecAt H c q)(I:L2.Inv X pins σ H s):s.heap.CodeRec (.ref c) q:=by
 obtain⟨o,a,t,b,d,e⟩:=r;exact⟨c,o,a,t,rfl,(I.hok c _ b).1,d,e⟩
theorem mH{h':Heap}{o:Obj}{t':Nat}{H':Hp}(I:L2.Inv X pins σ H' { s with heap:=h'.push o,toks:=t' })(hs:s.heap.objs.size<=h'.objs.size)(e:L2.Inv X pins σ H s)(f:H' h'.objs.size=none)(g:∀v,o.data≠.cell v)(d:o.isFreed=false:=by rfl) :
 L2.Inv X (pins++[(h'.objs.size,o)]) σ H' { s with heap:=h'.push o,toks:=t' }:=by
 refine I.pins_of λp c=>?_;rcases IV.mp c with c | c
 .exact I.pin p (IP _ c)
 .rw[Iy.mp c];exact⟨IB _ d,f,Kg (IL e.lt hs),e.nofs hs,g⟩
theorem Dt(L:kG X.mg X.base cm j)(I:L2.Inv X pins σ H s)(rl:aR X.K cm ρ A H)(a2:defaultsOf params X.env=([],[]))(a3:closureFor scope X.env=pure [])(l:X.env.code=.ref (cm (34+5*j)))
 (hl:pos.line=cm (32+5*j)) (N:pos.col=cm (33+5*j)) (hq:X.env.qual++"<lambda>" = o9 (cm (35+5*j)))
 (h:∀f d g pm H' s',aA ρ H ρ H'->aR X.K cm ρ A H'->RecAt H' d (o9 (cm (35+5*j)))->L2.Inv X (pins++[(f,ON "<lambda>" (o9 (cm (35+5*j))) params body scope [] pm d g)]) σ H' s'->Q (.ref f) s') :
 wpAny (model X.prog X.w) X.A (eval (.Lambda params body scope pos) X.env) Q E s:=by
 obtain⟨ps,O,ht,hf⟩:=rl.tab j L.lt;have hf:∀D,codeAmong pos ps.toList=some D->_:=λD e=>hf D (by rw[uX (p:=⟨cm (32+5*j),cm (33+5*j),0,0⟩) (q:=pos) hl.symm N.symm];exact e);have a5:s.heap.get? (cm (31+5*j))=some (tabObj ps):=I.hok _ _ O;obtain⟨bm,ob,b1,b2,b3,b4,b5,b6,b7⟩:=L.bm;have nP:∀b o,X.base.get? b=some o->b≠cm (31+5*j):=λb o e z=>by
  have:=(I.bs b o e).2;rw[z,O]at this;cases this
 have hg:s.heap.Ns mainGlobals X.mg:=I.mod.glob.keeps I.bk;have d2:mainGlobals≠cm (31+5*j):=by
  obtain⟨o,_,_,e,_⟩:=I.mod.glob;exact nP _ o e
 have C:=L.hd.keeps I.bk;have G:s.heap.BuiltinsAt X.mg (cm (31+5*j)):=⟨bm,ob,b1,b2,b3,nP _ _ b4,I.bk _ _ b4,b5,b6,b7⟩;refine kla_eval a2 ?_;rw[hq];cases hn:codeAmong pos ps.toList with
 | none=>
   refine kla_makeFunction (mg:=X.mg) a3 I.ok.glob hg l C a5 ht hn d2 G λd g T tk hx U a6 a7 Y=>?_;obtain⟨f4,oc,vs,t,e2,e1,hd,hv⟩:=a7;cases e2;have m:H d=none:=I.hok.fresh U;have e3:d≠cm (31+5*j):=λz=>by rw[z,O]at m;cases m
   have a8:cm (31+5*j)<T.objs.size:=IA Y;have r:s.heap.objs.size<=T.objs.size:=Jm U (Nl a6)
   let J:Hp:=aJ (aJ H (cm (31+5*j)) (.tbl (ps++#[rawInt pos.line,rawInt pos.col,.ref d]))) d (.frz oc (.own d))
   have B:J d=some (.frz oc (.own d)):=C8;have a0:J (cm (31+5*j))=some (.tbl (ps++#[rawInt pos.line,rawInt pos.col,.ref d])):=(ak e3.symm).trans C8;have k:∀b,b≠d->b≠cm (31+5*j)->J b=H b:=λb x y=>(ak x).trans (ak y);have a:eA H J:=λb u e n=>by
    refine(k b (λz=>?_) λz=>?_).trans e
    .rw[z,m]at e;cases e
    .rw[z,O]at e;exact n _ (IK e).symm
   have kp:∀b o,b≠cm (31+5*j)->s.heap.get? b=some o->(T.push (ON "<lambda>" (o9 (cm (35+5*j))) params body scope [] ((X.mg "__name__").getD .none) d g)).get? b=some o:=λb o ne e=>Im _ (hx b o ne e);have e4:bU X.prog X.w J (T.push (ON "<lambda>" (o9 (cm (35+5*j))) params body scope [] ((X.mg "__name__").getD .none) d g)):=λb o e=>by
    by_cases h1:b=d
    .subst h1;rw[B]at e;cases e;have z:=Im (ON "<lambda>" (o9 (cm (35+5*j))) params body scope [] ((X.mg "__name__").getD .none) b g) e1;exact⟨z,_,z⟩
    .by_cases h2:b=cm (31+5*j)
     .subst h2;rw[a0]at e;cases e;exact Im _ Y
     .rw[k b h1 h2]at e;refine(I.hok b o e).stay (λc v N q=>kp c v ?_ q) (λc q=>a _ _ q (by intro _ z;cases z)) λc xs q=>a _ _ q (by intro _ z;cases z);rcases N with rfl | N
      .exact h2
      .exact λz=>by rw[z,O]at N;cases N
   have u:Un X.fs [] H J s.heap (T.push (ON "<lambda>" (o9 (cm (35+5*j))) params body scope [] ((X.mg "__name__").getD .none) d g)):=by
    have nn:∀b,H b=none->b≠cm (31+5*j):=λb n z=>by rw[z,O]at n;cases n
    refine⟨λb o e n _ _=>kp b o (nn b n) e,λb o e n _ _=>⟨o.slots,kp b o (nn b n) e⟩,λb o e n _=>?_,λb o e _=>?_,λb xs e=>a _ _ e (by intro _ z;cases z),λb o v e=>a _ _ e (by intro _ z;cases z),λb qs e=>?_⟩
    .rw[k b (λz=>by rw[z]at e;exact absurd (IL (IA e) U) (JJ _)) (nn b n)];exact n
    .by_cases G:b=cm (31+5*j)
     .exact⟨_,by rw[G];exact Im _ Y⟩
     .exact⟨o,kp b o G e⟩
    .by_cases G:b=cm (31+5*j)
     .subst G;rw[O]at e;cases e;exact⟨_,a0⟩
     .exact⟨#[],by rw[k b (λz=>by rw[z,m]at e;cases e) G,e];simp⟩
   have a9:eP cm J:=λi hi=>by
    by_cases b0:i=j
    .subst b0;refine⟨_,a0,?_,λD e=>?_⟩
     .rw[OO];exact TriplesOk_snoc _ _ _ _ ht
     .rw[uX (p:=⟨cm (32+5*i),cm (33+5*i),0,0⟩) (q:=pos) hl.symm N.symm,OO]at e;have e':=e.symm.trans (codeAmong_snoc (c:=.ref d) _ ht hn);exact⟨d,oc,vs,t,IK e',B,hd,hv⟩
    .obtain⟨qs,g0,g1,g2⟩:=rl.tab i hi;have ne:cm (31+5*i)≠cm (31+5*j):=λz=>b0 (L.un i hi z);refine⟨qs,(k _ (λz=>by rw[z,m]at g0;cases g0) ne).trans g0,g1,λD e=>?_⟩;obtain⟨c,o,ws,t,y1,y2,y3⟩:=g2 D e;exact⟨c,o,ws,t,y1,a _ _ y2 (by intro _ z;cases z),y3⟩
   have I1:=I.un (t':=tk) u e4;refine h _ d g _ J _ a.ext (rl.calmT a a9) ⟨oc,vs,t,B,hd,hv⟩ (mH I1 r I ?_ λv z=>by cases z);rw[k _ (Kg a6) (Kg a8)];exact I.hok.fresh r
 | some D=>
   obtain⟨d,oc,vs,t,rfl,B,hd,hv⟩:=hf D hn;refine kla_makeFunctionHit (mg:=X.mg) a3 I.ok.glob hg l C a5 ht hn G λg T tk hk r=>?_;have I1:L2.Inv X pins σ H { s with heap:=T.push (ON "<lambda>" (o9 (cm (35+5*j))) params body scope [] ((X.mg "__name__").getD .none) d g),toks:=tk }:=I.kept λb o e=>Im _ (hk b o e);exact h _ d g _ H _ (aA.refl _ _) rl ⟨oc,vs,t,B,hd,hv⟩ (mH I1 r I (I.hok.fresh r) λv z=>by cases z)
end
end Ws
namespace Ws
open PySem PySem.W PyProof.Rows PySem.Calls PySem.SeqAt L2
noncomputable def fz(t:List Int):PV:=.tup (t.map .int)
noncomputable def ip(t:List Int):PV:=.tup [.int t.length,fz t]
theorem uY:∀t:List Int,lexLt t t=false
 | []=>rfl
 | i::t=>by
   show(if i=i then lexLt t t else decide (i<i))=false;rw[if_pos rfl];exact uY t
section
variable{X:Cx}{cm:Nat->Addr}{ρ:List Addr}{H H0:Hp}{B:PHp}{pins pins1 pins2:List (Addr×Obj)}{σ:L2.St}{s:Ir}{A:Ji}{a b:Addr}{t t':List Int}
theorem Du(I:L2.Inv X pins σ H s)(G:RV ρ H (ip t) (.ref a))(J:RV ρ H (ip t') (.ref b))(hu:A.units+8<cLine):bN A s (.ref a) (.ref b) (keyLt t t'):=by
 have C:∀{t:List Int}{a:Addr},RV ρ H (ip t) (.ref a)->∃k x c,s.heap.IsTuple a #[.int t.length k,.ref x]/\H x=some (.tup (t.map .int))/\s.heap.IsTuple x c.toArray/\LZ c t:=λ{t a} r=>by
  cases r with
  | tup L r=>
    cases r with
    | cons l r=>
      cases l;cases r with
      | cons m r=>
        cases r;cases m with
        | tup D n=>
          have:=b9 n;subst this;obtain⟨_,c,d,N⟩:=I.hok _ _ L;obtain⟨_,g,o,p⟩:=I.hok _ _ D;cases d with
          | cons O d=>
            obtain⟨k,rfl⟩:=O;cases d with
            | cons Q d=>
              cases d;cases Q;exact⟨k,_,g,N,D,p,S4 o⟩
 obtain⟨k,x,c,l,m,T,U⟩:=C G;obtain⟨Y,x',E,g1,g2,g3,g4⟩:=C J;have q:A.units<cLine:=by omega
 have i:A.in1.units<cLine:=by show A.units+1<cLine;omega
 have eq:EqAt A.in1 s (.ref x) (.ref x') (eqvs (t.map .int) (t'.map .int)):=(n8 (f:=U2) (ρ:=ρ) I m g2 (RVs.ints t) (RVs.ints t') (by simp[U2]) (by simp[U2]) (λx h=>by cases x<;>simp_all [U2,Z1]) i λx y vx vy u v n ry fx fy ux uy=>ju n ry fx fy ux uy).2.2;have j:=bN.tuples (A:=A) (s:=s) (e0:=decide ((t.length:Int)=t'.length)) (e1:=eqvs (t.map .int) (t'.map .int)) (b0:=decide ((t.length:Int)<t'.length)) (b1:=lexLt t t') l g1 q (uJ _ _ _ _ _ _) (λ_=>bN.ints _ _ _ _ _ _) (λ_=>eq) (λ_ _=>bN.tupI T g3 U g4 i);have e:(if decide ((t.length:Int)=t'.length)=true then(if eqvs (t.map .int) (t'.map .int)=true then false else lexLt t t') else decide ((t.length:Int)<t'.length))=keyLt t t':=by
  unfold keyLt;by_cases w:t.length=t'.length
  .rw[if_pos w,if_pos (by simp[w])];by_cases z:eqvs (t.map .int) (t'.map .int)=true
   .rw[if_pos z];have e1:=(eqvs_nice _ _ (T5 (f:=U2) (λx h=>by cases x<;>simp_all [U2,Z1]) (t.map PV.int) (by simp[U2]))).mp z;have e2:t=t':=by
     have:=List.map_inj_right (f:=PV.int) (λx y h=>by injection h) |>.mp e1;exact this
    rw[e2,uY]
   .rw[if_neg z]
  .rw[if_neg w,if_neg (by rw[decide_eq_true_eq];omega)];simp
 rw[e]at j;exact j
theorem mI{h':Heap}{o o':Obj}{t':Nat}(I:L2.Inv X (pins1++(a,o)::pins2) σ H s)(k:∀b o,b≠a->s.heap.get? b=some o->h'.get? b=some o)(new:h'.get? a=some o')(l:∀v,o'.data≠.cell v)(m:X.s₀.heap.objs.size<=a)(d:∀p∈X.pn++(pins1++pins2),p.1≠a) :
 L2.Inv X (pins1++(a,o')::pins2) σ H { s with heap:=h',toks:=t' }:=by
 obtain⟨p1,p2,i,n,q⟩:=I.pin (a,o) (IP _ (IP _ Iz));have r:L2.Inv X (pins1++pins2) σ H s:=I.pins_of λp d=>I.pin p (IP _ (by
  rcases IV.mp d with z | z
  .exact Kd _ z
  .exact IP _ (IE _ z)))
 have f:=r.turned (t':=t') k p2 i (.inr m) (λx c e z=>by
  obtain⟨v,ob,j,hd⟩:=I.cell x c e;subst z;rw[p1]at j;cases j;exact q v hd) d
 refine f.pins_of λp d=>?_;rcases IV.mp d with z | z
 .exact f.pin p (IP _ (Kd _ z))
 .rcases IF.mp z with rfl | z
  .exact⟨new,p2,i,n,l⟩
  .exact f.pin p (IP _ (IP _ z))
end
inductive uZ (X:Cx) (cm:Nat->Addr) (pins:List (Addr×Obj)) (σ:L2.St) (ρ:List Addr) (B:PHp) (c':Addr) (q:Str) (H:Hp) (key:PV) (u:Ip) (s':Ir):Prop
 | mk (a:Addr) (H':Hp) (h0:u=.ref a) (h1:L2.Inv X pins σ H' s') (h2:aA ρ H ρ H') (h3:aR X.K cm ρ B H') (h4:RecAt H' c' q) (h5:RV ρ H' key (.ref a)):uZ X cm pins σ ρ B c' q H key u s'
def pY(X:Cx)(cm:Nat->Addr)(σ:L2.St)(ρ:List Addr)(B:PHp)(f:Addr)(c:Obj)(b:Addr)(q:Str)(ts:List (List Int)):Prop:=
 ∀(a:List (Addr×Obj))(s:Ir)(H:Hp)(v:V)(u:Ip)(t:List Int),t∈ts->L2.Inv X a σ H s->(f,c)∈a->aR X.K cm ρ B H->RecAt H b q->RV ρ H (fz t) v->L2.RelV v u->
  wpAny (model X.prog X.w) X.A.in1 (call (.ref f) [u]) (uZ X cm a σ ρ B b q H (ip t)) (λ_ _=>False) s
theorem pZ:∀{b:List V}{a:List Ip}{i:Nat}{u:Ip},aF b a->a[i]?=some u->∃x,b[i]?=some x/\L2.RelV x u
 | _,_,_,_,.nil,e=>by simp at e
 | _,_,0,_,.cons h _,e=>by simp at e;subst e;exact⟨_,rfl,h⟩
 | _,_,i+1,_,.cons _ r,e=>by
   obtain⟨x,c,d⟩:=pZ (i:=i) r (by simpa using e);exact⟨x,by simpa using c,d⟩
theorem qa{vs:Array Ip}{c:Nat}:∀v,(seqObj "list" vs c).data≠.cell v:=λv z=>by cases z
section
variable{X:Cx}{cm:Nat->Addr}{ρ:List Addr}{H0:Hp}{B:PHp}{pins:List (Addr×Obj)}{σ:L2.St}{f I S c':Addr}{fo:Obj}{q:Str}{ts:List (List Int)}{n:Nat}{R:OF->Ir->Prop}{fin:List Int}
theorem Dv(m:X.calm=true)(hu:X.A.units+64<cLine)(f2:pY X cm σ ρ B f fo c' q ts)(hB:B[n]?=some (.lst (ts.map fz)))
 (b3:X.s₀.heap.objs.size<=I) (b4:X.s₀.heap.objs.size<=S) (D:I≠S) (f3:f≠I) (f4:f≠S) (Y:∀p∈X.pn++pins,p.1≠I) (a0:∀p∈X.pn++pins,p.1≠S)
 (hR:∀v u H' s',L2.Inv X pins σ H' s'->aA ρ H0 ρ H'->aR X.K cm ρ B H'->RV ρ H' (fz fin) v->L2.RelV v u->R (.ok (.ret u)) s') :
 ∀(r j:Nat)(H:Hp)(s:Ir)(E:List Int)(vb:V)(G:Ip)(L:Addr)(c:Nat)(oI:Obj)(l:Addr),ts.length - (j+1)=r->j+1<=ts.length->ρ[n]?=some l->
  L2.Inv X ((pins++[(f,fo)])++[(I,oI),(S,seqObj "list" #[G,.ref L] c)]) σ H s->aA ρ H0 ρ H->aR X.K cm ρ B H->RecAt H c' q->s.heap.IsListIter I l (j+1)->Y8 E (ts.drop (j+1))=fin->
  RV ρ H (fz E) vb->L2.RelV vb G->RV ρ H (ip E) (.ref L)->
  codeAny (model X.prog X.w) X.A (.builtin "min.loop" ⟨[.ref I,.ref f,.ref S],[]⟩) R s:=by
 intro r;induction r with
 | zero=>
   intro j H s E vb G L c oI l hr hj hl J hx rl rec a1 a a2 a3 a4;have g0:j+1=ts.length:=by omega
   obtain⟨xs,hH,N⟩:=rl.obj n _ l hB hl;obtain⟨h,ri,pl,hz⟩:=J.list (.inl (.inl hH));obtain⟨gI,nI,lI,fI,_⟩:=J.pin (I,oI) (by simp);obtain⟨gS,nS,lS,fS,_⟩:=J.pin (S,seqObj "list" #[G,.ref L] c) (by simp);have a6:l≠I:=λz=>by rw[z,nI]at hH;cases hH
   have a7:h.toArray.size=ts.length:=by rw[II,<-ri.length,<-N.length,Iq]
   have W:=PN.list (prog:=X.prog) (w:=X.w) (A:=X.A.in1) (J.ok.hd m) I l a6 h.toArray;refine Ko Mt ?_;rw[Le JM _];show wpAny _ X.A.in1 (seqItems? (.ref S)>>=_) _ _ _;refine Il (Ju gS rfl ?_);show wpAny _ X.A.in1 (tryCatch (pyNext (.ref I)) _>>=_) _ _ _;refine Il (JU (W.done _ _ _ ⟨by rw[a7,<-g0];exact a1,pl.isList⟩ λh' i a8=>?_));have O:∀b o,b≠I->s.heap.get? b=some o->h'.get? b=some o:=λb o ne e=>a8 b o (by simpa using ne) e;have b7:=O S _ D.symm gS;show wpAny _ X.A.in1 (updateSeq S (λ_=>#[])>>=_) _ _ _;refine Il ?_;refine Lz b7 rfl (Il (Lc (Iv ?_)));have J0:L2.Inv X pins σ H s:=J.pins_of λp d=>J.pin p (by simp[d]);have J1:L2.Inv X pins σ H { s with heap:=h',toks:=i }:=J0.turned (t':=i) O nI lI (.inr b3) (λx c e z=>by
    obtain⟨v,ob,ho,hd⟩:=J.cell x c e;subst z;exact(J.pin (c,oI) (by simp)).2.2.2.2 v (by rw[gI]at ho;cases ho;exact hd)) Y
   have J2:L2.Inv X pins σ H { s with heap:=h'.update S (KS λ_=>#[]),toks:=i }:=J1.turned (t':=i) (λb o ne e=>(IW _ _ (JW ne)).trans e) nS lS (.inr b4) (λx c e z=>by
    obtain⟨v,ob,ho,hd⟩:=J1.cell x c e;subst z;rw[b7]at ho;cases ho;exact qa v hd) a0
   have e0:ts.drop (j+1)=[]:=MQ.mpr (by omega);rw[e0]at a;exact hR vb G H _ J2 hx rl (by rw[<-a];exact a2) a3
 | succ r ih=>
   intro j H s E vb G L c oI l hr hj hl J hx rl rec a1 a a2 a3 a4;have k:j+1<ts.length:=by omega
   obtain⟨xs,hH,N⟩:=rl.obj n _ l hB hl;obtain⟨h,ri,pl,hz⟩:=J.list (.inl (.inl hH));obtain⟨gI,nI,lI,fI,_⟩:=J.pin (I,oI) (by simp);obtain⟨gS,nS,lS,fS,_⟩:=J.pin (S,seqObj "list" #[G,.ref L] c) (by simp);have a6:l≠I:=λz=>by rw[z,nI]at hH;cases hH
   have a7:h.toArray.size=ts.length:=by rw[II,<-ri.length,<-N.length,Iq]
   have W:=PN.list (prog:=X.prog) (w:=X.w) (A:=X.A.in1) (J.ok.hd m) I l a6 h.toArray;refine Ko Mt ?_;rw[Le JM _];show wpAny _ X.A.in1 (seqItems? (.ref S)>>=_) _ _ _;refine Il (Ju gS rfl ?_);show wpAny _ X.A.in1 (tryCatch (pyNext (.ref I)) _>>=_) _ _ _;refine Il (JU (W.item (j+1) _ _ _ (by rw[a7];exact k) ⟨a1,pl.isList⟩ λu h' i hP c4 a8=>?_));have O:∀b o,b≠I->s.heap.get? b=some o->h'.get? b=some o:=λb o ne e=>a8 b o (by simpa using ne) e;have hv:h[j+1]?=some u:=by simpa using hP
   obtain⟨x,ex,ru⟩:=pZ ri hv;obtain⟨y,ey,rx⟩:=N.get' ex;rw[Jc,IJ k]at ey;obtain rfl:fz ts[j+1]=y:=IK ey;obtain⟨g,c5,d0,b0⟩:=id c4.1;have J1:=mI (t':=i) (o':=g) J O c5 (λv z=>by rw[b0]at z;cases z) b3 (λp d=>by
    simp only[IV,Iy]at d;rcases d with d | (d | rfl) | rfl
    .exact Y p (by simp[d])
    .exact Y p (by simp[d])
    .exact f3
    .exact D.symm)
   show wpAny _ X.A.in1 (tryCatch (holding [u] (call (.ref f) [u])) _>>=_) _ _ _;refine Il (JU (Js (Jh (f2 _ _ H x u ts[j+1] (LV k) J1 (by simp) rl rec rx ru) (λkv s2 he=>?_) λ_ _ hF=>hF.elim)));obtain⟨T,H2,rfl,J2,C,d2,U,e1⟩:=he;obtain⟨e2,k7,l0,l1,_⟩:=J2.pin (S,seqObj "list" #[G,.ref L] c) (by simp);obtain⟨e3,m0,m1,m2,_⟩:=J2.pin (I,g) (by simp);have e4:s2.heap.IsListIter I l (j+1+1):=⟨g,e3,d0,b0⟩;have g2:ts.drop (j+1)=ts[j+1]::ts.drop (j+1+1):=JR k;rw[g2]at a;have a:Y8 (if keyLt ts[j+1] E then ts[j+1] else E) (ts.drop (j+1+1))=fin:=a;have e5:=hx.trans C;show wpAny _ X.A.in1 (tryCatch (holding [u,.ref T] (richCompare .Lt (.ref T) (.ref L)>>=_)) _>>=_) _ _ _;refine Il (JU (Js (Il (Du (A:=X.A.in1) J2 e1 (a4.mono C) (by show X.A.units+1+8<cLine;omega) X.prog X.w _ _ ?_))));refine Il (Js (Jz ?_));refine Il (Lc (Iv ?_));by_cases Q:keyLt ts[j+1] E=true
   .rw[if_pos Q]at a;obtain⟨c2,g3⟩:∃c2,(s2.heap.update S (KS λ_=>#[u,.ref T])).get? S=some (seqObj "list" #[u,.ref T] c2):=⟨_,Ou e2 λ_=>#[u,.ref T]⟩;simp only[Q,if_true];refine Il ?_;refine Lz e2 rfl (Il (Lc ?_));rw[mD];have J3:=mI (pins1:=(pins++[(f,fo)])++[(I,g)]) (pins2:=[]) (t':=s2.toks) (h':=s2.heap.update S (KS λ_=>#[u,.ref T])) (o':=seqObj "list" #[u,.ref T] c2) (by simpa using J2) (λb o ne e=>(IW _ _ (JW ne)).trans e) g3 qa b4 (λp d=>by
     simp only[IV,Iy,Jl,or_false]at d;rcases d with d | (d | rfl) | rfl
     .exact a0 p (by simp[d])
     .exact a0 p (by simp[d])
     .exact f4
     .exact D)
    refine Iv ⟨KA JM _,ih (j+1) H2 _ ts[j+1] x u T c2 g l (by omega) k hl (by simpa using J3) e5 d2 U ⟨g,(IW _ _ (JW D)).trans e3,d0,b0⟩ a (rx.mono C) ru e1⟩
   .rw[if_neg Q]at a;simp only[Q,if_false];refine Il (Lc ?_);rw[mD];exact Iv ⟨KA JM _,ih (j+1) H2 s2 E vb G L c g l (by omega) k hl J2 e5 d2 U e4 a (a2.mono C) a3 (a4.mono C)⟩
end
section
variable{X:Cx}{cm:Nat->Addr}{ρ:List Addr}{H:Hp}{B:PHp}{pins:List (Addr×Obj)}{σ:L2.St}{s:Ir}{f l c':Addr}{fo:Obj}{q:Str}{t0:List Int}{tr:List (List Int)}{n:Nat}{Q:Ip->Ir->Prop}{E:Ip->Ir->Prop}
theorem Dw(i:X.calm=true)(hu:X.A.units+64<cLine)(U:pY X cm σ ρ B f fo c' q (t0::tr))(hB:B[n]?=some (.lst ((t0::tr).map fz)))(hl:ρ[n]?=some l)
 (J:L2.Inv X (pins++[(f,fo)]) σ H s) (rl:aR X.K cm ρ B H) (rec:RecAt H c' q)
 (hQ:∀v u T s',L2.Inv X pins σ T s'->aA ρ H ρ T->aR X.K cm ρ B T->RV ρ T (fz (Y8 t0 tr)) v->L2.RelV v u->Q u s') :
 wpAny (model X.prog X.w) X.A (call (.builtin "min") [.ref l] [(Po "key",.ref f)]) Q E s:=by
 obtain⟨xs,hH,f3⟩:=rl.obj n _ l hB hl;obtain⟨f4,ri,pl,hz⟩:=J.list (.inl (.inl hH));have c0:=pl.isList;refine kmk_tree PySem.F.kind_min PySem.F.plain_min PySem.F.entry_min (kmk_min_key _ _) ?_;show wpAny _ X.A.in1 (LA "min" ["key","default"] 0 ⟨[],[(Po "key",.ref f)]⟩>>=_) _ _ s;refine Il (PM (show LA "min" ["key","default"] 0 ⟨[],[(Po "key",.ref f)]⟩=pure [some (.ref f),none]from rfl) ?_);refine Il (Iv ?_);refine Il (Kj c0 ?_);refine Il (OY ?_ (Lx _));rw[mD];refine Iv ⟨KA JM _,?_⟩;have Y:s.heap.objs.size<=s.heap.objs.size:=Iw _;have J1:L2.Inv X (pins++[(f,fo)]) σ H { s with heap:=s.heap.push { cls:=.type "list_iterator",data:=.fields #[.ref l,.int 0 0] } }:=J.kept (t':=s.toks) λb o e=>Im _ e;have J2:=mH (s:=s) (t':=s.toks) J1 Y J (J.hok.fresh Y) (λv z=>by cases z);have J3:L2.Inv X (pins++[(f,fo)]++[(s.heap.objs.size,{ cls:=.type "list_iterator",data:=.fields #[.ref l,.int 0 0] })]) σ H { s with heap:=(s.heap.push { cls:=.type "list_iterator",data:=.fields #[.ref l,.int 0 0] }).push (seqObj "list" #[] 0) }:=J2.kept (t':=s.toks) λb o e=>Im _ e;have J4:=mH (s:={ s with heap:=s.heap.push { cls:=.type "list_iterator",data:=.fields #[.ref l,.int 0 0] } }) (t':=s.toks) J3 (Iw _) J2 (J2.hok.fresh (Iw _)) (λv z=>by cases z);have g2:(s.heap.push { cls:=.type "list_iterator",data:=.fields #[.ref l,.int 0 0] }).objs.size=s.heap.objs.size+1:=size_push' ..;have a1:X.s₀.heap.objs.size<=s.heap.objs.size:=J.sz;have D:∀p∈X.pn++(pins++[(f,fo)]),p.1<s.heap.objs.size:=λp h=>IA (J.pin p h).1;have a2:=D (f,fo) (by simp);generalize hS:(s.heap.push { cls:=.type "list_iterator",data:=.fields #[.ref l,.int 0 0] }).objs.size=S at *;generalize hI:s.heap.objs.size=I at *;have gI:((s.heap.push { cls:=.type "list_iterator",data:=.fields #[.ref l,.int 0 0] }).push (seqObj "list" #[] 0)).get? I=some { cls:=.type "list_iterator",data:=.fields #[.ref l,.int 0 0] }:=(J4.pin (I,_) (by simp)).1;generalize(s.heap.push { cls:=.type "list_iterator",data:=.fields #[.ref l,.int 0 0] }).push (seqObj "list" #[] 0)=h4 at *;have r:I≠S:=by omega
 have a3:f≠I:=IH a2;have j:I<=S:=by omega
 have a4:f≠S:=IH (IL a2 j);have G:∀p∈X.pn++pins,p.1≠I:=λp h=>IH (D p (by simp only[IV]at h ⊢;rcases h with z | z<;>simp[z]));have L:∀p∈X.pn++pins,p.1≠S:=λp h=>IH (IL (D p (by simp only[IV]at h ⊢;rcases h with z | z<;>simp[z])) j);obtain⟨ys,N,a5⟩:=rl.obj n _ l hB hl;obtain⟨k,a6,c3,_⟩:=J4.list (.inl (.inl N));obtain⟨c4,nI,lI,fI,_⟩:=J4.pin (I,{ cls:=.type "list_iterator",data:=.fields #[.ref l,.int 0 0] }) (by simp);obtain⟨gS,nS,lS,fS,_⟩:=J4.pin (S,seqObj "list" #[] 0) (by simp);have c5:l≠I:=λz=>by rw[z,nI]at N;cases N
 have d0:k.toArray.size=tr.length+1:=by rw[II,<-a6.length,<-a5.length,Iq];rfl
 have W:=PN.list (prog:=X.prog) (w:=X.w) (A:=X.A.in1) (J.ok.hd i) I l c5 k.toArray;refine Ko Mt ?_;rw[Le JM _];show wpAny _ X.A.in1 (seqItems? (.ref S)>>=_) _ _ _;refine Il (Ju gS rfl ?_);show wpAny _ X.A.in1 (tryCatch (pyNext (.ref I)) _>>=_) _ _ _;refine Il (JU (W.item 0 _ _ _ (by rw[d0];omega) ⟨⟨_,c4,rfl,rfl⟩,c3.isList⟩ λu h' d1 hP a7 d2=>?_));have e0:∀b o,b≠I->h4.get? b=some o->h'.get? b=some o:=λb o ne e=>d2 b o (by simpa using ne) e;have hv:k[0]?=some u:=by simpa using hP
 obtain⟨x,ex,ru⟩:=pZ a6 hv;obtain⟨y,ey,rx⟩:=a5.get' ex;obtain rfl:fz t0=y:=by simpa using ey
 obtain⟨m,a8,e1,a9⟩:=id a7.1;have J5:=mI (t':=d1) (o':=m) (h':=h') (pins1:=pins++[(f,fo)]) (pins2:=[(S,seqObj "list" #[] 0)]) (by simpa using J4) e0 a8 (λv z=>by rw[a9]at z;cases z) a1 (λp h=>by
  simp only[IV,Iy]at h;rcases h with h | (h | rfl) | rfl
  .exact G p (by simp[h])
  .exact G p (by simp[h])
  .exact a3
  .exact r.symm)
 show wpAny _ X.A.in1 (tryCatch (holding [u] (call (.ref f) [u])) _>>=_) _ _ _;refine Il (JU (Js (Jh (U _ _ H x u t0 Iz J5 (by simp) rl rec rx ru) (λkv s2 he=>?_) λ_ _ hF=>hF.elim)));obtain⟨O,H2,rfl,J6,b0,e4,b1,e5⟩:=he;obtain⟨b2,_⟩:=J6.pin (S,seqObj "list" #[] 0) (by simp);obtain⟨e6,_⟩:=J6.pin (I,m) (by simp);obtain⟨c2,e7⟩:∃c2,(s2.heap.update S (KS λ_=>#[u,.ref O])).get? S=some (seqObj "list" #[u,.ref O] c2):=⟨_,Ou b2 λ_=>#[u,.ref O]⟩;show wpAny _ X.A.in1 (updateSeq S (λ_=>#[u,.ref O])>>=_) _ _ _;refine Il ?_;refine Lz b2 rfl ?_;rw[mD];have J7:=mI (pins1:=(pins++[(f,fo)])++[(I,m)]) (pins2:=[]) (t':=s2.toks) (h':=s2.heap.update S (KS λ_=>#[u,.ref O])) (o':=seqObj "list" #[u,.ref O] c2) (by simpa using J6) (λb o ne e=>(IW _ _ (JW ne)).trans e) e7 qa (by omega) (λp h=>by
  simp only[IV,Iy,Jl,or_false]at h;rcases h with h | (h | rfl) | rfl
  .exact L p (by simp[h])
  .exact L p (by simp[h])
  .exact a4
  .exact r)
 refine Iv ⟨KA JM _,Dv (H0:=H) (ts:=t0::tr) (fin:=Y8 t0 tr) i hu U hB a1 (by omega) r a3 a4 G L (λv u T s' a b c d e=>hQ v u T s' a b c d e) _ 0 H2 _ t0 x u O c2 m l rfl (by simp) hl (by simpa using J7) b0 e4 b1 ⟨m,(IW _ _ (JW r)).trans e6,e1,a9⟩ rfl (rx.mono b0) ru e5⟩
end
noncomputable def mJ:ED:=U3 (ag (o8 (aa 0)) (ag (aa 0) aNil))
theorem Dx(t:List Int)(B:PHp):mJ [some (fz t)] B=.ok (ip t) B:=by
 have e:mJ [some (fz t)] B=G1 (2<=LIM) (ret (.tup [.int ((t.map PV.int).length:Nat),fz t])) B:=rfl;rw[e,Q3 zR,Iq];rfl
section
variable{X:Cx}{cm:Nat->Addr}{ρ:List Addr}{B:PHp}{σ:L2.St}{f c':Addr}{q x:Str}{params:OT}{body:Expr}{scope:Nc}{pm ctv:Ip}{ts:List (List Int)}{k:Nat}
theorem Dy(S:C6 [x] [x] scope)
 (hb:∀(A:Ji)(c:List Env)(N:Ir)(H:Hp),aL k (A.deeper (envOfC q scope N.heap.objs.size f (.ref c')))->PE (Z6 aS X.prog X.w X.K X.mg X.base [x] q scope f (.ref c') A c N H E0).nox body (cW X.K cm mJ))
 (y:∀u:Ip,bindArgs (kla_fn "<lambda>" q params body scope [] pm (.ref c') ctv) ⟨[u],[]⟩=pure [(x,u)]) (hr:aL (k+2) X.A) :
 pY X cm σ ρ B f (ON "<lambda>" q params body scope [] pm c' ctv) c' q ts:=by
 intro O s H v u t _ I hm T rec rv ru;refine Ma (KW (Dr (Q:=λn h=>aA ρ H ρ h/\aR X.K cm ρ B h/\RV ρ h (ip t) n) S hb y hr.in1 I.env0.in1 (I.pin _ (IP _ hm)).1 (rec.code I) ru ⟨ρ,B,[some (fz t)],ip t,B,T,⟨rfl,λi p U=>?_⟩,Dx t B,λC h n x j D=>?_⟩) λr s' l=>?_)
 .cases i with
  | zero=>cases U;exact⟨v,rfl,rv⟩
  | succ i=>simp at U
 .have e:ρ=C:=x.pre.eq_of_length (by rw[T.len,j.len]);subst e;exact⟨x,j,D⟩
 .cases r with
  | error e=>exact IY l
  | ok fl=>
    cases fl with
    | ret u'=>
      obtain⟨n,h,os,m,un,E,r',q1,q2,Y⟩:=l;obtain⟨hh,g,d,tk,G⟩:=s';obtain rfl:G=s.os:=os;have J:=I.call (h':=hh) (g':=g) (d':=d) (t':=tk) (ch:=[]) un E m (λb z=>absurd z (by simp));obtain⟨o,vs,L,z0,z1,z2⟩:=rec;cases n with
      | ref a=>cases r';exact⟨a,h,rfl,J,q1,q2,⟨o,vs,L,un.frzs _ _ _ z0,z1,z2⟩,Y⟩
      | _=>cases Y
    | next=>exact IY l
    | brk=>exact IY l
    | cont=>exact IY l
theorem Dz{e:Expr}{d:ED}{p m pos b p1 p2 z C D:Pos}{E j:Nat}(L:kG X.mg X.base cm j)(G:X.calm=true)(hr:aL 3 X.A)(he:Pe X cm e d)(hg:Gl X "min")(hm:X.mg "min" = none)(a8:X.mg "len" = none)
 (N:X.env.code=.ref (cm (34+5*j))) (hl:b.line=cm (32+5*j)) (hc:b.col=cm (33+5*j)) (hq:X.env.qual++"<lambda>" = o9 (cm (35+5*j))) (S:C6 [x] [x] scope)
 (Y:defaultsOf params X.env=([],[]):=by rfl) (a9:closureFor scope X.env=pure []:=by rfl)
 (b0:∀(pm ctv u:Ip)(c:Addr),bindArgs (kla_fn "<lambda>" (o9 (cm (35+5*j))) params (.Tuple [.Call (.Name "len" p1) [.Name x p2] [] z,.Name x C] E D) scope [] pm (.ref c) ctv) ⟨[u],[]⟩=pure [(x,u)]:=by intros;rfl)
 (hv:scope.names.lookup x=some .local:=by rfl) (b1:scope.names.lookup ("len" : Str)=some .globalImplicit:=by rfl) (hd:(x == ("__debug__" : Str))=false:=by decide) (a0:(x == ("__classdict__" : Str))=false:=by decide)
 (hs:starEach [e] X.env=(false,eval e X.env)::starEach [] X.env:=by exact D6 rfl)
 (h1:backTo pos (starEach [e] X.env)=(false,eval e X.env)::backTo pos (starEach [] X.env):=by rfl)
 (h2:(backTo pos (starEach [e] X.env)).any (·.1)=false:=by rfl) (h3:(backToKw pos (keywordEach [⟨some "key",.Lambda params (.Tuple [.Call (.Name "len" p1) [.Name x p2] [] z,.Name x C] E D) scope b,m⟩] X.env)).all (·.1.isSome)=true:=by rfl)
 (h4:(backToKw pos (keywordEach [⟨some "key",.Lambda params (.Tuple [.Call (.Name "len" p1) [.Name x p2] [] z,.Name x C] E D) scope b,m⟩] X.env)).any (·.1.isNone)=false:=by rfl)
 (h5:(backToKw pos (keywordEach [⟨some "key",.Lambda params (.Tuple [.Call (.Name "len" p1) [.Name x p2] [] z,.Name x C] E D) scope b,m⟩] X.env)).filterMap (·.1)=[("key" : Str)]:=by rfl) :
 Pe X cm (.Call (.Name "min" p) [e] [⟨some "key",.Lambda params (.Tuple [.Call (.Name "len" p1) [.Name x p2] [] z,.Name x C] E D) scope b,m⟩] pos) (oE d):=by
 intro a1 s σ H Q I b2;obtain⟨ρ,A,a2,v,A',rl,rs,ev,kk⟩:=b2;obtain⟨y,A1,e1,a3⟩:=B0 ev;refine(Ks (V9 I hg hm (show bootBuiltins "min" = some (.builtin "min")from by rfl) ?_ (by decide) (by decide)));refine(callWith_kw (aQ ((r_cons he r_nil hs:Pa X cm [e] (ag d aNil)) pos a1 s σ H (λO H1=>∃g,aA ρ H g H1/\aR X.K cm g A1 H1/\RVs g H1 [y] O) I ⟨ρ,A,a2,[y],A1,rl,rs,by show ao (d a2) _ A=_;rw[aB e1];rfl,λg H1 O x1 r T=>⟨g,x1,r,T⟩⟩) λus s1 zq=>?_) h1 h2 h3 h4);obtain⟨O,H1,I1,r1,g,x1,r,T⟩:=zq;rw[h5];show wpAny _ _ (evalAll ((do let v <-eval (.Lambda params (.Tuple [.Call (.Name "len" p1) [.Name x p2] [] z,.Name x C] E D) scope b) X.env;standAt pos;pure v)::(backToKw pos (keywordEach [] X.env)).map (·.2))) _ _ s1;refine wpAny_evalAll_cons (Il (Dt L I1 r Y a9 N hl hc hq λf c' ctv pm H2 s2 x2 b4 rec J=>Il (Mf (Iv ?_))));refine wpAny_evalAll_nil ?_;cases T with
 | cons a5 b5=>
   cases b5;obtain⟨u,rfl,ru⟩:=Y3 r1;cases y with
   | ref n=>
     obtain⟨l,A2,e2,o⟩:=B0 a3;obtain⟨rfl,hA,a,xs,rfl,hH,h0⟩:=P7 r a5 e2;cases ru;cases ht:U5 l with
     | none=>rw[ht]at o;cases o
     | some ts=>
       rw[ht]at o;cases ts with
       | nil=>cases o
       | cons t0 tr=>
         cases o;obtain⟨b7,_⟩:=v6 ht;subst b7;have hn:g[n]?=some a:=by cases a5 with | ref h=>exact h
         have U:∀(A:Ji)(i:List Env)(s0:Ir)(H:Hp),aL 1 (A.deeper (envOfC (o9 (cm (35+5*j))) scope s0.heap.objs.size f (.ref c')))->
          PE (Z6 aS X.prog X.w X.K X.mg X.base [x] (o9 (cm (35+5*j))) scope f (.ref c') A i s0 H E0).nox (.Tuple [.Call (.Name "len" p1) [.Name x p2] [] z,.Name x C] E D) (cW X.K cm mJ):=λA i s0 H _=>
          aW (X:=(Z6 aS X.prog X.w X.K X.mg X.base [x] (o9 (cm (35+5*j))) scope f (.ref c') A i s0 H E0).nox) (r_cons (bM (oH (L2.pv 0 rfl (.inl hv) hd a0)) b1 a8) (r_cons (oH (L2.pv 0 rfl (.inl hv) hd a0)) r_nil))
         refine Dw G hr.units (Dy (k:=1) S U (λu=>b0 pm ctv u c') hr) hA hn J b4 rec λv u H' s' I' x' c0 c1 c2=>⟨v,H',I',c2,kk g H' v (x1.trans (x2.trans x')) c0 c1⟩
   | _=>cases a3
end
end Ws
namespace Ws
open PySem L2
section
variable{P:IS}{w:Jp}{K:Io}{mg:Str->Option Ip}{base:Heap}{cm:Nat->Addr}{x qual:Str}{st:Stmt}{f:Addr}{fd:IQ}{N ps:List Str}{k:Nat}{s:SD}{cd:Ip}
theorem DA(F:L2.Fun K x qual st f fd)(G:fd.code=cd)(S:C6 N ps (C2 st))
 (I:∀(A:Ji)(a:List Env)(c:Ir)(H:Hp)(E:L2.XK),aL k (A.deeper (Je qual (C2 st) c.heap.objs.size f cd))->(A.deeper (Je qual (C2 st) c.heap.objs.size f cd)).units+64<cLine->(A.deeper (Je qual (C2 st) c.heap.objs.size f cd)).units+1<cLine->
  cC (Z6 aS P w K mg base N qual (C2 st) f cd A a c H E).nox (G9 st) (fK K cm s)) :
 ay P w K mg base aS (k+1) f fd ps (bf K cm (fn N.length ps.length s) ps.length):=by
 obtain⟨oc,od,kV,J,pm,an,i,ct,L,rfl,lk,j⟩:=F.ex;obtain rfl:i=cd:=G;refine lr lk j S (λO H Q E ⟨q,A,r,v,A',y,l,z,_,_⟩=>by rw[<-l.length];exact z) λA a c H O Q E m h=>?_;refine⟨_,(I A a c H E m m.units (mG m.units)).nox,?_⟩;obtain⟨q,B,r,v,B',y,l,z,T,k⟩:=h;obtain⟨_,n⟩:=C7 T;obtain⟨o,U,Y,b⟩:=B0 n;refine⟨q,B,Ws.start N.length r,o,U,y,cc.start0 l,Y,λd C D e=>?_⟩;cases o with
 | nx g=>cases b;exact λa0 _=>k d C _ D e .non
 | rt u=>cases b;exact λv' p=>k d C v' D e p
 | bk g=>cases b
 | ct g=>cases b
end
end Ws
namespace Ws
abbrev XP:=Nat->PV->PHp->Prop
def Wp{d:Type}(m:M d)(A:PHp)(Q:d->PHp->Prop)(E:XP):Prop:=match m A with
 | .ok a b=>Q a b
 | .ex c v b=>E c v b
 | .no=>False
abbrev NoX:XP:=λ_ _ _=>False
section
variable{α β:Type}{m:M α}{f:α->M β}{A A' A1 B:PHp}{a:α}{E E':XP}{σ σ':PSt}
theorem w_eq{Q:α->PHp->Prop}(h:m A=.ok a A')(q:Q a A'):Wp m A Q E:=by unfold Wp;rw[h];exact q
theorem mK{Q:α->PHp->Prop}(h:Wp m A Q NoX):∃a A',m A=.ok a A'/\Q a A':=by
 unfold Wp at h;cases e:m A with
 | ok a A'=>rw[e]at h;exact⟨a,A',rfl,h⟩
 | _=>rw[e]at h;exact h.elim
theorem bX{Q b:α->PHp->Prop}(h:Wp m A Q E)(d:∀a A',Q a A'->b a A')(he:∀c v A',E c v A'->E' c v A'):Wp m A b E':=by
 unfold Wp at h ⊢;cases e:m A with
 | ok a A'=>simp_all
 | ex c v A'=>simp_all
 | no=>simp_all
theorem ae{Q b:α->PHp->Prop}(h:Wp m A Q E)(c:∀a A',Q a A'->b a A'):Wp m A b E:=bX h c λ_ _ _ z=>z
theorem vc{Q b:α->PHp->Prop}(h:Wp m A Q NoX)(c:∀a A',Q a A'->b a A'):Wp m A b E:=bX h c λ_ _ _ z=>z.elim
theorem jG{Q:α->PHp->Prop}(q:Q a A):Wp (ret a) A Q E:=q
theorem C3{Q:β->PHp->Prop}(h:Wp m A (λa A1=>Wp (f a) A1 Q E) E):Wp (ao m f) A Q E:=by
 unfold Wp at h ⊢;unfold ao;cases e:m A with
 | _=>rw[e]at h;exact h
theorem D2{P:Prop}{Q:α->PHp->Prop}(p:P)(h:Wp m A Q E):Wp (G1 P m) A Q E:=by rw[Q3 p];exact h
variable{Q:PV->PHp->Prop}{e e1 e2 e3:ED}{es:AD}{v x y:PV}{i j:Int}{k n:Nat}{l:List PV}
theorem w_var(h:σ[k]?=some (some v))(q:Q v A):Wp (aa k σ) A Q E:=w_eq (by simp_all) q
theorem DB(q:Q v A):Wp (eK v σ) A Q E:=q
theorem vd{Q:List PV->PHp->Prop}(q:Q [] A):Wp (aNil σ) A Q E:=q
theorem ve{Q:List PV->PHp->Prop}(h:Wp (e σ) A (λx A1=>Wp (es σ) A1 (λb c=>Q (x::b) c) E) E):Wp (ag e es σ) A Q E:=
 C3 (ae h λ_ _ d=>C3 (ae d λ_ _ g=>g))
theorem DC(h:Wp (es σ) A (λb A1=>b.length<=LIM/\Q (.tup b) A1) E):Wp (U3 es σ) A Q E:=C3 (ae h λ_ _ ⟨c,d⟩=>D2 c d)
theorem DD(h:Wp (es σ) A (λb A1=>b.length<=LIM/\Q (.ref A1.length) (A1++[.lst b])) E):Wp (bL es σ) A Q E:=C3 (ae h λ_ _ ⟨c,d⟩=>D2 c d)
theorem iq{f:OD}(h:Wp (e1 σ) A (λx A1=>Wp (e2 σ) A1 (λy b=>Wp (f x y) b Q E) E) E):Wp (aq f e1 e2 σ) A Q E:=C3 (ae h λ_ _ c=>C3 c)
theorem DE(q:Q (.int (i+j)) A):Wp (U4 (.int i) (.int j)) A Q E:=q
theorem fW{l m:List PV}(h:l≠[]/\l.length+m.length<=LIM)(q:Q (.tup (l++m)) A):Wp (U4 (.tup l) (.tup m)) A Q E:=D2 h q
theorem gH{l m:List PV}(h:l.length+m.length<=LIM)(q:Q (.tup (l++m)) A):Wp (oq (.tup l) (.tup m)) A Q E:=D2 h q
theorem Z0{Q:List PV->PHp->Prop}(h:A[n]?=some (.lst l))(q:Q l A):Wp (T3 n) A Q E:=w_eq (zU h) q
theorem eR{n k:Nat}{l m:List PV}(b:A[n]?=some (.lst l))(c:A[k]?=some (.lst m))(d:l.length+m.length<=LIM)(q:Q (.ref A.length) (A++[.lst (l++m)])):Wp (U4 (.ref n) (.ref k)) A Q E:=
 C3 (Z0 b (C3 (Z0 c (D2 d q))))
theorem DF(q:Q (.int (i - j)) A):Wp (jR (.int i) (.int j)) A Q E:=q
theorem w_mul(h:(-(2 ^ 64)<i/\i<2 ^ 64)\/(-(2 ^ 64)<j/\j<2 ^ 64))(q:Q (.int (i*j)) A):Wp (jS (.int i) (.int j)) A Q E:=D2 h q
theorem w_mod(h:0<j)(q:Q (.int (i%j)) A):Wp (dF (.int i) (.int j)) A Q E:=D2 h q
theorem iU(h:0<j/\j<1073741824)(q:Q (.int (i / j)) A):Wp (nL (.int i) (.int j)) A Q E:=D2 h q
theorem w_lt(q:Q (.bl (decide (i<j))) A):Wp (fR (.int i) (.int j)) A Q E:=q
theorem DG(q:Q (.bl (decide (i<=j))) A):Wp (iM (.int i) (.int j)) A Q E:=q
theorem DH(q:Q (.bl (decide (j<i))) A):Wp (nM (.int i) (.int j)) A Q E:=q
theorem DI(q:Q (.bl (decide (i=j))) A):Wp (cX (.int i) (.int j)) A Q E:=C3 (D2 (.inr ⟨rfl,rfl⟩) q)
theorem DJ(q:Q (.bl (!decide (i=j))) A):Wp (dE (.int i) (.int j)) A Q E:=C3 (D2 (.inr ⟨rfl,rfl⟩) q)
theorem DK{b c:Bool}(q:Q (.bl (!(b == c))) A):Wp (dE (.bl b) (.bl c)) A Q E:=C3 (D2 (.inl rfl) q)
theorem DL{l m:List PV}(h:plain (.tup l)=true/\plain (.tup m)=true)(q:Q (.bl (eqvs l m)) A):Wp (cX (.tup l) (.tup m)) A Q E:=C3 (D2 (.inr h) q)
theorem vf{l m:List PV}(h:plain (.tup l)=true/\plain (.tup m)=true)(q:Q (.bl (!eqvs l m)) A):Wp (dE (.tup l) (.tup m)) A Q E:=C3 (D2 (.inr h) q)
theorem DM(b:plain x=true)(c:plain y=true)(q:Q (.bl (bI x y)) A):Wp (cX x y) A Q E:=by
 cases x with
 | ref n=>cases b
 | _=>exact C3 (D2 (.inr ⟨b,c⟩) q)
theorem vg(b:plain x=true)(c:plain y=true)(q:Q (.bl (!bI x y)) A):Wp (dE x y) A Q E:=by
 cases x with
 | ref n=>cases b
 | _=>exact C3 (D2 (.inr ⟨b,c⟩) q)
theorem T8{Q:List PV->PHp->Prop}(h:A[n]?=some (.lst l))(q:Q l A):Wp (G6 n) A Q E:=w_eq (M8 h) q
theorem vh{Q:List PV->PHp->Prop}(h:A[n]?=some (.ro l))(q:Q l A):Wp (G6 n) A Q E:=w_eq (by simp_all) q
theorem ir{n k:Nat}{l m:List PV}(b:A[n]?=some (.lst l))(c:A[k]?=some (.lst m))(d:N4 l=true/\N4 m=true)(q:Q (.bl (eqvs l m)) A):Wp (cX (.ref n) (.ref k)) A Q E:=
 C3 (C3 (T8 b (C3 (T8 c (D2 d q)))))
theorem iu(b:A[n]?=some (.lst l))(c:plain x=true/\N4 l=true)(q:Q (.bl (fb x l)) A):Wp (fU x (.ref n)) A Q E:=C3 (T8 b (D2 c q))
theorem DN(b:plain x=true/\N4 l=true)(q:Q (.bl (fb x l)) A):Wp (fU x (.tup l)) A Q E:=C3 (jG (D2 b q))
theorem DO(b:plain x=true/\N4 l=true)(q:Q (.bl (!fb x l)) A):Wp (jT x (.tup l)) A Q E:=C3 (jG (D2 b q))
theorem DP(h:Wp (e σ) A (λx A1=>Q (.bl (jU x)) A1) E):Wp (hJ e σ) A Q E:=C3 h
theorem DQ(h:Wp (e σ) A (λx A1=>Q (.bl (!jU x)) A1) E):Wp (lz e σ) A Q E:=C3 h
theorem DR{f g:OD}(h:Wp (e1 σ) A (λx A1=>Wp (e2 σ) A1 (λy d=>Wp (f x y) d (λz c=>∃b,z=.bl b/\((b=true->Wp (e3 σ) c (λu o=>Wp (g y u) o Q E) E)/\(b=false->Q (.bl false) c))) E) E) E):Wp (jj f g e1 e2 e3 σ) A Q E:=
 C3 (ae h λ_ _ p=>C3 (ae p λ_ _ q=>C3 (ae q λz c r=>by
  obtain⟨b,hz,s,w⟩:=r;subst hz;cases b with
  | true=>exact C3 (s rfl)
  | false=>exact w rfl)))
variable{QB:Bool->PHp->Prop}{t t1 t2:TD}{b:Bool}
theorem vi(q:QB true A):Wp (R1 σ) A QB E:=q
theorem DS(h:Wp (e σ) A (λx A1=>∃b,x=.bl b/\QB b A1) E):Wp (E4 e σ) A QB E:=C3 (ae h λx A1 ⟨b,c,q⟩=>by subst c;exact q)
theorem DU(h:Wp (t1 σ) A (λb A1=>(b=true->Wp (t2 σ) A1 QB E)/\(b=false->QB false A1)) E):Wp (tAnd t1 t2 σ) A QB E:=C3 (ae h λb A1 c=>by
 obtain⟨d,g⟩:=c;cases b with
 | true=>exact d rfl
 | false=>exact g rfl)
theorem DV(h:Wp (t1 σ) A (λb A1=>(b=true->QB true A1)/\(b=false->Wp (t2 σ) A1 QB E)) E):Wp (tOr t1 t2 σ) A QB E:=C3 (ae h λb A1 c=>by
 obtain⟨d,g⟩:=c;cases b with
 | true=>exact d rfl
 | false=>exact g rfl)
theorem DW(h:Wp (t σ) A (λb A1=>QB (!b) A1) E):Wp (tNot t σ) A QB E:=C3 h
theorem DX(h:Wp (e1 σ) A (λx A1=>∃b,x=.bl b/\((b=true->Wp (e2 σ) A1 Q E)/\(b=false->Q (.bl false) A1))) E):Wp (j6 e1 e2 σ) A Q E:=C3 (C3 (ae h λx A1 c=>by
 obtain⟨b,d,g,o⟩:=c;subst d;cases b with
 | true=>exact g rfl
 | false=>exact o rfl))
theorem DY(h:Wp (e1 σ) A (λx A1=>∃b,x=.bl b/\((b=true->Q (.bl true) A1)/\(b=false->Wp (e2 σ) A1 Q E))) E):Wp (nO e1 e2 σ) A Q E:=C3 (C3 (ae h λx A1 c=>by
 obtain⟨b,d,g,o⟩:=c;subst d;cases b with
 | true=>exact g rfl
 | false=>exact o rfl))
theorem DZ(h:Wp (t σ) A (λb A1=>(b=true->Wp (e1 σ) A1 Q E)/\(b=false->Wp (e2 σ) A1 Q E)) E):Wp (lA t e1 e2 σ) A Q E:=C3 (ae h λb A1 c=>by
 obtain⟨d,g⟩:=c;cases b with
 | true=>exact d rfl
 | false=>exact g rfl)
theorem eB(c:A[n]?=some (.lst l))(d:atI l i=some v)(q:Q v A):Wp (bW (.ref n) (.int i)) A Q E:=C3 (T8 c (by rw[d];exact q))
theorem kH(c:A[n]?=some (.ro l))(d:atI l i=some v)(q:Q v A):Wp (bW (.ref n) (.int i)) A Q E:=C3 (vh c (by rw[d];exact q))
theorem fX(c:atI l i=some v)(q:Q v A):Wp (bW (.tup l) (.int i)) A Q E:=by
 refine w_eq ?_ q;simp[c]
theorem Ea(h:Wp (e σ) A (λx A1=>Wp (P6 x) A1 (λl c=>Q (.int l.length) c) E) E):Wp (o8 e σ) A Q E:=C3 (ae h λ_ _ d=>C3 d)
theorem eS{Q:List PV->PHp->Prop}(h:A[n]?=some (.lst l))(q:Q l A):Wp (P6 (.ref n)) A Q E:=T8 h q
theorem iV{Q:List PV->PHp->Prop}(h:A[n]?=some (.ro l))(q:Q l A):Wp (P6 (.ref n)) A Q E:=vh h q
theorem iW{Q:List PV->PHp->Prop}(q:Q l A):Wp (P6 (.tup l)) A Q E:=q
theorem eC(h:Wp (e σ) A (λx A1=>Wp (P6 x) A1 (λl c=>Q (.ref c.length) (c++[.lst l])) E) E):Wp (jW e σ) A Q E:=C3 (ae h λ_ _ d=>C3 d)
theorem Eb(h:Wp (e σ) A (λx A1=>∃n l,x=.ref n/\A1[n]?=some (.lst l)/\l.length<=LIM/\Q (.tup l) A1) E):Wp (l4 e σ) A Q E:=C3 (ae h λx A1 c=>by
 obtain⟨n,l,d,g,o,q⟩:=c;subst d;exact C3 (T8 g (D2 o q)))
variable{QO:Option Int->PHp->Prop}{lo hi:LD}
theorem Ec(q:QO none A):Wp (hU σ) A QO E:=q
theorem Ed(h:Wp (e σ) A (λx A1=>∃i,x=.int i/\QO (some i) A1) E):Wp (hV e σ) A QO E:=C3 (ae h λx A1 ⟨i,c,q⟩=>by subst c;exact q)
theorem Ee(h:Wp (e σ) A (λx A1=>Wp (lo σ) A1 (λl o=>Wp (hi σ) o (λh d=>(∃n c,x=.ref n/\G6 n d=.ok c d/\Q (.ref d.length) (d++[.lst (ek c l h)]))\/
 ∃c,x=.tup c/\¬(Z8 c.length 0 l=0/\Z8 c.length c.length h=c.length)/\Q (.tup (ek c l h)) d) E) E) E):Wp (hW e lo hi σ) A Q E:=
 C3 (ae h λ_ _ p=>C3 (ae p λ_ _ r=>C3 (ae r λ_ _ s=>by
  rcases s with⟨n,c,rfl,g,q⟩ | ⟨c,rfl,g,q⟩
  .exact C3 (w_eq g q)
  .exact D2 g q)))
theorem qb:∀bs:List Bool,k9 (bs.map PV.bl)=some bs
 | []=>rfl
 | b::r=>by show(k9 _).map _=_;rw[qb r];rfl
theorem Ef(h:Wp (e σ) A (λx A1=>∃(n:Nat)(bs:List Bool),x=.ref n/\A1[n]?=some (.lst (bs.map PV.bl))/\Q (.bl (bs.all id)) A1) E):Wp (ia e σ) A Q E:=C3 (ae h λx A1 c=>by
 obtain⟨n,bs,d,g,q⟩:=c;subst d;refine C3 (T8 g ?_);rw[qb];exact q)
theorem Eg(h:Wp (e σ) A (λx A1=>Wp (P6 x) A1 (λl c=>∃ns,l=ns.map PV.int/\ns.length<1000/\Q (.int (gn ns)) c) E) E):Wp (om e σ) A Q E:=C3 (ae h λx A1 d=>C3 (ae d λl c g=>by
 obtain⟨ns,o,p,q⟩:=g;subst o;rw[S8];exact D2 p q))
theorem vj{e1 e2:ED}(h:Wp (e1 σ) A (λx A1=>∃n l,x=.ref n/\A1[n]?=some (.lst l)/\Wp (e2 σ) A1 (λv c=>∃l2,c[n]?=some (.lst l2)/\l2.length<LIM/\Q .non (c.set n (.lst (l2++[v])))) E) E):Wp (jY e1 e2 σ) A Q E:=
 C3 (ae h λx A1 d=>by
  obtain⟨n,l,g,o,p⟩:=d;subst g;exact C3 (Z0 o (C3 (ae p λv c ⟨l2,r,s,q⟩=>C3 (Z0 r (D2 s q))))))
theorem Eh(h:Wp (e σ) A (λx A1=>∃n c fs v,x=.ref n/\A1[n]?=some (.ins c fs)/\j8 k fs=some v/\Q v A1) E):Wp (H8 e k σ) A Q E:=
 C3 (ae h λx A1 d=>by
  obtain⟨n,c,fs,v,g,p,o,q⟩:=d;subst g;refine C3 (w_eq (a:=(c,fs)) (A':=A1) (by simp_all) ?_);rw[o];exact q)
theorem Ei{f:Fun}(h:Wp (es σ) A (λc A1=>Wp (f c) A1 Q E) E):Wp (aM f es σ) A Q E:=C3 h
theorem Ej{c:Nat}{f:Fun}(h:Wp (e σ) A (λx A1=>∃n fs,x=.ref n/\A1[n]?=some (.ins c fs)/\Wp (es σ) A1 (λd g=>Wp (f (.ref n::d)) g Q E) E) E):Wp (J8 c f e es σ) A Q E:=
 C3 (ae h λx A1 o=>by
  obtain⟨n,fs,p,r,q⟩:=o;subst p;exact C3 (w_eq (a:=(c,fs)) (by simp_all) (D2 rfl (C3 q))))
theorem Ek{c:Nat}{f:Fun}(h:Wp (es σ) A (λd A1=>Wp (f (.ref A1.length::d)) (A1++[.ins c []]) (λ_ g=>Q (.ref A1.length) g) E) E):Wp (hZ c f es σ) A Q E:=
 C3 (ae h λd A1 o=>C3 (w_eq rfl (C3 o)))
variable{QF:Fl->PHp->Prop}{s s1 s2:SD}{g:GD}{QS:PSt->PHp->Prop}
theorem mL(q:QF (.nx σ) A):Wp (sPass σ) A QF E:=q
theorem mM(h:Wp (s1 σ) A (λo A1=>match o with | .nx σ'=>Wp (s2 σ') A1 QF E | o=>QF o A1) E):Wp (D3 s1 s2 σ) A QF E:=C3 (ae h λo A1 c=>by
 cases o with
 | nx σ'=>omega
 | _=>exact c)
theorem qc(h:Wp (e σ) A (λ_ A1=>QF (.nx σ) A1) E):Wp (T4 e σ) A QF E:=C3 h
theorem eT(h:Wp (e σ) A (λv A1=>QF (.rt v) A1) E):Wp (G5 e σ) A QF E:=C3 h
theorem El(h:Wp (t σ) A (λb A1=>(b=true->Wp (s1 σ) A1 QF E)/\(b=false->Wp (s2 σ) A1 QF E)) E):Wp (bF t s1 s2 σ) A QF E:=C3 (ae h λb A1 c=>by
 obtain⟨d,o⟩:=c;cases b with
 | true=>exact d rfl
 | false=>exact o rfl)
theorem Em(h:Wp (e σ) A (λv A1=>Wp (g v σ) A1 (λσ' c=>QF (.nx σ') c) E) E):Wp (N9 e g σ) A QF E:=C3 (ae h λ_ _ d=>C3 d)
theorem mN(q:QS (σ.set k (some v)) A):Wp (gName k v σ) A QS E:=q
theorem Eo(q:QS σ A):Wp (gNil [] σ) A QS E:=q
theorem Ep{r:GDs}{vs:List PV}(h:Wp (g v σ) A (λσ' A1=>Wp (r vs σ') A1 QS E) E):Wp (gCons g r (v::vs) σ) A QS E:=C3 h
theorem iX{r:GDs}(c:l.length=n)(h:Wp (r l σ) A QS E):Wp (gTup n r (.tup l) σ) A QS E:=D2 c h
theorem Er(h:Wp (e2 σ) A (λv A1=>Wp (e1 σ) A1 (λx d=>∃n c fs,x=.ref n/\d[n]?=some (.ins c fs)/\fs.length<900/\QF (.nx σ) (d.set n (.ins c (putFld k v fs)))) E) E):Wp (sFld e1 k e2 σ) A QF E:=
 C3 (ae h λv A1 o=>C3 (ae o λx d p=>by
  obtain⟨n,c,fs,r,w,u,q⟩:=p;subst r;exact C3 (w_eq (a:=(c,fs)) (by simp_all) (D2 u q))))
theorem Es{n p:Nat}{vs:List PV}(d:vs.length=p)(h:Wp (s (start n vs)) A (λo A1=>match o with | .rt v=>Q v A1 | .nx _=>Q .non A1 | _=>False) E):Wp (fn n p s vs) A Q E:=
 D2 d (C3 (ae h λo A1 c=>by
  cases o with
  | rt v=>exact c
  | nx σ'=>exact c
  | bk σ'=>simp_all
  | ct σ'=>exact c.elim))
abbrev iw(P:PSt->PHp->Prop)(QF:Fl->PHp->Prop):Fl->PHp->Prop:=λo A=>match o with
 | .nx σ=>P σ A
 | .ct σ=>P σ A
 | .bk σ=>QF (.nx σ) A
 | .rt v=>QF (.rt v) A
theorem kI{J:It}{n:Nat}(P:Nat->PSt->PHp->Prop)(c:∀σ A,P n σ A->item J n A=.ok none A/\QF (.nx σ) A)
 (hs:∀i σ A,i<n->P i σ A->∃v,item J i A=.ok (some v) A/\Wp (g v σ) A (λq A1=>Wp (s q) A1 (iw (P (i+1)) QF) E) E) :
 ∀k i σ A,i+k=n->P i σ A->∀m,k<m->Wp (Y4 J g s m i σ) A QF E
 | _,_,_,_,_,_,0,r=>absurd r (Nat.not_lt_zero _)
 | 0,i,σ,A,e,h,m+1,r=>by
   obtain rfl:i=n:=by omega
   obtain⟨u,p⟩:=c σ A h;rw[U6];exact C3 (w_eq u p)
 | k+1,i,σ,A,e,h,m+1,r=>by
   obtain⟨v,z,t⟩:=hs i σ A (by omega) h;rw[U6];refine C3 (w_eq z ?_);refine C3 (ae t λq A1 u=>C3 (ae u λo w p=>?_));cases o with
   | nx d=>exact kI P c hs k _ d w (by omega) p m (by omega)
   | ct d=>exact kI P c hs k _ d w (by omega) p m (by omega)
   | bk d=>exact p
   | rt v=>exact p
theorem Et{it:ID}(P:Nat->PSt->PHp->Prop)(h:Wp (it σ) A (λJ A1=>∃lo n,J=.rng lo n/\P 0 σ A1/\(∀(i:Nat) σ B,i<n->P i σ B->Wp (g (.int (lo+i)) σ) B (λc o=>Wp (s c) o (iw (P (i+1)) QF) E) E)/\∀σ B,P n σ B->QF (.nx σ) B) E) :
 Wp (fc it g s σ) A QF E:=C3 (ae h λJ A1 p=>by
 obtain⟨lo,n,q,r,hs,he⟩:=p;subst q;exact C3 (jG (kI P (λσ B d=>⟨by simp,he σ B d⟩) (λi σ B hi d=>⟨_,by simp[hi],hs i σ B hi d⟩) n 0 σ A1 (by simp) r _ (JH _))))
theorem vk{it:ID}(P:Nat->PSt->PHp->Prop)(h:Wp (it σ) A (λJ A1=>∃a l,J=.lst a/\P 0 σ A1/\(∀i σ B,P i σ B->G6 a B=.ok l B)/\(∀(i:Nat) v σ B,l[i]?=some v->P i σ B->Wp (g v σ) B (λd q=>Wp (s d) q (iw (P (i+1)) QF) E) E)/\∀σ B,P l.length σ B->QF (.nx σ) B) E) :
 Wp (fc it g s σ) A QF E:=C3 (ae h λJ A1 r=>by
 obtain⟨a,l,u,p,o,hs,he⟩:=r;subst u;refine C3 (C3 (w_eq (o 0 σ A1 p) (jG ?_)));refine kI P (λσ B c=>⟨by show ao _ _ B=_;rw[aB (o _ σ B c)];simp,he σ B c⟩) (λi σ B hi c=>?_) _ 0 σ A1 (by simp) p _ (JH _);exact⟨l[i],by show ao _ _ B=_;rw[aB (o _ σ B c),IJ hi];rfl,hs i l[i] σ B (IJ hi) c⟩)
theorem Eu{it:ID}(P:Nat->PSt->PHp->Prop)(h:Wp (it σ) A (λJ A1=>∃l,J=.tup l/\P 0 σ A1/\(∀(i:Nat) v σ B,l[i]?=some v->P i σ B->Wp (g v σ) B (λc o=>Wp (s c) o (iw (P (i+1)) QF) E) E)/\∀σ B,P l.length σ B->QF (.nx σ) B) E) :
 Wp (fc it g s σ) A QF E:=C3 (ae h λJ A1 p=>by
 obtain⟨l,q,r,hs,he⟩:=p;subst q;refine kI P (λσ B d=>⟨by simp,he σ B d⟩) (λi σ B hi d=>?_) _ 0 σ A1 (by simp) r _ (JH _);exact⟨l[i],by simp[hi],hs i l[i] σ B (IJ hi) d⟩)
theorem qd(P:Nat->PSt->PHp->Prop)(hs:∀m σ A,P m σ A->Wp (t σ) A (λb A1=>(b=true->Wp (s σ) A1 (iw (λσ' A'=>∃d,d<m/\P d σ' A') QF) E)/\(b=false->QF (.nx σ) A1)) E) :
 ∀f m σ A,m<f->P m σ A->Wp (k8 t s f σ) A QF E
 | 0,m,σ,A,u,_=>absurd u (by simp)
 | f+1,m,σ,A,u,h=>by
   rw[su];refine C3 (ae (hs m σ A h) λb A1 z=>?_);obtain⟨C,D⟩:=z;cases b with
   | false=>exact D rfl
   | true=>
     refine C3 (ae (C rfl) λo w p=>?_);cases o with
     | nx c=>obtain⟨d,q,r⟩:=p;exact qd P hs f d c w (by omega) r
     | ct c=>obtain⟨d,q,r⟩:=p;exact qd P hs f d c w (by omega) r
     | bk c=>exact p
     | rt v=>exact p
theorem Ew(P:Nat->PSt->PHp->Prop){m:Nat}(d:m<10000)(h:P m σ A)(hs:∀m σ A,P m σ A->Wp (t σ) A (λb A1=>(b=true->Wp (s σ) A1 (iw (λσ' A'=>∃c,c<m/\P c σ' A') QF) E)/\(b=false->QF (.nx σ) A1)) E) :
 Wp (nW t s σ) A QF E:=qd P hs LIM m σ A (j5 d) h
theorem qe{J:It}{g:GD}{t:TD}{e:ED}{l:List PV}{q:List PV->PHp->Prop}(P:Nat->List PV->PSt->PHp->Prop)(p:∀i d σ B,P i d σ B->item J i B=.ok l[i]? B)
 (hs:∀i v d σ B,l[i]?=some v->P i d σ B->Wp (g v σ) B (λo C=>Wp (t o) C (λc r=>(c=true->Wp (e o) r (λy u=>P (i+1) (d++[y]) o u) E)/\(c=false->P (i+1) d o r)) E) E)
 (he:∀d σ B,P l.length d σ B->q d B):∀k i d σ B,i<=l.length->l.length<i+k->P i d σ B->Wp (d8 J g t e k i σ) B (λw G=>q (d++w) G) E
 | 0,i,d,σ,B,H,D,_=>absurd D (by omega)
 | k+1,i,d,σ,B,H,D,h=>by
   rw[Y5];refine C3 (w_eq (p i d σ B h) ?_);cases z:l[i]? with
   | none=>
     have:l.length=i:=by have:=JB.mp z;omega
     subst this;show q _ B;rw[JD];exact he d σ B h
   | some v=>
     have hi:=(IG.mp z).1;refine C3 (ae (hs i v d σ B z h) λo C I=>C3 (ae I λc r L=>?_));obtain⟨N,O⟩:=L;cases c with
     | true=>
       refine C3 (ae (N rfl) λy u T=>C3 (ae (qe P p hs he k _ _ o u hi (by omega) T) λw U Y=>?_));show q _ U;rw[show d++_=d++[y]++w by simp];exact Y
     | false=>exact qe P p hs he k _ d o r hi (by omega) (O rfl)
theorem kJ{it:ID}{mk:PSt->PSt}{g:GD}{t:TD}{e:ED}(h:Wp (it σ) A (λJ A1=>∃(l:List PV)(n:Nat)(P:Nat->List PV->PSt->PHp->Prop),j9 J A1=.ok n A1/\l.length<=n/\P 0 [] (mk σ) A1/\(∀i d σ B,P i d σ B->item J i B=.ok l[i]? B)/\
 (∀i v d σ B,l[i]?=some v->P i d σ B->Wp (g v σ) B (λo u=>Wp (t o) u (λc r=>(c=true->Wp (e o) r (λy w=>P (i+1) (d++[y]) o w) E)/\(c=false->P (i+1) d o r)) E) E)/\
 ∀d σ B,P l.length d σ B->d.length<=LIM/\Q (.ref B.length) (B++[.lst d])) E):Wp (M5 it mk g t e σ) A Q E:=
 C3 (ae h λJ A1 ⟨l,n,P,z,L,C,p,D,G⟩=>C3 (w_eq z (C3 (ae (qe P p D G _ 0 [] _ A1 (Lx _) (by omega) C) λN B q=>by
  obtain⟨H,I⟩:=q;exact D2 H I))))
theorem N2{it:ID}{mk:PSt->PSt}{g:GD}{t:TD}{e:ED}{l:List PV}(S:PSt->Prop)(p:PV->Bool)(f:PV->PV)(h:Wp (it σ) A (λJ A1=>∃n,j9 J A1=.ok n A1/\l.length<=n/\l.length<=LIM/\S (mk σ)/\(∀i,item J i A1=.ok l[i]? A1)/\
 (∀v σ,v∈l->S σ->Wp (g v σ) A1 (λd D=>D=A1/\S d/\Wp (t d) A1 (λc G=>G=A1/\c=p v/\(c=true->Wp (e d) A1 (λy H=>H=A1/\y=f v) E)) E) E)/\
 Q (.ref A1.length) (A1++[.lst ((l.filter p).map f)])) E):Wp (M5 it mk g t e σ) A Q E:=
 kJ (ae h λJ A1 ⟨n,N,O,T,U,u,Y,he⟩=>⟨l,n,λi o σ B=>B=A1/\S σ/\o=((l.take i).filter p).map f,N,O,⟨rfl,U,by simp⟩,λi o σ B ⟨q,_⟩=>by rw[q];exact u i,λi v o σ B I w=>by
  obtain⟨q,h2,r⟩:=w;subst q;refine ae (Y v σ (Ja I) h2) λd D z=>?_;obtain⟨e1,L,h5⟩:=z;subst e1;refine ae h5 λc G z=>?_;obtain⟨e2,h6,h7⟩:=z;subst e2;have tk:l.take (i+1)=l.take i++[v]:=by rw[JY,I];rfl
  refine⟨λC=>ae (h7 C) λy H ⟨e3,h8⟩=>⟨e3,L,?_⟩,λC=>⟨rfl,L,?_⟩⟩
  .simp_all
  .rw[tk,Lv,r,Lm (by rw[<-h6,C];simp)];simp,λo σ B w=>by
  obtain⟨q,_,r⟩:=w;subst q;rw[KO (Iw _)]at r;subst r;exact⟨by rw[Iq];exact Jm (Jq _ _) T,he⟩⟩)
theorem O1{n:Nat}{l:List PV}(h:A[n]?=some (.lst l)):j9 (.lst n) A=.ok l.length A:=by simp_all
theorem O2{n:Nat}{l:List PV}(h:A[n]?=some (.lst l))(i:Nat):item (.lst n) i A=.ok l[i]? A:=by simp_all
theorem mO(n i:Nat):item (.rng 0 n) i A=.ok ((Jj n).map λ(k:Nat)=>PV.int (k:Int))[i]? A:=by
 by_cases hi:i<n<;>simp[hi]
noncomputable def i8:List PV->List PV->List PV
 | x::c,y::d=>.tup [x,y]::i8 c d
 | _,_=>[]
theorem qf:∀(l m:List PV)(i:Nat),(match l[i]?,m[i]? with | some u,some v=>some (.tup [u,v]) | _,_=>none)=(i8 l m)[i]?
 | [],m,i=>by simp[i8]
 | x::c,[],i=>by cases h:(x::c)[i]?<;>simp[i8]
 | x::c,y::d,0=>by simp[i8]
 | x::c,y::d,i+1=>by simpa[i8]using qf c d i
theorem vl:∀(l m:List PV),(i8 l m).length<=l.length
 | [],m=>by simp[i8]
 | x::c,[]=>by simp[i8]
 | x::c,y::d=>by simpa[i8]using vl c d
theorem Ex(l m:List PV)(i:Nat):item (.zip (.tup l) (.tup m)) i A=.ok (i8 l m)[i]? A:=by
 rw[<-qf];rfl
theorem Ey{n k:Nat}{l m:List PV}(c:A[n]?=some (.lst l))(d:A[k]?=some (.lst m))(i:Nat):item (.zip (.ref n) (.ref k)) i A=.ok (i8 l m)[i]? A:=by
 rw[<-qf];show ao (G6 n) _ A=_;rw[aB (M8 c)];show ao (G6 k) _ A=_;rw[aB (M8 d)];rfl
theorem Ez{α:Type}{c:List α}{j:Nat}(h:j<c.length):atI c (j:Int)=some c[j]:=by
 unfold atI ixN;simp[h]
end
noncomputable def pv(p:Int×Int):PV:=.tup [.int p.1,.int p.2]
noncomputable def aX(ps:List (Int×Int)):List PV:=ps.map pv
theorem EA(p:Int×Int):plain (pv p)=true:=rfl
theorem vm(ps:List (Int×Int)):N4 (aX ps)=true:=by
 rw[u5];intro x a;obtain⟨p,_,rfl⟩:=IC.mp a;rfl
theorem EB{p q:Int×Int}(h:pv p=pv q):p=q:=by
 obtain⟨a,b⟩:=p;simp[pv]at h;simp[h]
theorem vn(p:Int×Int)(ps:List (Int×Int)):fb (pv p) (aX ps)=decide (p∈ps):=by
 induction ps with
 | nil=>rfl
 | cons q r ih=>
   have e:bI (pv q) (pv p)=decide (q=p):=by
    by_cases h:q=p
    .subst h;simp[(sE _ (pv q) rfl).mpr rfl]
    .have:¬bI _ _=true:=λz=>h (EB ((sE _ _ rfl).mp z));simp[h,this]
   show(bI _ _||fb _ (aX r))=_;rw[ih,e];by_cases h:q=p<;>by_cases a:p∈r<;>simp[h,a];intro z;exact h z.symm
theorem W6{ps:List (Int×Int)}{v:PV}(h:v∈aX ps):∃p∈ps,v=pv p:=by
 obtain⟨p,a,rfl⟩:=IC.mp h;exact⟨p,a,rfl⟩
noncomputable def g8:PV->Int
 | .tup [.int a,.int b]=>a
 | _=>0
noncomputable def g9:PV->Int
 | .tup [.int a,.int b]=>b
 | _=>0
@[simp] theorem Ii(p:Int×Int):g8 (pv p)=p.1:=rfl
@[simp] theorem Ij(p:Int×Int):g9 (pv p)=p.2:=rfl
theorem vo(x:Int)(M:List Int):fb (.int x) (M.map .int)=decide (x∈M):=by
 induction M with
 | nil=>rfl
 | cons a r ih=>
   have:fb _ ((a::r).map .int)=(bI _ _||fb (.int x) _):=rfl;rw[this,ih];show(decide _||decide _)=_;by_cases h:a=x
   .simp_all
   .have b:¬x=a:=λz=>h z.symm;simp[h,b]
section
variable{A:PHp}{Q:PV->PHp->Prop}{E:XP}{n:Nat}{x a b:Int}{M:List Int}{ps:List (Int×Int)}
theorem iY(q:Q (.bl (decide (x∈M))) A):Wp (fU (.int x) (.tup (M.map .int))) A Q E:=DN ⟨rfl,Y7 _⟩ (by rw[vo];exact q)
theorem fA(q:Q (.bl (!decide (x∈M))) A):Wp (jT (.int x) (.tup (M.map .int))) A Q E:=DO ⟨rfl,Y7 _⟩ (by rw[vo];exact q)
theorem ix(c:A[n]?=some (.lst (aX ps)))(q:Q (.bl (decide ((a,b)∈ps))) A):Wp (fU (.tup [.int a,.int b]) (.ref n)) A Q E:=iu c ⟨rfl,vm _⟩ (by rw[show PV.tup [.int a,.int b]=pv (a,b)from rfl,vn];exact q)
theorem h9(l:List Int):plain (.tup (l.map .int))=true:=by
 show(l.map _).all z8=true;rw[Jo];intro x c;obtain⟨y,_,rfl⟩:=IC.mp c;rfl
theorem EC{c:PV->PHp->Prop}{e:ED}{σ:PSt}{t:Ty}(h:Wp (e σ) A (λx d=>Wp (hY t x) d (λb f=>c (.bl b) f) E) E):Wp (j7 e t σ) A c E:=C3 (ae h λ_ _ g=>C3 g)
theorem gJ{c:Bool->PHp->Prop}{t:Ty}{x:PV}{b:Bool}(h:hY t x A=.ok b A)(q:c b A):Wp (hY t x) A c E:=w_eq h q
theorem gK{c:Bool->PHp->Prop}{l:List PV}(h:A[n]?=some (.lst l))(q:c true A):Wp (hY .list (.ref n)) A c E:=C3 (Z0 h q)
theorem o5(l m:List Int):eqvs (l.map .int) (m.map .int)=decide (l=m):=by
 have h:=zV (l.map .int) (m.map .int) (Y7 _);have inj:l.map _=m.map _↔l=m:=⟨λz=>by
  have:=congrArg M6 z;rw[S8,S8]at this;exact IK this,λz=>by rw[z]⟩
 cases e:eqvs _ _ with
 | true=>exact(decide_eq_true (inj.mp (h.mp e))).symm
 | false=>simp_all
theorem EE{l:List Int}(q:Q (.bl (decide (l=[]))) A):Wp (cX (.tup (l.map .int)) (.tup [])) A Q E:=DL ⟨h9 _,rfl⟩ (by rw[show([])=([]).map .int from rfl,o5];exact q)
theorem EF{l:List Int}(q:Q (.bl (!decide (l=[]))) A):Wp (dE (.tup (l.map .int)) (.tup [])) A Q E:=vf ⟨h9 _,rfl⟩ (by rw[show([])=([]).map .int from rfl,o5];exact q)
theorem iZ{n k:Nat}{l:List Int}(c:A[n]?=some (.lst (l.map .int)))(d:A[k]?=some (.lst []))(q:Q (.bl (decide (l=[]))) A):Wp (cX (.ref n) (.ref k)) A Q E:=ir c d ⟨Y7 _,rfl⟩ (by rw[show([])=([]).map .int from rfl,o5];exact q)
theorem fY{l m:List Int}(q:Q (.bl (!decide (l=m))) A):Wp (dE (.tup (l.map .int)) (.tup (m.map .int))) A Q E:=vf ⟨h9 _,h9 _⟩ (by rw[o5];exact q)
end
section
variable{A:PHp}{E:XP}{σ:PSt}{e e1 e2:ED}
theorem EH{P R:Prop}(h:P):(true=true->P)/\(true=false->R):=by simp_all
theorem EI{P R:Prop}(h:P):(True->P)/\(true=false->R):=by simp_all
theorem EJ{P R:Prop}(h:R):((!true)=true->P)/\((!true)=false->R):=by simp_all
theorem vp{P R:Prop}(h:R):(false=true->P)/\(false=false->R):=by simp_all
theorem EK{A:PHp}{n:Nat}{l:List PV}{R:Nat->List PV->Prop}(h:A[n]?=some (.lst l))(q:R n l):∃a b,PV.ref n=.ref a/\A[a]?=some (.lst b)/\R a b:=⟨n,l,rfl,h,q⟩
theorem qg{A:PHp}{n:Nat}{l:List PV}{R:List PV->Prop}(h:A[n]?=some (.lst l))(q:R l):∃a,A[n]?=some (.lst a)/\R a:=⟨l,h,q⟩
theorem EL{A:PHp}{n c:Nat}{l:List (Nat×PV)}{R:Nat->List (Nat×PV)->Prop}(h:A[n]?=some (.ins c l))(q:R n l):∃a b,PV.ref n=.ref a/\A[a]?=some (.ins c b)/\R a b:=⟨n,l,rfl,h,q⟩
theorem qh{A:PHp}{n c:Nat}{l:List (Nat×PV)}{R:Nat->Nat->List (Nat×PV)->Prop}(h:A[n]?=some (.ins c l))(q:R n c l):∃a b d,PV.ref n=.ref a/\A[a]?=some (.ins b d)/\R a b d:=⟨n,c,l,rfl,h,q⟩
theorem EM{A:PHp}{n c k:Nat}{l:List (Nat×PV)}{v:PV}{R:PV->Prop}(h:A[n]?=some (.ins c l))(f:j8 k l=some v)(q:R v):∃a g b d,PV.ref n=.ref a/\A[a]?=some (.ins g b)/\j8 k b=some d/\R d:=⟨n,c,l,v,rfl,h,f,q⟩
theorem qi{A:PHp}{n:Nat}{l:List PV}{R:Nat->Prop}{b:Prop}(h:A[n]?=some (.lst l))(q:R n):(∃a c,PV.ref n=.ref a/\G6 a A=.ok c A/\R a)\/b:=.inl ⟨n,l,rfl,M8 h,q⟩
theorem qj{l:List PV}{R:List PV->Prop}{b:Prop}(q:R l):b\/∃a,PV.tup l=.tup a/\R a:=.inr ⟨l,rfl,q⟩
theorem qk{A:PHp}{n:Nat}{l:List PV}{R:Nat->List PV->Prop}{c:Prop}(h:A[n]?=some (.lst l))(q:R n l):(∃a b,PV.ref n=.ref a/\G6 a A=.ok b A/\R a b)\/c:=.inl ⟨n,l,rfl,M8 h,q⟩
theorem ql{A:PHp}{n:Nat}{l:List PV}{R:Nat->Prop}(h:A[n]?=some (.lst l))(q:R n):∃a b,PV.ref n=.ref a/\G6 a A=.ok b A/\R a:=⟨n,l,rfl,M8 h,q⟩
variable{QI:It->PHp->Prop}
theorem vq(h:Wp (e σ) A (λx a=>(∃n l,x=.ref n/\G6 n a=.ok l a/\QI (.lst n) a)\/∃l,x=.tup l/\QI (.tup l) a) E):Wp (W7 e σ) A QI E:=C3 (ae h λx a b=>by
 rcases b with⟨n,l,rfl,c,q⟩ | ⟨l,rfl,q⟩
 .exact C3 (w_eq c q)
 .exact q)
theorem EN(h:Wp (e σ) A (λx a=>∃n:Nat,x=.int n/\n<=1000000/\QI (.rng 0 n) a) E):Wp (iRng1 e σ) A QI E:=C3 (ae h λx a b=>by
 obtain⟨n,c,d,q⟩:=b;subst c;have f:=Pp.mpr d;refine D2 ⟨Pq (by simp) (Np n),Nq f (by simp)⟩ (jG ?_);exact q)
theorem EO(h:Wp (e1 σ) A (λx c=>Wp (e2 σ) c (λy d=>∃a b:Nat,x=.int a/\y=.int b/\(a<=1000000/\b<=1000000)/\QI (.rng a (b - a)) d) E) E):Wp (iRng2 e1 e2 σ) A QI E:=
 C3 (ae h λx c g=>C3 (ae g λy d i=>by
  obtain⟨a,b,j,k,f,q⟩:=i;subst j;subst k;have l:=Pp.mpr f.1;have l2:=Pp.mpr f.2;refine D2 ⟨⟨Pq (by decide) (Np a),Nq l (by decide)⟩,Pq (by decide) (Np b),Nq l2 (by decide)⟩ (jG ?_);have:((b:Int) - a).toNat=b - a:=by omega
  rw[this];exact q))
theorem ES(h:Wp (e1 σ) A (λx a=>Wp (e2 σ) a (λy b=>Wp (P6 x) b (λ_ c=>Wp (P6 y) c (λ_ d=>QI (.zip x y) d) E) E) E) E):Wp (lF e1 e2 σ) A QI E:=
 C3 (ae h λ_ _ f=>C3 (ae f λ_ _ g=>C3 (ae g λ_ _ i=>C3 i)))
theorem ET(h:Wp (e σ) A (λx a=>∃n l,x=.ref n/\G6 n a=.ok l a/\QI (.enm n) a) E):Wp (lC e σ) A QI E:=C3 (ae h λx a b=>by
 obtain⟨n,l,c,d,q⟩:=b;subst c;exact C3 (w_eq d q))
end
end Ws
local macro_rules | `(tactic| walk_at "st")=>`(tactic| first
 | assumption
 | exact Ws.aj
 | (refine Ws.az ?_;walk_at "st")
 | (refine Ws.ai (by assumption) ?_;walk_at "st"))
local macro_rules | `(tactic| walk_at "lim")=>`(tactic| first
 | (refine Ws.aE ?_;(try simp only[Iq,IU,IM,JS]);omega)
 | (refine Ws.j5 ?_;(try simp only[Iq,IU,IM,JS]);omega))
local macro_rules | `(tactic| walk_at "s1")=>`(tactic| first
 | with_reducible first
   | refine Ws.mM ?_
   | refine Ws.Em ?_
   | refine Ws.El ?_
   | refine Ws.qc ?_
   | refine Ws.eT ?_
   | refine Ws.w_retN ?_
   | refine Ws.mL ?_
   | refine Ws.Er ?_
   | refine Ws.DS ?_
   | refine Ws.DU ?_
   | refine Ws.DV ?_
   | refine Ws.DW ?_
   | refine Ws.iq ?_
   | refine Ws.DR ?_
   | refine Ws.DX ?_
   | refine Ws.DY ?_
   | refine Ws.w_not ?_
   | refine Ws.DZ ?_
   | refine Ws.DP ?_
   | refine Ws.DQ ?_
   | refine Ws.ve ?_
   | refine Ws.DC ?_
   | refine Ws.DD ?_
   | refine Ws.Ei ?_
   | refine Ws.Ej ?_
   | refine Ws.Ek ?_
   | refine Ws.Eh ?_
   | refine Ws.Ea ?_
   | refine Ws.eC ?_
   | refine Ws.Eb ?_
   | refine Ws.Ee ?_
   | refine Ws.w_cut2 ?_
   | refine Ws.Ed ?_
   | refine Ws.vj ?_
   | refine Ws.EC ?_
   | refine Ws.Ef ?_
   | refine Ws.Eg ?_
   | refine Ws.w_revT ?_
   | refine Ws.w_isF ?_
   | refine Ws.ES ?_
   | refine Ws.vq ?_
   | refine Ws.EN ?_
   | refine Ws.EO ?_
   | refine Ws.ET ?_)
local macro_rules | `(tactic| walk_at "s2")=>`(tactic| first
 | ((with_reducible apply Ws.w_var);(·rfl))
 | with_reducible first
   | refine Ws.DB ?_
   | refine Ws.vi ?_
   | refine Ws.vd ?_
   | refine Ws.mN ?_
   | refine Ws.Eo ?_
   | refine Ws.Ep ?_
 | ((with_reducible apply Ws.iX);(·rfl))
 | with_reducible first
   | refine Ws.DE ?_
   | refine Ws.w_add2 ?_
   | refine Ws.DF ?_
 | ((with_reducible apply Ws.w_mod);(·omega))
 | ((with_reducible apply Ws.iU);(·omega))
 | with_reducible first
   | refine Ws.w_lt ?_
   | refine Ws.DG ?_
   | refine Ws.DH ?_
   | refine Ws.w_ge ?_
   | refine Ws.DI ?_
   | refine Ws.DJ ?_
   | refine Ws.w_eqB ?_
   | refine Ws.DK ?_
   | refine Ws.Ec ?_
 | with_reducible refine Ws.iY ?_
 | with_reducible refine Ws.fA ?_
 | ((with_reducible apply Ws.ix);(·walk_at "st"))
 | ((with_reducible apply Ws.gK);(·walk_at "st"))
 | ((with_reducible apply Ws.gJ);(·rfl))
 | with_reducible first
   | refine Ws.EE ?_
   | refine Ws.EF ?_
   | refine Ws.w_eqTI ?_
   | refine Ws.fY ?_
 | ((with_reducible apply Ws.iZ);(·walk_at "st");(·walk_at "st"))
 | ((with_reducible refine Ws.iW ?_);(try dsimp only);(try rw[Iq]))
 | ((with_reducible apply Ws.eS);(·walk_at "st");(try dsimp only);(try rw[Iq]))
 | ((with_reducible apply Ws.iV);(·walk_at "st"))
 | ((with_reducible apply Ws.eB);(·walk_at "st");(·walk_at "ix"))
 | ((with_reducible apply Ws.kH);(·walk_at "st");(·walk_at "ix"))
 | ((with_reducible apply Ws.fX);(·walk_at "ix")))
local macro_rules | `(tactic| walk_at "ix")=>`(tactic| first
 | assumption
 | rfl
 | exact Ws.atl (by omega))
local macro_rules | `(tactic| walk_at "s3")=>`(tactic| first
 | with_reducible first
   | refine Ws.EH ?_
   | refine Ws.vp ?_
   | refine Ws.EJ ?_
   | refine Ws.brNF ?_
   | refine Ws.EI ?_
   | refine Ws.brF' ?_
 | with_reducible refine⟨_,rfl,?_⟩
 | ((with_reducible apply Ws.EK);(·walk_at "st"))
 | ((with_reducible apply Ws.qg);(·walk_at "st"))
 | ((with_reducible apply Ws.EL);(·walk_at "st"))
 | ((with_reducible apply Ws.qh);(·walk_at "st"))
 | ((with_reducible apply Ws.EM);(·walk_at "st");(·rfl))
 | ((with_reducible apply Ws.qi);(·walk_at "st"))
 | ((with_reducible apply Ws.ql);(·walk_at "st"))
 | ((with_reducible apply Ws.qk);(·walk_at "st"))
 | with_reducible apply Ws.qj
 | ((with_reducible refine And.intro ?h1 ?_);(case h1=>first | walk_at "lim" | omega)))
local macro_rules | `(tactic| walk_at "s")=>`(tactic| (first | walk_at "s1" | walk_at "s2" | walk_at "s3");(try dsimp only[List.set,Ws.iw]))
local macro_rules | `(tactic| walk_at "fn")=>`(tactic| (refine Ws.Es (by rfl) ?_;simp only[Ws.start,Jb,Oj,IM,JS,Nat.reduceAdd,Nat.reduceSub,LP,List.cons_append,Ow]))
local macro_rules | `(tactic| walk_at "go")=>`(tactic| repeat walk_at "s")
namespace Ws
noncomputable def N5:Fun:=fn 1 1
 (G5 (j6 (j7 (aa 0) .int) (nQ (j7 (aa 0) .bool))))
noncomputable def L0:Fun:=fn 2 2
 (G5 (j6 (aM N5 (ag (aa 1) aNil)) (jj iM fR (eK (.int 0)) (aa 1) (aa 0))))
noncomputable def G8:Fun:=fn 1 1
 (G5 (j6 (aM N5 (ag (aa 0) aNil)) (jj iM iM (eK (.int 2)) (aa 0) (eK (.int 6)))))
noncomputable def N3:Fun:=fn 2 2
 (D3 (bF (tOr (tNot (E4 (j7 (aa 1) .tuple))) (E4 (aq dE (o8 (aa 1)) (eK (.int 2)))))
 (G5 (eK (.bl false)))
 sPass)
 (G5 (j6 (aM L0 (ag (aa 0) (ag (aq bW (aa 1) (eK (.int 0))) aNil))) (j6 (aM L0 (ag (aa 0) (ag (aq bW (aa 1) (eK (.int 1))) aNil))) (aq dE (aq bW (aa 1) (eK (.int 0))) (aq bW (aa 1) (eK (.int 1))))))))
noncomputable def R7:SD:=
 (bF (tOr (tNot (E4 (aM N3 (ag (aa 0) (ag (aa 3) aNil))))) (E4 (aq fU (aa 3) (hW (aa 1) hU (hV (aa 2))))))
 (G5 (aa 2))
 sPass)
noncomputable def R8:SD:=fc (lC (aa 1)) (gTup 2 (gCons (gName 2) (gCons (gName 3) gNil))) R7
noncomputable def G3:Fun:=fn 4 2
 (D3 R8
 (G5 (eK .non)))
noncomputable def N6:Fun:=fn 3 3
 (D3 (sFld (aa 0) 6 (aa 1))
 (D3 (sFld (aa 0) 7 (lA (E4 (hJ (aa 2))) (bL aNil) (jW (aa 2))))
 (D3 (sFld (aa 0) 11 (l4 (H8 (aa 0) 7)))
 (D3 (sFld (aa 0) 12 (eK (.int 1)))
 (D3 (sFld (aa 0) 13 eTNew)
 (D3 (sFld (aa 0) 14 eTNew)
 (sFld (aa 0) 15 eTNew)))))))
noncomputable def aU:Fun:=fn 2 2
 (sFld (aa 0) 17 (aa 1))
noncomputable def EU:ED:=M5 (lF (aa 0) (hW (aa 0) (hV (eK (.int 1))) hU)) (cp [none,none]) (gTup 2 (gCons (gName 0) (gCons (gName 1) gNil))) R1 (aq fR (aa 0) (aa 1))
noncomputable def V7:Fun:=fn 1 1
 (G5 (ia EU))
noncomputable def EV:ED:=M5 (W7 (aa 1)) (cp [none,some 0]) (gName 0) R1 (aM L0 (ag (H8 (aa 1) 0) (ag (aa 0) aNil)))
noncomputable def R9:Fun:=fn 2 2
 (D3 (bF (tOr (tNot (E4 (j7 (aa 1) .list))) (E4 (aq cX (aa 1) (bL aNil))))
 (G5 (eK (.bl false)))
 sPass)
 (G5 (j6 (ia EV) (aM V7 (ag (aa 1) aNil)))))
noncomputable def U8:Fun:=fn 1 1
 (G5 (j6 (aM N5 (ag (aa 0) aNil)) (aq sm (aa 0) (eK (.int 0)))))
noncomputable def m5:SD:=
 (D3 (bF (tNot (E4 (aM U8 (ag (lG (aa 3) (aa 5)) aNil))))
 sNever
 sPass)
 (kb (aa 4) (aa 5) (ib (aa 3) (aa 5))))
noncomputable def X8:SD:=fc (W7 (H8 (aa 1) 1)) (gName 5) m5
noncomputable def P9:Fun:=fn 6 4
 (D3 (bF (tNot (E4 (aM R9 (ag (aa 1) (ag (aa 2) aNil)))))
 sNever
 sPass)
 (D3 (N9 eTNew (gName 4))
 (D3 X8
 (D3 (sFld (aa 0) 3 (aa 1))
 (D3 (sFld (aa 0) 4 (jW (aa 2)))
 (D3 (sFld (aa 0) 5 (oy (aa 4)))
 (D3 (sFld (aa 0) 9 (l4 (aa 2)))
 (sFld (aa 0) 10 (aa 4)))))))))
noncomputable def Q0:Fun:=fn 4 3
 (D3 (bF (tNot (E4 (aM G8 (ag (aa 1) aNil))))
 sNever
 sPass)
 (D3 (N9 (aM G3 (ag (aa 1) (ag (aa 2) aNil))) (gName 3))
 (D3 (bF (E4 (lz (aa 3)))
 sNever
 sPass)
 (D3 (sFld (aa 0) 0 (aa 1))
 (sFld (aa 0) 1 (lB (aa 2)))))))
noncomputable def X9:ED:=M5 (W7 (H8 (aa 0) 1)) (cp [none,none,some 1]) (gTup 2 (gCons (gName 0) (gCons (gName 1) gNil))) (E4 (aq cX (aa 1) (aa 2))) (aa 0)
noncomputable def M9:Fun:=fn 2 2
 (G5 X9)
noncomputable def Y1:ED:=M5 (W7 (H8 (aa 0) 1)) (cp [none,none,some 1]) (gTup 2 (gCons (gName 0) (gCons (gName 1) gNil))) (E4 (aq cX (aa 0) (aa 2))) (aa 1)
noncomputable def N0:Fun:=fn 2 2
 (G5 Y1)
noncomputable def cH:ED:=M5 (W7 (aa 2)) (cp [none,some 0]) (gName 0) R1 (aM L0 (ag (H8 (aa 1) 0) (ag (aa 0) aNil)))
noncomputable def cI:ED:=M5 (lF (aa 2) (hW (aa 2) (hV (eK (.int 1))) hU)) (cp [none,some 0]) (gName 0) R1 (aq fU (aa 0) (H8 (aa 1) 1))
noncomputable def U9:Fun:=fn 3 3
 (D3 (bF (tOr (E4 (aq cX (aa 2) (U3 aNil))) (E4 (aq jT (aq bW (aa 2) (eK (.int (-1)))) (aa 1))))
 (G5 (eK (.bl false)))
 sPass)
 (D3 (bF (tOr (E4 (aq fR (om (aa 2)) (o8 (aa 2)))) (tNot (E4 (ia cH))))
 (G5 (eK (.bl false)))
 sPass)
 (G5 (ia cI))))
noncomputable def c6:Fun:=fn 2 2
 (G5 (j6 (aM N3 (ag (H8 (aa 0) 0) (ag (aa 1) aNil))) (aq fU (aa 1) (H8 (aa 0) 1))))
noncomputable def c7:ED:=M5 (W7 (aa 1)) (cp [none,some 0]) (gName 0) R1 (aM L0 (ag (H8 (H8 (aa 1) 3) 0) (ag (aa 0) aNil)))
noncomputable def P0:Fun:=fn 2 2
 (D3 (bF (tOr (tNot (E4 (j7 (aa 1) .tuple))) (tNot (E4 (ia c7))))
 (G5 (eK (.bl false)))
 sPass)
 (G5 (aM U9 (ag (H8 (aa 0) 3) (ag (H8 (aa 0) 9) (ag (aa 1) aNil))))))
noncomputable def T1:Fun:=fn 2 2
 (D3 (bF (tOr (tNot (E4 (j7 (aa 1) .tuple))) (tOr (E4 (aq fR (o8 (aa 1)) (eK (.int 2)))) (tNot (E4 (aM c6 (ag (H8 (aa 0) 3) (ag (aq bW (aa 1) (eK (.int 1))) aNil)))))))
 (G5 (eK (.bl false)))
 sPass)
 (D3 (bF (E4 (aq cX (o8 (aa 1)) (eK (.int 2))))
 (G5 (aq cX (aq bW (aa 1) (eK (.int 0))) (eK (.str "lay"))))
 sPass)
 (D3 (bF (tOr (E4 (aq dE (o8 (aa 1)) (eK (.int 3)))) (E4 (aq dE (aq bW (aa 1) (eK (.int 0))) (eK (.str "say")))))
 (G5 (eK (.bl false)))
 sPass)
 (G5 (j6 (aM P0 (ag (aa 0) (ag (aq bW (aa 1) (eK (.int 2))) aNil))) (aq cX (aq bW (aq bW (aa 1) (eK (.int 2))) (eK (.int 0))) (aq bW (aq bW (aa 1) (eK (.int 1))) (eK (.int 1)))))))))
noncomputable def ax:Fun:=fn 1 1
 (G5 (H8 (aa 0) 12))
noncomputable def K7:Fun:=fn 1 1
 (sFld (aa 0) 12 (aq U4 (H8 (aa 0) 12) (eK (.int 1))))
noncomputable def K1:Fun:=fn 2 2
 (D3 (bF (gB (E4 (iN (aq bW (aa 1) (eK (.int 1))) (H8 (aa 0) 13))))
 (l5 13 (ag (aa 1) aNil))
 (fj sPass))
 (fj (kb (H8 (aa 0) 13) (aq bW (aa 1) (eK (.int 1))) (H8 (aa 0) 12))))
noncomputable def T9:Fun:=fn 2 2
 (G5 (ib (H8 (aa 0) 10) (aa 1)))
noncomputable def D9:Fun:=fn 3 3
 (G5 (aq nM (H8 (aa 0) 12) (aq U4 (J8 1 T9 (H8 (aa 0) 6) (ag (aa 1) aNil)) (o8 (aa 2)))))
noncomputable def E8:Fun:=fn 2 2
 (G5 (j6 (iN (aa 1) (H8 (aa 0) 13)) (aq fR (ib (H8 (aa 0) 13) (aa 1)) (H8 (aa 0) 12))))
noncomputable def E9:Fun:=fn 2 2
 (G5 (j6 (iN (aa 1) (H8 (aa 0) 15)) (aq fR (ib (H8 (aa 0) 15) (aa 1)) (H8 (aa 0) 12))))
noncomputable def U0:SD:=
 (N9 (hW (aa 2) (hV (eK (.int 1))) hU) (gName 2))
noncomputable def O7:SD:=nW (tAnd (E4 (aq dE (aa 2) (U3 aNil))) (E4 (aq fU (aq bW (aa 2) (eK (.int 0))) (H8 (aa 0) 11)))) U0
noncomputable def H9:Fun:=fn 3 2
 (D3 (N9 (hW (aa 1) (hV (eK (.int 1))) hU) (gName 2))
 (D3 O7
 (G5 (nO (aq cX (aa 2) (U3 aNil)) (J8 2 E9 (aa 0) (ag (aa 2) aNil))))))
noncomputable def K2:Fun:=fn 4 2
 (D3 (fj (N9 (aq bW (aa 1) (eK (.int 1))) (gName 2)))
 (D3 (fj (N9 (aq bW (aa 1) (eK (.int 2))) (gName 3)))
 (D3 (bF (gB (tNot (E4 (J8 2 E8 (aa 0) (ag (aa 2) aNil)))))
 (l5 14 (ag (aa 1) aNil))
 (fj sPass))
 (D3 (bF (gB (E4 (J8 2 D9 (aa 0) (ag (aa 2) (ag (aa 3) aNil)))))
 (l5 15 (ag (aa 1) aNil))
 (fj sPass))
 (D3 (bF (gB (tNot (E4 (J8 2 H9 (aa 0) (ag (aa 3) aNil)))))
 (l5 16 (ag (aa 1) aNil))
 (fj sPass))
 (D3 (fj (T4 (jY (jl (H8 (aa 0) 14) (aa 2) (bL aNil)) (U3 (ag (H8 (aa 0) 12) (ag (aa 3) aNil))))))
 (fj (T4 (jl (H8 (aa 0) 15) (aa 3) (H8 (aa 0) 12))))))))))
noncomputable def J9:Fun:=fn 2 2
 (D3 (bF (gB (tNot (E4 (aM T1 (ag (H8 (aa 0) 6) (ag (aa 1) aNil))))))
 (l5 12 (ag (aa 1) aNil))
 (fj sPass))
 (bF (gB (E4 (aq cX (aq bW (aa 1) (eK (.int 0))) (eK (.str "lay")))))
 (T4 (u7 2 K1 (aa 0) (ag (aa 1) aNil)))
 (T4 (u7 2 K2 (aa 0) (ag (aa 1) aNil)))))
noncomputable def K3:Fun:=fn 2 2
 (G5 (lG (H8 (aa 0) 13) (aa 1)))
noncomputable def P1:Fun:=fn 2 2
 (G5 (jW (ow (H8 (aa 0) 14) (aa 1) (bL aNil))))
noncomputable def Q5:Fun:=fn 2 2
 (G5 (aq fU (aa 1) (H8 (aa 0) 9)))
noncomputable def T2:ED:=M5 (W7 (J8 0 M9 (H8 (H8 (aa 1) 6) 3) (ag (H8 (aa 0) 17) aNil))) (cp [none,some 0]) (gName 0) R1 (U3 (ag (aa 0) (ag (H8 (aa 1) 17) aNil)))
noncomputable def D0:Fun:=fn 2 2
 (G5 T2)
noncomputable def O8:ED:=M5 (W7 (J8 5 D0 (aa 0) (ag (aa 1) aNil))) (cp [none,some 1]) (gName 0) R1 (J8 2 K3 (aa 1) (ag (aa 0) aNil))
noncomputable def E1:Fun:=fn 3 2
 (D3 (N9 O8 (gName 2))
 (D3 (bF (E4 (aq fU (eK .non) (aa 2)))
 (G5 (eK .non))
 sPass)
 (G5 (aq U4 (eK (.int 1)) (oh (aa 2) (eK (.int 0)))))))
noncomputable def Q6:ED:=M5 (W7 (J8 0 N0 (H8 (H8 (aa 1) 6) 3) (ag (H8 (aa 0) 17) aNil))) (cp [none,some 0]) (gName 0) R1 (U3 (ag (H8 (aa 1) 17) (ag (aa 0) aNil)))
noncomputable def D4:Fun:=fn 2 2
 (G5 Q6)
noncomputable def bq:ED:=M5 (W7 (J8 5 D4 (aa 0) (ag (aa 1) aNil))) (cp [none]) (gName 0) R1 (U3 (ag (eK (.str "lay")) (ag (aa 0) aNil)))
noncomputable def K0:Fun:=fn 3 2
 (D3 (N9 (lA (E4 (J8 1 Q5 (H8 (aa 1) 6) (ag (H8 (aa 0) 17) aNil))) (eK (.int 1)) (J8 5 E1 (aa 0) (ag (aa 1) aNil))) (gName 2))
 (D3 (bF (E4 (aq dE (J8 2 ax (aa 1) aNil) (aa 2)))
 (G5 (bL aNil))
 sPass)
 (G5 bq)))
noncomputable def M7:ED:=M5 (W7 (aa 4)) (cp [none,some 1,some 3]) (gName 0) R1 (J8 2 D9 (aa 1) (ag (aa 0) (ag (aa 2) aNil)))
noncomputable def Q7:ED:=M5 (W7 (aa 4)) (cp [none,some 3]) (gName 0) R1 (U3 (ag (eK (.str "say")) (ag (aa 0) (ag (aa 1) aNil))))
noncomputable def G0:Fun:=fn 5 3
 (D3 (N9 (U3 (ag (H8 (aa 0) 17) aNil)) (gName 3))
 (D3 (N9 (J8 5 D0 (aa 0) (ag (aa 1) aNil)) (gName 4))
 (D3 (bF (tOr (E4 (aq dE (J8 2 ax (aa 1) aNil) (aa 2))) (E4 (oA M7)))
 (G5 (bL aNil))
 sPass)
 (G5 Q7))))
noncomputable def aY:SD:=
 (bF (tAnd (E4 (aq fR (aa 5) (J8 2 ax (aa 1) aNil))) (tAnd (E4 (aq cX (aq bW (aa 6) (eK (.int (-1)))) (aa 2))) (E4 (aq jT (H8 (aa 0) 17) (aa 6)))))
 (T4 (jY (aa 3) (U3 (ag (aa 5) (ag (aa 6) aNil)))))
 sPass)
noncomputable def L4:SD:=fc (W7 (J8 2 P1 (aa 1) (ag (aa 4) aNil))) (gTup 2 (gCons (gName 5) (gCons (gName 6) gNil))) aY
noncomputable def aZ:SD:=
 L4
noncomputable def L8:SD:=fc (W7 (J8 5 D4 (aa 0) (ag (aa 1) aNil))) (gName 4) aZ
noncomputable def E6:Fun:=fn 7 3
 (D3 (N9 (bL aNil) (gName 3))
 (D3 L8
 (G5 (aa 3))))
noncomputable def N7:ED:=M5 (W7 (aa 4)) (cp [none,none]) (gTup 2 (gCons (gName 0) (gCons (gName 1) gNil))) R1 (aa 0)
noncomputable def N8:ED:=M5 (W7 (aa 4)) (cp [none,none]) (gTup 2 (gCons (gName 0) (gCons (gName 1) gNil))) R1 (aa 1)
noncomputable def bc:ED:=M5 (W7 (J8 5 D0 (aa 0) (ag (aa 1) aNil))) (cp [none,some 1,some 6]) (gName 0) (tNot (E4 (J8 2 D9 (aa 1) (ag (aa 0) (ag (aa 2) aNil))))) (U3 (ag (eK (.str "say")) (ag (aa 0) (ag (aa 2) aNil))))
noncomputable def G4:Fun:=fn 7 4
 (D3 (N9 (J8 5 E6 (aa 0) (ag (aa 1) (ag (aa 2) aNil))) (gName 4))
 (D3 (bF (tOr (E4 (aq cX (aa 4) (bL aNil))) (E4 (aq dE (J8 2 ax (aa 1) aNil) (ou (aa 3) (aq U4 (eK (.int 1)) (oi N7))))))
 (G5 (bL aNil))
 sPass)
 (D3 (N9 (oE N8) (gName 5))
 (D3 (N9 (aq U4 (U3 (ag (H8 (aa 0) 17) aNil)) (aa 5)) (gName 6))
 (G5 bc)))))
noncomputable def bO:SD:=
 (bF (E4 (aq cX (aa 4) (H8 (aa 0) 17)))
 (T4 (lD (aa 3) (J8 5 G0 (aa 0) (ag (aa 1) (ag (aa 2) aNil)))))
 (T4 (lD (aa 3) (J8 5 G4 (aa 0) (ag (aa 1) (ag (aa 4) (ag (aa 2) aNil)))))))
noncomputable def V0:SD:=fc (W7 (H8 (H8 (aa 1) 6) 9)) (gName 4) bO
noncomputable def P2:Fun:=fn 5 2
 (D3 (N9 (J8 5 E1 (aa 0) (ag (aa 1) aNil)) (gName 2))
 (D3 (bF (E4 (hJ (aa 2)))
 (G5 (bL aNil))
 sPass)
 (D3 (N9 (bL aNil) (gName 3))
 (D3 V0
 (G5 (aa 3))))))
noncomputable def O3:Fun:=fn 2 2
 (G5 (aq U4 (J8 5 K0 (aa 0) (ag (aa 1) aNil)) (J8 5 P2 (aa 0) (ag (aa 1) aNil))))
noncomputable def K8:Fun:=fn 2 2
 (D3 (bF (E4 (aq fR (aa 1) (o8 (aa 0))))
 (G5 (aq bW (aa 0) (aa 1)))
 sPass)
 (G5 (eK (.int 0))))
noncomputable def Y2(rec:Fun):ED:=M5 (iRng1 (o8 (aa 1))) (cp [none,some 0,some 1]) (gName 0) R1 (aM rec (ag (aq bW (aa 1) (aa 0)) (ag (aq bW (aa 2) (aa 0)) aNil)))
noncomputable def C9(rec:Fun):Fun:=fn 2 2
 (D3 (bF (E4 (hJ (aa 1)))
 (G5 (hJ (aa 0)))
 sPass)
 (D3 (bF (E4 (j7 (aa 1) .bool))
 (G5 (j6 (j7 (aa 0) .bool) (aq cX (aa 0) (aa 1))))
 sPass)
 (D3 (bF (E4 (j7 (aa 1) .int))
 (G5 (j6 (j7 (aa 0) .int) (j6 (nQ (j7 (aa 0) .bool)) (aq cX (aa 0) (aa 1)))))
 sPass)
 (D3 (bF (E4 (lH (aa 1)))
 (G5 (j6 (lH (aa 0)) (aq cX (aa 0) (aa 1))))
 sPass)
 (D3 (bF (tOr (E4 (aq dE (j7 (aa 1) .tuple) (j7 (aa 0) .tuple))) (E4 (aq dE (j7 (aa 1) .list) (j7 (aa 0) .list))))
 (G5 (eK (.bl false)))
 sPass)
 (D3 (bF (E4 (aq dE (o8 (aa 0)) (o8 (aa 1))))
 (G5 (eK (.bl false)))
 sPass)
 (G5 (ia (Y2 rec)))))))))
noncomputable def Z3:Fun:=λ_=>stuck
noncomputable def r8:Fun:=C9 Z3
noncomputable def r9:Fun:=C9 r8
noncomputable def s8:Fun:=C9 r9
noncomputable def s9:Fun:=C9 s8
noncomputable def m6:Fun:=C9 s9
noncomputable def aK:Fun:=fn 3 2
 (D3 (N9 (aq dF (aq jS (aq U4 (aq U4 (aa 0) (aq jS (eK (.int 7919)) (aa 1))) (eK (.int 1))) (eK (.int 48271))) (eK (.int 2147483647))) (gName 2))
 (G5 (aq dF (aq jS (aa 2) (aq U4 (aq nL (aa 2) (eK (.int 1009))) (eK (.int 69621)))) (eK (.int 2147483647)))))
noncomputable def K9:Fun:=fn 2 2
 (D3 (ka [7,8,9,12,13,14,15,16] (T4 (u7 2 J9 (aa 0) (ag (aa 1) aNil))) [(7,none,(G5 (eK (.bl false))))])
 (G5 (eK (.bl true))))
noncomputable def qm:ED:=M5 (iRng1 (aa 2)) (cp [none,some 1]) (gName 0) R1 (U3 (ag (aM aK (ag (aa 1) (ag (aq U4 (eK (.int 20)) (aa 0)) aNil))) (ag (aa 0) aNil)))
noncomputable def qp:ED:=M5 (W7 (lB qm)) (cp [none,none]) (gTup 2 (gCons (gName 0) (gCons (gName 1) gNil))) R1 (aa 1)
noncomputable def qr:ED:=M5 (iRng1 (aa 2)) (cp [none,some 3]) (gName 0) R1 (U3 (ag (aq bW (aa 1) (aq jR (aa 0) (eK (.int 1)))) (ag (aq bW (aa 1) (aa 0)) aNil)))
noncomputable def qt:ED:=M5 (lC (aa 4)) (cp [none,none,some 1]) (gTup 2 (gCons (gName 0) (gCons (gName 1) gNil))) R1 (U3 (ag (aa 1) (ag (aq U4 (eK (.int 6)) (aq dF (aM aK (ag (aa 2) (ag (aq U4 (eK (.int 60)) (aa 0)) aNil))) (eK (.int 4)))) aNil)))
noncomputable def qu:ED:=M5 (iRng1 (aa 2)) (cp [none,some 6]) (gName 0) (E4 (aq dE (aa 0) (aa 1))) (aa 0)
noncomputable def qv:ED:=M5 (W7 (aa 4)) (cp [none,some 15,some 8]) (gName 0) (tAnd (E4 (aq cX (aa 1) (eK (.int 1)))) (E4 (aq dE (aa 0) (aa 2)))) (U3 (ag (eK (.str "lay")) (ag (aa 0) aNil)))
noncomputable def eD:SD:=
 (bF (tNot (E4 (aM K9 (ag (aa 12) (ag (aa 18) aNil)))))
 (G5 (eK (.bl false)))
 sPass)
noncomputable def mP:SD:=fc (W7 (aq U4 (aa 16) qv)) (gName 18) eD
noncomputable def qw:SD:=
 (D3 (N9 (J8 5 O3 (aa 14) (ag (aa 12) aNil)) (gName 16))
 (D3 (N9 (aq bW (bL (ag (bL aNil) (ag (bL (ag (U3 (ag (eK (.str "lay")) (ag (aa 8) aNil))) aNil)) aNil))) (oz (aq cX (aa 15) (eK (.int 2))))) (gName 17))
 (D3 (bF (tAnd (E4 (lz (aa 13))) (tAnd (E4 (aq cX (aa 15) (aq U4 (aa 13) (eK (.int 1))))) (E4 (aq iM (aa 15) (aq U4 (aq U4 (ib (aa 10) (aa 7)) (o8 (aa 9))) (eK (.int 1)))))))
 (N9 (aq U4 (aa 17) (bL (ag (U3 (ag (eK (.str "say")) (ag (aa 7) (ag (aq U4 (U3 (ag (aa 6) aNil)) (aa 9)) aNil)))) aNil))) (gName 17))
 sPass)
 (D3 (bF (tNot (E4 (aM m6 (ag (aa 16) (ag (aa 17) aNil)))))
 (G5 (eK (.bl false)))
 sPass)
 (D3 mP
 (D3 (bF (E4 (aq cX (aq dF (aM aK (ag (aM K8 (ag (aa 0) (ag (aa 15) aNil))) (ag (eK (.int 5)) aNil))) (aq bW (bL (ag (eK (.int 2)) (ag (eK (.int 9)) aNil))) (aq dF (aM aK (ag (aa 1) (ag (eK (.int 6)) aNil))) (eK (.int 2))))) (eK (.int 0))))
 (D3 (N9 (aM K9 (ag (aa 12) (ag (U3 (ag (eK (.str "say")) (ag (aa 8) (ag (aa 9) aNil)))) aNil))) (gName 19))
 (D3 (bF (E4 (aq dE (aa 19) (jj fR iM (eK (.int 2)) (aa 15) (aq U4 (ib (aa 10) (aa 8)) (o8 (aa 9))))))
 (G5 (eK (.bl false)))
 sPass)
 (bF (tAnd (E4 (aa 19)) (E4 (hJ (aa 13))))
 (N9 (aa 15) (gName 13))
 sPass)))
 sPass)
 (T4 (J8 2 K7 (aa 12) aNil))))))))
noncomputable def vr:SD:=fc (iRng2 (eK (.int 1)) (eK (.int 17))) (gName 15) qw
noncomputable def mQ:Fun:=fn 20 1
 (D3 (N9 (aM K8 (ag (aa 0) (ag (eK (.int 0)) aNil))) (gName 1))
 (D3 (N9 (aq U4 (eK (.int 3)) (aq dF (aM aK (ag (aa 1) (ag (eK (.int 0)) aNil))) (eK (.int 4)))) (gName 2))
 (D3 (N9 qp (gName 3))
 (D3 (N9 qr (gName 4))
 (D3 (N9 (aq U4 (eK (.int 1)) (aq dF (aM aK (ag (aa 1) (ag (eK (.int 1)) aNil))) (aq jR (aa 2) (eK (.int 1))))) (gName 5))
 (D3 (N9 (aq bW (aa 3) (aa 5)) (gName 6))
 (D3 (N9 (U3 (ag (aq bW (aa 3) (aq jR (aa 5) (eK (.int 1)))) (ag (aa 6) aNil))) (gName 7))
 (D3 (N9 (U3 (ag (aa 6) (ag (aq bW (aa 3) (aq dF (aq U4 (aa 5) (eK (.int 1))) (aa 2))) aNil))) (gName 8))
 (D3 (N9 (aq oq (l4 (hW (aa 3) (hV (aq U4 (aa 5) (eK (.int 1)))) hU)) (U3 (ag (aq bW (aa 3) (eK (.int 0))) aNil))) (gName 9))
 (D3 (N9 (oB qt) (gName 10))
 (D3 (N9 qu (gName 11))
 (D3 (N9 (hZ 2 N6 (ag (hZ 1 P9 (ag (hZ 0 Q0 (ag (aa 2) (ag (aa 4) aNil))) (ag (bL (ag (aq bW (aa 3) (eK (.int 0))) aNil)) (ag (aa 10) aNil)))) (ag (aa 11) aNil))) (gName 12))
 (D3 (N9 (eK .non) (gName 13))
 (D3 (N9 (hZ 5 aU (ag (aa 6) aNil)) (gName 14))
 (D3 vr
 (G5 (eK (.bl true))))))))))))))))))
@[simp] theorem Ik(i:Int)(A:PHp):N5 [.int i] A=.ok (.bl true) A:=by simp[N5]
theorem bY(n h:Int)(A:PHp):L0 [.int n,.int h] A=.ok (.bl (decide (0<=h/\h<n))) A:=by
 by_cases a:0<=h<;>simp[L0,a]
theorem EW(n:Int)(A:PHp):G8 [.int n] A=.ok (.bl (decide (2<=n/\n<=6))) A:=by
 by_cases a:2<=n<;>simp[G8,a]
def good(n:Int)(p:Int×Int):Prop:=(0<=p.1/\p.1<n)/\(0<=p.2/\p.2<n)/\p.1≠p.2
instance (n:Int) (p:Int×Int):Decidable (good n p):=by unfold good;infer_instance
theorem t4(n:Int)(p:Int×Int)(A:PHp):N3 [.int n,pv p] A=.ok (.bl (decide (good n p))) A:=by
 by_cases a:0<=p.1/\p.1<n<;>by_cases b:0<=p.2/\p.2<n<;>simp[N3,pv,good,atI,ixN,bI,bY,a,b]
structure S0(n:Int)(ps:List (Int×Int)):Prop where
 lo:2<=n
 hi:n<=6
 good:∀p∈ps,good n p
 nd:ps.Nodup
 len:ps.length<64
theorem EX{b:Type}(a:List b)(i:Nat):ek a none (some (i:Int))=a.take i:=by
 unfold ek Z8;simp only[List.drop_zero,Nat.sub_zero];rw[if_neg (by simp)];rw[List.take_eq_take_iff];omega
theorem EY{n:Int}{ps:List (Int×Int)}(W:S0 n ps){A:PHp}{r:Nat}(m:A[r]?=some (.lst (aX ps))) :
 ∃A',G3 [.int n,.ref r] A=.ok .non A'/\A<+:A':=by
 have o:Comes (R8 [some (.int n),some (.ref r),none,none] A) (λσ A'=>A<+:A') (λ_ _=>False):=by
  refine(zT (l:=aX ps) (a:=r) (by simp_all) (λi σ A'=>A<+:A'/\∃x y,σ=[some _,some _,x,y]) _ ⟨Jk _,_,_,rfl⟩ ?_ ?_).mono (λ_ _ h=>h.1) (λ_ _ h=>h)
  .rintro i σ A' ⟨f,_⟩;simp[ai f m]
  .rintro i v σ A' q ⟨f,x,y,rfl⟩;have g:=ai f m;obtain⟨p,b,rfl⟩:∃p,ps[i]?=some p/\v=pv p:=by
    simp only[aX,Jc]at q;cases e:ps[i]? with
    | none=>simp_all
    | some p=>simp_all
   have c:=Ja b;have s:=W.good p c;have d:p∉ps.take i:=by
    intro u;have k:=(IG.mp b).1;obtain⟨j,w,e⟩:=Ke.mp u;rw[JI]at w;rw[NI]at e;have z:ps[i]=p:=(IG.mp b).2;exact JT.mp W.nd j i _ k (by omega) (e.trans z.symm)
   have B:ek (aX ps) none (some (i:Int))=aX (ps.take i):=by rw[EX];simp[aX]
   refine en.nx (σ:=[some _,some _,some (.int i),some (pv p)]) (A:=A'++[.lst (aX (ps.take i))]) ?_ ⟨Q4 f,_,_,rfl⟩;simp[R7,t4,s,g,B,EA,vm,vn,d]
 obtain⟨σ,A',e,h⟩:=o.end;refine⟨A',?_,h⟩;simp[G3,e]
noncomputable def l2(p:Int×Int):List Int:=[p.1,p.2]
noncomputable def jH(p q:Int×Int):Bool:=lexLt (l2 p) (l2 q)
noncomputable def srt(ps:List (Int×Int)):List (Int×Int):=aG jH ps
theorem vt{c d:Type}(f:c->d)(lt:d->d->Bool)(a:c):∀l:List c,r6 lt (f a) (l.map f)=(r6 (λx y=>lt (f x) (f y)) a l).map f
 | []=>rfl
 | b::r=>by
   have ih:=vt f lt a r;simp only[Jb,r6];split
   .simp_all
   .rfl
theorem vu{c b:Type}(f:c->b)(lt:b->b->Bool):∀l:List c,aG lt (l.map f)=(aG (λx y=>lt (f x) (f y)) l).map f
 | []=>rfl
 | a::r=>by
   simp only[Jb,aG];rw[vu f lt r,vt]
theorem vv(ps:List (Int×Int)):aX ps=(ps.map l2).map λt=>PV.tup (t.map .int):=by
 simp[aX,pv,l2]
theorem EZ{ps:List (Int×Int)}{A:PHp}(h:ps.length<64):jX (aX ps) A=.ok (aX (srt ps)) A:=by
 rw[vv,sF (by simp_all) (by intro t a;obtain⟨p,_,rfl⟩:=IC.mp a;simp[l2]),vu,vv];rfl
theorem L9(ps:List (Int×Int)):(srt ps).Perm ps:=N1 _ _
structure bG(A:PHp)(w r:Nat)(n:Int)(ps:List (Int×Int)):Prop where
 ob:A[w]?=some (.ins 0 [(0,.int n),(1,.ref r)])
 ls:A[r]?=some (.lst (aX (srt ps)))
theorem bG.mono{A B:PHp}{w r:Nat}{n:Int}{ps:List (Int×Int)}(h:bG A w r n ps)(e:A<+:B):bG B w r n ps:=⟨ai e h.ob,ai e h.ls⟩
theorem E2{n:Int}{ps:List (Int×Int)}(W:S0 n ps){A B:PHp}{w q:Nat}(p:A<+:B)(l:A.length<=w)(c:B[w]?=some (.ins 0 []))(d:B[q]?=some (.lst (aX ps))) :
 ∃e r,Q0 [.ref w,.int n,.ref q] B=.ok .non e/\A<+:e/\bG e w r n ps/\w<r:=by
 obtain⟨m,s,f⟩:=EY W d;have a:=ai f c;have g:=ai f d;have h:=E5 a;have i:q≠w:=by rintro rfl;rw[d]at c;cases c
 have j:(m.set w (.ins 0 [(0,.int n)]))[q]?=some (.lst (aX ps)):=by rw[G2 i];exact g
 have k:(m.set w _)[w]?=some (.ins 0 [(0,.int n)]):=aT a;have b:=az (o:=PO.lst (aX (srt ps))) k;refine⟨(_++[PO.lst _]).set w _,_,?_,?_,⟨aT b,?_⟩,h⟩
 .simp[Q0,EW,W.lo,W.hi,s,a,j,b,EZ W.len]
 .exact Y6 (Q4 (Y6 (p.trans f) l)) l
 .simp_all
theorem Fb{n:Int}{ps:List (Int×Int)}(W:S0 n ps){A:PHp}{q:Nat}(b:A[q]?=some (.lst (aX ps))) :
 ∃a r,Q0 [.ref A.length,.int n,.ref q] (A++[.ins 0 []])=.ok .non a/\A<+:a/\bG a A.length r n ps/\A.length<r:=
 E2 W (Iu _ _) (Iw _) aj (az b)
noncomputable def m7(ps:List (Int×Int))(h:Int):List Int:=(ps.filter λp=>decide (p.2=h)).map (·.1)
noncomputable def m8(ps:List (Int×Int))(h:Int):List Int:=(ps.filter λp=>decide (p.1=h)).map (·.2)
theorem Fc(ps:List (Int×Int))(h:Int):((aX ps).filter λv=>decide (g9 v=h)).map (λv=>PV.int (g8 v))=(m7 ps h).map .int:=by
 simp only[aX,m7,LC,IT];rfl
theorem Fd(ps:List (Int×Int))(h:Int):((aX ps).filter λv=>decide (g8 v=h)).map (λv=>PV.int (g9 v))=(m8 ps h).map .int:=by
 simp only[aX,m8,LC,IT];rfl
theorem mR{b:Type}{a:List b}{j:Nat}(h:j<a.length):atI a (j:Int)=some a[j]:=by
 unfold atI ixN;simp[h]
theorem qx{b:Type}(a:List b)(i:Nat):ek a (some (i:Int)) none=a.drop i:=by
 unfold ek Z8;simp only;rw[if_neg (by simp)];rw[show(min (i:Int) _).toNat=min i a.length by omega];by_cases h:i<=a.length
 .rw[Nat.min_eq_left h,KO (by simp)]
 .rw[Nat.min_eq_right (by omega),List.drop_length,KN (by omega)];simp
theorem vw(p q:Int×Int):jH p q=true↔p.1<q.1\/(p.1=q.1/\p.2<q.2):=by
 unfold jH l2 lexLt lexLt;by_cases h:p.1=q.1
 .by_cases a:p.2=q.2<;>simp[h,a,lexLt]
 .simp[h]
theorem qy(p q:Int×Int):jH p q=false↔¬(p.1<q.1\/(p.1=q.1/\p.2<q.2)):=by
 rw[<-vw];simp
theorem vz(ps:List (Int×Int)):(srt ps).Pairwise (λp q=>jH q p=false):=by
 refine V1 ?_ ?_ ps
 .intro a b h;rw[vw]at h;rw[qy];omega
 .intro a b c d e;rw[qy]at *;omega
noncomputable def c8(N:Nat):List Int:=(Jj N).map λ(k:Nat)=>(k:Int)
theorem mem_hands{N:Nat}{x:Int}:x∈c8 N↔0<=x/\x<N:=by
 unfold c8;rw[IC];constructor
 .grind
 .rintro⟨a,b⟩;exact⟨x.toNat,JO.mpr (by omega),by omega⟩
theorem br(N:Nat):(c8 N).length=N:=by simp[c8]
theorem Fe(N:Nat):(c8 N).Pairwise (·< ·):=by
 unfold c8;rw[ND];exact List.pairwise_lt_range.imp λh=>by omega
theorem Ff(N:Nat):(c8 N).Nodup:=(Fe N).imp λh z=>by omega
section
variable{A:PHp}{Q:PV->PHp->Prop}{E:XP}{σ:PSt}{i j:Int}{n k:Nat}{e e1 e2 e3 e4:ED}
noncomputable def vA(d:PV):List Int->PV
 | []=>d
 | i::r=>.int (ff i r)
theorem Fg(h:Wp (e1 σ) A (λx b=>Wp (e2 σ) b (λd a=>∃(n:Nat)(ns:List Int),x=.ref n/\a[n]?=some (.lst (ns.map .int))/\Q (vA d ns) a) E) E):Wp (oh e1 e2 σ) A Q E:=
 C3 (ae h λx b c=>C3 (ae c λd a f=>by
  obtain⟨n,ns,g,l,q⟩:=f;subst g;refine C3 (T8 l ?_);rw[S8];cases ns with
  | nil=>exact q
  | cons i r=>exact q))
abbrev DT:=List (List Int×PV)
variable{m:DT}
theorem t5{a:DT->PHp->Prop}(h:A[n]?=some (.dT m))(q:a m A):Wp (X0 n) A a E:=w_eq (by unfold X0;rw[h]) q
theorem Fh(q:Q (.ref A.length) (A++[.dT []])):Wp (eTNew σ) A Q E:=q
theorem Fi(h:Wp (e1 σ) A (λk b=>Wp (e2 σ) b (λx a=>∃n i m,x=.ref n/\R3 k=some i/\a[n]?=some (.dT m)/\Q (.bl (M3 m i).isSome) a) E) E):Wp (iN e1 e2 σ) A Q E:=
 C3 (ae h λk b c=>C3 (ae c λx a ⟨n,i,m,d,f,g,q⟩=>by subst d;rw[f];exact C3 (t5 g q)))
theorem Fj(h:Wp (e1 σ) A (λx b=>Wp (e2 σ) b (λk a=>∃n i m v,x=.ref n/\R3 k=some i/\a[n]?=some (.dT m)/\M3 m i=some v/\Q v a) E) E):Wp (ib e1 e2 σ) A Q E:=
 C3 (ae h λx b c=>C3 (ae c λk a ⟨n,i,m,v,d,f,g,l,q⟩=>by subst d;rw[f];exact C3 (t5 g (by rw[l];exact q))))
theorem Fk(h:Wp (e1 σ) A (λx a=>∃n c,x=.ref n/\a[n]?=some (.dT c)/\Wp (e2 σ) a (λk b=>∃i m,R3 k=some i/\b[n]?=some (.dT m)/\Q ((M3 m i).getD .non) b) E) E):Wp (lG e1 e2 σ) A Q E:=
 C3 (ae h λx a d=>by
  obtain⟨n,c,f,g,l⟩:=d;subst f;exact C3 (t5 g (C3 (ae l λk b ⟨i,m,o,p,q⟩=>by rw[o];exact C3 (t5 p q)))))
theorem fg(h:Wp (e1 σ) A (λx a=>∃n c,x=.ref n/\a[n]?=some (.dT c)/\Wp (e2 σ) a (λk d=>Wp (e3 σ) d (λv b=>∃i m,R3 k=some i/\b[n]?=some (.dT m)/\Q ((M3 m i).getD v) b) E) E) E):Wp (ow e1 e2 e3 σ) A Q E:=
 C3 (ae h λx a f=>by
  obtain⟨n,c,g,l,o⟩:=f;subst g;exact C3 (t5 l (C3 (ae o λk d p=>C3 (ae p λv b ⟨i,m,r,s,q⟩=>by rw[r];exact C3 (t5 s q))))))
theorem Fm{QF:Fl->PHp->Prop}(h:Wp (e3 σ) A (λv b=>Wp (e1 σ) b (λx c=>Wp (e2 σ) c (λk a=>∃n i m,x=.ref n/\R3 k=some i/\a[n]?=some (.dT m)/\m.length<LIM/\QF (.nx σ) (a.set n (.dT (Z2 m i v)))) E) E) E):Wp (kb e1 e2 e3 σ) A QF E:=
 C3 (ae h λv b d=>C3 (ae d λx c f=>C3 (ae f λk a g=>by
  obtain⟨n,i,m,l,o,p,r,q⟩:=g;subst l;rw[o];exact C3 (t5 p (D2 r (C3 (w_eq rfl q)))))))
theorem Fn(h:Wp (e σ) A (λx a=>∃n m,x=.ref n/\a[n]?=some (.dT m)/\((m.map (·.1)).Nodup/\∀p∈m,p.1∈small)/\Q (.ref a.length) (a++[.dT m])) E):Wp (oy e σ) A Q E:=
 C3 (ae h λx a ⟨n,m,b,c,d,q⟩=>by subst b;exact C3 (t5 c (D2 d q)))
theorem Fo{x y:Oq}(q:Q (.bl (decide (x=y))) A):Wp (cX (.str x) (.str y)) A Q E:=DM rfl rfl q
theorem Fp{x y:Oq}(q:Q (.bl (!decide (x=y))) A):Wp (dE (.str x) (.str y)) A Q E:=vg rfl rfl q
theorem Fq(h:Wp (e σ) A (λx a=>∃b:Bool,x=.bl b/\Q (.int (if b then 1 else 0)) a) E):Wp (oz e σ) A Q E:=C3 (ae h λx a ⟨b,c,q⟩=>by subst c;exact q)
theorem Fs(h:Wp (e σ) A (λx a=>Wp (kc x) a (λb c=>Q (.bl b) c) E) E):Wp (lH e σ) A Q E:=C3 (ae h λ_ _ d=>C3 d)
theorem vB(h:Wp (e σ) A (λx a=>∃n l b,x=.ref n/\a[n]?=some (.lst l)/\jX l a=.ok b a/\Q (.ref a.length) (a++[.lst b])) E):Wp (lB e σ) A Q E:=C3 (ae h λx a ⟨n,l,b,c,d,f,q⟩=>by subst c;exact C3 (T8 d (C3 (w_eq f q))))
end
theorem kK{m:DT}{i:List Int}{v:PV}(h:i∉m.map (·.1)):Z2 m i v=m++[(i,v)]:=by
 unfold Z2;rw[if_neg];rw[List.any_eq_true];rintro⟨p,a,hd⟩;exact h (IC.mpr ⟨p,a,by simpa using hd⟩)
theorem Ft{m:DT}{i:List Int}{v:PV}(b:(m.map (·.1)).Nodup)(h:(i,v)∈m):M3 m i=some v:=by
 induction m with
 | nil=>cases h
 | cons p r ih=>
   unfold M3;rcases IF.mp h with z | z
   .rw[<-z,if_pos rfl]
   .have a:=JQ.mp b;have:p.1≠i:=λe=>a.1 (IC.mpr ⟨_,z,e.symm⟩);rw[if_neg this];exact ih a.2 z
section
variable{α:Type}{m:M α}{A:PHp}{E:XP}{σ:PSt}
theorem kL{Q:α->PHp->Prop}(h:Wp m A Q NoX):Wp (eu m) A Q E:=by
 obtain⟨a,b,e,q⟩:=mK h;exact w_eq (zY e) q
theorem mS{s:SD}{Q:Fl->PHp->Prop}(h:Wp (s σ) A Q NoX):Wp (fj s σ) A Q E:=kL h
theorem Fu{t:TD}{Q:Bool->PHp->Prop}(h:Wp (t σ) A Q NoX):Wp (gB t σ) A Q E:=kL h
theorem Fv{c:Nat}{e:ED}{Q:Fl->PHp->Prop}(h:Wp (e σ) A (λv a=>E c v a) NoX):Wp (l5 c (ag e aNil) σ) A Q E:=by
 refine C3 (kL (ve (ae h λv a b=>vd ?_)));exact b
end
section
variable{A:PHp}{E:XP}{n:Nat}{l:List PV}{m:DT}
theorem fZ{a:Bool->PHp->Prop}{x:PV}{b:Bool}(h:kc x A=.ok b A)(q:a b A):Wp (kc x) A a E:=w_eq h q
theorem gb{a:Bool->PHp->Prop}(h:A[n]?=some (.lst l))(q:a false A):Wp (kc (.ref n)) A a E:=C3 (Z0 h q)
theorem gL{a:Bool->PHp->Prop}(h:A[n]?=some (.lst l))(q:a false A):Wp (hY .int (.ref n)) A a E:=C3 (Z0 h q)
theorem gM{a:Bool->PHp->Prop}(h:A[n]?=some (.lst l))(q:a false A):Wp (hY .bool (.ref n)) A a E:=C3 (Z0 h q)
theorem gN{a:Bool->PHp->Prop}(h:A[n]?=some (.lst l))(q:a false A):Wp (hY .tuple (.ref n)) A a E:=C3 (Z0 h q)
theorem qz{R:Nat->DT->Prop}(h:A[n]?=some (.dT m))(q:R n m):∃a b,PV.ref n=.ref a/\A[a]?=some (.dT b)/\R a b:=⟨n,m,rfl,h,q⟩
theorem qA{k:PV}{i:List Int}{R:List Int->DT->Prop}(c:R3 k=some i)(h:A[n]?=some (.dT m))(q:R i m):∃a b,R3 k=some a/\A[n]?=some (.dT b)/\R a b:=⟨i,m,c,h,q⟩
theorem qB{k:PV}{i:List Int}{R:Nat->List Int->DT->Prop}(d:R3 k=some i)(h:A[n]?=some (.dT m))(q:R n i m):∃a b c,PV.ref n=.ref a/\R3 k=some b/\A[a]?=some (.dT c)/\R a b c:=⟨n,i,m,rfl,d,h,q⟩
theorem qC{k:PV}{i:List Int}{v:PV}{R:PV->Prop}(e:R3 k=some i)(h:A[n]?=some (.dT m))(f:M3 m i=some v)(q:R v):∃a b c d,PV.ref n=.ref a/\R3 k=some b/\A[a]?=some (.dT c)/\M3 c b=some d/\R d:=⟨n,i,m,v,rfl,e,h,f,q⟩
theorem gc{o:PO}{k:Nat}(h:A.length=k):(A++[o])[k]?=some o:=by subst h;exact aj
theorem Fw{c:Bool}{P R:Prop}(h:c=false)(q:R):(c=true->P)/\(c=false->R):=⟨λz=>(by simp_all),λ_=>q⟩
theorem Fx{c:Bool}{P R:Prop}(h:c=true)(q:P):(c=true->P)/\(c=false->R):=by simp_all
end
section
variable{A:PHp}{E:XP}{σ:PSt}{Q:PV->PHp->Prop}{QF:Fl->PHp->Prop}{g:GD}{s b:SD}{es:AD}{e:ED}
theorem Fy{d:List Nat}{hs:List Hd}(h:Wp (b σ) A QF (λc v a=>c∈d/\Wp (f6 hs c v σ) a QF E)):Wp (ka d b hs σ) A QF E:=by
 unfold Wp at h ⊢;unfold ka;cases e:b σ A with
 | ok f a=>simp_all
 | ex c v a=>
   rw[e]at h;dsimp only at h ⊢;rw[Q3 h.1];exact h.2
 | no=>simp_all
theorem FA{c k:Nat}{v:PV}{r:List Hd}(hs:gC c k=true)(h:Wp (b σ) A QF E):Wp (f6 ((k,none,b)::r) c v σ) A QF E:=by
 unfold f6;rw[if_pos hs];exact h
theorem FC{c:Nat}{f:Fun}(h:Wp (e σ) A (λx d=>∃n fs,x=.ref n/\d[n]?=some (.ins c fs)/\Wp (es σ) d (λi j=>Wp (f (.ref n::i)) j Q E) NoX) NoX):Wp (u7 c f e es σ) A Q E:=
 C3 (kL (ae h λx d k=>by
  obtain⟨n,fs,l,o,m⟩:=k;subst l;exact C3 (w_eq (a:=(c,fs)) (by simp_all) (D2 rfl (C3 (kL m))))))
end
end Ws
local macro_rules | `(tactic| walk_at "s1")=>`(tactic| first
 | with_reducible first
   | refine Ws.w_makeX ?_
   | refine Ws.w_callX ?_
   | refine Ws.FC ?_
   | refine Ws.w_at ?_
   | refine Ws.w_isE ?_
   | refine Ws.w_isV ?_)
local macro_rules | `(tactic| walk_at "s3")=>`(tactic| ((with_reducible apply Ws.exX);(·walk_at "st");(·decide)))
local macro_rules | `(tactic| walk_at "s1")=>`(tactic| first
 | with_reducible first
   | refine Ws.Fs ?_
   | refine Ws.Fj ?_
   | refine Ws.Fk ?_
   | refine Ws.fg ?_
   | refine Ws.Fm ?_
   | refine Ws.Fi ?_
   | refine Ws.w_lenT ?_
   | refine Ws.Fn ?_
   | refine Ws.w_tclear ?_
   | refine Ws.w_tvals ?_
   | refine Ws.w_tpop2 ?_
   | refine Ws.Fq ?_
   | refine Ws.w_revL ?_
   | refine Ws.vB ?_
   | refine Ws.w_max ?_
   | refine Ws.Fg ?_
   | refine Ws.mS ?_
   | refine Ws.Fu ?_
   | refine Ws.w_iNoX ?_
   | refine Ws.w_gNoX ?_
   | refine Ws.Fv ?_)
local macro_rules | `(tactic| walk_at "s2")=>`(tactic| first
 | with_reducible first
   | refine Ws.w_andB ?_
   | refine Ws.Fh ?_
   | refine Ws.Fo ?_
   | refine Ws.Fp ?_
 | ((with_reducible apply Ws.gb);(·walk_at "st"))
 | ((with_reducible apply Ws.fZ);(·rfl))
 | ((with_reducible apply Ws.gL);(·walk_at "st"))
 | ((with_reducible apply Ws.gM);(·walk_at "st"))
 | ((with_reducible apply Ws.gN);(·walk_at "st")))
local macro_rules | `(tactic| walk_at "s3")=>`(tactic| first
 | ((with_reducible apply Ws.qz);(·walk_at "st"))
 | ((with_reducible apply Ws.qA);(·rfl);(·walk_at "st"))
 | ((with_reducible apply Ws.qB);(·rfl);(·walk_at "st"))
 | ((with_reducible apply Ws.qC);(·rfl);(·walk_at "st");(·first | assumption | rfl)))
local macro_rules | `(tactic| walk_at "pre")=>`(tactic| first
 | assumption
 | exact Jk _
 | (refine Ws.Q4 ?_;walk_at "pre")
 | ((refine Ws.Y6 ?pp ?nn);(case nn=>walk_at "ne");(case pp=>walk_at "pre"))
 | (refine List.IsPrefix.trans (by assumption) ?_;walk_at "pre"))
local macro_rules | `(tactic| walk_at "s3")=>`(tactic| ((with_reducible refine And.intro (a:=List.IsPrefix _ _) ?h1 ?_);(case h1=>walk_at "pre")))
local macro_rules | `(tactic| walk_at "s3")=>`(tactic| ((with_reducible refine And.intro (a:=_<900) ?h1 ?_);(case h1=>((simp only[IM,JS,Ws.putFld,Nat.reduceEqDiff,if_false]);(try omega)))))
local macro_rules | `(tactic| walk_at "ne")=>`(tactic| first
 | assumption
 | omega
 | ((simp only[Mp,IU,IM,JS]);omega))
local macro_rules | `(tactic| walk_at "st")=>`(tactic| first
 | ((with_reducible refine Ws.gc ?_);(first | rfl | ((simp only[Mp,IU,IM,JS]);done) | ((simp only[Mp,IU,IM,JS]);omega)))
 | ((with_reducible apply Ws.aT);walk_at "st")
 | ((with_reducible apply Ws.az);walk_at "st")
 | ((refine(Ws.G2 ?ne).trans ?_);(case ne=>walk_at "ne");walk_at "st"))
local macro_rules | `(tactic| walk_at "br")=>`(tactic| first
 | ((with_reducible refine Ws.Fw ?_ ?_);(·first | rfl | (simp;done) | decide))
 | ((with_reducible refine Ws.Fx ?_ ?_);(·first | rfl | (simp;done) | decide)))
local macro_rules | `(tactic| walk_at "gb")=>`(tactic| repeat (first | walk_at "s" | walk_at "br"))
namespace Ws
section
variable{A:PHp}{Q:PV->PHp->Prop}{E:XP}{σ:PSt}{e e1 e2 e3:ED}
theorem w_any(h:Wp (e σ) A (λx a=>∃n bs,x=.ref n/\a[n]?=some (.lst (OW .bl bs))/\Q (.bl (bs.any id)) a) E):Wp (oA e σ) A Q E:=
 C3 (ae h λx a b=>by
  obtain⟨n,bs,c,d,q⟩:=b;subst c;refine C3 (T8 d ?_);rw[qb];exact q)
theorem dS(h:Wp (e1 σ) A (λx c=>∃n g,x=.ref n/\c[n]?=some (.dT g)/\Wp (e2 σ) c (λk j=>Wp (e3 σ) j (λv b=>∃i m,R3 k=some i/\b[n]?=some (.dT m)/\
 (∀w,M3 m i=some w->Q w b)/\(M3 m i=none->m.length<LIM/\Q v (b.set n (.dT (Z2 m i v))))) E) E) E):Wp (jl e1 e2 e3 σ) A Q E:=
 C3 (ae h λx c d=>by
  obtain⟨n,g,o,p,q⟩:=d;subst o;refine C3 (t5 p (C3 (ae q λk j r=>C3 (ae r λv b d=>?_))));obtain⟨i,m,s,u,y,l⟩:=d;rw[s];refine C3 (t5 u ?_);cases f:M3 m i with
  | some w=>exact y w f
  | none=>exact D2 (l f).1 (C3 (w_eq (a:=()) rfl (l f).2)))
theorem fB(h:Wp (e σ) A (λx a=>∃n l m,x=.ref n/\a[n]?=some (.lst l)/\gp l=some m/\m.length<LIM/\Q (.ref a.length) (a++[.dT (m.foldl (λb p=>Z2 b p.1 p.2) [])])) E):Wp (oB e σ) A Q E:=
 C3 (ae h λx a c=>by
  obtain⟨n,l,m,d,f,g,i,q⟩:=c;subst d;refine C3 (Z0 f ?_);rw[g];exact D2 i q)
end
end Ws
local macro_rules | `(tactic| walk_at "s1")=>`(tactic| first
 | with_reducible refine Ws.w_any ?_
 | with_reducible refine Ws.dS ?_
 | with_reducible refine Ws.fB ?_)
namespace Ws
section
theorem FD{a d:Type}(f:a->d)(b:List a)(lo c:Option Int):ek (b.map f) lo c=(ek b lo c).map f:=by
 unfold ek;rw[Iq,List.map_take,NR]
end
noncomputable def kM:List Int->Bool
 | a::b::r=>decide (a<b)&&kM (b::r)
 | _=>true
noncomputable def w4(n:Int)(L:List Int):Bool:=!decide (L=[])&&(L.all λh=>decide (0<=h/\h<n))&&kM L
theorem vC:∀L:List Int,(((i8 (L.map .int) ((L.drop 1).map .int)).map λv=>decide (g8 v<g9 v)).all id)=kM L
 | []=>rfl
 | [a]=>rfl
 | a::b::r=>by
   have ih:=vC (b::r);rw[kM,<-ih];rfl
theorem FE{L M:List Int}{v:PV}(h:v∈i8 (L.map .int) (M.map .int)):∃a b:Int,v=.tup [.int a,.int b]:=by
 induction L generalizing M with
 | nil=>cases h
 | cons a r ih=>
   cases M with
   | nil=>cases h
   | cons b s=>
     rcases IF.mp h with z | z
     .exact⟨a,b,z⟩
     .exact ih z
theorem dU{A:PHp}{l:Nat}{L:List Int}(f:A[l]?=some (.lst (L.map .int)))(j:L.length<=1000):Wp (V7 [.ref l]) A (λv A'=>A<+:A'/\v=.bl (kM L)) NoX:=by
 walk_at "fn";walk_at "go";refine N2 (l:=i8 (L.map .int) ((L.drop 1).map .int)) (λe=>∃x y,e=[x,y]) (λ_=>true) (λv=>.bl (decide (g8 v<g9 v))) ?_;walk_at "go";have g:ek (L.map PV.int) (some 1) none=(L.drop 1).map .int:=by rw[FD];exact congrArg _ (qx L 1)
 rw[g];have d:(A++[PO.lst ((L.drop 1).map .int)])[l]?=some _:=az f;have c:=vl (L.map .int) ((L.drop 1).map .int);rw[Iq]at c;walk_at "go";refine⟨L.length,?_,c,aE (by omega),⟨_,_,rfl⟩,λi=>Ey d aj i,?_,?_⟩
 .simp_all
 .rintro v e h ⟨x,y,rfl⟩;obtain⟨a,b,rfl⟩:=FE h;walk_at "go";refine⟨rfl,⟨_,_,rfl⟩,?_⟩;walk_at "go";refine⟨rfl,rfl,λ_=>?_⟩;walk_at "go";exact⟨rfl,rfl⟩
 .refine⟨_,(i8 (L.map .int) ((L.drop 1).map .int)).map λv=>decide (g8 v<g9 v),rfl,?_,?_⟩
  .rw[aj,Jd.mpr (by simp),IT];rfl
  .rw[vC];exact⟨Q4 (Iu _ _),rfl⟩
theorem dm{A:PHp}{w r l:Nat}{n:Int}{ps:List (Int×Int)}(W:bG A w r n ps){L:List Int}(f:A[l]?=some (.lst (L.map .int)))(g:L.length<=1000):Wp (R9 [.ref w,.ref l]) A (λv A'=>A<+:A'/\v=.bl (w4 n L)) NoX:=by
 walk_at "fn";walk_at "gb";refine⟨λc=>?_,λc=>?_⟩
 .walk_at "go";have:=of_decide_eq_true c;simp[w4,this]
 have d:=of_decide_eq_false c;walk_at "go";have j:=W.mono (Iu A [PO.lst []]);have k:=j.ob;have a:(A++[PO.lst []])[l]?=some _:=az f;refine N2 (l:=L.map .int) (λe=>∃x,e=[x,some (.ref w)]) (λ_=>true) (λv=>match v with | .int h=>.bl (decide (0<=h/\h<n)) | _=>.non) ?_;walk_at "go";refine⟨L.length,by rw[O1 a];simp,by simp,by simp;exact aE (by omega),⟨_,rfl⟩,λi=>O2 a i,?_,?_⟩
 .rintro v e m ⟨x,rfl⟩;obtain⟨h,q,rfl⟩:=IC.mp m;walk_at "go";refine⟨rfl,⟨_,rfl⟩,?_⟩;walk_at "go";refine⟨rfl,rfl,λ_=>?_⟩;walk_at "go";exact w_eq (bY _ _ _) ⟨rfl,rfl⟩
 .refine⟨_,L.map λh=>decide (0<=h/\h<n),rfl,?_,?_⟩
  .rw[aj,Jd.mpr (by simp),IT,IT];rfl
  .refine⟨_,rfl,λb=>?_,λb=>?_⟩
   .walk_at "go";refine ae (dU (az a) g) λv s ⟨o,p⟩=>⟨(Q4 (Iu _ _)).trans o,?_⟩;rw[p];have:(L.all λh=>decide (0<=h/\h<n))=true:=by rw[List.all_map]at b;exact b
    simp only[w4,this,d];simp
   .refine⟨Q4 (Iu _ _),?_⟩;have:(L.all λh=>decide (0<=h/\h<n))=false:=by rw[List.all_map]at b;exact b
    simp only[w4,this];simp
theorem FF{a b:Int}(c:0<=a/\a<10)(d:0<=b/\b<10):[a,b]∈small:=by
 unfold small;rw[List.mem_flatten];refine⟨_,IC.mpr ⟨a.toNat,JO.mpr (by omega),rfl⟩,IC.mpr ⟨b.toNat,JO.mpr (by omega),?_⟩⟩;rw[OP c.1,OP d.1]
theorem w5{p q:Int×Int}(h:l2 p=l2 q):p=q:=by
 obtain⟨a,b⟩:=p;simp[l2]at h;simp[h]
noncomputable def cJ(m:DT)(p:Int×Int):Int:=match M3 m (l2 p)with
 | some (.int z)=>z
 | _=>0
noncomputable def limD(a:List (Int×Int))(f:Int×Int->Int):DT:=a.map λp=>(l2 p,PV.int (f p))
theorem vD(a:List (Int×Int))(f:Int×Int->Int):(limD a f).map (·.1)=a.map l2:=by unfold limD;rw[IT];rfl
theorem vE{d:List (Int×Int)}{f:Int×Int->Int}(h:d.Nodup):((limD d f).map (·.1)).Nodup:=by
 rw[vD];exact MR.map _ (λa b c z=>c (w5 z)) h
theorem vF{a:List (Int×Int)}{f:Int×Int->Int}(h:a.Nodup){p:Int×Int}(b:p∈a):M3 (limD a f) (l2 p)=some (.int (f p)):=Ft (vE h) (IC.mpr ⟨p,b,rfl⟩)
theorem FG{a:List (Int×Int)}{f:Int×Int->Int}{n:Int}(e:n<=6)(b:∀p∈a,good n p):∀p∈limD a f,p.1∈small:=λp c=>by
 obtain⟨q,d,rfl⟩:=IC.mp c;have:=b q d;exact FF ⟨this.1.1,by have:=this.1.2;omega⟩ ⟨this.2.1.1,by have:=this.2.1.2;omega⟩
theorem FH{a:List (Int×Int)}{f:Int×Int->Int}{p:Int×Int}(b:p∉a):Z2 (limD a f) (l2 p) (.int (f p))=limD (a++[p]) f:=by
 rw[kK]
 .simp[limD]
 .rw[vD];intro z;obtain⟨q,c,e⟩:=IC.mp z;rw[<-w5 e]at b;exact b c
structure cY(A:PHp)(P w r:Nat)(n:Int)(ps:List (Int×Int))(L:List Int)(f:Int×Int->Int)(ll dl dk:Nat):Prop where
 web:bG A w r n ps
 ob:A[P]?=some (.ins 1 [(3,.ref w),(4,.ref ll),(5,.ref dl),(9,.tup (L.map .int)),(10,.ref dk)])
 ls:A[ll]?=some (.lst (L.map .int))
 ld:A[dl]?=some (.dT (limD (srt ps) f))
 lk:A[dk]?=some (.dT (limD (srt ps) f))
theorem cY.mono{A B:PHp}{P w r:Nat}{n:Int}{ps:List (Int×Int)}{L:List Int}{f:Int×Int->Int}{a dl b:Nat}(h:cY A P w r n ps L f a dl b)(e:A<+:B):cY B P w r n ps L f a dl b:=
 ⟨h.web.mono e,ai e h.ob,ai e h.ls,ai e h.ld,ai e h.lk⟩
theorem FI{z:Int}(h:0<=z)(A:PHp):U8 [.int z] A=.ok (.bl true) A:=by simp[U8,h]
section
variable{A:PHp}{w r l d:Nat}{n:Int}{ps:List (Int×Int)}{L:List Int}{m:DT}
theorem dn(h:ps.Nodup):(srt ps).Nodup:=(L9 ps).nodup_iff.mpr h
theorem gO{B:PHp}{P k:Nat}(W:bG A w r n ps)(hd:A[d]?=some (.dT m))(D:ps.Nodup)(N:ps.length<64)(Y:∀p∈ps,∃z,0<=z/\M3 m (l2 p)=some (.int z))
 (O:A<+:B) (hk:A.length<=k) (hB:B[k]?=some (.dT [])) (E:P≠k) {G:PO} (hP:B[P]?=some G) :
 Wp (X8 [some (.ref P),some (.ref w),some (.ref l),some (.ref d),some (.ref k),none]) B (λo a=>(∃x,o=.nx [some (.ref P),some (.ref w),some (.ref l),some (.ref d),some (.ref k),x])/\A<+:a/\a[P]?=some G/\a.length=B.length/\a[k]?=some (.dT (limD (srt ps) (cJ m)))) NoX:=by
 unfold X8;have hs:∀p∈srt ps,p∈ps:=λp c=>(L9 ps).mem_iff.mp c;refine vk (λi C a=>(∃x,C=[some (.ref P),some (.ref w),some (.ref l),some (.ref d),some (.ref k),x])/\A<+:a/\a[P]?=some G/\a.length=B.length/\a[k]?=some (.dT (limD ((srt ps).take i) (cJ m)))) ?_;have Q:=W.mono O;have a4:=Q.ob;have a5:=Q.ls;walk_at "go";refine⟨r,aX (srt ps),rfl,⟨⟨_,rfl⟩,O,hP,rfl,hB⟩,λi C a ⟨_,h,_⟩=>M8 (W.mono h).ls,?_,?_⟩
 .rintro i v C B1 q ⟨⟨x,rfl⟩,p1,f,g,b⟩;simp only[aX,Jc]at q;cases c:(srt ps)[i]? with
  | none=>rw[c]at q;cases q
  | some p=>
    rw[c]at q;cases q;have s:p∈srt ps:=Ja c;have a7:=ai p1 hd;have T:R3 (pv p)=some (l2 p):=rfl;have tk:(srt ps).take (i+1)=(srt ps).take i++[p]:=by rw[JY,c];rfl
    unfold m5;walk_at "go";obtain⟨z,hz,U⟩:=Y p (hs p s);have H:M3 m [p.1,p.2]=some (.int z):=U;rw[H];refine w_eq (FI hz _) ?_;walk_at "gb";have u:p∉(srt ps).take i:=by
     intro I;have J:=(IG.mp c).1;obtain⟨j,hj,e⟩:=Ke.mp I;rw[JI]at hj;rw[NI]at e;have e2:(srt ps)[i]=p:=(IG.mp c).2;exact JT.mp (dn D) j i (by omega) J (by omega) (e.trans e2.symm)
    have y:cJ m p=z:=by unfold cJ;rw[U]
    refine⟨?_,?_⟩
    .refine j5 ?_;rw[limD,Iq,JI];have:=(L9 ps).length_eq;omega
    .refine⟨⟨_,rfl⟩,Y6 p1 hk,by rw[G2 E];exact f,by simpa using g,?_⟩;rw[aT b,tk,<-FH u,y];rfl
 .rintro C B1 ⟨⟨x,rfl⟩,p1,f,g,b⟩;rw[aX,Iq,Ky]at b;exact⟨⟨x,rfl⟩,p1,f,g,b⟩
theorem FJ(W:bG A w r n ps)(f:A[l]?=some (.lst (L.map .int)))(D:L.length<=1000)(hd:A[d]?=some (.dT m))(a:S0 n ps)(g:w4 n L=true)(E:∀p∈ps,∃z,0<=z/\M3 m (l2 p)=some (.int z)) :
 Wp (P9 [.ref A.length,.ref w,.ref l,.ref d]) (A++[.ins 1 []]) (λv A'=>v=.non/\A<+:A'/\∃q dl s,cY A' A.length w r n ps L (cJ m) q dl s/\A.length<q/\A.length<dl/\A.length<s) NoX:=by
 unfold P9;walk_at "fn";have h:A<+:A++[PO.ins 1 []]:=Iu _ _;walk_at "go";refine ae (dm (W.mono h) (ai h f) D) λv b G=>?_;obtain⟨p1,H⟩:=G;subst H;have c:b[A.length]?=some (.ins 1 []):=ai p1 aj;have i:A<+:b:=h.trans p1;have e:=E5 c;rw[g];walk_at "gb";refine ae (gO (l:=l) (P:=A.length) (k:=b.length) W hd a.nd a.len E (Q4 i) (by omega) aj (by omega) (az c)) λo B ⟨⟨x,I⟩,u,J,j,N⟩=>?_;subst I;have y:B.length=b.length+1:=by rw[j];simp
 have U:=W.mono u;have C:=ai u f;have O:=E5 f;have Q:((limD (srt ps) (cJ m)).map (·.1)).Nodup/\∀p∈limD (srt ps) (cJ m),p.1∈small:=⟨vE (dn a.nd),FG a.hi λp T=>a.good p ((L9 ps).mem_iff.mp T)⟩;walk_at "go";simp only[putFld,Nat.reduceEqDiff,if_false,Mp,IU,IM,JS,Pj];refine⟨trivial,?pre,B.length,B.length+1,b.length,⟨W.mono ?pre,?ob,?ls,?ld,?lk⟩,?_,?_,e⟩
 case pre=>walk_at "pre"
 case ob=>walk_at "st"
 case ls=>walk_at "st"
 case ld=>walk_at "st"
 case lk=>walk_at "st"
 .omega
 .omega
end
theorem qD{A:PHp}(o:PO):A<+:A++[o]:=Iu _ _
theorem vG{c:List Int}(h:c≠[]):atI (c.map PV.int) (-1)=some (.int (c.getLast h)):=by
 have a:0<c.length:=OQ.mpr h;unfold atI ixN;rw[if_neg (by omega),Iq,if_pos (by omega)];show(c.map PV.int)[((-1:Int)+c.length).toNat]?=_;rw[show((-1:Int)+c.length).toNat=c.length - 1 by omega,Jc,<-List.getLast?_eq_getElem?,Md h];rfl
section
variable{A:PHp}{N:Nat}{ps:List (Int×Int)}
def iy(N:Nat)(ps:List (Int×Int))(ld c:List Int):Prop:=(∃h:c≠[],c.getLast h∈ld)/\c.Nodup/\(∀x∈c,0<=x/\x<N)/\∀(i:Nat) a b,c[i]?=some a->c[i+1]?=some b->(a,b)∈ps
theorem eU{c:List Int}(h:c≠[]):¬(Z8 (c.map PV.int).length 0 (some 1)=0/\Z8 (c.map PV.int).length (c.map PV.int).length none=(c.map PV.int).length):=by
 have:0<c.length:=OQ.mpr h;unfold Z8;rw[Iq];intro z;have:=z.1;simp at this;omega
theorem gd(c:List PV):ek c (some 1) none=c.drop 1:=by
 have:=qx c 1;exact this
theorem all_map{a:Type}(f:a->Bool)(l:List a):((l.map f).all id=true)↔∀x∈l,f x=true:=by simp
theorem vH:∀(c:List Int),i8 (c.map PV.int) ((c.map PV.int).drop 1)=(c.zip (c.drop 1)).map pv
 | []=>rfl
 | [a]=>rfl
 | a::b::r=>by
   have ih:=vH (b::r);simp only[Jb,List.drop_succ_cons,List.drop_zero,i8,List.zip_cons_cons,Jb]at ih ⊢;exact congrArg _ ih
theorem mem_steps{c:List Int}{a b:Int}:(a,b)∈c.zip (c.drop 1)↔∃i:Nat,c[i]?=some a/\c[i+1]?=some b:=by
 rw[List.mem_iff_getElem?];constructor
 .rintro⟨i,h⟩;rw[Nu]at h;exact⟨i,h.1,by rw[<-h.2,Mq,Pl]⟩
 .rintro⟨i,d,e⟩;refine⟨i,?_⟩;rw[Nu];exact⟨d,by rw[Mq,Pl];exact e⟩
theorem fC{w r:Nat}{ld c:List Int}(W:bG A w r N ps)(Y:c.length<100) :
 Wp (U9 [.ref w,.tup (ld.map .int),.tup (c.map .int)]) A (λv A'=>A<+:A'/\∃b,v=.bl b/\(b=true↔iy N ps ld c)) NoX:=by
 unfold U9;have G:=W.ob;have H:=W.ls;walk_at "fn";walk_at "go";refine⟨λj=>?_,λj=>?_⟩
 .walk_at "go";refine⟨λz=>(nomatch z),λz=>?_⟩;obtain⟨⟨h,_⟩,_⟩:=z;exact absurd (of_decide_eq_true j) h
 have e:c≠[]:=of_decide_eq_false j;have m:=vG e;walk_at "go";refine⟨λf=>?_,λf=>?_⟩
 .walk_at "go";refine⟨λz=>(nomatch z),λz=>?_⟩;obtain⟨⟨h,n⟩,_⟩:=z;simp[n]at f
 have o:c.getLast e∈ld:=by simpa using f
 walk_at "go";refine⟨λg=>?_,λg=>?_⟩
 .walk_at "go";refine⟨λz=>(nomatch z),λz=>?_⟩;have:=(sJ c).mp (by have:=of_decide_eq_true g;omega);exact absurd z.2.1 this
 have q:c.Nodup:=by
  by_cases z:c.Nodup
  .exact z
  .have:=(sJ c).mpr z;have:=of_decide_eq_false g;omega
 walk_at "go";unfold cH;refine N2 (l:=c.map .int) (λk=>∃x,k=[x,some (.ref w)]) (λ_=>true) (λv=>.bl (match v with | .int x=>decide (0<=x/\x<N) | _=>false)) ?_;walk_at "go";refine⟨⟨_,rfl⟩,λi=>rfl,?_,?_⟩
 .rintro v k s ⟨x,rfl⟩;obtain⟨y,I,rfl⟩:=IC.mp s;walk_at "go";refine⟨rfl,⟨_,rfl⟩,?_⟩;walk_at "go";refine⟨rfl,rfl,λ_=>?_⟩;walk_at "go";exact w_eq (bY N y A) ⟨rfl,rfl⟩
 have E:((c.map PV.int).filter λ_=>true).map (λv=>PV.bl (match v with | .int x=>decide (0<=x/\x<N) | _=>false))=(c.map λx=>decide (0<=x/\x<(N:Int))).map PV.bl:=by
  rw[Jd.mpr (by simp),IT,IT];rfl
 refine⟨_,_,rfl,by rw[aj,E],?_⟩;walk_at "go";refine⟨λd=>?_,λd=>?_⟩
 .walk_at "go";refine⟨λz=>(nomatch z),λz=>?_⟩;have:((c.map λx=>decide (0<=x/\x<(N:Int))).all id)=true:=(all_map _ _).mpr λx u=>decide_eq_true (z.2.2.1 x u);rw[this]at d;cases d
 have B:∀x∈c,0<=x/\x<(N:Int):=by
  have:((c.map λx=>decide (0<=x/\x<(N:Int))).all id)=true:=by
   cases z:((c.map λx=>decide (0<=x/\x<(N:Int))).all id)with
   | true=>rfl
   | false=>rw[z]at d;cases d
  exact λx u=>of_decide_eq_true ((all_map _ _).mp this x u)
 rw[E];generalize C:A++[PO.lst ((c.map λx=>decide (0<=x/\x<(N:Int))).map PV.bl)]=J;have p1:A<+:J:=by rw[<-C];exact qD _
 have L:=ai p1 G;have O:=ai p1 H;walk_at "go";unfold cI;refine N2 (l:=(c.zip (c.drop 1)).map pv) (λk=>∃x,k=[x,some (.ref w)]) (λ_=>true) (λv=>.bl (decide ((g8 v,g9 v)∈srt ps))) ?_;walk_at "go";refine⟨eU e,?_⟩;walk_at "go";refine⟨by simp,aE (by simp;omega),⟨_,rfl⟩,λi=>by rw[Ex,gd,vH],?_,?_⟩
 .rintro v k s ⟨x,rfl⟩;obtain⟨y,I,rfl⟩:=IC.mp s;walk_at "go";refine⟨rfl,⟨_,rfl⟩,?_⟩;walk_at "go";refine⟨rfl,rfl,λ_=>?_⟩;unfold pv;walk_at "go";exact⟨rfl,rfl⟩
 have Q:(((c.zip (c.drop 1)).map pv).filter λ_=>true).map (λv=>PV.bl (decide ((g8 v,g9 v)∈srt ps)))=((c.zip (c.drop 1)).map λp=>decide (p∈srt ps)).map PV.bl:=by
  rw[Jd.mpr (by simp),IT,IT];rfl
 refine⟨_,_,rfl,by rw[aj,Q],?_⟩;refine⟨p1.trans (qD _),_,rfl,?_⟩;rw[all_map];constructor
 .intro h;refine⟨⟨e,o⟩,q,B,λi a b T j=>?_⟩;exact(L9 ps).mem_iff.mp (of_decide_eq_true (h (a,b) (mem_steps.mpr ⟨i,T,j⟩)))
 .rintro⟨_,_,_,h⟩ ⟨a,b⟩ D;obtain⟨i,n,U⟩:=mem_steps.mp D;exact decide_eq_true ((L9 ps).mem_iff.mpr (h i a b n U))
end
structure LS where
 now:Int
 lays:List ((Int×Int)×Int)
 says:List ((Int×Int)×Nat×List (Int×List Int))
 first:List (List Int×Int)
 m:Nat
structure bA where
 N:Nat
 ps:List (Int×Int)
 L:List Int
 f:Int×Int->Int
 fr:List Int
 P:Nat
 w:Nat
 r:Nat
 ll:Nat
 dl:Nat
 dk:Nat
 G:Nat
noncomputable def rowS(q:Int×List Int):PV:=.tup [.int q.1,.tup (q.2.map .int)]
noncomputable def q9(S:LS):DT:=S.lays.map λp=>(l2 p.1,PV.int p.2)
noncomputable def W3(S:LS):DT:=S.says.map λp=>(l2 p.1,PV.ref p.2.1)
noncomputable def gu(S:LS):DT:=S.first.map λp=>(p.1,PV.int p.2)
noncomputable def sadr(S:LS):List Nat:=S.says.map λe=>e.2.1
noncomputable def own(c:bA)(S:LS):List Nat:=c.G::(c.G+2)::(c.G+3)::(c.G+4)::sadr S
noncomputable def dom(c:bA)(S:LS):List Nat:=c.P::c.w::c.r::c.ll::c.dl::c.dk::(c.G+1)::own c S
structure bC(A:PHp)(c:bA)(S:LS):Prop where
 plan:cY A c.P c.w c.r c.N c.ps c.L c.f c.ll c.dl c.dk
 ob:A[c.G]?=some (.ins 2 [(6,.ref c.P),(7,.ref (c.G+1)),(11,.tup (c.fr.map .int)),(12,.int S.now),(13,.ref (c.G+2)),(14,.ref (c.G+3)),(15,.ref (c.G+4))])
 fl:A[c.G+1]?=some (.lst (c.fr.map .int))
 tl:A[c.G+2]?=some (.dT (q9 S))
 sl:A[c.G+3]?=some (.dT (W3 S))
 ul:A[c.G+4]?=some (.dT (gu S))
 rows:∀e∈S.says,A[e.2.1]?=some (.lst (e.2.2.map rowS))
 lt:c.P<c.G/\c.w<c.G/\c.r<c.G/\c.ll<c.G/\c.dl<c.G/\c.dk<c.G
 hi:∀a∈sadr S,c.G+4<a
 an:(sadr S).Nodup
 kn:(S.says.map (·.1)).Nodup
 ln:(S.lays.map (·.1)).Nodup
 lp:∀p∈S.lays.map (·.1),p∈c.ps
 pg:S0 c.N c.ps
 sz:S.m<=2000/\S.says.length<=S.m/\S.first.length<=S.m/\∀e∈S.says,e.2.2.length<=S.m
theorem bC.keep{A B:PHp}{c:bA}{S:LS}(h:bC A c S)(k:∀a∈dom c S,∀o,A[a]?=some o->B[a]?=some o):bC B c S:=by
 have hd:∀a,a∈[c.P,c.w,c.r,c.ll,c.dl,c.dk,c.G+1,c.G,c.G+2,c.G+3,c.G+4]->a∈dom c S:=λa b=>by
  simp only[IF,Jl,or_false]at b;simp only[dom,own,IF];rcases b with z | z | z | z | z | z | z | z | z | z | z<;>simp[z]
 refine⟨⟨⟨k _ (hd _ (by simp)) _ h.plan.web.ob,k _ (hd _ (by simp)) _ h.plan.web.ls⟩,k _ (hd _ (by simp)) _ h.plan.ob,k _ (hd _ (by simp)) _ h.plan.ls,k _ (hd _ (by simp)) _ h.plan.ld,k _ (hd _ (by simp)) _ h.plan.lk⟩,k _ (hd _ (by simp)) _ h.ob,k _ (hd _ (by simp)) _ h.fl,k _ (hd _ (by simp)) _ h.tl,k _ (hd _ (by simp)) _ h.sl,k _ (hd _ (by simp)) _ h.ul,λe d=>?_,h.lt,h.hi,h.an,h.kn,h.ln,h.lp,h.pg,h.sz⟩;refine k _ ?_ _ (h.rows e d);simp only[dom,own,IF];have:e.2.1∈sadr S:=IC.mpr ⟨e,d,rfl⟩;simp[this]
theorem bC.mono{A B:PHp}{c:bA}{S:LS}(h:bC A c S)(e:A<+:B):bC B c S:=h.keep λa _ o q=>ai e q
structure cK(c:bA)(S S':LS)(A A':PHp):Prop where
 len:A.length<=A'.length
 keep:∀a o,A[a]?=some o->a∉own c S->A'[a]?=some o
 new:∀a∈sadr S',a∈sadr S\/A.length<=a
theorem cK.pre{c:bA}{S:LS}{A A':PHp}(h:A<+:A'):cK c S S A A':=⟨h.length_le,λa o q _=>ai h q,λa h=>.inl h⟩
theorem cK.refl{c:bA}{S:LS}{A:PHp}:cK c S S A A:=.pre (Jk _)
theorem qE{c:bA}{S b:LS}{A A':PHp}(h:cK c S b A A'){a:Nat}(e:a<A.length)(d:a∉own c S):a∉own c b:=λz=>d (by
 simp only[own,IF]at z ⊢;rcases z with z | z | z | z | z
 .simp[z]
 .simp[z]
 .simp[z]
 .simp[z]
 .rcases h.new a z with z | z
  .simp[z]
  .omega)
theorem cK.trans{c:bA}{S e b:LS}{A A' d:PHp}(h:cK c S e A A')(h':cK c e b A' d):cK c S b A d:=
 ⟨Jm h.len h'.len,λa o q n=>h'.keep a o (h.keep a o q n) (qE h (E5 q) n),λa f=>by
  rcases h'.new a f with z | z
  .exact h.new a z
  .exact .inr (Jm h.len z)⟩
section
variable{A:PHp}{c:bA}{S:LS}
theorem gP(H:bC A c S):Wp (K7 [.ref c.G]) A (λv d=>v=.non/\bC d c { S with now:=S.now+1 }/\cK c S { S with now:=S.now+1 } A d) NoX:=by
 unfold K7;have g:=H.ob;walk_at "fn";walk_at "gb";have i:=H.lt;have k:∀a o,A[a]?=some o->a≠c.G->(A.set c.G (PO.ins 2 (putFld 12 (PV.int (S.now+1)) [(6,.ref c.P),(7,.ref (c.G+1)),(11,.tup (c.fr.map .int)),(12,.int S.now),(13,.ref (c.G+2)),(14,.ref (c.G+3)),(15,.ref (c.G+4))])))[a]?=some o:=λa o q n=>(G2 n).trans q;refine⟨trivial,⟨⟨⟨k _ _ H.plan.web.ob (by omega),k _ _ H.plan.web.ls (by omega)⟩,k _ _ H.plan.ob (by omega),k _ _ H.plan.ls (by omega),k _ _ H.plan.ld (by omega),k _ _ H.plan.lk (by omega)⟩,aT g,k _ _ H.fl (by omega),k _ _ H.tl (by omega),k _ _ H.sl (by omega),k _ _ H.ul (by omega),λe f=>k _ _ (H.rows e f) ?_,H.lt,H.hi,H.an,H.kn,H.ln,H.lp,H.pg,H.sz⟩,⟨by simp,λa o q n=>k a o q (λz=>n (by rw[z];exact Iz)),λa h=>.inl h⟩⟩;have:=H.hi e.2.1 (IC.mpr ⟨e,f,rfl⟩);omega
theorem vI{w r:Nat}{N:Nat}{ps:List (Int×Int)}(W:bG A w r N ps)(b:S0 N ps)(p:Int×Int):Wp (c6 [.ref w,pv p]) A (λv d=>v=.bl (decide (p∈ps))/\d=A) NoX:=by
 unfold c6;have f:=W.ob;have e:=W.ls;walk_at "fn";walk_at "gb";refine w_eq (t4 _ _ _) ⟨_,rfl,λa=>?_,λa=>?_⟩
 .walk_at "gb";refine ix e ?_;exact⟨by simp[(L9 ps).mem_iff],rfl⟩
 .refine⟨?_,rfl⟩;have:p∉ps:=λz=>by have:=b.good p z;simp[this]at a
  simp[this]
noncomputable def layV(p:Int×Int):PV:=.tup [.str "lay",pv p]
noncomputable def i0(p:Int×Int)(ch:List Int):PV:=.tup [.str "say",pv p,.tup (ch.map .int)]
theorem FK(H:bC A c S)(p:Int×Int):Wp (T1 [.ref c.P,layV p]) A (λv b=>v=.bl (decide (p∈c.ps))/\b=A) NoX:=by
 unfold T1 layV;have e:=H.plan.ob;walk_at "fn";walk_at "gb";refine ae (vI H.plan.web H.pg p) λv f d=>?_;obtain⟨rfl,rfl⟩:=d;walk_at "gb";refine⟨λa=>?_,λa=>?_⟩
 .walk_at "gb";have:p∉c.ps:=by simpa using a
  simp[this]
 .walk_at "gb";have:p∈c.ps:=by simpa using a
  simp[this]
theorem gf(H:bC A c S){ch:List Int}(h:ch.length<100):Wp (P0 [.ref c.P,.tup (ch.map .int)]) A (λv A'=>A<+:A'/\∃b,v=.bl b/\(b=true↔iy c.N c.ps c.L ch)) NoX:=by
 unfold P0;have e:=H.plan.ob;have o:=H.plan.web.ob;walk_at "fn";walk_at "gb";unfold c7;refine N2 (l:=ch.map .int) (λf=>∃x,f=[x,some (.ref c.P)]) (λ_=>true) (λv=>.bl (match v with | .int x=>decide (0<=x/\x<(c.N:Int)) | _=>false)) ?_;walk_at "go";refine⟨⟨_,rfl⟩,λi=>rfl,?_,?_⟩
 .rintro v f j ⟨x,rfl⟩;obtain⟨y,p,rfl⟩:=IC.mp j;walk_at "go";refine⟨rfl,⟨_,rfl⟩,?_⟩;walk_at "go";refine⟨rfl,rfl,λ_=>?_⟩;walk_at "go";exact w_eq (bY c.N y A) ⟨rfl,rfl⟩
 have g:((ch.map PV.int).filter λ_=>true).map (λv=>PV.bl (match v with | .int x=>decide (0<=x/\x<(c.N:Int)) | _=>false))=(ch.map λx=>decide (0<=x/\x<(c.N:Int))).map PV.bl:=by
  rw[Jd.mpr (by simp),IT,IT];rfl
 refine⟨_,_,rfl,by rw[aj,g],?_⟩;walk_at "go";refine⟨λa=>?_,λa=>?_⟩
 .walk_at "gb";refine⟨λz=>(nomatch z),λz=>?_⟩;have:((ch.map λx=>decide (0<=x/\x<(c.N:Int))).all id)=true:=(all_map _ _).mpr λx k=>decide_eq_true (z.2.2.1 x k);rw[this]at a;cases a
 .rw[g];generalize d:A++[PO.lst ((ch.map λx=>decide (0<=x/\x<(c.N:Int))).map PV.bl)]=m;have p1:A<+:m:=by rw[<-d];exact qD _
  have e:=ai p1 e;walk_at "gb";refine ae (fC (H.plan.web.mono p1) h) λv q n=>?_;obtain⟨p2,b,rfl,a⟩:=n;exact⟨p1.trans p2,b,rfl,a⟩
theorem vJ{ch:List Int}{x:Int}(h:ch.head?=some x):atI (ch.map PV.int) 0=some (.int x):=by
 cases ch with
 | nil=>cases h
 | cons a r=>cases h;unfold atI ixN;simp
theorem FL(H:bC A c S)(p:Int×Int){ch:List Int}(k:ch.length<100):Wp (T1 [.ref c.P,i0 p ch]) A (λv A'=>A<+:A'/\∃b,v=.bl b/\(b=true↔p∈c.ps/\iy c.N c.ps c.L ch/\ch.head?=some p.2)) NoX:=by
 unfold T1 i0;have m:=H.plan.ob;walk_at "fn";walk_at "gb";refine ae (vI H.plan.web H.pg p) λv n g=>?_;obtain⟨rfl,rfl⟩:=g;walk_at "gb";refine⟨λd=>?_,λd=>?_⟩
 .walk_at "gb";have:p∉c.ps:=by simpa using d
  simp[this]
 .have l:p∈c.ps:=by simpa using d
  walk_at "gb";refine ae (gf H k) λv o g=>?_;obtain⟨p2,b,rfl,d⟩:=g;refine⟨b,rfl,λh=>?_,λe=>?_⟩
  .have f:=d.mp h;obtain⟨x,j⟩:∃x,ch.head?=some x:=by
    obtain⟨⟨i,_⟩,_⟩:=f;cases ch with
    | nil=>exact absurd rfl i
    | cons a r=>exact⟨a,rfl⟩
   have q:=vJ j;unfold pv;walk_at "gb";rw[j];simp[l,f]
  .refine⟨p2,false,rfl,λz=>(nomatch z),λz=>?_⟩;rw[d.mpr z.2.1]at e;cases e
end
noncomputable def look{a b:Type}[DecidableEq a]:List (a×b)->a->Option b
 | [],_=>none
 | e::r,k=>if e.1=k then some e.2 else look r k
noncomputable def I9(S:LS)(p:Int×Int):Option Int:=look S.lays p
noncomputable def t6(S:LS)(ch:List Int):Option Int:=look S.first ch
noncomputable def S3(S:LS)(p:Int×Int):Option (Nat×List (Int×List Int)):=look S.says p
noncomputable def rowsAt(S:LS)(p:Int×Int):List (Int×List Int):=((S3 S p).map (·.2)).getD []
theorem FN{p q:Int×Int}:l2 p=l2 q↔p=q:=⟨w5,λz=>by rw[z]⟩
theorem qF{a:Type}(f:a->PV):∀(l:List ((Int×Int)×a))(p:Int×Int),M3 (l.map λe=>(l2 e.1,f e.2)) (l2 p)=(look l p).map f
 | [],_=>rfl
 | e::r,p=>by
   show(if l2 e.1=l2 p then some (f e.2) else M3 (r.map _) (l2 p))=(if e.1=p then some e.2 else look r p).map f;by_cases h:e.1=p
   .rw[if_pos (by rw[h]),if_pos h];rfl
   .rw[if_neg (λz=>h (w5 z)),if_neg h];exact qF f r p
theorem vK{a:Type}(f:a->PV):∀(l:List (List Int×a))(p:List Int),M3 (l.map λe=>(e.1,f e.2)) p=(look l p).map f
 | [],_=>rfl
 | e::r,p=>by
   show(if e.1=p then some (f e.2) else M3 (r.map _) p)=(if e.1=p then some e.2 else look r p).map f;by_cases h:e.1=p
   .rw[if_pos h,if_pos h];rfl
   .rw[if_neg h,if_neg h];exact vK f r p
theorem qG(S:LS)(p:Int×Int):M3 (q9 S) (l2 p)=(I9 S p).map .int:=qF _ _ _
theorem vL(S:LS)(ch:List Int):M3 (gu S) ch=(t6 S ch).map .int:=vK _ _ _
theorem vM(S:LS)(p:Int×Int):M3 (W3 S) (l2 p)=(S3 S p).map λe=>.ref e.1:=qF (λe:Nat×List (Int×List Int)=>PV.ref e.1) _ _
section
variable{α β:Type}[DecidableEq α]
theorem m9:∀{l:List (α×β)}{k:α}{v:β},look l k=some v->(k,v)∈l
 | e::r,k,v,h=>by
   unfold look at h;by_cases c:e.1=k
   .rw[if_pos c]at h;cases h;rw[<-c];exact Iz
   .rw[if_neg c]at h;exact IE _ (m9 h)
theorem vN:∀{l:List (α×β)}{k:α}{v:β},(l.map (·.1)).Nodup->(k,v)∈l->look l k=some v
 | e::r,k,v,b,h=>by
   have a:=JQ.mp b;unfold look;rcases IF.mp h with z | z
   .rw[<-z,if_pos rfl]
   .rw[if_neg (λq=>a.1 (by show e.1∈_;rw[q];exact IC.mpr ⟨_,z,rfl⟩)),vN a.2 z]
theorem look_none:∀{l:List (α×β)}{k:α},look l k=none↔k∉l.map (·.1)
 | [],k=>by simp[look]
 | e::r,k=>by
   unfold look;by_cases c:e.1=k
   .rw[if_pos c];simp[c]
   .rw[if_neg c,look_none];have:k≠e.1:=λz=>c z.symm;simp[this]
theorem vO{l m:List (α×β)}{k:α}:look (l++m) k=(look l k).or (look m k):=by
 induction l with
 | nil=>rfl
 | cons e r ih=>
   show(if e.1=k then some e.2 else look (r++m) k)=(if e.1=k then some e.2 else look r k).or _;by_cases c:e.1=k
   .rw[if_pos c,if_pos c];rfl
   .rw[if_neg c,if_neg c,ih]
theorem vP{k j:α}{v:β}:look [(k,v)] j=if k=j then some v else none:=rfl
end
noncomputable def bt(S:LS)(p:Int×Int):Bool:=match I9 S p with
 | some t=>decide (t<S.now)
 | none=>false
noncomputable def U1(c:bA)(S:LS)(p:Int×Int)(ch:List Int):Bool:=decide (c.f p+ch.length<S.now)
noncomputable def jI(a ch:List Int):List Int:=(ch.drop 1).dropWhile λh=>decide (h∈a)
noncomputable def fh(S:LS)(ch:List Int):Bool:=match t6 S ch with
 | some t=>decide (t<S.now)
 | none=>false
noncomputable def gv(c:bA)(S:LS)(ch:List Int):Bool:=decide (jI c.fr ch=[])||fh S (jI c.fr ch)
open Classical in
noncomputable def iz(c:bA)(S:LS)(p:Int×Int):Nat:=if p∈c.ps then(if(I9 S p).isSome=true then 13 else 0) else 12
open Classical in
noncomputable def Z4(c:bA)(S:LS)(p:Int×Int)(ch:List Int):Nat:=
 if p∈c.ps/\iy c.N c.ps c.L ch/\ch.head?=some p.2 then(if bt S p=true then(if U1 c S p ch=true then 15 else if gv c S ch=true then 0 else 16) else 14) else 12
noncomputable def n0(S:LS)(p:Int×Int):LS:={ S with lays:=S.lays++[(p,S.now)] }
noncomputable def P4(S:LS)(p:Int×Int)(ch:List Int):(Int×Int)×Nat×List (Int×List Int)->(Int×Int)×Nat×List (Int×List Int):=λe=>if e.1=p then(e.1,e.2.1,e.2.2++[(S.now,ch)]) else e
noncomputable def bg(S:LS)(p:Int×Int)(ch:List Int)(a:Nat):LS:=
 { S with says:=if(S3 S p).isSome=true then S.says.map (P4 S p ch) else S.says++[(p,a,[(S.now,ch)])],
          first:=if(t6 S ch).isSome=true then S.first else S.first++[(ch,S.now)],m:=S.m+1 }
section
variable{A:PHp}{c:bA}{S:LS}
theorem FO(p:Int×Int):R3 (pv p)=some (l2 p):=rfl
theorem qH(ch:List Int):R3 (.tup (ch.map .int))=some ch:=S8 ch
theorem gg(H:bC A c S)(p:Int×Int):Wp (E8 [.ref c.G,pv p]) A (λv e=>v=.bl (bt S p)/\e=A) NoX:=by
 unfold E8;have g:=H.ob;have i:=H.tl;walk_at "fn";walk_at "gb";have b:M3 (q9 S) [p.1,p.2]=(I9 S p).map .int:=qG S p;refine⟨λa=>?_,λa=>?_⟩
 .rw[b]at a;obtain⟨t,d⟩:∃t,I9 S p=some t:=by
   cases h:I9 S p with
   | none=>rw[h]at a;cases a
   | some t=>exact⟨t,rfl⟩
  rw[d]at b;have f:M3 (q9 S) [p.1,p.2]=some (.int t):=b;walk_at "gb";exact⟨by unfold bt;rw[d],rfl⟩
 .rw[b]at a;refine⟨?_,rfl⟩;unfold bt;cases h:I9 S p with
  | none=>rfl
  | some t=>rw[h]at a;cases a
theorem dW(H:bC A c S){p:Int×Int}(a:p∈c.ps)(ch:List Int):Wp (D9 [.ref c.G,pv p,.tup (ch.map .int)]) A (λv b=>v=.bl (U1 c S p ch)/\b=A) NoX:=by
 unfold D9;have e:=H.ob;have f:=H.plan.ob;walk_at "fn";walk_at "gb";unfold T9;walk_at "fn";walk_at "gb";have d:p∈srt c.ps:=(L9 c.ps).mem_iff.mpr a;refine⟨_,_,_,_,rfl,FO p,H.plan.lk,vF (dn H.pg.nd) d,?_⟩;walk_at "gb";exact⟨rfl,rfl⟩
theorem eV(H:bC A c S)(ch:List Int):Wp (E9 [.ref c.G,.tup (ch.map .int)]) A (λv f=>v=.bl (fh S ch)/\f=A) NoX:=by
 unfold E9;have g:=H.ob;have d:=H.ul;walk_at "fn";walk_at "gb";have b:=vL S ch;refine⟨_,_,_,rfl,qH ch,d,_,rfl,λa=>?_,λa=>?_⟩
 .rw[b]at a;obtain⟨t,e⟩:∃t,t6 S ch=some t:=by
   cases h:t6 S ch with
   | none=>rw[h]at a;cases a
   | some t=>exact⟨t,rfl⟩
  rw[e]at b;walk_at "gb";refine⟨_,_,_,_,rfl,qH ch,d,b,?_⟩;walk_at "gb";exact⟨by unfold fh;rw[e],rfl⟩
 .rw[b]at a;refine⟨?_,rfl⟩;unfold fh;cases h:t6 S ch with
  | none=>rfl
  | some t=>rw[h]at a;cases a
theorem ja(H:bC A c S){ch:List Int}(g:ch≠[])(p:ch.length<100):Wp (H9 [.ref c.G,.tup (ch.map .int)]) A (λv i=>v=.bl (gv c S ch)/\i=A) NoX:=by
 unfold H9;have q:=H.ob;walk_at "fn";walk_at "gb";refine⟨eU g,?_⟩;walk_at "gb";rw[gd,<-NR];have n:Wp (O7 [some (.ref c.G),some (.tup (ch.map .int)),some (.tup ((ch.drop 1).map .int))]) A (λo i=>o=.nx [some (.ref c.G),some (.tup (ch.map .int)),some (.tup ((jI c.fr ch).map .int))]/\i=A) NoX:=by
  unfold O7;refine Ew (λm σ B=>B=A/\∃l:List Int,l.length<=m/\σ=[some (.ref c.G),some (.tup (ch.map .int)),some (.tup (l.map .int))]/\l.dropWhile (λh=>decide (h∈c.fr))=jI c.fr ch) (m:=100) (by decide) ⟨rfl,ch.drop 1,by rw[JV];omega,rfl,rfl⟩ ?_;rintro m σ B ⟨rfl,l,k,rfl,f⟩;walk_at "gb";refine⟨λd=>?_,λd=>?_⟩
  .cases l with
   | nil=>cases d
   | cons a l=>
     have r:atI ((a::l).map PV.int) 0=some (.int a):=vJ rfl;walk_at "gb";refine⟨λe=>?_,λe=>?_⟩
     .unfold U0;walk_at "gb";refine⟨eU (by simp),?_⟩;walk_at "gb";rw[gd,<-NR];have b:a∈c.fr:=of_decide_eq_true e;rw[Ni (by simpa using b)]at f;exact⟨m - 1,by simp at k;omega,rfl,l,by simp at k;omega,rfl,f⟩
     .have b:a∉c.fr:=of_decide_eq_false e;rw[List.dropWhile_cons_of_neg (by simpa using b)]at f;exact⟨by rw[<-f],rfl⟩
  .have:l=[]:=by simpa using d
   subst this;refine vp ⟨by rw[<-f];rfl,rfl⟩
 refine ae n λo s j=>?_;obtain⟨rfl,rfl⟩:=j;walk_at "gb";refine⟨λd=>?_,λd=>?_⟩
 .refine⟨?_,rfl⟩;unfold gv;rw[d];rfl
 .walk_at "gb";refine ae (eV H _) λv u j=>?_;obtain⟨rfl,rfl⟩:=j;exact⟨by unfold gv;rw[d];rfl,rfl⟩
end
theorem FP{S:LS}{p:Int×Int}(h:I9 S p=none):Z2 (q9 S) (l2 p) (.int S.now)=q9 (n0 S p):=by
 rw[kK]
 .simp[q9,n0]
 .intro z;have e:(q9 S).map (·.1)=(S.lays.map (·.1)).map l2:=by unfold q9;simp[My]
  rw[e]at z;obtain⟨q,a,e⟩:=IC.mp z;rw[w5 e]at a;exact look_none.mp h a
theorem FQ{S:LS}{ch:List Int}{p:Int×Int}{a:Nat}(h:S3 S p=none):Z2 (W3 S) (l2 p) (.ref a)=W3 (bg S p ch a):=by
 rw[kK]
 .unfold W3 bg;simp only;rw[h];simp
 .intro z;have e:(W3 S).map (·.1)=(S.says.map (·.1)).map l2:=by unfold W3;simp[My]
  rw[e]at z;obtain⟨q,b,e⟩:=IC.mp z;rw[w5 e]at b;exact look_none.mp h b
theorem n4{S:LS}{p:Int×Int}{ch:List Int}(e:(Int×Int)×Nat×List (Int×List Int)):(P4 S p ch e).1=e.1/\(P4 S p ch e).2.1=e.2.1:=by
 unfold P4;by_cases h:e.1=p
 .rw[if_pos h];exact⟨rfl,rfl⟩
 .rw[if_neg h];exact⟨rfl,rfl⟩
theorem FR{S:LS}{ch:List Int}{p:Int×Int}{a:Nat}(h:(S3 S p).isSome=true):W3 (bg S p ch a)=W3 S:=by
 unfold W3 bg;simp only;rw[if_pos h,IT];refine JF λe _=>?_;show(l2 (P4 S p ch e).1,PV.ref (P4 S p ch e).2.1)=_;rw[(n4 e).1,(n4 e).2]
theorem FT{S:LS}{ch:List Int}{p:Int×Int}{a:Nat}(h:(S3 S p).isSome=true):sadr (bg S p ch a)=sadr S:=by
 unfold sadr bg;simp only;rw[if_pos h,IT];exact JF λe _=>(n4 e).2
theorem FU{S:LS}{ch:List Int}{p:Int×Int}{a:Nat}(h:S3 S p=none):sadr (bg S p ch a)=sadr S++[a]:=by
 unfold sadr bg;simp only;rw[h];simp
theorem FV{d:Type}{l:List d}(a:l.Nodup){i j:Nat}(b:i<l.length)(c:j<l.length)(e:l[i]=l[j]):i=j:=by
 rcases Nat.lt_trichotomy i j with z | z | z
 .exact absurd e (JT.mp a i j b c z)
 .exact z
 .exact absurd e.symm (JT.mp a j i c b z)
section
variable{A:PHp}{c:bA}{S:LS}
noncomputable def W5(S:LS)(p:Int×Int)(ch:List Int)(a:Nat):LS:=
 { S with says:=if(S3 S p).isSome=true then S.says.map (P4 S p ch) else S.says++[(p,a,[(S.now,ch)])],m:=S.m+1 }
noncomputable def gQ(S:LS)(ch:List Int):LS:={ S with first:=if(t6 S ch).isSome=true then S.first else S.first++[(ch,S.now)] }
theorem FW(p:Int×Int)(ch:List Int)(a:Nat):gQ (W5 S p ch a) ch=bg S p ch a:=rfl
theorem vQ{p:Int×Int}{ch:List Int}{a:Nat}:W3 (W5 S p ch a)=W3 (bg S p ch a):=rfl
theorem vR{p:Int×Int}{ch:List Int}{a:Nat}:sadr (W5 S p ch a)=sadr (bg S p ch a):=rfl
theorem FX(H:bC A c S){p:Int×Int}{ch:List Int}(hm:S.m<2000){d:PV}:Wp (T4 (jY (jl (H8 (aa 0) 14) (aa 2) (bL aNil)) (U3 (ag (H8 (aa 0) 12) (ag (aa 3) aNil)))) [some (.ref c.G),some d,some (pv p),some (.tup (ch.map .int))]) A
 (λo A'=>o=.nx [some (.ref c.G),some d,some (pv p),some (.tup (ch.map .int))]/\∃a,bC A' c (W5 S p ch a)/\cK c S (W5 S p ch a) A A') NoX:=by
 have h1:=H.ob;have h2:=H.sl;have hl:=H.lt;have hv:M3 (W3 S) (l2 p)=(S3 S p).map λe=>.ref e.1:=vM S p;have hG:=E5 H.ul;have B:=H.sz;refine qc (vj (dS ?_));walk_at "gb";have h3:(A++[PO.lst []])[c.G+3]?=some (.dT (W3 S)):=az h2;have a1:(A++[PO.lst []])[c.G]?=some _:=az h1;have I:M3 (W3 S) [p.1,p.2]=(S3 S p).map λe=>.ref e.1:=hv;refine⟨λw J=>?_,λJ=>?_⟩
 .rw[I]at J;obtain⟨⟨g,b⟩,hs,rfl⟩:=Jg.mp J;have f:(p,g,b)∈S.says:=m9 hs;have hr:A[g]?=some (.lst (b.map rowS)):=H.rows _ f;have L:(A++[PO.lst []])[g]?=some (.lst (b.map rowS)):=az hr;have l:(S3 S p).isSome=true:=by rw[hs];rfl
  refine⟨_,_,rfl,L,?_⟩;walk_at "gb";have N:(b.map rowS).length<LIM:=by
   refine j5 ?_;have:=B.2.2.2 _ f;rw[Iq];simp at this;omega
  refine⟨N,rfl,g,?_⟩;have b6:=H.hi g (IC.mpr ⟨_,f,rfl⟩);have a9:=E5 hr;have e1:b.map rowS++[PV.tup [.int S.now,.tup (ch.map .int)]]=(b++[(S.now,ch)]).map rowS:=by rw[Jy];rfl
  rw[e1];have k:∀a o,A[a]?=some o->a≠g->((A++[PO.lst []]).set g (PO.lst ((b++[(S.now,ch)]).map rowS)))[a]?=some o:=λa o q n=>(G2 n).trans (az q);have hD:W3 (W5 S p ch g)=W3 S:=by rw[vQ];exact FR l
  have C:sadr (W5 S p ch g)=sadr S:=by rw[vR];exact FT l
  have u:(W5 S p ch g).says=S.says.map (P4 S p ch):=by unfold W5;simp only;rw[if_pos l]
  refine⟨⟨⟨⟨k _ _ H.plan.web.ob (by omega),k _ _ H.plan.web.ls (by omega)⟩,k _ _ H.plan.ob (by omega),k _ _ H.plan.ls (by omega),k _ _ H.plan.ld (by omega),k _ _ H.plan.lk (by omega)⟩,k _ _ H.ob (by omega),k _ _ H.fl (by omega),k _ _ H.tl (by omega),(by rw[hD];exact k _ _ H.sl (by omega)),k _ _ H.ul (by omega),?_,H.lt,(by rw[C];exact H.hi),(by rw[C];exact H.an),?_,H.ln,H.lp,H.pg,?_⟩,?_⟩
  .rw[u];intro e r;obtain⟨v,s,rfl⟩:=IC.mp r;unfold P4;by_cases D:v.1=p
   .rw[if_pos D];have:look S.says v.1=some v.2:=vN H.kn s;rw[D]at this;have e2:v.2=(g,b):=IK (this.symm.trans hs);rw[e2];exact aT L
   .rw[if_neg D];refine k _ _ (H.rows v s) λz=>D ?_;obtain⟨i,hi,e3⟩:=Ke.mp s;obtain⟨j,hj,e4⟩:=Ke.mp f;by_cases O:i=j
    .subst O;rw[e3]at e4;rw[e4]
    .exfalso;refine O (FV H.an (i:=i) (j:=j) (by unfold sadr;rw[Iq];exact hi) (by unfold sadr;rw[Iq];exact hj) ?_);unfold sadr;rw[LW,LW,e3,e4];exact z
  .rw[u,IT];have:S.says.map ((·.1) ∘ P4 S p ch)=S.says.map (·.1):=JF λe _=>(n4 e).1;rw[this];exact H.kn
  .refine⟨show S.m+1<=2000 by omega,?_,show S.first.length<=S.m+1 by omega,?_⟩
   .rw[u,Iq];show S.says.length<=S.m+1;omega
   .rw[u];intro e r;obtain⟨v,s,rfl⟩:=IC.mp r;have:=B.2.2.2 v s;show(P4 S p ch v).2.2.length<=S.m+1;unfold P4;by_cases D:v.1=p
    .rw[if_pos D];simp;omega
    .rw[if_neg D];omega
  .refine⟨by simp,λa o q n=>k a o q λz=>n ?_,λa h=>.inl (by rw[C]at h;exact h)⟩;rw[z];refine .tail _ (.tail _ (.tail _ (.tail _ ?_)));exact IC.mpr ⟨_,f,rfl⟩
 .rw[I]at J;have U:S3 S p=none:=by simpa using J
  have E:(W3 S).length<LIM:=by
   refine j5 ?_;unfold W3;rw[Iq];omega
  refine⟨E,?_⟩;have Q:Z2 (W3 S) [p.1,p.2] (.ref A.length)=W3 (W5 S p ch A.length):=by rw[vQ];exact FQ U
  rw[Q];have T:A.length≠c.G+3:=by omega
  have h4:((A++[PO.lst []]).set (c.G+3) (PO.dT (W3 (W5 S p ch A.length))))[A.length]?=some (.lst []):=(G2 T).trans aj;have h5:((A++[PO.lst []]).set (c.G+3) (PO.dT (W3 (W5 S p ch A.length))))[c.G]?=some _:=(G2 (by omega)).trans a1;refine⟨_,_,rfl,h4,?_⟩;walk_at "gb";refine⟨rfl,A.length,?_⟩;have k:∀a o,A[a]?=some o->a≠c.G+3->(((A++[PO.lst []]).set (c.G+3) (PO.dT (W3 (W5 S p ch A.length)))).set A.length (PO.lst ([]++[PV.tup [.int S.now,.tup (ch.map .int)]])))[a]?=some o:=λa o q n=>(G2 (by have:=E5 q;omega)).trans ((G2 n).trans (az q));have C:sadr (W5 S p ch A.length)=sadr S++[A.length]:=by rw[vR];exact FU U
  have u:(W5 S p ch A.length).says=S.says++[(p,A.length,[(S.now,ch)])]:=by unfold W5;simp only;rw[U];rfl
  have a4:∀e∈S.says,e.2.1<A.length:=λe r=>E5 (H.rows e r);refine⟨⟨⟨⟨k _ _ H.plan.web.ob (by omega),k _ _ H.plan.web.ls (by omega)⟩,k _ _ H.plan.ob (by omega),k _ _ H.plan.ls (by omega),k _ _ H.plan.ld (by omega),k _ _ H.plan.lk (by omega)⟩,k _ _ H.ob (by omega),k _ _ H.fl (by omega),k _ _ H.tl (by omega),(G2 (JW T)).trans (aT h3),k _ _ H.ul (by omega),?_,H.lt,?_,?_,?_,H.ln,H.lp,H.pg,?_⟩,?_⟩
  .rw[u];intro e r;rcases IV.mp r with z | z
   .have:=H.hi e.2.1 (IC.mpr ⟨e,z,rfl⟩);exact k _ _ (H.rows e z) (by omega)
   .rw[Iy.mp z];exact aT h4
  .rw[C];intro a ha;rcases IV.mp ha with z | z
   .exact H.hi a z
   .rw[Iy.mp z];omega
  .rw[C,KD];refine⟨H.an,by simp,λx Y y hy z=>?_⟩;rw[Iy.mp hy]at z;obtain⟨e,r,rfl⟩:=IC.mp Y;have:=a4 e r;omega
  .rw[u,Jy,KD];refine⟨H.kn,by simp,λx Y y hy z=>?_⟩;have a6:y=p:=by simpa using hy
   rw[z,a6]at Y;exact look_none.mp U Y
  .refine⟨show S.m+1<=2000 by omega,?_,show S.first.length<=S.m+1 by omega,?_⟩
   .rw[u,IU];show S.says.length+1<=S.m+1;omega
   .rw[u];intro e r;show e.2.2.length<=S.m+1;rcases IV.mp r with z | z
    .have:=B.2.2.2 e z;omega
    .rw[Iy.mp z];simp
  .refine⟨by simp,λa o q n=>k a o q λz=>n ?_,λa h=>?_⟩
   .rw[z];exact .tail _ (.tail _ Iz)
   .rw[C]at h;rcases IV.mp h with z | z
    .exact .inl z
    .rw[Iy.mp z];exact .inr (Iw _)
theorem FY(H:bC A c S){ch:List Int}(v:S.first.length<S.m){d x:PV}:Wp (T4 (jl (H8 (aa 0) 15) (aa 3) (H8 (aa 0) 12)) [some (.ref c.G),some d,some x,some (.tup (ch.map .int))]) A
 (λo i=>o=.nx [some (.ref c.G),some d,some x,some (.tup (ch.map .int))]/\bC i c (gQ S ch)/\cK c S (gQ S ch) A i) NoX:=by
 have y:=H.ob;have j:=H.ul;have B:=H.lt;have l:M3 (gu S) ch=(t6 S ch).map .int:=vL S ch;have b:=H.sz;refine qc (dS ?_);walk_at "gb";refine⟨_,_,qH ch,j,λw f=>?_,λf=>?_⟩
 .rw[l]at f;have s:(t6 S ch).isSome=true:=by
   obtain⟨t,u,_⟩:=Jg.mp f;rw[u];rfl
  have e:gQ S ch=S:=by unfold gQ;rw[if_pos s]
  rw[e];exact⟨rfl,H,.refl⟩
 .rw[l]at f;have p:t6 S ch=none:=by simpa using f
  refine⟨j5 (by unfold gu;rw[Iq];omega),rfl,?_⟩;have e:(gQ S ch).first=S.first++[(ch,S.now)]:=by unfold gQ;simp only;rw[p];rfl
  have g:Z2 (gu S) ch (.int S.now)=gu (gQ S ch):=by
   rw[kK]
   .unfold gu;rw[e];simp
   .intro z;have e:(gu S).map (·.1)=S.first.map (·.1):=by unfold gu;simp[My]
    rw[e]at z;exact look_none.mp p z
  rw[g];have k:∀a o,A[a]?=some o->a≠c.G+4->(A.set (c.G+4) (PO.dT (gu (gQ S ch))))[a]?=some o:=λa o q n=>(G2 n).trans q;refine⟨⟨⟨⟨k _ _ H.plan.web.ob (by omega),k _ _ H.plan.web.ls (by omega)⟩,k _ _ H.plan.ob (by omega),k _ _ H.plan.ls (by omega),k _ _ H.plan.ld (by omega),k _ _ H.plan.lk (by omega)⟩,k _ _ H.ob (by omega),k _ _ H.fl (by omega),k _ _ H.tl (by omega),k _ _ H.sl (by omega),aT j,λe r=>k _ _ (H.rows e r) ?_,H.lt,H.hi,H.an,H.kn,H.ln,H.lp,H.pg,⟨b.1,b.2.1,?_,b.2.2.2⟩⟩,⟨by simp,λa o q n=>k a o q λz=>n ?_,λa h=>.inl h⟩⟩
  .have:=H.hi e.2.1 (IC.mpr ⟨e,r,rfl⟩);omega
  .rw[e,IU];show S.first.length+1<=S.m;omega
  .rw[z];exact .tail _ (.tail _ (.tail _ Iz))
end
theorem vS{q:Type}{A:PHp}{Q:PV->PHp->Prop}{E:XP}{σ:PSt}{it:ID}{mk:PSt->PSt}{g:GD}{t:TD}{e:ED}(c:List q)(r s:q->PV)(l:q->Bool)(S:PSt->Prop)
 (h:Wp (it σ) A (λJ j=>∃n,j9 J j=.ok n j/\c.length<=n/\c.length<=LIM/\S (mk σ)/\(∀i B,j<+:B->item J i B=.ok (c.map r)[i]? B)/\
  (∀x σ B,x∈c->S σ->j<+:B->Wp (g (r x) σ) B (λd z=>z=B/\S d/\Wp (t d) B (λb p=>b=l x/\B<+:p/\(b=true->Wp (e d) p (λy C=>y=s x/\p<+:C) E)) E) E)/\
  ∀B,j<+:B->Q (.ref B.length) (B++[.lst ((c.filter l).map s)])) E):Wp (M5 it mk g t e σ) A Q E:=
 kJ (ae h λJ j k=>by
  obtain⟨n,N,O,T,U,u,hs,he⟩:=k;refine⟨c.map r,n,λi f σ B=>j<+:B/\S σ/\f=((c.take i).filter l).map s,N,by simpa using O,⟨Jk _,U,by simp⟩,λi f σ B a=>u i B a.1,λi v f σ B D a=>?_,λf σ B a=>?_⟩
  .obtain⟨a,Y,m⟩:=a;rw[Jc]at D;obtain⟨x,G,rfl⟩:=Jg.mp D;refine ae (hs x σ B (Ja G) Y a) λd z k=>?_;obtain⟨e1,H,h5⟩:=k;subst e1;refine ae h5 λb p k=>?_;obtain⟨I,p2,h6⟩:=k;have L:c.take (i+1)=c.take i++[x]:=by rw[JY,G];rfl
   refine⟨λo=>ae (h6 o) λy C k=>?_,λw=>?_⟩
   .obtain⟨h7,p3⟩:=k;refine⟨a.trans (p2.trans p3),H,?_⟩;rw[m,h7,L,Lv,Jy];have:l x=true:=by rw[<-I];exact o
    simp[this]
   .refine⟨a.trans p2,H,?_⟩;rw[m,L,Lv,Jy];have:l x=false:=by rw[<-I];exact w
    simp[this]
  .obtain⟨a,_,m⟩:=a;rw[Iq,KO (Iw _)]at m;subst m;refine⟨?_,he B a⟩;rw[Iq];exact Jm (Jq _ _) T)
section
variable{A:PHp}{c:bA}{S:LS}
noncomputable def iA(c:bA)(S:LS)(p:Int×Int)(ch:List Int):Nat:=if bt S p=true then(if U1 c S p ch=true then 15 else if gv c S ch=true then 0 else 16) else 14
theorem vT{p:Int×Int}{ch:List Int}(h:p∈c.ps/\iy c.N c.ps c.L ch/\ch.head?=some p.2):Z4 c S p ch=iA c S p ch:=by
 unfold Z4 iA;rw[if_pos h]
theorem gR(H:bC A c S)(p:Int×Int):Wp (P1 [.ref c.G,pv p]) A (λv A'=>∃n,v=.ref n/\A.length<=n/\A<+:A'/\A'[n]?=some (.lst ((rowsAt S p).map rowS))/\A'.length=n+1) NoX:=by
 unfold P1;have h:=H.ob;have i:=H.sl;walk_at "fn";refine eT (eC (fg ?_));walk_at "gb";have d:M3 (W3 S) [p.1,p.2]=(S3 S p).map λe=>.ref e.1:=vM S p;rw[d];cases b:S3 S p with
 | none=>
   have e:rowsAt S p=[]:=by unfold rowsAt;rw[b];rfl
   rw[e];show Wp (P6 (.ref A.length)) _ _ _;refine eS aj ?_;exact⟨_,rfl,by simp,(Iu _ _).trans (Iu _ _),aj,by simp⟩
 | some e=>
   have a:(p,e)∈S.says:=m9 b;have f:=H.rows _ a;have g:rowsAt S p=e.2:=by unfold rowsAt;rw[b];rfl
   rw[g];show Wp (P6 (.ref e.1)) _ _ _;refine eS (az f) ?_;exact⟨_,rfl,by simp,(Iu _ _).trans (Iu _ _),aj,by simp⟩
end
noncomputable def mx(x k:Int):Int:=((x+7919*k+1)*48271%2147483647)*((x+7919*k+1)*48271%2147483647 / 1009+69621)%2147483647
theorem vU(x k:Int):0<=mx x k/\mx x k<2147483647:=by
 unfold mx;exact⟨Ox _ (by decide),Nr _ (by decide)⟩
theorem FZ(x k:Int)(A:PHp):Wp (aK [.int x,.int k]) A (λv a=>v=.int (mx x k)/\a=A) NoX:=by
 unfold aK;walk_at "fn";walk_at "gb";refine w_mul (.inl (by decide)) ?_;walk_at "gb";refine w_mul (.inr (by decide)) ?_;walk_at "gb";refine w_mul (.inl ?_) ?_
 .have b:=Ox ((x+7919*k+1)*48271) (by decide:(2147483647:Int)≠0);have c:=Nr ((x+7919*k+1)*48271) (by decide:(0:Int)<2147483647);omega
 walk_at "gb";exact⟨rfl,rfl⟩
theorem bP(x k:Int)(A:PHp):aK [.int x,.int k] A=.ok (.int (mx x k)) A:=by
 obtain⟨v,a,e,rfl,rfl⟩:=mK (FZ x k A);exact e
set_option maxHeartbeats 2000000 in
theorem gh{A:PHp}{P w r g dl h N l:Nat}{ps:List (Int×Int)}{L c:List Int}{f:Int×Int->Int}(b:cY A P w r N ps L f g dl h)(i:S0 N ps)(j:A[l]?=some (.lst (c.map .int)))(k:c.length<=1000) :
 Wp (N6 [.ref A.length,.ref P,.ref l]) (A++[.ins 2 []]) (λv A'=>v=.non/\A<+:A'/\bC A' ⟨N,ps,L,f,c,P,w,r,g,dl,h,A.length⟩ ⟨1,[],[],[],0⟩) NoX:=by
 unfold N6;have m:=E5 j;have n:=E5 b.web.ob;have o:=E5 b.web.ls;have p:=E5 b.ob;have q:=E5 b.ls;have s:=E5 b.ld;have u:=E5 b.lk;walk_at "fn";walk_at "gb";simp only[putFld,Nat.reduceEqDiff,if_false,Mp,IU,IM,JS,Pj];refine⟨trivial,?pre,⟨b.mono (A:=A) ?pr2,?ob,?fl,?tl,?sl,?ul,λe x=>(nomatch x),⟨p,n,o,q,s,u⟩,λa d=>(nomatch d),.nil,.nil,.nil,λa d=>(nomatch d),i,by simp⟩⟩
 case pre=>walk_at "pre"
 case pr2=>walk_at "pre"
 case ob=>
  show _=some (PO.ins 2 [(6,.ref P),(7,.ref (A.length+1)),(11,.tup (c.map .int)),(12,.int 1),(13,.ref (A.length+1+1)),(14,.ref (A.length+1+1+1)),(15,.ref (A.length+1+1+1+1))]);walk_at "st"
 case fl=>walk_at "st"
 case tl=>show(_:PHp)[A.length+1+1]?=some (PO.dT []);walk_at "st"
 case sl=>show(_:PHp)[A.length+1+1+1]?=some (PO.dT []);walk_at "st"
 case ul=>show(_:PHp)[A.length+1+1+1+1]?=some (PO.dT []);walk_at "st"
noncomputable def ordT(c:Int)(N:Nat):List (List Int):=(Jj N).map λ(k:Nat)=>[mx c (20+k),(k:Int)]
noncomputable def R0(c:Int)(N:Nat):List Int:=(aG lexLt (ordT c N)).map λt=>t.getD 1 0
theorem o6(c:Int)(N:Nat):(R0 c N).Perm (c8 N):=by
 unfold R0;refine((N1 _ _).map _).trans ?_;unfold ordT c8;rw[IT];exact List.Perm.refl _
noncomputable def i5(c:Int)(N:Nat):List (Int×Int):=(Jj N).map λ(k:Nat)=>((R0 c N).getD (if k=0 then N - 1 else k - 1) 0,(R0 c N).getD k 0)
theorem Ga{c:Int}{N:Nat}:∀t∈ordT c N,t≠[]:=λt a=>by
 unfold ordT at a;obtain⟨k,_,rfl⟩:=IC.mp a;simp
theorem Gb{c:Int}{N k:Nat}(b:k<N):∃u,atI ((aG lexLt (ordT c N)).map λt=>PV.tup (t.map .int)) (k:Int)=some (.tup [.int u,.int ((R0 c N).getD k 0)]):=by
 have d:(aG lexLt (ordT c N)).length=N:=by rw[(N1 _ _).length_eq];simp[ordT]
 have a:(aG lexLt (ordT c N))[k]'(by omega)∈ordT c N:=(N1 lexLt (ordT c N)).mem_iff.mp (LV _);rw[Ez (by rw[Iq];omega)];unfold R0;have e:((aG lexLt (ordT c N)).map λt=>t.getD 1 0).getD k 0=((aG lexLt (ordT c N))[k]'(by omega)).getD 1 0:=by
  simp[show k<(aG lexLt (ordT c N)).length by omega]
 rw[e,LW];generalize(aG lexLt (ordT c N))[k]'(by omega)=t at a;unfold ordT at a;obtain⟨j,_,rfl⟩:=IC.mp a;exact⟨_,rfl⟩
theorem dX{A:PHp}{w r:Nat}{n h:Int}{ps:List (Int×Int)}(W:bG A w r n ps)(e:ps.length<64) :
 M9 [.ref w,.int h] A=.ok (.ref A.length) (A++[.lst ((m7 (srt ps) h).map .int)]):=by
 have c:X9 [some (.ref w),some (.int h)] A=.ok (.ref A.length) (A++[.lst ((m7 (srt ps) h).map .int)]):=by
  rw[<-Fc];refine sy (a:=r) (S:=λb=>∃x y,b=[x,y,some _]) (by simp[W.ob,W.ls]) (by simp[W.ls]) (aE (by simp[aX,(L9 ps).length_eq];omega)) ⟨_,_,rfl⟩ ?_;rintro v d b ⟨x,y,rfl⟩;obtain⟨p,f,rfl⟩:=W6 d;refine⟨[some (.int p.1),some (.int p.2),some _],by simp[pv],⟨_,_,rfl⟩,by simp[bI]<;>exact decide_eq_decide.mpr Iff.rfl,by simp⟩
 simp[M9,c]
theorem dY{A:PHp}{w r:Nat}{n h:Int}{ps:List (Int×Int)}(W:bG A w r n ps)(e:ps.length<64) :
 N0 [.ref w,.int h] A=.ok (.ref A.length) (A++[.lst ((m8 (srt ps) h).map .int)]):=by
 have c:Y1 [some (.ref w),some (.int h)] A=.ok (.ref A.length) (A++[.lst ((m8 (srt ps) h).map .int)]):=by
  rw[<-Fd];refine sy (a:=r) (S:=λb=>∃x y,b=[x,y,some _]) (by simp[W.ob,W.ls]) (by simp[W.ls]) (aE (by simp[aX,(L9 ps).length_eq];omega)) ⟨_,_,rfl⟩ ?_;rintro v d b ⟨x,y,rfl⟩;obtain⟨p,f,rfl⟩:=W6 d;refine⟨[some (.int p.1),some (.int p.2),some _],by simp[pv],⟨_,_,rfl⟩,by simp[bI]<;>exact decide_eq_decide.mpr Iff.rfl,by simp⟩
 simp[N0,c]
noncomputable def bj(c:bA)(a:Int):List (Int×Int):=c.ps.filter λp=>decide (p.2=a)
noncomputable def bu(c:bA)(a:Int):List (Int×Int):=c.ps.filter λp=>decide (p.1=a)
structure dG(A:PHp)(c:bA)(S:LS)(k:Nat)(me:Int):Prop where
 led:bC A c S
 ob:A[k]?=some (.ins 5 [(17,.int me)])
 srt:srt c.ps=c.ps
section
variable{A B:PHp}{c:bA}{S:LS}{k:Nat}{me:Int}
theorem dG.mono(H:dG A c S k me)(e:A<+:B):dG B c S k me:=⟨H.led.mono e,ai e H.ob,H.srt⟩
theorem c9(H:dG A c S k me):(bj c me).length<64:=Mo (Jq _ _) H.led.pg.len
theorem mT(H:dG A c S k me):(bu c me).length<64:=Mo (Jq _ _) H.led.pg.len
theorem cx(H:dG A c S k me):Wp (D0 [.ref k,.ref c.G]) A (λv A'=>∃n,v=.ref n/\A.length<=n/\A<+:A'/\A'[n]?=some (.lst (aX (bj c me)))) NoX:=by
 unfold D0;have f:=H.led.ob;have h:=H.led.plan.ob;have j:=H.ob;have m:=H.led.plan.web.ob;walk_at "fn";walk_at "gb";unfold T2;refine N2 (l:=(m7 (srt c.ps) me).map .int) (λa=>∃x,a=[x,some (.ref k)]) (λ_=>true) (λv=>match v with | .int g=>pv (g,me) | _=>.non) ?_;walk_at "gb";refine w_eq (dX H.led.plan.web H.led.pg.len) ?_;walk_at "gb";have o:=c9 H;have b:(m7 (srt c.ps) me).length=(bj c me).length:=by unfold m7 bj;rw[Iq,H.srt]
 refine⟨_,O1 aj,Iw _,aE (by rw[Iq,b];omega),⟨_,rfl⟩,λi=>O2 aj i,?_,?_⟩
 .rintro v a d ⟨x,rfl⟩;obtain⟨g,_,rfl⟩:=IC.mp d;walk_at "go";refine⟨rfl,⟨_,rfl⟩,?_⟩;walk_at "go";refine⟨rfl,rfl,λ_=>?_⟩;walk_at "go";exact⟨rfl,rfl⟩
 .refine⟨_,rfl,by simp,(Iu _ _).trans (Iu _ _),?_⟩;rw[aj,Jd.mpr (by simp),H.srt];congr 2;unfold m7 bj aX;rw[IT,IT];refine JF λp e=>?_;have:p.2=me:=by simpa using(JZ.mp e).2
  show pv (p.1,me)=pv p;rw[<-this]
theorem cy(H:dG A c S k me):Wp (D4 [.ref k,.ref c.G]) A (λv A'=>∃n,v=.ref n/\A.length<=n/\A<+:A'/\A'[n]?=some (.lst (aX (bu c me)))) NoX:=by
 unfold D4;have f:=H.led.ob;have h:=H.led.plan.ob;have j:=H.ob;have m:=H.led.plan.web.ob;walk_at "fn";walk_at "gb";unfold Q6;refine N2 (l:=(m8 (srt c.ps) me).map .int) (λa=>∃x,a=[x,some (.ref k)]) (λ_=>true) (λv=>match v with | .int g=>pv (me,g) | _=>.non) ?_;walk_at "gb";refine w_eq (dY H.led.plan.web H.led.pg.len) ?_;walk_at "gb";have o:=mT H;have b:(m8 (srt c.ps) me).length=(bu c me).length:=by unfold m8 bu;rw[Iq,H.srt]
 refine⟨_,O1 aj,Iw _,aE (by rw[Iq,b];omega),⟨_,rfl⟩,λi=>O2 aj i,?_,?_⟩
 .rintro v a d ⟨x,rfl⟩;obtain⟨g,_,rfl⟩:=IC.mp d;walk_at "go";refine⟨rfl,⟨_,rfl⟩,?_⟩;walk_at "go";refine⟨rfl,rfl,λ_=>?_⟩;walk_at "go";exact⟨rfl,rfl⟩
 .refine⟨_,rfl,by simp,(Iu _ _).trans (Iu _ _),?_⟩;rw[aj,Jd.mpr (by simp),H.srt];congr 2;unfold m8 bu aX;rw[IT,IT];refine JF λp e=>?_;have:p.1=me:=by simpa using(JZ.mp e).2
  show pv (me,p.2)=pv p;rw[<-this]
noncomputable def qI:List Int->Int
 | []=>0
 | i::r=>ff i r
theorem Gc(l:List Int):vA (.int 0) l=.int (qI l):=by cases l<;>rfl
noncomputable def t7(S:LS)(p:Int×Int):PV:=((I9 S p).map PV.int).getD .non
noncomputable def eE(c:bA)(S:LS)(me:Int):PV:=if((bj c me).any λp=>(I9 S p).isNone)=true then .non else .int (1+qI ((bj c me).map λp=>(I9 S p).getD 0))
theorem eF(H:bC A c S)(p:Int×Int):Wp (K3 [.ref c.G,pv p]) A (λv a=>a=A/\v=t7 S p) NoX:=by
 unfold K3;have d:=H.ob;have e:=H.tl;walk_at "fn";walk_at "gb";have b:M3 (q9 S) [p.1,p.2]=(I9 S p).map .int:=qG S p;rw[b];exact⟨rfl,rfl⟩
theorem vV(S:LS):∀l:List (Int×Int),fb .non (l.map (t7 S))=l.any λp=>(I9 S p).isNone
 | []=>rfl
 | p::r=>by
   rw[Lk,<-vV S r];show(bI _ _||_)=_;congr 1;unfold t7;cases I9 S p<;>rfl
theorem eG(H:dG A c S k me):Wp (E1 [.ref k,.ref c.G]) A (λv A'=>A<+:A'/\v=eE c S me) NoX:=by
 unfold E1;have f:=H.led.ob;have r:=H.ob;have s:=c9 H;walk_at "fn";walk_at "gb";have j:Wp (O8 [some (.ref k),some (.ref c.G),none]) A (λv A'=>∃n,v=.ref n/\A<+:A'/\A'[n]?=some (.lst ((bj c me).map (t7 S)))) NoX:=by
  unfold O8;refine N2 (l:=aX (bj c me)) (λg=>∃x,g=[x,some (.ref c.G)]) (λ_=>true) (λv=>t7 S (g8 v,g9 v)) ?_;walk_at "gb";refine ae (cx H) λv m d=>?_;obtain⟨n,rfl,b,p1,a⟩:=d;have f:=ai p1 f;walk_at "gb";refine⟨_,O1 a,Iw _,aE (by unfold aX;rw[Iq];omega),⟨_,rfl⟩,λi=>O2 a i,?_,?_⟩
  .rintro v g o ⟨x,rfl⟩;obtain⟨p,_,rfl⟩:=W6 o;walk_at "go";refine⟨rfl,⟨_,rfl⟩,?_⟩;walk_at "go";refine⟨rfl,rfl,λ_=>?_⟩;walk_at "go";exact eF (H.led.mono p1) p
  .refine⟨_,rfl,p1.trans (Iu _ _),?_⟩;rw[aj,Jd.mpr (by simp)];unfold aX;rw[IT];rfl
 refine ae j λv m d=>?_;obtain⟨n,rfl,p1,b⟩:=d;walk_at "gb";refine iu b ⟨rfl,?_⟩ ?_
 .show((bj c me).map (t7 S)).all _=true;rw[List.all_map,Jo];intro p _;show plain (t7 S p)=true;unfold t7;cases I9 S p<;>rfl
 rw[vV];refine⟨_,rfl,λa=>?_,λa=>?_⟩
 .walk_at "gb";unfold eE;rw[if_pos a]
 .have e:(bj c me).map (t7 S)=((bj c me).map λp=>(I9 S p).getD 0).map .int:=by
   rw[IT];refine JF λp q=>?_;have:=List.any_eq_false.mp a p q;unfold t7;show _=PV.int ((I9 S p).getD 0);cases h:I9 S p with
   | none=>rw[h]at this;simp at this
   | some t=>rfl
  rw[e]at b;walk_at "gb";refine⟨_,_,rfl,b,?_⟩;rw[Gc];walk_at "gb";unfold eE;rw[a];rfl
end
theorem eH{A:PHp}{Q:PV->PHp->Prop}{E:XP}{σ:PSt}{e1 f:ED}(h:Wp (e1 σ) A (λx d=>∃n g,x=.ref n/\d[n]?=some (.lst g)/\Wp (f σ) d (λv c=>∃(k:Nat)(l m:List PV),v=.ref k/\c[n]?=some (.lst l)/\c[k]?=some (.lst m)/\l.length+m.length<=LIM/\Q .non (c.set n (.lst (l++m)))) E) E):Wp (lD e1 f σ) A Q E:=
 C3 (ae h λx d e=>by
  obtain⟨n,g,i,j,o⟩:=e;subst i;exact C3 (Z0 j (C3 (ae o λv c e=>by
   obtain⟨k,l,m,p,r,s,b,q⟩:=e;subst p;exact C3 (Z0 r (C3 (Z0 s (D2 b (C3 (w_eq (a:=()) rfl q))))))))))
theorem qJ{A:PHp}{σ:PSt}{it:ID}{g:GD}{s:SD}{QF:Fl->PHp->Prop}{E:XP}(h:Wp (it σ) A (λJ b=>∃(P:Nat->PSt->PHp->Prop)(a:Nat)(l:List PV),J=.lst a/\P 0 σ b/\(∀i σ B,P i σ B->G6 a B=.ok l B)/\(∀(i:Nat) v σ B,l[i]?=some v->P i σ B->Wp (g v σ) B (λc d=>Wp (s c) d (iw (P (i+1)) QF) E) E)/\∀σ B,P l.length σ B->QF (.nx σ) B) E) :
 Wp (fc it g s σ) A QF E:=C3 (ae h λJ b e=>by
 obtain⟨P,a,l,f,j,k,hs,he⟩:=e;have:=vk (it:=λ_=>ret J) (σ:=σ) (A:=b) (g:=g) (s:=s) (QF:=QF) (E:=E) P ⟨a,l,f,j,k,hs,he⟩;exact this)
section
variable{A B:PHp}{c:bA}{S:LS}{k:Nat}{me:Int}
def iB(A:PHp)(l:List PV)(v:PV)(A':PHp):Prop:=∃n,v=.ref n/\A.length<=n/\A<+:A'/\A'[n]?=some (.lst l)
noncomputable def kN(c:bA)(S:LS)(me:Int):List PV:=if S.now=1 then(bu c me).map layV else[]
theorem Gd(H:dG A c S k me)(d:me∈c.L):Wp (K0 [.ref k,.ref c.G]) A (iB A (kN c S me)) NoX:=by
 unfold K0;have g:=H.led.ob;have h:=H.led.plan.ob;have j:=H.ob;have m:=mT H;walk_at "fn";walk_at "gb";unfold Q5;walk_at "fn";walk_at "gb";rw[decide_eq_true d];refine⟨λ_=>?_,λz=>(nomatch z)⟩;walk_at "gb";unfold ax;walk_at "fn";walk_at "gb";refine⟨λa=>?_,λa=>?_⟩
 .walk_at "gb";have:S.now≠1:=by simpa using a
  unfold kN;rw[if_neg this];exact⟨_,rfl,Iw _,Iu _ _,aj⟩
 .have:S.now=1:=by simpa using a
  walk_at "gb";unfold bq;refine N2 (l:=aX (bu c me)) (λb=>∃x,b=[x]) (λ_=>true) (λv=>layV (g8 v,g9 v)) ?_;walk_at "gb";refine ae (cy H) λv o e=>?_;obtain⟨n,rfl,q,p1,a⟩:=e;walk_at "gb";refine⟨_,O1 a,Iw _,aE (by unfold aX;rw[Iq];omega),⟨_,rfl⟩,λi=>O2 a i,?_,?_⟩
  .rintro v b f ⟨x,rfl⟩;obtain⟨p,_,rfl⟩:=W6 f;walk_at "go";refine⟨rfl,⟨_,rfl⟩,?_⟩;walk_at "go";refine⟨rfl,rfl,λ_=>?_⟩;walk_at "go";exact⟨rfl,rfl⟩
  .refine⟨_,rfl,p1.length_le,p1.trans (Iu _ _),?_⟩;rw[aj,Jd.mpr (by simp)];unfold aX kN;rw[if_pos this,IT];rfl
noncomputable def df(c:bA)(S:LS)(me a:Int):List PV:=if S.now=a/\((bj c me).any λp=>U1 c S p [me])=false then(bj c me).map (i0 · [me]) else[]
theorem jb(H:dG A c S k me)(f:Int):Wp (G0 [.ref k,.ref c.G,.int f]) A (iB A (df c S me f)) NoX:=by
 unfold G0;have u:=H.led.ob;have w:=H.ob;have E:=c9 H;walk_at "fn";walk_at "gb";refine ae (cx H) λv d e=>?_;obtain⟨n,rfl,I,p1,a⟩:=e;have j:=H.mono p1;have u:=j.led.ob;have w:=j.ob;walk_at "gb";unfold ax;walk_at "fn";walk_at "gb";refine⟨λm=>?_,λm=>?_⟩
 .walk_at "gb";have:S.now≠f:=by simpa using m
  unfold df;rw[if_neg (λz=>this z.1)];exact⟨_,rfl,p1.length_le,p1.trans (Iu _ _),aj⟩
 .have g:S.now=f:=by simpa using m
  walk_at "gb";have y:Wp (M7 [some (.ref k),some (.ref c.G),some (.int f),some (.tup [.int me]),some (.ref n)]) d (λv C=>v=.ref d.length/\C=d++[.lst (((bj c me).map λp=>U1 c S p [me]).map .bl)]) NoX:=by
   unfold M7;refine N2 (l:=aX (bj c me)) (λh=>∃x,h=[x,some (.ref c.G),some (.tup [.int me])]) (λ_=>true) (λv=>.bl (U1 c S (g8 v,g9 v) [me])) ?_;walk_at "gb";refine⟨_,O1 a,Iw _,aE (by unfold aX;rw[Iq];omega),⟨_,rfl⟩,λi=>O2 a i,?_,?_⟩
   .rintro v h o ⟨x,rfl⟩;obtain⟨p,r,rfl⟩:=W6 o;have q:p∈c.ps:=(JZ.mp r).1;walk_at "go";refine⟨rfl,⟨_,rfl⟩,?_⟩;walk_at "go";refine⟨rfl,rfl,λ_=>?_⟩;walk_at "go";refine ae (dW j.led q [me]) λv s e=>?_;exact⟨e.2,e.1⟩
   .refine⟨rfl,?_⟩;rw[Jd.mpr (by simp)];unfold aX;rw[IT,IT];rfl
  refine ae y λv s e=>?_;obtain⟨rfl,rfl⟩:=e;refine⟨_,_,rfl,aj,?_⟩;have D:(((bj c me).map λp=>U1 c S p [me]).any id)=(bj c me).any λp=>U1 c S p [me]:=by rw[List.any_map];rfl
  rw[D];refine⟨_,rfl,λb=>?_,λb=>?_⟩
  .walk_at "gb";unfold df;rw[if_neg (λz=>by rw[b]at z;cases z.2)];exact⟨_,rfl,by simp;have:=p1.length_le;omega,p1.trans ((Iu _ _).trans (Iu _ _)),aj⟩
  .walk_at "gb";have a:(d++[PO.lst (((bj c me).map λp=>U1 c S p [me]).map .bl)])[n]?=some (.lst (aX (bj c me))):=az a;have p2:A<+:d++[PO.lst (((bj c me).map λp=>U1 c S p [me]).map .bl)]:=p1.trans (Iu _ _);generalize d++[PO.lst (((bj c me).map λp=>U1 c S p [me]).map .bl)]=s at *;unfold Q7;refine N2 (l:=aX (bj c me)) (λh=>∃x,h=[x,some (.tup [.int me])]) (λ_=>true) (λv=>i0 (g8 v,g9 v) [me]) ?_;walk_at "gb";refine⟨_,O1 a,Iw _,aE (by unfold aX;rw[Iq];omega),⟨_,rfl⟩,λi=>O2 a i,?_,?_⟩
   .rintro v h o ⟨x,rfl⟩;obtain⟨p,r,rfl⟩:=W6 o;walk_at "go";refine⟨rfl,⟨_,rfl⟩,?_⟩;walk_at "go";refine⟨rfl,rfl,λ_=>?_⟩;walk_at "go";exact⟨rfl,rfl⟩
   .refine⟨_,rfl,p2.length_le,p2.trans (Iu _ _),?_⟩;rw[aj,Jd.mpr (by simp)];unfold aX df;rw[if_pos ⟨g,b⟩,IT];rfl
end
noncomputable def dq(S:LS)(a x:Int)(r:Int×List Int):Bool:=decide (r.1<S.now)&&(decide (r.2.getLast?=some x)&&!decide (a∈r.2))
noncomputable def rowsOn(c:bA)(S:LS)(a x:Int):List (Int×List Int):=(bu c a).flatMap λp=>(rowsAt S p).filter (dq S a x)
section
variable{A B:PHp}{c:bA}{S:LS}{k:Nat}{me:Int}
theorem Ge(H:dG A c S k me){p:Int×Int}(J:∀r∈rowsAt S p,r.2≠[])(x:Int){a:Nat}{L:List (Int×List Int)}(N:A<+:B)(ha:A.length<=a)(hB:B[a]?=some (.lst (L.map rowS)))(hl:L.length+(rowsAt S p).length<10000){g h:Option PV} :
 Wp (L4 [some (.ref k),some (.ref c.G),some (.int x),some (.ref a),some (pv p),g,h]) B
  (λo C=>∃g h,o=.nx [some (.ref k),some (.ref c.G),some (.int x),some (.ref a),some (pv p),g,h]/\A<+:C/\C[a]?=some (.lst ((L++(rowsAt S p).filter (dq S me x)).map rowS))/\∀b,b≠a->∀o,B[b]?=some o->C[b]?=some o) NoX:=by
 unfold L4;have h1:=(H.mono N).led.ob;refine qJ ?_;walk_at "go";refine ae (gR (H.mono N).led p) λv B1 j=>?_;obtain⟨m,rfl,hm,p2,O,_⟩:=j;have Q:m≠a:=λz=>by have:=E5 hB;omega
 walk_at "go";refine⟨λi I C=>∃g h,I=[some (.ref k),some (.ref c.G),some (.int x),some (.ref a),some (pv p),g,h]/\A<+:C/\C[a]?=some (.lst ((L++((rowsAt S p).take i).filter (dq S me x)).map rowS))/\C[m]?=some (.lst ((rowsAt S p).map rowS))/\∀b,b≠a->∀o,B[b]?=some o->C[b]?=some o,m,(rowsAt S p).map rowS,rfl,⟨_,_,rfl,N.trans p2,by simpa using ai p2 hB,O,λb _ o e=>ai p2 e⟩,λi I C j=>?_,λi v I C hv j=>?_,λI C j=>?_⟩
 .obtain⟨_,_,_,_,_,q,_⟩:=j;exact M8 q
 .obtain⟨g,h,rfl,n,s,E,y⟩:=j;rw[Jc]at hv;obtain⟨r,T,rfl⟩:=Jg.mp hv;have tk:(rowsAt S p).take (i+1)=(rowsAt S p).take i++[r]:=by rw[JY,T];rfl
  have d:=J r (Ja T);have hi:=(IG.mp T).1;obtain⟨l,f⟩:∃l,r.2.getLast?=some l:=⟨_,Md d⟩;have a8:atI (r.2.map PV.int) (-1)=some (.int l):=by
   rw[vG d];rw[Md d]at f;rw[IK f]
  have a9:(((rowsAt S p).take i).filter (dq S me x)).length<=i:=Jm (Jq _ _) (by rw[JI];omega);have HC:=H.mono n;have h1:=HC.led.ob;have h3:=HC.ob;have no:dq S me x r=false->(((rowsAt S p).take (i+1)).filter (dq S me x))=((rowsAt S p).take i).filter (dq S me x):=λz=>by rw[tk,Lv];simp[z]
  have er:rowS r=.tup [.int r.1,.tup (r.2.map .int)]:=rfl;rw[er];walk_at "go";unfold aY;walk_at "go";unfold ax;walk_at "fn";walk_at "go";refine⟨λD=>?_,λD=>?_⟩
  .have U:r.1<S.now:=by simpa using D
   walk_at "go";refine⟨λu=>?_,λu=>?_⟩
   .have Y:l=x:=by simpa using u
    walk_at "go";refine⟨λw=>?_,λw=>?_⟩
    .have t3:me∉r.2:=by simpa using w
     have a1:dq S me x r=true:=by
      unfold dq;rw[f,Y];simp[U,t3]
     walk_at "go";refine⟨_,_,rfl,Y6 n ha,?_,(G2 Q).trans E,λb D o e=>(G2 D).trans (y b D o e)⟩;rw[aT s,tk,Lv,<-List.append_assoc,Jy (l₁:=L++_)];simp[a1];rfl
    .have t3:me∈r.2:=by simpa using w
     have z:dq S me x r=false:=by unfold dq;simp[t3]
     walk_at "go";exact⟨_,_,rfl,n,by rw[no z];exact s,E,y⟩
   .have Y:l≠x:=by simpa using u
    have z:dq S me x r=false:=by unfold dq;rw[f];simp[Y]
    refine⟨λz=>(nomatch z),λ_=>?_⟩;walk_at "go";exact⟨_,_,rfl,n,by rw[no z];exact s,E,y⟩
  .have U:¬r.1<S.now:=by simpa using D
   have z:dq S me x r=false:=by unfold dq;simp[U]
   refine⟨λz=>(nomatch z),λ_=>?_⟩;walk_at "go";exact⟨_,_,rfl,n,by rw[no z];exact s,E,y⟩
 .obtain⟨g,h,rfl,n,s,E,y⟩:=j;rw[Iq,Ky]at s;exact⟨_,_,rfl,n,s,y⟩
theorem Gf(H:dG A c S k me)(w:∀p,∀r∈rowsAt S p,r.2≠[])(hb:(bu c me).length*S.m<=5000/\S.m<=2000)(x:Int):Wp (E6 [.ref k,.ref c.G,.int x]) A (iB A ((rowsOn c S me x).map rowS)) NoX:=by
 unfold E6;walk_at "fn";walk_at "gb";have L:A<+:A++[PO.lst []]:=Iu _ _;have f:(A++[PO.lst []])[A.length]?=some (.lst []):=aj;generalize A++[PO.lst []]=Q at *;have y:=H.mono L;have T:=y.led.ob;have h3:=y.ob;have N:∀p,(rowsAt S p).length<=S.m:=λp=>by
  unfold rowsAt;cases h:S3 S p with
  | none=>simp
  | some e=>
    have:=H.led.sz.2.2.2 _ (m9 h);simp at *;omega
 have U:∀l:List (Int×Int),(l.flatMap λp=>(rowsAt S p).filter (dq S me x)).length<=l.length*S.m:=λl=>by
  induction l with
  | nil=>simp
  | cons p l ih=>
    rw[LK,IU,IM,Nat.succ_mul];have T:=Jq (dq S me x) (rowsAt S p);have h2:=N p;omega
 have Y:Wp (L8 [some (.ref k),some (.ref c.G),some (.int x),some (.ref A.length),none,none,none]) Q (λo B=>∃g b d,o=.nx [some (.ref k),some (.ref c.G),some (.int x),some (.ref A.length),g,b,d]/\A<+:B/\B[A.length]?=some (.lst ((rowsOn c S me x).map rowS))) NoX:=by
  unfold L8;refine qJ ?_;walk_at "gb";refine ae (cy y) λv A1 a=>?_;obtain⟨n,rfl,hn,p1,D⟩:=a;have E:n≠A.length:=λz=>by have:=E5 f;omega
  walk_at "gb";refine⟨λi u B=>∃g b d,u=[some (.ref k),some (.ref c.G),some (.int x),some (.ref A.length),g,b,d]/\A<+:B/\B[A.length]?=some (.lst ((((bu c me).take i).flatMap λp=>(rowsAt S p).filter (dq S me x)).map rowS))/\B[n]?=some (.lst (aX (bu c me))),n,aX (bu c me),rfl,⟨_,_,_,rfl,L.trans p1,by simpa using ai p1 f,D⟩,λi u B a=>?_,λi v u B I a=>?_,λu B a=>?_⟩
  .obtain⟨_,_,_,_,_,_,q⟩:=a;exact M8 q
  .obtain⟨g,b,d,rfl,J,j,q3⟩:=a;unfold aX at I;rw[Jc]at I;obtain⟨p,O,rfl⟩:=Jg.mp I;have hi:=(IG.mp O).1;have tk:(bu c me).take (i+1)=(bu c me).take i++[p]:=by rw[JY,O];rfl
   have s:(((bu c me).take i).flatMap λp=>(rowsAt S p).filter (dq S me x)).length+(rowsAt S p).length<10000:=by
    have f1:=U ((bu c me).take i);have f2:=N p;have f3:((bu c me).take i).length*S.m<=(bu c me).length*S.m:=Nat.mul_le_mul_right _ (by rw[JI];omega);omega
   walk_at "go";unfold aZ;refine ae (Ge H (w p) x J (Iw _) j s) λo C a=>?_;obtain⟨b,d,rfl,r1,r2,r3⟩:=a;refine⟨_,_,_,rfl,r1,?_,r3 n E _ q3⟩;rw[r2,tk,Nb];simp
  .obtain⟨_,_,_,rfl,J,j,_⟩:=a;unfold aX at j;rw[Iq,Ky]at j;exact⟨_,_,_,rfl,J,j⟩
 refine ae Y λo B a=>?_;obtain⟨g,b,d,rfl,p1,q⟩:=a;walk_at "gb";exact⟨_,rfl,Iw _,p1,q⟩
noncomputable def gT(c:bA)(S:LS)(me:Int):List PV:=match eE c S me with
 | .int a=>if S.now=a then(bu c me).map layV else[]
 | _=>[]
theorem Gg(H:dG A c S k me)(m:me∉c.L):Wp (K0 [.ref k,.ref c.G]) A (iB A (gT c S me)) NoX:=by
 unfold K0;have o:=H.led.ob;have s:=H.led.plan.ob;have q:=H.ob;have u:=mT H;walk_at "fn";walk_at "gb";unfold Q5;walk_at "fn";walk_at "gb";rw[decide_eq_false m];refine⟨λz=>(nomatch z),λ_=>?_⟩;walk_at "gb";refine ae (eG H) λv w f=>?_;obtain⟨p1,rfl⟩:=f;have g:=H.mono p1;have o:=g.led.ob;have q:=g.ob;by_cases a:((bj c me).any λp=>(I9 S p).isNone)=true
 .have e:eE c S me=.non:=by unfold eE;rw[if_pos a]
  have h:gT c S me=[]:=by unfold gT;rw[e]
  rw[e,h];walk_at "gb";unfold ax;walk_at "fn";walk_at "gb";refine vg rfl rfl ?_;walk_at "gb";exact⟨_,rfl,p1.length_le,p1.trans (Iu _ _),aj⟩
 .obtain⟨b,e⟩:∃b,eE c S me=.int b:=by unfold eE;rw[if_neg a];exact⟨_,rfl⟩
  have h:gT c S me=if S.now=b then(bu c me).map layV else[]:=by unfold gT;rw[e]
  rw[e,h];walk_at "gb";unfold ax;walk_at "fn";walk_at "gb";refine⟨λa=>?_,λa=>?_⟩
  .walk_at "gb";have:S.now≠b:=by simpa using a
   rw[if_neg this];exact⟨_,rfl,p1.length_le,p1.trans (Iu _ _),aj⟩
  .have d:S.now=b:=by simpa using a
   walk_at "gb";unfold bq;refine N2 (l:=aX (bu c me)) (λj=>∃x,j=[x]) (λ_=>true) (λv=>layV (g8 v,g9 v)) ?_;walk_at "gb";refine ae (cy g) λv y f=>?_;obtain⟨n,rfl,C,p2,a⟩:=f;walk_at "gb";refine⟨_,O1 a,Iw _,aE (by unfold aX;rw[Iq];omega),⟨_,rfl⟩,λi=>O2 a i,?_,?_⟩
   .rintro v j r ⟨x,rfl⟩;obtain⟨p,_,rfl⟩:=W6 r;walk_at "go";refine⟨rfl,⟨_,rfl⟩,?_⟩;walk_at "go";refine⟨rfl,rfl,λ_=>?_⟩;walk_at "go";exact⟨rfl,rfl⟩
   .refine⟨_,rfl,(p1.trans p2).length_le,(p1.trans p2).trans (Iu _ _),?_⟩;rw[aj,Jd.mpr (by simp)];unfold aX;rw[if_pos d,IT];rfl
end
theorem dZ(l:List (Int×List Int)):N4 (l.map rowS)=true:=(u5 _).mpr λx a=>by
 obtain⟨r,_,rfl⟩:=IC.mp a;show([PV.int r.1,.tup (r.2.map .int)].all z8)=true;simp[z8,jQ]
theorem Gh{A:PHp}{Q:PV->PHp->Prop}{E:XP}{σ:PSt}{e:ED}(h:Wp (e σ) A (λx a=>∃n t ts,x=.ref n/\a[n]?=some (.lst ((t::ts).map λt=>.tup (t.map .int)))/\(∀u∈t::ts,u≠[])/\Q (.tup ((Y8 t ts).map .int)) a) E):Wp (oE e σ) A Q E:=
 C3 (ae h λx a b=>by
  obtain⟨n,t,ts,c,d,f,q⟩:=b;subst c;refine C3 (Z0 d ?_);rw[u6 _ f];exact q)
theorem Gi{σ:PSt}{A:PHp}{Q:PV->PHp->Prop}{E:XP}{e1 b:ED}(h:Wp (e1 σ) A (λx c=>Wp (b σ) c (λy d=>∃i j,x=.int i/\y=.int j/\Q (.int (if j > i then j else i)) d) E) E):Wp (ou e1 b σ) A Q E:=
 C3 (ae h λx c a=>C3 (ae a λy d a=>by
  obtain⟨i,j,e,f,q⟩:=a;subst e f;exact q))
theorem jc{σ:PSt}{A:PHp}{Q:PV->PHp->Prop}{E:XP}{e:ED}(h:Wp (e σ) A (λx a=>∃n i r,x=.ref n/\a[n]?=some (.lst ((i::r).map .int))/\Q (.int (l3 i r)) a) E):Wp (oi e σ) A Q E:=
 C3 (ae h λx a b=>by
  obtain⟨n,i,r,c,d,q⟩:=b;subst c;refine C3 (T8 d ?_);rw[S8];exact q)
noncomputable def leastOn(l:List (Int×List Int)):List Int:=match l.map (·.2)with
 | []=>[]
 | t::r=>Y8 t r
noncomputable def mU(l:List (Int×List Int)):Int:=match l.map (·.1)with
 | []=>0
 | t::r=>l3 t r
noncomputable def jd(c:bA)(S:LS)(a x b:Int):Int:=if 1+mU (rowsOn c S a x) > b then 1+mU (rowsOn c S a x) else b
noncomputable def bB(c:bA)(S:LS)(a x b:Int):List PV:=if rowsOn c S a x=[]\/S.now≠jd c S a x b then[] else
 ((bj c a).filter λp=>!U1 c S p (a::leastOn (rowsOn c S a x))).map (i0 · (a::leastOn (rowsOn c S a x)))
section
variable{A B:PHp}{c:bA}{S:LS}{k:Nat}{me:Int}
theorem bestK_mem:∀(ts:List (List Int))(t:List Int),Y8 t ts=t\/Y8 t ts∈ts
 | [],t=>.inl rfl
 | u::ts,t=>by
   show Y8 (if keyLt u t then u else t) ts=t\/Y8 (if keyLt u t then u else t) ts∈u::ts;rcases bestK_mem ts (if keyLt u t then u else t)with z | z
   .rw[z];split
    .exact .inr Iz
    .exact .inl rfl
   .exact .inr (IE _ z)
theorem vW{l:List (Int×List Int)}(h:l≠[]):∃r∈l,leastOn l=r.2:=by
 cases l with
 | nil=>exact absurd rfl h
 | cons r l=>
   show ∃a∈r::l,Y8 r.2 (l.map (·.2))=a.2;rcases bestK_mem (l.map (·.2)) r.2 with z | z
   .exact⟨r,Iz,z⟩
   .obtain⟨u,b,e⟩:=IC.mp z;exact⟨u,IE _ b,e.symm⟩
theorem gi(H:dG A c S k me)(Y:∀p,∀r∈rowsAt S p,r.2≠[]/\r.2.length<=100)(hb:(bu c me).length*S.m<=5000/\S.m<=2000)(x g:Int):Wp (G4 [.ref k,.ref c.G,.int x,.int g]) A (iB A (bB c S me x g)) NoX:=by
 unfold G4;have h3:=H.ob;have hl:=c9 H;walk_at "fn";walk_at "gb";refine ae (Gf H (λp r w=>(Y p r w).1) hb x) λv A1 C=>?_;obtain⟨n,rfl,hn,p1,a0⟩:=C;have O:∀r∈rowsOn c S me x,r.2≠[]/\r.2.length<=100:=λr w=>by
  unfold rowsOn at w;obtain⟨p,_,w⟩:=List.mem_flatMap.mp w;exact Y p r (JZ.mp w).1
 have I:(rowsOn c S me x).length<=10000:=by
  have rm:∀p,(rowsAt S p).length<=S.m:=λp=>by
   unfold rowsAt;cases h:S3 S p with
   | none=>simp
   | some e=>
     have:=H.led.sz.2.2.2 _ (m9 h);simp at *;omega
  have fl:∀l:List (Int×Int),(l.flatMap λp=>(rowsAt S p).filter (dq S me x)).length<=l.length*S.m:=λl=>by
   induction l with
   | nil=>simp
   | cons p l ih=>
     rw[LK,IU,IM,Nat.succ_mul];have h1:=Jq (dq S me x) (rowsAt S p);have h2:=rm p;omega
  have:=fl (bu c me);show((bu c me).flatMap λp=>(rowsAt S p).filter (dq S me x)).length<=10000;omega
 have H1:=H.mono p1;have h1:=H1.led.ob;have h3:=H1.ob;walk_at "gb";refine ir (az a0) aj ⟨dZ _,rfl⟩ ⟨_,rfl,λj=>?_,λj=>?_⟩
 .have e:rowsOn c S me x=[]:=by
   cases h:rowsOn c S me x with
   | nil=>rfl
   | cons r l=>rw[h]at j;cases j
  walk_at "gb";unfold bB;rw[if_pos (.inl e)];exact⟨_,rfl,by simp;have:=p1.length_le;omega,p1.trans ((Iu _ _).trans (Iu _ _)),aj⟩
 .have o:rowsOn c S me x≠[]:=λz=>by rw[z]at j;cases j
  have p2:A1<+:A1++[PO.lst []]:=Iu _ _;have H2:=H1.mono p2;have q:=ai p2 a0;have b2:=p1.trans p2;generalize A1++[PO.lst []]=A2 at *;have h1:=H2.led.ob;have h3:=H2.ob;walk_at "gb";unfold ax;walk_at "fn";walk_at "gb";have b3:Wp (N7 [some (.ref k),some (.ref c.G),some (.int x),some (.int g),some (.ref n),none,none]) A2 (λv A'=>∃m,v=.ref m/\A2<+:A'/\A'[m]?=some (.lst (((rowsOn c S me x).map (·.1)).map .int))) NoX:=by
   unfold N7;refine vS (rowsOn c S me x) rowS (λr=>.int r.1) (λ_=>true) (λJ=>∃a b,J=[a,b]) ?_;walk_at "go";refine⟨_,O1 q,by rw[Iq];exact Iw _,aE I,⟨_,_,rfl⟩,λi B1 d=>O2 (ai d q) i,?_,λB1 d=>?_⟩
   .rintro r J B1 w ⟨a,b,rfl⟩ d;unfold rowS;walk_at "go";refine⟨rfl,⟨_,_,rfl⟩,?_⟩;walk_at "go";refine⟨rfl,Jk _,λ_=>?_⟩;walk_at "go";exact⟨rfl,Jk _⟩
   .refine⟨_,rfl,Q4 d,?_⟩;rw[aj,Jd.mpr (by simp),IT];rfl
  refine Gi ?_;walk_at "gb";refine jc (ae b3 λv A3 C=>?_);obtain⟨m,rfl,d,hm⟩:=C;obtain⟨D,L,f⟩:∃D L,rowsOn c S me x=D::L:=by
   cases h:rowsOn c S me x with
   | nil=>exact absurd h o
   | cons r l=>exact⟨r,l,rfl⟩
  have a3:mU (rowsOn c S me x)=l3 D.1 (L.map (·.1)):=by rw[f];rfl
  have E:leastOn (rowsOn c S me x)=Y8 D.2 (L.map (·.2)):=by rw[f];rfl
  have N:=ai d q;have H3:=H2.mono d;have Q:=b2.trans d;have h1:=H3.led.ob;have h3:=H3.ob;refine⟨m,D.1,L.map (·.1),rfl,by rw[hm,f];rfl,?_⟩;walk_at "gb";have a4:(if 1+l3 D.1 (L.map (·.1)) > g then 1+l3 D.1 (L.map (·.1)) else g)=jd c S me x g:=by unfold jd;rw[a3]
  refine⟨g,_,rfl,rfl,?_⟩;rw[a4];walk_at "gb";refine⟨λT=>?_,λT=>?_⟩
  .have s:S.now≠jd c S me x g:=by simpa using T
   walk_at "gb";unfold bB;rw[if_pos (.inr s)];exact⟨_,rfl,Q.length_le,Q.trans (Iu _ _),aj⟩
  .have s:S.now=jd c S me x g:=by simpa using T
   walk_at "gb";have b5:Wp (N8 [some (.ref k),some (.ref c.G),some (.int x),some (.int g),some (.ref n),none,none]) A3 (λv A'=>∃m,v=.ref m/\A3<+:A'/\A'[m]?=some (.lst ((rowsOn c S me x).map λr=>.tup (r.2.map .int)))) NoX:=by
    unfold N8;refine vS (rowsOn c S me x) rowS (λr=>.tup (r.2.map .int)) (λ_=>true) (λJ=>∃a b,J=[a,b]) ?_;walk_at "go";refine⟨_,O1 N,by rw[Iq];exact Iw _,aE I,⟨_,_,rfl⟩,λi B1 d=>O2 (ai d N) i,?_,λB1 d=>?_⟩
    .rintro r J B1 w ⟨a,b,rfl⟩ d;unfold rowS;walk_at "go";refine⟨rfl,⟨_,_,rfl⟩,?_⟩;walk_at "go";refine⟨rfl,Jk _,λ_=>?_⟩;walk_at "go";exact⟨rfl,Jk _⟩
    .refine⟨_,rfl,Q4 d,?_⟩;rw[aj,Jd.mpr (by simp)]
   refine Gh (ae b5 λv A4 C=>?_);obtain⟨m2,rfl,p4,b6⟩:=C;refine⟨m2,D.2,L.map (·.2),rfl,by rw[b6,f];simp,λu hu=>?_,?_⟩
   .rcases IF.mp hu with rfl | hu
    .exact(O D (by rw[f];exact Iz)).1
    .obtain⟨r,w,rfl⟩:=IC.mp hu;exact(O r (by rw[f];exact IE _ w)).1
   rw[<-E];obtain⟨rl,c0,c1⟩:=vW o;have e6:(leastOn (rowsOn c S me x)).length<=100:=by rw[c1];exact(O rl c0).2
   have H4:=H3.mono p4;have c2:=Q.trans p4;have h1:=H4.led.ob;have h3:=H4.ob;have ew:bB c S me x g=((bj c me).filter λp=>!U1 c S p (me::leastOn (rowsOn c S me x))).map (i0 · (me::leastOn (rowsOn c S me x))):=by
    unfold bB;rw[if_neg (by rintro(z | z);exact o z;exact z s)]
   rw[ew];generalize leastOn (rowsOn c S me x)=U at *;walk_at "gb";refine fW ⟨by simp,aE (by simp;omega)⟩ ?_;have et:([PV.int me]++U.map PV.int)=(me::U).map PV.int:=rfl;rw[et];walk_at "gb";unfold bc;refine N2 (l:=aX (bj c me)) (λJ=>∃x,J=[x,some (.ref c.G),some (.tup ((me::U).map .int))]) (λv=>!U1 c S (g8 v,g9 v) (me::U)) (λv=>i0 (g8 v,g9 v) (me::U)) ?_;walk_at "gb";refine ae (cx H4) λv A5 C=>?_;obtain⟨n5,rfl,e9,p5,a5⟩:=C;have H5:=H4.mono p5;have h1:=H5.led.ob;walk_at "gb";refine⟨_,O1 a5,Iw _,aE (by unfold aX;rw[Iq];omega),⟨_,rfl⟩,λi=>O2 a5 i,?_,?_⟩
   .rintro v J hv ⟨y,rfl⟩;obtain⟨p,hp,rfl⟩:=W6 hv;have c3:p∈c.ps:=(JZ.mp hp).1;walk_at "go";refine⟨rfl,⟨_,rfl⟩,?_⟩;walk_at "go";refine ae (dW H5.led c3 (me::U)) λv A6 C=>?_;obtain⟨rfl,rfl⟩:=C;refine⟨_,rfl,rfl,rfl,λ_=>?_⟩;walk_at "go";exact⟨rfl,rfl⟩
   .have a6:=c2.trans p5;refine⟨_,rfl,a6.length_le,a6.trans (Iu _ _),?_⟩;rw[aj];unfold aX;rw[LC,IT];rfl
noncomputable def i6(c:bA)(S:LS)(me:Int):List PV:=match eE c S me with
 | .int a=>c.L.flatMap λx=>if x=me then df c S me a else bB c S me x a
 | _=>[]
theorem qK(H:dG A c S k me)(x a:Int):(bB c S me x a).length<64:=by
 unfold bB;split
 .simp
 .rw[Iq];exact Mo (Jq _ _) (c9 H)
theorem qL(H:dG A c S k me)(a:Int):(df c S me a).length<64:=by
 unfold df;split
 .rw[Iq];exact c9 H
 .simp
theorem gj(H:dG A c S k me)(hL:c.L.length<=6)(w:∀p,∀r∈rowsAt S p,r.2≠[]/\r.2.length<=100)(Y:(bu c me).length*S.m<=5000/\S.m<=2000):Wp (P2 [.ref k,.ref c.G]) A (iB A (i6 c S me)) NoX:=by
 unfold P2;have h1:=H.led.ob;have J:=H.ob;walk_at "fn";walk_at "gb";refine ae (eG H) λv b d=>?_;obtain⟨p1,rfl⟩:=d;have N:=H.mono p1;by_cases s:((bj c me).any λp=>(I9 S p).isNone)=true
 .have e:eE c S me=.non:=by unfold eE;rw[if_pos s]
  have y:i6 c S me=[]:=by unfold i6;rw[e]
  rw[e,y];walk_at "gb";exact⟨_,rfl,p1.length_le,p1.trans (Iu _ _),aj⟩
 .obtain⟨a,e⟩:∃a,eE c S me=.int a:=by unfold eE;rw[if_neg s];exact⟨_,rfl⟩
  have y:i6 c S me=c.L.flatMap λx=>if x=me then df c S me a else bB c S me x a:=by unfold i6;rw[e]
  rw[e,y];have u:∀l:List Int,(l.flatMap λx=>if x=me then df c S me a else bB c S me x a).length<=64*l.length:=λl=>by
   induction l with
   | nil=>simp
   | cons x l ih=>
     rw[LK,IU,IM];have g1:=qK H x a;have g2:=qL H a;split<;>omega
  walk_at "gb";have O:b<+:b++[PO.lst []]:=Iu _ _;have z:(b++[PO.lst []])[b.length]?=some (.lst []):=aj;generalize b++[PO.lst []]=A2 at *;have C:=N.mono O;have h1:=C.led.ob;have h2:=C.led.plan.ob;have J:=C.ob;have hw:Wp (V0 [some (.ref k),some (.ref c.G),some (.int a),some (.ref b.length),none]) A2 (λo B=>∃q,o=.nx [some (.ref k),some (.ref c.G),some (.int a),some (.ref b.length),q]/\b<+:B/\B[b.length]?=some (.lst (c.L.flatMap λx=>if x=me then df c S me a else bB c S me x a))) NoX:=by
   unfold V0;refine Eu (λi D B=>∃q,D=[some (.ref k),some (.ref c.G),some (.int a),some (.ref b.length),q]/\b<+:B/\B[b.length]?=some (.lst ((c.L.take i).flatMap λx=>if x=me then df c S me a else bB c S me x a))) ?_;walk_at "gb";refine⟨⟨_,rfl,O,by simpa using z⟩,λi v D B Q d=>?_,λD B d=>?_⟩
   .obtain⟨q,rfl,p2,hd⟩:=d;rw[Jc]at Q;obtain⟨x,T,rfl⟩:=Jg.mp Q;have hi:=(IG.mp T).1;have E:=N.mono p2;have J:=E.ob;have U:c.L.take (i+1)=c.L.take i++[x]:=by rw[JY,T];rfl
    have I:=u (c.L.take i);rw[JI]at I;walk_at "go";unfold bO;walk_at "gb";refine⟨λf=>?_,λf=>?_⟩
    .have g:x=me:=by simpa using f
     walk_at "gb";refine eH ?_;walk_at "gb";refine ae (jb E a) λv B1 d=>?_;obtain⟨n,rfl,hn,h,j⟩:=d;have g2:=qL H a;refine⟨_,_,_,rfl,ai h hd,j,aE (by omega),?_⟩;refine⟨_,rfl,Y6 (p2.trans h) (Iw _),?_⟩;rw[aT (ai h hd),U,Nb];simp[g]
    .have g:x≠me:=by simpa using f
     walk_at "gb";refine eH ?_;walk_at "gb";refine ae (gi E w Y x a) λv B1 d=>?_;obtain⟨n,rfl,hn,h,j⟩:=d;have g1:=qK H x a;refine⟨_,_,_,rfl,ai h hd,j,aE (by omega),?_⟩;refine⟨_,rfl,Y6 (p2.trans h) (Iw _),?_⟩;rw[aT (ai h hd),U,Nb];simp[g]
   .obtain⟨q,rfl,p2,hd⟩:=d;rw[Iq,Ky]at hd;exact⟨_,rfl,p2,hd⟩
  refine ae hw λo B d=>?_;obtain⟨q,rfl,p2,hd⟩:=d;walk_at "gb";exact⟨_,rfl,p1.length_le,p1.trans p2,hd⟩
theorem Gj(H:dG A c S k me)(d:c.L.length<=6):(i6 c S me).length<=384:=by
 unfold i6;split
 .rename_i b _;have a:∀l:List Int,(l.flatMap λx=>if x=me then df c S me b else bB c S me x b).length<=64*l.length:=λl=>by
   induction l with
   | nil=>simp
   | cons x l ih=>
     rw[LK,IU,IM];have e:=qK H x b;have f:=qL H b;split<;>omega
  have:=a c.L;omega
 .simp
noncomputable def gU(c:bA)(S:LS)(me:Int):List PV:=if me∈c.L then kN c S me else gT c S me
theorem Gk(H:dG A c S k me):(gU c S me).length<64:=by
 have a:=mT H;unfold gU kN gT;split
 .split
  .rw[Iq];exact a
  .simp
 .split
  .split
   .rw[Iq];exact a
   .simp
  .simp
theorem fD(H:dG A c S k me)(i:c.L.length<=6)(b:∀p,∀r∈rowsAt S p,r.2≠[]/\r.2.length<=100)(j:(bu c me).length*S.m<=5000/\S.m<=2000):Wp (O3 [.ref k,.ref c.G]) A (iB A (gU c S me++i6 c S me)) NoX:=by
 unfold O3;have l:=H.led.ob;have o:=H.ob;walk_at "fn";refine eT (iq ?_);walk_at "gb";have d:Wp (K0 [.ref k,.ref c.G]) A (iB A (gU c S me)) NoX:=by
  unfold gU;by_cases a:me∈c.L
  .rw[if_pos a];exact Gd H a
  .rw[if_neg a];exact Gg H a
 refine ae d λv s e=>?_;obtain⟨n,rfl,u,p1,f⟩:=e;have g:=H.mono p1;have l:=g.led.ob;have o:=g.ob;walk_at "gb";refine ae (gj g i b j) λv w e=>?_;obtain⟨m,rfl,q,p2,h⟩:=e;have x:=Gk H;have y:=Gj H i;refine eR (ai p2 f) h (aE (by omega)) ?_;exact⟨_,rfl,by have:=p1.length_le;have:=p2.length_le;omega,(p1.trans p2).trans (Iu _ _),aj⟩
end
theorem Gm{o:Type}{A:PHp}{Q:PV->PHp->Prop}{E:XP}{σ:PSt}{it:ID}{mk:PSt->PSt}{g:GD}{e:ED}(b:List o)(k l:o->PV)(S:PSt->Prop)
 (h:Wp (it σ) A (λJ c=>j9 J c=.ok b.length c/\b.length<=LIM/\S (mk σ)/\(∀i B,c<+:B->item J i B=.ok (b.map k)[i]? B)/\
  (∀x σ B,x∈b->S σ->c<+:B->Wp (g (k x) σ) B (λd p=>p=B/\S d/\Wp (e d) B (λy q=>y=l x/\B<+:q) E) E)/\
  ∀B,c<+:B->Q (.ref B.length) (B++[.lst (b.map l)])) E):Wp (M5 it mk g R1 e σ) A Q E:=
 kJ (ae h λJ c ⟨u,w,z,m,hs,he⟩=>⟨b.map k,b.length,λi a σ B=>c<+:B/\S σ/\a=(b.take i).map l,u,by simp,⟨Jk _,z,by simp⟩,λi a σ B ⟨f,_⟩=>m i B f,λi v a σ B r n=>by
  obtain⟨f,C,j⟩:=n;rw[Jc]at r;obtain⟨x,s,rfl⟩:=Jg.mp r;refine ae (hs x σ B (Ja s) C f) λd p D=>?_;obtain⟨G,H,I⟩:=D;subst G;refine vi ⟨λ_=>ae I λy q ⟨L,N⟩=>⟨f.trans N,H,?_⟩,λO=>by cases O⟩;rw[j,L,JY,s];simp,λa σ B n=>by
  obtain⟨f,_,j⟩:=n;rw[Iq,KO (Iw _)]at j;subst j;exact⟨by rw[Iq];exact w,he B f⟩⟩)
theorem Gn{a:Type}(b:List a):(b.map λ_=>true).all id=true:=by simp
end Ws
local macro_rules | `(tactic| walk_at "s1")=>`(tactic| first
 | with_reducible refine Ws.w_sortedT ?_)
local macro_rules | `(tactic| walk_at "s2")=>`(tactic| with_reducible refine Ws.w_mk0 ?_)
namespace Ws
noncomputable def al:Nat->Fun
 | 0=>Z3
 | k+1=>C9 (al k)
inductive gW:Nat->PV->Prop
 | int {k:Nat} {i:Int}:gW (k+1) (.int i)
 | str {k:Nat} {x:Oq}:gW (k+1) (.str x)
 | tup {k:Nat} {l:List PV}:l.length<=1000->(∀v∈l,gW k v)->gW (k+1) (.tup l)
theorem kO{a:Type}{b:List a}{i:Nat}{x:a}(h:b[i]?=some x):atI b (i:Int)=some x:=by
 obtain⟨c,d⟩:=IG.mp h;rw[mR c,d]
theorem vX{k:Nat}{l:List PV}{a b:PV}{A:PHp}(s:l.length<=1000)(m:∀v∈l,∀B,Wp (al k [v,v]) B (λv A'=>v=.bl true/\B<+:A') NoX)
 (o:∀B (i:Nat) v {Q:PV->PHp->Prop},A<+:B->l[i]?=some v->Q v B->Wp (bW a (.int (i:Int))) B Q NoX) (q:∀B (i:Nat) v {Q:PV->PHp->Prop},A<+:B->l[i]?=some v->Q v B->Wp (bW b (.int (i:Int))) B Q NoX)
 (c:∀{e:It->PHp->Prop},e (.rng 0 l.length) A->Wp (iRng1 (o8 (aa 1)) [some a,some b]) A e NoX) :
 Wp (Y2 (al k) [some a,some b]) A (λx f=>∃n bs,x=.ref n/\f[n]?=some (.lst (OW .bl bs))/\PV.bl (bs.all id)=.bl true/\A<+:f) NoX:=by
 unfold Y2;refine Gm (Jj l.length) (λi=>.int (i:Int)) (λ_=>.bl true) (λg=>∃x,g=[x,some a,some b]) (c ?_);refine⟨by simp,by simp;exact aE (by omega),⟨_,rfl⟩,λi B p=>mO _ _,?_,λB r=>?_⟩
 .rintro i g B d ⟨x,rfl⟩ h;rw[JO]at d;have j:l[i]?=some l[i]:=IJ d;walk_at "go";refine⟨rfl,⟨_,rfl⟩,?_⟩;walk_at "go";refine o B i _ h j ?_;walk_at "go";refine q B i _ h j ?_;walk_at "go";exact m _ (LV d) B
 .refine⟨_,(Jj l.length).map λ_=>true,rfl,by rw[aj,IT];rfl,?_⟩;rw[Gn];exact⟨rfl,r.trans (Iu _ _)⟩
theorem vY:∀(k:Nat)(x:PV),gW k x->∀A,Wp (al k [x,x]) A (λv A'=>v=.bl true/\A<+:A') NoX
 | 0,_,h,_=>by cases h
 | k+1,_,.int (i:=i),A=>by
   refine w_eq (A':=A) (a:=.bl true) ?_ ⟨rfl,Jk _⟩;show C9 (al k) [.int i,.int i] A=_;simp[C9,plain,bI]
 | k+1,_,.str (x:=x),A=>by
   show Wp (C9 (al k) [.str x,.str x]) A _ _;unfold C9;walk_at "fn";walk_at "gb";exact⟨by simp,Jk _⟩
 | k+1,_,.tup (l:=l) b c,A=>by
   show Wp (C9 (al k) [.tup l,.tup l]) A _ _;unfold C9;walk_at "fn";walk_at "gb";refine vX b (λv d B=>vY k v (c v d) B) (λB i v Q p h q=>?_) (λB i v Q p h q=>?_) λ{e} q=>?_
   .exact fX (kO h) q
   .exact fX (kO h) q
   .walk_at "go";exact q
theorem eI{k:Nat}{l:List PV}{n m:Nat}{A:PHp}(b:l.length<=1000)(c:∀v∈l,gW k v)(d:A[n]?=some (.lst l))(a:A[m]?=some (.lst l)):Wp (al (k+1) [.ref n,.ref m]) A (λv A'=>v=.bl true/\A<+:A') NoX:=by
 show Wp (C9 (al k) [.ref n,.ref m]) A _ _;unfold C9;walk_at "fn";walk_at "gb";refine vX b (λv a B=>vY k v (c v a) B) (λB i v Q p h q=>?_) (λB i v Q p h q=>?_) λ{e} q=>?_
 .exact eB (ai p d) (kO h) q
 .exact eB (ai p a) (kO h) q
 .walk_at "go";exact q
section
variable{A:PHp}{c:bA}{S:LS}
theorem Gp(H:bC A c S){p:Int×Int}(u:p∈c.ps):Wp (K1 [.ref c.G,layV p]) A (λv f=>v=.non/\I9 S p=none/\bC f c (n0 S p)/\cK c S (n0 S p) A f) (λk v f=>k=13/\(I9 S p).isSome=true/\v=layV p/\f=A):=by
 unfold K1;have D:=H.ob;have w:=H.tl;walk_at "fn";have B:layV p=.tup [.str "lay",pv p]:=rfl;have j:M3 (q9 S) [p.1,p.2]=(I9 S p).map .int:=qG S p;rw[B];walk_at "gb";refine⟨λg=>?_,λg=>?_⟩
 .rw[j,Mv]at g;walk_at "gb";exact⟨rfl,rfl⟩
 .rw[j,Mv]at g;have i:I9 S p=none:=by simpa using g
  walk_at "gb";have b:(q9 S).length<LIM:=by
   refine j5 ?_;have:=H.ln.length_le_of_subset (l₂:=c.ps) H.lp;rw[Iq]at this;have:=H.pg.len;unfold q9;rw[Iq];omega
  refine⟨b,?_⟩;have d:Z2 (q9 S) [p.1,p.2] (.int S.now)=q9 (n0 S p):=FP i;rw[d];have E:=H.lt;have k:∀a o,A[a]?=some o->a≠c.G+2->(A.set (c.G+2) (PO.dT (q9 (n0 S p))))[a]?=some o:=λa o q n=>(G2 n).trans q;refine⟨trivial,i,⟨⟨⟨k _ _ H.plan.web.ob (by omega),k _ _ H.plan.web.ls (by omega)⟩,k _ _ H.plan.ob (by omega),k _ _ H.plan.ls (by omega),k _ _ H.plan.ld (by omega),k _ _ H.plan.lk (by omega)⟩,k _ _ H.ob (by omega),k _ _ H.fl (by omega),aT w,k _ _ H.sl (by omega),k _ _ H.ul (by omega),λe l=>k _ _ (H.rows e l) ?_,H.lt,H.hi,H.an,H.kn,?_,?_,H.pg,H.sz⟩,⟨by simp,λa o q n=>k a o q (λz=>n (by rw[z];exact .tail _ Iz)),λa h=>.inl h⟩⟩
  .have:=H.hi e.2.1 (IC.mpr ⟨e,l,rfl⟩);omega
  .show((S.lays++[(p,S.now)]).map (·.1)).Nodup;rw[Jy,KD];refine⟨H.ln,by simp,λx m y r=>?_⟩;rw[IC]at r;obtain⟨z,C,rfl⟩:=r;rw[Iy.mp C];intro z;rw[z]at m;exact look_none.mp i m
  .show ∀q∈(S.lays++[(p,S.now)]).map (·.1),q∈c.ps;intro q s;rw[Jy,IV]at s;rcases s with z | z
   .exact H.lp q z
   .simp at z;rw[z];exact u
theorem Gq(H:bC A c S){p:Int×Int}{ch:List Int}(s:p∈c.ps)(h:ch≠[])(u:ch.length<100)(w:S.m<2000):Wp (K2 [.ref c.G,i0 p ch]) A
 (λv g=>v=.non/\iA c S p ch=0/\∃a,bC g c (bg S p ch a)/\cK c S (bg S p ch a) A g) (λk v g=>k=iA c S p ch/\k≠0/\v=i0 p ch/\g=A):=by
 unfold K2;have B:=H.ob;have x:i0 p ch=.tup [.str "say",pv p,.tup (ch.map .int)]:=rfl;walk_at "fn";rw[x];walk_at "gb";refine ae (gg H p) λv i d=>?_;obtain⟨rfl,rfl⟩:=d;walk_at "gb";refine⟨λb=>?_,λb=>?_⟩
 .have j:bt S p=false:=by simpa using b
  walk_at "gb";refine⟨?_,by decide,rfl,rfl⟩;unfold iA;rw[j];rfl
 have l:bt S p=true:=by simpa using b
 walk_at "gb";refine ae (dW H s ch) λv i d=>?_;obtain⟨rfl,rfl⟩:=d;walk_at "gb";refine⟨λb=>?_,λb=>?_⟩
 .walk_at "gb";refine⟨?_,by decide,rfl,rfl⟩;unfold iA;rw[l,b];rfl
 rename_i y;have e:U1 c S p ch=false:=b;walk_at "gb";refine ae (ja H h u) λv i d=>?_;obtain⟨rfl,rfl⟩:=d;walk_at "gb";refine⟨λb=>?_,λb=>?_⟩
 .have j:gv c S ch=false:=by simpa using b
  walk_at "gb";refine⟨?_,by decide,rfl,rfl⟩;unfold iA;rw[l,e,j];rfl
 have n:gv c S ch=true:=by simpa using b
 refine mS (mL ?_);refine mM (mS (ae (FX H w) λo i d=>?_));obtain⟨rfl,a,z,q⟩:=d;refine mS (ae (FY z (ch:=ch) (by show S.first.length<S.m+1;have:=H.sz;omega)) λo C d=>?_);obtain⟨rfl,r,f⟩:=d;rw[FW]at r f;refine⟨trivial,?_,a,r,q.trans f⟩;unfold iA;rw[l,e,n];rfl
theorem Gr(H:bC A c S)(p:Int×Int):Wp (J9 [.ref c.G,layV p]) A
 (λv b=>v=.non/\iz c S p=0/\bC b c (n0 S p)/\cK c S (n0 S p) A b) (λk v b=>k=iz c S p/\k≠0/\v=layV p/\b=A):=by
 unfold J9;have l:=H.ob;walk_at "fn";walk_at "gb";refine vc (FK H p) λv g a=>?_;obtain⟨rfl,rfl⟩:=a;walk_at "gb";refine⟨λd=>?_,λd=>?_⟩
 .have i:p∉c.ps:=by simpa using d
  walk_at "gb";refine⟨?_,by decide,rfl,rfl⟩;unfold iz;rw[if_neg i]
 .have e:p∈c.ps:=by simpa using d
  have h:layV p=.tup [.str "lay",pv p]:=rfl;rw[h];walk_at "gb";rw[<-h];refine bX (Gp H e) (λv g a=>?_) λk v g a=>?_
  .obtain⟨rfl,f,j,st⟩:=a;refine⟨trivial,?_,j,st⟩;unfold iz;rw[if_pos e,f];rfl
  .obtain⟨rfl,f,rfl,rfl⟩:=a;refine⟨?_,by decide,rfl,rfl⟩;unfold iz;rw[if_pos e,if_pos f]
theorem Gs(H:bC A c S)(p:Int×Int){ch:List Int}(j:ch.length<100)(q:S.m<2000):Wp (J9 [.ref c.G,i0 p ch]) A
 (λv A'=>v=.non/\Z4 c S p ch=0/\∃a,bC A' c (bg S p ch a)/\cK c S (bg S p ch a) A A') (λk v A'=>k=Z4 c S p ch/\k≠0/\v=i0 p ch/\A<+:A'):=by
 unfold J9;have y:=H.ob;walk_at "fn";walk_at "gb";refine vc (FL H p j) λv B e=>?_;obtain⟨p1,b,rfl,f⟩:=e;have l:=H.mono p1;have C:=l.ob;walk_at "gb";refine⟨λg=>?_,λg=>?_⟩
 .have n:b=false:=by simpa using g
  walk_at "gb";refine⟨?_,by decide,rfl,p1⟩;unfold Z4;rw[if_neg (λz=>by rw[f.mpr z]at n;cases n)]
 .have r:b=true:=by simpa using g
  have d:=f.mp r;have o:i0 p ch=.tup [.str "say",pv p,.tup (ch.map .int)]:=rfl;rw[o];walk_at "gb";rw[<-o];obtain⟨⟨h,_⟩,_⟩:=d.2.1;refine bX (Gq l d.1 h j q) (λv s e=>?_) λk v s e=>?_
  .obtain⟨rfl,u,a,w,st⟩:=e;exact⟨trivial,by rw[vT d];exact u,a,w,(cK.pre p1).trans st⟩
  .obtain⟨x,i,rfl,rfl⟩:=e;exact⟨by rw[vT d];exact x,i,rfl,p1⟩
end
theorem Gu(N:Nat)(i:Nat):((c8 N).map PV.int)[i]?=((Jj N).map λ(k:Nat)=>PV.int (k:Int))[i]?:=by unfold c8;rw[IT];rfl
theorem vZ(f:Int×Int->PV):∀a:List (Int×Int),gp (a.map λp=>.tup [pv p,f p])=some (a.map λp=>(l2 p,f p))
 | []=>rfl
 | p::r=>by
   show(R3 _).bind _=_;rw[vZ f r];rfl
theorem wa:∀(m a:DT),(m.map (·.1)).Nodup->(∀k∈m.map (·.1),k∉a.map (·.1))->m.foldl (λa p=>Z2 a p.1 p.2) a=a++m
 | [],a,_,_=>by simp
 | p::r,a,d,h=>by
   have b:=JQ.mp d;show r.foldl _ (Z2 a p.1 p.2)=_;rw[kK (h p.1 (by simp)),wa r _ b.2 λk c=>?_]
   .simp
   .rw[Jy,IV];rintro(z | z)
    .exact h k (IE _ c) z
    .have:k=p.1:=by simpa using z
     rw[this]at c;exact b.1 c
theorem Gv{ps:List (Int×Int)}(e:ps.Nodup)(f:Int×Int->PV):(ps.map λp=>(l2 p,f p)).foldl (λc p=>Z2 c p.1 p.2) []=ps.map λp=>(l2 p,f p):=by
 rw[wa _ [] ?_ (λ_ _ z=>nomatch z)]
 .rfl
 .rw[IT];exact MR.map _ (λa b d z=>d (w5 z)) e
theorem mV{S:LS}{p:Int×Int}{ch:List Int}{a:Nat}(h:(S.says.map (·.1)).Nodup)(q:Int×Int):rowsAt (bg S p ch a) q=if q=p then rowsAt S q++[(S.now,ch)] else rowsAt S q:=by
 unfold rowsAt S3;by_cases c:(S3 S p).isSome=true
 .have e:(bg S p ch a).says=S.says.map (P4 S p ch):=by unfold bg;simp only;rw[if_pos c]
  rw[e];have lk:∀(l:List ((Int×Int)×Nat×List (Int×List Int))),look (l.map (P4 S p ch)) q=(look l q).map λe=>if q=p then(e.1,e.2++[(S.now,ch)]) else e:=by
   intro l;induction l with
   | nil=>rfl
   | cons x r ih=>
     show(if(P4 S p ch x).1=q then some (P4 S p ch x).2 else look (r.map (P4 S p ch)) q)=(if x.1=q then some x.2 else look r q).map _;rw[(n4 x).1];by_cases d:x.1=q
     .rw[if_pos d,if_pos d];unfold P4;by_cases b:q=p
      .rw[if_pos (d.trans b),Ov,if_pos b]
      .rw[if_neg (λz=>b (d.symm.trans z)),Ov,if_neg b]
     .rw[if_neg d,if_neg d];exact ih
  rw[lk];by_cases b:q=p
  .subst b;rw[if_pos rfl];cases f:look S.says q with
   | none=>unfold S3 at c;rw[f]at c;cases c
   | some e=>simp
  .rw[if_neg b];cases look S.says q<;>simp[b]
 .have g:S3 S p=none:=by simpa using c
  have e:(bg S p ch a).says=S.says++[(p,a,[(S.now,ch)])]:=by unfold bg;simp only;rw[if_neg c]
  rw[e,vO];by_cases b:q=p
  .subst b;have:look S.says q=none:=g;rw[this,if_pos rfl,vP,if_pos rfl];rfl
  .rw[if_neg b,vP,if_neg (JW b)];cases look S.says q<;>rfl
section
variable{A:PHp}{c:bA}{S:LS}
theorem wb{d:PV}{fs:List (Nat×PV)}{R:PHp->Prop}{RX:PHp->Prop}(i:A[c.G]?=some (.ins 2 fs))
 (g:Wp (J9 [.ref c.G,d]) A (λv a=>v=.non/\R a) (λk v a=>(k=12\/k=13\/k=14\/k=15\/k=16)/\RX a)) :
 Wp (K9 [.ref c.G,d]) A (λv a=>(v=.bl true/\R a)\/(v=.bl false/\∃b,RX b/\b<+:a)) NoX:=by
 unfold K9;walk_at "fn";walk_at "gb";refine Fy ?_;walk_at "gb";refine bX g (λv b e=>?_) (λk v b e=>?_)
 .obtain⟨rfl,f⟩:=e;walk_at "gb";exact .inl ⟨rfl,f⟩
 .obtain⟨h,f⟩:=e;rcases h with rfl | rfl | rfl | rfl | rfl;all_goals
   refine⟨by decide,FA rfl ?_⟩;walk_at "gb";exact .inr ⟨rfl,_,f,Jk _⟩
theorem vSay_casesK(p:Int×Int)(ch:List Int):Z4 c S p ch=0\/Z4 c S p ch=12\/Z4 c S p ch=13\/Z4 c S p ch=14\/Z4 c S p ch=15\/Z4 c S p ch=16:=by
 unfold Z4;split
 .split
  .split
   .simp
   .split<;>simp
  .simp
 .simp
theorem wc(H:bC A c S)(p:Int×Int)(d:iz c S p=0):Wp (K9 [.ref c.G,layV p]) A (λv b=>v=.bl true/\bC b c (n0 S p)/\cK c S (n0 S p) A b) NoX:=by
 refine ae (wb (R:=λb=>bC b c (n0 S p)/\cK c S (n0 S p) A b) (RX:=λ_=>False) H.ob (bX (Gr H p) (λv b a=>⟨a.1,a.2.2⟩) λk v b a=>absurd (a.1.trans d) a.2.1)) λv b a=>?_;rcases a with a | ⟨_,_,z,_⟩
 .exact a
 .exact z.elim
theorem wd(H:bC A c S)(p:Int×Int){ch:List Int}(h:ch.length<100)(i:S.m<2000):Wp (K9 [.ref c.G,i0 p ch]) A
 (λv b=>(Z4 c S p ch=0/\v=.bl true/\∃a,bC b c (bg S p ch a)/\cK c S (bg S p ch a) A b)\/(Z4 c S p ch≠0/\v=.bl false/\A<+:b)) NoX:=by
 refine ae (wb (R:=λb=>Z4 c S p ch=0/\∃a,bC b c (bg S p ch a)/\cK c S (bg S p ch a) A b) (RX:=λb=>Z4 c S p ch≠0/\A<+:b) H.ob (bX (Gs H p h i) (λv b d=>⟨d.1,d.2⟩) λk v b d=>?_)) λv b d=>?_
 .obtain⟨f,e,_,p1⟩:=d;refine⟨?_,λz=>e (f.trans z),p1⟩;rcases vSay_casesK (c:=c) (S:=S) p ch with z | z
  .exact absurd (f.trans z) e
  .rw[f];exact z
 .rcases d with⟨g,e,j⟩ | ⟨g,l,⟨e,p1⟩,p2⟩
  .exact .inl ⟨e,g,j⟩
  .exact .inr ⟨e,g,p1.trans p2⟩
end
structure Rg(N:Nat)(R:List Int)(ps:List (Int×Int)):Prop where
 len:R.length=N
 two:2<=N
 six:N<=6
 nd:R.Nodup
 inN:∀x∈R,0<=x/\x<(N:Int)
 ps:∀p:Int×Int,p∈ps↔∃k:Nat,k<N/\R[if k=0 then N - 1 else k - 1]?=some p.1/\R[k]?=some p.2
section
variable{N:Nat}{R:List Int}{ps:List (Int×Int)}{k:Nat}
theorem Rg.at(G:Rg N R ps){i j:Nat}{x:Int}(a:R[i]?=some x)(b:R[j]?=some x):i=j:=by
 obtain⟨e,c⟩:=IG.mp a;obtain⟨f,d⟩:=IG.mp b;exact(NS G.nd).mp (c.trans d.symm)
theorem Rg.chain0(G:Rg N R ps)(s:1<=k)(u:k<=N){d:Int}(g:R[0]?=some d):iy N ps [d] (R.drop k++[d]):=by
 have f:=G.len;have j:R.drop k++[d]≠[]:=by simp
 have o:∀i,(R.drop k++[d])[i]?=if i<N - k then R[k+i]? else if i=N - k then some d else none:=λi=>by
  by_cases h:i<N - k
  .rw[if_pos h,JA (by rw[JV];omega),Mq]
  .rw[if_neg h,KP (by rw[JV];omega),JV,f];by_cases l:i=N - k
   .rw[if_pos l,l,Nat.sub_self];rfl
   .rw[if_neg l,Jv (by simp;omega)]
 refine⟨⟨j,by simp⟩,?_,λx m=>?_,λi a b e c=>?_⟩
 .rw[KD];refine⟨G.nd.sublist (List.drop_sublist _ _),by simp,λx m y p=>?_⟩;rw[Iy.mp p];rintro rfl;obtain⟨i,n⟩:=OB m;rw[Mq]at n;have:=G.at n g;omega
 .rcases IV.mp m with z | z
  .exact G.inN x (OC z)
  .rw[Iy.mp z];exact G.inN d (Ja g)
 .rw[o]at e c;split at e
  .rename_i n;split at c
   .rename_i q;refine(G.ps (a,b)).mpr ⟨k+(i+1),by omega,?_,c⟩;rw[if_neg (by omega)];have:k+(i+1) - 1=k+i:=by omega
    rw[this];exact e
   .split at c
    .rename_i r;cases c;refine(G.ps (a,d)).mpr ⟨0,by omega,?_,g⟩;rw[if_pos rfl];have:N - 1=k+i:=by omega
     rw[this];exact e
    .cases c
  .split at c
   .omega
   .split at c
    .rename_i v _ w;split at e
     .omega
     .cases e
    .cases c
end
theorem we{l:List (Int×Int)}(a:l.Nodup){f:Int×Int->Bool}{x:Int×Int}(h:∀p,(p∈l/\f p=true)↔p=x):l.filter f=[x]:=by
 refine List.perm_singleton.mp ((List.perm_ext_iff_of_nodup (a.filter _) (by simp)).mpr λp=>?_);rw[JZ,h p,Iy]
structure bK(c:bA)(R:List Int)(i:Nat)(me r0:Int)(tm mn:Int×Int)(ch:List Int):Prop where
 G:Rg c.N R c.ps
 nd:c.ps.Nodup
 a1:1<=i
 a2:i<c.N
 three:3<=c.N
 hme:R[i]?=some me
 h0:R[0]?=some r0
 L:c.L=[r0]
 fr:∀h,0<=h->h<(c.N:Int)->h≠me->h∈c.fr
 t1:R[i - 1]?=some tm.1
 t2:tm.2=me
 m1:mn.1=me
 m2:R[(i+1)%c.N]?=some mn.2
 hch:ch=R.drop (i+1)++[r0]
section
variable{c:bA}{R:List Int}{i:Nat}{me r0:Int}{tm mn:Int×Int}{ch:List Int}
theorem bK.tmIff(C:bK c R i me r0 tm mn ch)(p:Int×Int):(p∈c.ps/\p.2=me)↔p=tm:=by
 have:=C.a1;have:=C.a2;constructor
 .rintro⟨d,a⟩;obtain⟨k,g,b,f⟩:=(C.G.ps p).mp d;have e:=C.G.at f (by rw[a];exact C.hme);subst e;rw[if_neg (by omega),C.t1]at b;exact Prod.ext (IK b).symm (a.trans C.t2.symm)
 .rintro rfl;refine⟨(C.G.ps p).mpr ⟨i,C.a2,?_,?_⟩,C.t2⟩
  .rw[if_neg (by omega)];exact C.t1
  .rw[C.t2];exact C.hme
theorem bK.mnIff(C:bK c R i me r0 tm mn ch)(p:Int×Int):(p∈c.ps/\p.1=me)↔p=mn:=by
 have j:=C.a1;have l:=C.a2;have a:∀k,k<c.N->((if k=0 then c.N - 1 else k - 1)=i↔k=(i+1)%c.N):=λk d=>by
  by_cases h:i+1<c.N
  .rw[Nat.mod_eq_of_lt h];split<;>omega
  .have:i+1=c.N:=by omega
   rw[this,Nat.mod_self];split<;>omega
 constructor
 .rintro⟨m,f⟩;obtain⟨k,d,n,g⟩:=(C.G.ps p).mp m;have e:=(a k d).mp (C.G.at n (by rw[f];exact C.hme));rw[e,C.m2]at g;exact Prod.ext (f.trans C.m1.symm) (IK g).symm
 .rintro rfl;have b:(i+1)%c.N<c.N:=Nat.mod_lt _ (by omega);refine⟨(C.G.ps p).mpr ⟨(i+1)%c.N,b,?_,C.m2⟩,C.m1⟩;rw[(a _ b).mpr rfl,C.m1];exact C.hme
theorem bK.toMe(C:bK c R i me r0 tm mn ch):bj c me=[tm]:=we C.nd λp=>by rw[decide_eq_true_eq];exact C.tmIff p
theorem bK.ofMe(C:bK c R i me r0 tm mn ch):bu c me=[mn]:=we C.nd λp=>by rw[decide_eq_true_eq];exact C.mnIff p
theorem bK.tmIn(C:bK c R i me r0 tm mn ch):tm∈c.ps:=((C.tmIff tm).mpr rfl).1
theorem bK.mnIn(C:bK c R i me r0 tm mn ch):mn∈c.ps:=((C.mnIff mn).mpr rfl).1
theorem bK.ne(C:bK c R i me r0 tm mn ch):tm≠mn:=λz=>by
 have e:=C.t1;rw[z,C.m1]at e;have:=C.G.at e C.hme;have:=C.a1;omega
theorem bK.ch1(C:bK c R i me r0 tm mn ch):iy c.N c.ps c.L ch:=by
 rw[C.L,C.hch];exact C.G.chain0 (by omega) (by have:=C.a2;omega) C.h0
theorem bK.chE(C:bK c R i me r0 tm mn ch):me::ch=R.drop i++[r0]:=by
 have a:i<R.length:=by rw[C.G.len];exact C.a2
 rw[C.hch,JR a];have:=C.hme;rw[IJ a]at this;rw[IK this];rfl
theorem bK.ch2(C:bK c R i me r0 tm mn ch):iy c.N c.ps c.L (me::ch):=by
 rw[C.L,C.chE];exact C.G.chain0 C.a1 (by have:=C.a2;omega) C.h0
theorem bK.hd(C:bK c R i me r0 tm mn ch):ch.head?=some mn.2:=by
 have b:=C.a2;have a:=C.m2;rw[C.hch];by_cases h:i+1<c.N
 .rw[Nat.mod_eq_of_lt h]at a;rw[List.head?_append,List.head?_drop,a];rfl
 .have:i+1=c.N:=by omega
  rw[this,Nat.mod_self,C.h0]at a;rw[this,KN (by rw[C.G.len];exact Iw _)];exact a
theorem bK.last(C:bK c R i me r0 tm mn ch):ch.getLast?=some r0:=by rw[C.hch];simp
theorem bK.notin(C:bK c R i me r0 tm mn ch):me∉ch:=by
 have:=C.ch2;obtain⟨_,a,_⟩:=this;exact(JQ.mp a).1
theorem bK.len(C:bK c R i me r0 tm mn ch):ch.length<=6:=by
 have:=C.G.len;have:=C.G.six;have:=C.a1;rw[C.hch,IU,JV];simp;omega
theorem bK.lead(C:bK c R i me r0 tm mn ch):r0≠me:=λz=>by
 have:=C.G.at C.h0 (by rw[z];exact C.hme);have:=C.a1;omega
theorem bK.frees(C:bK c R i me r0 tm mn ch):∀h∈ch,h∈c.fr:=λh b=>by
 have d:=C.ch1;obtain⟨_,_,a,_⟩:=d;have:=a h b;exact C.fr h this.1 this.2 λz=>C.notin (by rw[<-z];exact b)
theorem qM{a:Type}{f:a->Bool}:∀{l:List a},(∀x∈l,f x=true)->l.dropWhile f=[]
 | [],_=>rfl
 | x::l,h=>by
   rw[Ni (h x Iz)];exact qM λy b=>h y (IE _ b)
theorem bK.can(C:bK c R i me r0 tm mn ch)(S:LS):gv c S ch=true/\gv c S (me::ch)=true:=by
 have b:jI c.fr ch=[]:=qM λx a=>decide_eq_true (C.frees x (OC a));have d:jI c.fr (me::ch)=[]:=qM λx a=>decide_eq_true (C.frees x a);unfold gv;rw[b,d];simp
theorem bK.say1(C:bK c R i me r0 tm mn ch)(S:LS):Z4 c S mn ch=0↔(bt S mn=true/\S.now<=c.f mn+ch.length):=by
 unfold Z4;rw[if_pos ⟨C.mnIn,C.ch1,C.hd⟩,(C.can S).1];by_cases a:bt S mn=true
 .rw[if_pos a];unfold U1;by_cases b:S.now<=c.f mn+ch.length
  .rw[if_neg (by simpa using b)];simp[a,b]
  .rw[if_pos (by simpa using b)];simp[b]
 .rw[if_neg a];simp[a]
theorem bK.say2(C:bK c R i me r0 tm mn ch)(S:LS)(a:bt S tm=true)(b:S.now<=c.f tm+(me::ch).length):Z4 c S tm (me::ch)=0:=by
 unfold Z4;rw[if_pos ⟨C.tmIn,C.ch2,by rw[C.t2];rfl⟩,(C.can S).2,if_pos a];unfold U1;rw[if_neg (by simpa using b)];simp
end
theorem Gw(p:Int×Int){ch:List Int}(h:ch.length<=100):gW 4 (i0 p ch):=.tup (by simp) λv a=>by
 simp only[IF,Jl,or_false]at a;rcases a with rfl | rfl | rfl
 .exact .str
 .exact .tup (by simp) λv a=>by
   simp only[IF,Jl,or_false]at a;rcases a with rfl | rfl<;>exact .int
 .exact .tup (by rw[Iq];omega) λv a=>by
   obtain⟨i,_,rfl⟩:=IC.mp a;exact .int
theorem Gx(p:Int×Int):gW 4 (layV p):=.tup (by simp) λv a=>by
 simp only[IF,Jl,or_false]at a;rcases a with rfl | rfl
 .exact .str
 .exact .tup (by simp) λv a=>by
   simp only[IF,Jl,or_false]at a;rcases a with rfl | rfl<;>exact .int
structure gk(B:PHp)(c:bA)(S:LS)(q d kp:Nat)(ns:List Int)(ps':List (Int×Int))(m:DT)(me:Int)(tm mn:Int×Int)(ch:List Int)(ts:List Int)(t:Int):Prop where
 kpr:dG B c S kp me
 sc:B[0]?=some (.ro (ns.map .int))
 pq:B[q]?=some (.lst (aX ps'))
 dl:B[d]?=some (.dT m)
 fo:∀a,a=0\/a=q\/a=d\/a=kp->a∉own c S
 now:S.now=t
 la:∀p∈c.ps,I9 S p=if p=mn then(if 2<t then some 2 else none) else(if 1<t then some 1 else none)
 row:rowsAt S mn=ts.map λx=>(x,ch)
 hs:∀x∈ts,2<x/\x<t
 hm:∀x∈ts,∀h,ts.head?=some h->h<=x
 ne:∀p,∀r∈rowsAt S p,r.2≠[]/\r.2.length<=100
 ms:(S.m:Int)<=3*t
noncomputable def Q1(ts:List Int):PV:=match ts.head? with
 | none=>.non
 | some h=>.int h
noncomputable def gw(c:bA)(a:Int×Int)(ch:List Int)(ts:List Int)(t:Int):Bool:=match ts.head? with
 | none=>false
 | some h=>decide (t=h+1)&&decide (t<=c.f a+ch.length+1)
noncomputable def dueE(c:bA)(b:Int)(a d:Int×Int)(ch:List Int)(ts:List Int)(t:Int):List PV:=(if t=2 then[layV d] else[])++(if gw c a ch ts t=true then[i0 a (b::ch)] else[])
theorem wg:∀(r:List Int)(i:Int),(∀x∈r,i<=x)->l3 i r=i
 | [],i,_=>rfl
 | j::r,i,h=>by
   show l3 (if j<i then j else i) r=i;have:=h j Iz;rw[if_neg (by omega)];exact wg r i λx a=>h x (IE _ a)
section
variable{B B':PHp}{c:bA}{S S':LS}{q d kp:Nat}{ns:List Int}{ps':List (Int×Int)}{m:DT}{R:List Int}{i:Nat}{me r0:Int}{tm mn:Int×Int}{ch ts:List Int}{t:Int}
theorem gk.mono(H:gk B c S q d kp ns ps' m me tm mn ch ts t)(e:B<+:B'):gk B' c S q d kp ns ps' m me tm mn ch ts t:=
 ⟨H.kpr.mono e,ai e H.sc,ai e H.pq,ai e H.dl,H.fo,H.now,H.la,H.row,H.hs,H.hm,H.ne,H.ms⟩
theorem Gy(C:bK c R i me r0 tm mn ch)(H:gk B c S q d kp ns ps' m me tm mn ch ts t)(T:1<=t):gU c S me++i6 c S me=dueE c me tm mn ch ts t:=by
 have k:me∉c.L:=by rw[C.L];intro z;exact C.lead (Iy.mp z).symm
 have g:=H.la tm C.tmIn;rw[if_neg C.ne]at g;have a:=H.now;by_cases E:1<t
 .rw[if_pos E]at g;have j:eE c S me=.int 2:=by
   unfold eE;rw[C.toMe];simp[g,qI,ff]
  have I:gU c S me=if t=2 then[layV mn] else[]:=by
   unfold gU gT;rw[if_neg k,j,C.ofMe,a];rfl
  have J:i6 c S me=bB c S me r0 2:=by
   unfold i6;rw[j,C.L];simp[C.lead]
  have er:rowsOn c S me r0=ts.map λx=>(x,ch):=by
   unfold rowsOn;rw[C.ofMe];simp only[LK,List.flatMap_nil,JD];rw[H.row];refine Jd.mpr λr N=>?_;obtain⟨x,v,rfl⟩:=IC.mp N;unfold dq;have:=(H.hs x v).2;simp[a,this,C.last,C.notin]
  rw[I,J];unfold dueE;congr 1;unfold bB;rw[er];cases b:ts with
  | nil=>simp[gw]
  | cons h r=>
    rw[b]at er;have U:=H.hs h (by rw[b];exact Iz);have n:mU ((h::r).map λx=>(x,ch))=h:=by
     show l3 h ((r.map λx=>(x,ch)).map (·.1))=h;refine wg _ _ λx v=>?_;obtain⟨y,O,rfl⟩:=IC.mp v;obtain⟨z,Q,rfl⟩:=IC.mp O;exact H.hm z (by rw[b];exact IE _ Q) h (by rw[b];rfl)
    have o:leastOn ((h::r).map λx=>(x,ch))=ch:=by
     obtain⟨Y,w,e⟩:=vW (l:=(h::r).map λx=>(x,ch)) (by simp);obtain⟨x,_,rfl⟩:=IC.mp w;exact e
    have p:jd c S me r0 2=h+1:=by
     unfold jd;rw[er,n,if_pos (by omega)];omega
    rw[p,o,C.toMe,a];have A:gw c tm ch (h::r) t=(decide (t=h+1)&&decide (t<=c.f tm+ch.length+1)):=rfl;rw[A];by_cases u:t=h+1
    .rw[if_neg (by rintro(z | z);exact absurd z (by simp);exact z u)];have G:U1 c S tm (me::ch) = !decide (t<=c.f tm+ch.length+1):=by
      unfold U1;rw[a,IM];by_cases s:t<=c.f tm+ch.length+1
      .rw[decide_eq_true s,decide_eq_false (by omega)];rfl
      .rw[decide_eq_false s,decide_eq_true (by omega)];rfl
     rw[decide_eq_true u,Pb];by_cases s:t<=c.f tm+ch.length+1
     .simp[G,s]
     .simp[G,s]
    .rw[if_pos (.inr u),decide_eq_false u];rfl
 .have D:t=1:=by omega
  rw[if_neg E]at g;have j:eE c S me=.non:=by
   unfold eE;rw[C.toMe];simp[g]
  have b:ts=[]:=by
   cases ts with
   | nil=>rfl
   | cons h r=>have:=H.hs h Iz;omega
  unfold gU gT i6 dueE gw;rw[if_neg k,j,b,D];rfl
theorem Gz(H:bC B c S):∀a∈own c S,a<B.length:=λa h=>by
 simp only[own,IF]at h;rcases h with rfl | rfl | rfl | rfl | h
 .exact E5 H.ob
 .exact E5 H.tl
 .exact E5 H.sl
 .exact E5 H.ul
 .obtain⟨e,b,rfl⟩:=IC.mp h;exact E5 (H.rows e b)
noncomputable def V8(ps':List (Int×Int))(mn:Int×Int)(t:Int):List PV:=if t=1 then(ps'.filter λp=>!decide (p=mn)).map layV else[]
theorem fE(o:B[q]?=some (.lst (aX ps')))(J:ps'.length<=100){s u w y A C D E b f g h j:Option PV}{G:List (Option PV)} :
 Wp (qv (s::u::w::y::some (.ref q)::A::C::D::some (pv mn)::E::b::f::g::h::j::some (.int t)::G)) B (λv B'=>∃k,v=.ref k/\B.length<=k/\B<+:B'/\B'[k]?=some (.lst (V8 ps' mn t))) NoX:=by
 unfold qv;refine N2 (l:=aX ps') (λr=>∃x,r=[x,some (.int t),some (pv mn)]) (λv=>decide (t=1)&&!decide ((g8 v,g9 v)=mn)) (λv=>layV (g8 v,g9 v)) ?_;walk_at "go";refine⟨_,O1 o,Iw _,aE (by unfold aX;rw[Iq];omega),⟨_,rfl⟩,λi=>O2 o i,?_,?_⟩
 .rintro v r H ⟨x,rfl⟩;obtain⟨p,L,rfl⟩:=W6 H;have I:(g8 (pv p),g9 (pv p))=p:=rfl;rw[I];walk_at "go";refine⟨rfl,⟨_,rfl⟩,?_⟩;walk_at "go";refine⟨λn=>?_,λn=>?_⟩
  .have a:t=1:=by simpa using n
   walk_at "go";refine fY (l:=[p.1,p.2]) (m:=[mn.1,mn.2]) ⟨_,rfl,rfl,?_,λ_=>?_⟩
   .show(!decide (l2 p=l2 mn))=_;rw[decide_eq_decide.mpr FN,decide_eq_true a,Pb]
   .walk_at "go";exact⟨rfl,rfl⟩
  .have a:¬t=1:=by simpa using n
   exact⟨rfl,by simp[a],λz=>nomatch z⟩
 .refine⟨_,rfl,Iw _,Iu _ _,?_⟩;rw[aj];unfold V8 aX;rw[LC,IT];by_cases a:t=1
  .rw[if_pos a];have e:((λv=>decide (t=1)&&!decide ((g8 v,g9 v)=mn)) ∘ pv)=λp=>!decide (p=mn):=by
    funext p;show(decide (t=1)&&!decide (p=mn))=_;rw[decide_eq_true a,Pb]
   rw[e];rfl
  .rw[if_neg a];congr 1;rw[Od.mpr (λp _=>by simp[a])];rfl
theorem mW{E:List PV}{g:Nat}(Good:Nat->LS->Prop)(H:bC B c S)(g0:Good 0 S)(hq:B[q]?=some (.lst (aX ps')))(hl:ps'.length<=100)(J:B[g]?=some (.lst E))(hE:E.length<=100)
 (n:∀(j:Nat) v a f,(E++V8 ps' mn t)[j]?=some v->Good j a->bC f c a->Wp (K9 [.ref c.G,v]) f (λw D=>w=.bl true/\∃C,Good (j+1) C/\bC D c C/\cK c a C f D) NoX)
 {L N O Q T U Y x9 p r s u x a1 y:Option PV} :
 Wp (mP [L,N,O,Q,some (.ref q),T,U,Y,some (pv mn),x9,p,r,some (.ref c.G),s,u,some (.int t),some (.ref g),x,a1,y]) B
  (λo B'=>∃b S',o=.nx [L,N,O,Q,some (.ref q),T,U,Y,some (pv mn),x9,p,r,some (.ref c.G),s,u,some (.int t),some (.ref g),x,b,y]/\Good (E++V8 ps' mn t).length S'/\bC B' c S'/\cK c S S' B B') NoX:=by
 unfold mP;refine qJ ?_;walk_at "gb";refine ae (fE hq hl) λv f h=>?_;obtain⟨k,rfl,hk,p1,a2⟩:=h;have b1:(V8 ps' mn t).length<=100:=by
  unfold V8;split
  .rw[Iq];exact Jm (Jq _ _) hl
  .simp
 refine eR (ai p1 J) a2 (aE (by omega)) ?_;have p2:B<+:f++[PO.lst (E++V8 ps' mn t)]:=p1.trans (Iu _ _);have he:(f++[PO.lst (E++V8 ps' mn t)])[f.length]?=some (.lst (E++V8 ps' mn t)):=aj;generalize f++[PO.lst (E++V8 ps' mn t)]=D at *;have a3:f.length∉own c S:=λz=>by have:=Gz H _ z;have:=p1.length_le;omega
 generalize f.length=e at *;generalize E++V8 ps' mn t=l at *;walk_at "gb";refine⟨λj I A=>∃b a,I=[L,N,O,Q,some (.ref q),T,U,Y,some (pv mn),x9,p,r,some (.ref c.G),s,u,some (.int t),some (.ref g),x,b,y]/\Good j a/\bC A c a/\cK c S a D A,e,l,rfl,⟨_,S,rfl,g0,H.mono p2,cK.refl⟩,λj I A h=>?_,λj v I A hv h=>?_,λI A h=>?_⟩
 .obtain⟨_,a,_,_,_,st⟩:=h;exact M8 (st.keep _ _ he a3)
 .obtain⟨b,a,rfl,g1,L1,st⟩:=h;walk_at "go";unfold eD;walk_at "go";refine ae (n j v a A hv g1 L1) λw B4 h=>?_;obtain⟨rfl,C,g2,a6,a7⟩:=h;walk_at "go";exact⟨_,C,rfl,g2,a6,st.trans a7⟩
 .obtain⟨b,a,rfl,g1,L1,st⟩:=h;exact⟨_,a,rfl,g1,L1,(cK.pre p2).trans st⟩
end
structure wh(c:bA)(S S':LS)(mn:Int×Int)(t:Int):Prop where
 now:S'.now=t
 la:∀p∈c.ps,I9 S' p=if p=mn then(if 1<t then some 2 else none) else some 1
 row:rowsAt S' mn=rowsAt S mn
 ne:∀p,∀r∈rowsAt S' p,r.2≠[]/\r.2.length<=100
 ms:S'.m<=S.m+1
theorem wj(S:LS)(p q:Int×Int):I9 (n0 S p) q=(I9 S q).or (if p=q then some S.now else none):=by
 unfold I9 n0;rw[vO];rfl
section
variable{B B':PHp}{c:bA}{S S':LS}{q d kp:Nat}{ns:List Int}{ps':List (Int×Int)}{m:DT}{R:List Int}{i:Nat}{me r0:Int}{tm mn:Int×Int}{ch ts:List Int}{t:Int}
theorem GA(C:bK c R i me r0 tm mn ch)(H:gk B c S q d kp ns ps' m me tm mn ch ts t)(ht:1<=t)(i1:t<=16)(hl:ps'.length<=100)(c5:∀p,p∈ps'↔p∈c.ps)(d0:ps'.Nodup){Q:Nat}(l:B[Q]?=some (.lst (dueE c me tm mn ch ts t)))
 {x0 x1 x2 x3 x5 x6 x7 x9 a0 a6 a7 a8 a9 d1 b0:Option PV} :
 Wp (mP [x0,x1,x2,x3,some (.ref q),x5,x6,x7,some (pv mn),x9,a0,a6,some (.ref c.G),a7,a8,some (.int t),some (.ref Q),a9,d1,b0]) B
  (λo B'=>∃A S',o=.nx [x0,x1,x2,x3,some (.ref q),x5,x6,x7,some (pv mn),x9,a0,a6,some (.ref c.G),a7,a8,some (.int t),some (.ref Q),a9,A,b0]/\wh c S S' mn t/\bC B' c S'/\cK c S S' B B') NoX:=by
 have b:=H.now;have i2:=H.ms;have g7:=C.len;have O:(dueE c me tm mn ch ts t).length<=100:=by
  unfold dueE;rw[IU];split<;>split<;>simp
 have b1:t<=3->ts=[]:=λh=>by
  cases d2:ts with
  | nil=>rfl
  | cons x r=>have:=H.hs x (by rw[d2];exact Iz);omega
 rcases(show t=1\/t=2\/3<=t by omega)with I | I | I
 .-- e1 first b2: all b3 e2
  have T:dueE c me tm mn ch ts t=[]:=by unfold dueE gw;rw[b1 (by omega),I];rfl
  rw[T]at l O;have N:V8 ps' mn t=(ps'.filter λp=>!decide (p=mn)).map layV:=by unfold V8;rw[if_pos I]
  have hD:(ps'.filter λp=>!decide (p=mn)).Nodup:=d0.filter _;have U:∀p,p∈(ps'.filter λp=>!decide (p=mn))↔p∈c.ps/\p≠mn:=λp=>by rw[JZ,c5];simp
  generalize(ps'.filter λp=>!decide (p=mn))=D at *;refine ae (mW (E:=[]) (λj k=>k.now=1/\k.says=S.says/\k.m=S.m/\∀p∈c.ps,I9 k p=if p∈D.take j then some 1 else none) H.kpr.led ⟨by rw[b,I],rfl,rfl,λp n=>?_⟩ H.pq hl l O λj v k B1 s g L=>?_) λo B' u=>?_
  .rw[H.la p n,I];simp
  .obtain⟨g1,g2,g3,g4⟩:=g;rw[Ow,N,Jc]at s;obtain⟨p,n,rfl⟩:=Jg.mp s;have e5:=Ja n;have b4:p∉D.take j:=λy=>by
    have e6:=(IG.mp n).1;obtain⟨j',hj,e⟩:=Ke.mp y;rw[JI]at hj;rw[NI]at e;exact JT.mp hD j' j (by omega) e6 (by omega) (e.trans (IG.mp n).2.symm)
   have b5:=((U p).mp e5).1;have hn:I9 k p=none:=by rw[g4 p b5,if_neg b4]
   have tk:D.take (j+1)=D.take j++[p]:=by rw[JY,n];rfl
   refine ae (wc L p (by unfold iz;rw[if_pos b5,hn];rfl)) λw B2 u=>?_;obtain⟨rfl,J,st⟩:=u;refine⟨rfl,n0 k p,⟨g1,g2,g3,λp' e8=>?_⟩,J,st⟩;rw[wj,g4 p' e8,tk,g1];by_cases h2:p'∈D.take j
   .rw[if_pos h2,if_pos (Kd _ h2)];rfl
   .rw[if_neg h2];by_cases h3:p=p'
    .rw[if_pos h3,if_pos (by rw[h3];simp)];rfl
    .rw[if_neg h3,if_neg (by rw[IV,Iy];rintro(z | z);exact h2 z;exact h3 z.symm)];rfl
  .obtain⟨A,S',rfl,⟨g1,g2,g3,g4⟩,L,st⟩:=u;have er:∀p,rowsAt S' p=rowsAt S p:=λp=>by unfold rowsAt S3;rw[g2]
   refine⟨_,S',rfl,⟨by rw[g1,I],λp n=>?_,er mn,λp=>by rw[er p];exact H.ne p,by omega⟩,L,st⟩;rw[g4 p n,Ow,N,Iq,Ky,I];by_cases y:p=mn
   .rw[if_pos y,if_neg (λz=>((U p).mp z).2 y)];rfl
   .rw[if_neg y,if_pos ((U p).mpr ⟨n,y⟩)]
 .-- e1 c3 b2: k3 own k4
  have T:dueE c me tm mn ch ts t=[layV mn]:=by unfold dueE gw;rw[b1 (by omega),I];rfl
  rw[T]at l O;have N:V8 ps' mn t=[]:=by unfold V8;rw[if_neg (by omega)]
  refine ae (mW (E:=[layV mn]) (λj k=>(j=0/\k=S)\/(j=1/\k=n0 S mn)) H.kpr.led (.inl ⟨rfl,rfl⟩) H.pq hl l O λj v k B1 s g L=>?_) λo B' u=>?_
  .rw[N,JD]at s;cases j with
   | zero=>
     cases s;rcases g with⟨_,rfl⟩ | ⟨z,_⟩
     .refine ae (wc L mn (by unfold iz;rw[if_pos C.mnIn,H.la mn C.mnIn,I];simp)) λw B2 u=>?_;obtain⟨rfl,J,st⟩:=u;exact⟨rfl,_,.inr ⟨rfl,rfl⟩,J,st⟩
     .cases z
   | succ j=>simp at s
  .obtain⟨A,S',rfl,g,L,st⟩:=u;rw[N]at g;rcases g with⟨z,_⟩ | ⟨_,rfl⟩
   .cases z
   .refine⟨_,n0 S mn,rfl,⟨b,λp n=>?_,rfl,H.ne,Lb _⟩,L,st⟩;rw[wj,H.la p n,b,I];by_cases y:p=mn
    .rw[if_pos y,if_pos y,if_pos y.symm];rfl
    .rw[if_neg y,if_neg y,if_neg (JW y)];rfl
 .-- e9 Y4: a h5 h6 on
  have N:V8 ps' mn t=[]:=by unfold V8;rw[if_neg (by omega)]
  have fin:∀S',S'.now=t->S'.lays=S.lays->rowsAt S' mn=rowsAt S mn->(∀p,∀r∈rowsAt S' p,r.2≠[]/\r.2.length<=100)->S'.m<=S.m+1->wh c S S' mn t:=λS' a1 a2 a3 a4 a5=>by
   refine⟨a1,λp n=>?_,a3,a4,a5⟩;have:I9 S' p=I9 S p:=by unfold I9;rw[a2]
   rw[this,H.la p n,if_pos (by omega:(1:Int)<t),if_pos (by omega:(2:Int)<t),if_pos (by omega:(1:Int)<t)]
  by_cases Y:gw c tm ch ts t=true
  .have T:dueE c me tm mn ch ts t=[i0 tm (me::ch)]:=by unfold dueE;rw[if_neg (by omega),if_pos Y];rfl
   rw[T]at l O;have h7:t<=c.f tm+ch.length+1:=by
    unfold gw at Y;split at Y
    .cases Y
    .simp only[Jf,decide_eq_true_eq]at Y;exact Y.2
   have f0:Z4 c S tm (me::ch)=0:=C.say2 S (by unfold bt;rw[H.la tm C.tmIn,if_neg C.ne,if_pos (by omega),b];simpa using(by omega:(1:Int)<t)) (by rw[b,IM];omega);refine ae (mW (E:=[i0 tm (me::ch)]) (λj k=>(j=0/\k=S)\/(j=1/\∃a,k=bg S tm (me::ch) a)) H.kpr.led (.inl ⟨rfl,rfl⟩) H.pq hl l O λj v k B1 s g L=>?_) λo B' u=>?_
   .rw[N,JD]at s;cases j with
    | zero=>
      cases s;rcases g with⟨_,rfl⟩ | ⟨z,_⟩
      .refine ae (wd L tm (ch:=me::ch) (by rw[IM];omega) (by omega)) λw B2 u=>?_;rcases u with⟨_,rfl,a,J,st⟩ | ⟨z,_⟩
       .exact⟨rfl,_,.inr ⟨rfl,a,rfl⟩,J,st⟩
       .exact absurd f0 z
      .cases z
    | succ j=>simp at s
   .obtain⟨A,S',rfl,g,L,st⟩:=u;rw[N]at g;rcases g with⟨z,_⟩ | ⟨_,a,rfl⟩
    .cases z
    .have kn:=H.kpr.led.kn;refine⟨_,bg S tm (me::ch) a,rfl,fin _ b rfl ?_ (λp r hr=>?_) (Iw _),L,st⟩
     .rw[mV kn,if_neg (JW C.ne)]
     .rw[mV kn]at hr;split at hr
      .rcases IV.mp hr with z | z
       .exact H.ne p r z
       .rw[Iy.mp z];exact⟨by simp,by rw[IM];omega⟩
      .exact H.ne p r hr
  .have T:dueE c me tm mn ch ts t=[]:=by unfold dueE;rw[if_neg (by omega),if_neg Y];rfl
   rw[T]at l O;refine ae (mW (E:=[]) (λj k=>k=S) H.kpr.led rfl H.pq hl l O λj v k B1 s g L=>?_) λo B' u=>?_
   .rw[N]at s;simp at s
   .obtain⟨A,S',rfl,rfl,L,st⟩:=u;exact⟨_,_,rfl,fin _ b rfl rfl H.ne (Lb _),L,st⟩
end
theorem fi{A:PHp}{a:Nat}{ns:List Int}(h:A[a]?=some (.ro (ns.map .int)))(k:Int)(g:0<=k):K8 [.ref a,.int k] A=.ok (.int (ns.getD k.toNat 0)) A:=by
 obtain⟨j,rfl⟩:∃j:Nat,k=j:=⟨k.toNat,by omega⟩;rw[NF];have e:Wp (K8 [.ref a,.int j]) A (λv d=>v=.int (ns.getD j 0)/\d=A) NoX:=by
  unfold K8;walk_at "fn";walk_at "gb";refine⟨λc=>?_,λc=>?_⟩
  .have b:j<ns.length:=by simpa using c
   have f:atI (ns.map PV.int) (j:Int)=some (.int (ns.getD j 0)):=by
    rw[mR (by rw[Iq];exact b),LW];simp[b]
   walk_at "gb";exact⟨rfl,rfl⟩
  .have b:¬j<ns.length:=by simpa using c
   walk_at "gb";exact⟨by simp[b],rfl⟩
 obtain⟨v,d,e,rfl,rfl⟩:=mK e;exact e
section
variable{B B':PHp}{c:bA}{S S':LS}{q d kp:Nat}{ns:List Int}{ps':List (Int×Int)}{m:DT}{R:List Int}{i:Nat}{me r0 c0:Int}{tm mn:Int×Int}{ch ts:List Int}{t:Int}
set_option maxHeartbeats 4000000 in
theorem kP(C:bK c R i me r0 tm mn ch)(H:gk B c S q d kp ns ps' m me tm mn ch ts t)(d1:∀p∈c.ps,M3 m (l2 p)=some (.int (c.f p)))(ht:1<=t)(h4:t<=16)(hl:ps'.length<=100)(h5:∀p,p∈ps'↔p∈c.ps)(h6:ps'.Nodup)
 {x2 x3 x5 u h7 h8 d2 e3:Option PV} :
 Wp (qw [some (.ref 0),some (.int c0),x2,x3,some (.ref q),x5,some (.int me),some (pv tm),some (pv mn),some (.tup (ch.map .int)),some (.ref d),u,some (.ref c.G),some (Q1 ts),some (.ref kp),some (.int t),h7,h8,d2,e3]) B
  (λo B'=>∃g N O n T S',o=.nx [some (.ref 0),some (.int c0),x2,x3,some (.ref q),x5,some (.int me),some (pv tm),some (pv mn),some (.tup (ch.map .int)),some (.ref d),u,some (.ref c.G),some (Q1 g),some (.ref kp),some (.int t),N,O,n,T]/\gk B' c S' q d kp ns ps' m me tm mn ch g (t+1)) NoX:=by
 have q4:=H.ms;have n5:=C.len;have hG:=H.kpr.led.ob;have hk:=H.kpr.ob;unfold qw;walk_at "go";refine ae (fD H.kpr (by rw[C.L];simp) H.ne (by rw[C.ofMe];simp;omega)) λv D s=>?_;obtain⟨n1,rfl,q6,p1,b7⟩:=s;rw[Gy C H ht]at b7;have H1:=H.mono p1;walk_at "go";have p2:D<+:D++[PO.lst []]++[PO.lst [layV mn]]++[PO.lst [PV.ref D.length,PV.ref (D++[PO.lst []]).length]]:=Q4 (Q4 (Iu _ _));obtain⟨e,a8,he⟩:∃e,atI [PV.ref D.length,PV.ref (D++[PO.lst []]).length] (if decide (t=2)=true then 1 else 0)=some (.ref e)/\(D++[PO.lst []]++[PO.lst [layV mn]]++[PO.lst [PV.ref D.length,PV.ref (D++[PO.lst []]).length]])[e]?=some (.lst (if t=2 then[layV mn] else[])):=by
  by_cases h:t=2
  .refine⟨(D++[PO.lst []]).length,?_,?_⟩
   .rw[if_pos (decide_eq_true h)];rfl
   .rw[if_pos h];exact az aj
  .refine⟨D.length,?_,?_⟩
   .rw[if_neg (λz=>h (of_decide_eq_true z))];rfl
   .rw[if_neg h];exact az (az aj)
 refine eB aj a8 ?_;have e0:PV.tup [PV.str (Oq.ofString "lay"),pv mn]=layV mn:=rfl;rw[e0];generalize D++[PO.lst []]++[PO.lst [layV mn]]++[PO.lst [PV.ref D.length,PV.ref (D++[PO.lst []]).length]]=B2 at *;have H2:=H1.mono p2;have i2:=ai p2 b7;clear a8 b7;refine mN ?_;dsimp only[List.set];refine mM (ae (Q:=λo B'=>∃U,o=.nx [some (.ref 0),some (.int c0),x2,x3,some (.ref q),x5,some (.int me),some (pv tm),some (pv mn),some (.tup (ch.map .int)),some (.ref d),u,some (.ref c.G),some (Q1 ts),some (.ref kp),some (.int t),some (.ref n1),some (.ref U),d2,e3]/\B2<+:B'/\B'[U]?=some (.lst (dueE c me tm mn ch ts t))) ?_ λo B3 s=>?_)
 .have no:gw c tm ch ts t=false->B2[e]?=some (.lst (dueE c me tm mn ch ts t)):=λz=>by
   rw[he];unfold dueE;rw[z];simp
  cases w:ts with
  | nil=>
    have hv:Q1 ([]:List Int)=.non:=rfl;rw[hv];walk_at "go";refine⟨λz=>(nomatch z),λ_=>⟨λz=>(nomatch z),λ_=>?_⟩⟩;walk_at "go";rw[<-w];exact no (by rw[w];rfl)
  | cons h r=>
    have hv:Q1 (h::r)=.int h:=rfl;have es:gw c tm ch (h::r) t=(decide (t=h+1)&&decide (t<=c.f tm+ch.length+1)):=rfl;rw[w]at no;rw[hv];walk_at "go";refine⟨λ_=>?_,λz=>(nomatch z)⟩;walk_at "go";have r1:=H2.dl;refine⟨λhb=>?_,λhb=>?_⟩
    .have h1:t=h+1:=by simpa using hb
     have j2:=d1 tm C.tmIn;walk_at "go";refine⟨λA=>?_,λA=>?_⟩
     .have h2:t<=c.f tm+ch.length+1:=by simpa using A
      walk_at "go";refine fW ⟨by simp,aE (by simp;omega)⟩ ?_;walk_at "go";refine eR (az he) aj (aE (by split<;>simp)) ?_;refine mN ?_;refine⟨_,rfl,(Iu _ _).trans (Iu _ _),?_⟩;rw[aj];unfold dueE;rw[es,decide_eq_true h1,decide_eq_true h2];rfl
     .have h2:¬t<=c.f tm+ch.length+1:=by simpa using A
      walk_at "go";exact no (by rw[es];simp[h2])
    .have h1:¬t=h+1:=by simpa using hb
     refine⟨λz=>(nomatch z),λ_=>?_⟩;walk_at "go";exact no (by rw[es];simp[h1])
 .obtain⟨U,rfl,p3,k0⟩:=s;have H3:=H2.mono p3;have e5:=ai p3 i2;have c1:∀v∈dueE c me tm mn ch ts t,gW 4 v:=λv hv=>by
   unfold dueE at hv;rcases IV.mp hv with z | z
   .split at z
    .rw[Iy.mp z];exact Gx mn
    .cases z
   .split at z
    .rw[Iy.mp z];exact Gw tm (by rw[IM];omega)
    .cases z
  have hE:(dueE c me tm mn ch ts t).length<=1000:=by
   unfold dueE;rw[IU];split<;>split<;>simp
  walk_at "go";refine ae (eI (k:=4) (l:=dueE c me tm mn ch ts t) hE c1 e5 k0) λv B4 s=>?_;obtain⟨rfl,p4⟩:=s;walk_at "gb";have E:=H3.mono p4;refine ae (GA C E ht h4 hl h5 h6 (ai p4 e5)) λo B5 s=>?_;obtain⟨n,I,rfl,M,L5,Y⟩:=s;have b4:∀a,a=0\/a=q\/a=d\/a=kp->a∉own c I:=λa ha=>qE Y (by
   rcases ha with rfl | rfl | rfl | rfl
   .exact E5 E.sc
   .exact E5 E.pq
   .exact E5 E.dl
   .exact E5 E.kpr.ob) (E.fo a ha)
  have a0:=Y.keep _ _ E.sc (E.fo 0 (.inl rfl));have b5:=Y.keep _ _ E.pq (E.fo q (.inr (.inl rfl)));have a1:=Y.keep _ _ E.dl (E.fo d (.inr (.inr (.inl rfl))));have b6:=Y.keep _ _ E.kpr.ob (E.fo kp (.inr (.inr (.inr rfl))));have r4:=L5.ob;have last:∀(g:List Int)(J:LS)(B6:PHp),bC B6 c J->cK c I J B5 B6->J.now=t->J.lays=I.lays->rowsAt J mn=g.map (λx=>(x,ch))->(∀x∈g,2<x/\x<t+1)->(∀x∈g,∀h,g.head?=some h->h<=x)->(∀p,∀r∈rowsAt J p,r.2≠[]/\r.2.length<=100)->J.m<=I.m+1->
   ∀{z13 z19:Option PV},z13=some (Q1 g)->Wp (T4 (J8 2 K7 (aa 12) aNil) [some (.ref 0),some (.int c0),x2,x3,some (.ref q),x5,some (.int me),some (pv tm),some (pv mn),some (.tup (ch.map .int)),some (.ref d),u,some (.ref c.G),z13,some (.ref kp),some (.int t),some (.ref n1),some (.ref U),n,z19]) B6
    (λo B'=>∃g N O n T S',o=.nx [some (.ref 0),some (.int c0),x2,x3,some (.ref q),x5,some (.int me),some (pv tm),some (pv mn),some (.tup (ch.map .int)),some (.ref d),u,some (.ref c.G),some (Q1 g),some (.ref kp),some (.int t),N,O,n,T]/\gk B' c S' q d kp ns ps' m me tm mn ch g (t+1)) NoX:=by
   intro g J B6 L6 k1 g1 g2 g3 g4 g5 g6 g7 z13 z19 hz;subst hz;have k3:=L6.ob;walk_at "go";refine ae (gP L6) λv B7 s=>?_;obtain⟨rfl,L7,b0⟩:=s;have j:=k1.trans b0;have kk:=λa (ha:a=0\/a=q\/a=d\/a=kp)=>b4 a ha;refine⟨g,_,_,_,_,{ J with now:=J.now+1 },rfl,⟨L7,j.keep _ _ b6 (kk kp (.inr (.inr (.inr rfl)))),H.kpr.srt⟩,j.keep _ _ a0 (kk 0 (.inl rfl)),j.keep _ _ b5 (kk q (.inr (.inl rfl))),j.keep _ _ a1 (kk d (.inr (.inr (.inl rfl)))),λa ha=>qE j ?_ (kk a ha),by show J.now+1=t+1;rw[g1],λp hp=>?_,g3,g4,g5,g6,?_⟩
   .rcases ha with rfl | rfl | rfl | rfl
    .exact E5 a0
    .exact E5 b5
    .exact E5 a1
    .exact E5 b6
   .have e1:I9 { J with now:=J.now+1 } p=I9 I p:=by unfold I9;rw[g2]
    rw[e1,M.la p hp];by_cases hm:p=mn
    .rw[if_pos hm,if_pos hm];by_cases h1:1<t
     .rw[if_pos h1,if_pos (by omega)]
     .rw[if_neg h1,if_neg (by omega)]
    .rw[if_neg hm,if_neg hm,if_pos (by omega)]
   .have:=M.ms;show(J.m:Int)<=3*(t+1);omega
  have e8:∀{B6:PHp}{z19:Option PV},B5<+:B6->Wp (T4 (J8 2 K7 (aa 12) aNil) [some (.ref 0),some (.int c0),x2,x3,some (.ref q),x5,some (.int me),some (pv tm),some (pv mn),some (.tup (ch.map .int)),some (.ref d),u,some (.ref c.G),some (Q1 ts),some (.ref kp),some (.int t),some (.ref n1),some (.ref U),n,z19]) B6
   (λo B'=>∃g N O n T S',o=.nx [some (.ref 0),some (.int c0),x2,x3,some (.ref q),x5,some (.int me),some (pv tm),some (pv mn),some (.tup (ch.map .int)),some (.ref d),u,some (.ref c.G),some (Q1 g),some (.ref kp),some (.int t),N,O,n,T]/\gk B' c S' q d kp ns ps' m me tm mn ch g (t+1)) NoX:=λ{B6 z19} p6=>
   last ts I B6 (L5.mono p6) (cK.pre p6) M.now rfl (M.row.trans H.row) (λx hx=>by have:=H.hs x hx;omega) H.hm M.ne (Lb _) rfl
  walk_at "gb";refine w_eq (fi a0 t (by omega)) ?_;generalize ns.getD t.toNat 0=cl;walk_at "gb";refine w_eq (bP _ _ _) ?_;walk_at "gb";refine w_eq (bP _ _ _) ?_;walk_at "gb";obtain⟨k2,a8,k6⟩:∃k2:Int,atI [PV.int 2,PV.int 9] (mx c0 6%2)=some (.int k2)/\0<k2:=by
   have:mx c0 6%2=0\/mx c0 6%2=1:=by omega
   rcases this with z | z<;>rw[z]
   .exact⟨2,rfl,by decide⟩
   .exact⟨9,rfl,by decide⟩
  refine eB aj a8 ?_;refine w_mod k6 ?_;have p6:B5<+:B5++[PO.lst [PV.int 2,PV.int 9]]:=Iu _ _;generalize B5++[PO.lst [PV.int 2,PV.int 9]]=B6 at *;have L6:=L5.mono p6;have k3:=L6.ob;have e9:=ai p6 a1;walk_at "gb";refine⟨λhb=>?_,λhb=>?_⟩
  .have p8:=M.ms;have e0:PV.tup [PV.str (Oq.ofString "say"),pv mn,PV.tup (ch.map .int)]=i0 mn ch:=rfl;walk_at "gb";rw[e0];have a3:=C.say1 I;have k7:bt I mn=decide (2<t):=by
    unfold bt;rw[M.la mn C.mnIn,if_pos rfl,M.now];by_cases h1:1<t
    .rw[if_pos h1]
    .rw[if_neg h1];simp;omega
   rw[k7,M.now,decide_eq_true_eq]at a3;refine ae (wd L6 mn (ch:=ch) (by omega) (by omega)) λv B7 s=>?_;have l0:∃b:Bool,v=.bl b/\(b=true↔(2<t/\t<=c.f mn+ch.length))/\∃S7,bC B7 c S7/\cK c I S7 B6 B7/\((b=true/\∃a,S7=bg I mn ch a)\/(b=false/\S7=I)):=by
    rcases s with⟨h0,rfl,a,L7,st⟩ | ⟨h0,rfl,p7⟩
    .exact⟨true,rfl,⟨λ_=>a3.mp h0,λ_=>rfl⟩,_,L7,st,.inl ⟨rfl,a,rfl⟩⟩
    .exact⟨false,rfl,⟨λz=>(nomatch z),λz=>absurd (a3.mpr z) h0⟩,_,L6.mono p7,cK.pre p7,.inr ⟨rfl,rfl⟩⟩
   obtain⟨b,rfl,b2,S7,L7,b0,m0⟩:=l0;have q0:=b0.keep _ _ e9 (b4 d (.inr (.inr (.inl rfl))));have s5:=L7.ob;have j2:=d1 mn C.mnIn;refine mN ?_;dsimp only[List.set];refine mM (ae (Q:=λo B'=>o=.nx [some (.ref 0),some (.int c0),x2,x3,some (.ref q),x5,some (.int me),some (pv tm),some (pv mn),some (.tup (ch.map .int)),some (.ref d),u,some (.ref c.G),some (Q1 ts),some (.ref kp),some (.int t),some (.ref n1),some (.ref U),n,some (.bl b)]/\B'=B7) ?_ λo B8 s=>?_)
   .walk_at "gb";refine⟨λA=>?_,λA=>?_⟩
    .have h2:2<t:=by simpa using A
     walk_at "gb";have eb:b=decide (t<=c.f mn+ch.length):=by
      by_cases h3:t<=c.f mn+ch.length
      .rw[decide_eq_true h3];exact b2.mpr ⟨h2,h3⟩
      .rw[decide_eq_false h3];cases b with
       | true=>exact absurd (b2.mp rfl).2 h3
       | false=>rfl
     rw[<-eb];refine⟨λz=>by simp at z,λ_=>mL ⟨rfl,rfl⟩⟩
    .have h2:¬2<t:=by simpa using A
     have eb:b=false:=by
      cases b with
      | true=>exact absurd (b2.mp rfl).1 h2
      | false=>rfl
     subst eb;walk_at "gb";exact⟨rfl,rfl⟩
   .obtain⟨rfl,rfl⟩:=s;have j:=(cK.pre p6).trans b0;rcases m0 with⟨rfl,a,rfl⟩ | ⟨rfl,rfl⟩
    .have h2:=(b2.mp rfl).1;have kn:=L5.kn;have er:rowsAt (bg I mn ch a) mn=(ts++[t]).map λx=>(x,ch):=by
      rw[mV kn,if_pos rfl,M.row,H.row,M.now,Jy];rfl
     have m2:∀x∈ts++[t],2<x/\x<t+1:=λx hx=>by
      rcases IV.mp hx with z | z
      .have:=H.hs x z;omega
      .rw[Iy.mp z];omega
     have n2:∀x∈ts++[t],∀h,(ts++[t]).head?=some h->h<=x:=λx hx h s=>by
      cases w:ts with
      | nil=>
        rw[w]at hx s;have e1:=Iy.mp hx;have U:t=h:=IK s;omega
      | cons y r=>
        rw[w]at s;have U:y=h:=IK s;rcases IV.mp hx with z | z
        .exact H.hm x z h (by rw[w,U];rfl)
        .have:=H.hs y (by rw[w];exact Iz);rw[Iy.mp z];omega
     have f1:∀p,∀r∈rowsAt (bg I mn ch a) p,r.2≠[]/\r.2.length<=100:=λp r hr=>by
      rw[mV kn]at hr;split at hr
      .rcases IV.mp hr with z | z
       .exact M.ne p r z
       .rw[Iy.mp z];exact⟨(λz=>by have h:=C.hd;have z:ch=[]:=z;rw[z]at h;cases h),by show ch.length<=100;omega⟩
      .exact M.ne p r hr
     have fin:=λ{z13 z19:Option PV} (hz:z13=some (Q1 (ts++[t])))=>last (ts++[t]) (bg I mn ch a) _ L7 j M.now rfl er m2 n2 f1 (Iw _) (z13:=z13) (z19:=z19) hz;refine ae (Q:=λo B'=>o=.nx [some (.ref 0),some (.int c0),x2,x3,some (.ref q),x5,some (.int me),some (pv tm),some (pv mn),some (.tup (ch.map .int)),some (.ref d),u,some (.ref c.G),some (Q1 (ts++[t])),some (.ref kp),some (.int t),some (.ref n1),some (.ref U),n,some (.bl true)]/\B'=B8) ?_ λo B9 s=>?_
     .cases w:ts with
      | nil=>
        have hv:Q1 ([]:List Int)=.non:=rfl;rw[hv];walk_at "gb";exact⟨rfl,rfl⟩
      | cons y r=>
        have hv:Q1 (y::r)=.int y:=rfl;rw[hv];walk_at "gb";exact⟨rfl,rfl⟩
     .obtain⟨rfl,rfl⟩:=s;exact fin rfl
    .refine ae (Q:=λo B'=>o=.nx [some (.ref 0),some (.int c0),x2,x3,some (.ref q),x5,some (.int me),some (pv tm),some (pv mn),some (.tup (ch.map .int)),some (.ref d),u,some (.ref c.G),some (Q1 ts),some (.ref kp),some (.int t),some (.ref n1),some (.ref U),n,some (.bl false)]/\B'=B8) ?_ λo B9 s=>?_
     .walk_at "gb";exact⟨rfl,rfl⟩
     .obtain⟨rfl,rfl⟩:=s;exact last ts _ _ L7 j M.now rfl (M.row.trans H.row) (λx hx=>by have:=H.hs x hx;omega) H.hm M.ne (Lb _) rfl
  .refine mL ?_;exact e8 p6
end
theorem wk{ps:List (Int×Int)}(h:ps.Nodup):srt (srt ps)=srt ps:=by
 refine nZ (lt:=jH) (λp q a b=>?_) (L9 _) (vz _) (vz _);rw[qy]at a b;exact Prod.ext (by omega) (by omega)
theorem GB{n:Int}{ps:List (Int×Int)}(W:S0 n ps):S0 n (srt ps):=
 ⟨W.lo,W.hi,λp a=>W.good p ((L9 ps).mem_iff.mp a),dn W.nd,by rw[(L9 ps).length_eq];exact W.len⟩
section
variable{A:PHp}{c0:Int}{N:Nat}
theorem wm(f:2<=N)(h:N<=6):Rg N (R0 c0 N) (i5 c0 N):=by
 have b:=o6 c0 N;have i:(R0 c0 N).length=N:=by rw[b.length_eq,br]
 refine⟨i,f,h,b.nodup_iff.mpr (Ff N),λx j=>mem_hands.mp (b.mem_iff.mp j),λp=>?_⟩;have g:∀k,k<N->(R0 c0 N)[k]?=some ((R0 c0 N).getD k 0):=λk a=>by simp[show k<(R0 c0 N).length by omega]
 have c:∀k,k<N->(if k=0 then N - 1 else k - 1)<N:=λk a=>by split<;>omega
 unfold i5;rw[IC];constructor
 .rintro⟨k,a,rfl⟩;rw[JO]at a;exact⟨k,a,g _ (c k a),g k a⟩
 .rintro⟨k,a,d,e⟩;refine⟨k,JO.mpr a,?_⟩;rw[g _ (c k a)]at d;rw[g k a]at e;exact Prod.ext (IK d) (IK e)
theorem GC(h:2<=N)(m:N<=6):S0 N (i5 c0 N):=by
 have G:=wm (c0:=c0) h m;refine⟨by omega,by omega,λp n=>?_,?_,by unfold i5;rw[Iq,List.length_range];omega⟩
 .obtain⟨k,r,f,d⟩:=(G.ps p).mp n;refine⟨G.inN _ (Ja f),G.inN _ (Ja d),λz=>?_⟩;have c:=G.len;rw[z]at f;have e:=(List.getElem?_inj (i:=k) (j:=if k=0 then N - 1 else k - 1) (by omega) G.nd).mp (d.trans f.symm);split at e<;>omega
 .unfold i5;refine ND.mpr (MR.imp_of_mem (λ{a b} o q g z=>g ?_) List.nodup_range);rw[JO]at o q;have c:=G.len;have d:=(PL z).2;refine(List.getElem?_inj (l:=R0 c0 N) (i:=a) (j:=b) (by omega) G.nd).mp ?_;rw[IJ (by omega),IJ (by omega)];simpa[show a<(R0 c0 N).length by omega,show b<(R0 c0 N).length by omega]using d
theorem GF(f:N<=6){b:Option PV}{c:List (Option PV)}:Wp (qm (b::some (.int c0)::some (.int N)::c)) A (λv d=>v=.ref A.length/\d=A++[.lst ((ordT c0 N).map λt=>.tup (t.map .int))]) NoX:=by
 unfold qm;refine N2 (l:=(Jj N).map λ(k:Nat)=>PV.int (k:Int)) (λa=>∃x,a=[x,some (.int c0)]) (λ_=>true) (λv=>match v with | .int k=>.tup [.int (mx c0 (20+k)),.int k] | _=>.non) ?_;walk_at "go";refine⟨by simp,by simp;exact aE (by omega),⟨_,rfl⟩,λi=>mO _ _,?_,rfl,?_⟩
 .rintro v a e ⟨x,rfl⟩;obtain⟨k,g,rfl⟩:=IC.mp e;walk_at "go";refine⟨rfl,⟨_,rfl⟩,?_⟩;walk_at "go";refine⟨rfl,rfl,λ_=>?_⟩;walk_at "go";refine w_eq (bP _ _ _) ?_;walk_at "go";exact⟨rfl,rfl⟩
 .rw[Jd.mpr (by simp)];unfold ordT;simp[IT,My]
theorem GG(p:N<=6){r:Option PV}{s:List (Option PV)}:Wp (qp (r::some (.int c0)::some (.int N)::s)) A (λv A'=>∃n,v=.ref n/\A.length<=n/\A<+:A'/\A'[n]?=some (.lst ((R0 c0 N).map .int))) NoX:=by
 unfold qp;refine kJ ?_;refine vq (vB (ae (GF p) λv l b=>?_));obtain⟨rfl,rfl⟩:=b;refine⟨_,_,_,rfl,aj,sF (by simp[ordT];omega) Ga,?_⟩;have p1:A<+:A++[PO.lst ((ordT c0 N).map λt=>PV.tup (t.map .int))]++[.lst ((aG lexLt (ordT c0 N)).map λt=>.tup (t.map .int))]:=Q4 (Iu _ _);have m:(A++[PO.lst ((ordT c0 N).map λt=>PV.tup (t.map .int))]++[.lst ((aG lexLt (ordT c0 N)).map λt=>.tup (t.map .int))])[(A++[PO.lst ((ordT c0 N).map λt=>PV.tup (t.map .int))]).length]?=some (.lst ((aG lexLt (ordT c0 N)).map λt=>.tup (t.map .int))):=aj;generalize A++[PO.lst ((ordT c0 N).map λt=>PV.tup (t.map .int))]++[.lst ((aG lexLt (ordT c0 N)).map λt=>.tup (t.map .int))]=l at *;generalize(A++[PO.lst ((ordT c0 N).map λt=>PV.tup (t.map .int))]).length=q at *;have f:(aG lexLt (ordT c0 N)).length=N:=by rw[(N1 _ _).length_eq];simp[ordT]
 walk_at "go";refine⟨(aG lexLt (ordT c0 N)).map λt=>.tup (t.map .int),_,λi a g B=>B=l/\(∃x y,g=[x,y])/\a=((R0 c0 N).take i).map PV.int,O1 m,Iw _,⟨rfl,⟨_,_,rfl⟩,rfl⟩,λi a g B b=>?_,λi v a g B h b=>?_,λa g B b=>?_⟩
 .obtain⟨rfl,_⟩:=b;exact O2 m i
 .obtain⟨rfl,⟨x,y,rfl⟩,rfl⟩:=b;have j:i<N:=by have:=(IG.mp h).1;rw[Iq,f]at this;exact this
  obtain⟨u,o⟩:=Gb (c:=c0) j;have k:v=.tup [.int u,.int ((R0 c0 N).getD i 0)]:=by
   rw[mR (by rw[Iq,f];exact j)]at o;rw[IJ (by rw[Iq,f];exact j)]at h;exact(IK h).symm.trans (IK o)
  subst k;have d:(R0 c0 N).length=N:=by rw[(o6 c0 N).length_eq,br]
  have w:(R0 c0 N).take (i+1)=(R0 c0 N).take i++[(R0 c0 N).getD i 0]:=by
   rw[JY,IJ (by omega)];simp[show i<(R0 c0 N).length by omega]
  walk_at "go";refine⟨rfl,⟨_,_,rfl⟩,?_⟩;rw[w,Jy];rfl
 .obtain⟨rfl,_,rfl⟩:=b;have d:(R0 c0 N).length=N:=by rw[(o6 c0 N).length_eq,br]
  have e:((aG lexLt (ordT c0 N)).map λt=>PV.tup (t.map .int)).length=N:=by rw[Iq,f]
  rw[e,KO (by omega)];exact⟨aE (by rw[Iq];omega),_,rfl,p1.length_le,Q4 p1,aj⟩
theorem fF{n:Nat}(q:2<=N)(r:N<=6)(s:A[n]?=some (.lst ((R0 c0 N).map .int))){f g:Option PV}{j:List (Option PV)}:Wp (qr (f::g::some (.int N)::some (.ref n)::j)) A (λv m=>v=.ref A.length/\m=A++[.lst (aX (i5 c0 N))]) NoX:=by
 unfold qr;have c:(R0 c0 N).length=N:=by rw[(o6 c0 N).length_eq,br]
 have a:∀k:Nat,k<N->atI ((R0 c0 N).map PV.int) (k:Int)=some (.int ((R0 c0 N).getD k 0)):=λk b=>by
  rw[mR (by rw[Iq];omega),LW];simp[show k<(R0 c0 N).length by omega]
 have d:∀k:Nat,k<N->atI ((R0 c0 N).map PV.int) ((k:Int) - 1)=some (.int ((R0 c0 N).getD (if k=0 then N - 1 else k - 1) 0)):=λk b=>by
  by_cases h:k=0
  .subst h;rw[if_pos rfl,<-a (N - 1) (by omega)];unfold atI ixN;rw[if_neg (by omega),if_pos (by rw[Iq];omega),if_pos (by omega),if_pos (by rw[Iq];omega)];rw[Iq,c];congr 2;omega
  .rw[if_neg h,<-a (k - 1) (by omega)];congr 1;omega
 refine N2 (l:=(Jj N).map λ(k:Nat)=>PV.int (k:Int)) (λe=>∃x,e=[x,some (.ref n)]) (λ_=>true) (λv=>match v with | .int k=>pv ((R0 c0 N).getD (if k=0 then N - 1 else k.toNat - 1) 0,(R0 c0 N).getD k.toNat 0) | _=>.non) ?_;walk_at "go";refine⟨by simp,by simp;exact aE (by omega),⟨_,rfl⟩,λi=>mO _ _,?_,rfl,?_⟩
 .rintro v e o ⟨x,rfl⟩;obtain⟨k,b,rfl⟩:=IC.mp o;rw[JO]at b;have u:=a k b;have p:=d k b;walk_at "go";refine⟨rfl,⟨_,rfl⟩,?_⟩;walk_at "go";refine⟨rfl,rfl,λ_=>?_⟩;walk_at "go";refine⟨rfl,?_⟩;by_cases h:k=0
  .subst h;rfl
  .have:¬(k:Int)=0:=by omega
   simp[pv,h,this]
 .rw[Jd.mpr (by simp)];unfold i5;simp only[aX,IT];congr 3;refine JF λk b=>?_;by_cases h:k=0
  .subst h;rfl
  .have:¬(k:Int)=0:=by omega
   simp[pv,h,this]
end
theorem GH{ps:List (Int×Int)}(a:ps.Nodup){i:Nat}{p:Int×Int}(h:ps[i]?=some p):ps.idxOf p=i:=by
 obtain⟨b,rfl⟩:=IG.mp h;exact a.idxOf_getElem i b
noncomputable def i3(c0:Int)(ps:List (Int×Int))(p:Int×Int):Int:=6+mx c0 (60+ps.idxOf p)%4
theorem fG{A:PHp}{q:Nat}{ps:List (Int×Int)}{c0:Int}(l:ps.Nodup)(j:A[q]?=some (.lst (aX ps)))(w:ps.length<=100){m n o:Option PV}{r:List (Option PV)}:Wp (qt (m::some (.int c0)::n::o::some (.ref q)::r)) A
 (λv s=>v=.ref A.length/\s=A++[.lst (ps.map λp=>.tup [pv p,.int (i3 c0 ps p)])]) NoX:=by
 unfold qt;refine kJ ?_;walk_at "go";refine⟨(Jj ps.length).zipWith (λi p=>PV.tup [.int (i:Nat),pv p]) ps,ps.length,λi a d B=>B=A/\(∃x y,d=[x,y,some (.int c0)])/\a=(ps.take i).map λp=>PV.tup [pv p,.int (i3 c0 ps p)],?_,by simp,⟨rfl,⟨_,_,rfl⟩,rfl⟩,λi a d B b=>?_,λi v a d B c b=>?_,λa d B b=>?_⟩
 .show ao (G6 q) _ A=_;rw[aB (M8 j)];simp[aX,ret]
 .obtain⟨rfl,_,_⟩:=b;show ao (G6 q) _ _=_;rw[aB (M8 j)];unfold aX;simp only[ret];congr 1;rw[Jc,Oy];by_cases h:i<ps.length
  .simp[h]
  .simp[h]
 .obtain⟨rfl,⟨x,y,rfl⟩,rfl⟩:=b;rw[Oy]at c;have k:i<ps.length:=by
   by_cases h:i<ps.length
   .exact h
   .simp[h]at c
  obtain⟨p,f⟩:∃p,ps[i]?=some p:=⟨_,IJ k⟩;have g:v=.tup [.int (i:Nat),pv p]:=by
   rw[f]at c;simp[k]at c;exact c.symm
  subst g;have u:ps.take (i+1)=ps.take i++[p]:=by rw[JY,f];rfl
  walk_at "go";refine w_eq (bP _ _ _) ?_;walk_at "go";refine⟨rfl,⟨_,_,rfl⟩,?_⟩;rw[u,Jy];unfold i3;simp[GH l f]
 .obtain⟨rfl,_,rfl⟩:=b;have e:((Jj ps.length).zipWith (λi p=>PV.tup [.int (i:Nat),pv p]) ps).length=ps.length:=by simp
  rw[e,Ky];exact⟨aE (by rw[Iq];omega),rfl,rfl⟩
noncomputable def gX(N:Nat)(a:Int):List Int:=(c8 N).filter λh=>!decide (h=a)
theorem fH{A:PHp}{N:Nat}(m:N<=6){a:Int}{c d e f g:Option PV}{h:List (Option PV)}:Wp (qu (c::d::some (.int N)::e::f::g::some (.int a)::h)) A (λv j=>v=.ref A.length/\j=A++[.lst ((gX N a).map .int)]) NoX:=by
 unfold qu;refine N2 (l:=(c8 N).map .int) (λb=>∃x,b=[x,some (.int a)]) (λv=>match v with | .int t=>!decide (t=a) | _=>false) (λv=>v) ?_;walk_at "go";refine⟨by simp[br],aE (by simp[br];omega),⟨_,rfl⟩,λi=>?_,?_,rfl,?_⟩
 .rw[mO,Gu]
 .rintro v b k ⟨x,rfl⟩;obtain⟨t,n,rfl⟩:=IC.mp k;walk_at "go";refine⟨rfl,⟨_,rfl⟩,?_⟩;walk_at "go";refine⟨rfl,rfl,λ_=>?_⟩;walk_at "go";exact⟨rfl,rfl⟩
 .congr 3;unfold gX;rw[LC,IT];rfl
set_option maxHeartbeats 4000000 in
theorem law_pure:∀ns:List Int,∃A',mQ [.ref 0] [.ro (ns.map .int)]=.ok (.bl true) A':=by
 intro ns;have h:Wp (mQ [.ref 0]) [.ro (ns.map .int)] (λv _=>v=.bl true) NoX:=by
  generalize c3:[PO.ro (ns.map PV.int)]=A0;have hA:A0[0]?=some (.ro (ns.map .int)):=by rw[<-c3];rfl
  clear c3;unfold mQ;walk_at "fn";walk_at "gb";refine w_eq (fi hA 0 (by decide)) ?_;generalize ns.getD (Int.toNat 0) 0=c0;walk_at "gb";refine w_eq (bP _ _ _) ?_;have m0:=vU c0 0;obtain⟨N,hN,D⟩:∃N:Nat,3+mx c0 0%4=N/\3<=N/\N<=6:=⟨(3+mx c0 0%4).toNat,by omega,by omega,by omega⟩;walk_at "gb";rw[hN];refine ae (GG D.2) λv A1 s=>?_;obtain⟨n,rfl,_,p1,hn⟩:=s;have c4:=ai p1 hA;clear p1 hA;walk_at "gb";refine ae (fF (by omega) D.2 hn) λv A2 s=>?_;obtain⟨rfl,rfl⟩:=s;have p2:A1<+:A1++[PO.lst (aX (i5 c0 N))]:=Iu _ _;have c5:(A1++[PO.lst (aX (i5 c0 N))])[A1.length]?=some (.lst (aX (i5 c0 N))):=aj;have d0:=ai p2 hn;have d1:=ai p2 c4;generalize A1++[PO.lst (aX (i5 c0 N))]=A2 at *;generalize A1.length=q at *;clear p2 hn c4;have P:=GC (c0:=c0) (by omega) D.2;have G:=wm (c0:=c0) (by omega) D.2;generalize k5:i5 c0 N=g at *;generalize hR:R0 c0 N=R at *;clear k5 hR;have q1:=G.len;have pl:g.length<=100:=by have:=P.len;omega
  walk_at "gb";refine w_eq (bP _ _ _) ?_;have m1:=vU c0 1;walk_at "gb";obtain⟨i,hi,a2⟩:∃i:Nat,1+mx c0 1%((N:Int) - 1)=i/\1<=i/\i<N:=by
   have h1:=Ox (mx c0 1) (b:=(N:Int) - 1) (by omega);have h2:=Nr (mx c0 1) (b:=(N:Int) - 1) (by omega);exact⟨(1+mx c0 1%((N:Int) - 1)).toNat,by omega,by omega,by omega⟩
  rw[hi];have T:∀j:Nat,j<N->∃x,R[j]?=some x/\atI (R.map PV.int) (j:Int)=some (.int x):=λj hj=>by
   obtain⟨x,hx⟩:∃x,R[j]?=some x:=⟨_,IJ (by omega)⟩;exact⟨x,hx,kO (by rw[Jc,hx];rfl)⟩
  obtain⟨k,k6,s6⟩:=T i a2.2;obtain⟨t1,k7,e0⟩:=T (i - 1) (by omega);have e1:(i+1)%N<N:=Nat.mod_lt _ (by omega);obtain⟨mm,l0,e3⟩:=T ((i+1)%N) e1;obtain⟨y,e4,e5⟩:=T 0 (by omega);have ei:((i:Int) - 1)=((i - 1:Nat):Int):=by omega
  have em:((i:Int)+1)%(N:Int)=(((i+1)%N:Nat):Int):=by rw[Int.natCast_emod];rfl
  have e0:atI (R.map PV.int) ((i:Int) - 1)=some (.int t1):=by rw[ei];exact e0
  have e3:atI (R.map PV.int) (((i:Int)+1)%(N:Int))=some (.int mm):=by rw[em];exact e3
  have e5:atI (R.map PV.int) 0=some (.int y):=e5;walk_at "gb";have ec:ek (R.map PV.int) (some ((i:Int)+1)) none=(R.drop (i+1)).map PV.int:=by
   have:(i:Int)+1=((i+1:Nat):Int):=by omega
   rw[this,qx,<-NR]
  rw[ec];refine⟨aE (by rw[Iq,JV];omega),?_⟩;have p3:A2<+:A2++[PO.lst ((R.drop (i+1)).map PV.int)]:=Iu _ _;have e6:=ai p3 d0;have a3:=ai p3 c5;have e7:=ai p3 d1;generalize A2++[PO.lst ((R.drop (i+1)).map PV.int)]=A3 at *;clear p3 d0 c5 d1;walk_at "gb";refine gH (aE (by simp;omega)) ?_;have e9:(R.drop (i+1)).map PV.int++[PV.int y]=(R.drop (i+1)++[y]).map PV.int:=by simp
  rw[e9];have t3:(R.drop (i+1)++[y]).length<=6:=by rw[IU,JV];simp;omega
  generalize l1:R.drop (i+1)++[y]=ch at *;walk_at "gb";refine ae (fG P.nd a3 pl) λv A6 s=>?_;obtain⟨rfl,rfl⟩:=s;refine⟨_,_,_,rfl,aj,vZ (λp=>.int (i3 c0 g p)) _,j5 (by rw[Iq];omega),?_⟩;rw[Gv P.nd];have q6:A3<+:A3++[PO.lst (g.map λp=>PV.tup [pv p,.int (i3 c0 g p)])]++[PO.dT (g.map λp=>(l2 p,PV.int (i3 c0 g p)))]:=(Iu _ _).trans (Iu _ _);have f0:(A3++[PO.lst (g.map λp=>PV.tup [pv p,.int (i3 c0 g p)])]++[PO.dT (g.map λp=>(l2 p,PV.int (i3 c0 g p)))])[(A3++[PO.lst (g.map λp=>PV.tup [pv p,.int (i3 c0 g p)])]).length]?=some (.dT (g.map λp=>(l2 p,PV.int (i3 c0 g p)))):=aj;have hm:∀p∈g,M3 (g.map λp=>(l2 p,PV.int (i3 c0 g p))) (l2 p)=some (.int (i3 c0 g p)):=λp hp=>vF (f:=i3 c0 g) P.nd hp;have m2:∀p,0<=i3 c0 g p:=λp=>by unfold i3;omega
  generalize A3++[PO.lst (g.map λp=>PV.tup [pv p,.int (i3 c0 g p)])]++[PO.dT (g.map λp=>(l2 p,PV.int (i3 c0 g p)))]=A6 at *;generalize(A3++[PO.lst (g.map λp=>PV.tup [pv p,.int (i3 c0 g p)])]).length=d at *;generalize(g.map λp=>(l2 p,PV.int (i3 c0 g p)))=m at *;have f1:=ai q6 e6;have f2:=ai q6 a3;have f3:=ai q6 e7;clear q6 e6 a3 e7;walk_at "gb";refine ae (fH D.2) λv A7 s=>?_;obtain⟨rfl,rfl⟩:=s;have q7:A6<+:A6++[PO.lst ((gX N k).map .int)]:=Iu _ _;have g0:(A6++[PO.lst ((gX N k).map .int)])[A6.length]?=some (.lst ((gX N k).map .int)):=aj;have r2:(gX N k).length<=6:=Jm (Jq _ _) (by rw[br];omega);generalize A6++[PO.lst ((gX N k).map .int)]=A7 at *;generalize A6.length=fa at *;have g1:=ai q7 f1;have a5:=ai q7 f2;have g2:=ai q7 f3;have a6:=ai q7 f0;clear q7 f1 f2 f3 f0;walk_at "gb";obtain⟨A8,r,e8,p8,W8,n3⟩:=Fb P (A:=A7) (q:=q) a5;refine w_eq e8 ?_;have n5:=ai p8 g1;walk_at "gb";have p9:A8<+:A8++[PO.lst [PV.int y]]:=Iu _ _;have g3:(A8++[PO.lst [PV.int y]])[A8.length]?=some (.lst (([y]:List Int).map .int)):=aj;generalize A8++[PO.lst [PV.int y]]=A9 at *;generalize A8.length=la at *;have a0:=G.inN y (Ja e4);have a7:w4 N [y]=true:=by
   unfold w4;simp[a0.1,a0.2];rfl
  have Ps:=GB P;have W9:bG A9 A7.length r N (srt g):=⟨(W8.mono p9).ob,by rw[wk P.nd];exact(W8.mono p9).ls⟩;have a8:=p8.trans p9;refine ae (FJ W9 g3 (by simp) (ai a8 a6) Ps a7 λp hp=>⟨_,m2 p,hm p ((L9 g).mem_iff.mp hp)⟩) λv E s=>?_;obtain⟨_,g4,ll,dl,dk,HP,_⟩:=s;have H:A7<+:E:=a8.trans g4;have I:=ai H a5;have J:=ai H g2;have O:=ai H a6;have a1:=ai H g0;generalize A7.length=w at HP ⊢;generalize A9.length=Pn at HP ⊢;clear H g4 a8 p8 p9 W8 W9 e8 n3 g3 a5 g2 a6 g0 g1 n5;walk_at "gb";refine ae (gh HP Ps a1 (by omega)) λv l s=>?_;obtain⟨_,U,HL⟩:=s;have u4:q<E.length:=E5 I;have v0:0<E.length:=E5 J;have v1:d<E.length:=E5 O;have g5:=ai U I;have g6:=ai U J;have g7:=ai U O;generalize E.length=G' at *;generalize u:(⟨N,srt g,[y],cJ m,gX N k,Pn,w,r,ll,dl,dk,G'⟩:bA)=c at HL;have cG:c.G=G':=by rw[<-u]
  have a9:c.ps=srt g:=by rw[<-u]
  have cN:c.N=N:=by rw[<-u]
  have cL:c.L=[y]:=by rw[<-u]
  have cf:c.f=cJ m:=by rw[<-u]
  have o1:c.fr=gX N k:=by rw[<-u]
  clear u HP I J O a1 U;subst cG cN;have Q:∀p,p∈g↔p∈c.ps:=λp=>by rw[a9];exact(L9 g).mem_iff.symm
  have C:bK c R i k y (t1,k) (k,mm) ch:=by
   refine⟨⟨G.len,G.two,G.six,G.nd,G.inN,λp=>by rw[<-Q p];exact G.ps p⟩,by rw[a9];exact dn P.nd,a2.1,a2.2,D.1,k6,e4,cL,λh h1 h2 h3=>?_,k7,rfl,rfl,l0,l1.symm⟩;rw[o1];exact JZ.mpr ⟨mem_hands.mpr ⟨h1,h2⟩,by simpa using h3⟩
  have o2:∀p∈c.ps,M3 m (l2 p)=some (.int (c.f p)):=λp hp=>by
   have:=hm p ((Q p).mpr hp);rw[cf];unfold cJ;rw[this]
  walk_at "gb";unfold aU;walk_at "fn";walk_at "gb";have Y:l<+:(l++[PO.ins 5 []]).set l.length (PO.ins 5 (putFld 17 (PV.int k) [])):=Y6 (Iu _ _) (Iw _);have h0:((l++[PO.ins 5 []]).set l.length (PO.ins 5 (putFld 17 (PV.int k) [])))[l.length]?=some (.ins 5 [(17,.int k)]):=aT aj;have w1:c.G+4<l.length:=E5 HL.ul;generalize(l++[PO.ins 5 []]).set l.length (PO.ins 5 (putFld 17 (PV.int k) []))=o3 at *;have h4:=ai Y g5;have h5:=ai Y g6;have h6:=ai Y g7;have h7:=HL.mono Y;generalize l.length=kp at *;have p4:gk o3 c ⟨1,[],[],[],0⟩ q d kp ns g m k (t1,k) (k,mm) ch [] 1:=by
   refine⟨⟨h7,h0,by rw[a9];exact wk P.nd⟩,h5,h4,h6,λa ha z=>?_,rfl,λp hp=>by simp[I9,look],rfl,λx hx=>(nomatch hx),λx hx=>(nomatch hx),λp r hr=>(nomatch hr),by decide⟩;unfold own sadr at z;simp only[Oj,IF,Jl,or_false]at z;omega
  have p5:PV.non=Q1 []:=rfl;rw[p5];unfold vr;refine Et (λj σ B=>∃ts b0 b1 b2 b3 b4 S,σ=[some (.ref 0),some (.int c0),some (.int c.N),some (.ref n),some (.ref q),some (.int i),some (.int k),some (pv (t1,k)),some (pv (k,mm)),some (.tup (ch.map .int)),some (.ref d),some (.ref fa),some (.ref c.G),some (Q1 ts),some (.ref kp),b0,b1,b2,b3,b4]/\gk B c S q d kp ns g m k (t1,k) (k,mm) ch ts (1+(j:Nat))) ?_;walk_at "gb";refine⟨1,17,rfl,rfl,⟨by decide,by decide⟩,1,16,rfl,⟨[],_,_,_,_,_,_,rfl,p4⟩,λj σ B hj s=>?_,λσ B s=>?_⟩
  .obtain⟨ts,b0,b1,b2,b3,b4,S,rfl,HB⟩:=s;walk_at "go";refine ae (kP C HB o2 (by omega) (by omega) pl Q P.nd) λo B1 s=>?_;obtain⟨p7,w3,w7,x0,x1,S',rfl,q0⟩:=s;refine⟨p7,_,_,_,_,_,S',rfl,?_⟩;have e:(1:Int)+(j:Nat)+1=1+((j+1:Nat):Int):=by omega
   rw[<-e];exact q0
  .obtain⟨ts,b0,b1,b2,b3,b4,S,rfl,HB⟩:=s;walk_at "gb"
 obtain⟨v,A',e,hv⟩:=mK h;exact⟨A',by rw[e,hv]⟩
end Ws
namespace Ws
open PySem L2
structure je(mg:Str->Option Ip):Prop where
 g_FEWEST_HANDS:∃t,mg "FEWEST_HANDS" = some (.int 2 t)
 g_MOST_HANDS:∃t,mg "MOST_HANDS" = some (.int 6 t)
 g_LAY:∃t,mg "LAY" = some (.str "lay" t)
 g_SAY:∃t,mg "SAY" = some (.str "say" t)
section
set_option maxHeartbeats 4000000
variable{P:IS}{w:Jp}{K:Io}{mg:Str->Option Ip}{base:Heap}{cm:Nat->Addr}
noncomputable def top(i:Nat):Stmt:=PySem.Challenge.pw_wordswap_k34_words_said_on.main.body.getD i (.Pass ⟨0,0,0,0⟩)
structure wo(mg:Str->Option Ip)(cm:Nat->Addr):Prop where
 m_SwapError:mg "SwapError" = some (.ref (cm 7))
 m_NoWeb:mg "NoWeb" = some (.ref (cm 8))
 m_NoPlan:mg "NoPlan" = some (.ref (cm 9))
 m_NoDeed:mg "NoDeed" = some (.ref (cm 12))
 m_Laid:mg "Laid" = some (.ref (cm 13))
 m_NotLaid:mg "NotLaid" = some (.ref (cm 14))
 m_Late:mg "Late" = some (.ref (cm 15))
 m_Unknown:mg "Unknown" = some (.ref (cm 16))
 m_ValueError:mg "ValueError" = none
theorem GI:C6 ["self","at"] ["self","at"] (C2 (C1 (top 2) 0)):=⟨rfl,rfl,rfl,by decide +kernel,rfl,by decide +kernel,by decide +kernel⟩
theorem GJ{b:Addr}{c:IQ}(F:L2.Fun K "__init__" "SwapError.__init__" (C1 (top 2) 0) b c):ay P w K mg base aS 1 b c ["self","at"] (jD K):=
 Cm F GI rfl λd A a e H E f=>ng (BW (L2.pv 0) (L2.pv 1) rfl)
theorem GK:C6 ["value"] ["value"] (C2 (top 13)):=by walk_at "sc"
theorem eJ{a:Addr}{b:IQ}(B:K6 K mg cm)(F:L2.Fun K "is_whole" "is_whole" (top 13) a b):ay P w K mg base aS (1) a b ["value"] (bf K cm N5 1):=
 D8 F GK λ_ _ _ _ _ _ d e c=>by
  exact(C5 (D1 (X4 (X5 (t:=.int) B.kit (ah 0) rfl B.b_isinstance rfl B.b_int LF) (U7 (sT (X5 (t:=.bool) B.kit (ah 0) rfl B.b_isinstance rfl B.b_bool Lr))))))
theorem GN:C6 ["number","value"] ["number","value"] (C2 (top 14)):=by walk_at "sc"
theorem eW{b:Addr}{c:IQ}(B:K6 K mg cm)(a:dc P w K mg base cm "is_whole" 1 ["value"] N5 1)(F:L2.Fun K "is_hand" "is_hand" (top 14) b c):ay P w K mg base aS (2) b c ["number","value"] (bf K cm L0 2):=
 D8 F GN λ_ _ _ _ _ _ d f e=>by
  exact(C5 (D1 (X4 (aD a (by decide) d rfl (r_cons (ah 1) r_nil)) (U7 (oP jP ki y7 gD au (ah 1) (ah 0))))))
theorem i9:C6 ["value"] ["value"] (C2 (top 15)):=by walk_at "sc"
theorem cj{b:Addr}{c:IQ}(B:K6 K mg cm)(d:je mg)(a:dc P w K mg base cm "is_whole" 1 ["value"] N5 1)(F:L2.Fun K "is_number_of_hands" "is_number_of_hands" (top 15) b c):ay P w K mg base aS (2) b c ["value"] (bf K cm G8 1):=
 D8 F i9 λ_ _ _ _ _ _ e g f=>by
  exact(C5 (D1 (X4 (aD a (by decide) e rfl (r_cons (ah 0) r_nil)) (U7 (oP jP ki jP ki (tG rfl d.g_FEWEST_HANDS) (ah 0) (tG rfl d.g_MOST_HANDS))))))
theorem GO:C6 ["number","value"] ["number","value"] (C2 (top 16)):=by walk_at "sc"
theorem dH{b:Addr}{c:IQ}(B:K6 K mg cm)(a:dc P w K mg base cm "is_hand" 2 ["number","value"] L0 2)(F:L2.Fun K "is_passing" "is_passing" (top 16) b c):ay P w K mg base aS (3) b c ["number","value"] (bf K cm N3 2):=
 D8 F GO λ_ _ _ _ _ _ d e f=>by
  exact(C4 (Q8 (PW.pt (i4 (P8 (K5 (X5 (t:=.tuple) B.kit (ah 1) rfl B.b_isinstance rfl B.b_tuple Jx))) (X3 (E7 (T6 e) Y9 (bM (ah 1) rfl B.b_len) au (D5 _)))))
 (C5 (D1 u8))
 E3)
 (C5 (D1 (X4 (aD a (by decide) d rfl (r_cons (ah 0) (r_cons (ba (ah 1) au (λ_ _=>rfl)) r_nil))) (X4 (aD a (by decide) d rfl (r_cons (ah 0) (r_cons (ba (ah 1) au (λ_ _=>rfl)) r_nil))) (U7 (W4 (T6 e) Y9 (ba (ah 1) au (λ_ _=>rfl)) (ba (ah 1) au (λ_ _=>rfl)) (D5 _))))))))
theorem sc_first_wrong_passing:C6 ["number","passings","at","passing"] ["number","passings"] (C2 (top 17)):=by walk_at "sc"
theorem bZ{b:Addr}{c:IQ}(B:K6 K mg cm)(a:dc P w K mg base cm "is_passing" 3 ["number","value"] N3 2)(F:L2.Fun K "first_wrong_passing" "first_wrong_passing" (top 17) b c):ay P w K mg base aS (4) b c ["number","passings"] (bf K cm G3 2):=
 D8 F sc_first_wrong_passing λ_ _ _ _ _ _ d e f=>by
  exact(C4 (iO KL rfl (tF rfl B.b_enumerate (ah 1)) (gE rfl (aV (aC (av (i:=2) sc_first_wrong_passing.nd rfl (.inl rfl))) (aV (aC (av (i:=3) sc_first_wrong_passing.nd rfl (.inl rfl))) cT)))
 (C5 (Q8 (PW.pt (i4 (P8 (K5 (aD a (by decide) d rfl (r_cons (ah 0) (r_cons (ah 3) r_nil))))) (X3 (E7 (jv e) jw (ah 3) (jr (ah 1) dP (jq (ah 2))) (by rfl)))))
 (C5 (D1 (ah 2)))
 E3)))
 (C5 (D1 lK)))
theorem GP:C6 ["self","plan","free"] ["self","plan","free"] (C2 (C1 (top 27) 0)):=by walk_at "sc"
theorem dr{a:Addr}{b:IQ}(B:K6 K mg cm)(F:eQ K "__init__" "Ledger.__init__" (C1 (top 27) 0) a b #[.none]):ay P w K mg base aS (1) a b ["self","plan","free"] (bf K cm N6 3):=
 Dm F GP λ_ _ _ _ _ _ d e c=>by
  exact(C4 (q8 6 B (ah 0) (ah 1))
 (C4 (q8 7 B (ah 0) (sU (lP (ah 2)) (bz r_nil) (oR (ah 2) rfl B.b_list Kh)))
 (C4 (q8 11 B (ah 0) (pK (aO 7 B (ah 0)) rfl B.b_tuple Jx))
 (C4 (q8 12 B (ah 0) au)
 (C4 (q8 13 B (ah 0) mz)
 (C4 (q8 14 B (ah 0) mz)
 (C5 (q8 15 B (ah 0) mz))))))))
theorem GQ:C6 ["self","me"] ["self","me"] (C2 (C1 (top 30) 0)):=by walk_at "sc"
theorem dt{a:Addr}{b:IQ}(B:K6 K mg cm)(F:L2.Fun K "__init__" "Keeper.__init__" (C1 (top 30) 0) a b):ay P w K mg base aS (1) a b ["self","me"] (bf K cm aU 2):=
 D8 F GQ λ_ _ _ _ _ _ d e c=>by
  exact(C5 (q8 17 B (ah 0) (ah 1)))
theorem GR:C6 ["numbers"] ["numbers"] (C2 (top 32)):=by walk_at "sc"
theorem ea{a:Addr}{b:IQ}(B:K6 K mg cm)(F:L2.Fun K "is_rising" "is_rising" (top 32) a b):ay P w K mg base aS (1) a b ["numbers"] (bf K cm V7 1):=
 D8 F GR λ_ _ _ _ _ _ d e c=>by
  exact(C5 (D1 (jz rfl (O0 (N:=["low","high"]) [none,none] rfl (⟨rfl,rfl,by decide +kernel,by decide +kernel,aw,(af (λh=>nomatch h) (af (λh=>nomatch h) (af (λh=>nomatch h) aw)))⟩) (.own (.own .nil)) (il (λ_ _=>nofun) rfl B.b_zip (ah 0) (jr (ah 0) (jq au) dP)) (λ_ _ _ _=>(gE rfl (aV (aC (av (i:=0) (show Jn (["low","high"]:List Str)from by decide +kernel) rfl (by walk_at "o2"))) (aV (aC (av (i:=1) (show Jn (["low","high"]:List Str)from by decide +kernel) rfl (by walk_at "o2"))) cT)))) (λ_ _ _ _=>P3) (λ_ _ _ _=>(W4 y7 gD (ah 0) (ah 1) (D5 _)))) rfl B.b_all)))
theorem GS:C6 ["web","leaders"] ["web","leaders"] (C2 (top 33)):=by walk_at "sc"
theorem du{c:Addr}{d:IQ}(B:K6 K mg cm)(a:dc P w K mg base cm "is_rising" 1 ["numbers"] V7 1)(b:dc P w K mg base cm "is_hand" 2 ["number","value"] L0 2)(F:L2.Fun K "are_leaders" "are_leaders" (top 33) c d):ay P w K mg base aS (3) c d ["web","leaders"] (bf K cm R9 2):=
 D8 F GS λ_ _ _ _ _ _ e f g=>by
  exact(C4 (Q8 (PW.pt (i4 (P8 (K5 (X5 (t:=.list) B.kit (ah 1) rfl B.b_isinstance rfl B.b_list Kh))) (X3 (E7 (O5 f) T7 (ah 1) (bz r_nil) (D5 _)))))
 (C5 (D1 u8))
 E3)
 (C5 (D1 (X4 (jz rfl (O0 (N:=["h","web"]) [none,some 0] rfl (⟨rfl,rfl,by decide +kernel,by decide +kernel,(af rfl aw),(af (by walk_at "fb") (af (by walk_at "fb") (af (by walk_at "fb") (af (by walk_at "fb") aw))))⟩) (.own (.free rfl (by walk_at "o2") (by walk_at "o3") rfl (by walk_at "o2") .nil)) (bb (ah 1)) (λ_ _ _ _=>(aC (av (i:=0) (show Jn (["h","web"]:List Str)from by decide +kernel) rfl (by walk_at "o2")))) (λ_ _ _ _=>P3) (λ_ _ _ _=>(aD b (by decide) e rfl (r_cons (aO 0 B (ah 1)) (r_cons (ah 0) r_nil))))) rfl B.b_all) (U7 (aD a (by decide) e rfl (r_cons (ah 1) r_nil)))))))
theorem GU:C6 ["value"] ["value"] (C2 (top 34)):=by walk_at "sc"
theorem eL{b:Addr}{c:IQ}(B:K6 K mg cm)(a:dc P w K mg base cm "is_whole" 1 ["value"] N5 1)(F:L2.Fun K "is_limit" "is_limit" (top 34) b c):ay P w K mg base aS (2) b c ["value"] (bf K cm U8 1):=
 D8 F GU λ_ _ _ _ _ _ d f e=>by
  exact(C5 (D1 (X4 (aD a (by decide) d rfl (r_cons (ah 0) r_nil)) (U7 (W4 yg z6 (ah 0) au (D5 _))))))
theorem sc_Plan_init:C6 ["self","web","leaders","limits","kept","passing"] ["self","web","leaders","limits"] (C2 (C1 (top 35) 0)):=by walk_at "sc"
theorem ee{d:Addr}{e:IQ}(B:K6 K mg cm)(a:dc P w K mg base cm "are_leaders" 3 ["web","leaders"] R9 2)(b:dc P w K mg base cm "is_limit" 2 ["value"] U8 1)(F:L2.Fun K "__init__" "Plan.__init__" (C1 (top 35) 0) d e):ay P w K mg base aS (4) d e ["self","web","leaders","limits"] (bf K cm P9 4):=
 D8 F sc_Plan_init λ_ _ _ _ _ _ f g c=>by
  exact(C4 (Q8 (P8 (K5 (aD a (by decide) f rfl (r_cons (ah 1) (r_cons (ah 2) r_nil)))))
 (C5 lQ)
 E3)
 (C4 (K4 (i:=4) sc_Plan_init.nd rfl (.inl rfl) mz)
 (C4 (iO KL rfl (bb (aO 1 B (ah 1))) (aC (av (i:=5) sc_Plan_init.nd rfl (.inl rfl)))
 (C4 (Q8 (P8 (K5 (aD b (by decide) f rfl (r_cons (uH c (ah 3) (ah 5)) r_nil))))
 (C5 lQ)
 E3)
 (C5 (uG c (ah 4) (ah 5) (jF c (ah 3) (ah 5) (λ_ _=>rfl))))))
 (C4 (q8 3 B (ah 0) (ah 1))
 (C4 (q8 4 B (ah 0) (oR (ah 2) rfl B.b_list Kh))
 (C4 (q8 5 B (ah 0) (CN (ah 4) rfl B.b_dict))
 (C4 (q8 9 B (ah 0) (pK (ah 2) rfl B.b_tuple Jx))
 (C5 (q8 10 B (ah 0) (ah 4))))))))))
theorem sc_Web_init:C6 ["self","number","passings","wrong"] ["self","number","passings"] (C2 (C1 (top 18) 0)):=by walk_at "sc"
theorem eM{c:Addr}{d:IQ}(B:K6 K mg cm)(b:dc P w K mg base cm "is_number_of_hands" 2 ["value"] G8 1)(a:dc P w K mg base cm "first_wrong_passing" 4 ["number","passings"] G3 2)(F:L2.Fun K "__init__" "Web.__init__" (C1 (top 18) 0) c d):ay P w K mg base aS (5) c d ["self","number","passings"] (bf K cm Q0 3):=
 D8 F sc_Web_init λ_ _ _ _ _ _ e f g=>by
  exact(C4 (Q8 (P8 (K5 (aD b (by decide) e rfl (r_cons (ah 1) r_nil))))
 (C5 lQ)
 E3)
 (C4 (K4 (i:=3) sc_Web_init.nd rfl (.inl rfl) (aD a (by decide) e rfl (r_cons (ah 1) (r_cons (ah 2) r_nil))))
 (C4 (Q8 (sS (ah 3))
 (C5 lQ)
 E3)
 (C4 (q8 0 B (ah 0) (ah 1))
 (C5 (q8 1 B (ah 0) (tY f (ah 2) rfl B.b_sorted)))))))
theorem GV:C6 ["self","h"] ["self","h"] (C2 (C1 (top 18) 1)):=by walk_at "sc"
theorem cZ{a:Addr}{b:IQ}(B:K6 K mg cm)(F:L2.Fun K "givers_of" "Web.givers_of" (C1 (top 18) 1) a b):ay P w K mg base aS (1) a b ["self","h"] (bf K cm M9 2):=
 D8 F GV λ_ _ _ _ _ _ e c d=>by
  exact(C5 (D1 (O0 (N:=["giver","taker","h"]) [none,none,some 1] rfl (⟨rfl,rfl,by decide +kernel,by decide +kernel,(af rfl aw),(af (λh=>nomatch h) (af (λh=>nomatch h) (af (λh=>nomatch h) (af (λ_=>rfl) aw))))⟩) (.own (.own (.free rfl (by walk_at "o2") (by walk_at "o3") rfl (by walk_at "o2") .nil))) (bb (aO 1 B (ah 0))) (λ_ _ _ _=>(gE rfl (aV (aC (av (i:=0) (show Jn (["giver","taker","h"]:List Str)from by decide +kernel) rfl (by walk_at "o2"))) (aV (aC (av (i:=1) (show Jn (["giver","taker","h"]:List Str)from by decide +kernel) rfl (by walk_at "o2"))) cT)))) (λ_ _ _ _=>(ku (E7 (O5 c) T7 (ah 1) (ah 2) (D5 _)))) (λ_ _ _ _=>(ah 0)))))
theorem GW:C6 ["self","h"] ["self","h"] (C2 (C1 (top 18) 2)):=by walk_at "sc"
theorem da{a:Addr}{b:IQ}(B:K6 K mg cm)(F:L2.Fun K "takers_of" "Web.takers_of" (C1 (top 18) 2) a b):ay P w K mg base aS (1) a b ["self","h"] (bf K cm N0 2):=
 D8 F GW λ_ _ _ _ _ _ e c d=>by
  exact(C5 (D1 (O0 (N:=["giver","taker","h"]) [none,none,some 1] rfl (⟨rfl,rfl,by decide +kernel,by decide +kernel,(af rfl aw),(af (λh=>nomatch h) (af (λh=>nomatch h) (af (λh=>nomatch h) (af (λ_=>rfl) aw))))⟩) (.own (.own (.free rfl (by walk_at "o2") (by walk_at "o3") rfl (by walk_at "o2") .nil))) (bb (aO 1 B (ah 0))) (λ_ _ _ _=>(gE rfl (aV (aC (av (i:=0) (show Jn (["giver","taker","h"]:List Str)from by decide +kernel) rfl (by walk_at "o2"))) (aV (aC (av (i:=1) (show Jn (["giver","taker","h"]:List Str)from by decide +kernel) rfl (by walk_at "o2"))) cT)))) (λ_ _ _ _=>(ku (E7 (O5 c) T7 (ah 0) (ah 2) (D5 _)))) (λ_ _ _ _=>(ah 1)))))
theorem GX:C6 ["web","leaders","chain"] ["web","leaders","chain"] (C2 (top 20)):=by walk_at "sc"
theorem eN{c:Addr}{d:IQ}(B:K6 K mg cm)(a:dc P w K mg base cm "is_hand" 2 ["number","value"] L0 2)(F:L2.Fun K "is_chain" "is_chain" (top 20) c d):ay P w K mg base aS (3) c d ["web","leaders","chain"] (bf K cm U9 3):=
 D8 F GX λ_ _ _ _ _ _ e b f=>by
  exact(C4 (Q8 (PW.pt (i4 (E7 (O5 b) T7 (ah 2) (aW r_nil) (D5 _)) (X3 (E7 (tw b) tz (ba (ah 2) uc (λ_ _=>rfl)) (ah 1) (by rfl)))))
 (C5 (D1 u8))
 E3)
 (C4 (Q8 (PW.pt (i4 (E7 y7 gD (BM rfl (ah 2) rfl B.b_len rfl B.b_set) (bM (ah 2) rfl B.b_len) (D5 _)) (X3 (P8 (K5 (jz rfl (O0 (N:=["h","web"]) [none,some 0] rfl (⟨rfl,rfl,by decide +kernel,by decide +kernel,(af rfl aw),(af (by walk_at "fb") (af (by walk_at "fb") (af (by walk_at "fb") (af (by walk_at "fb") aw))))⟩) (.own (.free rfl (by walk_at "o2") (by walk_at "o3") rfl (by walk_at "o2") .nil)) (bb (ah 2)) (λ_ _ _ _=>(aC (av (i:=0) (show Jn (["h","web"]:List Str)from by decide +kernel) rfl (by walk_at "o2")))) (λ_ _ _ _=>P3) (λ_ _ _ _=>(aD a (by decide) e rfl (r_cons (aO 0 B (ah 1)) (r_cons (ah 0) r_nil))))) rfl B.b_all))))))
 (C5 (D1 u8))
 E3)
 (C5 (D1 (jz rfl (O0 (N:=["step","web"]) [none,some 0] rfl (⟨rfl,rfl,by decide +kernel,by decide +kernel,(af rfl aw),(af (λh=>nomatch h) (af (λh=>nomatch h) (af (λ_=>rfl) aw)))⟩) (.own (.free rfl (by walk_at "o2") (by walk_at "o3") rfl (by walk_at "o2") .nil)) (il (λ_ _=>nofun) rfl B.b_zip (ah 2) (jr (ah 2) (jq au) dP)) (λ_ _ _ _=>(aC (av (i:=0) (show Jn (["step","web"]:List Str)from by decide +kernel) rfl (by walk_at "o2")))) (λ_ _ _ _=>P3) (λ_ _ _ _=>(W4 (jv b) jw (ah 0) (aO 1 B (ah 1)) (by rfl)))) rfl B.b_all)))))
theorem GY:C6 ["web","value"] ["web","value"] (C2 (top 24)):=by walk_at "sc"
theorem fJ{b:Addr}{c:IQ}(B:K6 K mg cm)(a:dc P w K mg base cm "is_passing" 3 ["number","value"] N3 2)(F:L2.Fun K "is_box" "is_box" (top 24) b c):ay P w K mg base aS (4) b c ["web","value"] (bf K cm c6 2):=
 D8 F GY λ_ _ _ _ _ _ d e f=>by
  exact(C5 (D1 (X4 (aD a (by decide) d rfl (r_cons (aO 0 B (ah 0)) (r_cons (ah 1) r_nil))) (U7 (W4 (jv e) jw (ah 1) (aO 1 B (ah 0)) (by rfl))))))
theorem GZ:C6 ["plan","value"] ["plan","value"] (C2 (top 25)):=by walk_at "sc"
theorem dv{c:Addr}{d:IQ}(B:K6 K mg cm)(b:dc P w K mg base cm "is_hand" 2 ["number","value"] L0 2)(a:dc P w K mg base cm "is_chain" 3 ["web","leaders","chain"] U9 3)(F:L2.Fun K "is_chain_of" "is_chain_of" (top 25) c d):ay P w K mg base aS (4) c d ["plan","value"] (bf K cm P0 2):=
 D8 F GZ λ_ _ _ _ _ _ e g f=>by
  exact(C4 (Q8 (PW.pt (i4 (P8 (K5 (X5 (t:=.tuple) B.kit (ah 1) rfl B.b_isinstance rfl B.b_tuple Jx))) (X3 (P8 (K5 (jz rfl (O0 (N:=["h","plan"]) [none,some 0] rfl (⟨rfl,rfl,by decide +kernel,by decide +kernel,(af rfl aw),(af (by walk_at "fb") (af (by walk_at "fb") (af (by walk_at "fb") (af (by walk_at "fb") aw))))⟩) (.own (.free rfl (by walk_at "o2") (by walk_at "o3") rfl (by walk_at "o2") .nil)) (bb (ah 1)) (λ_ _ _ _=>(aC (av (i:=0) (show Jn (["h","plan"]:List Str)from by decide +kernel) rfl (by walk_at "o2")))) (λ_ _ _ _=>P3) (λ_ _ _ _=>(aD b (by decide) e rfl (r_cons (aO 0 B (aO 3 B (ah 1))) (r_cons (ah 0) r_nil))))) rfl B.b_all))))))
 (C5 (D1 u8))
 E3)
 (C5 (D1 (aD a (by decide) e rfl (r_cons (aO 3 B (ah 0)) (r_cons (aO 9 B (ah 0)) (r_cons (ah 1) r_nil)))))))
theorem Ha:C6 ["plan","value"] ["plan","value"] (C2 (top 26)):=by walk_at "sc"
theorem eX{d:Addr}{e:IQ}(B:K6 K mg cm)(f:je mg)(b:dc P w K mg base cm "is_box" 4 ["web","value"] c6 2)(a:dc P w K mg base cm "is_chain_of" 4 ["plan","value"] P0 2)(F:L2.Fun K "is_deed" "is_deed" (top 26) d e):ay P w K mg base aS (5) d e ["plan","value"] (bf K cm T1 2):=
 D8 F Ha λ_ _ _ _ _ _ g c h=>by
  exact(C4 (Q8 (PW.pt (i4 (P8 (K5 (X5 (t:=.tuple) B.kit (ah 1) rfl B.b_isinstance rfl B.b_tuple Jx))) (i4 (E7 y7 gD (bM (ah 1) rfl B.b_len) au (D5 _)) (X3 (P8 (K5 (aD b (by decide) g rfl (r_cons (aO 3 B (ah 0)) (r_cons (ba (ah 1) au (λ_ _=>rfl)) r_nil)))))))))
 (C5 (D1 u8))
 E3)
 (C4 (Q8 (E7 (O5 c) T7 (bM (ah 1) rfl B.b_len) au (D5 _))
 (C5 (D1 (W4 (O5 c) T7 (ba (ah 1) au (λ_ _=>rfl)) (o4 rfl f.g_LAY) (D5 _))))
 E3)
 (C4 (Q8 (PW.pt (i4 (E7 (T6 c) Y9 (bM (ah 1) rfl B.b_len) au (D5 _)) (X3 (E7 (T6 c) Y9 (ba (ah 1) au (λ_ _=>rfl)) (o4 rfl f.g_SAY) (D5 _)))))
 (C5 (D1 u8))
 E3)
 (C5 (D1 (X4 (aD a (by decide) g rfl (r_cons (ah 0) (r_cons (ba (ah 1) au (λ_ _=>rfl)) r_nil))) (U7 (W4 (O5 c) T7 (ba (ba (ah 1) au (λ_ _=>rfl)) au (λ_ _=>rfl)) (ba (ba (ah 1) au (λ_ _=>rfl)) au (λ_ _=>rfl)) (D5 _)))))))))
theorem Hb:C6 ["self"] ["self"] (C2 (C1 (top 27) 1)):=by walk_at "sc"
theorem dw{a:Addr}{b:IQ}(B:K6 K mg cm)(F:L2.Fun K "turn" "Ledger.turn" (C1 (top 27) 1) a b):ay P w K mg base aS (1) a b ["self"] (bf K cm ax 1):=
 D8 F Hb λ_ _ _ _ _ _ d e c=>by
  exact(C5 (D1 (aO 12 B (ah 0))))
theorem Hc:C6 ["self"] ["self"] (C2 (C1 (top 27) 2)):=by walk_at "sc"
theorem dy{a:Addr}{b:IQ}(B:K6 K mg cm)(F:L2.Fun K "move" "Ledger.move" (C1 (top 27) 2) a b):ay P w K mg base aS (1) a b ["self"] (bf K cm K7 1):=
 D8 F Hc λ_ _ _ _ _ _ d e c=>by
  exact(C5 (q8 12 B (ah 0) (aI op_add3 aN (aO 12 B (ah 0)) au)))
theorem w6:C6 ["self","deed"] ["self","deed"] (C2 (C1 (top 27) 4)):=by walk_at "sc"
theorem cD{c:Addr}{d:IQ}(B:K6 K mg cm)(a:iT P w K mg base cm 13 "Laid" 1)(F:L2.Fun K "take_lay" "Ledger.take_lay" (C1 (top 27) 4) c d):ay P w K mg base (fu P w) 3 c d ["self","deed"] (gG K cm K1 2):=
 pX F w6 λ_ _ _ _ _ _ e f b=>
  (V6 (jC (Cz b (ba (ah 1) au (λ_ _=>rfl)) (aO 13 B (ah 0)))
 (V3 (m4 v8 rfl a (by decide) e rfl (r_cons (ah 1) r_nil)))
 (kD E3))
 (V3 (kC (uG b (aO 13 B (ah 0)) (ba (ah 1) au (λ_ _=>rfl)) (aO 12 B (ah 0))))))
theorem He:C6 ["self","passing"] ["self","passing"] (C2 (C1 (top 35) 1)):=by walk_at "sc"
theorem dJ{b:Addr}{c:IQ}(B:K6 K mg cm)(F:L2.Fun K "limit" "Plan.limit" (C1 (top 35) 1) b c):ay P w K mg base aS (1) b c ["self","passing"] (bf K cm T9 2):=
 D8 F He λ_ _ _ _ _ _ d e a=>by
  exact(C5 (D1 (jF a (aO 10 B (ah 0)) (ah 1) (λ_ _=>rfl))))
theorem Hf:C6 ["self","passing","chain"] ["self","passing","chain"] (C2 (C1 (top 27) 8)):=by walk_at "sc"
theorem cU{b:Addr}{c:IQ}(B:K6 K mg cm)(a:Q9 P w K mg base cm 1 "limit" 1 ["self","passing"] T9 2)(F:L2.Fun K "is_late" "Ledger.is_late" (C1 (top 27) 8) b c):ay P w K mg base aS (2) b c ["self","passing","chain"] (bf K cm D9 3):=
 D8 F Hf λ_ _ _ _ _ _ d f e=>by
  exact(C5 (D1 (W4 yf z5 (aO 12 B (ah 0)) (aI op_add3 aN (aH a (by decide) d (B.cls _ (by decide)) (aO 6 B (ah 0)) (r_cons (ah 1) r_nil) (by decide +kernel)) (bM (ah 2) rfl B.b_len)) (D5 _))))
theorem d3:C6 ["self","passing"] ["self","passing"] (C2 (C1 (top 27) 7)):=by walk_at "sc"
theorem bQ{b:Addr}{c:IQ}(B:K6 K mg cm)(F:L2.Fun K "is_laid_ahead" "Ledger.is_laid_ahead" (C1 (top 27) 7) b c):ay P w K mg base aS (1) b c ["self","passing"] (bf K cm E8 2):=
 D8 F d3 λ_ _ _ _ _ _ d e a=>by
  exact(C5 (D1 (X4 (uF a (ah 1) (aO 13 B (ah 0))) (U7 (W4 y7 gD (jF a (aO 13 B (ah 0)) (ah 1) (λ_ _=>rfl)) (aO 12 B (ah 0)) (D5 _))))))
theorem d4:C6 ["self","chain"] ["self","chain"] (C2 (C1 (top 27) 10)):=by walk_at "sc"
theorem bR{b:Addr}{c:IQ}(B:K6 K mg cm)(F:L2.Fun K "is_said_ahead" "Ledger.is_said_ahead" (C1 (top 27) 10) b c):ay P w K mg base aS (1) b c ["self","chain"] (bf K cm E9 2):=
 D8 F d4 λ_ _ _ _ _ _ d e a=>by
  exact(C5 (D1 (X4 (uF a (ah 1) (aO 15 B (ah 0))) (U7 (W4 y7 gD (jF a (aO 15 B (ah 0)) (ah 1) (λ_ _=>rfl)) (aO 12 B (ah 0)) (D5 _))))))
theorem sc_Ledger_is_sayable:C6 ["self","chain","left"] ["self","chain"] (C2 (C1 (top 27) 9)):=by walk_at "sc"
theorem cz{c:Addr}{d:IQ}(B:K6 K mg cm)(a:Q9 P w K mg base cm 2 "is_said_ahead" 1 ["self","chain"] E9 2)(F:L2.Fun K "is_sayable" "Ledger.is_sayable" (C1 (top 27) 9) c d):ay P w K mg base aS (2) c d ["self","chain"] (bf K cm H9 2):=
 D8 F sc_Ledger_is_sayable λ_ _ _ _ _ _ e b f=>by
  exact(C4 (K4 (i:=2) sc_Ledger_is_sayable.nd rfl (.inl rfl) (jr (ah 1) (jq au) dP))
 (C4 (Au KL (PW.pt (u9 (E7 (T6 b) Y9 (ah 2) (aW r_nil) (D5 _)) (kl (E7 (jv b) jw (ba (ah 2) au (λ_ _=>rfl)) (aO 11 B (ah 0)) (by rfl)))))
 (C5 (K4 (i:=2) sc_Ledger_is_sayable.nd rfl (.inl rfl) (jr (ah 2) (jq au) dP))))
 (C5 (D1 (Ah (W4 (O5 b) T7 (ah 2) (aW r_nil) (D5 _)) (Ag (aH a (by decide) e (B.cls _ (by decide)) (ah 0) (r_cons (ah 2) r_nil) (by decide +kernel))))))))
theorem sc_Ledger_take_say:C6 ["self","deed","passing","chain"] ["self","deed"] (C2 (C1 (top 27) 5)):=by walk_at "sc"
theorem cE{j:Addr}{k:IQ}(B:K6 K mg cm)(a:Q9 P w K mg base cm 2 "is_laid_ahead" 1 ["self","passing"] E8 2)(d:iT P w K mg base cm 14 "NotLaid" 1)(c:Q9 P w K mg base cm 2 "is_late" 2 ["self","passing","chain"] D9 3)(f:iT P w K mg base cm 15 "Late" 1)(b:Q9 P w K mg base cm 2 "is_sayable" 2 ["self","chain"] H9 2)(e:iT P w K mg base cm 16 "Unknown" 1)(F:L2.Fun K "take_say" "Ledger.take_say" (C1 (top 27) 5) j k):ay P w K mg base (fu P w) 3 j k ["self","deed"] (gG K cm K2 2):=
 pX F sc_Ledger_take_say λ_ _ _ _ _ _ g l h=>
  (V6 (kC (K4 (i:=2) sc_Ledger_take_say.nd rfl (.inl rfl) (ba (ah 1) au (λ_ _=>rfl))))
 (V6 (kC (K4 (i:=3) sc_Ledger_take_say.nd rfl (.inl rfl) (ba (ah 1) au (λ_ _=>rfl))))
 (V6 (jC (P8 (K5 (aH a (by decide) g (B.cls _ (by decide)) (ah 0) (r_cons (ah 2) r_nil) (by decide +kernel))))
 (V3 (m4 v8 rfl d (by decide) g rfl (r_cons (ah 1) r_nil)))
 (kD E3))
 (V6 (jC (K5 (aH c (by decide) g (B.cls _ (by decide)) (ah 0) (r_cons (ah 2) (r_cons (ah 3) r_nil)) (by decide +kernel)))
 (V3 (m4 v8 rfl f (by decide) g rfl (r_cons (ah 1) r_nil)))
 (kD E3))
 (V6 (jC (P8 (K5 (aH b (by decide) g (B.cls _ (by decide)) (ah 0) (r_cons (ah 3) r_nil) (by decide +kernel))))
 (V3 (m4 v8 rfl e (by decide) g rfl (r_cons (ah 1) r_nil)))
 (kD E3))
 (V6 (kC (jt (sY (uN h (aO 14 B (ah 0)) (ah 2) (bz r_nil)) (aW (r_cons (aO 12 B (ah 0)) (r_cons (ah 3) r_nil))))))
 (V3 (kC (jt (uN h (aO 15 B (ah 0)) (ah 3) (aO 12 B (ah 0))))))))))))
theorem Hg:C6 ["self","deed"] ["self","deed"] (C2 (C1 (top 27) 3)):=by walk_at "sc"
theorem dg{f:Addr}{g:IQ}(B:K6 K mg cm)(h:je mg)(c:dc P w K mg base cm "is_deed" 5 ["plan","value"] T1 2)(d:iT P w K mg base cm 12 "NoDeed" 1)(a:kE P w K mg base cm 2 "take_lay" 3 ["self","deed"] K1 2)(b:kE P w K mg base cm 2 "take_say" 3 ["self","deed"] K2 2)(F:L2.Fun K "take" "Ledger.take" (C1 (top 27) 3) f g):ay P w K mg base (fu P w) 6 f g ["self","deed"] (gG K cm J9 2):=
 pX F Hg λ_ _ _ _ _ _ e i j=>
  (V6 (jC (P8 (K5 (aD c (by decide) e rfl (r_cons (aO 6 B (ah 0)) (r_cons (ah 1) r_nil)))))
 (V3 (m4 v8 rfl d (by decide) e rfl (r_cons (ah 1) r_nil)))
 (kD E3))
 (V3 (jC (E7 (O5 i) T7 (ba (ah 1) au (λ_ _=>rfl)) (o4 rfl h.g_LAY) (D5 _))
 (V3 (uw v8 (pU a (by decide) e (B.cls _ (by decide)) (ah 0) (r_cons (ah 1) r_nil) (by decide +kernel))))
 (V3 (uw v8 (pU b (by decide) e (B.cls _ (by decide)) (ah 0) (r_cons (ah 1) r_nil) (by decide +kernel)))))))
theorem w8:C6 ["self","passing"] ["self","passing"] (C2 (C1 (top 27) 6)):=by walk_at "sc"
theorem cQ{b:Addr}{c:IQ}(B:K6 K mg cm)(F:L2.Fun K "lay_turn" "Ledger.lay_turn" (C1 (top 27) 6) b c):ay P w K mg base aS (1) b c ["self","passing"] (bf K cm K3 2):=
 D8 F w8 λ_ _ _ _ _ _ d e a=>by
  exact(C5 (D1 (uH a (aO 13 B (ah 0)) (ah 1))))
theorem Hh:C6 ["self","passing"] ["self","passing"] (C2 (C1 (top 27) 14)):=by walk_at "sc"
theorem dz{b:Addr}{c:IQ}(B:K6 K mg cm)(F:L2.Fun K "said" "Ledger.said" (C1 (top 27) 14) b c):ay P w K mg base aS (1) b c ["self","passing"] (bf K cm P1 2):=
 D8 F Hh λ_ _ _ _ _ _ d e a=>by
  exact(C5 (D1 (oR (CA a (aO 14 B (ah 0)) (ah 1) (bz r_nil)) rfl B.b_list Kh)))
theorem Hi:C6 ["self","h"] ["self","h"] (C2 (C1 (top 35) 2)):=by walk_at "sc"
theorem dM{a:Addr}{b:IQ}(B:K6 K mg cm)(F:L2.Fun K "leads" "Plan.leads" (C1 (top 35) 2) a b):ay P w K mg base aS (1) a b ["self","h"] (bf K cm Q5 2):=
 D8 F Hi λ_ _ _ _ _ _ e c d=>by
  exact(C5 (D1 (W4 (jv c) jw (ah 1) (aO 9 B (ah 0)) (by rfl))))
theorem j0:C6 ["self","ledger"] ["self","ledger"] (C2 (C1 (top 30) 2)):=by walk_at "sc"
theorem ck{b:Addr}{c:IQ}(B:K6 K mg cm)(a:Q9 P w K mg base cm 0 "givers_of" 1 ["self","h"] M9 2)(F:L2.Fun K "boxes_to_me" "Keeper.boxes_to_me" (C1 (top 30) 2) b c):ay P w K mg base aS (2) b c ["self","ledger"] (bf K cm D0 2):=
 D8 F j0 λ_ _ _ _ _ _ d f e=>by
  exact(C5 (D1 (O0 (N:=["giver","self"]) [none,some 0] rfl (⟨rfl,rfl,by decide +kernel,by decide +kernel,(af rfl aw),(af (λh=>nomatch h) (af (λh=>nomatch h) (af (λ_=>rfl) aw)))⟩) (.own (.free rfl (by walk_at "o2") (by walk_at "o3") rfl (by walk_at "o2") .nil)) (bb (aH a (by decide) d (B.cls _ (by decide)) (aO 3 B (aO 6 B (ah 1))) (r_cons (aO 17 B (ah 0)) r_nil) (by decide +kernel))) (λ_ _ _ _=>(aC (av (i:=0) (show Jn (["giver","self"]:List Str)from by decide +kernel) rfl (by walk_at "o2")))) (λ_ _ _ _=>P3) (λ_ _ _ _=>(aW (r_cons (ah 0) (r_cons (aO 17 B (ah 1)) r_nil)))))))
theorem sc_Keeper_ready_turn:C6 ["self","ledger","turns"] ["self","ledger"] (C2 (C1 (top 30) 4)):=by walk_at "sc"
theorem cA{c:Addr}{d:IQ}(B:K6 K mg cm)(b:Q9 P w K mg base cm 2 "lay_turn" 1 ["self","passing"] K3 2)(a:Q9 P w K mg base cm 5 "boxes_to_me" 2 ["self","ledger"] D0 2)(F:L2.Fun K "ready_turn" "Keeper.ready_turn" (C1 (top 30) 4) c d):ay P w K mg base aS (3) c d ["self","ledger"] (bf K cm E1 2):=
 D8 F sc_Keeper_ready_turn λ_ _ _ _ _ _ e f g=>by
  exact(C4 (pe (N:=["box","ledger"]) [none,some 1] rfl (⟨rfl,rfl,by decide +kernel,by decide +kernel,(af rfl aw),(af (λh=>nomatch h) (af (λh=>nomatch h) (af (λ_=>rfl) aw)))⟩) (.own (.free rfl (by walk_at "o2") (by walk_at "o3") rfl (by walk_at "o2") .nil)) (bb (aH a (by decide) e (B.cls _ (by decide)) (ah 0) (r_cons (ah 1) r_nil) (by decide +kernel))) (λ_ _ _ _=>(aC (av (i:=0) (show Jn (["box","ledger"]:List Str)from by decide +kernel) rfl (by walk_at "o2")))) (λ_ _ _ _=>P3) (λ_ _ _ _=>(aH b (by decide) e (B.cls _ (by decide)) (ah 1) (r_cons (ah 0) r_nil) (by decide +kernel))) (i:=2) sc_Keeper_ready_turn.nd rfl (.inl rfl))
 (C4 (Q8 (E7 (jv f) jw lK (ah 2) (by rfl))
 (C5 (D1 lK))
 E3)
 (C5 (D1 (aI op_add3 aN au (Bt rfl (ah 2) au rfl B.b_max))))))
theorem d5:C6 ["self","ledger"] ["self","ledger"] (C2 (C1 (top 30) 3)):=by walk_at "sc"
theorem bS{b:Addr}{c:IQ}(B:K6 K mg cm)(a:Q9 P w K mg base cm 0 "takers_of" 1 ["self","h"] N0 2)(F:L2.Fun K "boxes_of_mine" "Keeper.boxes_of_mine" (C1 (top 30) 3) b c):ay P w K mg base aS (2) b c ["self","ledger"] (bf K cm D4 2):=
 D8 F d5 λ_ _ _ _ _ _ d f e=>by
  exact(C5 (D1 (O0 (N:=["taker","self"]) [none,some 0] rfl (⟨rfl,rfl,by decide +kernel,by decide +kernel,(af rfl aw),(af (λh=>nomatch h) (af (λh=>nomatch h) (af (λ_=>rfl) aw)))⟩) (.own (.free rfl (by walk_at "o2") (by walk_at "o3") rfl (by walk_at "o2") .nil)) (bb (aH a (by decide) d (B.cls _ (by decide)) (aO 3 B (aO 6 B (ah 1))) (r_cons (aO 17 B (ah 0)) r_nil) (by decide +kernel))) (λ_ _ _ _=>(aC (av (i:=0) (show Jn (["taker","self"]:List Str)from by decide +kernel) rfl (by walk_at "o2")))) (λ_ _ _ _=>P3) (λ_ _ _ _=>(aW (r_cons (aO 17 B (ah 1)) (r_cons (ah 0) r_nil)))))))
theorem sc_Keeper_lays:C6 ["self","ledger","turn"] ["self","ledger"] (C2 (C1 (top 30) 5)):=by walk_at "sc"
theorem dA{f:Addr}{g:IQ}(B:K6 K mg cm)(j:je mg)(d:Q9 P w K mg base cm 1 "leads" 1 ["self","h"] Q5 2)(b:Q9 P w K mg base cm 5 "ready_turn" 3 ["self","ledger"] E1 2)(c:Q9 P w K mg base cm 2 "turn" 1 ["self"] ax 1)(a:Q9 P w K mg base cm 5 "boxes_of_mine" 2 ["self","ledger"] D4 2)(F:L2.Fun K "lays" "Keeper.lays" (C1 (top 30) 5) f g):ay P w K mg base aS (4) f g ["self","ledger"] (bf K cm K0 2):=
 D8 F sc_Keeper_lays λ_ _ _ _ _ _ e k l=>by
  exact(C4 (K4 (i:=2) sc_Keeper_lays.nd rfl (.inl rfl) (sU (K5 (aH d (by decide) e (B.cls _ (by decide)) (aO 6 B (ah 1)) (r_cons (aO 17 B (ah 0)) r_nil) (by decide +kernel))) au (aH b (by decide) e (B.cls _ (by decide)) (ah 0) (r_cons (ah 1) r_nil) (by decide +kernel))))
 (C4 (Q8 (E7 (T6 k) Y9 (m3 c (by decide) e (B.cls _ (by decide)) (ah 1) (by decide +kernel)) (ah 2) (D5 _))
 (C5 (D1 (bz r_nil)))
 E3)
 (C5 (D1 (O0 (N:=["box"]) [none] rfl (⟨rfl,rfl,by decide +kernel,by decide +kernel,aw,(af (λh=>nomatch h) (af (λh=>nomatch h) (af (λh=>nomatch h) aw)))⟩) (.own .nil) (bb (aH a (by decide) e (B.cls _ (by decide)) (ah 0) (r_cons (ah 1) r_nil) (by decide +kernel))) (λ_ _ _ _=>(aC (av (i:=0) (show Jn (["box"]:List Str)from by decide +kernel) rfl (by walk_at "o2")))) (λ_ _ _ _=>P3) (λ_ _ _ _=>(aW (r_cons (o4 rfl j.g_LAY) (r_cons (ah 0) r_nil)))))))))
theorem sc_Keeper_says_own_word:C6 ["self","ledger","ready","word","boxes"] ["self","ledger","ready"] (C2 (C1 (top 30) 7)):=by walk_at "sc"
theorem bT{e:Addr}{f:IQ}(B:K6 K mg cm)(g:je mg)(a:Q9 P w K mg base cm 5 "boxes_to_me" 2 ["self","ledger"] D0 2)(b:Q9 P w K mg base cm 2 "is_late" 2 ["self","passing","chain"] D9 3)(c:Q9 P w K mg base cm 2 "turn" 1 ["self"] ax 1)(F:L2.Fun K "says_own_word" "Keeper.says_own_word" (C1 (top 30) 7) e f):ay P w K mg base aS (3) e f ["self","ledger","ready"] (bf K cm G0 3):=
 D8 F sc_Keeper_says_own_word λ_ _ _ _ _ _ d j k=>by
  exact(C4 (K4 (i:=3) sc_Keeper_says_own_word.nd rfl (.inr rfl) (aW (r_cons (aO 17 B (ah 0)) r_nil)))
 (C4 (K4 (i:=4) sc_Keeper_says_own_word.nd rfl (.inl rfl) (aH a (by decide) d (B.cls _ (by decide)) (ah 0) (r_cons (ah 1) r_nil) (by decide +kernel)))
 (C4 (Q8 (PW.pt (i4 (E7 (T6 j) Y9 (m3 c (by decide) d (B.cls _ (by decide)) (ah 1) (by decide +kernel)) (ah 2) (D5 _)) (X3 (K5 (Df rfl (O0 (N:=["box","ledger","word"]) [none,some 1,some 3] rfl (⟨rfl,rfl,by decide +kernel,by decide +kernel,(af rfl (af rfl aw)),(af (λh=>nomatch h) (af (λh=>nomatch h) (af (λ_=>rfl) (af (λ_=>rfl) aw))))⟩) (.own (.free rfl (by walk_at "o2") (by walk_at "o3") rfl (by walk_at "o2") (.free rfl (by walk_at "o2") (by walk_at "o3") rfl (by walk_at "o2") .nil))) (bb (ah 4)) (λ_ _ _ _=>(aC (av (i:=0) (show Jn (["box","ledger","word"]:List Str)from by decide +kernel) rfl (by walk_at "o2")))) (λ_ _ _ _=>P3) (λ_ _ _ _=>(aH b (by decide) d (B.cls _ (by decide)) (ah 1) (r_cons (ah 0) (r_cons (ah 2) r_nil)) (by decide +kernel)))) rfl B.b_any)))))
 (C5 (D1 (bz r_nil)))
 E3)
 (C5 (D1 (O0 (N:=["box","word"]) [none,some 3] rfl (⟨rfl,rfl,by decide +kernel,by decide +kernel,(af rfl aw),(af (by walk_at "fb") (af (by walk_at "fb") (af (by walk_at "fb") (af (by walk_at "fb") aw))))⟩) (.own (.free rfl (by walk_at "o2") (by walk_at "o3") rfl (by walk_at "o2") .nil)) (bb (ah 4)) (λ_ _ _ _=>(aC (av (i:=0) (show Jn (["box","word"]:List Str)from by decide +kernel) rfl (by walk_at "o2")))) (λ_ _ _ _=>P3) (λ_ _ _ _=>(aW (r_cons (o4 rfl g.g_SAY) (r_cons (ah 0) (r_cons (ah 1) r_nil)))))))))))
theorem sc_Keeper_rows_to_say_on:C6 ["self","ledger","leader","rows","box","turn","chain"] ["self","ledger","leader"] (C2 (C1 (top 30) 9)):=by walk_at "sc"
theorem bJ{e:Addr}{f:IQ}(B:K6 K mg cm)(a:Q9 P w K mg base cm 5 "boxes_of_mine" 2 ["self","ledger"] D4 2)(b:Q9 P w K mg base cm 2 "said" 1 ["self","passing"] P1 2)(c:Q9 P w K mg base cm 2 "turn" 1 ["self"] ax 1)(F:L2.Fun K "rows_to_say_on" "Keeper.rows_to_say_on" (C1 (top 30) 9) e f):ay P w K mg base aS (3) e f ["self","ledger","leader"] (bf K cm E6 3):=
 D8 F sc_Keeper_rows_to_say_on λ_ _ _ _ _ _ d g h=>by
  exact(C4 (K4 (i:=3) sc_Keeper_rows_to_say_on.nd rfl (.inl rfl) (bz r_nil))
 (C4 (iO KL rfl (bb (aH a (by decide) d (B.cls _ (by decide)) (ah 0) (r_cons (ah 1) r_nil) (by decide +kernel))) (aC (av (i:=4) sc_Keeper_rows_to_say_on.nd rfl (.inl rfl)))
 (C5 (iO KL rfl (bb (aH b (by decide) d (B.cls _ (by decide)) (ah 1) (r_cons (ah 4) r_nil) (by decide +kernel))) (gE rfl (aV (aC (av (i:=5) sc_Keeper_rows_to_say_on.nd rfl (.inl rfl))) (aV (aC (av (i:=6) sc_Keeper_rows_to_say_on.nd rfl (.inl rfl))) cT)))
 (C5 (Q8 (PW.pt (u9 (E7 y7 gD (ah 5) (m3 c (by decide) d (B.cls _ (by decide)) (ah 1) (by decide +kernel)) (D5 _)) (u9 (E7 (O5 g) T7 (ba (ah 6) uc (λ_ _=>rfl)) (ah 2) (D5 _)) (kl (E7 (tw g) tz (aO 17 B (ah 0)) (ah 6) (by rfl))))))
 (C5 (jt (sY (ah 3) (aW (r_cons (ah 5) (r_cons (ah 6) r_nil))))))
 E3)))))
 (C5 (D1 (ah 3)))))
theorem sc_Keeper_says_word_on:C6 ["self","ledger","leader","ready","rows","least","word"] ["self","ledger","leader","ready"] (C2 (C1 (top 30) 8)):=by walk_at "sc"
theorem cb{m:Addr}{j:IQ}(B:K6 K mg cm)(o:je mg)(a:Q9 P w K mg base cm 5 "rows_to_say_on" 3 ["self","ledger","leader"] E6 3)(e:Q9 P w K mg base cm 2 "turn" 1 ["self"] ax 1)(d:Q9 P w K mg base cm 2 "is_late" 2 ["self","passing","chain"] D9 3)(c:Q9 P w K mg base cm 5 "boxes_to_me" 2 ["self","ledger"] D0 2)(k:kG mg base cm 0)(f:cm 32=224/\cm 33=57/\cm 35=0)(l:j.code=.ref (cm 34))(F:L2.Fun K "says_word_on" "Keeper.says_word_on" (C1 (top 30) 8) m j):ay P w K mg base aS (4) m j ["self","ledger","leader","ready"] (bf K cm G4 4):=
 DA F l sc_Keeper_says_word_on λ_ _ _ _ _ g n p=>by
  exact(C4 (K4 (i:=4) sc_Keeper_says_word_on.nd rfl (.inl rfl) (aH a (by decide) g (B.cls _ (by decide)) (ah 0) (r_cons (ah 1) (r_cons (ah 2) r_nil)) (by decide +kernel)))
 (C4 (Q8 (PW.pt (i4 (E7 (O5 n) T7 (ah 4) (bz r_nil) (D5 _)) (X3 (E7 (T6 n) Y9 (m3 e (by decide) g (B.cls _ (by decide)) (ah 1) (by decide +kernel)) (Cy rfl (ah 3) (aI op_add3 aN au (Bw rfl (O0 (N:=["turn","chain"]) [none,none] rfl (⟨rfl,rfl,by decide +kernel,by decide +kernel,aw,(af (λh=>nomatch h) (af (λh=>nomatch h) (af (λh=>nomatch h) aw)))⟩) (.own (.own .nil)) (bb (ah 4)) (λ_ _ _ _=>(gE rfl (aV (aC (av (i:=0) (show Jn (["turn","chain"]:List Str)from by decide +kernel) rfl (by walk_at "o2"))) (aV (aC (av (i:=1) (show Jn (["turn","chain"]:List Str)from by decide +kernel) rfl (by walk_at "o2"))) cT)))) (λ_ _ _ _=>P3) (λ_ _ _ _=>(ah 0))) rfl B.b_min)) rfl B.b_max) (D5 _)))))
 (C5 (D1 (bz r_nil)))
 E3)
 (C4 (K4 (i:=5) sc_Keeper_says_word_on.nd rfl (.inl rfl) (Dz k rfl (aL.mono g (by decide)) (O0 (N:=["turn","chain"]) [none,none] rfl (⟨rfl,rfl,by decide +kernel,by decide +kernel,aw,(af (λh=>nomatch h) (af (λh=>nomatch h) (af (λh=>nomatch h) aw)))⟩) (.own (.own .nil)) (bb (ah 4)) (λ_ _ _ _=>(gE rfl (aV (aC (av (i:=0) (show Jn (["turn","chain"]:List Str)from by decide +kernel) rfl (by walk_at "o2"))) (aV (aC (av (i:=1) (show Jn (["turn","chain"]:List Str)from by decide +kernel) rfl (by walk_at "o2"))) cT)))) (λ_ _ _ _=>P3) (λ_ _ _ _=>(ah 1))) rfl B.b_min B.b_len rfl f.1.symm f.2.1.symm (Eq.trans (b:=o9 0) rfl (congrArg o9 f.2.2.symm)) (by walk_at "sc")))
 (C4 (K4 (i:=6) sc_Keeper_says_word_on.nd rfl (.inr rfl) (aI op_add3 aN (aW (r_cons (aO 17 B (ah 0)) r_nil)) (ah 5)))
 (C5 (D1 (O0 (N:=["box","ledger","word"]) [none,some 1,some 6] rfl (⟨rfl,rfl,by decide +kernel,by decide +kernel,(af rfl (af rfl aw)),(af (by walk_at "fb") (af (by walk_at "fb") (af (by walk_at "fb") (af (by walk_at "fb") (af (by walk_at "fb") aw)))))⟩) (.own (.free rfl (by walk_at "o2") (by walk_at "o3") rfl (by walk_at "o2") (.free rfl (by walk_at "o2") (by walk_at "o3") rfl (by walk_at "o2") .nil))) (bb (aH c (by decide) g (B.cls _ (by decide)) (ah 0) (r_cons (ah 1) r_nil) (by decide +kernel))) (λ_ _ _ _=>(aC (av (i:=0) (show Jn (["box","ledger","word"]:List Str)from by decide +kernel) rfl (by walk_at "o2")))) (λ_ _ _ _=>(ku (P8 (K5 (aH d (by decide) g (B.cls _ (by decide)) (ah 1) (r_cons (ah 0) (r_cons (ah 2) r_nil)) (by decide +kernel)))))) (λ_ _ _ _=>(aW (r_cons (o4 rfl o.g_SAY) (r_cons (ah 0) (r_cons (ah 2) r_nil))))))))))))
theorem sc_Keeper_says:C6 ["self","ledger","ready","deeds","leader"] ["self","ledger"] (C2 (C1 (top 30) 6)):=by walk_at "sc"
theorem dB{e:Addr}{f:IQ}(B:K6 K mg cm)(c:Q9 P w K mg base cm 5 "ready_turn" 3 ["self","ledger"] E1 2)(a:Q9 P w K mg base cm 5 "says_own_word" 3 ["self","ledger","ready"] G0 3)(b:Q9 P w K mg base cm 5 "says_word_on" 4 ["self","ledger","leader","ready"] G4 4)(F:L2.Fun K "says" "Keeper.says" (C1 (top 30) 6) e f):ay P w K mg base aS (5) e f ["self","ledger"] (bf K cm P2 2):=
 D8 F sc_Keeper_says λ_ _ _ _ _ _ d g h=>by
  exact(C4 (K4 (i:=2) sc_Keeper_says.nd rfl (.inl rfl) (aH c (by decide) d (B.cls _ (by decide)) (ah 0) (r_cons (ah 1) r_nil) (by decide +kernel)))
 (C4 (Q8 (lP (ah 2))
 (C5 (D1 (bz r_nil)))
 E3)
 (C4 (K4 (i:=3) sc_Keeper_says.nd rfl (.inl rfl) (bz r_nil))
 (C4 (iO KL rfl (bb (aO 9 B (aO 6 B (ah 1)))) (aC (av (i:=4) sc_Keeper_says.nd rfl (.inl rfl)))
 (C5 (Q8 (E7 (O5 g) T7 (ah 4) (aO 17 B (ah 0)) (D5 _))
 (C5 (jt (ud (ah 3) (aH a (by decide) d (B.cls _ (by decide)) (ah 0) (r_cons (ah 1) (r_cons (ah 2) r_nil)) (by decide +kernel)))))
 (C5 (jt (ud (ah 3) (aH b (by decide) d (B.cls _ (by decide)) (ah 0) (r_cons (ah 1) (r_cons (ah 4) (r_cons (ah 2) r_nil))) (by decide +kernel))))))))
 (C5 (D1 (ah 3)))))))
theorem Hj:C6 ["self","ledger"] ["self","ledger"] (C2 (C1 (top 30) 1)):=by walk_at "sc"
theorem dh{c:Addr}{d:IQ}(B:K6 K mg cm)(a:Q9 P w K mg base cm 5 "lays" 4 ["self","ledger"] K0 2)(b:Q9 P w K mg base cm 5 "says" 5 ["self","ledger"] P2 2)(F:L2.Fun K "deeds" "Keeper.deeds" (C1 (top 30) 1) c d):ay P w K mg base aS (6) c d ["self","ledger"] (bf K cm O3 2):=
 D8 F Hj λ_ _ _ _ _ _ e g f=>by
  exact(C5 (D1 (aI op_add3 aN (aH a (by decide) e (B.cls _ (by decide)) (ah 0) (r_cons (ah 1) r_nil) (by decide +kernel)) (aH b (by decide) e (B.cls _ (by decide)) (ah 0) (r_cons (ah 1) r_nil) (by decide +kernel)))))
theorem Hk:C6 ["_law_script","_law_k"] ["_law_script","_law_k"] (C2 (top 37)):=by walk_at "sc"
theorem dC{a:Addr}{b:IQ}(B:K6 K mg cm)(F:L2.Fun K "_law_cell_at" "_law_cell_at" (top 37) a b):ay P w K mg base aS (1) a b ["_law_script","_law_k"] (bf K cm K8 2):=
 D8 F Hk λ_ _ _ _ _ _ d e c=>by
  exact(C4 (Q8 (E7 y7 gD (ah 1) (bM (ah 0) rfl B.b_len) (D5 _))
 (C5 (D1 (ba (ah 0) (ah 1) (λ_ _=>rfl))))
 E3)
 (C5 (D1 au)))
theorem Hl:C6 ["_law_found","_law_due"] ["_law_found","_law_due"] (C2 (top 38)):=by walk_at "sc"
theorem bo{c:Addr}{d:IQ}(B:K6 K mg cm)(e:mg "str" = none){f:Nat}{rec:Fun}(a:dc P w K mg base cm "_law_alike" f ["_law_found","_law_due"] rec 2)(F:L2.Fun K "_law_alike" "_law_alike" (top 38) c d):ay P w K mg base aS (f+1) c d ["_law_found","_law_due"] (bf K cm (C9 rec) 2):=
 D8 F Hl λ_ _ _ _ _ _ g b h=>by
  exact(C4 (Q8 (lP (ah 1))
 (C5 (D1 (Ae (ah 0))))
 E3)
 (C4 (Q8 (K5 (X5 (t:=.bool) B.kit (ah 1) rfl B.b_isinstance rfl B.b_bool Lr))
 (C5 (D1 (X4 (X5 (t:=.bool) B.kit (ah 0) rfl B.b_isinstance rfl B.b_bool Lr) (U7 (W4 (O5 b) T7 (ah 0) (ah 1) (D5 _))))))
 E3)
 (C4 (Q8 (K5 (X5 (t:=.int) B.kit (ah 1) rfl B.b_isinstance rfl B.b_int LF))
 (C5 (D1 (X4 (X5 (t:=.int) B.kit (ah 0) rfl B.b_isinstance rfl B.b_int LF) (X4 (sT (X5 (t:=.bool) B.kit (ah 0) rfl B.b_isinstance rfl B.b_bool Lr)) (U7 (W4 (O5 b) T7 (ah 0) (ah 1) (D5 _)))))))
 E3)
 (C4 (Q8 (K5 (uM (ah 1) rfl B.b_isinstance rfl e))
 (C5 (D1 (X4 (uM (ah 0) rfl B.b_isinstance rfl e) (U7 (W4 (O5 b) T7 (ah 0) (ah 1) (D5 _))))))
 E3)
 (C4 (Q8 (PW.pt (i4 (E7 (T6 b) Y9 (X5 (t:=.tuple) B.kit (ah 1) rfl B.b_isinstance rfl B.b_tuple Jx) (X5 (t:=.tuple) B.kit (ah 0) rfl B.b_isinstance rfl B.b_tuple Jx) (D5 _)) (X3 (E7 (T6 b) Y9 (X5 (t:=.list) B.kit (ah 1) rfl B.b_isinstance rfl B.b_list Kh) (X5 (t:=.list) B.kit (ah 0) rfl B.b_isinstance rfl B.b_list Kh) (D5 _)))))
 (C5 (D1 u8))
 E3)
 (C4 (Q8 (E7 (T6 b) Y9 (bM (ah 0) rfl B.b_len) (bM (ah 1) rfl B.b_len) (D5 _))
 (C5 (D1 u8))
 E3)
 (C5 (D1 (jz rfl (O0 (N:=["_law_k","_law_found","_law_due"]) [none,some 0,some 1] rfl (⟨rfl,rfl,by decide +kernel,by decide +kernel,(af rfl (af rfl aw)),(af (by walk_at "fb") (af (by walk_at "fb") (af (by walk_at "fb") (af (by walk_at "fb") (af (by walk_at "fb") aw)))))⟩) (.own (.free rfl (by walk_at "o2") (by walk_at "o3") rfl (by walk_at "o2") (.free rfl (by walk_at "o2") (by walk_at "o3") rfl (by walk_at "o2") .nil))) (dR rfl B.b_range (bM (ah 1) rfl B.b_len)) (λ_ _ _ _=>(aC (av (i:=0) (show Jn (["_law_k","_law_found","_law_due"]:List Str)from by decide +kernel) rfl (by walk_at "o2")))) (λ_ _ _ _=>P3) (λ_ _ _ _=>(aD a (Iw _) g rfl (r_cons (ba (ah 1) (ah 0) (λ_ _=>rfl)) (r_cons (ba (ah 2) (ah 0) (λ_ _=>rfl)) r_nil))))) rfl B.b_all)))))))))
theorem sc_law_mixed:C6 ["_law_cell","_law_k","_law_number"] ["_law_cell","_law_k"] (C2 (top 39)):=by walk_at "sc"
theorem ef{a:Addr}{b:IQ}(B:K6 K mg cm)(F:L2.Fun K "_law_mixed" "_law_mixed" (top 39) a b):ay P w K mg base aS (1) a b ["_law_cell","_law_k"] (bf K cm aK 2):=
 D8 F sc_law_mixed λ_ _ _ _ _ _ d e c=>by
  exact(C4 (K4 (i:=2) sc_law_mixed.nd rfl (.inl rfl) (aI cu cw (aI nu oM (aI op_add3 aN (aI op_add3 aN (ah 0) (aI nu oM au (ah 1))) au) au) au))
 (C5 (D1 (aI cu cw (aI nu oM (ah 2) (aI op_add3 aN (aI yc Aa (ah 2) au) au)) au))))
theorem Hm:C6 ["_law_ledger","_law_deed"] ["_law_ledger","_law_deed"] (C2 (top 40)):=by walk_at "sc"
theorem eh{b:Addr}{c:IQ}(B:K6 K mg cm)(d:pV K cm [7,8,9,12,13,14,15,16])(e:wo mg cm)(a:kE P w K mg base cm 2 "take" 6 ["self","deed"] J9 2)(F:L2.Fun K "_law_tried" "_law_tried" (top 40) b c):ay P w K mg base aS (7) b c ["_law_ledger","_law_deed"] (bf K cm K9 2):=
 D8 F Hm λ_ _ _ _ _ _ f h g=>by
  exact(C4 (Cw ⟨rfl,rfl⟩ (Cv (pU a (by decide) f (B.cls _ (by decide)) (ah 0) (r_cons (ah 1) r_nil) (by decide +kernel))) (Ct d (by decide) rfl e.m_SwapError (λ_=>(C5 (D1 u8))) Cs))
 (C5 (D1 u8)))
theorem sc_law:C6 ["_law_script","_law_cell","_law_many","_law_ring","_law_passings","_law_at","_law_me","_law_to_me","_law_mine","_law_chain","_law_limits","_law_free","_law_ledger","_law_heard","_law_keeper","_law_turn","_law_found","_law_due","_law_deed","_law_taken"] ["_law_script"] (C2 (top 41)):=by walk_at "sc"
theorem jf{p:Addr}{q:IQ}(B:K6 K mg cm)(b:dc P w K mg base cm "_law_cell_at" 1 ["_law_script","_law_k"] K8 2)(a:dc P w K mg base cm "_law_mixed" 1 ["_law_cell","_law_k"] aK 2)(e:jx P w K mg base cm 2 "Ledger" 1 ["self","plan","free"] N6 3)(j:jx P w K mg base cm 1 "Plan" 4 ["self","web","leaders","limits"] P9 4)(l:jx P w K mg base cm 0 "Web" 5 ["self","number","passings"] Q0 3)(f:jx P w K mg base cm 5 "Keeper" 1 ["self","me"] aU 2)(d:Q9 P w K mg base cm 5 "deeds" 6 ["self","ledger"] O3 2)(k:dc P w K mg base cm "_law_alike" 6 ["_law_found","_law_due"] m6 2)(c:dc P w K mg base cm "_law_tried" 7 ["_law_ledger","_law_deed"] K9 2)(g:Q9 P w K mg base cm 2 "move" 1 ["self"] K7 1)(F:L2.Fun K "law" "law" (top 41) p q):ay P w K mg base aS (8) p q ["_law_script"] (bf K cm mQ 1):=
 D8 F sc_law λ_ _ _ _ _ _ m n o=>by
  refine@C4 _ _ _ _ _ _ ?_ ?_;exact(K4 (i:=1) sc_law.nd rfl (.inr rfl) (aD b (by decide) m rfl (r_cons (ah 0) (r_cons au r_nil))));refine@C4 _ _ _ _ _ _ ?_ ?_;exact(K4 (i:=2) sc_law.nd rfl (.inl rfl) (aI op_add3 aN au (aI cu cw (aD a (by decide) m rfl (r_cons (ah 1) (r_cons au r_nil))) au)));refine@C4 _ _ _ _ _ _ ?_ ?_;exact(K4 (i:=3) sc_law.nd rfl (.inr rfl) (O0 (N:=["_law_x","_law_hand"]) [none,none] rfl (⟨rfl,rfl,by decide +kernel,by decide +kernel,aw,(af (λh=>nomatch h) (af (λh=>nomatch h) (af (λh=>nomatch h) aw)))⟩) (.own (.own .nil)) (bb (tY n (O0 (N:=["_law_hand","_law_cell"]) [none,some 1] rfl (⟨rfl,rfl,by decide +kernel,by decide +kernel,(af rfl aw),(af (by walk_at "fb") (af (by walk_at "fb") (af (by walk_at "fb") (af (by walk_at "fb") aw))))⟩) (.own (.free rfl (by walk_at "o2") (by walk_at "o3") rfl (by walk_at "o2") .nil)) (dR rfl B.b_range (ah 2)) (λ_ _ _ _=>(aC (av (i:=0) (show Jn (["_law_hand","_law_cell"]:List Str)from by decide +kernel) rfl (by walk_at "o2")))) (λ_ _ _ _=>P3) (λ_ _ _ _=>(aW (r_cons (aD a (by decide) m rfl (r_cons (ah 1) (r_cons (aI op_add3 aN au (ah 0)) r_nil))) (r_cons (ah 0) r_nil))))) rfl B.b_sorted)) (λ_ _ _ _=>(gE rfl (aV (aC (av (i:=0) (show Jn (["_law_x","_law_hand"]:List Str)from by decide +kernel) rfl (by walk_at "o2"))) (aV (aC (av (i:=1) (show Jn (["_law_x","_law_hand"]:List Str)from by decide +kernel) rfl (by walk_at "o2"))) cT)))) (λ_ _ _ _=>P3) (λ_ _ _ _=>(ah 1))));refine@C4 _ _ _ _ _ _ ?_ ?_;exact(pe (N:=["_law_k","_law_ring"]) [none,some 3] rfl (⟨rfl,rfl,by decide +kernel,by decide +kernel,(af rfl aw),(af (λh=>nomatch h) (af (λh=>nomatch h) (af (λ_=>rfl) aw)))⟩) (.own (.free rfl (by walk_at "o2") (by walk_at "o3") rfl (by walk_at "o2") .nil)) (dR rfl B.b_range (ah 2)) (λ_ _ _ _=>(aC (av (i:=0) (show Jn (["_law_k","_law_ring"]:List Str)from by decide +kernel) rfl (by walk_at "o2")))) (λ_ _ _ _=>P3) (λ_ _ _ _=>(aW (r_cons (ba (ah 1) (aI nr oK (ah 0) au) (λ_ _=>rfl)) (r_cons (ba (ah 1) (ah 0) (λ_ _=>rfl)) r_nil)))) (i:=4) sc_law.nd rfl (.inl rfl));refine@C4 _ _ _ _ _ _ ?_ ?_;exact(K4 (i:=5) sc_law.nd rfl (.inl rfl) (aI op_add3 aN au (aI cu cw (aD a (by decide) m rfl (r_cons (ah 1) (r_cons au r_nil))) (aI nr oK (ah 2) au))));refine@C4 _ _ _ _ _ _ ?_ ?_;exact(K4 (i:=6) sc_law.nd rfl (.inr rfl) (ba (ah 3) (ah 5) (λ_ _=>rfl)));refine@C4 _ _ _ _ _ _ ?_ ?_;exact(K4 (i:=7) sc_law.nd rfl (.inl rfl) (aW (r_cons (ba (ah 3) (aI nr oK (ah 5) au) (λ_ _=>rfl)) (r_cons (ah 6) r_nil))));refine@C4 _ _ _ _ _ _ ?_ ?_;exact(K4 (i:=8) sc_law.nd rfl (.inr rfl) (aW (r_cons (ah 6) (r_cons (ba (ah 3) (aI cu cw (aI op_add3 aN (ah 5) au) (ah 2)) (λ_ _=>rfl)) r_nil))));refine@C4 _ _ _ _ _ _ ?_ ?_;exact(K4 (i:=9) sc_law.nd rfl (.inl rfl) (aI BO BP (pK (jr (ah 3) (jq (aI op_add3 aN (ah 5) au)) dP) rfl B.b_tuple Jx) (aW (r_cons (ba (ah 3) au (λ_ _=>rfl)) r_nil))));refine@C4 _ _ _ _ _ _ ?_ ?_;exact(K4 (i:=10) sc_law.nd rfl (.inl rfl) (Dl rfl n (O0 (N:=["_law_k","_law_passing","_law_cell"]) [none,none,some 1] rfl (⟨rfl,rfl,by decide +kernel,by decide +kernel,(af rfl aw),(af (by walk_at "fb") (af (by walk_at "fb") (af (by walk_at "fb") (af (by walk_at "fb") (af (by walk_at "fb") aw)))))⟩) (.own (.own (.free rfl (by walk_at "o2") (by walk_at "o3") rfl (by walk_at "o2") .nil))) (tF rfl B.b_enumerate (ah 4)) (λ_ _ _ _=>(gE rfl (aV (aC (av (i:=0) (show Jn (["_law_k","_law_passing","_law_cell"]:List Str)from by decide +kernel) rfl (by walk_at "o2"))) (aV (aC (av (i:=1) (show Jn (["_law_k","_law_passing","_law_cell"]:List Str)from by decide +kernel) rfl (by walk_at "o2"))) cT)))) (λ_ _ _ _=>P3) (λ_ _ _ _=>(aW (r_cons (ah 1) (r_cons (aI op_add3 aN au (aI cu cw (aD a (by decide) m rfl (r_cons (ah 2) (r_cons (aI op_add3 aN au (ah 0)) r_nil))) au)) r_nil))))) rfl B.b_dict))
  refine@C4 _ _ _ _ _ _ ?_ ?_;exact(pe (N:=["_law_hand","_law_me"]) [none,some 6] rfl (⟨rfl,rfl,by decide +kernel,by decide +kernel,(af rfl aw),(af (λh=>nomatch h) (af (λh=>nomatch h) (af (λ_=>rfl) aw)))⟩) (.own (.free rfl (by walk_at "o2") (by walk_at "o3") rfl (by walk_at "o2") .nil)) (dR rfl B.b_range (ah 2)) (λ_ _ _ _=>(aC (av (i:=0) (show Jn (["_law_hand","_law_me"]:List Str)from by decide +kernel) rfl (by walk_at "o2")))) (λ_ _ _ _=>(ku (E7 (T6 n) Y9 (ah 0) (ah 1) (D5 _)))) (λ_ _ _ _=>(ah 0)) (i:=11) sc_law.nd rfl (.inl rfl));refine@C4 _ _ _ _ _ _ ?_ ?_;exact(K4 (i:=12) sc_law.nd rfl (.inl rfl) (lX e (by decide) m rfl (r_cons (lX j (by decide) m rfl (r_cons (lX l (by decide) m rfl (r_cons (ah 2) (r_cons (ah 4) r_nil))) (r_cons (bz (r_cons (ba (ah 3) au (λ_ _=>rfl)) r_nil)) (r_cons (ah 10) r_nil)))) (r_cons (ah 11) r_nil))));refine@C4 _ _ _ _ _ _ ?_ ?_;exact(K4 (i:=13) sc_law.nd rfl (.inl rfl) lK);refine@C4 _ _ _ _ _ _ ?_ ?_;exact(K4 (i:=14) sc_law.nd rfl (.inl rfl) (lX f (by decide) m rfl (r_cons (ah 6) r_nil)));refine@C4 _ _ _ _ _ _ ?_ ?_;refine@iO _ _ _ _ _ _ _ _ _ ?_ ?_ ?_ ?_ ?_ ?_;exact KL;exact rfl;exact(Av rfl B.b_range au au);exact(aC (av (i:=15) sc_law.nd rfl (.inr rfl)));refine@C4 _ _ _ _ _ _ ?_ ?_;exact(K4 (i:=16) sc_law.nd rfl (.inl rfl) (aH d (by decide) m (B.cls _ (by decide)) (ah 14) (r_cons (ah 12) r_nil) (by decide +kernel)));refine@C4 _ _ _ _ _ _ ?_ ?_;refine@K4 _ _ 17 _ _ _ _ _ ?_ ?_ ?_ ?_ ?_ ?_;exact sc_law.nd;exact rfl;exact(.inl rfl);refine@ba _ _ _ _ _ _ _ ?_ ?_ ?_;refine@bz _ _ _ _ _ ?_;refine@r_cons _ _ _ _ _ _ ?_ ?_ (by exact D6 rfl);refine@bz _ _ _ _ _ ?_;exact r_nil;refine@r_cons _ _ _ _ _ _ ?_ ?_ (by exact D6 rfl);refine@bz _ _ _ _ _ ?_;refine@r_cons _ _ _ _ _ _ ?_ ?_ (by exact D6 rfl);refine@aW _ _ _ _ _ _ ?_;refine@r_cons _ _ _ _ _ _ ?_ ?_ (by exact D6 rfl);exact mB;refine@r_cons _ _ _ _ _ _ ?_ ?_ (by exact D6 rfl);exact(ah 8);exact r_nil;exact r_nil;exact r_nil;exact(CP (W4 (O5 n) T7 (ah 15) au (D5 _)) rfl B.b_int);exact(λ_ _=>rfl);rfl;first | exact .inl rfl | exact .inr rfl
  refine@C4 _ _ _ _ _ _ ?_ ?_;refine@Q8 _ _ _ _ _ _ _ _ _ ?_ ?_ ?_;exact(PW.pt (u9 (sS (ah 13)) (u9 (E7 (O5 n) T7 (ah 15) (aI op_add3 aN (ah 13) au) (D5 _)) (kl (E7 jP ki (ah 15) (aI op_add3 aN (aI op_add3 aN (jF o (ah 10) (ah 7) (λ_ _=>rfl)) (bM (ah 9) rfl B.b_len)) au) (D5 _))))));refine@C5 _ _ _ _ ?_;refine@K4 _ _ 17 _ _ _ _ _ ?_ ?_ ?_ ?_ ?_ ?_;exact sc_law.nd;exact rfl;exact(.inl rfl);refine@aI _ _ _ _ _ _ _ _ _ _ op_add3 aN ?_ ?_;exact(ah 17);refine@bz _ _ _ _ _ ?_;refine@r_cons _ _ _ _ _ _ ?_ ?_ (by exact D6 rfl);refine@aW _ _ _ _ _ _ ?_;refine@r_cons _ _ _ _ _ _ ?_ ?_ (by exact D6 rfl);exact mB;refine@r_cons _ _ _ _ _ _ ?_ ?_ (by exact D6 rfl);exact(ah 7);refine@r_cons _ _ _ _ _ _ ?_ ?_ (by exact D6 rfl);exact(aI op_add3 aN (aW (r_cons (ah 6) r_nil)) (ah 9));exact r_nil;exact r_nil;rfl;first | exact .inl rfl | exact .inr rfl
  exact E3;exact(C4 (Q8 (P8 (K5 (aD k (by decide) m rfl (r_cons (ah 16) (r_cons (ah 17) r_nil)))))
 (C5 (D1 u8))
 E3)
 (C4 (iO KL rfl (bb (aI op_add3 aN (ah 16) (O0 (N:=["_law_passing","_law_turn","_law_mine"]) [none,some 15,some 8] rfl (⟨rfl,rfl,by decide +kernel,by decide +kernel,(af rfl (af rfl aw)),(af (λh=>nomatch h) (af (λh=>nomatch h) (af (λ_=>rfl) (af (λ_=>rfl) aw))))⟩) (.own (.free rfl (by walk_at "o2") (by walk_at "o3") rfl (by walk_at "o2") (.free rfl (by walk_at "o2") (by walk_at "o3") rfl (by walk_at "o2") .nil))) (bb (ah 4)) (λ_ _ _ _=>(aC (av (i:=0) (show Jn (["_law_passing","_law_turn","_law_mine"]:List Str)from by decide +kernel) rfl (by walk_at "o2")))) (λ_ _ _ _=>(ku (PW.pt (u9 (E7 (O5 n) T7 (ah 1) au (D5 _)) (kl (E7 (T6 n) Y9 (ah 0) (ah 2) (D5 _))))))) (λ_ _ _ _=>(aW (r_cons mB (r_cons (ah 0) r_nil))))))) (aC (av (i:=18) sc_law.nd rfl (.inl rfl)))
 (C5 (Q8 (P8 (K5 (aD c (by decide) m rfl (r_cons (ah 12) (r_cons (ah 18) r_nil)))))
 (C5 (D1 u8))
 E3)))
 (C4 (Q8 (E7 (O5 n) T7 (aI cu cw (aD a (by decide) m rfl (r_cons (aD b (by decide) m rfl (r_cons (ah 0) (r_cons (ah 15) r_nil))) (r_cons au r_nil))) (ba (bz (r_cons au (r_cons au r_nil))) (aI cu cw (aD a (by decide) m rfl (r_cons (ah 1) (r_cons au r_nil))) au) (λ_ _=>rfl))) au (D5 _))
 (C4 (K4 (i:=19) sc_law.nd rfl (.inl rfl) (aD c (by decide) m rfl (r_cons (ah 12) (r_cons (aW (r_cons mB (r_cons (ah 8) (r_cons (ah 9) r_nil)))) r_nil))))
 (C4 (Q8 (E7 (T6 n) Y9 (ah 19) (oP y7 gD jP ki au (ah 15) (aI op_add3 aN (jF o (ah 10) (ah 8) (λ_ _=>rfl)) (bM (ah 9) rfl B.b_len))) (D5 _))
 (C5 (D1 u8))
 E3)
 (C5 (Q8 (PW.pt (u9 (K5 (ah 19)) (kl (lP (ah 13)))))
 (C5 (K4 (i:=13) sc_law.nd rfl (.inl rfl) (ah 15)))
 E3))))
 E3)
 (C5 (jt (m3 g (by decide) m (B.cls _ (by decide)) (ah 12) (by decide +kernel)))))))
  exact λ_=>rfl;exact(C5 (D1 u8))
end
end Ws
namespace Ws
open PySem PySem.W L2
theorem wu{l:List Bool}(h:l.all id=true)(i:Nat){b:Bool}(a:l[i]?=some b):b=true:=Jo.mp h b (Ja a)
theorem bw{c:Type}{l m:List c}(h:l=m)(i:Nat){a b:c}(d:l[i]?=some a)(e:m[i]?=some b):a=b:=by rw[h,e]at d;exact(IK d).symm
theorem iD{P:Nat->Prop}{a:Nat}{l:List Nat}(h:P a)(r:∀c∈l,P c):∀c∈a::l,P c:=λc b=>by
 rcases IF.mp b with z | z
 .rw[z];exact h
 .exact r c z
theorem Hn{P:Nat->Prop}:∀c∈([]:List Nat),P c:=by simp
theorem cV{a b:Bool}(h:(a&&b)=true):a=true/\b=true:=MN.mp h
structure En(P:IS)(w:Jp)(K:Frag)(mg:Str->Option Ip)(base:Heap)(cm:Nat->Addr):Prop where
 ex:∃h:Heap,K.In h/\h.Ns mainGlobals mg
section
variable{P:IS}{w:Jp}{K:Frag}{mg:Str->Option Ip}{base:Heap}{cm:Nat->Addr}{n q:Str}{st:Stmt}{fa T:Addr}{fd:IQ}{k ar c:Nat}{ps:List Str}{f:Fun}{oc kV doc pm cdv ct tc:Ip}{od an td:Option Addr}{osl ts:Array (Option Ip)}{items:Array Ip}{tn:Nat}
theorem En.of(E:En P w K mg base cm){v:Ip}(h:kR K n v=true):mg n=some v:=by
 obtain⟨a,X,G⟩:=E.ex;exact mg_of X G (of_decide_eq_true h)
theorem En.ns(E:En P w K mg base cm){a:Addr}(h:cF K n a=true):mg n=some (.ref a):=E.of h
theorem En.no(E:En P w K mg base cm)(h:kQ K n=true):mg n=none:=by
 obtain⟨a,X,G⟩:=E.ex;exact mg_none_of X G (of_decide_eq_true h)
theorem bD{x:Bool}(l:K.lookup fa=some ⟨oc,od,.func (fnOf n q (O4 st) (G9 st) (C2 st) .none kV doc pm an cdv ct),osl⟩)(b:(x&&bx K cdv q fa)=true):L2.Fun K n q st fa (fnOf n q (O4 st) (G9 st) (C2 st) .none kV doc pm an cdv ct):=
 zw l (cV (cV b).2).1 (cV (cV b).2).2
theorem Ho{x:Bool}(l:K.lookup fa=some ⟨oc,od,.func (fnOf n q (O4 st) (G9 st) (C2 st) (.ref T) kV doc pm an cdv ct),osl⟩)(t:K.lookup T=some ⟨tc,td,.seq items tn,ts⟩)(b:(x&&bx K cdv q fa)=true):eQ K n q st fa (fnOf n q (O4 st) (G9 st) (C2 st) (.ref T) kV doc pm an cdv ct) items:=
 Bf l (cV (cV b).2).1 (cV (cV b).2).2 t
theorem wx(a:(cn K (cm c) n fa&&bx K cdv q fa)=true):gY K (cm c) n fa:=⟨of_decide_eq_true (cV (cV a).1).1,(cV (cV a).1).2,(cV (cV a).2).2⟩
theorem Hq(a:(cn K (cm c) "__init__" fa&&bx K cdv q fa)=true)(b:jJ K (cm c)=true):L2.Mk K (cm c) fa:=⟨(cV b).1,of_decide_eq_true (cV (cV a).1).1,(cV (cV a).1).2,(cV b).2⟩
variable(E:En P w K mg base cm)
include E
theorem dN(O:ay P w K mg base aS k fa fd ps (bf K cm f ar))(a:(cF K n fa&&bx K cdv q fa)=true)(b:L2.Binds K fd ps [])(e:∀d A v g,f d A=.ok v g->d.length=ar:=by exact λ_ _ _ _=>oS):dc P w K mg base cm n k ps f ar:=⟨⟨_,_,O,E.ns (cV a).1,(cV (cV a).2).2,b⟩,e⟩
theorem dO(O:ay P w K mg base aS k fa fd ps (bf K cm f ar))(d:(cn K (cm c) n fa&&bx K cdv q fa)=true)(b:L2.Binds K fd ps [])(e:∀a A v g,f a A=.ok v g->a.length=ar:=by exact λ_ _ _ _=>oS):Q9 P w K mg base cm c n k ps f ar:=⟨⟨_,_,O,wx d,b⟩,e⟩
theorem qN(O:ay P w K mg base (fu P w) k fa fd ps (gG K cm f ar))(d:(cn K (cm c) n fa&&bx K cdv q fa)=true)(b:L2.Binds K fd ps [])(e:∀a A,f a A≠.no->a.length=ar:=by exact λ_ _=>Ck):kE P w K mg base cm c n k ps f ar:=⟨⟨_,_,O,wx d,b⟩,e⟩
theorem mY(O:ay P w K mg base aS k fa fd ps (bf K cm f ar))(e:(cn K (cm c) "__init__" fa&&bx K cdv q fa)=true)(g:jJ K (cm c)=true)(i:cF K n (cm c)=true)(b:L2.Binds K fd ps [])(j:∀a A v d,f a A=.ok v d->v=.non)(l:∀a A v d,f a A=.ok v d->a.length=ar:=by exact λ_ _ _ _=>oS):jx P w K mg base cm c n k ps f ar:=⟨⟨_,_,O,Hq e g,E.ns i,b⟩,λa A v d h=>⟨l a A v d h,j a A v d h⟩⟩
theorem base_of(g:((Jj 7).all λc=>mX K (cm c))=true)(j:blts.all (kQ K)=true):K6 K mg cm:=by
 have d:=λc d=>Jo.mp g c (JO.mpr d);have a:=λb l=>E.no (Jo.mp j b l);refine⟨AU K,λc e=>?_,λc i m e=>?_,a _ (by decide),a _ (by decide),a _ (by decide),a _ (by decide),a _ (by decide),a _ (by decide),a _ (by decide),a _ (by decide),a _ (by decide),a _ (by decide),a _ (by decide),a _ (by decide),a _ (by decide),a _ (by decide),a _ (by decide),a _ (by decide),a _ (by decide)⟩
 .have:=d c e;unfold mX at this;simp only[Jf]at this;exact⟨this.1.1.1.1,this.1.1.1.2,this.1.1.2,of_decide_eq_true this.1.2⟩
 .have:=d c e;unfold mX at this;simp only[Jf]at this;have h:=Jo.mp this.2 i (JO.mpr m);show findIn K _ _=some none;exact of_decide_eq_true h
omit E
def kS(K:Frag)(C:Addr):Prop:=∃e q N bs d a g sub h b i j l m o p,K.lookup C=some (excClassObj e q C N bs d a g sub h b i j l m o p "ValueError.__new__")/\V2 d=true/\a=true
theorem iE{C:Addr}{d q:Str}{N:Addr}{bs b:List Ip}{e:List Str}{sub:List Ip}{g:Bool}{a:Option Bool}{i:Option Addr}{j l m p r:Option Ip}(h:K.lookup C=some (excClassObj d q C N bs b true e sub g a i j l m p r "ValueError.__new__"))(o:V2 b=true):kS K C:=⟨_,_,_,_,_,_,_,_,_,_,_,_,_,_,_,_,h,o,rfl⟩
theorem wy{b:Addr}{a:List Nat}(h:(a.all λc=>jK K (cm c) b)=true)(e:∀c∈a,kS K (cm c)):∀c∈a,XK K (cm c) b:=λc d=>by
 have:=Jo.mp h c d;unfold jK cn at this;simp only[Jf]at this;obtain⟨⟨⟨⟨⟨⟨⟨⟨⟨⟨g,i⟩,j⟩,l⟩,m⟩,r⟩,s⟩,u⟩,v⟩,o⟩,p⟩:=this;exact⟨e c d,of_decide_eq_true g,i,j,of_decide_eq_true l,of_decide_eq_true m⟩
theorem Hr{j:Addr}{b:List Nat}(h:(b.all λc=>jK K (cm c) j)=true)(m:wt K cm b=true)(l:wq K=true)(o:∀c∈b,kS K (cm c)):pV K cm b/\Cu K cm b:=by
 have e:∀c∈b,∀d∈b,jE K _ _=gC c d/\kitOne K _ _=some _:=λc a d hd=>by
  have:=Jo.mp (Jo.mp m c a) d hd;exact⟨of_decide_eq_true (cV this).1,of_decide_eq_true (cV this).2⟩
 refine⟨⟨λc a=>⟨j,wy h o c a⟩,λc a k g=>(e c a k g).1⟩,⟨λc a=>?_,λc a k g=>(e c a k g).2,λc a=>?_⟩⟩
 .have:=Jo.mp h c a;unfold jK cn at this;simp only[Jf]at this;obtain⟨⟨⟨⟨⟨⟨⟨⟨⟨⟨x,y⟩,z⟩,A⟩,B⟩,p⟩,r⟩,s⟩,u⟩,i⟩,v⟩:=this;exact⟨of_decide_eq_true p,of_decide_eq_true r,s,of_decide_eq_true u,of_decide_eq_true (cV l).1,of_decide_eq_true (cV l).2,of_decide_eq_true i⟩
 .have:=Jo.mp h c a;exact of_decide_eq_true (cV this).2
theorem iF{d:Addr}{a:List Nat}(E:En P w K mg base cm)(O:ay P w K mg base aS k d fd ps (jD K))(h:(a.all λc=>jK K (cm c) d)=true)(e:∀c∈a,kS K (cm c))(b:L2.Binds K fd ps [])(g:c∈a)(i:cF K n (cm c)=true):iT P w K mg base cm c n k:=⟨⟨_,_,_,O,wy h e c g,E.ns i,b⟩⟩
end
end Ws
namespace Ws
open PySem PySem.W PyProof.Rows L2
theorem qO{T a:Addr}:∀{K:Frag},(er T K).lookup a=if a=T then none else K.lookup a
 | []=>by simp[er]
 | (b,o)::K=>by
   have ih:=@qO T a K;unfold er at *;by_cases d:b=T
   .subst d;rw[Lm (by simp)];rw[ih];by_cases c:a=b
    .rw[if_pos c,if_pos c]
    .rw[if_neg c,if_neg c,KU,show(a == b)=false by simpa using c]
   .rw[Mi (by simpa using d),KU,KU];by_cases c:a=b
    .subst c;rw[if_neg d];simp
    .rw[show(a == b)=false by simpa using c];exact ih
theorem Hs{T:Addr}{K:Frag}{h:Heap}(x:K.In h):(er T K).In h:=λa o e=>by
 rw[qO]at e;split at e
 .cases e
 .exact x a o e
theorem wz{c:Type}{a b:c}{l m:List c}(h:a::l=b::m):a=b/\l=m:=List.cons.inj h
theorem Ht{T:Addr}{K:Frag}:(er T K).lookup T=none:=by rw[qO,if_pos rfl]
theorem wA{K:Frag}{c T:Addr}{base:Heap}(h:kT K c T=true)(x:K.In base):CodeHd base c T:=by
 unfold kT at h;split at h
 .rename_i o r;simp only[Jf]at h;obtain⟨⟨s,u⟩,g⟩:=h;split at g
  .rename_i d hd;simp only[Jf]at g;obtain⟨⟨⟨⟨⟨i,v⟩,m⟩,n⟩,p⟩,q⟩:=g;have e:d.getD 11 .none=.ref T:=by
    split at i
    .rename_i t w;have:t=T:=by simpa using i
     rw[w,this]
    .cases i
   have j:d[11]?=some (.ref T):=by
    have f:11<d.size:=of_decide_eq_true v;rw[Ly,Nv f]at e;rw[Nv f];exact congrArg some e
   obtain⟨y,z,k⟩:∃a b,d.getD 18 .none=.str a b:=by split at m<;>first | exact⟨_,_,by assumption⟩ | cases m
   obtain⟨A,B,C⟩:∃a b,d.getD 7 .none=.int a b:=by split at n<;>first | exact⟨_,_,by assumption⟩ | cases n
   obtain⟨D,E⟩:∃a,d.getD 9 .none=.bool a:=by split at p<;>first | exact⟨_,by assumption⟩ | cases p
   obtain⟨G,H,l⟩:∃a b,d.getD 10 .none=.int a b:=by split at q<;>first | exact⟨_,_,by assumption⟩ | cases q
   exact⟨o,d,y,z,A,B,D,G,H,x c o r,of_decide_eq_true s,hd,j,e,k,C,E,l,by simpa using u⟩
  .cases g
 .cases h
theorem Hu{K:Frag}{mg:Str->Option Ip}{base:Heap}{cm:Nat->Addr}{b:Addr}(f:cm 30=1)(h:kT K (cm 34) (cm 31)=true)(c:qP K b=true)(x:K.In base)(k:∀v,nsIn K mainGlobals "__builtins__" = some (some v)->mg "__builtins__" = some v):kG mg base cm 0:=by
 unfold qP at c;simp only[Jf]at c;obtain⟨⟨⟨l,m⟩,n⟩,a⟩:=c;refine⟨by rw[f];decide,wA h x,λi g _=>by rw[f]at g;exact Nat.lt_one_iff.mp g,?_⟩;split at a
 .rename_i o p;simp only[Jf]at a;obtain⟨⟨q,e⟩,j⟩:=a;refine⟨b,o,k _ (of_decide_eq_true l),by simpa using m,by simpa using n,x b o p,of_decide_eq_true q,?_,?_⟩
  .split at e
   .rename_i d hd;rw[hd];have:d=builtinsNs:=by simpa using e
    rw[this]
   .cases e
  .split at j
   .assumption
   .cases j
 .cases a
section
variable{P:IS}{w:Jp}{K:Frag}{mg mb:Str->Option Ip}{k:Nat}{fa a T c:Addr}{fd:IQ}{x:Str}{sp:Sp}{s₁:Ir}{vs:List Ip}{ns:List Int}
theorem Hv(KX:K.In s₁.heap)(J:s₁.heap.Ns mainGlobals mg)(l:s₁.heap.Ns builtinsNs mb)(a1:∀x:Str,x≠"__name__"->mb x=bootBuiltins x)(L:s₁.heap.NoLimit)(hg:s₁.gens=#[])
 (C:s₁.heap.get? a=some { cls:=.type "list",data:=.seq vs.toArray }) (hi:LZ vs ns) (hl:ns.length<=sizeLine) (hr:aL k callerA)
 (a2:K.lookup T=none) (U:s₁.heap.get? T=some (tabObj #[])) (hC:CodeHd s₁.heap c T)
 (F:∀i:Heap,K.In i->i.Ns mainGlobals mg->ay P w K mg i aS k fa fd [x] sp) (D:∀(s:Ir)(u:Ip),PX s fd ⟨[u],[]⟩ [(x,u)])
 (a3:∀H:Hp,(∀b xs,H b≠some (.lst xs))->H T=some (.tbl #[])->bE K H a (ns.map V.int)->sp [.ref a] H (λv _=>v=.bl true) λ_ _ _=>False) :
 codeAny (model P w) callerA (.call (.ref fa) ⟨[.ref a],[]⟩) (λr E=>r=.ok (.ret (.bool true))/\OldK s₁.heap E.heap/\E.os=s₁.os/\Oe E.gens) s₁:=by
 have rv:=nE hi;have N:=hi.length;have a4:a≠T:=λz=>by rw[z,U]at C;cases C
 let H:Hp:=λb=>if b=T then some (.tbl #[]) else if b=a/\K.lookup a=none then some (.frz { cls:=.type "list",data:=.seq vs.toArray } (.lst (ns.map V.int))) else none
 have HT:H T=some (.tbl #[]):=if_pos rfl;have HA:K.lookup a=none->H a=some (.frz { cls:=.type "list",data:=.seq vs.toArray } (.lst (ns.map V.int))):=λh=>(if_neg a4).trans (if_pos ⟨rfl,h⟩);have j:∀b,H b=none\/(b=T/\H b=some (.tbl #[]))\/(b=a/\K.lookup a=none/\H b=some (.frz { cls:=.type "list",data:=.seq vs.toArray } (.lst (ns.map V.int)))):=λb=>by
  by_cases G:b=T
  .exact .inr (.inl ⟨G,if_pos G⟩)
  .by_cases I:b=a/\K.lookup a=none
   .exact .inr (.inr ⟨I.1,I.2,(if_neg G).trans (if_pos I)⟩)
   .exact .inl ((if_neg G).trans (if_neg I))
 have a5:bU P w H s₁.heap:=λb u e=>by
  rcases j b with z | ⟨rfl,z⟩ | ⟨rfl,_,z⟩
  .rw[z]at e;cases e
  .rw[z]at e;cases e;exact U
  .rw[z]at e;cases e;exact⟨C,by rw[Iq];exact hl,vs,_,rv,C⟩
 have hS:bE K H a (ns.map V.int):=by
  cases hk:K.lookup a with
  | some o=>
    have e:=KX a o hk;rw[C]at e;cases e;exact .inr ⟨_,vs.toArray,_,hk,rfl,rfl,rfl,by rw[II,N];exact hl,by simpa using rv⟩
  | none=>exact .inl (.inr ⟨_,HA hk⟩)
 have base_of:∀{b:Addr}{o:Obj},s₁.heap.get? b=some o->H b=none->(gy s₁.heap H).get? b=some o:=λe n=>wR e n;have a7:∀{b:Addr}{o:Obj}{Y:Array Pz}{ep:Nat},s₁.heap.get? b=some o->o.data=.dict Y ep->H b=none:=λ{b o Y ep} e d=>by
  rcases j b with z | ⟨rfl,z⟩ | ⟨rfl,_,z⟩
  .exact z
  .rw[U]at e;cases e;cases d
  .rw[C]at e;cases e;cases d
 have p:∀{b:Addr}{m:Str->Option Ip},s₁.heap.Ns b m->(gy s₁.heap H).Ns b m:=λ{b m} ⟨o,Y,ep,e,d,r⟩=>⟨o,Y,ep,base_of e (a7 e d),d,r⟩;have O:K.In (gy s₁.heap H):=λb o e=>base_of (KX b o e) (by
  rcases j b with z | ⟨rfl,z⟩ | ⟨rfl,hz,z⟩
  .exact z
  .rw[a2]at e;cases e
  .rw[hz]at e;cases e)
 have hM:L2.Mod K mg (gy s₁.heap H):=⟨O,p J,⟨mb,p l,a1⟩,let⟨mc,G,I⟩:=L;⟨mc,p G,I⟩⟩;have e0:di P w K mg (gy s₁.heap H) callerA [] s₁ H:=⟨rfl,hM,λb o e=>wU e,Oh (wQ _ _),trivial,λb l=>absurd (show b∈([]:List Addr)from l) (by simp),a5,.of_eq hg⟩;refine KW ((F _ O (p J)).run callerA [] s₁ H ⟨[.ref a],[]⟩ [.ref a] [.ref a] _ _ hr e0 (D s₁ (.ref a)) (.cons rfl .nil) (a3 H (λb xs z=>?_) HT hS)) λr E h=>?_
 .rcases j b with y | ⟨_,y⟩ | ⟨_,_,y⟩<;>(rw[z]at y;cases y)
 cases r with
 | error e=>exact IY h
 | ok fl=>
   cases fl with
   | next=>exact IY h
   | brk=>exact IY h
   | cont=>exact IY h
   | ret u=>
     obtain⟨v,H',os,Q,un,B,r',q⟩:=h;have q':v=.bl true:=q;subst q';obtain rfl:u=Nx true:=r';have A:∃f,E.heap.get? T=some (tabObj (#[]++f)):=by
      obtain⟨f,e1⟩:=un.tbls T _ HT;exact⟨f,B T _ e1⟩
     have kp:∀b o,b≠T->s₁.heap.get? b=some o->E.heap.get? b=some o:=λb o ne e=>by
      rcases j b with z | ⟨z,_⟩ | ⟨rfl,_,z⟩
      .exact un.keep b o e z (by intro y;exact absurd (show b∈([]:List Addr)from y) (by simp)) (by simp)
      .exact absurd z ne
      .have z2:=un.frzs b _ _ z;obtain⟨e2,_⟩:=B b _ z2;rw[C]at e;cases e;exact e2
     obtain⟨f,A⟩:=A;refine⟨rfl,⟨λb o e=>?_,λb o e=>?_⟩,os,Q⟩
     .by_cases l:b=T
      .subst l;rw[U]at e;cases e;obtain⟨oc,a8,_,_,_,_,_,_,_,c1,c2,c3,c4,_⟩:=hC;exact .inr (.inl ⟨⟨c,oc,a8,c1,c2,c3,c4⟩,rfl,#[],f,rfl,A⟩)
      .exact .inl (kp b o l e)
     .by_cases l:b=T
      .subst l;exact⟨_,A⟩
      .exact⟨o,kp b o l e⟩
end
theorem Hw{l:PySem.W.OpenLaw}{q:IS}{n:List Str}{XP:(Str->Option Ip)->Heap->Prop}{y:Jp->Heap->Prop}{d:DefRec}{K:Jp->Io}{k:Nat}{x:Str}{cm:Nat->Addr}(z:cm 30=1)(U:l.most=some 63)(A:d.params.defaults=[])(hr:aL k PySem.callerA)
 (B:∀(w:Jp)(h:Heap),y w h->(K w).In h) (C:∀w,(K w).lookup (cm 31)=none) (D:∀(w:Jp)(h:Heap),y w h->h.get? (cm 31)=some (tabObj #[])) (E:∀w,kT (K w) (cm 34) (cm 31)=true)
 (F:∀(w:Jp)(mg:Str->Option Ip)(v:Addr)(h:Heap),(K w).In h->h.Ns mainGlobals mg->mg d.name=some (.ref v)->
  ∃I:IQ,(∀(s:Ir)(u:Ip),PX s I ⟨[u],[]⟩ [(x,u)])/\∀i:Heap,(K w).In i->i.Ns mainGlobals mg->ay l.prog w (K w) mg i aS k v I [x] (pB (K w) cm)) :
 PySem.W.WalkO q n XP y l.row.toRowW d [] (λf L=>PySem.call f L):=by
 refine Att.zv U A λw N O mg mb v o pm cd a1 a L ns G Y ho hd a2 J r p m hg=>?_;obtain⟨I,hb,hF⟩:=F w mg v _ (B w _ Y) G.T.g J;refine Hv (T:=cm 31) (c:=cm 34) (B w _ Y) G.T.g G.T.b G.T.builtins G.T.nolimit hg r p (Jm m (by decide)) hr (C w) (D w _ Y) (wA (E w) (B w _ Y)) hF hb λH hO hT hS=>⟨a,ns,rfl,hS,m,hO,λj Q=>?_,λ_=>rfl⟩;rw[z]at Q;obtain rfl:j=0:=Nat.lt_one_iff.mp Q;exact⟨#[],hT,KR,λcv e=>by cases e⟩
end Ws
namespace Ws
open PySem
theorem Hx{vs:List PV}{A A':PHp}{v:PV}(h:N6 vs A=.ok v A'):v=.non:=md (M0 O6 (M0 O6 (M0 O6 (M0 O6 (M0 O6 (M0 O6 O6)))))) h
theorem Hy{vs:List PV}{A A':PHp}{v:PV}(h:P9 vs A=.ok v A'):v=.non:=md (M0 (lZ n9 ma) (M0 tZ (M0 (CU (M0 (lZ n9 ma) CV)) (M0 O6 (M0 O6 (M0 O6 (M0 O6 O6))))))) h
theorem Hz{vs:List PV}{A A':PHp}{v:PV}(h:Q0 vs A=.ok v A'):v=.non:=md (M0 (lZ n9 ma) (M0 tZ (M0 (lZ n9 ma) (M0 O6 O6)))) h
theorem HD{vs:List PV}{A A':PHp}{v:PV}(h:aU vs A=.ok v A'):v=.non:=md O6 h
end Ws
theorem HE{P:List Ip->Prop}(h:P [])(a:List Ip)(e:a.length=0):P a:=by
 cases a with
 | nil=>exact h
 | cons x a=>exact absurd e (LX _)
theorem wB{P:List Ip->Prop}(h:∀x,P [x])(a:List Ip)(e:a.length=1):P a:=by
 cases a with
 | nil=>exact absurd e (LX _).symm
 | cons x a=>exact HE (P:=λa=>P (x::a)) (h x) a (Oz e)
theorem wC{P:List Ip->Prop}(h:∀x y,P [x,y])(a:List Ip)(e:a.length=2):P a:=by
 cases a with
 | nil=>exact absurd e (LX _).symm
 | cons x a=>exact wB (P:=λa=>P (x::a)) (h x) a (Oz e)
theorem wD{P:List Ip->Prop}(h:∀x y z,P [x,y,z])(a:List Ip)(e:a.length=3):P a:=by
 cases a with
 | nil=>exact absurd e (LX _).symm
 | cons x a=>exact wC (P:=λa=>P (x::a)) (h x) a (Oz e)
theorem HF{P:List Ip->Prop}(h:∀x y z u,P [x,y,z,u])(a:List Ip)(e:a.length=4):P a:=by
 cases a with
 | nil=>exact absurd e (LX _).symm
 | cons x a=>exact wD (P:=λa=>P (x::a)) (h x) a (Oz e)
local macro_rules | `(tactic| walk_at "b1")=>`(tactic| exact λ_ _ _ _ _ _=>wB λ_=>rfl)
local macro_rules | `(tactic| walk_at "b2")=>`(tactic| exact λ_ _ _ _ _ _=>wC λ_ _=>rfl)
local macro_rules | `(tactic| walk_at "b3")=>`(tactic| exact λ_ _ _ _ _ _=>wD λ_ _ _=>rfl)
local macro_rules | `(tactic| walk_at "b4")=>`(tactic| exact λ_ _ _ _ _ _=>HF λ_ _ _ _=>rfl)
namespace Ws
open PySem PySem.W L2
set_option Elab.async false
set_option maxHeartbeats 0
theorem HI:∀w:Jp,(fencedOpening treeTable PySem.Challenge.pw_wordswap_k34_words_said_on w 9202).map (λs=>(s.heap,s.gens,s.drawn,s.toks))=some (Mm w.params,#[],Pd,PJ):=boot_open (by kernel_rfl) (by kernel_rfl) (λs=>by kernel_rfl)
theorem hdl:LeftO PySem.Challenge.pw_wordswap_k34_words_said_on (view PySem.Challenge.pw_wordswap_k34_words_said_on kU) qQ (xt PySem.Challenge.pw_wordswap_k34_words_said_on) (λs=>ik s.heap) (Kw PySem.Challenge.pw_wordswap_k34_words_said_on 9202) 9202/\∀w,((bs (er 454 (Kw PySem.Challenge.pw_wordswap_k34_words_said_on 9202 w))).all id,(Kw PySem.Challenge.pw_wordswap_k34_words_said_on 9202 w).lookup 454::os (er 454 (Kw PySem.Challenge.pw_wordswap_k34_words_said_on 9202 w)))=(true,some (OI #[])::ov PySem.Challenge.pw_wordswap_k34_words_said_on):=Bb (q:=λp=>view p kU) (Xt:=xt) (ob:=λK=>((bs (er 454 K)).all id,K.lookup 454::os (er 454 K))) (va:=λp=>(true,some (OI #[])::ov p)) rfl PySem.W.Fast.te6613529449190102663 PySem.W.Fast.te10156331382660048174 PySem.W.Fast.te11892475500146522536 PySem.W.Fast.te14364793385576792824 PySem.W.Fast.te4187177175401517315 HI HJ
theorem HK{w:Jp}{h:Heap}{mg:Str->Option Ip}{fa:Addr}{K:Frag}(e:(bs K).all id=true/\os K=ov PySem.Challenge.pw_wordswap_k34_words_said_on)(X:K.In h)(G:h.Ns mainGlobals mg)(m1:mg "law" = some (.ref fa)):∃fd:IQ,(∀(s:Ir)(v:Ip),PX s fd ⟨[v],[]⟩ [("_law_script",v)])/\∀base:Heap,K.In base->base.Ns mainGlobals mg->ay PySem.Challenge.rw_wordswap_k34_words_said_on.prog w K mg base aS 8 fa fd ["_law_script"] (pB K cmA):=by
 have b:=λi {x}=>wu e.1 i (b:=x);have z:=m1.symm.trans (PySem.W.mg_of X G (of_decide_eq_true (cV (b 64 rfl)).1));cases z;refine⟨fnOf "law" "law" (O4 (top 41)) (G9 (top 41)) (C2 (top 41)) .none .none .none (.str "law_wordswap_k34_words_said_on" 861) none (.ref 558) .none,λs v=>.of_eq rfl,λbase KB _=>?_⟩;have m2:kG mg base cmA 0:=Hu rfl (b 73 rfl) (b 74 rfl) KB λv hv=>PySem.W.mg_of X G hv;have E:En PySem.Challenge.rw_wordswap_k34_words_said_on.prog w K mg base cmA:=⟨⟨h,X,G⟩⟩;have B:=base_of E (b 0 rfl) (b 1 rfl);have GL:je mg:=⟨⟨_,E.of (b 14 rfl)⟩,⟨_,E.of (b 15 rfl)⟩,⟨_,E.of (b 16 rfl)⟩,⟨_,E.of (b 17 rfl)⟩⟩;have BS:=E.no (b 18 rfl);have F0:=bD (st:=(C1 (top 2) 0)) (bw e.2 0 rfl rfl) (b 19 rfl);have F1:=bD (st:=(top 37)) (bw e.2 1 rfl rfl) (b 20 rfl);have F2:=bD (st:=(top 39)) (bw e.2 2 rfl rfl) (b 21 rfl);have F3:=Ho (st:=(C1 (top 27) 0)) (bw e.2 3 rfl rfl) (bw e.2 4 rfl rfl) (b 22 rfl);have F4:=bD (st:=(top 32)) (bw e.2 5 rfl rfl) (b 23 rfl);have F5:=bD (st:=(top 13)) (bw e.2 6 rfl rfl) (b 24 rfl);have F6:=bD (st:=(top 14)) (bw e.2 7 rfl rfl) (b 25 rfl);have F7:=bD (st:=(top 33)) (bw e.2 8 rfl rfl) (b 26 rfl);have F8:=bD (st:=(top 34)) (bw e.2 9 rfl rfl) (b 27 rfl);have F9:=bD (st:=(C1 (top 35) 0)) (bw e.2 10 rfl rfl) (b 28 rfl);have f4:=bD (st:=(top 15)) (bw e.2 11 rfl rfl) (b 29 rfl);have f5:=bD (st:=(top 16)) (bw e.2 12 rfl rfl) (b 30 rfl);have g0:=bD (st:=(top 17)) (bw e.2 13 rfl rfl) (b 31 rfl);have g1:=bD (st:=(C1 (top 18) 0)) (bw e.2 14 rfl rfl) (b 32 rfl);have g2:=bD (st:=(C1 (top 30) 0)) (bw e.2 15 rfl rfl) (b 33 rfl);have g3:=bD (st:=(C1 (top 35) 2)) (bw e.2 16 rfl rfl) (b 34 rfl);have g4:=bD (st:=(C1 (top 27) 6)) (bw e.2 17 rfl rfl) (b 35 rfl);have g5:=bD (st:=(C1 (top 18) 1)) (bw e.2 18 rfl rfl) (b 36 rfl);have g6:=bD (st:=(C1 (top 30) 2)) (bw e.2 19 rfl rfl) (b 37 rfl);have g7:=bD (st:=(C1 (top 30) 4)) (bw e.2 20 rfl rfl) (b 38 rfl);have h0:=bD (st:=(C1 (top 27) 1)) (bw e.2 21 rfl rfl) (b 39 rfl);have h1:=bD (st:=(C1 (top 18) 2)) (bw e.2 22 rfl rfl) (b 40 rfl);have h2:=bD (st:=(C1 (top 30) 3)) (bw e.2 23 rfl rfl) (b 41 rfl);have h3:=bD (st:=(C1 (top 30) 5)) (bw e.2 24 rfl rfl) (b 42 rfl);have h4:=bD (st:=(C1 (top 35) 1)) (bw e.2 25 rfl rfl) (b 43 rfl);have h5:=bD (st:=(C1 (top 27) 8)) (bw e.2 26 rfl rfl) (b 44 rfl);have h6:=bD (st:=(C1 (top 30) 7)) (bw e.2 27 rfl rfl) (b 45 rfl);have h7:=bD (st:=(C1 (top 27) 14)) (bw e.2 28 rfl rfl) (b 46 rfl);have h8:=bD (st:=(C1 (top 30) 9)) (bw e.2 29 rfl rfl) (b 47 rfl);have i1:=bD (st:=(C1 (top 30) 8)) (bw e.2 30 rfl rfl) (b 48 rfl);have i2:=bD (st:=(C1 (top 30) 6)) (bw e.2 31 rfl rfl) (b 49 rfl);have j1:=bD (st:=(C1 (top 30) 1)) (bw e.2 32 rfl rfl) (b 50 rfl);have e3:=bD (st:=(top 38)) (bw e.2 33 rfl rfl) (b 51 rfl);have j2:=bD (st:=(top 24)) (bw e.2 34 rfl rfl) (b 52 rfl);have k0:=bD (st:=(top 20)) (bw e.2 35 rfl rfl) (b 53 rfl);have k1:=bD (st:=(top 25)) (bw e.2 36 rfl rfl) (b 54 rfl);have k2:=bD (st:=(top 26)) (bw e.2 37 rfl rfl) (b 55 rfl);have k3:=bD (st:=(C1 (top 27) 4)) (bw e.2 38 rfl rfl) (b 56 rfl);have k4:=bD (st:=(C1 (top 27) 7)) (bw e.2 39 rfl rfl) (b 57 rfl);have k5:=bD (st:=(C1 (top 27) 10)) (bw e.2 40 rfl rfl) (b 58 rfl);have k6:=bD (st:=(C1 (top 27) 9)) (bw e.2 41 rfl rfl) (b 59 rfl);have k7:=bD (st:=(C1 (top 27) 5)) (bw e.2 42 rfl rfl) (b 60 rfl);have l0:=bD (st:=(C1 (top 27) 3)) (bw e.2 43 rfl rfl) (b 61 rfl);have l1:=bD (st:=(top 40)) (bw e.2 44 rfl rfl) (b 62 rfl);have m0:=bD (st:=(C1 (top 27) 2)) (bw e.2 45 rfl rfl) (b 63 rfl);have n1:=bD (st:=(top 41)) (bw e.2 46 rfl rfl) (b 64 rfl);have XO:∀c∈[7,8,9,12,13,14,15,16],kS K (cmA c):=(iD (iE (bw e.2 47 rfl rfl) rfl) (iD (iE (bw e.2 48 rfl rfl) rfl) (iD (iE (bw e.2 49 rfl rfl) rfl) (iD (iE (bw e.2 50 rfl rfl) rfl) (iD (iE (bw e.2 51 rfl rfl) rfl) (iD (iE (bw e.2 52 rfl rfl) rfl) (iD (iE (bw e.2 53 rfl rfl) rfl) (iD (iE (bw e.2 54 rfl rfl) rfl) Hn))))))))
 obtain⟨ER,EG⟩:=Hr (b 66 rfl) (b 67 rfl) (b 65 rfl) XO;have MC:wo mg cmA:=⟨E.ns (b 6 rfl),E.ns (b 7 rfl),E.ns (b 8 rfl),E.ns (b 9 rfl),E.ns (b 10 rfl),E.ns (b 11 rfl),E.ns (b 12 rfl),E.ns (b 13 rfl),E.no (b 68 rfl)⟩;have OE:=GJ (P:=PySem.Challenge.rw_wordswap_k34_words_said_on.prog) (w:=w) (base:=base) (mg:=mg) F0;have b0:=(F0.binds (ps:=["self","at"]) (by walk_at "b2"));have e7:=iF E OE (b 66 rfl) XO b0 (c:=7) (by decide) (b 6 rfl);have f2:=iF E OE (b 66 rfl) XO b0 (c:=8) (by decide) (b 7 rfl);have f0:=iF E OE (b 66 rfl) XO b0 (c:=9) (by decide) (b 8 rfl);have e1:=iF E OE (b 66 rfl) XO b0 (c:=12) (by decide) (b 9 rfl);have e5:=iF E OE (b 66 rfl) XO b0 (c:=13) (by decide) (b 10 rfl);have c5:=iF E OE (b 66 rfl) XO b0 (c:=14) (by decide) (b 11 rfl);have e6:=iF E OE (b 66 rfl) XO b0 (c:=15) (by decide) (b 12 rfl);have d0:=iF E OE (b 66 rfl) XO b0 (c:=16) (by decide) (b 13 rfl);have a1:=dN E (f:=K8) (dC B F1) (b 20 rfl) (F1.binds (by walk_at "b2"));have c0:=dN E (f:=aK) (ef B F2) (b 21 rfl) (F2.binds (by walk_at "b2"));have a2:=mY E (f:=N6) (dr B F3) (b 22 rfl) (b 70 rfl) (b 3 rfl) (F3.binds 3 rfl λ_ _ _ _ _ _ _ us hl=>match us,hl with | [_,_,_],_=>⟨_,rfl,rfl⟩) λ_ _ _ _=>Hx;have c1:=dN E (f:=V7) (ea B F4) (b 23 rfl) (F4.binds (by walk_at "b1"));have D:=dN E (f:=N5) (eJ B F5) (b 24 rfl) (F5.binds (by walk_at "b1"));have r:=dN E (f:=L0) (eW B D F6) (b 25 rfl) (F6.binds (by walk_at "b2"));have a3:=dN E (f:=R9) (du B c1 r F7) (b 26 rfl) (F7.binds (by walk_at "b2"));have d1:=dN E (f:=U8) (eL B D F8) (b 27 rfl) (F8.binds (by walk_at "b1"));have c2:=mY E (f:=P9) (ee B a3 d1 F9) (b 28 rfl) (b 72 rfl) (b 5 rfl) (F9.binds (by walk_at "b4")) λ_ _ _ _=>Hy;have C:=dN E (f:=G8) (cj B GL D f4) (b 29 rfl) (f4.binds (by walk_at "b1"));have N:=dN E (f:=N3) (dH B r f5) (b 30 rfl) (f5.binds (by walk_at "b2"));have u:=dN E (f:=G3) (bZ B N g0) (b 31 rfl) (g0.binds (by walk_at "b2"));have d2:=mY E (f:=Q0) (eM B C u g1) (b 32 rfl) (b 69 rfl) (b 2 rfl) (g1.binds (by walk_at "b3")) λ_ _ _ _=>Hz;have a4:=mY E (f:=aU) (dt B g2) (b 33 rfl) (b 71 rfl) (b 4 rfl) (g2.binds (by walk_at "b2")) λ_ _ _ _=>HD;have b6:=dO E (f:=Q5) (dM B g3) (b 34 rfl) (g3.binds (by walk_at "b2"));have O:=dO E (f:=K3) (cQ B g4) (b 35 rfl) (g4.binds (by walk_at "b2"));have T:=dO E (f:=M9) (cZ B g5) (b 36 rfl) (g5.binds (by walk_at "b2"));have a:=dO E (f:=D0) (ck B T g6) (b 37 rfl) (g6.binds (by walk_at "b2"));have l:=dO E (f:=E1) (cA B O a g7) (b 38 rfl) (g7.binds (by walk_at "b2"));have g:=dO E (f:=ax) (dw B h0) (b 39 rfl) (h0.binds (by walk_at "b1"));have U:=dO E (f:=N0) (da B h1) (b 40 rfl) (h1.binds (by walk_at "b2"));have d:=dO E (f:=D4) (bS B U h2) (b 41 rfl) (h2.binds (by walk_at "b2"));have a5:=dO E (f:=K0) (dA B GL b6 l g d h3) (b 42 rfl) (h3.binds (by walk_at "b2"));have b7:=dO E (f:=T9) (dJ B h4) (b 43 rfl) (h4.binds (by walk_at "b2"));have j:=dO E (f:=D9) (cU B b7 h5) (b 44 rfl) (h5.binds (by walk_at "b3"));have n:=dO E (f:=G0) (bT B GL a j g h6) (b 45 rfl) (h6.binds (by walk_at "b3"))
 have a6:=dO E (f:=P1) (dz B h7) (b 46 rfl) (h7.binds (by walk_at "b2"));have m:=dO E (f:=E6) (bJ B d a6 g h8) (b 47 rfl) (h8.binds (by walk_at "b3"));have A:=dO E (f:=G4) (cb B GL m g j a m2 ⟨rfl,rfl,rfl⟩ rfl i1) (b 48 rfl) (i1.binds (by walk_at "b4"));have a7:=dO E (f:=P2) (dB B l n A i2) (b 49 rfl) (i2.binds (by walk_at "b2"));have Y:=dO E (f:=O3) (dh B a5 a7 j1) (b 50 rfl) (j1.binds (by walk_at "b2"));have y:=(e3.binds (ps:=["_law_found","_law_due"]) (by walk_at "b2"));have a8:=dN E (k:=1) (f:=Z3) (ar:=2) CT (b 51 rfl) y λ_ _ _ _ h=>nomatch h;have a9:=dN E (f:=r8) (bo B BS a8 e3) (b 51 rfl) y;have b1:=dN E (f:=r9) (bo B BS a9 e3) (b 51 rfl) y;have b2:=dN E (f:=s8) (bo B BS b1 e3) (b 51 rfl) y;have b3:=dN E (f:=s9) (bo B BS b2 e3) (b 51 rfl) y;have c3:=dN E (f:=m6) (bo B BS b3 e3) (b 51 rfl) y;have e4:=dN E (f:=c6) (fJ B N j2) (b 52 rfl) (j2.binds (by walk_at "b2"));have e0:=dN E (f:=U9) (eN B r k0) (b 53 rfl) (k0.binds (by walk_at "b3"));have b4:=dN E (f:=P0) (dv B r e0 k1) (b 54 rfl) (k1.binds (by walk_at "b2"));have e2:=dN E (f:=T1) (eX B GL e4 b4 k2) (b 55 rfl) (k2.binds (by walk_at "b2"));have J:=qN E (f:=K1) (cD B e5 k3) (b 56 rfl) (k3.binds (by walk_at "b2"));have o:=dO E (f:=E8) (bQ B k4) (b 57 rfl) (k4.binds (by walk_at "b2"));have p:=dO E (f:=E9) (bR B k5) (b 58 rfl) (k5.binds (by walk_at "b2"));have I:=dO E (f:=H9) (cz B p k6) (b 59 rfl) (k6.binds (by walk_at "b2"));have L:=qN E (f:=K2) (cE B o c5 j e6 I d0 k7) (b 60 rfl) (k7.binds (by walk_at "b2"));have a0:=qN E (f:=J9) (dg B GL e2 e1 J L l0) (b 61 rfl) (l0.binds (by walk_at "b2"));have c4:=dN E (f:=K9) (eh B ER MC a0 l1) (b 62 rfl) (l1.binds (by walk_at "b2"));have b5:=dO E (f:=K7) (dy B m0) (b 63 rfl) (m0.binds (by walk_at "b1"));exact(jf (P:=PySem.Challenge.rw_wordswap_k34_words_said_on.prog) (w:=w) (base:=base) B a1 c0 a2 c2 d2 a4 Y c3 c4 b5 n1).imp λvs H Q E q=>AV law_pure vs H Q E q
end Ws
open PySem PySem.W PyProof.Rows
set_option Elab.async false
set_option maxRecDepth 100000 in
set_option maxHeartbeats 0 in
theorem PySem.Challenge.cw_wordswap_k34_words_said_on_holds : PySem.Challenge.rw_wordswap_k34_words_said_on.Holds := by
 w_on;refine holds_law Ws.HM λsaid=>?_
 refine Ws.Bd (l:=PySem.Challenge.rw_wordswap_k34_words_said_on) (d:=⟨"law",L2.O4 (Ws.top 41),L2.G9 (Ws.top 41),L2.C2 (Ws.top 41),Ws.Bc (Ws.top 41)⟩) Ws.hdl.1 (by kernel_rfl) (by kernel_rfl) (by kernel_rfl) (by first | rfl | kernel_rfl) (by assumption) (by decide +kernel) ⟨rfl,rfl,rfl,rfl,rfl,by decide +kernel⟩ ?hw ?hc
 case hw=>w_witness2
 case hc=>exact Ws.Hw (l:=PySem.Challenge.rw_wordswap_k34_words_said_on) (K:=λw=>Ws.er 454 (Ws.Kw PySem.Challenge.rw_wordswap_k34_words_said_on.row.prog 9202 w)) (k:=8) (x:="_law_script") (cm:=Ws.cmA) rfl rfl (by kernel_rfl) ⟨rfl,by decide,by decide⟩ (λw h Y=>Ws.Hs Y) (λw=>Ws.Ht) (λw h Y=>Y _ _ (Ws.wz (Ws.p2 (Ws.hdl.2 w))).1) (λw=>Ws.wu (Ws.p1 (Ws.hdl.2 w)) 73 rfl) λw mg fa h KX G hmg=>Ws.HK ⟨Ws.p1 (Ws.hdl.2 w),(Ws.wz (Ws.p2 (Ws.hdl.2 w))).2⟩ KX G hmg
