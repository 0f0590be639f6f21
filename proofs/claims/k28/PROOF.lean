import PyProof.Rows.All
import Wide.All
import OpenK.AllK
import Wide.FinOn
import Lean
import PyProof.EqAt
import PyProof.EqKinds
import PyProof.TupleCall
import PySem.Challenge.RW_wordswap_k28_two_plans_on_one_web
import PyProof.ExcBaseAll.ValueError
import PyProof.NsDelKeeps
import PyProof.ExcArgs
import KE.KIntText
import PyProof.StrLawsChain
import PyProof.StrWalks
import PyProof.Draws
import PyProof.EnumMake
import PyProof.Rows.CallKwBuiltin
import PyProof.ToksMono
import PyProof.StrReplace2
import PyProof.MeetsStr3
import KE.KSortTup
import KE.KLam
import KE.KMinKey
import PyProof.DictItemsLoops
import KE.KSetIn
import PyProof.AttrMissHeap
noncomputable section
open PySem renaming wpAny_bind->L0,wpAny_pure->Lk,Value->Ll,Shared->Ln,Program->LK,FuncData->LN,wpAny_call_entry->Mc,wpAny_holding->Mh,wpAny_callSpecial?_slot->Mj,wpAny_mono->Mp,Around->Mq,World->Mv,wpAny_setField_rec->Mw,wpAny_field->Mx,wpAny_setState_of->MH,Builtin->MK,wpAny_newObj_type->MN,wpAny_dictEntries->MW,wpAny_passesOwn->Nb,mem_of_lookup->Nc,Str->Nf,wpAny_loadPart_at->Nj,wpAny_setField->Nz,wpAny_isInstance->NF,wpAny_truthy_bool->NJ,wpAny_isSubtype_exc->NM,wpAny_seqItems->NR,wpAny_attempt->NS,wpAny_typeNameOfWhole_itemiter->NV,tupleKind_room_in1->NX,wpAny_typeNameOfWhole_keyiter->Ob,codeAny_mono->Oe,codeAny_builtin->Oj,wpAny_notOrdered_dict->Oo,wpAny_execs_nil->Ov,wpAny_pyIter_list->Ow,wpAny_dictEpoch->OA,sizeLine_eq->OF,wpAny_isOneOf_itemiter->OO,wpAny_pyIter_tuple->OP,wpAny_Call_Name_kw->OQ,wpAny_call->Pc,wpAny_rule->Ph,wpAny_pyIter_slot->Pj,codeAny_call_builtin->Pr,wpAny_fieldsOf->PJ,DictEntry->Qa,wpAny_specialOf->Qb,plainObj_wpAny_Assign_Attribute->Qr,wpAny_Call_method->Qs,Stmt->Qw,Expr->Qx,isSubtype_stop->QA,wpAny_updateSeq_pair->QY,wpAny_standAt->Rb,wpAny_handled->Rc,ExceptHandler->Rg,plainId_quiet->Rh,Spec->Rk,IsItemIter->Rm,Keyword->Ro,wpAny_of_eq->Rq,codeAny_of_tree->Rr,wpAny_setEntries_of->Rt,size_of_entries->Ru,Within->RF,wpAny_typeOf->RI,wpAny_comprehension_free->RZ,Scope->Si,GenState->Sk,wpAny_newList->Ss,wpAny_throw->Su,wpAny_onRaise->Sv,CmpOp->SG,wpAny_execs_cons->SI,wpAny_askSetting->SO,wpAny_forIn_list->SQ,wpAny_isTrue_Compare1->Te,PassesOwn->Tf,call_meetsIn->Tn,weight_type_call_type->Ts,wpAny_isOneOf_keyiter->Tu,SetTable->Tx,intKind_is->Tz,wpAny_loadPart->TM,wpAny_runValue->TR,entryFor_alias->TY,wpAny_bindName->Ua,codeAny_forLoop_any->Uc,wpAny_letGo->Ue,wpAt_of_wpAny->Ug,Const->Ui,call_set_list->Up,UnaryOp->Us,call_meets->Uu,Result->Uy,Thread->UD,IsPart->UJ,OsState->UM,IsPair->UP,BindsTo->UQ,NameKind->UR,ElemsOf->UT,Model->UU,Walks->UZ
open PySem.Heap renaming get?_push_of_some->L3,get?_push_size->Lq,lt_size->Lr,get?_update_self->Mn,SameBut->MA,size_push->ME,get?_update_other->ML,size_update->PM,get?_push_ne->Qt,ExtBut->Qu,get?_update_ne->Ud
open PySem.W renaming Frag->Lm,kia_one->Np,findIn->NQ,keepIn->Od,instObj->Oh,fnOf->Om,emptyDict->Ox,callWith_K->OR,SharedT->Pq,boot_heap->Qi,codeIn->Qy,methodCall_KW->QD,plainGet->QM,plainGet_of->Rn,lookIn->RN,hasDictIn->RS,cellsFrom_some->SU,takerIn->Tg,looks_findIn->TB,boot_drawn->Uw,isFn->Ux,boot_toks->UN,kas_rev->US
open List renaming length_map->Lo,mem_singleton->Ls,mem_cons->Lu,mem_map->Lv,prefix_append->Lw,mem_cons_self->Lz,getElem?_eq_some_iff->LA,getElem?_eq_getElem->LB,mem_cons_of_mem->LC,size_toArray->LF,getElem?_append_left->LG,getElem?_map->LL,map_map->LM,prefix_refl->LO,length_append->LR,getD_eq_getElem?_getD->LU,all_eq_true->LV,map_cons->LX,mem_append->LY,map_append->LZ,mem_append_right->Ma,length_cons->Me,mem_filter->Mg,mem_of_getElem?->Mm,range->Mo,getElem?_eq_none->Mu,not_mem_nil->Mz,getElem?_append_right->MB,nodup_append->MF,getElem?_set_ne->MG,length_filter_le->MI,pairwise_cons->MJ,append_nil->MM,filter_eq_self->MQ,length_take->MS,take_length->MT,getElem?_eq_none_iff->MV,mem_iff_getElem->MX,length_nil->Nd,mem_range->Nn,nodup_cons->Nq,pairwise_iff_getElem->Nr,take_succ->NA,contains_cons->NB,filter_append->NC,mem_append_left->ND,getElem?_set_self->NH,take_of_length_le->NI,map_congr_left->NK,length_pos_iff->NN,getElem_mem->Oa,filterMap_cons->Oi,drop_eq_getElem_cons->Oq,getLast?_eq_getElem?->Ou,getLast?_eq_getLast->OB,map_nil->OC,flatMap_append->OI,nodup_nil->OK,filter_map->OY,any_cons->Pd,pairwise_map->Pf,ext_getElem?->Pl,replicate->Px,getLastD_eq_getLast?->PL,lookup->PN,getElem_of_mem->PQ,filter_cons_of_pos->Qd,filter_cons_of_neg->Qe,all_cons->Qg,map_drop->Qm,length_set->Qn,drop_eq_nil_of_le->Qo,map->Qz,toArray->QG,lookup_cons->QN,any_toArray->QP,cons_append->QR,getElem_map->QT,mem_flatMap->QU,take_append_of_le_length->QV,dropWhile_cons_of_pos->RD,dropWhile_cons_of_neg->RE,findIdx?_eq_none_iff->RP,getElem?_zip_eq_some->RQ,append_assoc->Sa,getElem_take->Se,getElem?_replicate->Sl,Pairwise->Sn,mem_singleton_self->SE,getElem_inj->SH,length_drop->SJ,drop_length->SR,range_succ_eq_map->SX,of_mem_zip->Ti,length_singleton->Tj,set_append_right->Tp,foldl_cons->Tq,getElem?_zipWith->Tv,mem_of_mem_take->TF,length_dropLast->TH,pairwise_append->TL,set_comm->Uq,map_take->Ur,Perm->UX
open Nat renaming le_refl->Lp,ne_of_lt->Ly,lt_of_lt_of_le->LI,le_trans->LW,lt_succ_self->Nh,lt_succ_of_lt->Ni,ne_of_gt->Nx,lt_irrefl->NP,le_succ->NZ,zero_le->OG,succ_ne_zero->OJ,succ_lt_succ->QQ,pow_le_pow_right->QZ,le_of_lt->RH,lt_trans->RJ,le_succ_of_le->Sg,le_add_right->SM,le_of_eq->Th,mul_le_mul_right->TJ,mul_le_mul->Ub,zero_add->Uz,succ_mul->UH
open Bool renaming and_eq_true->LH,false_ne_true->MO,false_eq_true->NY,beq_eq_decide_eq->QE,or_true->QH,and_eq_true_iff->QX,false_or->So
open PySem.Value renaming ref->LJ,none->MZ,int->OU,builtin->Ql,isInt->Sh,str->Uj,bool->Ut,float->UI
open PySem.Str renaming ofString->LP
open PySem.Expr renaming Name->LQ,Compare->Md,Attribute->MD,BoolOp->Ny,BinOp->NG,Constant->NO,Subscript->Oc,UnaryOp->RK
open False renaming elim->Mb
open Option.some renaming inj->Mf
open Option renaming map_eq_some_iff->Mi,map_some->Rv,isSome_iff_exists->RT,isSome_map->RY,map_map->TZ
open PySem.F renaming called_set->Ml,slot_dict_keyiterator_next->MU,slot_tuple_iterator_next->Nk,slot_dict_itemiterator_next->Nv,slot_dict_get->NT,entry_dict_get->OM,args_tuple_iterator_next_1->OS,entry_tuple_iterator_next->OW,args_dict_keyiterator_next_1->PK,entry_dict_keyiterator_next->PR,slot_list_getattribute->PY,plainAttrs_dict->Qc,plainAttrs_list->Qh,slot_zip_next->Qj,slot_dict_iter->Qp,args_dict_itemiterator_next_1->Qv,entry_dict_itemiterator_next->QK,slot_dict_setdefault->Ri,kt_typeCall_dict_1->RB,args_tuple_add_2->RU,args_dict_init_2->Sb,entry_tuple_add->Sm,args_dict_get_2->Sq,args_dict_get_3->Sr,entry_type_call->Sw,entry_dict_init->Sx,slot_tuple_add->SV,typeCall_set_1->SY,entry_set_init->Ta,kt_called_dict->Tb,slot_dict_items_iter->Tc,type_dict_get->To,excAttr_ValueError->TC
open PySem.Obj renaming data_mapFields->Mr,isFreed_of_fields->Ng,mapFields->Nu,cls_mapFields->Oz,data_mapDictKeys->Pu,mapSeq->Rl,isFreed_of_dict->Uh
open PySem.Heap.SameBut renaming update->Ms
open PySem.SetTable renaming insertAt->Mt,below->QC,grown->TV
open PyProof.Rows renaming envOfC->My,IntsAre->Ol,slot_tuple_getitem->Oy,callWith_type1->OV,boot_sorted->PU,assignInOrder_cons->PZ,boot_list->Qq,boot_isinstance->Ra,AllBare->Sj,boot_tuple->SF,subscriptTail_builtinR->SW,entry_list_sort->Tr,boot_int->Tt,slot_list_sort->TN,args_list_sort->TQ,Constant_none->Uk,listUpdate_at->Um,size_push'->Uv,plain_sorted->UA,entry_sorted->UB,args_sorted1->UC,seqEpoch_at->UK,kind_sorted->UL,Call_->UW,IsTup->UY
open Array renaming getElem?_toList->MP,getElem?_eq_getElem->Nt,length_toList->Nw,getElem?_eq_none->ON,getElem?_eq_some_iff->Po,getD_eq_getD_getElem?->Rp,perm_iff_toList_perm->RA,append_assoc->RG,toList_inj->SN
open Sum renaming inl->MR,inr->Td
open PySem.Builtin.Dict_items renaming ownsTuple->MY
open Ne renaming symm->Na
open PySem.Builtin renaming bitAnd->Nl
open PySem.SeqAt renaming EqAt->Nm,RcNeAt->PB
open Int renaming toNat_natCast->NL,emod_lt_of_pos->OT,emod_nonneg->OZ,natCast_nonneg->Q2,toNat_of_nonneg->Rw,fdiv_eq_ediv_of_nonneg->Rz,le_of_lt->UG
open Classical renaming choose_spec->NU,propDecidable->OH,choose->SK
open PySem.Calls renaming spliced_cons->NW,callWith_builtin->OL,spliced_nil->Pb,evalArgs_plain->Pp,call_function_entry->PF,Name_function_global->Ry
open True renaming intro->Of
open Function renaming comp_def->Og
open PySem.Builtin.SmallTypes renaming nextOf->Ot
open PySem.Builtin.Dict renaming showsAll->OX,updateFrom->Sy
open PySem.Shared renaming TypeIs->Pk
open PySem.Stmt renaming Assign->Pn
open PySem.Builtin.Slice renaming sliceAdjust->Py,slicePlaces->Pz
open List.cons renaming injEq->Qf
open PySem.Code renaming quiet_builtin->Qk
open PySem.Data renaming dict->QJ
open PySem.BoolOp renaming And->QW,Or->Rx
open PySem.Builtin.Frozenset renaming updateFrom->Rf,walkUnseen->Rj,subsetOf->RC,sizeOf->Sd
open Nat.succ renaming inj->RM
open PySem.Builtin.List renaming listTooLong->RW
open List.Pairwise renaming imp_of_mem->Sf
open PyProof.Rows.F renaming entry_set_update_loop->Sz,plain_set_update_loop->SA
open PySem.Const renaming none->SS
open PySem.PassesOwn renaming never->Tw
open PyProof.Rows.IntsAre renaming int_at->TU
open List.Perm renaming refl->TX
open Or renaming inr->Ul,inl->UO
open Prod.mk renaming injEq->Uo
open PySem.pickOrder renaming go->UE
set_option bootstrap.genMatcherCode false
set_option hygiene false
def au0(h:True:=by rfl):True:=h
def au1(h:True:=by decide):True:=h
def au2(h:True:=by exact E3 rfl):True:=h
def au3(h:True:=by first | exact .inl rfl | exact .inr rfl | assumption):True:=h
def au4(h:True:=by exact λ_ _ _ _=>ql):True:=h
def au5(h:True:=by with_unfolding_all rfl):True:=h
def au6(h:True:=by first | exact UO rfl | exact Ul (UO rfl) | exact Ul (Ul rfl)):True:=h
def au7(h:True:=by first | exact c _ (by decide) (by decide) | rfl):True:=h
def au8(h:True:=by first | exact e _ (by decide) (by decide) | rfl):True:=h
def au9(h:True:=by first | exact .inl rfl | exact .inr rfl):True:=h
def au10(h:True:=by size_fits):True:=h
def au11(h:True:=by omega):True:=h
def au12(h:True:=by exact λ_ _=>DJ):True:=h
local macro_rules | `(tactic| symm)=>`(tactic| first | lia | omega)
namespace L2
open PySem PySem.Spec PyProof.Rows
noncomputable def C3(s:Stmt)(j:Nat):Stmt:=match s with
 | .ClassDef _ _ _ a _ _ _ _ _ _ _=>a.getD j (.Pass ⟨0,0,0,0⟩)
 | _=>.Pass ⟨0,0,0,0⟩
noncomputable def M7(s:Stmt):Arguments:=match s with
 | .FunctionDef _ a _ _ _ _ _ _ _ _=>a
 | _=>{ posonlyargs:=[],args:=[],vararg:=none,kwonlyargs:=[],kw_defaults:=[],kwarg:=none,defaults:=[] }
noncomputable def G0(s:Stmt):List Stmt:=match s with
 | .FunctionDef _ _ b _ _ _ _ _ _ _=>b
 | _=>[]
noncomputable def C4(s:Stmt):Si:=match s with
 | .FunctionDef _ _ _ _ _ _ c _ _ _=>c
 | _=>{ kind:=.function,names:=[],isGenerator:=false,isCoroutine:=false }
end L2
namespace Ws
open PySem PySem.W PyProof.Rows PySem.Calls L2
section
noncomputable def cf(c k:Nat):Bool:=decide (c=k)||decide (k=7)
noncomputable def cE(i:Nat):Str:=(["number","passings","at","web","leaders","limits","plan","free","ledger","kept_leaders","kept_limits","kept_free","now","turns_of_lays","sayings","first_turns","does","me","open_boxes"]:List Str).getD i "?"
def qL(ok:UD->Bool)(a:Pq->UD->Option (Pq×UD))(n:Nat):Pq->UD->Option Pq:=
 @Nat.rec (λ_=>Pq->UD->Option Pq) (λ_ _=>none)
  (λ_ ih s t=>@Bool.rec (λ_=>Option Pq) (@Bool.rec (λ_=>Option Pq) none (@Option.rec _ (λ_=>Option Pq) none (λr=>ih r.1 r.2) (a s t)) (ok t)) (some s) (through t)) n
noncomputable def vl:List Obj->Nat->BT->BT
 | [],_,t=>t
 | o::r,n,t=>vl r (n+1) (t.ins n o)
def qM(w:Mv)(os:UM):Pq:=⟨vl (Qi w.params).objs.toList 0 .nil,11,(Qi w.params).life,#[],Uw,UN,os⟩
noncomputable def mi(S:Pq):Frag:=(Mo S.n).filterMap λa=>(alive ((S.tree.get a).getD default)).map λo=>(a,o)
def lk{b:Type}(c:LK->List Str->List Str->(Ln->Bool)->Bool->Ln->b)(p q:LK)(a:List Str)(Xt:Ln->Bool)(w:Mv)(s:Ln):Bool×b:=
 (staticsOk (importedModules p.main.body) (Qi w.params) s.heap&&namesBound p s.heap&&gensDone s&&laidKept (Qi w.params) s.heap,c q a (importedModules p.main.body) Xt true s)
noncomputable def kR(K:Lm)(C C':Addr):Bool:=match K.lookup C with
 | some ⟨_,_,.cls cd,_⟩=>cd.mro.contains (.ref C')
 | _=>false
noncomputable def bK(K:Frag)(n:Str)(f:Addr):Bool:=decide (nsIn K mainGlobals n=some (some (.ref f)))
noncomputable def pf(K:Frag)(n:Str):Bool:=decide (nsIn K mainGlobals n=some none)
noncomputable def mM(K:Frag)(n:Str)(v:Ll):Bool:=decide (nsIn K mainGlobals n=some (some v))
noncomputable def iZ(K:Frag)(C:Addr)(n:Str)(v:Option Ll):Bool:=decide (findIn K (.ref C) n=some v)
noncomputable def cP(K:Frag)(C:Addr)(n:Str)(f:Addr):Bool:=iZ K C n (some (.ref f))&&isFn K (.ref f)
noncomputable def bf(K:Frag)(cd:Ll)(q:Str)(f:Addr):Bool:=codeIn K cd q&&keepIn K (.ref f)
noncomputable def pj(K:Frag)(C:Addr):Bool:=plainGet K C Str.empty&&hasDictIn K C&&plainOver K C&&iZ K C "__setattr__" (some (.builtin "object.__setattr__"))&&(Mo 19).all λj=>iZ K C (cE j) none
noncomputable def mN(K:Frag)(C:Addr):Bool:=makesIn K C&&keepIn K (.ref C)
noncomputable def blts:List Str:=["len","range","list","sorted","isinstance","int","bool","tuple","enumerate","reversed","max","min","all","any","set","zip","dict"]
noncomputable def yh(K:Frag):Bool:=decide (specialIn K (.builtin "object.__class__") "__get__" = some (some (.builtin "getset_descriptor.__get__")))&&decide (takesIn K (.builtin "object.__class__")=some true)
noncomputable def lj(K:Frag)(C a:Addr):Bool:=cP K C "__init__" a&&keepIn K (.ref C)&&iZ K C "__setattr__" (some (.builtin "object.__setattr__"))&&iZ K C "at" none&&iZ K C "__getattribute__" (some (.builtin "BaseException.__getattribute__"))&&iZ K C "__getattr__" none&&hasDictIn K C&&
 iZ K C "__class__" (some (.builtin "object.__class__"))&&decide (mroIn K C (.type "object")=some true)&&decide (kitOne K (.ref C) (.type "ValueError")=some true)
noncomputable def yi(K:Frag)(a:Nat->Addr)(es:List Nat):Bool:=es.all λc=>es.all λd=>decide (kR K (a c) (a d)=cf c d)&&decide (kitOne K (.ref (a c)) (.ref (a d))=some (cf c d))
abbrev mP:List Nat:=[0,2,3,4,5,6,7,8,9,11,12,13,14,15,16,17,18,20,21,22,24,25,26,27,28,29,31,32,33,34,36,37,38,39,40,41,42,43,44,45,46,47,48,49,50,51]
abbrev sP:List Str:=[]
abbrev xt(p:LK)(s:Ln):Bool:=xlAt (view p mP) [] s&&recOk (RowW.records PySem.Challenge.rw_wordswap_k28_two_plans_on_one_web.row.toRowW) s
noncomputable def J8(p:LK)(i:Nat):Stmt:=p.main.body.getD i (.Pass ⟨0,0,0,0⟩)
noncomputable def cmA(i:Nat):Addr:=([225,441,382,225,225,225,225,38,51,63,225,225,75,87,99,111,123,225]:List Nat).getD i 0
abbrev bs(K:Frag):List Bool:=[(Mo 7).all λc=>pj K (cmA c),blts.all (pf K),bK K "Web" (cmA 0),bK K "Ledger" (cmA 2),bK K "Plan" (cmA 1),bK K "SwapError" (cmA 7),bK K "NoWeb" (cmA 8),bK K "NoPlan" (cmA 9),bK K "NoDeed" (cmA 12),bK K "Laid" (cmA 13),bK K "NotLaid" (cmA 14),bK K "Late" (cmA 15),bK K "Unknown" (cmA 16),mM K "FEWEST_HANDS" (.int (2) 337),mM K "MOST_HANDS" (.int (6) 339),mM K "LAY" (.str "lay" 495),mM K "SAY" (.str "say" 497),cP K (cmA 7) "__init__" 35&&bf K (.ref 34) "SwapError.__init__" 35,bK K "_law_cell_at" 452&&bf K (.ref 451) "_law_cell_at" 452,bK K "_law_mixed" 464&&bf K (.ref 463) "_law_mixed" 464,bK K "_law_passings" 469&&bf K (.ref 468) "_law_passings" 469,bK K "is_whole" 132&&bf K (.ref 131) "is_whole" 132,bK K "is_number_of_hands" 146&&bf K (.ref 145) "is_number_of_hands" 146,bK K "is_hand" 139&&bf K (.ref 138) "is_hand" 139,bK K "is_passing" 153&&bf K (.ref 152) "is_passing" 153,bK K "first_wrong_passing" 160&&bf K (.ref 159) "first_wrong_passing" 160,cP K (cmA 0) "__init__" 174&&bf K (.ref 173) "Web.__init__" 174,bK K "_law_some" 474&&bf K (.ref 473) "_law_some" 474,cP K (cmA 2) "__init__" 280&&bf K (.ref 279) "Ledger.__init__" 280,bK K "is_rising" 391&&bf K (.ref 390) "is_rising" 391,bK K "are_leaders" 396&&bf K (.ref 395) "are_leaders" 396,bK K "is_limit" 403&&bf K (.ref 402) "is_limit" 403,cP K (cmA 1) "__init__" 417&&bf K (.ref 416) "Plan.__init__" 417,bK K "_law_side" 522&&bf K (.ref 521) "_law_side" 522,cP K (cmA 2) "move" 294&&bf K (.ref 293) "Ledger.move" 294,bK K "_law_ways" 479&&bf K (.ref 478) "_law_ways" 479,bK K "_law_chains" 484&&bf K (.ref 483) "_law_chains" 484,bK K "_law_deed" 529&&bf K (.ref 528) "_law_deed" 529,bK K "_law_known" 491&&bf K (.ref 490) "_law_known" 491,bK K "_law_due" 498&&bf K (.ref 497) "_law_due" 498,bK K "is_box" 253&&bf K (.ref 252) "is_box" 253,bK K "is_chain" 234&&bf K (.ref 233) "is_chain" 234,bK K "is_chain_of" 258&&bf K (.ref 257) "is_chain_of" 258,bK K "is_deed" 265&&bf K (.ref 264) "is_deed" 265,cP K (cmA 2) "take_lay" 308&&bf K (.ref 307) "Ledger.take_lay" 308,cP K (cmA 2) "is_laid_ahead" 329&&bf K (.ref 328) "Ledger.is_laid_ahead" 329,cP K (cmA 1) "limit" 424&&bf K (.ref 423) "Plan.limit" 424,cP K (cmA 2) "is_late" 336&&bf K (.ref 335) "Ledger.is_late" 336,cP K (cmA 2) "is_said_ahead" 350&&bf K (.ref 349) "Ledger.is_said_ahead" 350,cP K (cmA 2) "is_sayable" 343&&bf K (.ref 342) "Ledger.is_sayable" 343,cP K (cmA 2) "take_say" 315&&bf K (.ref 314) "Ledger.take_say" 315,cP K (cmA 2) "take" 301&&bf K (.ref 300) "Ledger.take" 301,bK K "_law_taken" 517&&bf K (.ref 516) "_law_taken" 517,bK K "_law_put" 505&&bf K (.ref 504) "_law_put" 505,cP K (cmA 0) "takers_of" 186&&bf K (.ref 185) "Web.takers_of" 186,bK K "longer_walks" 239&&bf K (.ref 238) "longer_walks" 239,bK K "chains_from" 246&&bf K (.ref 245) "chains_from" 246,cP K (cmA 2) "can_say" 379&&bf K (.ref 378) "Ledger.can_say" 379,bK K "_law_tells" 534&&bf K (.ref 533) "_law_tells" 534,cP K (cmA 2) "said" 374&&bf K (.ref 373) "Ledger.said" 374,cP K (cmA 2) "has_all_words" 355&&bf K (.ref 354) "Ledger.has_all_words" 355,cP K (cmA 2) "laid" 362&&bf K (.ref 361) "Ledger.laid" 362,cP K (cmA 2) "opened" 367&&bf K (.ref 366) "Ledger.opened" 367,bK K "_law_open" 510&&bf K (.ref 509) "_law_open" 510,bK K "law" 539&&bf K (.ref 538) "law" 539,yh K,[7,8,9,12,13,14,15,16].all λc=>lj K (cmA c) 35,yi K cmA [7,8,9,12,13,14,15,16],pf K "ValueError",mN K (cmA 0),mN K (cmA 2),mN K (cmA 1)]
abbrev os(K:Frag):List (Option Obj):=[K.lookup 35,K.lookup 452,K.lookup 464,K.lookup 469,K.lookup 132,K.lookup 146,K.lookup 139,K.lookup 153,K.lookup 160,K.lookup 174,K.lookup 474,K.lookup 280,K.lookup 273,K.lookup 391,K.lookup 396,K.lookup 403,K.lookup 417,K.lookup 522,K.lookup 294,K.lookup 479,K.lookup 484,K.lookup 529,K.lookup 491,K.lookup 498,K.lookup 253,K.lookup 234,K.lookup 258,K.lookup 265,K.lookup 308,K.lookup 329,K.lookup 424,K.lookup 336,K.lookup 350,K.lookup 343,K.lookup 315,K.lookup 301,K.lookup 517,K.lookup 505,K.lookup 186,K.lookup 239,K.lookup 246,K.lookup 379,K.lookup 534,K.lookup 374,K.lookup 355,K.lookup 362,K.lookup 367,K.lookup 510,K.lookup 539,K.lookup (cmA 7),K.lookup (cmA 8),K.lookup (cmA 9),K.lookup (cmA 12),K.lookup (cmA 13),K.lookup (cmA 14),K.lookup (cmA 15),K.lookup (cmA 16)]
abbrev fQ(st:Stmt)(n q:Str)(d m:Ll)(c:Addr):Option Obj:=some ⟨.type "function",none,.func (fnOf n q (M7 st) (G0 st) (C4 st) d .none .none m none (.ref c) .none),#[]⟩
abbrev fP(st:Stmt)(n:Str)(m:Ll)(c:Addr):Option Obj:=fQ st n n .none m c
abbrev xO(n:Str)(C N r:Addr)(a t:Nat):Option Obj:=some (excClassObj n n C N [(.ref 38)] [(.ref 38),(.type "ValueError"),(.type "Exception"),(.type "BaseException"),(.type "object")] true [] [] false none none (some (.ref r)) none (some (.str n a)) (some (.str n t)) (some (.bool true)) "ValueError.__new__")
abbrev KD:Ll:=(.str "wordswap.errors" 194)
abbrev eB:Ll:=(.str "law_wordswap_k28_two_plans_on_one_web" 753)
abbrev kB:Ll:=(.str "wordswap.webs" 335)
abbrev dR:Ll:=(.str "wordswap.ledgers" 493)
abbrev mQ:Ll:=(.str "wordswap.plans" 672)
abbrev sQ:Ll:=(.str "wordswap.chains" 467)
abbrev ov(p:LK):List (Option Obj):=[fQ (C3 (J8 p 2) 0) "__init__" "SwapError.__init__" .none KD 34,fP (J8 p 36) "_law_cell_at" eB 451,fP (J8 p 38) "_law_mixed" eB 463,fP (J8 p 39) "_law_passings" eB 468,fP (J8 p 13) "is_whole" kB 131,fP (J8 p 15) "is_number_of_hands" kB 145,fP (J8 p 14) "is_hand" kB 138,fP (J8 p 16) "is_passing" kB 152,fP (J8 p 17) "first_wrong_passing" kB 159,fQ (C3 (J8 p 18) 0) "__init__" "Web.__init__" .none kB 173,fP (J8 p 40) "_law_some" eB 473,fQ (C3 (J8 p 29) 0) "__init__" "Ledger.__init__" (.ref 273) dR 279,some ⟨(.type "tuple"),none,.seq #[.none] 0,#[]⟩,fP (J8 p 31) "is_rising" mQ 390,fP (J8 p 32) "are_leaders" mQ 395,fP (J8 p 33) "is_limit" mQ 402,fQ (C3 (J8 p 34) 0) "__init__" "Plan.__init__" .none mQ 416,fP (J8 p 48) "_law_side" eB 521,fQ (C3 (J8 p 29) 2) "move" "Ledger.move" .none dR 293,fP (J8 p 41) "_law_ways" eB 478,fP (J8 p 42) "_law_chains" eB 483,fP (J8 p 49) "_law_deed" eB 528,fP (J8 p 43) "_law_known" eB 490,fP (J8 p 44) "_law_due" eB 497,fP (J8 p 26) "is_box" dR 252,fP (J8 p 20) "is_chain" sQ 233,fP (J8 p 27) "is_chain_of" dR 257,fP (J8 p 28) "is_deed" dR 264,fQ (C3 (J8 p 29) 4) "take_lay" "Ledger.take_lay" .none dR 307,fQ (C3 (J8 p 29) 7) "is_laid_ahead" "Ledger.is_laid_ahead" .none dR 328,fQ (C3 (J8 p 34) 1) "limit" "Plan.limit" .none mQ 423,fQ (C3 (J8 p 29) 8) "is_late" "Ledger.is_late" .none dR 335,fQ (C3 (J8 p 29) 10) "is_said_ahead" "Ledger.is_said_ahead" .none dR 349,fQ (C3 (J8 p 29) 9) "is_sayable" "Ledger.is_sayable" .none dR 342,fQ (C3 (J8 p 29) 5) "take_say" "Ledger.take_say" .none dR 314,fQ (C3 (J8 p 29) 3) "take" "Ledger.take" .none dR 300,fP (J8 p 47) "_law_taken" eB 516,fP (J8 p 45) "_law_put" eB 504,fQ (C3 (J8 p 18) 2) "takers_of" "Web.takers_of" .none kB 185,fP (J8 p 21) "longer_walks" sQ 238,fP (J8 p 22) "chains_from" sQ 245,fQ (C3 (J8 p 29) 15) "can_say" "Ledger.can_say" .none dR 378,fP (J8 p 50) "_law_tells" eB 533,fQ (C3 (J8 p 29) 14) "said" "Ledger.said" .none dR 373,fQ (C3 (J8 p 29) 11) "has_all_words" "Ledger.has_all_words" .none dR 354,fQ (C3 (J8 p 29) 12) "laid" "Ledger.laid" .none dR 361,fQ (C3 (J8 p 29) 13) "opened" "Ledger.opened" .none dR 366,fP (J8 p 46) "_law_open" eB 509,fP (J8 p 51) "law" eB 538,some (excClassObj "SwapError" "SwapError" 38 37 [(.type "ValueError")] [(.type "ValueError"),(.type "Exception"),(.type "BaseException"),(.type "object")] true [] [(.ref 51),(.ref 63),(.ref 75),(.ref 87),(.ref 99),(.ref 111),(.ref 123)] false none none (some (.ref 22)) none (some (.str "SwapError" 196)) (some (.str "SwapError" 204)) (some (.bool true)) "ValueError.__new__"),xO "NoWeb" 51 50 42 223 231,xO "NoPlan" 63 62 54 239 247,xO "NoDeed" 75 74 66 255 263,xO "Laid" 87 86 78 271 279,xO "NotLaid" 99 98 90 287 295,xO "Late" 111 110 102 303 311,xO "Unknown" 123 122 114 319 327]
set_option maxRecDepth 100000 in
set_option maxHeartbeats 0 in
def KH:∀(w:Mv)(o:UM),(qL (PySem.W.Fast.tw6613529449190102663 11 (some (.ref 6))) (PySem.W.Fast.tw10156331382660048174 (PySem.W.Fast.tw11892475500146522536 PySem.W.Fast.tw14364793385576792824) PySem.Challenge.pw_wordswap_k28_two_plans_on_one_web w) 8446 (qM w o) (topStub PySem.Challenge.pw_wordswap_k28_two_plans_on_one_web)).map (λS=>(lk PySem.W.Fast.tw4187177175401517315 PySem.Challenge.pw_wordswap_k28_two_plans_on_one_web (view PySem.Challenge.pw_wordswap_k28_two_plans_on_one_web mP) sP (xt PySem.Challenge.pw_wordswap_k28_two_plans_on_one_web) w S.abs,(bs (mi S)).all id,os (mi S)))=some ((true,openGood (view PySem.Challenge.pw_wordswap_k28_two_plans_on_one_web mP) sP),true,ov PySem.Challenge.pw_wordswap_k28_two_plans_on_one_web):=λw o=>by kernel_rfl
set_option maxRecDepth 100000 in
set_option maxHeartbeats 0 in
def KJ:PySem.W.OpenLaw.wellSaid PySem.Challenge.rw_wordswap_k28_two_plans_on_one_web=true:=by kernel_rfl
end
end Ws
section
set_option compiler.extract_closed false
set_option Elab.async false
set_option linter.all false
set_option maxRecDepth 100000
namespace L2
open PySem PySem.Spec PyProof.Rows
abbrev Key:=Sum Int Str
noncomputable def kC:Key->Ll->Bool
 | .inl k,v=>Sh k v
 | .inr x,v=>Ll.isStrOf x v
noncomputable def yp(w:Mv):Key->Int
 | .inl k=>hashInt k
 | .inr x=>hashStr w x
theorem keyIs_shape:∀{k:Key}{v:Ll},kC k v=true->(∃i t,k=MR i/\v=OU i t)\/(∃x t,k=Td x/\v=Uj x t)
 | .inl i,v,h=>by
   obtain⟨t,e⟩:=Ll.isInt_shape h;exact .inl ⟨i,t,rfl,e⟩
 | .inr x,v,h=>by
   obtain⟨t,e⟩:=Ll.isStrOf_shape h;exact .inr ⟨x,t,rfl,e⟩
def yq(i:Int)(t:Tok):kC (.inl i) (.int i t)=true:=by simp[kC,Sh]
def yr(x:Str)(t:Tok):kC (.inr x) (.str x t)=true:=by simp[kC,Ll.isStrOf]
def yt(a b:Int):decide ((MR a:Key)=MR b)=(a == b):=by
 by_cases e:a=b
 .subst e;simp
 .have h:¬(MR a:Key)=MR b:=λq=>e (MR.inj q);rw[decide_eq_false h];exact(beq_eq_false_iff_ne.mpr e).symm
def yw(a b:Str):decide ((Td a:Key)=Td b)=decide (a=b):=by simp
def yx(a:Int)(b:Str):decide ((MR a:Key)=Td b)=false:=rfl
def yy(a:Str)(b:Int):decide ((Td a:Key)=MR b)=false:=rfl
noncomputable def K3(prog:LK)(w:Mv):PySem.KeyKind prog w Key where
 is:=kC
 hash:=yp w
 inj:=λv a b ha hb=>by
  rcases keyIs_shape ha with⟨i,t,rfl,rfl⟩ | ⟨x,t,rfl,rfl⟩
  .rcases keyIs_shape hb with⟨j,u,rfl,e⟩ | ⟨y,u,rfl,e⟩
   .injection e with e1 _;rw[e1]
   .exact nomatch e
  .rcases keyIs_shape hb with⟨j,u,rfl,e⟩ | ⟨y,u,rfl,e⟩
   .exact nomatch e
   .injection e with e1 _;rw[e1]
 byValue:=λk v h=>by
  rcases keyIs_shape h with⟨i,t,rfl,rfl⟩ | ⟨x,t,rfl,rfl⟩<;>rfl
 pyHash:=λhv h=>by
  rcases keyIs_shape hv with⟨i,t,rfl,rfl⟩ | ⟨x,t,rfl,rfl⟩
  .exact wpAny_pyHash_int h
  .exact wpAny_pyHash_str h
 eqBool:=λhu hv h=>by
  rcases keyIs_shape hu with⟨i,t,rfl,rfl⟩ | ⟨x,t,rfl,rfl⟩
  .rcases keyIs_shape hv with⟨j,u,rfl,rfl⟩ | ⟨y,u,rfl,rfl⟩
   .rw[yt]at h;exact wpAny_eqBool_int h
   .rw[yx]at h;exact Nm.int_str i t y u _ _ _ _ h
  .rcases keyIs_shape hv with⟨j,u,rfl,rfl⟩ | ⟨y,u,rfl,rfl⟩
   .rw[yy]at h;exact Nm.str_int x t j u _ _ _ _ h
   .rw[yw]at h;exact wpAny_eqBool_str h
 «strs»:=λk x t v h=>by
  rcases keyIs_shape h with⟨i,u,rfl,e⟩ | ⟨y,u,rfl,e⟩
  .exact nomatch e
  .injection e with e1 _;subst e1;cases v<;>rfl
def yz(prog:LK)(w:Mv)(i:Int)(t:Tok):(K3 prog w).is (.inl i) (.int i t)=true:=yq i t
def yA(prog:LK)(w:Mv)(x:Str)(t:Tok):(K3 prog w).is (.inr x) (.str x t)=true:=yr x t
inductive V where
 | non | bl (b:Bool) | int (i:Int) | str (x:Str) | byt (b:Array UInt8) | flt (b:UInt64) | ref (a:Addr) | ty (n:String)
 deriving DecidableEq
def RelV:V->Ll->Prop
 | .non,u=>u=MZ
 | .bl b,u=>u=Ut b
 | .int i,u=>∃t,u=OU i t
 | .str x,u=>∃t,u=Uj x t
 | .byt b,u=>∃t,u=Ll.bytes b t
 | .flt b,u=>∃t,u=UI b t
 | .ref a,u=>u=LJ a
 | .ty n,u=>u=Ll.type n
abbrev aA:List V->List Ll->Prop:=Paired RelV
def aA.length(r:aA a b):a.length=b.length:=Paired.length r
theorem aA.get:∀{a:List V}{b:List Ll}{i:Nat}{x:V},aA a b->a[i]?=some x->∃u,b[i]?=some u/\RelV x u
 | _,_,_,_,.nil,e=>by simp at e
 | _,_,0,_,.cons r _,e=>by simp at e;subst e;exact⟨_,rfl,r⟩
 | _,_,i+1,x,.cons _ t,e=>by
   obtain⟨u,c,d⟩:=aA.get t (by simpa using e);exact⟨u,by simpa using c,d⟩
def aA.append:∀{a b:List V}{c ws:List Ll},aA a c->aA b ws->aA (a++b) (c++ws):=by
 intro a b c ws h s;induction h with
 | nil=>exact s
 | cons r _ ih=>exact .cons r ih
theorem aA.take:∀{a:List V}{b:List Ll}(n:Nat),aA a b->aA (a.take n) (b.take n)
 | _,_,0,_=>.nil
 | _,_,_+1,.nil=>.nil
 | _,_,n+1,.cons r t=>.cons r (aA.take n t)
theorem aA.drop:∀{a:List V}{b:List Ll}(n:Nat),aA a b->aA (a.drop n) (b.drop n)
 | _,_,0,r=>r
 | _,_,_+1,.nil=>.nil
 | _,_,n+1,.cons _ t=>aA.drop n t
def bT:Option V->Option Ll->Prop
 | some v,some u=>RelV v u
 | none,none=>True
 | _,_=>False
def KV{a:Type}:List (a×V)->List (a×Ll)->Prop:=Paired λ(p:a×V) (q:a×Ll)=>p.1=q.1/\RelV p.2 q.2
noncomputable def kV:Key->V
 | .inl i=>.int i
 | .inr x=>.str x
inductive HO where
 | lst (xs:List V)
 | tup (xs:List V)
 | dK (kvs:List (Key×V)) | dT (kvs:List (List Key×V))
 | set (S:Int->Bool) (n:Nat)
 | ins (C dx:Addr) (fs:List (Str×V))
 | own (x:Addr)
 | xd (fs:List (Str×V))
 | met (f x:Addr)
 | rng (lo hi:Int)
 | frz (o:Obj) (u:HO)
 | tbl (ps:Array Ll)
 | ext (φ:Heap->Prop)
abbrev Hp:=Addr->Option HO
noncomputable def aB(H:Hp)(a:Addr)(o:HO):Hp:=λb=>if b=a then some o else H b
def C2:aB H a o a=some o:=by unfold aB;rw[if_pos rfl]
def aj(h:b≠a):aB H a o b=H b:=by unfold aB;rw[if_neg h]
def yB:aB (aB H a o) a u=aB H a u:=by
 funext b;unfold aB;split<;>rfl
def sR{H:Hp}(h:H a=some o)(h':H b=some u)(d:o≠u):a≠b:=by
 intro e;subst e;rw[h]at h';exact d (Mf h')
def E8{H:Hp}(h:H a=some o)(h':H b=none):a≠b:=by
 intro e;subst e;rw[h]at h';cases h'
section
variable(P:LK)(w:Mv)
def aF(H:Hp)(h:Heap)(a:Addr):HO->Prop
 | .lst d=>d.length<=sizeLine/\∃(b:List Ll)(n:Nat),aA d b/\h.get? a=some { cls:=.type "list",data:=.seq b.toArray n }
 | .tup d=>d.length<=sizeLine/\∃b:List Ll,aA d b/\UY h a b.toArray
 | .dK c=>c.length<=sizeLine/\(a == sysModules)=false/\∃l,KV c l/\h.DictOf (K3 P w) a l
 | .dT c=>c.length<=sizeLine/\(a == sysModules)=false/\∃d:List (List Key×Addr×Ll),
  Paired (λ(p:List Key×V) (q:List Key×Addr×Ll)=>p.1=q.1/\H q.2.1=some (.tup (p.1.map kV))/\RelV p.2 q.2.2) c d/\
  ∃o m y,h.get? a=some o/\o.ExactDict/\o.data=.dict m y/\m.toList=d.map (entryOfKey (tupleKind (K3 P w)))/\(d.map (·.1)).Nodup
 | .set S n=>h.SetOf (intKind P w) a S n
 | .ins C i fs=>H i=some (.own a)/\fs.length<=1000/\i≠a/\h.get? a=some (Oh C i)/\
  ∃g,h.Ns1 i g/\(∀f,bT (fs.lookup f) (g f))/\RF g (fs.map (·.1))
 | .own _=>∃o,h.get? a=some o
 | .xd fs=>∃g,h.Ns1 a g/\∀f,bT (fs.lookup f) (g f)
 | .rng lo z=>∃t u v,h.get? a=some { cls:=.type "range",data:=.fields #[.int lo t,.int z u,.int 1 v] }
 | .frz o u=>h.get? a=some o/\aF H h a u
 | .tbl A=>h.get? a=some { cls:=.none,data:=.fields A }
 | .met f x=>h.get? a=some (PySem.W.methodObj (.ref f) (.ref x))
 | .ext j=>j h/\(∃o,h.get? a=some o)/\∀r s:Heap,j r->(∀o,r.get? a=some o->s.get? a=some o)->j s
def bV(H:Hp)(h:Heap):Prop:=∀a o,H a=some o->aF P w H h a o
end
def aF.lt(x:aF P w H h a o):a<h.objs.size:=by
 cases o with
 | lst c=>obtain⟨_,_,_,_,e⟩:=x;exact Lr e
 | tup c=>obtain⟨_,_,_,p⟩:=x;exact p.lt
 | dK b=>obtain⟨_,_,_,_,o,_,_,e,_⟩:=x;exact Lr e
 | dT b=>obtain⟨_,_,_,_,o,_,_,e,_⟩:=x;exact Lr e
 | set S n=>obtain⟨o,_,_,_,e,_⟩:=x;exact Lr e
 | ins C d fs=>obtain⟨_,_,_,e,_⟩:=x;exact Lr e
 | own y=>obtain⟨_,e⟩:=x;exact Lr e
 | xd fs=>obtain⟨_,⟨_,_,_,e,_⟩,_⟩:=x;exact Lr e
 | rng lo g=>obtain⟨_,_,_,e⟩:=x;exact Lr e
 | frz i u=>obtain⟨e,_⟩:=x;exact Lr e
 | tbl j=>exact Lr (show h.get? a=some _ from x)
 | met f y=>exact Lr (show h.get? a=some _ from x)
 | ext l=>obtain⟨_,⟨_,e⟩,_⟩:=x;exact Lr e
def Paired.mapP{d e:Type}{F G:d->e->Prop}:∀{c:List d}{l₂:List e},Paired F c l₂->(∀a b,F a b->G a b)->Paired G c l₂:=by
 intro c l₂ h f;induction h with
 | nil=>exact .nil
 | cons r _ ih=>exact .cons (f _ _ r) ih
def aF.stay(x:aF P w H h a o)(k:∀b u,(b=a\/H b=some (.own a))->h.get? b=some u->h'.get? b=some u)
 (D:∀b,H b=some (.own a)->H' b=some (.own a)) (E:∀b m,H b=some (.tup m)->H' b=some (.tup m)):aF P w H' h' a o:=by
 induction o with
 | lst m=>obtain⟨z,l,n,r,e⟩:=x;exact⟨z,l,n,r,k _ _ (.inl rfl) e⟩
 | tup m=>obtain⟨z,l,r,g,e,c⟩:=x;exact⟨z,l,r,g,k _ _ (.inl rfl) e,c⟩
 | dK s=>obtain⟨z,y,G,r,g,i,j,e,c⟩:=x;exact⟨z,y,G,r,g,i,j,k _ _ (.inl rfl) e,c⟩
 | dT s=>
   obtain⟨z,y,m,r,g,i,j,e,c⟩:=x;exact⟨z,y,m,Paired.mapP r λp q z=>⟨z.1,E _ _ z.2.1,z.2.2⟩,g,i,j,k _ _ (.inl rfl) e,c⟩
 | set S n=>obtain⟨g,i,j,t,e,c⟩:=x;exact⟨g,i,j,t,k _ _ (.inl rfl) e,c⟩
 | ins C J fs=>
   obtain⟨d,z,ne,e,A,⟨B,i,j,I,c⟩,r⟩:=x;exact⟨D _ d,z,ne,k _ _ (.inl rfl) e,A,⟨B,i,j,k _ _ (.inr d) I,c⟩,r⟩
 | own y=>obtain⟨g,e⟩:=x;exact⟨g,k _ _ (.inl rfl) e⟩
 | xd fs=>obtain⟨A,⟨B,i,j,e,c⟩,r⟩:=x;exact⟨A,⟨B,i,j,k _ _ (.inl rfl) e,c⟩,r⟩
 | rng lo L=>obtain⟨t,u,v,e⟩:=x;exact⟨t,u,v,k _ _ (.inl rfl) e⟩
 | frz g u ih=>obtain⟨e,q⟩:=x;exact⟨k _ _ (.inl rfl) e,ih q⟩
 | tbl N=>
   have e:=x;exact k a _ (.inl rfl) e
 | met f y=>
   have e:=x;exact k a _ (.inl rfl) e
 | ext O=>obtain⟨p,⟨o,e⟩,st⟩:=x;exact⟨st _ _ p λo q=>k _ _ (.inl rfl) q,⟨o,k _ _ (.inl rfl) e⟩,st⟩
def bV.lt(x:bV P w H h)(e:H a=some o):a<h.objs.size:=(x a o e).lt
def bV.fresh(x:bV P w H h)(e:h.objs.size<=a):H a=none:=by
 cases q:H a with
 | none=>rfl
 | some u=>exact absurd (LI (x.lt q) e) (NP _)
def bV.kept(x:bV P w H h)(k:∀b u,h.get? b=some u->h'.get? b=some u):bV P w H h':=λa o e=>
 (x a o e).stay (λb u _ q=>k b u q) (λ_ q=>q) λ_ _ q=>q
def bV.laid(x:bV P w H h)(k:∀b u,h.get? b=some u->h'.get? b=some u)(g:h.objs.size<=a)(new:aF P w (aB H a o) h' a o):bV P w (aB H a o) h':=λb u e=>by
 have d:=x.fresh g;by_cases f:b=a
 .subst f;rw[C2]at e;cases e;exact new
 .rw[aj f]at e;exact(x b u e).stay (λc v _ q=>k c v q) (λc q=>by rw[aj (E8 q d)];exact q) λc i q=>by rw[aj (E8 q d)];exact q
def Rd(H:Hp)(a:Addr)(u:HO):Prop:=H a=some u\/∃o,H a=some (.frz o u)
def Rd.ok(r:Rd H a u)(x:bV P w H h):aF P w H h a u:=by
 rcases r with r | ⟨o,r⟩
 .exact x a u r
 .obtain⟨_,q⟩:=x a _ r;exact q
def lx:Option HO->Prop
 | some (.lst _)=>True
 | some (.dK _)=>True
 | some (.dT _)=>True
 | some (.set _ _)=>True
 | some (.ins _ _ _)=>True
 | some (.ext _)=>True
 | _=>False
def bV.write(ok:bV P w H h)(g:lx (H x))(he:e=x\/H e=some (.own x))(k:∀b u,b≠e->h.get? b=some u->h'.get? b=some u)(m:∃u,h'.get? e=some u)
 (new:aF P w (aB H x o') h' x o'):bV P w (aB H x o') h':=λb u q=>by
 have d:∀c y,H c=some (.own y)->c≠x:=λc y r z=>by subst z;rw[r]at g;exact g
 have f:∀c i,H c=some (.tup i)->c≠x:=λc i r z=>by subst z;rw[r]at g;exact g
 by_cases j:b=x
 .subst j;rw[C2]at q;cases q;exact new
 .rw[aj j]at q;by_cases a:b=e
  .have n:H b=some (.own x):=by
    rcases he with z | z
    .exact absurd (a.trans z) j
    .rw[a];exact z
   rw[q]at n;cases n;obtain⟨v,o⟩:=m;exact⟨v,by rw[a];exact o⟩
  .refine(ok b u q).stay (λc v l r=>k c v ?_ r) (λc r=>by rw[aj (d c b r)];exact r) λc i r=>by rw[aj (f c i r)];exact r
   rcases l with rfl | l
   .exact a
   .rintro rfl;rcases he with z | z
    .exact d c b l z
    .rw[l]at z;cases z;exact j rfl
structure Un(fs ex:List Addr)(H H':Hp)(h h':Heap):Prop where
 keep:∀b o,h.get? b=some o->H b=none->b∉fs->b∉ex->h'.get? b=some o
 slot:∀b o,h.get? b=some o->H b=none->b∈fs->b∉ex->∃sl,h'.get? b=some { o with slots:=sl }
 free:∀b o,h.get? b=some o->H b=none->b∉ex->H' b=none
 there:∀b o,h.get? b=some o->b∉ex->∃o',h'.get? b=some o'
 tups:∀b xs,H b=some (.tup xs)->H' b=some (.tup xs)
 frzs:∀b o u,H b=some (.frz o u)->H' b=some (.frz o u)
 tbls:∀b ps,H b=some (.tbl ps)->∃more,H' b=some (.tbl (ps++more))
def Un.any(u:Un fs ex H H1 h h1)(q:h.get? b=some ob)(n:H b=none)(c:b∉ex):∃f,h1.get? b=some { ob with slots:=f }:=by
 by_cases d:b∈fs
 .exact u.slot b ob q n d c
 .exact⟨ob.slots,u.keep b ob q n d c⟩
def Un.trans(a:Un fs ex H H1 h h1)(b:Un fs ex H1 H2 h1 h2):Un fs ex H H2 h h2 where
 keep:=λc ob q n hc hx=>b.keep c ob (a.keep c ob q n hc hx) (a.free c ob q n hx) hc hx
 slot:=λc ob q n hc hx=>by
  obtain⟨sl,e1⟩:=a.slot c ob q n hc hx;obtain⟨sl',e2⟩:=b.slot c _ e1 (a.free c ob q n hx) hc hx;exact⟨sl',e2⟩
 free:=λc ob q n hx=>by
  obtain⟨o',e1⟩:=a.there c ob q hx;exact b.free c o' e1 (a.free c ob q n hx) hx
 there:=λc ob q hx=>by
  obtain⟨o',e1⟩:=a.there c ob q hx;exact b.there c o' e1 hx
 tups:=λc xs q=>b.tups c xs (a.tups c xs q)
 frzs:=λc ob xs q=>b.frzs c ob xs (a.frzs c ob xs q)
 tbls:=λc ps q=>by
  obtain⟨m1,e1⟩:=a.tbls c ps q;obtain⟨m2,e2⟩:=b.tbls c _ e1;exact⟨m1++m2,by rw[e2,RG]⟩
def Un.kept(k:∀b u,h.get? b=some u->h'.get? b=some u):Un fs ex H H h h':=
 ⟨λb c q _ _ _=>k b c q,λb c q _ _ _=>⟨c.slots,k b c q⟩,λ_ _ _ n _=>n,λb c q _=>⟨c,k b c q⟩,λ_ _ q=>q,λ_ _ _ q=>q,λ_ d q=>⟨#[],by rw[q];simp⟩⟩
def Un.refl:Un fs ex H H h h:=Un.kept λ_ _ q=>q
def Un.laid(k:∀b u,h.get? b=some u->h'.get? b=some u)(hp:h.objs.size<=a)(hn:H a=none):Un fs ex H (aB H a o) h h' where
 keep:=λb u q _ _ _=>k b u q
 slot:=λb u q _ _ _=>⟨u.slots,k b u q⟩
 free:=λb u q n _=>by rw[aj (Ly (LI (Lr q) hp))];exact n
 there:=λb u q _=>⟨u,k b u q⟩
 tups:=λb xs q=>by rw[aj (E8 q hn)];exact q
 frzs:=λb u xs q=>by rw[aj (E8 q hn)];exact q
 tbls:=λb ps q=>⟨#[],by rw[aj (E8 q hn),q];simp⟩
def Un.write(d:lx (H x))(he:e=x\/H e=some (.own x))(k:∀b u,b≠e->h.get? b=some u->h'.get? b=some u)(f:∃u,h'.get? e=some u):Un fs ex H (aB H x o) h h':=by
 have i:∀b,H b=none->b≠x:=λb n z=>by subst z;rw[n]at d;exact d
 have j:∀b,H b=none->b≠e:=λb n z=>by
  subst z;rcases he with r | r
  .exact i b n r
  .rw[n]at r;cases r
 have g:∀b u,H b=some u->¬lx (some u)->b≠x:=λb u q l z=>by subst z;rw[q]at d;exact l d
 refine⟨λb u q n _ _=>k b u (j b n) q,λb u q n _ _=>⟨u.slots,k b u (j b n) q⟩,λb u q n _=>by rw[aj (i b n)];exact n,λb u q _=>?_,
  λb m q=>by rw[aj (g b _ q λz=>z)];exact q,λb u m q=>by rw[aj (g b _ q λz=>z)];exact q,λb p q=>⟨#[],by rw[aj (g b _ q λz=>z),q];simp⟩⟩
 by_cases c:b=e
 .subst c;exact f
 .exact⟨u,k b u c q⟩
def Un.mono(u:Un fs ex H H1 h h1)(hs:∀b∈fs,b∈fs')(f:∀b∈ex,b∈ex'):Un fs' ex' H H1 h h1:=
 ⟨λb d q n g c=>u.keep b d q n (λz=>g (hs b z)) λz=>c (f b z),λ_ _ q n _ c=>u.any q n λz=>c (f _ z),λb d q n c=>u.free b d q n λz=>c (f b z),λb d q c=>u.there b d q λz=>c (f b z),u.tups,u.frzs,u.tbls⟩
noncomputable def sS(h:Heap)(H:Hp):List Addr:=(Mo h.objs.size).filter λa=>(H a).isSome
noncomputable def kD(h:Heap)(H:Hp):Heap:=PySem.W.hideAll h (sS h H)
def yC(h:Heap)(H:Hp):(kD h H).objs.size=h.objs.size:=PySem.W.hideAll_size _ _
def yD(e:h.get? b=some o)(n:H b=none):(kD h H).get? b=some o:=
 PySem.W.hideAll_get _ e λa=>by
  have q:=(Mg.mp a).2;rw[n]at q;simp at q
def yE(e:(kD h H).get? b=some o):h.get? b=some o/\H b=none:=by
 have a:=PySem.W.of_hideAll _ e;refine⟨a,?_⟩;cases q:H b with
 | none=>rfl
 | some x=>
   have c:b∈sS h H:=Mg.mpr ⟨Nn.mpr (Lr a),by simp[q]⟩;have z:(kD h H).get? b=none:=PySem.W.hideAll_none _ c;rw[z]at e;cases e
structure Mod(K:Lm)(mg:Str->Option Ll)(base:Heap):Prop where
 kin:K.In base
 glob:base.Ns mainGlobals mg
 blt:∃mb,base.Ns builtinsNs mb/\∀x:Str,x≠"__name__"->mb x=bootBuiltins x
 nolimit:base.NoLimit
structure Cx where
 prog:LK
 w:Mv
 K:Lm
 mg:Str->Option Ll
 base:Heap
 A:Mq
 N:List Str
 s₀:Ln
 H₀:Hp
 env:Env
 outer:List Env
 stack:List Env
 ex:List Addr
 fn:Str->Bool
 calm:Bool
 pn:List (Addr×Obj)
 xe:Ll->Ln->Prop
noncomputable def frs(l:List Env):List Addr:=l.filterMap (·.frame)
abbrev Cx.fs(X:Cx):List Addr:=frs X.outer
def jd(a:Si)(x:Str):Prop:=a.names.lookup x=some .local\/a.names.lookup x=some .cell\/a.names.lookup x=some .free
def Loc(a:Si)(x:Str):Prop:=a.names.lookup x=some .local\/a.names.lookup x=some .cell
def sT(a:Env)(h:Heap)(m:Str->Option Ll)(x:Str)(u:Ll):Prop:=
 (a.kindOf x=some .local/\m x=some u)\/((a.kindOf x=some .cell\/a.kindOf x=some .free)/\∃c,a.cells.lookup x=some c/\h.IsCell c (some u))
structure Cx.Ok(X:Cx):Prop where
 mod:Mod X.K X.mg X.base
 kind:X.env.scope.kind=.function
 glob:X.env.globals=mainGlobals
 blt:X.env.builtins=builtinsNs
 above:X.s₀.heap.objs.size<=X.env.locals
 inj:∀x y c,X.env.cells.lookup x=some c->X.env.cells.lookup y=some c->x=y
 has:∀x,(X.env.kindOf x=some .cell\/X.env.kindOf x=some .free)->∃c,X.env.cells.lookup x=some c
 cab:∀x c,X.fn x=true->X.env.cells.lookup x=some c->X.s₀.heap.objs.size<=c
 hd:X.calm=true->X.A.handled=none
 frames:X.A.frames=some X.stack
 stk:X.stack=X.outer\/(X.stack=X.env::X.outer/\X.env.frame=some X.env.locals)
 exf:∀b∈X.ex,b≠X.env.locals/\∀x c,X.env.cells.lookup x=some c->c≠b
 bs:∀b o,X.base.get? b=some o->X.s₀.heap.get? b=some o/\X.H₀ b=none
 bsz:X.base.objs.size<=X.s₀.heap.objs.size
 noex:∀b o,X.base.get? b=some o->b∉X.ex
 exfs:∀b∈X.ex,b∉X.fs
 funs:X.s₀.heap.FunFrames X.base X.outer
 frf:∀b∈X.fs,X.H₀ b=none
structure Inv(X:Cx)(pins:List (Addr×Obj))(σ:List (Option V))(H:Hp)(s:Ln):Prop where
 ok:X.Ok
 os:s.os=X.s₀.os
 bare:Sj s.gens
 base:Un X.fs X.ex X.H₀ H X.s₀.heap s.heap
 loc:∃m,s.heap.Ns X.env.locals m/\∀(i:Nat)(x:Str)(v:V),X.N[i]?=some x->σ[i]?=some (some v)->jd X.env.scope x->∃u,RelV v u/\sT X.env s.heap m x u
 cell:∀x c,X.env.cells.lookup x=some c->∃v,s.heap.IsCell c v
 free:H X.env.locals=none
 freeC:∀x c,X.env.cells.lookup x=some c->H c=none
 pin:∀p∈X.pn++pins,s.heap.get? p.1=some p.2/\H p.1=none/\p.1≠X.env.locals/\p.1∉X.fs/\∀v,p.2.data≠.cell v
 hok:bV X.prog X.w H s.heap
 len:σ.length=X.N.length
def Cx.Ok.nofr{X:Cx}(ok:X.Ok)(e:X.base.get? b=some o):b∉X.fs:=λa=>by
 have:=(ok.funs.mem a).1;rw[e]at this;cases this
def Inv.bs(I:Inv X pins σ H s):∀b o,X.base.get? b=some o->s.heap.get? b=some o/\H b=none:=λb o e=>
 ⟨I.base.keep b o (I.ok.bs b o e).1 (I.ok.bs b o e).2 (I.ok.nofr e) (I.ok.noex b o e),I.base.free b o (I.ok.bs b o e).1 (I.ok.bs b o e).2 (I.ok.noex b o e)⟩
def Inv.bk(I:Inv X pins σ H s):∀b o,X.base.get? b=some o->s.heap.get? b=some o:=λb o e=>(I.bs b o e).1
def Inv.mod(I:Inv X pins σ H s):Mod X.K X.mg X.base:=I.ok.mod
def Inv.kIn(I:Inv X pins σ H s):X.K.In s.heap:=I.ok.mod.kin.keeps I.bk
def Inv.lt(I:Inv X pins σ H s):X.env.locals<s.heap.objs.size:=let⟨_,a,_⟩:=I.loc;a.lt
def Inv.sz(I:Inv X pins σ H s):X.s₀.heap.objs.size<=s.heap.objs.size:=LW I.ok.above (RH I.lt)
def Inv.nofs(I:Inv X pins σ H s)(h:s.heap.objs.size<=a):a∉X.fs:=λb=>by
 obtain⟨_,o,c,_⟩:=I.ok.funs.mem b;exact absurd (LI (Lr c) (LW I.sz h)) (NP _)
def Inv.cne(I:Inv X pins σ H s):∀x c,X.env.cells.lookup x=some c->c≠X.env.locals:=λx c e z=>by
 obtain⟨v,o,d,f⟩:=I.cell x c e;obtain⟨m,⟨g,h,i,a,b,_⟩,_⟩:=I.loc;rw[z,a]at d;cases d;rw[b]at f;cases f
def Inv.funs(I:Inv X pins σ H s):s.heap.FunFrames X.base X.outer:=by
 have all:∀(l:List Env),(∀b∈frs l,b∈X.fs)->X.s₀.heap.FunFrames X.base l->s.heap.FunFrames X.base l:=by
  intro l;induction l with
  | nil=>intro _ _;trivial
  | cons g r ih=>
    intro f h;obtain⟨i,⟨L,o,a,j,m,n⟩,p⟩:=h;have c:=f L (by unfold frs;rw[Oi,a];exact Lz);obtain⟨q,e⟩:=I.base.slot L o m (I.ok.frf L c) c λz=>I.ok.exfs L z c;exact⟨i,⟨L,_,a,j,e,n⟩,ih (λb d=>f b (by unfold frs;rw[Oi,a];exact LC _ d)) p⟩
 exact all _ (λ_ d=>d) I.ok.funs
def Inv.stack(I:Inv X pins σ H s):s.heap.FunFrames X.base X.stack:=by
 rcases I.ok.stk with e | ⟨e,a⟩
 .rw[e];exact I.funs
 .rw[e];obtain⟨m,b,_⟩:=I.loc;refine .cons (by rw[I.ok.kind];decide) a b ?_ I.funs;exact Heap.get?_none_of_le (LW I.ok.bsz I.ok.above)
def Inv.stkSub(I:Inv X pins σ H s):∀b∈frs X.stack,b∈X.env.locals::X.fs:=λb a=>by
 rcases I.ok.stk with e | ⟨e,c⟩
 .rw[e]at a;exact LC _ a
 .rw[e]at a;unfold frs at a;rw[Oi,c]at a;exact a
def Inv.stkFree(I:Inv X pins σ H s):∀b∈frs X.stack,H b=none:=λb a=>by
 rcases Lu.mp (I.stkSub b a)with e | a
 .rw[e];exact I.free
 .obtain⟨_,o,c,_⟩:=I.ok.funs.mem a;exact I.base.free b o c (I.ok.frf b a) λz=>I.ok.exfs b z a
def Inv.step{ch:List Addr}(I:Inv X pins σ H s)
 (g:∀b∈ch,(b∈X.ex\/X.s₀.heap.objs.size<=b)/\b≠X.env.locals/\(∀x c,X.env.cells.lookup x=some c->c≠b)/\∀p∈X.pn++pins,p.1≠b)
 (keep:∀b o,b≠X.env.locals->b∉X.fs->b∉ch->s.heap.get? b=some o->H b=none->h'.get? b=some o)
 (slot:∀b o,b≠X.env.locals->b∈X.fs->b∉ch->s.heap.get? b=some o->H b=none->∃Y,h'.get? b=some { o with slots:=Y }) (f:∀b o,b∉ch->s.heap.get? b=some o->H b=none->H' b=none)
 (C:∀b o,b∉ch->s.heap.get? b=some o->∃G,h'.get? b=some G)
 (J:∀b B,H b=some (.tup B)->H' b=some (.tup B)) (L:∀b o u,H b=some (.frz o u)->H' b=some (.frz o u)) (N:∀b U,H b=some (.tbl U)->∃O,H' b=some (.tbl (U++O)))
 (ns:∀m,s.heap.Ns X.env.locals m->h'.Ns X.env.locals m) (a0:bV X.prog X.w H' h') (hg:Sj g') :
 Inv X pins σ H' { s with heap:=h',gens:=g',drawn:=d',toks:=t' }:=by
 have Q:∀b o,X.s₀.heap.get? b=some o->b≠_:=λb o e=>Ly (LI (Lr e) I.ok.above);have y:∀b o,X.s₀.heap.get? b=some o->b∉X.ex->b∉ch:=λb o e a D=>by
  rcases(g b D).1 with z | z
  .exact a z
  .exact absurd (LI (Lr e) z) (NP _)
 have h:∀x c,X.env.cells.lookup x=some c->∀v,s.heap.IsCell c v->h'.IsCell c v:=λx c e v hq=>by
  obtain⟨o,E,hd⟩:=hq;have j:=λz=>(g c z).2.2.1 x c e rfl;by_cases hc:c∈X.fs
  .obtain⟨Y,q⟩:=slot c o (I.cne x c e) hc j E (I.freeC x c e);exact⟨_,q,hd⟩
  .exact⟨o,keep c o (I.cne x c e) hc j E (I.freeC x c e),hd⟩
 refine⟨I.ok,I.os,hg,⟨λb o e n D a=>?_,λb o e n D a=>?_,λb o e n a=>?_,λb o e a=>?_,λb B e=>J b B (I.base.tups b B e),λb o B e=>L b o B (I.base.frzs b o B e),λb U e=>?_⟩,?_,λx c e=>?_,?_,λx c e=>?_,λp hp=>?_,a0,I.len⟩
 .exact keep b o (Q b o e) D (y b o e a) (I.base.keep b o e n D a) (I.base.free b o e n a)
 .obtain⟨Y,A⟩:=I.base.slot b o e n D a;obtain⟨a2,T⟩:=slot b _ (Q b o e) D (y b o e a) A (I.base.free b o e n a);exact⟨a2,T⟩
 .obtain⟨G,A⟩:=I.base.there b o e a;exact f b G (y b o e a) A (I.base.free b o e n a)
 .obtain⟨G,A⟩:=I.base.there b o e a;exact C b G (y b o e a) A
 .obtain⟨m1,A⟩:=I.base.tbls b U e;obtain⟨m2,T⟩:=N b _ A;exact⟨m1++m2,by rw[T,RG]⟩
 .obtain⟨m,hn,hl⟩:=I.loc;refine⟨m,ns m hn,λi x v A T e3=>?_⟩;obtain⟨u,r,l⟩:=hl i x v A T e3;refine⟨u,r,?_⟩;rcases l with l | ⟨k,c,e,z⟩
  .exact .inl l
  .exact .inr ⟨k,c,e,h x c e _ z⟩
 .obtain⟨v,z⟩:=I.cell x c e;exact⟨v,h x c e v z⟩
 .obtain⟨m,⟨o,_,_,E,_⟩,_⟩:=I.loc;exact f _ o (λz=>(g _ z).2.1 rfl) E I.free
 .obtain⟨v,o,E,hd⟩:=I.cell x c e;exact f c o (λz=>(g c z).2.2.1 x c e rfl) E (I.freeC x c e)
 .obtain⟨e,n,ne,nf,d⟩:=I.pin p hp;have j:=λz=>(g p.1 z).2.2.2 p hp rfl;exact⟨keep p.1 p.2 ne nf j e n,f p.1 p.2 j e n,ne,nf,d⟩
def Inv.un(I:Inv X pins σ H s)(u:Un X.fs [] H H' s.heap h')(c:bV X.prog X.w H' h'):Inv X pins σ H' { s with heap:=h',toks:=t' }:=by
 obtain⟨m,⟨o,v,x,j,r⟩,_⟩:=id I.loc;obtain⟨y,l⟩:=u.any j I.free (by simp);exact I.step (g':=_) (ch:=[]) nofun (λb o _ d _ e n=>u.keep b o e n d nofun) (λb o _ d _ e n=>u.slot b o e n d nofun) (λb o _ e n=>u.free b o e n nofun) (λb o _ e=>u.there b o e nofun) u.tups u.frzs u.tbls (λz p=>by
  obtain⟨A,f,g,a,q⟩:=p;rw[j]at a;cases a;exact⟨_,f,g,l,q⟩) c I.bare
def Inv.call(I:Inv X pins σ H s)(u:Un (frs X.stack) ch H H' s.heap h')(g:bV X.prog X.w H' h')(A:Sj g')
 (d:∀b∈ch,(b∈X.ex\/X.s₀.heap.objs.size<=b)/\b≠X.env.locals/\(∀x c,X.env.cells.lookup x=some c->c≠b)/\∀p∈X.pn++pins,p.1≠b) :
 Inv X pins σ H' { s with heap:=h',gens:=g',drawn:=d',toks:=t' }:=by
 obtain⟨m,⟨o,E,G,y,r⟩,_⟩:=id I.loc;obtain⟨J,h⟩:=u.any y I.free λz=>(d _ z).2.1 rfl;exact I.step d (λb o h B a e n=>u.keep b o e n (λz=>(Lu.mp (I.stkSub b z)).elim h B) a) (λb o _ _ a e n=>u.any e n a) (λb o a e n=>u.free b o e n a) (λb o a e=>u.there b o e a) u.tups u.frzs u.tbls (λL C=>by
  obtain⟨N,i,j,f,D⟩:=C;rw[y]at f;cases f;exact⟨_,i,j,h,D⟩) g A
def Inv.turned(I:Inv X pins σ H s)(k:∀b o,b≠a->s.heap.get? b=some o->h'.get? b=some o)(j:H a=none)(g:a≠X.env.locals)
 (l:a∈X.ex\/X.s₀.heap.objs.size<=a) (w:∀x c,X.env.cells.lookup x=some c->c≠a) (y:∀p∈X.pn++pins,p.1≠a):Inv X pins σ H { s with heap:=h',toks:=t' }:=by
 have f:∀b u,H b=some u->b≠a:=λb u e z=>by rw[z,j]at e;cases e
 refine I.step (ch:=[a]) (λb A=>?_) (λb o _ _ d e _=>k b o (λz=>d (by simp[z])) e) (λb o _ _ d e _=>⟨o.slots,k b o (λz=>d (by simp[z])) e⟩) (λ_ _ _ _ n=>n)
  (λb o d e=>⟨o,k b o (λz=>d (by simp[z])) e⟩) (λ_ _ e=>e) (λ_ _ _ e=>e) (λb G e=>⟨#[],by rw[e];simp⟩) (λm B=>?_) (λb u e=>?_) I.bare
 .have e:b=a:=by simpa using A
  subst e;exact⟨l,g,w,y⟩
 .obtain⟨o,C,D,E,r⟩:=B;exact⟨o,C,D,k _ o (Na g) E,r⟩
 .refine(I.hok b u e).stay (λc v d q=>k c v ?_ q) (λ_ q=>q) λ_ _ q=>q;rcases d with z | z
  .rw[z];exact f b u e
  .exact f c _ z
def Inv.tok(I:Inv X pins σ H s)(t:Nat):Inv X pins σ H { s with toks:=t }:=I.un Un.refl I.hok
def Inv.kept(I:Inv X pins σ H s)(k:∀b u,s.heap.get? b=some u->h'.get? b=some u):Inv X pins σ H { s with heap:=h',toks:=t' }:=I.un (Un.kept k) (I.hok.kept k)
def Inv.laid(I:Inv X pins σ H s)(k:∀b u,s.heap.get? b=some u->h'.get? b=some u)(c:s.heap.objs.size<=a)(new:aF X.prog X.w (aB H a o) h' a o) :
 Inv X pins σ (aB H a o) { s with heap:=h',toks:=t' }:=I.un (Un.laid k c (I.hok.fresh c)) (I.hok.laid k c new)
def Inv.write(I:Inv X pins σ H s)(c:lx (H x))(he:e=x\/H e=some (.own x))(k:∀b u,b≠e->s.heap.get? b=some u->h'.get? b=some u)(a:∃u,h'.get? e=some u)
 (new:aF X.prog X.w (aB H x o) h' x o):Inv X pins σ (aB H x o) { s with heap:=h',toks:=t' }:=I.un (Un.write c he k a) (I.hok.write c he k a new)
def Inv.pins_of(I:Inv X pins σ H s)(h:∀p∈a,s.heap.get? p.1=some p.2/\H p.1=none/\p.1≠X.env.locals/\p.1∉X.fs/\∀v,p.2.data≠.cell v):Inv X a σ H s:=
 ⟨I.ok,I.os,I.bare,I.base,I.loc,I.cell,I.free,I.freeC,λp b=>(LY.mp b).elim (λz=>I.pin p (ND _ z)) (h p),I.hok,I.len⟩
def pk{N:List Str}(c:N.Nodup){i j:Nat}(a:N[i]?=some x)(b:N[j]?=some x):i=j:=by
 obtain⟨f,d⟩:=LA.mp a;obtain⟨g,e⟩:=LA.mp b;exact(SH c).mp (d.trans e.symm)
def yF(I:Inv X pins σ H s)(hN:X.N.Nodup)(Y:X.N[i]?=some x)(C:Loc X.env.scope x)(r:RelV v u)
 (h:∀s',Inv X pins (σ.set i (some v)) H s'->(∃a,MA a s.heap s'.heap/\(a=X.env.locals\/X.env.cells.lookup x=some a))->Q () s') (hf:autoParam (X.fn x=true\/X.env.scope.names.lookup x=some .local) au3._auto_1):wpAny M A (storeName X.env x u) Q E s:=by
 obtain⟨m,hn,hl⟩:=id I.loc;have a0:(X.env.scope.kind == .class||(X.env.scope.kind == .module&&X.env.locals != X.env.globals))=false:=by rw[I.ok.kind];rfl
 have J:i<σ.length:=by rw[I.len];exact(LA.mp Y).1
 have cne:=I.cne;have g:∀{a:Addr}{h':Heap},(∃o,s.heap.get? a=some o/\H a=none)->MA a _ h'->bV _ X.w H h':=λ{a h'} ha f b ob e=>by
  obtain⟨_,_,D⟩:=ha;refine(I.hok b ob e).stay (λc w' B q=>(f.2 c ?_).trans q) (λ_ q=>q) λ_ _ q=>q;rintro rfl;rcases B with rfl | B
  .rw[D]at e;cases e
  .rw[D]at B;cases B
 rcases C with L | L
 .refine wpAny_storeName_local L hn (λh' a9 f=>?_) a0;obtain⟨oL,_,_,b0,_⟩:=id hn;refine h _ ⟨I.ok,I.os,I.bare,⟨λb o e n O C=>?_,λb o e n O C=>?_,I.base.free,λb o e C=>?_,I.base.tups,I.base.frzs,I.base.tbls⟩,⟨_,a9,λj y v' l G e3=>?_⟩,λy c e=>?_,I.free,I.freeC,λp hp=>?_,g ⟨oL,b0,I.free⟩ f,by simpa using I.len⟩ ⟨_,f,.inl rfl⟩
  .exact(f.2 b (Ly (LI (Lr e) I.ok.above))).trans (I.base.keep b o e n O C)
  .obtain⟨sl,l⟩:=I.base.slot b o e n O C;exact⟨sl,(f.2 b (Ly (LI (Lr e) I.ok.above))).trans l⟩
  .obtain⟨o',l⟩:=I.base.there b o e C;exact⟨o',(f.2 b (Ly (LI (Lr e) I.ok.above))).trans l⟩
  .by_cases T:j=i
   .subst T;rw[Y]at l;cases l;rw[NH J]at G;cases G;exact⟨u,r,.inl ⟨L,by simp⟩⟩
   .rw[MG (Na T)]at G;obtain⟨u',r',q⟩:=hl j y v' l G e3;refine⟨u',r',?_⟩;rcases q with⟨k,e⟩ | ⟨k,c,e,z⟩
    .refine .inl ⟨k,?_⟩;have:y≠x:=λe=>T (pk hN l (e ▸ Y));simp[this,e]
    .exact .inr ⟨k,c,e,z.sameBut f (cne y c e)⟩
  .obtain⟨w',z⟩:=I.cell y c e;exact⟨w',z.sameBut f (cne y c e)⟩
  .obtain⟨e,n,ne,nf,d⟩:=I.pin p hp;exact⟨(f.2 p.1 ne).trans e,n,ne,nf,d⟩
 .have U:X.fn x=true:=by
   rcases hf with z | z
   .exact z
   .rw[z]at L;cases L
  obtain⟨c,B⟩:=I.ok.has x (.inl L);obtain⟨w',z⟩:=I.cell x c B;refine wpAny_storeName_cell I.ok.kind L B z (λh' a1 f=>?_);obtain⟨oc,a2,a3⟩:=id z;refine h { s with heap:=h' } ⟨I.ok,I.os,I.bare,⟨λb o e n O C=>?_,λb o e n O C=>?_,I.base.free,λb o e C=>?_,I.base.tups,I.base.frzs,I.base.tbls⟩,⟨m,hn.sameBut f (Na (cne x c B)),λj y v' l G e3=>?_⟩,λy c' e=>?_,I.free,I.freeC,λp hp=>?_,g ⟨oc,a2,I.freeC x c B⟩ f,by simpa using I.len⟩ ⟨c,f,.inr B⟩
  .exact(f.2 b (Ly (LI (Lr e) (I.ok.cab x c U B)))).trans (I.base.keep b o e n O C)
  .obtain⟨sl,l⟩:=I.base.slot b o e n O C;exact⟨sl,(f.2 b (Ly (LI (Lr e) (I.ok.cab x c U B)))).trans l⟩
  .obtain⟨o',l⟩:=I.base.there b o e C;exact⟨o',(f.2 b (Ly (LI (Lr e) (I.ok.cab x c U B)))).trans l⟩
  .by_cases T:j=i
   .subst T;rw[Y]at l;cases l;rw[NH J]at G;cases G;exact⟨u,r,.inr ⟨.inl L,c,B,a1⟩⟩
   .rw[MG (Na T)]at G;obtain⟨u',r',q⟩:=hl j y v' l G e3;refine⟨u',r',?_⟩;rcases q with q | ⟨k,c',e,z'⟩
    .exact .inl q
    .refine .inr ⟨k,c',e,z'.sameBut f ?_⟩;rintro rfl;exact T (pk hN l (I.ok.inj _ _ _ e B ▸ Y))
  .by_cases a4:c'=c
   .subst a4;exact⟨_,a1⟩
   .obtain⟨w2,z2⟩:=I.cell y c' e;exact⟨w2,z2.sameBut f a4⟩
  .obtain⟨e,n,ne,nf,d⟩:=I.pin p hp;refine⟨(f.2 p.1 ?_).trans e,n,ne,nf,d⟩;intro q;rw[q,a2]at e;have q':=Mf e;exact d w' (by rw[<-q'];exact a3)
def W2(I:Inv X pins σ H s)(b:X.N.Nodup)(c:X.N[i]?=some x)(d:Loc X.env.scope x)(r:RelV v u)
 (h:∀a,Inv X pins (σ.set i (some v)) H a->Q () a) (e:autoParam (X.fn x=true\/X.env.scope.names.lookup x=some .local) au3._auto_1):wpAny M A (storeName X.env x u) Q E s:=
 yF I b c d r (λa f _=>h a f) e
def Inv.call'(I:Inv X pins σ H s)(g:a.os=s.os)(u:Un (frs X.stack) ch H H' s.heap a.heap)(d:bV X.prog X.w H' a.heap)(h:Sj a.gens)
 (f:∀b∈ch,(b∈X.ex\/X.s₀.heap.objs.size<=b)/\b≠X.env.locals/\(∀x c,X.env.cells.lookup x=some c->c≠b)/\∀p∈X.pn++pins,p.1≠b):Inv X pins σ H' a:=by
 obtain⟨h',i,j,l,m⟩:=a;have e:=g;subst e;exact I.call u d h f
abbrev XK:=Ll->Option Addr->Hp->Prop
abbrev St:=List (Option V)
abbrev VK:=V->Hp->Prop
abbrev TE:=St->Hp->VK->Prop
abbrev TT:=St->Hp->(Bool->Hp->Prop)->Prop
abbrev TA:=St->Hp->(List V->Hp->Prop)->Prop
structure u9 where
 nx:St->Hp->Prop
 rt:VK
 bk:St->Hp->Prop:=λ_ _=>False
 ct:St->Hp->Prop:=λ_ _=>False
abbrev TS:=u9->St->Hp->Prop
inductive EP (X:Cx) (pins:List (Addr×Obj)) (σ:St) (Q:VK) (u:Ll) (s':Ln):Prop
 | mk (v) (H') (h0:Inv X pins σ H' s') (h1:RelV v u) (h2:Q v H'):EP X pins σ Q u s'
inductive TP (X:Cx) (pins:List (Addr×Obj)) (σ:St) (Q:Bool->Hp->Prop) (b:Bool) (s':Ln):Prop
 | mk (H') (h0:Inv X pins σ H' s') (h1:Q b H'):TP X pins σ Q b s'
inductive AP (X:Cx) (pins:List (Addr×Obj)) (σ:St) (Q:List V->Hp->Prop) (us:List Ll) (s':Ln):Prop
 | mk (vs) (H') (h0:Inv X pins σ H' s') (h1:aA vs us) (h2:Q vs H'):AP X pins σ Q us s'
def SP(X:Cx)(b:List (Addr×Obj))(D:u9)(f:Flow)(d:Ln):Prop:=
 match f with
 | .next=>∃a c,Inv X b a c d/\D.nx a c
 | .brk=>∃a c,Inv X b a c d/\D.bk a c
 | .cont=>∃a c,Inv X b a c d/\D.ct a c
 | .ret u=>∃v a c,Inv X b a c d/\RelV v u/\D.rt v c
def PE(X:Cx)(e:Expr)(t:TE):Prop:=
 ∀(a:List (Addr×Obj))(s:Ln)(σ:St)(H:Hp)(Q:VK),Inv X a σ H s->t σ H Q->wpAny (model X.prog X.w) X.A (eval e X.env) (EP X a σ Q) X.xe s
def PT(X:Cx)(e:Expr)(t:TT):Prop:=
 ∀(a:List (Addr×Obj))(s:Ln)(σ:St)(H:Hp)(Q:Bool->Hp->Prop),Inv X a σ H s->t σ H Q->wpAny (model X.prog X.w) X.A (isTrue e X.env (eval e X.env)) (TP X a σ Q) X.xe s
def PW(X:Cx)(e:Expr)(t:TT):Prop:=
 ∀(whole:Sem Ll)(a:List (Addr×Obj))(s:Ln)(σ:St)(H:Hp)(Q:Bool->Hp->Prop),Inv X a σ H s->t σ H Q->wpAny (model X.prog X.w) X.A (isTrue e X.env whole) (TP X a σ Q) X.xe s
def PW.pt(h:PW X e t):PT X e t:=h _
def PA(X:Cx)(es:List Expr)(t:TA):Prop:=
 ∀(b:Pos)(a:List (Addr×Obj))(s:Ln)(σ:St)(H:Hp)(Q:List V->Hp->Prop),Inv X a σ H s->t σ H Q->wpAny (model X.prog X.w) X.A (spliced (backTo b (starEach es X.env))) (AP X a σ Q) X.xe s
def PS(X:Cx)(st:Stmt)(t:TS):Prop:=
 ∀(a:List (Addr×Obj))(s:Ln)(σ:St)(H:Hp)(D:u9),Inv X a σ H s->t D σ H->wpAny (model X.prog X.w) X.A (exec st X.env) (SP X a D) X.xe s
def bZ(X:Cx)(st:List Stmt)(t:TS):Prop:=
 ∀(a:List (Addr×Obj))(s:Ln)(σ:St)(H:Hp)(D:u9),Inv X a σ H s->t D σ H->wpAny (model X.prog X.w) X.A (execs st X.env) (SP X a D) X.xe s
def aI{b:Type}{t:Sem b}{Q c:b->Ln->Prop}(h:wpAny M A t Q E s)(d:∀a s,Q a s->c a s):wpAny M A t c E s:=Mp h d λ_ _ x=>x
section
variable{X:Cx}
def fE(i:Nat):TE:=λa H Q=>∃v,a[i]?=some (some v)/\Q v H
def tC(v:V):TE:=λ_ H Q=>Q v H
def yG(o:X.N[i]?=some x)(p:jd X.env.scope x)(g:autoParam ((x == ("__debug__" : Str))=false) au1._auto_1)(j:autoParam ((x == ("__classdict__" : Str))=false) au1._auto_1):PE X (.Name x f) (fE i):=by
 intro d s q H Q I h;obtain⟨v,e,h⟩:=h;obtain⟨m,w,y⟩:=I.loc;obtain⟨u,r,l⟩:=y i x v o e p;have fin:EP X d q Q u s:=⟨v,H,I,r,h⟩;rcases l with⟨b,z⟩ | ⟨b,c,n,a⟩
 .exact wpAny_Name (wpAny_loadName_local I.ok.kind b w z fin) g
 .rcases b with b | b
  .exact wpAny_Name (wpAny_loadName_cell I.ok.kind b n a fin) g
  .exact wpAny_Name (wpAny_loadName_free I.ok.kind b n a fin j) g
def sU{i j a}:PE X (.Constant (.int i) j a) (tC (.int i)):=λ_ _ _ H _ I h=>wpAny_Constant_int ⟨.int i,H,I.tok _,⟨_,rfl⟩,h⟩
def yH{b j a}:PE X (.Constant (.bool b) j a) (tC (.bl b)):=λ_ _ _ H _ I h=>Constant_bool ⟨.bl b,H,I,rfl,h⟩
def yI{j a}:PE X (.Constant .none j a) (tC .non):=λ_ _ _ H _ I h=>Uk ⟨.non,H,I,rfl,h⟩
def yJ{x j a}:PE X (.Constant (.str x) j a) (tC (.str x)):=λ_ _ _ H _ I h=>Calls.Constant_str ⟨.str x,H,I.tok _,⟨_,rfl⟩,h⟩
def Gl(X:Cx)(x:Str):Prop:=X.env.kindOf x=some .globalImplicit
def v7(I:Inv X a σ H s)(c:Gl X x)(d:X.mg x=some u)(h:Q u s)
 (e:autoParam ((x == ("__debug__" : Str))=false) au1._auto_1):wpAny (model X.prog X.w) X.A (eval (.Name x b) X.env) Q E s:=
 Ry I.ok.kind c (Calls.loadGlobal_global (by rw[I.ok.glob];exact I.mod.glob.keeps I.bk) d h) e
def S8(I:Inv X a σ H s)(c:Gl X x)(d:X.mg x=none)(e:bootBuiltins x=some u)(h:Q u s)
 (f:autoParam (x≠"__name__") au1._auto_1) (g:autoParam ((x == ("__debug__" : Str))=false) au1._auto_1):wpAny (model X.prog X.w) X.A (eval (.Name x b) X.env) Q E s:=by
 obtain⟨l,i,j⟩:=I.mod.blt;exact Ry I.ok.kind c (Calls.loadGlobal_builtin (by rw[I.ok.glob];exact I.mod.glob.keeps I.bk) d (by rw[I.ok.blt];exact i.keeps I.bk) ((j x f).trans e) h) g
def pw(b:Gl X x)(c:X.mg x=some u)(r:RelV v u)(d:autoParam ((x == ("__debug__" : Str))=false) au1._auto_1):PE X (.Name x a) (tC v):=
 λ_ _ _ H _ I h=>v7 I b c ⟨v,H,I,r,h⟩ d
def yK(b:Gl X x)(c:X.mg x=none)(d:bootBuiltins x=some u)(r:RelV v u)(e:autoParam (x≠"__name__") au1._auto_1)(f:autoParam ((x == ("__debug__" : Str))=false) au1._auto_1):PE X (.Name x a) (tC v):=
 λ_ _ _ H _ I h=>S8 I b c d ⟨v,H,I,r,h⟩ e f
variable{a b:Expr}{ta tb:TE}{pos:Pos}
def PC(X:Cx)(f:SG)(a b:Expr)(t:TE):Prop:=
 ∀(c:List (Addr×Obj))(s:Ln)(σ:St)(H:Hp)(Q:VK),Inv X c σ H s->t σ H Q->
  wpAny (model X.prog X.w) X.A (eval a X.env) (λv d=>wpAny (model X.prog X.w) X.A (eval b X.env) (λu e=>wpAny (model X.prog X.w) X.A (compareOp f v u) (EP X c σ Q) X.xe e) X.xe d) X.xe s
def yL(ta:TE):TE:=λc H Q=>ta c H λx d=>Q (.bl (decide (x=.non))) d
def yM(ta:TE):TE:=λc H Q=>ta c H λx d=>Q (.bl (!decide (x=.non))) d
def RelV.none_iff(r:RelV x v):(v == MZ)=decide (x=.non):=by
 cases x with
 | non=>cases r;rfl
 | bl _=>cases r;rfl
 | int _=>obtain⟨t,rfl⟩:=r;rfl
 | str _=>obtain⟨t,rfl⟩:=r;rfl
 | byt _=>obtain⟨t,rfl⟩:=r;rfl
 | flt _=>obtain⟨t,rfl⟩:=r;rfl
 | ref _=>cases r;rfl
 | ty _=>cases r;rfl
def yN{j c}(e:PE X a ta):PC X .Is a (.Constant .none j c) (yL ta):=by
 intro d s f H Q I h;refine aI (e d s f H _ I h) λv o g=>?_;obtain⟨x,i,l,m,n⟩:=g;exact Uk (is_none_gen ⟨.bl _,i,l,by rw[m.none_iff];rfl,n⟩)
def yO{j c}(e:PE X a ta):PC X .IsNot a (.Constant .none j c) (yM ta):=by
 intro d s f H Q I h;refine aI (e d s f H _ I h) λv o g=>?_;obtain⟨x,i,l,m,n⟩:=g;exact Uk (isnot_none_gen ⟨.bl _,i,l,by rw[m.none_iff];rfl,n⟩)
def tB(t:TE):TT:=λd H Q=>t d H λx e=>∃c,x=.bl c/\Q c e
def yP(h:PC X e a b t)(f:autoParam (behindInMarks e b=false) au7._auto_1):PE X (.Compare a [e] [b] pos) t:=λd s g H Q I i=>wpAny_Compare1 (h d s g H Q I i) f
def mR(h:PC X g a b t)(i:autoParam (behindInMarks g b=false) au8._auto_1):PT X (.Compare a [g] [b] pos) (tB t):=by
 intro f s j H Q I l;refine Te (aI (h f s j H _ I l) λv y i=>aI i λu z m=>aI m λc A n=>?_) i;obtain⟨x,o,p,r,w⟩:=n;obtain⟨d,rfl,q⟩:=w;cases r;exact NJ ⟨o,p,q⟩
def yQ(h:PE X e t)(he:∀whole,isTrue e X.env whole=(do let v <-whole;standAt e.pos;holding [v] (truthy v)):=by intro _;rfl):PT X e (tB t):=by
 intro c s f H Q I g;refine isTrue_plain (aI (h c s f H _ I g) λv o i=>?_) (he _);obtain⟨x,j,l,m,n⟩:=i;obtain⟨d,rfl,q⟩:=n;cases m;exact NJ ⟨j,l,q⟩
variable{tA tB':TT}{rest:List Expr}
noncomputable def tAnd(t u:TT):TT:=λd H Q=>t d H λc e=>if c=true then u d e Q else Q false e
noncomputable def tOr(t u:TT):TT:=λd H Q=>t d H λc e=>if c=true then Q true e else u d e Q
noncomputable def tNot(t:TT):TT:=λd H Q=>t d H λc e=>Q (!c) e
def yR(f:PT X a tA):PW X (.BoolOp .And [a] pos) tA:=by
 intro i d s g H Q I h;refine isTrue_and (aI (f d s g H Q I h) λc j e=>?_);cases c with
 | true=>exact isTrue_and_nil e
 | false=>exact e
def yS(f:PT X a tA):PW X (.BoolOp .Or [a] pos) tA:=by
 intro i d s g H Q I h;refine isTrue_or (aI (f d s g H Q I h) λc j e=>?_);cases c with
 | false=>exact isTrue_or_nil e
 | true=>exact e
def yT(j:PT X a tA)(l:PW X (.BoolOp .And (b::rest) pos) tB'):PW X (.BoolOp .And (a::b::rest) pos) (tAnd tA tB'):=by
 intro m d s e H Q I h;refine isTrue_and (aI (j d s e H _ I h) λc n o=>?_);obtain⟨f,g,i⟩:=o;cases c with
 | true=>exact l m d n e f Q g i
 | false=>exact⟨f,g,i⟩
def yU(j:PT X a tA)(l:PW X (.BoolOp .Or (b::rest) pos) tB'):PW X (.BoolOp .Or (a::b::rest) pos) (tOr tA tB'):=by
 intro m d s e H Q I h;refine isTrue_or (aI (j d s e H _ I h) λc n o=>?_);obtain⟨f,g,i⟩:=o;cases c with
 | true=>exact⟨f,g,i⟩
 | false=>exact l m d n e f Q g i
def yV(e:PT X a tA):PT X (.UnaryOp .Not a pos) (tNot tA):=by
 intro d s f H Q I h;exact isTrue_not (Mp (e d s f H (λc g=>Q _ g) I h) (λ_ _ ⟨a,b,c⟩=>⟨a,b,c⟩) λ_ _ z=>z)
def yW(ta tb:TE):TE:=λd H Q=>ta d H λx e=>∃c,x=.bl c/\if c=true then tb d e Q else Q (.bl false) e
def yX(ta tb:TE):TE:=λd H Q=>ta d H λx e=>∃c,x=.bl c/\if c=true then Q (.bl true) e else tb d e Q
def yY(ta:TE):TE:=λd H Q=>ta d H λx e=>∃c,x=.bl c/\Q (.bl (!c)) e
def sV{d}(h:PE X a t):PE X (.BoolOp d [a] pos) t:=λc s e H Q I f=>BoolOp_one (h c s e H Q I f)
def yZ(j:PE X a ta)(l:PE X (.BoolOp .And (b::rest) pos) tb):PE X (.BoolOp .And (a::b::rest) pos) (yW ta tb):=by
 intro d s f H Q I h;refine BoolOp_and (aI (j d s f H _ I h) λv m n=>?_);obtain⟨x,g,i,o,e⟩:=n;obtain⟨c,rfl,e⟩:=e;cases o;refine NJ ?_;cases c with
 | true=>exact l d m f g Q i e
 | false=>exact⟨.bl false,g,i,rfl,e⟩
def za(j:PE X a ta)(l:PE X (.BoolOp .Or (b::rest) pos) tb):PE X (.BoolOp .Or (a::b::rest) pos) (yX ta tb):=by
 intro d s f H Q I h;refine BoolOp_or (aI (j d s f H _ I h) λv m n=>?_);obtain⟨x,g,i,o,e⟩:=n;obtain⟨c,rfl,e⟩:=e;cases o;refine NJ ?_;cases c with
 | false=>exact l d m f g Q i e
 | true=>exact⟨.bl true,g,i,rfl,e⟩
def zb(f:PE X a ta):PE X (.UnaryOp .Not a pos) (yY ta):=by
 intro d s g H Q I h;refine UnaryOp_ (aI (f d s g H _ I h) λv n i=>?_);obtain⟨x,j,l,m,e⟩:=i;obtain⟨c,rfl,e⟩:=e;cases m;exact not_of (NJ ⟨.bl _,j,l,rfl,e⟩)
def zc(t:TT)(ta tb:TE):TE:=λd H Q=>t d H λc e=>if c=true then ta d e Q else tb d e Q
def zd(m:PT X c tA)(n:PE X a ta)(o:PE X b tb):PE X (.IfExp c a b pos) (zc tA ta tb):=by
 intro e s f H Q I h;refine wpAny_IfExp (aI (m e s f H _ I h) λd g p=>?_);obtain⟨i,j,l⟩:=p;cases d with
 | true=>exact n e g f i Q j l
 | false=>exact o e g f i Q j l
end
def bx(K:Lm)(H:Hp)(a:Addr)(c:List V):Prop:=
 Rd H a (.lst c)\/
  ∃(o:Obj)(b:Array Ll)(n:Nat),K.lookup a=some o/\o.cls=.type "list"/\o.dict=none/\o.data=.seq b n/\b.size<=sizeLine/\aA c b.toList
def cD(K:Lm)(H:Hp)(a:Addr)(c:List V):Prop:=
 Rd H a (.tup c)\/
  ∃(o:Obj)(b:Array Ll)(n:Nat),K.lookup a=some o/\o.cls=.type "tuple"/\o.data=.seq b n/\b.size<=sizeLine/\aA c b.toList
noncomputable def ze:Ll->Option V
 | .none=>some .non
 | .bool b=>some (.bl b)
 | .int i _=>some (.int i)
 | .str x _=>some (.str x)
 | .bytes b _=>some (.byt b)
 | .float b _=>some (.flt b)
 | .ref a=>some (.ref a)
 | .type n=>some (.ty n)
 | _=>none
def RelV.abs(r:RelV x u):ze u=some x:=by
 cases x with
 | non=>cases r;rfl
 | bl _=>cases r;rfl
 | int _=>obtain⟨t,rfl⟩:=r;rfl
 | str _=>obtain⟨t,rfl⟩:=r;rfl
 | byt _=>obtain⟨t,rfl⟩:=r;rfl
 | flt _=>obtain⟨t,rfl⟩:=r;rfl
 | ref _=>cases r;rfl
 | ty _=>cases r;rfl
def RelV.inj(r:RelV x u)(q:RelV y u):x=y:=Mf (r.abs.symm.trans q.abs)
def aA.inj:∀{b a:List V}{c:List Ll},aA b c->aA a c->b=a:=by
 intro b a c h d;induction h generalizing a with
 | nil=>cases d;rfl
 | cons r _ ih=>
   cases d with
   | cons e f=>rw[r.inj e,ih f]
def bx.of{K:Lm}(h:H a=some (.lst xs)):bx K H a xs:=.inl (.inl h)
def cD.of{K:Lm}(h:H a=some (.tup xs)):cD K H a xs:=.inl (.inl h)
def Inv.list(I:Inv X pins σ H s)(h:bx X.K H a xs):∃b:List Ll,aA xs b/\PlainL s.heap a b.toArray/\xs.length<=sizeLine:=by
 rcases h with h | ⟨o,b,n,c,d,f,g,i,r⟩
 .obtain⟨z,b,n,r,e⟩:=h.ok I.hok;exact⟨b,r,⟨_,n,e,rfl,rfl,rfl⟩,z⟩
 .refine⟨b.toList,r,⟨o,n,I.kIn a o c,d,f,by simpa using g⟩,?_⟩;have e:=r.length;simp only[Nw]at e;symm
def Inv.tuple(I:Inv X pins σ H s)(h:cD X.K H a xs):∃b:List Ll,aA xs b/\UY s.heap a b.toArray/\xs.length<=sizeLine:=by
 rcases h with h | ⟨o,b,n,c,d,f,g,r⟩
 .obtain⟨z,b,r,p⟩:=h.ok I.hok;exact⟨b,r,p,z⟩
 .refine⟨b.toList,r,⟨o,I.kIn a o c,d,n,by simpa using f⟩,?_⟩;have e:=r.length;simp only[Nw]at e;symm
def Inv.list_inj(I:Inv X pins σ H s)(h:bx X.K H a xs)(h':bx X.K H a ys):xs=ys:=by
 obtain⟨c,r,⟨o,n,e,_,_,d⟩,_⟩:=I.list h;obtain⟨b,i,⟨l,m,f,_,_,g⟩,_⟩:=I.list h';rw[e]at f;cases f;rw[d]at g;injection g with j _;have:c=b:=by simpa using congrArg Array.toList j
 subst this;exact r.inj i
def Inv.tuple_inj(I:Inv X pins σ H s)(h:cD X.K H a xs)(h':cD X.K H a ys):xs=ys:=by
 obtain⟨c,r,⟨o,e,_,n,d⟩,_⟩:=I.tuple h;obtain⟨b,i,⟨l,f,_,m,g⟩,_⟩:=I.tuple h';rw[e]at f;cases f;rw[d]at g;injection g with j _;have:c=b:=by simpa using congrArg Array.toList j
 subst this;exact r.inj i
abbrev Cx.wish(X:Cx)(E:Ll->Ln->Prop):Cx:={ X with xe:=E }
abbrev Cx.nox(X:Cx):Cx:=X.wish λ_ _=>False
def Cx.Ok.wish{X:Cx}(ok:X.Ok)(E:Ll->Ln->Prop):(X.wish E).Ok:=
 ⟨ok.mod,ok.kind,ok.glob,ok.blt,ok.above,ok.inj,ok.has,ok.cab,ok.hd,ok.frames,ok.stk,ok.exf,ok.bs,ok.bsz,ok.noex,ok.exfs,ok.funs,ok.frf⟩
def Cx.Ok.unwish{X:Cx}(ok:(X.wish E).Ok):X.Ok:=
 ⟨ok.mod,ok.kind,ok.glob,ok.blt,ok.above,ok.inj,ok.has,ok.cab,ok.hd,ok.frames,ok.stk,ok.exf,ok.bs,ok.bsz,ok.noex,ok.exfs,ok.funs,ok.frf⟩
def Inv.wish(I:Inv X pins σ H s)(E:Ll->Ln->Prop):Inv (X.wish E) pins σ H s:=⟨I.ok.wish E,I.os,I.bare,I.base,I.loc,I.cell,I.free,I.freeC,I.pin,I.hok,I.len⟩
def Inv.unwish(I:Inv (X.wish E) pins σ H s):Inv X pins σ H s:=⟨I.ok.unwish,I.os,I.bare,I.base,I.loc,I.cell,I.free,I.freeC,I.pin,I.hok,I.len⟩
def SP.unwish(h:SP (X.wish E) pins D f c):SP X pins D f c:=by
 cases f with
 | next=>obtain⟨a,b,I,q⟩:=h;exact⟨a,b,I.unwish,q⟩
 | brk=>obtain⟨a,b,I,q⟩:=h;exact⟨a,b,I.unwish,q⟩
 | cont=>obtain⟨a,b,I,q⟩:=h;exact⟨a,b,I.unwish,q⟩
 | ret u=>obtain⟨v,a,b,I,r,q⟩:=h;exact⟨v,a,b,I.unwish,r,q⟩
def PT.nox(h:PT X.nox e t):PT X e t:=λpins s σ H Q I a=>
 Mp (h pins s σ H Q (I.wish _) a) (λ_ _ ⟨b,c,q⟩=>⟨b,c.unwish,q⟩) λ_ _ z=>Mb z
def bZ.nox{st:List Stmt}(h:bZ X.nox st t):bZ X st t:=λpins s σ H D I a=>
 Mp (h pins s σ H D (I.wish _) a) (λ_ _ q=>q.unwish) λ_ _ z=>Mb z
section
variable{X:Cx}{st:Stmt}{rest:List Stmt}{t u:TS}{e:Expr}{te:TE}{pos:Pos}
def tNext:TS:=λD a H=>D.nx a H
def zf(t u:TS):TS:=λD a H=>t { D with nx:=u D } a H
def zg:bZ X [] tNext:=λ_ _ a H _ I h=>Ov ⟨a,H,I,h⟩
def sW(c:PS X st t)(d:bZ X rest u):bZ X (st::rest) (zf t u):=by
 intro a s g H D I h;refine SI (aI (c a s g H { D with nx:=u D } I h) λf i q=>?_);cases f with
 | next=>
   obtain⟨b,j,l,q⟩:=q;exact d a i b j D l q
 | ret v=>exact q
 | brk=>exact q
 | cont=>exact q
def mS(b:PS X st t):bZ X [st] t:=by
 intro a s c H D I h;refine SI (aI (b a s c H D I h) λf d q=>?_);cases f with
 | next=>exact Ov q
 | ret v=>exact q
 | brk=>exact q
 | cont=>exact q
def Inv.quiet(I:Inv X a σ H s):interactive X.env=false:=by simp[interactive,I.ok.kind]
def zh(te:TE):TS:=λD a H=>te a H λ_ b=>D.nx a b
def sX(he:PE X e te)(hs:autoParam (swapsWith e none pos.line X.env=pure false) au0._auto_1):PS X (.Expr e pos) (zh te):=by
 intro a s b H D I h;exact wpAny_Expr_any (aI (he a s b H _ I h) λv g ⟨x,c,d,i,f⟩=>⟨b,c,d,f⟩) I.quiet hs
def zi(te:TE):TS:=λD a H=>te a H D.rt
def zj(he:PE X e te):PS X (.Return (some e) pos) (zi te):=by
 intro a s b H D I h;exact wpAny_Return_some (aI (he a s b H _ I h) λv i ⟨x,c,d,f,g⟩=>⟨x,b,c,d,f,g⟩)
def zk(c:TT)(t u:TS):TS:=λD a H=>c a H λb d=>if b=true then t D a d else u D a d
def sY(o:PT X c i)(p:bZ X a t)(q:bZ X b u):PS X (.If c a b pos) (zk i t u):=by
 intro f s g H D I h;refine wpAny_If (aI (o f s g H _ I h) λd j r=>?_);obtain⟨l,m,n⟩:=r;cases d with
 | true=>exact p f j g l D m n
 | false=>exact q f j g l D m n
def tNever:TS:=λ_ _ _=>False
def zl:PS X st tNever:=λ_ _ _ _ _ _ h=>h.elim
end
abbrev TG:=V->St->Hp->(St->Hp->Prop)->Prop
abbrev TGs:=List V->St->Hp->(St->Hp->Prop)->Prop
def PG(X:Cx)(a:Expr)(t:TG):Prop:=
 ∀(b:List (Addr×Obj))(s:Ln)(σ:St)(H:Hp)(v:V)(u:Ll)(Q:St->Hp->Prop),Inv X b σ H s->RelV v u->t v σ H Q->
  wpAny (model X.prog X.w) X.A (assign a X.env u) (λ_ e=>∃c d,Inv X b c d e/\Q c d) X.xe s
def fw(X:Cx)(e:List Expr)(t:TGs):Prop:=
 ∀(a:List (Addr×Obj))(s:Ln)(σ:St)(H:Hp)(vs:List V)(c:List Ll)(Q:St->Hp->Prop),Inv X a σ H s->aA vs c->t vs σ H Q->
  wpAny (model X.prog X.w) X.A (assignInOrder ((assignEach e X.env).map (·.2)) c) (λ_ f=>∃b d,Inv X a b d f/\Q b d) X.xe s
section
variable{X:Cx}{pos:Pos}
noncomputable def gName(i:Nat):TG:=λv a H Q=>Q (a.set i (some v)) H
def gE(b:X.N.Nodup)(c:X.N[i]?=some x)(d:Loc X.env.scope x)(e:autoParam (X.fn x=true\/X.env.scope.names.lookup x=some .local) au3._auto_1):PG X (.Name x pos) (gName i):=by
 intro a s g H v u Q I r h;exact wpAny_assign_Name (W2 I b c d r (λj f=>⟨_,H,f,h⟩) e)
noncomputable def gNil:TGs:=λa b H Q=>a=[]/\Q b H
noncomputable def gCons(t:TG)(u:TGs):TGs:=λb c H Q=>∃v r,b=v::r/\t v c H λa d=>u r a d Q
def zm:fw X [] gNil:=by
 intro a s b H c d Q I r h;obtain⟨e,h⟩:=h;subst e;exact assignInOrder_nil ⟨b,H,I,h⟩
def zo(c:PG X e t)(d:fw X es u)
 (hs:autoParam ((assignEach (e::es) X.env).map (·.2)=assign e X.env::(assignEach es X.env).map (·.2)) au0._auto_1):fw X (e::es) (gCons t u):=by
 intro a s f H p q Q I r h;obtain⟨v,w,g,h⟩:=h;subst g;cases r with
 | cons r i=>
   rw[hs];refine PZ (aI (c a s f H _ _ _ I r h) λ_ j l=>?_);obtain⟨b,m,n,o⟩:=l;exact d a j b m _ _ Q n i o
def gTup(K:Lm)(n:Nat)(t:TGs):TG:=λv c H Q=>∃a b,v=.ref a/\cD K H a b/\b.length=n/\t b c H Q
def zp(i:X.calm=true)(h:fw X es t)
 (j:autoParam ((assignEach es X.env).length=n) au0._auto_1) (d:autoParam ((assignEach es X.env).findIdx? (·.1)=none) au0._auto_1):PG X (.Tuple es k pos) (gTup X.K n t):=by
 intro c s l H v u Q I r f;obtain⟨a,m,p,q,w,f⟩:=f;subst p;cases r;obtain⟨x,g,y,B⟩:=I.tuple q;refine assign_Tuple_tuple (I.ok.hd i) y (by simp[j,<-w,g.length]) d λC z=>?_;have A:=I.kept (t':=s.toks) λb o e=>z b o (Ly (Lr e)) e;exact h c _ l H m _ Q A (by simpa using g) f
def px(b:TE)(g:TG):TS:=λD a H=>b a H λx c=>g x a c D.nx
def zt(he:PE X e c)(f:PG X b g)(hs:autoParam (swapsWithSole [b] e pos.line X.env=pure false) au0._auto_1)(i:autoParam (swappedStores [b] e X.env=pure none) au0._auto_1)
 (j:autoParam ((assignEach [b] X.env).map (·.2)=[assign b X.env]) au0._auto_1):PS X (.Assign [b] e pos) (px c g):=by
 intro a s d H D I h;refine wpAny_Assign_stores (aI (he a s d H _ I h) λv l m=>?_) hs i;obtain⟨x,n,o,p,r⟩:=m;rw[j];exact aI (f a l d n x v _ o p r) λ_ u q=>q
def zu(d:X.N.Nodup)(f:X.N[i]?=some x)(g:Loc X.env.scope x)(he:PE X e c)(hs:autoParam (swapsWith e (some (.Name x a)) pos.line X.env=pure false) au0._auto_1)(j:autoParam (X.fn x=true\/X.env.scope.names.lookup x=some .local) au3._auto_1) :
 PS X (.Assign [.Name x a] e pos) (px c (gName i)):=by
 intro b s l H D I h;refine wpAny_Assign_Name (aI (he b s l H _ I h) λv u m=>?_) hs;obtain⟨y,n,o,p,q⟩:=m;exact W2 o d f g p (λw r=>⟨_,n,r,q⟩) j
def zv(c:TT)(h:TS):TS:=λD a H=>∃W:Nat->St->Hp->Prop,(∃m,W m a H)/\∀m a H,W m a H->
 c a H λb e=>if b=true then ∃N:St->Hp->Prop,(∀d f,N d f->∃g,g<m/\W g d f)/\h { D with nx:=N,ct:=N,bk:=D.nx } a e else D.nx a e
def zw(B:Tf (model X.prog X.w) X.A X.env X.xe)(O:PT X c y)(Q:bZ X g z):PS X (.While c g [] pos) (zv y z):=by
 intro a s T H D I h;obtain⟨W,⟨U,Y⟩,i⟩:=h;refine wpAny_While (codeAny_whileLoop (λn s'=>∃j C,Inv X a j C s'/\W n j C) ?_ U ⟨T,H,I,Y⟩);rintro n s1 ⟨e,E,I1,w1⟩;refine Nb B (aI (O a s1 e E _ I1 (i n e E w1)) λb s2 zq=>?_);obtain⟨G,J,m⟩:=zq;cases b with
 | true=>
   obtain⟨N,L,m⟩:=m;refine Nb B (aI (Q a s2 e G _ J m) λf s3 o=>?_);cases f with
   | next=>
     obtain⟨d,l,p,q⟩:=o;obtain⟨r,u,x⟩:=L d l q;exact⟨r,u,d,l,p,x⟩
   | cont=>
     obtain⟨d,l,p,q⟩:=o;obtain⟨r,u,x⟩:=L d l q;exact⟨r,u,d,l,p,x⟩
   | brk=>exact o
   | ret v=>exact o
 | false=>
   exact Ov ⟨e,G,J,m⟩
end
structure It where
 go:Nat->Hp->Prop
 yld:Nat->Hp->V->Hp->Prop
 stop:Nat->Hp->Prop
def d7(X:Cx)(a:List (Addr×Obj))(H:Hp)(b:Addr):Prop:=
 H b=none/\b≠X.env.locals/\b∉X.fs/\(b∈X.ex\/X.s₀.heap.objs.size<=b)/\(∀x c,X.env.cells.lookup x=some c->c≠b)/\∀p∈X.pn++a,p.1≠b
def Inv.fpOk(I:Inv X a σ H s)(d:s.heap.objs.size<=b)(f:H' b=none):d7 X a H' b:=by
 refine⟨f,Nx (LI I.lt d),I.nofs d,.inr (LW I.sz d),λx c e z=>?_,λp g z=>?_⟩
 .obtain⟨v,q⟩:=I.cell x c e;exact absurd (LI q.lt (by rw[z];exact d)) (NP _)
 .exact absurd (LI (Lr (I.pin p g).1) (by rw[z];exact d)) (NP _)
structure je(P:LK)(w:Mv)(K:Lm)(tg:Expr)(J:It)(fp:List Addr)(it:Addr)(tn:Nat->Heap->Prop):Prop where
 mem:it∈fp
 obj:∀i h,tn i h->∀b∈fp,∃o,h.get? b=some o/\∀v,o.data≠.cell v
 keep:∀i h h',tn i h->(∀b∈fp,∀o,h.get? b=some o->h'.get? b=some o)->tn i h'
 item:∀(X:Cx),X.prog=P->X.w=w->X.K=K->X.calm=true->∀(i:Nat)(pins:List (Addr×Obj))(s:Ln)(σ:St)(H:Hp)(E:Ll->Ln->Prop),Inv X pins σ H s->(∀b∈fp,d7 X pins H b)->tn i s.heap->J.go i H->
  wpAny (model P w) X.A (pyNext (.ref it)) (λr s1=>∃u,r=some u/\
   wpAny (model P w) X.A (letOwnedTupleGo tg (.ref it) u) (λ_ s2=>∃x H',Inv X pins σ H' s2/\RelV x u/\J.yld i H x H'/\tn (i+1) s2.heap/\∀b∈fp,H' b=none) E s1) E s
 done:∀(X:Cx),X.prog=P->X.w=w->X.K=K->X.calm=true->∀(i:Nat)(pins:List (Addr×Obj))(s:Ln)(σ:St)(H:Hp)(E:Ll->Ln->Prop),Inv X pins σ H s->(∀b∈fp,d7 X pins H b)->tn i s.heap->J.stop i H->
  wpAny (model P w) X.A (pyNext (.ref it)) (λr s1=>r=none/\Inv X pins σ H s1) E s
 self:∀(A:Mq)(i:Nat)(s:Ln)(Q:Ll->Ln->Prop)(E:Ll->Ln->Prop),tn i s.heap->Q (.ref it) s->wpAny (model P w) A (pyIter (.ref it)) Q E s
abbrev TI:=St->Hp->(It->Hp->Prop)->Prop
inductive pA (X:Cx) (pins:List (Addr×Obj)) (σ:St) (tg:Expr) (R:It->Hp->Prop) (itv:Ll) (s2:Ln):Prop
 | mk (it:Addr) (fp:List Addr) (tn:Nat->Heap->Prop) (J:It) (H':Hp) (h0:itv=.ref it) (h1:Inv X pins σ H' s2) (h2:je X.prog X.w X.K tg J fp it tn) (h3:tn 0 s2.heap) (h4:(∀b∈fp,d7 X pins H' b)) (h5:R J H'):pA X pins σ tg R itv s2
def PI(X:Cx)(b iter:Expr)(c:TI):Prop:=
 ∀(a:List (Addr×Obj))(s:Ln)(σ:St)(H:Hp)(R:It->Hp->Prop),Inv X a σ H s->c σ H R->
  wpAny (model X.prog X.w) X.A (eval iter X.env) (λv d=>wpAny (model X.prog X.w) X.A (pyIter v) (pA X a σ b R) X.xe d) X.xe s
def pB(d:s.heap.get? c=some o)(e:o.cls=.type n)(f:o.data=.fields vs)
 (g:["enumerate","zip","dict_itemiterator","dict_reverseitemiterator","odict_iterator","itertools.zip_longest","itertools.pairwise"].contains n=false) (a:Q () s):wpAny M A (letOwnedTupleGo b (.ref c) u) Q E s:=by
 cases b<;>first
  | exact Lk a
  | (cases u<;>first
   | exact Lk a
   | (refine L0 (wpAny_load d ?_)
      rw[e,f];show wpAny M A (if _=true then _ else _) Q E s;rw[if_neg (by intro h;rw[g]at h;cases h)];exact Lk a))
noncomputable def mT(K:Lm)(a:Addr):It:=
 ⟨λi H=>∃b x,bx K H a b/\b[i]?=some x,λi H x c=>c=H/\∀b,bx K H a b->b[i]?=some x,λi H=>∃b,bx K H a b/\b.length<=i⟩
noncomputable def mU(K:Lm)(a:Addr):It:=
 ⟨λi H=>∃b x,cD K H a b/\b[i]?=some x,λi H x c=>c=H/\∀b,cD K H a b->b[i]?=some x,λi H=>∃b,cD K H a b/\b.length<=i⟩
noncomputable def mV(lo:Int)(n:Nat):It:=⟨λi _=>i<n,λi H x a=>a=H/\x=.int (lo+i),λi _=>n<=i⟩
def sZ{K:Lm}(a it:Addr):je P w K tg (mT K a) [it] it (λi h=>h.IsListIter it a i) where
 mem:=by simp
 obj:=λi h st b hb=>by
  have e:b=it:=by simpa using hb
  subst e;obtain⟨o,e,c,d⟩:=st;exact⟨o,e,λv z=>by rw[d]at z;cases z⟩
 keep:=λi h h' st k=>st.at λo e=>k it (by simp) o e
 item:=by
  intro X hP hw hK hc i pins s σ H E I hf st hg;subst hP hw hK;obtain⟨xs,x,hq,hx⟩:=hg;obtain⟨its,rv,p,hz⟩:=I.list hq;obtain⟨u,hu,ru⟩:=rv.get hx;obtain⟨f0,f1,f2,f3,f4,f5⟩:=hf it (by simp);refine wpAny_pyNext_list_item st p.isList (by simpa using hu) λh' st' sb=>?_;have I1:Inv X pins σ H { s with heap:=h' }:=I.turned (λb o hb e=>(sb.2 b hb).trans e) f0 f1 f3 f4 f5;obtain⟨o,e,c,d⟩:=id st';exact⟨u,rfl,pB e c d rfl ⟨x,H,I1,ru,⟨rfl,λys hy=>by rw[I.list_inj hy hq];exact hx⟩,st',λb hb=>(hf b hb).1⟩⟩
 done:=by
  intro X hP hw hK hc i pins s σ H E I hf st hg;subst hP hw hK;obtain⟨xs,hq,hx⟩:=hg;obtain⟨its,rv,p,hz⟩:=I.list hq;obtain⟨f0,f1,f2,f3,f4,f5⟩:=hf it (by simp);have hl:=rv.length;exact wpAny_pyNext_list_end (I.ok.hd hc) st p.isList (by simp;symm) λh' eb=>⟨rfl,I.turned (λb o hb e=>eb b o hb e) f0 f1 f3 f4 f5⟩
 self:=λ_ _ _ _ _ st h=>wpAny_pyIter_listiter st h
def tf{K:Lm}(a it:Addr):je P w K tg (mU K a) [it] it (λi h=>h.IsTupleIter it a i) where
 mem:=by simp
 obj:=λi h st b hb=>by
  have e:b=it:=by simpa using hb
  subst e;obtain⟨o,e,c,d⟩:=st;exact⟨o,e,λv z=>by rw[d]at z;cases z⟩
 keep:=λi h h' st k=>st.at λo e=>k it (by simp) o e
 item:=by
  intro X hP hw hK hc i pins s σ H E I hf st hg;subst hP hw hK;obtain⟨xs,x,hq,hx⟩:=hg;obtain⟨its,rv,p,hz⟩:=I.tuple hq;obtain⟨u,hu,ru⟩:=rv.get hx;obtain⟨f0,f1,f2,f3,f4,f5⟩:=hf it (by simp);refine wpAny_pyNext_tuple_item st (show s.heap.IsTuple a _ from p) (by simpa using hu) λh' st' sb=>?_;have I1:=I.turned (t':=s.toks) (λb o hb e=>(sb.2 b hb).trans e) f0 f1 f3 f4 f5;obtain⟨o,e,c,d⟩:=id st';exact⟨u,rfl,pB e c d rfl ⟨x,H,I1,ru,⟨rfl,λys hy=>by rw[I.tuple_inj hy hq];exact hx⟩,st',λb hb=>(hf b hb).1⟩⟩
 done:=by
  intro X hP hw hK hc i pins s σ H E I hf st hg;subst hP hw hK;obtain⟨xs,hq,hx⟩:=hg;obtain⟨its,rv,p,hz⟩:=I.tuple hq;obtain⟨f0,f1,f2,f3,f4,f5⟩:=hf it (by simp);have hl:=rv.length;exact wpAny_pyNext_tuple_end (I.ok.hd hc) st (show s.heap.IsTuple a _ from p) (by simp;symm) λh' eb=>⟨rfl,I.turned (λb o hb e=>eb b o hb e) f0 f1 f3 f4 f5⟩
 self:=λ_ _ _ _ _ st h=>wpAny_pyIter_tupleiter st h
def zx{K:Lm}(it:Addr)(lo:Int)(n:Nat):je P w K tg (mV lo n) [it] it (λi h=>IsRangeIter h it (lo+(i:Nat)*1) ((n:Int) - (i:Nat)) 1) where
 mem:=by simp
 obj:=λi h st b hb=>by
  have e:b=it:=by simpa using hb
  subst e;exact⟨_,st,λv z=>by
   have z':=z;cases z'⟩
 keep:=λi h h' st k=>k it (by simp) _ st
 item:=by
  intro X hP hw hK hc i pins s σ H E I hf st hg;subst hP hw hK;obtain⟨f0,f1,f2,f3,f4,f5⟩:=hf it (by simp);have W:=UZ.range (prog:=X.prog) (w:=X.w) (I.ok.hd hc) it lo 1 n;refine W.item i s _ _ hg st λv h' tk hv st' kk=>?_;obtain⟨t,rfl⟩:=hv;have I1:Inv X pins σ H { s with heap:=h',toks:=tk }:=I.turned (λb o hb e=>kk b o (by simpa using hb) e) f0 f1 f3 f4 f5;refine⟨_,rfl,pB st' rfl rfl rfl ⟨.int _,H,I1,⟨t,?_⟩,⟨rfl,rfl⟩,st',λb hb=>(hf b hb).1⟩⟩;rw[Int.mul_one]
 done:=by
  intro X hP hw hK hc i pins s σ H E I hf st hg;obtain⟨f0,f1,f2,f3,f4,f5⟩:=hf it (by simp);exact wpAny_pyNext_range_end (I.ok.hd hc) st (by have:n<=i:=hg;symm) λh' eb=>⟨rfl,I.turned (λb o hb e=>eb b o hb e) f0 f1 f3 f4 f5⟩
 self:=λ_ _ _ _ _ st h=>wpAny_pyIter_rangeiter st h
section
variable{X:Cx}{tg:Expr}
def zy(K:Lm)(c:TE):TI:=λd H R=>c d H λx b=>∃a,x=.ref a/\(∃e,bx K b a e)/\R (mT K a) b
def zA(K:Lm)(c:TE):TI:=λd H R=>c d H λx b=>∃a,x=.ref a/\(∃e,cD K b a e)/\R (mU K a) b
def KL(i:PE X l g):PI X tg l (zy X.K g):=by
 intro c s j H R I h;refine aI (i c s j H _ I h) λv f m=>?_;obtain⟨x,n,d,r,u⟩:=m;obtain⟨a,e,⟨A,w⟩,q⟩:=u;subst e;cases r;obtain⟨y,B,p,C⟩:=d.list w;refine Ow p.isList ?_;refine⟨f.heap.objs.size,[f.heap.objs.size],_,_,n,rfl,d.kept (t':=_) λb o e=>L3 _ e,sZ a _,⟨_,Lq _ rfl,rfl,rfl⟩,λb z=>?_,q⟩;have e:b=f.heap.objs.size:=by simpa using z
 subst e;exact d.fpOk (Lp _) (d.hok.fresh (Lp _))
def KN(i:PE X l g):PI X tg l (zA X.K g):=by
 intro c s j H R I h;refine aI (i c s j H _ I h) λv d m=>?_;obtain⟨x,n,f,r,u⟩:=m;obtain⟨a,e,⟨A,w⟩,q⟩:=u;subst e;cases r;obtain⟨y,B,p,C⟩:=f.tuple w;refine OP (show d.heap.IsTuple a _ from p) ?_;refine⟨d.heap.objs.size,[d.heap.objs.size],_,_,n,rfl,f.kept (t':=_) λb o e=>L3 _ e,tf a _,⟨_,Lq _ rfl,rfl,rfl⟩,λb z=>?_,q⟩;have e:b=d.heap.objs.size:=by simpa using z
 subst e;exact f.fpOk (Lp _) (f.hok.fresh (Lp _))
def zB{lo d:Int}(I:Inv X c σ H s)(j : -(2 ^ 62)<=lo)(l:lo<2 ^ 62)(m : -(2 ^ 62)<=d)(n:d<2 ^ 62)
 (q:R (mV lo (d - lo).toNat) H):wpAny (model X.prog X.w) X.A (pyIter (.ref s.heap.objs.size)) (pA X c σ tg R) E { s with heap:=s.heap.push { cls:=.type "range",data:=.fields #[.int lo t,.int d u,.int 1 v] },toks:=i }:=by
 refine wpAny_pyIter_range (IsRange.new ..) (small_one j l m n) ?_;have h:Inv X c σ H { s with heap:=s.heap.push { cls:=.type "range",data:=.fields #[.int lo t,.int d u,.int 1 v] },toks:=i }:=I.kept λb o e=>L3 _ e;refine⟨(s.heap.push { cls:=.type "range",data:=.fields #[.int lo t,.int d u,.int 1 v] }).objs.size,[(s.heap.push { cls:=.type "range",data:=.fields #[.int lo t,.int d u,.int 1 v] }).objs.size],_,_,H,rfl,
  h.kept λb o e=>L3 _ e,zx _ lo (d - lo).toNat,?_,λb p=>?_,q⟩
 .have r:lo+((0:Nat))*1=lo:=by simp
  have x:(((d - lo).toNat)) - ((0:Nat))=MK.Range.rangeSize lo d 1:=by rw[rangeSize_one];split<;>symm
  rw[r,x];exact Lq _ rfl
 .have e:b=(s.heap.push { cls:=.type "range",data:=.fields #[.int lo t,.int d u,.int 1 v] }).objs.size:=by simpa using p
  subst e;exact h.fpOk (Lp _) (h.hok.fresh (Lp _))
def iRng1(a:TA):TI:=λb H R=>a b H λc d=>∃j:Int,c=[.int j]/\-(2 ^ 62)<=j/\j<2 ^ 62/\R (mV 0 j.toNat) d
def zC(g:Gl X "range")(i:X.mg "range" = none)(l:PA X [a] f)(hs:autoParam (starEach [a] X.env=[(false,eval a X.env)]) au0._auto_1):PI X tg (.Call (.Name "range" p) [a] [] b) (iRng1 f):=by
 intro c s m H R I h;refine UW (S8 I g i boot_range (OV (aI (l b c s m H _ I h) λx y n=>?_) hs rfl));obtain⟨z,A,o,u,d⟩:=n;obtain⟨j,e,d,v,q⟩:=d;subst e;cases u with
 | cons r w=>
   cases w;obtain⟨t,rfl⟩:=r;exact call_range_1 (zB o (by simp) (by simp) d v (by simpa using q))
def zD(f:TI)(g:TG)(h:TS):TS:=λD a H=>f a H λJ j=>∃W:Nat->Nat->St->Hp->Prop,(∃m,W 0 m a j)/\∀i m a H,W i m a H->
 (J.stop i H/\D.nx a H)\/(J.go i H/\∃N:St->Hp->Prop,(∀b c,N b c->∃e,e<m/\W (i+1) e b c)/\∀x c,J.yld i H x c->g x a c λd l=>h { D with nx:=N,ct:=N,bk:=D.nx } d l)
noncomputable def ly(fp:List Addr)(h:Heap):List (Addr×Obj):=fp.filterMap λb=>(h.get? b).map λo=>(b,o)
def S9(a:b∈fp)(e:h.get? b=some o):(b,o)∈ly fp h:=List.mem_filterMap.mpr ⟨b,a,by rw[e];rfl⟩
def zE(a:p∈ly fp h):p.1∈fp/\h.get? p.1=some p.2:=by
 obtain⟨b,c,e⟩:=List.mem_filterMap.mp a;cases q:h.get? b with
 | none=>rw[q]at e;cases e
 | some o=>
   rw[q]at e;have d:=Mf e;subst d;exact⟨c,q⟩
def Inv.pinned(I:Inv X a σ H s)(g:∀b∈fp,d7 X a H b)(h:∀b∈fp,∃o,s.heap.get? b=some o/\∀v,o.data≠.cell v):Inv X (a++ly fp s.heap) σ H s:=
 I.pins_of λp i=>(LY.mp i).elim (λz=>I.pin p (Ma _ z)) λz=>by
  obtain⟨c,e⟩:=zE z;obtain⟨j,l,m,_⟩:=g p.1 c;obtain⟨o,f,d⟩:=h p.1 c;rw[e]at f;cases f;exact⟨e,j,l,m,d⟩
def Inv.unpinned(I:Inv X (a++b) σ H s):Inv X a σ H s:=I.pins_of λp c=>I.pin p (Ma _ (ND _ c))
def zF(L:Tf (model X.prog X.w) X.A X.env X.xe)(hc:X.calm=true)(hi:PI X tg iter wi)(hg:PG X tg g)(j:bZ X B tb)
 (hs:∀x,foldedSetIterable iter X.env x=pure x:=by intro _;rfl):PS X (.For tg iter B [] a3) (zD wi g tb):=by
 intro c s σ H D I h;refine wpAny_For (aI (hi c s σ H _ I h) λv s1 h1=>aI h1 λe0 s2 h2=>?_) hs;obtain⟨it,fp,tn,J,H2,e,I2,T,a4,f2,W,⟨m0,w0⟩,O⟩:=h2;subst e;have l:∀{H':Hp},(∀b∈fp,H' b=none)->∀b∈fp,d7 X c H' b:=λhn b j=>⟨hn b j,(f2 b j).2⟩;refine Uc (λn s'=>∃i p H',Inv X c p H' s'/\tn i s'.heap/\(∀b∈fp,H' b=none)/\W i n p H') ?_ m0 ⟨0,σ,H2,I2,a4,λb j=>(f2 b j).1,w0⟩;rintro n s3 ⟨i,q,H3,I3,Q,U,w3⟩;rcases O i n q H3 w3 with⟨Y,qn⟩ | ⟨go,N,hN,step⟩
 .refine Nb L (aI (T.done X rfl rfl rfl hc i c s3 q H3 X.xe I3 (l U) Q Y) λr s4 E=>?_);obtain⟨hr,I4⟩:=E;subst hr;exact Ov ⟨q,H3,I4,qn⟩
 .refine Nb L (aI (T.item X rfl rfl rfl hc i c s3 q H3 X.xe I3 (l U) Q go) λr s4 E=>?_);obtain⟨u,hr,h4⟩:=E;subst hr;refine Nb L (aI h4 λ_ s5 E=>?_);obtain⟨x,H5,I5,r5,y5,G,a6⟩:=E;have a7:=I5.pinned (l a6) (T.obj _ _ G);refine Nb L (aI (hg _ s5 q H5 x u _ a7 r5 (step x H5 y5)) λ_ s6 E=>?_);obtain⟨a8,H6,I6,q6⟩:=E;refine Nb L (aI (j _ s6 a8 H6 _ I6 q6) λf s7 C=>?_);have again:∀{a:St}{y:Hp},Inv X _ a y s7->N a y->∃m,m<n/\∃i p H',Inv X c p H' s7/\tn i _/\(∀b∈fp,H' b=none)/\W i m p H':=λ{a y} z n7=>by
   obtain⟨m',hm,w7⟩:=hN a y n7;refine⟨m',hm,i+1,a,y,z.unpinned,T.keep _ _ _ G λb j o e=>(z.pin _ (Ma _ (Ma _ (S9 j e)))).1,λb j=>?_,w7⟩;obtain⟨o,e,d⟩:=T.obj _ _ G b j;exact(z.pin _ (Ma _ (Ma _ (S9 j e)))).2.1
  cases f with
  | next=>obtain⟨a,y,z,n7⟩:=C;exact again z n7
  | cont=>obtain⟨a,y,z,n7⟩:=C;exact again z n7
  | brk=>obtain⟨a,y,z,C⟩:=C;exact⟨a,y,z.unpinned,C⟩
  | ret v=>obtain⟨x7,a,y,z,r7,C⟩:=C;exact⟨x7,a,y,z.unpinned,r7,C⟩
end
abbrev R2:=V->V->Hp->VK->Prop
def cb(X:Cx)(f:Ll->Ll->Sem Ll)(r:R2):Prop:=
 ∀(a:List (Addr×Obj))(s:Ln)(σ:St)(H:Hp)(x y:V)(v u:Ll)(Q:VK),Inv X a σ H s->RelV x v->RelV y u->r x y H Q->
  wpAny (model X.prog X.w) X.A (f v u) (EP X a σ Q) X.xe s
def pD(X:Cx)(f:Ll->Sem Ll)(r:V->Hp->VK->Prop):Prop:=
 ∀(a:List (Addr×Obj))(s:Ln)(σ:St)(H:Hp)(x:V)(v:Ll)(Q:VK),Inv X a σ H s->RelV x v->r x H Q->
  wpAny (model X.prog X.w) X.A (f v) (EP X a σ Q) X.xe s
def bc(X:Cx)(f:Ll)(r:List V->Hp->VK->Prop):Prop:=
 ∀(a:List (Addr×Obj))(s:Ln)(σ:St)(H:Hp)(b:List V)(c:List Ll)(Q:VK),Inv X a σ H s->aA b c->r b H Q->
  wpAny (model X.prog X.w) X.A (call f c) (EP X a σ Q) X.xe s
def lz(r:R2)(b c:TE):TE:=λa H Q=>b a H λx d=>c a d λy e=>r x y e Q
def zG(r:V->Hp->VK->Prop)(a:TE):TE:=λb H Q=>a b H λx c=>r x c Q
def rI(C:Int->Int->Prop)(g:Int->Int->V):R2:=λx y H Q=>∃i j,x=.int i/\y=.int j/\C i j/\Q (g i j) H
def dU(g:Int->Int->V):R2:=λx y H Q=>∃i j,x=.int i/\y=.int j/\Q (g i j) H
def rU(g:Int->V):V->Hp->VK->Prop:=λx H Q=>∃i,x=.int i/\Q (g i) H
section
variable{X:Cx}{a b c:Expr}{ta tb tc:TE}{pos:Pos}
def pE(n:PE X a ta)(o:PE X b tb){R:V->V->Hp->Prop}(I:Inv X d σ H s)
 (h:ta σ H λx l=>tb σ l λy e=>R x y e)  {f:Ll->Ll->Sem Ll}
 (p:∀v u j x y e,Inv X d σ e j->RelV x v->RelV y u->R x y e->wpAny (model X.prog X.w) X.A (f v u) Q X.xe j) :
 wpAny (model X.prog X.w) X.A (eval a X.env) (λv g=>wpAny (model X.prog X.w) X.A (eval b X.env) (λu i=>wpAny (model X.prog X.w) X.A (f v u) Q X.xe i) X.xe g) X.xe s:=by
 refine aI (n d s σ H _ I h) λv q m=>?_;obtain⟨x,l,r,z,B⟩:=m;refine aI (o d q σ l _ r B) λu j m=>?_;obtain⟨y,e,C,D,E⟩:=m;exact p v u j x y e C z D E
def zH(f:cb X (binaryOp e) r)(g:PE X a ta)(i:PE X b tb):PE X (.BinOp a e b pos) (lz r ta tb):=by
 intro d s j H Q I h;exact wpAny_BinOp (pE g i I h λv u l x y m n o p q=>f d l j m x y v u Q n o p q)
def zI(g:pD X (unaryOp e) r)(i:PE X a ta):PE X (.UnaryOp e a pos) (zG r ta):=by
 intro d s f H Q I h;exact UnaryOp_ (aI (i d s f H _ I h) λv j ⟨x,l,m,n,o⟩=>g d j f l x v Q m n o)
def kE{g:Int->Int->Int}
 (rule:∀(i j:Int)(t u:Tok)(s:Ln)(Q:Ll->Ln->Prop)(E:Ll->Ln->Prop),C i j->Q (.int (g i j) s.toks) { s with toks:=s.toks+1 }->wpAny (model X.prog X.w) X.A (f (.int i t) (.int j u)) Q E s) :
 cb X f (rI C λi j=>.int (g i j)):=by
 intro d s o H x y v u Q I e l h;obtain⟨i,j,rfl,rfl,m,q⟩:=h;obtain⟨t,rfl⟩:=e;obtain⟨n,rfl⟩:=l;exact rule i j t n s _ _ m ⟨.int _,H,I.tok _,⟨_,rfl⟩,q⟩
def pF{g:Int->Int->Int}
 (rule:∀(i j:Int)(t u:Tok)(s:Ln)(Q:Ll->Ln->Prop)(E:Ll->Ln->Prop),Q (.int (g i j) s.toks) { s with toks:=s.toks+1 }->wpAny (model X.prog X.w) X.A (f (.int i t) (.int j u)) Q E s) :
 cb X f (dU λi j=>.int (g i j)):=by
 intro d s n H x y v u Q I e l h;obtain⟨i,j,rfl,rfl,q⟩:=h;obtain⟨t,rfl⟩:=e;obtain⟨m,rfl⟩:=l;exact rule i j t m s _ _ ⟨.int _,H,I.tok _,⟨_,rfl⟩,q⟩
def mW{g:Int->Int->Bool}
 (rule:∀(i j:Int)(t u:Tok)(s:Ln)(Q:Ll->Ln->Prop)(E:Ll->Ln->Prop),Q (.bool (g i j)) s->wpAny (model X.prog X.w) X.A (f (.int i t) (.int j u)) Q E s) :
 cb X f (dU λi j=>.bl (g i j)):=by
 intro d s n H x y v u Q I e l h;obtain⟨i,j,rfl,rfl,q⟩:=h;obtain⟨t,rfl⟩:=e;obtain⟨m,rfl⟩:=l;exact rule i j t m s _ _ ⟨.bl _,H,I,rfl,q⟩
def tj(i j:Int):Prop:=0<j/\j<1073741824
def mX(i j:Int):Prop:=0<=j/\j<=1000000/\i.natAbs<2 ^ 64
def gF(i j:Int):Prop:=(-(2 ^ 64)<i/\i<2 ^ 64)\/(-(2 ^ 64)<j/\j<2 ^ 64)
def gF.ok(h:gF i j):IntMulOk i j:=by
 rcases h with⟨d,e⟩ | ⟨d,e⟩
 .exact .of_left (intBits_le_64 d e)
 .exact .of_right (intBits_le_64 d e)
def zJ(k:Nat):(0:Int)<=2 ^ k:=by
 exact Q2 _
def op_add:cb X (binaryOp .Add) (dU λi j=>.int (i+j)):=pF λ_ _ _ _ _ _ _ q=>add_int q
def jf:cb X (binaryOp .Sub) (dU λi j=>.int (i - j)):=pF λ_ _ _ _ _ _ _ q=>sub_int q
def jg:cb X (binaryOp .Mult) (rI gF λi j=>.int (i*j)):=kE λ_ _ _ _ _ _ _ d q=>mul_int q d.ok
def gG:cb X (binaryOp .FloorDiv) (rI tj λi j=>.int (i / j)):=kE λi j _ _ _ _ _ d q=>by
 have e:_<j:=d.1;have f:=d.2;exact floordiv_int (by symm) (by rw[Rz i (by symm)];exact q) (.inl (PyProof.noPylong_small (by symm)))
def jh:cb X (binaryOp .Mod) (rI (λ_ j=>0<j) λi j=>.int (i%j)):=kE λi j _ _ _ _ _ d q=>by
 exact mod_int' (by symm) (by rw[Int.fmod_eq_emod_of_nonneg i (by symm)];exact q)
def ji:cb X (binaryOp .Pow) (rI mX λi j=>.int (i ^ j.toNat)):=kE λ_ _ _ _ _ _ _ d q=>pow_int_small d.1 d.2.1 d.2.2 q
def jj:cb X (binaryOp .LShift) (rI mX λi j=>.int (i*2 ^ j.toNat)):=kE λ_ _ _ _ _ _ _ d q=>lshift_int_small d.1 d.2.1 d.2.2 q
def jk:cb X (binaryOp .RShift) (rI (λ_ j=>0<=j) λi j=>.int (i / 2 ^ j.toNat)):=kE λi j _ _ _ _ _ d q=>
 rshift_int d (by rw[Rz i (zJ _)];exact q)
def jl:cb X (binaryOp .BitAnd) (dU λi j=>.int (MK.bitAnd i j)):=pF λ_ _ _ _ _ _ _ q=>and_int q
def zK{g:Int->Int}
 (rule:∀(i:Int)(t:Tok)(s:Ln)(Q:Ll->Ln->Prop)(E:Ll->Ln->Prop),Q (.int (g i) s.toks) { s with toks:=s.toks+1 }->wpAny (model X.prog X.w) X.A (f (.int i t)) Q E s) :
 pD X f (rU λi=>.int (g i)):=by
 intro d s j H x v Q I e h;obtain⟨i,rfl,q⟩:=h;obtain⟨t,rfl⟩:=e;exact rule i t s _ _ ⟨.int _,H,I.tok _,⟨_,rfl⟩,q⟩
def zL:pD X (unaryOp .USub) (rU λi=>.int (-i)):=zK λ_ _ _ _ _ q=>neg_int q
def fF:cb X (compareOp .Lt) (dU λi j=>.bl (decide (i<j))):=mW λ_ _ _ _ _ _ _ q=>lt_int q
def fG:cb X (compareOp .LtE) (dU λi j=>.bl (decide (i<=j))):=mW λ_ _ _ _ _ _ _ q=>le_int q
def ix:cb X (compareOp .Gt) (dU λi j=>.bl (decide (j<i))):=mW λ_ _ _ _ _ _ _ q=>gt_int q
def iy:cb X (compareOp .GtE) (dU λi j=>.bl (decide (j<=i))):=mW λ_ _ _ _ _ _ _ q=>ge_int q
def cb.or(h:cb X f r)(h':cb X f e):cb X f (λx y H Q=>r x y H Q\/e x y H Q):=by
 intro d s g H x y v u Q I i j q;rcases q with q | q
 .exact h d s g H x y v u Q I i j q
 .exact h' d s g H x y v u Q I i j q
def bL(b:Expr)(h:autoParam (d≠.In) au1._auto_1)(e:autoParam (d≠.NotIn) au1._auto_1):behindInMarks d b=false:=by
 have f:(d == SG.In)=false:=by cases d<;>first | rfl | exact absurd rfl h
 have g:(d == SG.NotIn)=false:=by cases d<;>first | rfl | exact absurd rfl e
 cases b<;>simp[behindInMarks,f,g]
def zM(f:cb X (compareOp e) r)(g:PE X a ta)(i:PE X b tb)(j:behindInMarks e b=false):PE X (.Compare a [e] [b] pos) (lz r ta tb):=by
 intro d s l H Q I h;exact wpAny_Compare1 (pE g i I h λv u m x y n o p w q=>f d m l n x y v u Q o p w q) j
def tm(t:TE):TT:=λd H Q=>t d H λx e=>∃k,x=.bl k/\Q k e
def zN(i:cb X (compareOp f) r)(j:PE X a ta)(l:PE X b tb)(m:behindInMarks f b=false):PT X (.Compare a [f] [b] pos) (tm (lz r ta tb)):=by
 intro d s g H Q I h;refine Te (aI (j d s g H _ I h) λv n ⟨x,o,p,q,w⟩=>aI (l d n g o _ p w) λu A ⟨y,B,C,D,E⟩=>
  aI (i d A g B x y v u _ C q D E) λc O ⟨z,G,J,L,k,e,N⟩=>?_) m
 subst e;cases L;exact NJ ⟨G,J,N⟩
def tq(r f:R2)(ta tb tc:TE):TE:=λd H Q=>ta d H λx g=>tb d g λy h=>r x y h λz e=>∃k,z=.bl k/\
 (if k=true then tc d e λi j=>f y i j Q else Q (.bl false) e)
def zO(w:cb X (compareOp j) r)(l:cb X (compareOp g) m)(A:PE X a ta)(B:PE X b tb)(C:PE X c tc)
 (D:autoParam (lastMarks [j,g] [b,c]=false) au5._auto_1):PE X (.Compare a [j,g] [b,c] pos) (tq r m ta tb tc):=by
 intro f s i H Q I h;refine Compare_chain (aI (A f s i H _ I h) λv E ⟨x,G,J,L,N⟩=>chain_link (aI (B f E i G _ J N) λu O ⟨y,T,U,n,Y⟩=>
  aI (w f O i T x y v u _ U L n Y) λd s3 ⟨z,o,p,r3,k,e,q⟩=>?_)) D
 subst e;cases r3;refine NJ ?_;cases k with
 | false=>exact ite_ff ⟨.bl false,o,p,rfl,q⟩
 | true=>exact ite_tt (chain_last (aI (C f s3 i o _ p q) λw' s4 ⟨z',H4,I4,r4,q4⟩=>l f s4 i H4 y z' u w' Q I4 n r4 q4))
def pG:(sizeLine:Nat)<2 ^ 63:=by decide
def d8(r:aA [x] d):∃u,d=[u]/\RelV x u:=by
 cases r with
 | cons e f=>cases f;exact⟨_,rfl,e⟩
def pH(r:aA [x,y] d):∃u e,d=[u,e]/\RelV x u/\RelV y e:=by
 cases r with
 | cons f g=>
   cases g with
   | cons h i=>cases i;exact⟨_,_,rfl,f,h⟩
end
structure dY(h:Heap)(x dx C:Addr)(mA:Str->Option Ll):Prop where
 obj:h.get? x=some (Oh C dx)
 ns:h.Ns1 dx mA
 ne:dx≠x
def tu{h:Heap}(n:h.Ns1 d f):∃g,h.get? d=some g/\∀b,RN b g=some (f b):=by
 obtain⟨o,i,u,j,l,m,_,p⟩:=n;refine⟨o,j,λb=>?_⟩;have e:=p b;unfold nsFind findBy at e;rw[<-Array.find?_toList]at e;unfold RN;rw[l];dsimp only;split
 .rename_i y q;rw[q]at e;exact congrArg some e
 .rename_i q;rw[q]at e;have a:i.toList.any (·.refKey)=false:=by
   rw[List.any_eq_false];intro y r;obtain⟨z,t,c⟩:=m y (Array.mem_toList_iff.mp r);simp[Qa.refKey,c]
  have s:¬i.toList.any (·.refKey)=true:=by rw[a];exact MO
  rw[if_neg s];exact congrArg some e
def dY.look(I:dY h x c C d):∃b,PySem.W.InstAt h x (Oh C c) C (some b)/\∀a,RN a b=some (d a):=
 let⟨b,e,f⟩:=tu I.ns
 ⟨b,⟨I.obj,rfl,rfl,e⟩,f⟩
def zP{K:Lm}(X:K.In s.heap)(I:dY s.heap x dx C mA)(c:QM K C name=true)(d:RS K C=true)
 (e:NQ K (.ref C) name=some none) (g:mA name=some v) (b:PySem.W.handedIn v=true) (h:Q v { s with toks:=s.toks+1 }) :
 wpAny (model prog w) A (getAttr (.ref x) name a) Q E s:=by
 obtain⟨j,J,i⟩:=I.look;exact PySem.W.get_value X J (Rn c).1 (PySem.W.findObj_own d e rfl (by rw[i,g])) b h
def zQ{K:Lm}(X:K.In s.heap)(I:dY s.heap x dx C mA)(a:QM K C name=true)
 (c:NQ K (.ref C) name=some (some (.ref f))) (d:Ux K (.ref f)=true) (e:mA name=none) (h:Q (.ref f,[.ref x]) s) :
 wpAny (model prog w) A (getMethod (.ref x) name b) Q E s:=by
 obtain⟨g,J,i⟩:=I.look;exact PySem.W.method_fn X J (Rn a).1 (Rn a).2 c (beq_iff_eq.mp d) (by show(RN name g).map _=some false;rw[i,e];rfl) h
def zR{K:Lm}(X:K.In s.heap)(I:dY s.heap x dx C mA)
 (hs:NQ K (.ref C) "__setattr__" = some (some (.builtin "object.__setattr__"))) (hp:PySem.W.plainOver K C=true) (ht:Tg K C name=some none) (hh:RS K C=true)
 (hw:RF mA ns) (hsz:ns.length<=sizeLine)
 (h:∀h',dY h' x dx C (λy=>if y=name then some v else mA y)->MA dx s.heap h'->Q () { s with heap:=h',toks:=s.toks+2 }) :
 wpAny (model prog w) A (setAttr (.ref x) name v) Q E s:=by
 obtain⟨od,J,hl⟩:=I.look;refine PySem.W.set_plain X J hs (PySem.W.osa_open X J hp ht λb=>?_);obtain⟨cd,hc,hd'⟩:=PySem.W.any_some hh;have hx:=I.obj;refine L0 (Lk (L0 (L0 (TM hx (L0 (PySem.W.Looks.here (PySem.W.looks_clsIn X hc) ?_))))));rw[hd'];refine Lk (L0 (Lk (L0 ?_)));refine wpAny_nsSet1 I.ns λh' hn2 hs2=>?_;obtain⟨oD,esD,epD,hoD,hdD,hcD⟩:=hn2.count (RF.cons name v hw);refine L0 (wpAny_lookBehind hoD (by rw[hdD];exact pastItsLine_dict (LW hcD (by rw[Me];symm))) ?_);exact Lk (h _ ⟨(hs2.2 _ (Na I.ne)).trans I.obj,hn2,I.ne⟩ hs2)
def zS{K:Lm}(X:K.In s.heap)(d:PySem.W.makesIn K C=true)
 (e:NQ K (.ref C) "__init__" = some (some (.ref f))) (g:PySem.W.typeIn K (.ref f)=some (.type "function"))
 (h:codeAny (model prog w) (A.under (.builtin "type.__call__" ⟨.ref C::vs,b⟩)) (.call (.ref f) ⟨.ref (s.heap.objs.size+1)::vs,b⟩) (PySem.W.InitBack (s.heap.objs.size+1) R)
  { s with heap:=(s.heap.push Ox).push (Oh C s.heap.objs.size) }) :
 codeAny (model prog w) A (.call (.ref C) ⟨vs,b⟩) R s:=by
 exact PySem.W.make_core (PySem.W.makes_of X d) (TB X e) (λa=>PySem.W.bind_fn X a g) (.inl rfl) h
noncomputable def Y5(f:Str)(v:V):List (Str×V)->List (Str×V)
 | []=>[(f,v)]
 | (g,x)::r=>if g=f then(g,v)::r else(g,x)::Y5 f v r
theorem tw(f g:Str)(v:V):∀fs:List (Str×V),(Y5 f v fs).lookup g=if g=f then some v else fs.lookup g
 | []=>by
   show PN g [(f,v)]=_;by_cases h:g=f
   .have a:(g == f)=true:=beq_iff_eq.mpr h;simp only[PN,a,if_pos h]
   .have a:(g == f)=false:=beq_eq_false_iff_ne.mpr h;simp only[PN,a,if_neg h]
 | (k,x)::r=>by
   have ih:=tw f g v r;rw[show Y5 f v ((k,x)::r)=(if k=f then(k,v)::r else(k,x)::Y5 f v r)from rfl];by_cases b:k=f
   .rw[if_pos b];by_cases h:g=k
    .have a:(g == k)=true:=beq_iff_eq.mpr h;simp only[PN,a,if_pos (h.trans b)]
    .have a:(g == k)=false:=beq_eq_false_iff_ne.mpr h;simp only[PN,a,if_neg (λe:g=f=>h (e.trans b.symm))]
   .rw[if_neg b];by_cases h:g=k
    .have a:(g == k)=true:=beq_iff_eq.mpr h;simp only[PN,a,if_neg (λe:g=f=>b (h.symm.trans e))]
    .have a:(g == k)=false:=beq_eq_false_iff_ne.mpr h;simp only[PN,a];exact ih
theorem pI(f:Str)(v:V):∀fs:List (Str×V),f∈(Y5 f v fs).map (·.1)/\∀g,g∈fs.map (·.1)->g∈(Y5 f v fs).map (·.1)
 | []=>⟨by simp[Y5],λg h=>by simp at h⟩
 | (k,x)::r=>by
   obtain⟨b,c⟩:=pI f v r;rw[show Y5 f v ((k,x)::r)=(if k=f then(k,v)::r else(k,x)::Y5 f v r)from rfl];by_cases a:k=f
   .rw[if_pos a];subst a;exact⟨by simp,λg h=>by simpa using h⟩
   .rw[if_neg a];refine⟨?_,λg h=>?_⟩
    .rw[LX];exact LC _ b
    .rw[LX]at h ⊢;rcases Lu.mp h with e | e
     .exact Lu.mpr (.inl e)
     .exact LC _ (c g e)
theorem tz(f:Str)(v:V):∀fs:List (Str×V),(Y5 f v fs).length<=fs.length+1
 | []=>by simp[Y5]
 | (k,x)::r=>by
   have ih:=tz f v r;rw[show Y5 f v ((k,x)::r)=(if k=f then(k,v)::r else(k,x)::Y5 f v r)from rfl];by_cases a:k=f
   .rw[if_pos a,Me,Me];symm
   .rw[if_neg a,Me,Me];symm
def bT.some_of(r:bT (some v) o):∃u,o=some u/\RelV v u:=by
 cases o with
 | none=>exact(show False from r).elim
 | some u=>exact⟨u,rfl,r⟩
def bT.none_of(r:bT none o):o=none:=by
 cases o with
 | none=>rfl
 | some u=>exact(show False from r).elim
def dn(r:RelV v u):PySem.W.handedIn u=true:=by
 cases v with
 | non=>cases(show u=_ from r);rfl
 | bl b=>cases(show u=Ut b from r);rfl
 | int i=>obtain⟨t,e⟩:=(show ∃t,u=OU i t from r);cases e;rfl
 | str x=>obtain⟨t,e⟩:=(show ∃t,u=Uj x t from r);cases e;rfl
 | byt b=>obtain⟨t,e⟩:=(show ∃t,u=Ll.bytes b t from r);cases e;rfl
 | flt b=>obtain⟨t,e⟩:=(show ∃t,u=UI b t from r);cases e;rfl
 | ref a=>cases(show u=LJ a from r);rfl
 | ty n=>cases(show u=Ll.type n from r);rfl
def mY(c:bV P w H h)(e:H a=some (.ins C dx fs)):∃b,dY h a dx C b/\(∀f,bT (fs.lookup f) (b f))/\RF b (fs.map (·.1))/\fs.length<=1000/\H dx=some (.own a):=by
 obtain⟨d,z,ne,g,b,n,r,q⟩:=(show aF P w H h a _ from c a _ e);exact⟨b,⟨g,n,ne⟩,r,q,z,d⟩
structure dC(K:Lm)(C:Addr):Prop where
 pg:QM K C Str.empty=true
 hd:RS K C=true
 po:PySem.W.plainOver K C=true
 sa:NQ K (.ref C) "__setattr__" = some (some (.builtin "object.__setattr__"))
def dC.get{K:Lm}(c:dC K C)(f:Str):QM K C f=true:=c.pg
def bM(K:Lm)(C:Addr)(f:Str):Prop:=NQ K (.ref C) f=some none
def bM.taker{K:Lm}(n:bM K C f):Tg K C f=some none:=by
 unfold Tg;rw[show NQ K _ f=some none from n];rfl
structure iz(K:Lm)(C:Addr)(m:Str)(f:Addr):Prop where
 at_:NQ K (.ref C) m=some (some (.ref f))
 fn:Ux K (.ref f)=true
 kp:Od K (.ref f)=true
def zT(I:Inv X pins σ H s)(e:H a=some (.ins C dx fs))(c:dC X.K C)(n:bM X.K C f)(l:fs.lookup f=some v)
 (h:∀u d,Inv X pins σ H d->RelV v u->Q u d):wpAny (model X.prog X.w) A (getAttr (.ref a) f b) Q E s:=by
 obtain⟨j,O,r,_,_,_⟩:=mY I.hok e;obtain⟨u,i,g⟩:=bT.some_of (by rw[<-l];exact r f);exact zP I.kIn O (c.get f) c.hd n i (dn g) (h u _ (I.tok _) g)
def p4(I:Inv X pins σ H s)(e:H a=some (.ins C dx fs))(c:dC X.K C)(k:iz X.K C m g)(l:fs.lookup m=none)
 (h:Q (.ref g,[.ref a]) s):wpAny (model X.prog X.w) A (getMethod (.ref a) m b) Q E s:=by
 obtain⟨i,O,r,_,_,_⟩:=mY I.hok e;have d:=bT.none_of (by rw[<-l];exact r m);exact zQ I.kIn O (c.get m) k.at_ k.fn d h
def zU(I:Inv X pins σ H s)(e:H a=some (.ins C dx fs))(c:dC X.K C)(n:bM X.K C f)(T:fs.length<1000)(m:RelV y u)
 (h:∀i,Inv X pins σ (aB H a (.ins C dx (Y5 f y fs))) i->Q () i):wpAny (model X.prog X.w) A (setAttr (.ref a) f u) Q E s:=by
 obtain⟨p,O,r,j,_,l⟩:=mY I.hok e;have x:(fs.map (·.1)).length<=sizeLine:=by rw[Lo,OF];symm
 refine zR I.kIn O c.sa c.po n.taker c.hd j x λB d D=>h _ ?_;have G:∃o,B.get? dx=some o:=let⟨o,_,_,J,_⟩:=d.ns;⟨o,J⟩;refine I.write (by rw[e];exact Of) (.inr l) (λb q L z=>(D.2 b L).trans z) G ?_;refine⟨by rw[aj O.ne];exact l,?_,O.ne,d.obj,_,d.ns,λg=>?_,λg N=>?_⟩
 .have:=tz f y fs;symm
 .show bT _ _;rw[tw];by_cases q:g=f
  .rw[if_pos q,if_pos q];exact m
  .rw[if_neg q,if_neg q];exact r g
 .by_cases q:g=f
  .rw[q];exact(pI f y fs).1
  .refine(pI f y fs).2 g (j g λz=>N ?_);show(if g=f then some u else p g)=none;rw[if_neg q];exact z
def Inv.made(I:Inv X pins σ H s):Inv X pins σ (aB (aB H s.heap.objs.size (.own (s.heap.objs.size+1))) (s.heap.objs.size+1) (.ins C s.heap.objs.size []))
 { s with heap:=(s.heap.push Ox).push (Oh C s.heap.objs.size) }:=by
 have d:(s.heap.push _).get? _=some Ox:=Lq _ rfl;have g:((s.heap.push Ox).push (Oh C s.heap.objs.size)).get? (s.heap.objs.size+1)=some (Oh C s.heap.objs.size):=by
  have:=Lq (s.heap.push Ox) (o:=Oh C s.heap.objs.size) rfl
  rwa [ME]at this
 have h:(s.heap.push _).Ns _ _:=⟨Ox,#[],_,d,rfl,(λe i=>absurd i (by simp)),λ_=>rfl⟩;have j:=I.laid (o:=.own (s.heap.objs.size+1)) (t':=s.toks) (λb u q=>L3 _ q) (Lp _) ⟨_,d⟩;refine j.laid (λb u q=>L3 _ q) (Th (ME _ _)) ?_;have ne:_≠s.heap.objs.size+1:=Ly (Nh _);refine⟨by rw[aj ne,C2],OG _,ne,g,λ_=>none,(Heap.Ns1.of_empty h).at λo q=>L3 _ q,λ_=>Of,λy l=>absurd rfl l⟩
def tD(g:attributeBase e f b (eval e b)=eval e b)
 (h:wpAny (model prog w) A (eval e b) (λo c=>wpAny (model prog w) A (getAttr o f true) Q E c) E s):wpAny (model prog w) A (eval (.Attribute e f d) b) Q E s:=
 Attribute_any_ h (by rw[arm_eval_Attribute,g])
def zV(K:Lm)(c:TE)(f:Str):TE:=λd H Q=>c d H λx b=>∃a C e fs v,x=.ref a/\b a=some (.ins C e fs)/\dC K C/\bM K C f/\fs.lookup f=some v/\Q v b
def sFld(K:Lm)(e tv:TE)(f:Str):TS:=λD b H=>tv b H λy g=>e b g λx c=>∃a C d fs,x=.ref a/\c a=some (.ins C d fs)/\dC K C/\bM K C f/\fs.length<1000/\
 D.nx b (aB c a (.ins C d (Y5 f y fs)))
def zW(he:PE X e ta)(d:attributeBase e f X.env (eval e X.env)=eval e X.env):PE X (.Attribute e f pos) (zV X.K ta f):=by
 intro b s g H Q I h;refine tD d (aI (he b s g H _ I h) λu A i=>?_);obtain⟨x,j,m,p,a,C,B,fs,v,r,w,c,n,l,q⟩:=i;subst r;obtain rfl:u=LJ a:=p;exact zT m w c n l λD E y z=>⟨v,j,y,z,q⟩
def zX(g:PE X o ta)(i:PE X value tv)(hs:swapsWith value (some (.Attribute o f pos')) pos.line X.env=pure false):PS X (.Assign [.Attribute o f pos'] value pos) (sFld X.K ta tv f):=by
 intro b s d H D I h;refine Qr (aI (i b s d H _ I h) λu j ⟨y,m,p,r,q⟩=>aI (g b j d m _ p q) λov J v=>?_) hs;obtain⟨x,L,w,z,a,C,N,fs,A,B,c,n,l,E⟩:=v;subst A;obtain rfl:ov=LJ a:=z;exact zU w B c n l r λO G=>⟨d,_,G,E⟩
section
variable{X:Cx}{pins:List (Addr×Obj)}{σ:St}{H:Hp}{s:Ln}{A:Mq}{E:Ll->Ln->Prop}{Q:Ll->Ln->Prop}{c:Ll}{b:Bool}
inductive eN (K:Lm) (H:Hp):V->Ll->Prop where
 | non:eN K H .non (.type "NoneType")
 | bl (x:Bool):eN K H (.bl x) (.type "bool")
 | int (i:Int):eN K H (.int i) (.type "int")
 | str (x:Str):eN K H (.str x) (.type "str")
 | flt (x:UInt64):eN K H (.flt x) (.type "float")
 | lst {a:Addr} {xs:List V} (e:H a=some (.lst xs)):eN K H (.ref a) (.type "list")
 | frz {a:Addr} {o:Obj} {xs:List V} (e:H a=some (.frz o (.lst xs))):eN K H (.ref a) (.type "list")
 | tup {a:Addr} {xs:List V} (e:H a=some (.tup xs)):eN K H (.ref a) (.type "tuple")
 | dK {a:Addr} {kvs:List (Key×V)} (e:H a=some (.dK kvs)):eN K H (.ref a) (.type "dict")
 | dT {a:Addr} {kvs:List (List Key×V)} (e:H a=some (.dT kvs)):eN K H (.ref a) (.type "dict")
 | ins {a C dx:Addr} {fs:List (Str×V)} (e:H a=some (.ins C dx fs)) (cl:dC K C) (ha:NQ K (.ref C) "__class__" = some (some (.builtin "object.__class__")))
  (hn:PySem.W.specialIn K (.builtin "object.__class__") "__get__" = some (some (.builtin "getset_descriptor.__get__"))) (htk:PySem.W.takesIn K (.builtin "object.__class__")=some true)
  (hm:PySem.W.mroIn K C (.type "object")=some true):eN K H (.ref a) (.ref C)
def zY(I:Inv X pins σ H s)(d:RelV x u)(z:eN X.K H x t)(e:PySem.W.kitOne X.K t c=some b)(h:∀B,Q (.bool b) { s with toks:=B }) :
 wpAny (model X.prog X.w) A (call (.builtin "isinstance") [u,c]) Q E s:=by
 cases z with
 | non=>cases(show u=_ from d);exact Np PySem.W.kitx_none I.kIn Of e nofun h
 | bl y=>cases(show u=Ut y from d);exact Np PySem.W.kitx_bool I.kIn Of e nofun h
 | int i=>obtain⟨t,q⟩:=(show ∃t,u=OU i t from d);cases q;exact Np PySem.W.kitx_int I.kIn Of e nofun h
 | str y=>obtain⟨t,q⟩:=(show ∃t,u=Uj y t from d);cases q;exact Np PySem.W.kitx_str I.kIn Of e nofun h
 | flt y=>obtain⟨t,q⟩:=(show ∃t,u=UI y t from d);cases q;exact Np PySem.W.kitx_float I.kIn Of e nofun h
 | @lst a l f=>
   cases(show u=LJ a from d);obtain⟨_,_,n,_,g⟩:=(show aF _ X.w H _ a _ from I.hok a _ f);exact Np PySem.W.kitx_list I.kIn ⟨_,g,rfl⟩ e nofun h
 | @frz a U l f=>
   cases(show u=LJ a from d);obtain⟨_,_,_,n,_,g⟩:=(show aF _ X.w H _ a _ from I.hok a _ f);exact Np PySem.W.kitx_list I.kIn ⟨_,g,rfl⟩ e nofun h
 | @tup a l f=>
   cases(show u=LJ a from d);obtain⟨_,_,_,p⟩:=(show aF _ X.w H _ a _ from I.hok a _ f);obtain⟨o,g,j,_⟩:=p;exact Np PySem.W.kitx_tuple I.kIn ⟨o,g,j⟩ e nofun h
 | @dK a m f=>
   cases(show u=LJ a from d);obtain⟨_,_,Y,_,p⟩:=(show aF _ X.w H _ a _ from I.hok a _ f);obtain⟨o,D,G,g,j,_⟩:=p;exact Np PySem.W.kitx_dict I.kIn ⟨o,g,j.1⟩ e nofun h
 | @dT a m f=>
   cases(show u=LJ a from d);obtain⟨_,_,l,_,o,D,G,g,j,_⟩:=(show aF _ X.w H _ a _ from I.hok a _ f);exact Np PySem.W.kitx_dict I.kIn ⟨o,g,j.1⟩ e nofun h
 | @ins a C dx fs f v L N r T=>
   cases(show u=LJ a from d);obtain⟨mA,O,_⟩:=mY I.hok f;obtain⟨od,J,_⟩:=O.look;exact Np (PySem.W.kitx_own (v.get _) v.hd L N r T) I.kIn J e nofun h
end
structure aN(k:Nat)(A:Mq):Prop where
 hd:A.handled=none
 dp:A.depth+3*k+5<recursionLimit
 un:A.units+16*k+200<cLine
def aN.mono(r:aN k A)(h:j<=k):aN j A:=⟨r.hd,by have:=r.dp;symm,by have:=r.un;symm⟩
def aN.deeper(r:aN (k+1) A)(a:Env):aN k (A.deeper a):=
 ⟨r.hd,by have:=r.dp;show _+1+3*k+5<_;symm,by have:=r.un;show _+3+16*k+200<_;symm⟩
def zZ{A:Mq}:(A.under (.builtin "type.__call__" ⟨.ref C::a,b⟩)).depth=A.depth+1:=rfl
def z3{A:Mq}:(A.under (.builtin "type.__call__" ⟨.ref C::a,b⟩)).units=A.units+1:=rfl
def aN.make(r:aN (k+1) A)(C:Addr)(a:List Ll)(b:List (Str×Ll)):aN k (A.under (.builtin "type.__call__" ⟨.ref C::a,b⟩)):=
 ⟨r.hd,by have:=r.dp;rw[zZ];symm,by have:=r.un;rw[z3];symm⟩
def aN.depth(r:aN k A):A.depth<recursionLimit:=by have:=r.dp;symm
def aN.units(r:aN k A):A.units+64<cLine:=by have:=r.un;symm
def tNil:TA:=λ_ H Q=>Q [] H
def z4(b:TE)(c:TA):TA:=λa H Q=>b a H λx d=>c a d λe f=>Q (x::e) f
section
variable{X:Cx}{e:Expr}{es:List Expr}{te:TE}{t:TA}{pos:Pos}
def pJ:PA X [] tNil:=λ_ _ _ _ H Q I h=>Pb ⟨[],H,I,.nil,h⟩
def v8(c:PE X e te)(d:PA X es t)(hs:autoParam (starEach (e::es) X.env=(false,eval e X.env)::starEach es X.env) au0._auto_1):PA X (e::es) (z4 te t):=by
 intro pos a s b H Q I h;rw[hs];show wpAny _ _ (spliced ((false,eval e _)::backTo pos _)) _ _ s;refine NW (aI (c a s b H _ I h) λu f g=>?_);obtain⟨x,i,j,l,m⟩:=g;exact aI (d pos a f b i _ j m) λv w ⟨n,o,p,q,r⟩=>⟨x::n,o,p,.cons l q,r⟩
def z5(t:TA):TE:=λc H Q=>t c H λa b=>a.length<=sizeLine/\∀p,b p=none->Q (.ref p) (aB b p (.tup a))
def z6(t:TA):TE:=λc H Q=>t c H λa b=>a.length<=sizeLine/\∀p,b p=none->Q (.ref p) (aB b p (.lst a))
def Aa{f}(h:PA X es t):PE X (.Tuple es f pos) (z5 t):=by
 intro a s g H Q I i;refine wpAny_Tuple_spliced (aI (h pos a s g H _ I i) λj m ⟨n,c,d,r,z,q⟩=>⟨by rw[<-r.length];exact z,?_⟩);have l:c _=none:=d.hok.fresh (Lp _);refine⟨.ref _,aB c _ _,d.laid (λb u e=>L3 _ e) (Lp _) ?_,rfl,q _ l⟩;exact⟨z,j,r,⟨_,Lq _ rfl,rfl,_,rfl⟩⟩
def Ab(h:PA X es t):PE X (.List es pos) (z6 t):=by
 intro a s f H Q I g;refine wpAny_List_spliced (aI (h pos a s f H _ I g) λi l ⟨m,c,d,r,z,q⟩=>⟨by rw[<-r.length];exact z,?_⟩);have j:c _=none:=d.hok.fresh (Lp _);refine⟨.ref _,aB c _ _,d.laid (λb u e=>L3 _ e) (Lp _) ?_,rfl,q _ j⟩;exact⟨z,i,0,r,Lq _ rfl⟩
end
abbrev Sp:=List V->Hp->VK->XK->Prop
abbrev CXT:=List Env->Hp->Ln->XK->Ll->Ln->Prop
structure dZ(P:LK)(w:Mv)(K:Lm)(mg:Str->Option Ll)(base:Heap)(A:Mq)(outer:List Env)(s:Ln)(H:Hp):Prop where
 frames:A.frames=some outer
 mod:Mod K mg base
 bs:∀b o,base.get? b=some o->s.heap.get? b=some o/\H b=none
 bsz:base.objs.size<=s.heap.objs.size
 funs:s.heap.FunFrames base outer
 frf:∀b∈frs outer,H b=none
 hok:bV P w H s.heap
 bare:Sj s.gens
def CE(a:List Env)(P:LK)(w:Mv)(H:Hp)(s:Ln)(Q:VK)(u:Ll)(b:Ln):Prop:=
 ∃v c,b.os=s.os/\Sj b.gens/\Un (frs a) [] H c s.heap b.heap/\bV P w c b.heap/\RelV v u/\Q v c
def CR(c:CXT)(a:List Env)(P:LK)(w:Mv)(H:Hp)(s:Ln)(Q:VK)(E:XK)(r:Uy)(b:Ln):Prop:=
 match r with
 | .ok (.ret u)=>CE a P w H s Q u b
 | .ok _=>False
 | .error e=>c a H s E e b
structure az(P:LK)(w:Mv)(K:Lm)(mg:Str->Option Ll)(base:Heap)(CX:CXT)(k:Nat)(f:Addr)(fd:LN)(ps:List Str)(sp:Sp):Prop where
 len:∀vs H Q E,sp vs H Q E->vs.length=ps.length
 run:∀(A:Mq)(outer:List Env)(s:Ln)(H:Hp)(args:Args)(us:List Ll)(vs:List V)(Q:VK)(E:XK),aN k A->dZ P w K mg base A outer s H->UQ s fd args (ps.zip us)->aA vs us->sp vs H Q E->
  codeAny (model P w) A (.call (.ref f) args) (CR CX outer P w H s Q E) s
def az.imp{K:Lm}(F:az P w K mg base e k f g ps i)
 (h:∀b H Q E,c b H Q E->i b H Q E):az P w K mg base e k f g ps c:=
 ⟨λb H Q E q=>F.len b H Q E (h _ _ _ _ q),λA a s H d j b Q E l m n o p=>F.run A a s H d j b Q E l m n o (h _ _ _ _ p)⟩
def dZ.make{K:Lm}(e:dZ P w K mg base A a s H)(C:Addr)(b:List Ll)(c:List (Str×Ll)) :
 dZ P w K mg base (A.under (.builtin "type.__call__" ⟨.ref C::b,c⟩)) a s H:=⟨by first | exact e.frames | (simpa[_]using _),e.mod,e.bs,e.bsz,e.funs,e.frf,e.hok,e.bare⟩
def Inv.env0(I:Inv X pins σ H s):dZ X.prog X.w X.K X.mg X.base X.A X.stack s H:=
 ⟨I.ok.frames,I.ok.mod,I.bs,LW I.ok.bsz I.sz,I.stack,I.stkFree,I.hok,I.bare⟩
def Inv.after(I:Inv X pins σ H s)(h:CE X.stack X.prog X.w H s Q u s'):EP X pins σ Q u s':=by
 obtain⟨v,f,os,a,un,c,r,q⟩:=h;obtain⟨i,g,d,t,e⟩:=s';obtain rfl:e=s.os:=os;exact⟨v,f,I.call un c a (λb z=>absurd z (by simp)),r,q⟩
def tE(b:Sp)(a:List V)(E:XK)(t:TA):TE:=λc H Q=>t c H λd e=>b (d++a) e Q E
def pK(C:Addr)(m:Str)(e:Sp)(b:List V)(E:XK)(f:TE)(t:TA):TE:=λc H Q=>f c H λx d=>∃a g fs,x=.ref a/\d a=some (.ins C g fs)/\fs.lookup m=none/\
 t c d λh i=>e (x::(h++b)) i Q E
def tF(C:Addr)(d:Sp)(b:List V)(E:XK)(t:TA):TE:=λe H Q=>t e H λf c=>∀x a,c x=none->c a=none->a≠x->
 d (.ref x::(f++b)) (aB (aB c a (.own x)) x (.ins C a [])) (λv g=>v=.non/\Q (.ref x) g) E
def Binds(K:Lm)(c:LN)(ps:List Str)(b:List Ll):Prop:=
 ∀(s:Ln)(a:List Ll),K.In s.heap->(a++b).length=ps.length->UQ s c ⟨a,[]⟩ (ps.zip (a++b))
def Binds.all{K:Lm}(h:∀a:List Ll,a.length=ps.length->bindArgs b ⟨a,[]⟩=pure (ps.zip a)):Binds K b ps []:=λs a _ c=>by
 rw[MM]at c ⊢;exact .of_eq (h a c)
def p5(c:CXT)(X:Cx)(E:XK):Prop:=∀(a:List (Addr×Obj))(σ:St)(H:Hp)(s:Ln)(e:Ll)(b:Ln),Inv X a σ H s->c X.stack H s E e b->X.xe e b
section
variable{X:Cx}{CX:CXT}{k:Nat}{f C:Addr}{fd:LN}{ps:List Str}{sp:Sp}{dvs:List V}{ds:List Ll}{E:XK}{x m:Str}{p pos apos:Pos}{e o:Expr}{es:List Expr}{ta:TE}{t:TA}
def pL(F:az X.prog X.w X.K X.mg X.base CX k f fd ps sp)(g:aN k X.A)(i:Binds X.K fd ps ds)(j:aA dvs ds)(l:p5 CX X E)
 (I:Inv X a σ H s) (r:aA vs b) (h:sp (vs++dvs) H Q E):wpAny (model X.prog X.w) X.A (call (.ref f) b) (EP X a σ Q) X.xe s:=by
 have d:=r.append j;have n:(b++ds).length=ps.length:=by rw[<-d.length];exact F.len _ _ _ _ h
 refine Pc (Oe (F.run X.A _ s H ⟨b,[]⟩ _ _ Q E g I.env0 (i s b I.kIn n) d h) λr q c=>?_);cases r with
 | error e=>exact l a σ H s e q I c
 | ok v=>
   cases v with
   | ret u=>exact I.after c
   | next=>exact Mb c
   | brk=>exact Mb c
   | cont=>exact Mb c
def Ac(F:az X.prog X.w X.K X.mg X.base CX k f fd ps sp)(g:aN k X.A)(i:Gl X x)(j:X.mg x=some (.ref f))(l:Od X.K (.ref f)=true)(n:Binds X.K fd ps ds)(u:aA dvs ds)(v:p5 CX X E)
 (y:PA X (e::es) t) (b:autoParam ((x == ("__debug__" : Str))=false) au1._auto_1) (he:autoParam (starEach (e::es) X.env=(false,eval e X.env)::starEach es X.env) au0._auto_1) (c:autoParam ((backTo pos (starEach es X.env)).any (·.1)=false) au0._auto_1) :
 PE X (.Call (.Name x p) (e::es) [] pos) (tE sp dvs E t):=by
 intro a s z H Q I h;refine OQ (v7 I i j ?_ b);refine OR (h₀:=_) I.ok.mod.kin l (aI (y pos a s z H _ I h) λB D ⟨G,J,d,r,q⟩=>⟨d.kIn,?_⟩) he c;exact pL F g n u v d r q
def Ad(he:PE X o ta)(c:dC X.K C)(i:iz X.K C m f)(F:az X.prog X.w X.K X.mg X.base CX k f fd ps sp)(z:aN k X.A)(B:Binds X.K fd ps ds)(D:aA dvs ds)(G:p5 CX X E)(J:PA X (e::es) t)
 (d:autoParam (starEach (e::es) X.env=(false,eval e X.env)::starEach es X.env) au0._auto_1) (g:autoParam ((backTo pos (starEach es X.env)).any (·.1)=false) au0._auto_1)
 (L:autoParam (eval (.Call (.Attribute o m apos) (e::es) [] pos) X.env=(do
  let ov <-eval o X.env
  standAt apos.atName
  let(f,first) <-holding [ov] (getMethod ov m y)
  callWith pos f first (backTo pos (starEach (e::es) X.env)) (backToKw pos (keywordEach [] X.env)))) au0._auto_1) :
 PE X (.Call (.Attribute o m apos) (e::es) [] pos) (pK C m sp dvs E ta t):=by
 intro b s j H Q I h;refine QD (aI (he b s j H _ I h) λu N O=>?_) L;obtain⟨x,T,n,U,a,dx,fs,Y,ea,l,q⟩:=O;subst Y;obtain rfl:u=LJ a:=U;refine p4 n ea c i l ?_;refine OR I.ok.mod.kin i.kp (aI (J pos b N j T _ n q) λus s2 ⟨vs,H2,v,r,q2⟩=>⟨v.kIn,?_⟩) d g;exact pL (vs:=.ref a::vs) F z B D G v (.cons rfl r) q2
def Ae(he:PE X o ta)(c:dC X.K C)(g:iz X.K C m f)(F:az X.prog X.w X.K X.mg X.base CX k f fd ps sp)(j:aN k X.A)(n:Binds X.K fd ps ds)(r:aA dvs ds)(v:p5 CX X E)
 (y:autoParam (eval (.Call (.Attribute o m apos) [] [] pos) X.env=(do
  let ov <-eval o X.env
  standAt apos.atName
  let(f,first) <-holding [ov] (getMethod ov m i)
  callWith pos f first (backTo pos (starEach [] X.env)) (backToKw pos (keywordEach [] X.env)))) au0._auto_1) :
 PE X (.Call (.Attribute o m apos) [] [] pos) (pK C m sp dvs E ta tNil):=by
 intro b s z H Q I h;refine QD (aI (he b s z H _ I h) λu L B=>?_) y;obtain⟨x,N,d,D,a,O,fs,G,J,l,q⟩:=B;subst G;obtain rfl:u=LJ a:=D;refine p4 d J c g l ?_;exact PySem.W.callWith_K0 d.kIn g.kp (pL (vs:=[.ref a]) F j n r v d (.cons rfl .nil) q)
structure Mk(K:Lm)(C f:Addr):Prop where
 makes:PySem.W.makesIn K C=true
 init:NQ K (.ref C) "__init__" = some (some (.ref f))
 fn:Ux K (.ref f)=true
 kp:Od K (.ref C)=true
def Af(M:Mk X.K C f)(F:az X.prog X.w X.K X.mg X.base CX k f fd ps sp)(l:aN (k+1) X.A)(n:Binds X.K fd ps ds)(q:aA dvs ds)
 (y:p5 CX X E) (I:Inv X a σ H s) (r:aA vs c)
 (h:∀x d,H x=none->H d=none->d≠x->sp (.ref x::(vs++dvs)) (aB (aB H d (.own x)) x (.ins C d [])) (λv z=>v=.non/\Q (.ref x) z) E) :
 wpAny (model X.prog X.w) X.A (call (.ref C) c) (EP X a σ Q) X.xe s:=by
 have i:=h _ _ (I.hok.fresh (NZ _)) (I.hok.fresh (Lp _)) (Ly (Nh _));have g:=Inv.made (C:=C) I;have j:aA (V.ref (s.heap.objs.size+1)::_) _:=.cons rfl (r.append q);have B:(LJ (s.heap.objs.size+1)::c++ds).length=ps.length:=by
  have e:=j.length;rw[F.len _ _ _ _ i]at e;exact e.symm
 refine Pc (zS I.kIn M.makes M.init (beq_iff_eq.mp M.fn) (Oe (F.run _ _ _ _ ⟨LJ _::c,[]⟩ _ _ _ E (l.make C c [])
  (g.env0.make C c []) (n _ _ g.kIn B) j i) λr D b=>?_))
 cases r with
 | error e=>exact y a σ _ _ e D g b
 | ok G=>
   cases G with
   | ret u=>
     obtain⟨v,J,L,N,O,T⟩:=g.after b;subst O;exact⟨N,⟨V.ref _,J,L,rfl,T⟩⟩
   | next=>exact Mb b
   | brk=>exact Mb b
   | cont=>exact Mb b
def Ag(M:Mk X.K C f)(F:az X.prog X.w X.K X.mg X.base CX k f fd ps sp)(g:aN (k+1) X.A)(i:Gl X x)(j:X.mg x=some (.ref C))(l:Binds X.K fd ps ds)(n:aA dvs ds)(u:p5 CX X E)
 (v:PA X (e::es) t) (b:autoParam ((x == ("__debug__" : Str))=false) au1._auto_1) (he:autoParam (starEach (e::es) X.env=(false,eval e X.env)::starEach es X.env) au0._auto_1) (c:autoParam ((backTo pos (starEach es X.env)).any (·.1)=false) au0._auto_1) :
 PE X (.Call (.Name x p) (e::es) [] pos) (tF C sp dvs E t):=by
 intro a s y H Q I h;refine OQ (v7 I i j ?_ b);refine OR (h₀:=_) I.ok.mod.kin M.kp (aI (v pos a s y H _ I h) λz B ⟨D,G,d,r,q⟩=>⟨d.kIn,?_⟩) he c;exact Af M F g l n u d r q
end
structure R7(N P:List Str)(sc:Si):Prop where
 kind:sc.kind=.function
 co:sc.isCoroutine=false
 gen:sc.isGenerator=false
 nd:N.Nodup
 pre:N.take P.length=P
 par:∀x∈P,sc.names.lookup x=some .local\/sc.names.lookup x=some .cell
 nofree:∀y∈sc.names,y.2≠.free
theorem tG{kindOf:Str->Option UR}:∀{binds:List (Str×Ll)}{m:Str->Option Ll},(∀v,(x,v)∉binds)->bindL kindOf binds m x=m x
 | [],_,_=>rfl
 | (n,v)::r,m,h=>by
   unfold bindL;rw[tG λw a=>h w (LC _ a)];split
   .have:x≠n:=by rintro rfl;exact h v Lz
    simp[this]
   .rfl
theorem tH{kindOf:Str->Option UR}:∀{binds:List (Str×Ll)}{m:Str->Option Ll},(∀v,(x,v)∉binds)->bindC kindOf binds m x=m x
 | [],_,_=>rfl
 | (n,v)::r,m,h=>by
   unfold bindC;rw[tH λw a=>h w (LC _ a)];split
   .rfl
   .have:x≠n:=by rintro rfl;exact h v Lz
    simp[this]
theorem tI{kindOf:Str->Option UR}:∀{P:List Str}{vs:List Ll}{i:Nat}{m:Str->Option Ll},P.Nodup->P[i]?=some x->vs[i]?=some v->kindOf x=some .local->
 bindL kindOf (P.zip vs) m x=some v
 | [],_,_,_,_,h,_,_=>by simp at h
 | _::_,[],_,_,_,_,h,_=>by simp at h
 | p::P,w::vs,0,m,c,a,b,d=>by
   simp at a b;subst a;subst b;show bindL kindOf ((p,w)::P.zip vs) m p=_;unfold bindL;rw[tG λv e=>(Nq.mp c).1 (Ti e).1,if_pos d];simp
 | p::P,w::vs,i+1,m,c,a,b,d=>by
   show bindL kindOf ((p,w)::P.zip vs) m x=_;unfold bindL;exact tI (i:=i) (Nq.mp c).2 (by simpa using a) (by simpa using b) d
theorem tJ{kindOf:Str->Option UR}:∀{P:List Str}{vs:List Ll}{i:Nat}{m:Str->Option Ll},P.Nodup->P[i]?=some x->vs[i]?=some v->kindOf x≠some .local->
 bindC kindOf (P.zip vs) m x=some v
 | [],_,_,_,_,h,_,_=>by simp at h
 | _::_,[],_,_,_,_,h,_=>by simp at h
 | p::P,w::vs,0,m,c,a,b,d=>by
   simp at a b;subst a;subst b;show bindC kindOf ((p,w)::P.zip vs) m p=_;unfold bindC;rw[tH λv e=>(Nq.mp c).1 (Ti e).1,if_neg d];simp
 | p::P,w::vs,i+1,m,c,a,b,d=>by
   show bindC kindOf ((p,w)::P.zip vs) m x=_;unfold bindC;exact tJ (i:=i) (Nq.mp c).2 (by simpa using a) (by simpa using b) d
noncomputable def start(N:List Str)(vs:List V):St:=vs.map some++Px (N.length - vs.length) none
noncomputable def v9(CX:CXT)(P:LK)(w:Mv)(K:Lm)(mg:Str->Option Ll)(base:Heap)(N:List Str)(qual:Str)(scope:Si)(f:Addr)(cd:Ll)(A:Mq)(outer:List Env)(s:Ln)(H:Hp)(E:XK):Cx where
 prog:=P
 w:=w
 K:=K
 mg:=mg
 base:=base
 A:=A.deeper (envOfC qual scope s.heap.objs.size f cd)
 N:=N
 s₀:=s
 H₀:=H
 env:=envOfC qual scope s.heap.objs.size f cd
 outer:=outer
 stack:=envOfC qual scope s.heap.objs.size f cd::outer
 ex:=[]
 calm:=true
 fn:=λ_=>true
 pn:=[]
 xe:=λe s'=>wpAny (model P w) (A.deeper (envOfC qual scope s.heap.objs.size f cd)) (leaving (envOfC qual scope s.heap.objs.size f cd) e) (λ_ s''=>CX outer H s E e s'') (λe' s''=>CX outer H s E e' s'') s'
def tK{a:Si}(h:a.names.lookup x=some .cell):∃c,(cellsFrom n a.names []).lookup x=some c:=by
 have q:=SU _ n [] (.inl h);exact RT.mp q
def Ah{K:Lm}
 (S:R7 N ps d) (T:A.handled=none) (m:dZ P w K mg base A g s H) (hl:vs.length=ps.length) (r:aA vs I)
 (x:InCallC s s.heap.objs.size (bindL (envOfC j d s.heap.objs.size f cd).kindOf (ps.zip I) λ_=>none) (cellsFrom (s.heap.objs.size+1) d.names []) (bindC (envOfC j d s.heap.objs.size f cd).kindOf (ps.zip I) λ_=>none) L) :
 Inv (v9 J P w K mg base N j d f cd A g s H E) [] (start N vs) H L:=by
 have U:ps.length<=N.length:=by have:=congrArg List.length S.pre;rw[MS]at this;symm
 obtain⟨D,tk,rfl,O⟩:=x.done;have n:∀b:Addr,b∉(v9 J P w K mg base N j d f cd A g s H E).ex:=λb z=>absurd (show b∈([])from z) nofun;refine⟨⟨m.mod,S.kind,rfl,rfl,Lp _,λy z c D l=>?_,λy o=>?_,λy c _ h=>?_,λ_=>T,Mq.frames_deeper m.frames,.inr ⟨rfl,rfl⟩,λb z=>absurd z (n b),m.bs,m.bsz,λb _ _=>n b,λb z=>absurd z (n b),m.funs,m.frf⟩,
  rfl,m.bare,Un.kept O,⟨_,x.toInCall.ns,λi y v D l h3=>?_⟩,λy c h=>⟨_,x.cell y c h⟩,m.hok.fresh (Lp _),λy c h=>?_,λp B=>absurd (show p∈([])from B) nofun,m.hok.kept O,?_⟩
 .exact name_of_addr x.apart (Nc D) (Nc l)
 .have o:=o;rcases o with o | o
  .exact tK o
  .exact absurd rfl (S.nofree _ (Nc o))
 .exact RH (x.above y c (Nc h))
 .have G:i<vs.length:=by
   unfold start at l;by_cases G:i<vs.length
   .exact G
   .rw[MB (by simpa using G)]at l;rw[Sl]at l;split at l<;>cases l
  have Y:vs[i]?=some v:=by
   unfold start at l;rw[LG (by simpa using G),LL]at l;cases e:vs[i]? with
   | none=>rw[e]at l;cases l
   | some a=>rw[e]at l;cases l;rfl
  obtain⟨u,Q,rv⟩:=r.get Y;have B:ps[i]?=some y:=by
   rw[<-S.pre,List.getElem?_take_of_lt (by symm)];exact D
  have C:ps.Nodup:=by rw[<-S.pre];exact S.nd.sublist (List.take_sublist _ _)
  refine⟨u,rv,?_⟩;rcases S.par y (Mm B)with k | k
  .exact .inl ⟨k,tI C B Q k⟩
  .obtain⟨c,e⟩:=tK k;refine .inr ⟨.inl k,c,e,?_⟩;have q:=x.cell y c e;rw[tJ C B Q (by show d.names.lookup y≠_;rw[k];decide)]at q;exact q
 .exact m.hok.fresh (RH (x.above y c (Nc h)))
 .unfold start;show _=N.length;rw[LR,Lo,List.length_replicate];symm
def pM{K:Lm}{dV kV z pm g ct oc:Ll}
    (lk:K.lookup f=some ⟨oc,od,.func (Om name d h i a dV kV z pm an g ct),G⟩) (O:Qy K g d=true) (S:R7 N ps a)
 (len:∀vs H Q E,L vs H Q E->vs.length=ps.length)
 (l:∀(A:Mq)(c:List Env)(s:Ln)(H:Hp)(vs:List V)(Q:VK)(E:XK),aN k (A.deeper (envOfC d a s.heap.objs.size f g))->L vs H Q E->
  ∃t,bZ (v9 D P w K mg base N d a f g A c s H E) i t/\t { nx:=λ_ H'=>Q .non H',rt:=Q } (start N vs) H) :
 az P w K mg base D (k+1) f (Om name d h i a dV kV z pm an g ct) ps L:=by
 refine⟨len,λA c s H a4 us vs Q E T B hb r C=>?_⟩;have hl:=len _ _ _ _ C;have KX:K.In _:=B.mod.kin.keeps λb o e=>(B.bs b o e).1;have U:=B.mod.nolimit.keeps λb o e=>(B.bs b o e).1;have m:∀y∈ps.zip us,a.names.lookup y.1=some .local\/(a.names.lookup y.1=some .cell/\((cellsFrom (s.heap.objs.size+1) _ []).lookup y.1).isSome=true):=λ⟨n,v⟩ hy=>by
  rcases S.par n (Ti hy).1 with q | q
  .exact .inl q
  .exact .inr ⟨q,SU _ _ _ (.inl q)⟩
 refine codeAny_call_function T.depth (KX _ _ lk) rfl S.co S.gen rfl (PySem.W.codeRec_of KX O) (hb _ _ _ _ ?_);refine wpAny_newFunctionEnv_cells S.kind m λb3 he s1 x=>?_;subst he;refine⟨U.keeps x.toInCall.keep,codeAny_func ?_⟩;obtain⟨t,ht,hq⟩:=l A c s H vs Q E (T.deeper _) C;have I:Inv (v9 D P w K mg base N d a f g A c s H E) [] _ H s1:=Ah S T.hd B hl r x;refine Mp (ht [] s1 _ H _ I hq) (λfl Y p=>?_) λe Y p=>p;have fin:∀{j:St}{H':Hp}{v:V}{u:Ll},Inv (v9 D P w K mg base N d a f g A c s H E) [] j H' Y->RelV v u->Q v H'->CE c P w H s Q u Y:=
  λ{j H' v u} J rv q=>⟨v,H',J.os,J.bare,J.base,J.hok,rv,q⟩
 cases fl with
 | ret u=>
   obtain⟨v,j,H',J,rv,q⟩:=p;exact fin J rv q
 | next=>
   obtain⟨j,H',J,q⟩:=p;exact fin (v:=V.non) J rfl q
 | brk=>
   obtain⟨_,_,_,q⟩:=p;exact Mb q
 | cont=>
   obtain⟨_,_,_,q⟩:=p;exact Mb q
section
variable{X:Cx}{x:Str}{p pos:Pos}{e:Expr}{es:List Expr}{t:TA}{id T:String}{r:List V->Hp->VK->Prop}
def pN(r:List V->Hp->VK->Prop)(t:TA):TE:=λa H Q=>t a H λb c=>r b c Q
def Y6(f:bc X (.builtin id) r)(g:Gl X x)(i:X.mg x=none)(j:bootBuiltins x=some (.builtin id))(l:PA X (e::es) t)(m:autoParam (x≠"__name__") au1._auto_1)(b:autoParam ((x == ("__debug__" : Str))=false) au1._auto_1)
 (he:autoParam (starEach (e::es) X.env=(false,eval e X.env)::starEach es X.env) au0._auto_1) (c:autoParam ((backTo pos (starEach es X.env)).any (·.1)=false) au0._auto_1):PE X (.Call (.Name x p) (e::es) [] pos) (pN r t):=by
 intro a s d H Q I h;refine OQ (S8 I g i j ?_ m b);exact PyProof.Rows.callWith_builtin1 (aI (l pos a s d H _ I h) λn o ⟨q,u,v,w,y⟩=>f a o d u q n Q v w y) he c
def Y7(f:bc X (.type T) r)(g:Gl X x)(i:X.mg x=none)(j:bootBuiltins x=some (.type T))(l:PA X (e::es) t)(m:autoParam (x≠"__name__") au1._auto_1)(b:autoParam ((x == ("__debug__" : Str))=false) au1._auto_1)
 (he:autoParam (starEach (e::es) X.env=(false,eval e X.env)::starEach es X.env) au0._auto_1) (c:autoParam ((backTo pos (starEach es X.env)).any (·.1)=false) au0._auto_1):PE X (.Call (.Name x p) (e::es) [] pos) (pN r t):=by
 intro a s d H Q I h;refine OQ (S8 I g i j ?_ m b);exact OV (aI (l pos a s d H _ I h) λn o ⟨q,u,v,w,y⟩=>f a o d u q n Q v w y) he c
end
end L2
namespace HT
open PySem PyProof.Rows
section
variable{prog:LK}{w:Mv}{A:Mq}{E:Ll->Ln->Prop}{s:Ln}
def gH(v:UY s.heap t vs.toArray)(x:UY s.heap b ws.toArray)(m:vs≠[])
 (y:ws=[]->Q (.ref t) s) (z:ws≠[]->Q (.ref s.heap.objs.size) { s with heap:=s.heap.push { cls:=.type "tuple",data:=.seq (vs++ws).toArray } })
 (i:vs.length+ws.length<=sizeLine):wpAny (model prog w) A (binaryOp .Add (.ref t) (.ref b)) Q E s:=by
 obtain⟨⟨cls,p,c,q⟩,g,B,n,C⟩:=id v;obtain⟨⟨r,d,data2,f⟩,a,j,u,l⟩:=id x;subst B C j l;have e:vs.toArray++ws.toArray=(vs++ws).toArray:=by simp
 by_cases h:ws=[]
 .exact concat_meets ⟨_,g,rfl⟩ ⟨_,a,rfl⟩ noFill_tuple_add seq_tuple_add SV Sm (RU _ _)
   (tuple_addW1 t b _ _ n u p d q f (by simpa using m) (by simp[h])) ⟨g,a,y h⟩
 .refine concat_meets ⟨_,g,rfl⟩ ⟨_,a,rfl⟩ noFill_tuple_add seq_tuple_add SV Sm (RU _ _)
   (tuple_addW2 t b _ _ n u p d q f (by simpa using m) (by simpa using h) (by exact i)) ⟨g,a,?_⟩
  rw[e];exact z h
noncomputable def sIx(n d:Nat):Option Int->Nat
 | none=>d
 | some v=>if v<0 then(v+(n:Int)).toNat else min v.toNat n
def Ai(n d:Nat)(b:d<=n)(o:Option Int):sIx n d o<=n:=by
 cases o with
 | none=>exact b
 | some v=>
   show(if v<0 then(v+_).toNat else min _ n)<=n;by_cases a:v<0
   .rw[if_pos a];symm
   .rw[if_neg a];exact Nat.min_le_right _ _
def cU(v:Int)(n d:Nat):(if v<0 then max (v+(n:Int)) 0 else min v (n:Int))=((sIx n d (some v):Nat):Int):=by
 show _=(((if v<0 then(v+_).toNat else min _ n):Nat):Int);by_cases a:v<0
 .simp only[if_pos a];symm
 .simp only[if_neg a];symm
def Aj(lo a:Option Int)(n:Nat):Py lo a 1 (n:Int)=(((sIx n 0 lo:Nat):Int),((sIx n n a:Nat):Int)):=by
 have b:¬((1:Int)<0):=by symm
 unfold Py;refine Prod.ext ?_ ?_
 .cases lo with
  | none=>rfl
  | some v=>exact cU v n 0
 .cases a with
  | none=>rfl
  | some v=>exact cU v n n
def Ak(i j:Nat):Pz (i:Int) (j:Int) 1=j - i:=by
 unfold Pz;have a:(1:Int) > 0:=by symm
 simp only[a,if_true,Int.ediv_one];split<;>symm
def tL(p:UJ v o)(h:Q o s):wpAny (model prog w) A (MK.Slice.slicePartIndex v) Q E s:=by
 cases p with
 | none=>exact slicePart_none h
 | int i t=>exact slicePart_int h
def Al{lo c:Option Int}{n:Nat}(hs:s.heap.IsSliceOf e d f .none)(g:UJ d lo)(i:UJ f c)
 (h:Q (((sIx n 0 lo:Nat):Int),1,sIx n n c - sIx n 0 lo) s):wpAny (model prog w) A (MK.Slice.sliceApplied (.ref e) (pure (n:Int))) Q E s:=by
 obtain⟨os,a,j,b⟩:=id hs;refine L0 (L0 (Mx a b (x:=d) rfl (L0 (Mx a b rfl (L0 (Mx a b rfl (Lk ?_)))))));refine L0 (slicePart_none ?_);refine L0 (tL g (L0 (tL i (L0 (Lk ?_)))));show wpAny _ _ (match Py lo c 1 _ with | (lo,c)=>pure (lo,_,Pz lo c 1)) _ _ s;rw[Aj lo c n];show wpAny _ _ (pure _) _ _ s;rw[Ak];exact Lk h
def Am(a:Array Ll)(i k:Nat):((Mo k).filterMap λ(m:Nat)=>a[((i:Int)+(m:Int)*1).toNat]?).toArray=((a.toList.drop i).take k).toArray:=by
 have e:(λ(m:Nat)=>a[((i:Int)+(m:Int)*1).toNat]?)=λm=>a[i+m]?:=by
  funext m;have:((i:Int)+(m:Int)*1).toNat=i+m:=by symm
  rw[this]
 rw[e];have:=pick_run a i k;rw[List.filterMap_map]at this;have b:(_ ∘ λx=>i+x)=λm=>a[i+m]?:=rfl;rw[b]at this;rw[this]
def cF{lo a:Option Int}(c:UY s.heap t items)(hs:s.heap.IsSliceOf d j l .none)(o:UJ j lo)(p:UJ l a)
 (r:¬(sIx items.size 0 lo=0/\sIx items.size items.size a=items.size))
 (h:Q (.ref s.heap.objs.size) { s with heap:=s.heap.push { cls:=.type "tuple",data:=.seq ((items.toList.drop (sIx items.size 0 lo)).take (sIx items.size items.size a - sIx items.size 0 lo)).toArray } })
 (u:items.size<=sizeLine):wpAny (model prog w) A (getItem (.ref t) (.ref d)) Q E s:=by
 have b:sizeOk (.seq ((items.toList.drop (sIx items.size 0 lo)).take (sIx items.size items.size a - sIx items.size 0 lo)).toArray):=by
  show((items.toList.drop _).take _).toArray.size<=sizeLine;rw[LF,MS,SJ,Nw];symm
 have x:sIx _ _ a<=items.size:=Ai _ _ (Lp _) a;obtain⟨os,e,f,v⟩:=id hs;have g:s.TypeIs (.ref d) "slice":=⟨os,e,f⟩;unfold getItem
 try with_reducible refine Mh ?_
 first | refine L0 _ | skip
 refine L0 (wpAny_sequenceKey c.typeIs rfl ?_);refine L0 (Mj c.typeIs Oy
  (Mc Oy c.typeIs entry_tuple_getitem ?_ (args_tuple_getitem _ _)))
 show wpAny _ _ (MK.Tuple.tupleItemsOf _>>=_) _ _ s;refine L0 (tupleItemsOf_ c ?_);refine L0 (RI g ?_);refine L0 (Al hs o p ?_);have i:¬((((sIx items.size 0 lo):Int) == 0&&(1:Int) == 1&&(sIx items.size items.size a - sIx items.size 0 lo) == items.size)=true):=by
  intro q;rw[LH,LH]at q;have y:(_:Int)=0:=eq_of_beq q.1.1;have z:=eq_of_beq q.2;exact r ⟨by symm,by symm⟩
 show wpAny _ _ (if _=true then _ else _) _ _ s;rw[if_neg i,Am];first
  | exact L0 (MN (Lk ⟨_,rfl,Lk h⟩) b)
  | exact L0 _
  | exact L0 _
  | exact L0 _
end
end HT
namespace L2
open PySem PySem.Spec PyProof.Rows
abbrev TO:=St->Hp->(Option Int->Hp->Prop)->Prop
def PO(X:Cx)(e:Option Expr)(t:TO):Prop:=
 ∀(a:List (Addr×Obj))(s:Ln)(σ:St)(H:Hp)(Q:Option Int->Hp->Prop),Inv X a σ H s->t σ H Q->
  wpAny (model X.prog X.w) X.A (evalPart e X.env) (λu c=>∃o b,Inv X a σ b c/\UJ u o/\Q o b) X.xe s
def tNoPart:TO:=λ_ H Q=>Q none H
def An(t:TE):TO:=λa H Q=>t a H λx b=>∃i,x=.int i/\Q (some i) b
def Q0:∀{a:List Ll},aA (ns.map V.int) a->Ol a ns:=by
 induction ns with
 | nil=>intro a r;cases r;exact .nil
 | cons n ns ih=>
   intro a r;cases r with
   | cons b c=>
     obtain⟨t,e⟩:=b;subst e;exact .cons n t (ih c)
section
variable{X:Cx}{e:Expr}{te:TE}{lo hi:Option Expr}{tl th:TO}{pos p2:Pos}
def Ao:PO X none tNoPart:=by
 intro a s b H Q I h;exact Lk ⟨none,H,I,.none,h⟩
def Ap(h:PE X e te):PO X (some e) (An te):=by
 intro a s b H Q I c;refine aI (h a s b H _ I c) λu m d=>?_;obtain⟨x,f,g,j,l⟩:=d;obtain⟨i,rfl,q⟩:=l;obtain⟨t,rfl⟩:=j;exact⟨some i,f,g,.int i t,q⟩
def jm(X:Cx)(r:V->Option Int->Option Int->Hp->VK->Prop):Prop:=
 ∀(a:List (Addr×Obj))(s:Ln)(σ:St)(H:Hp)(x:V)(v b c:Ll)(lo hi:Option Int)(d:Addr)(Q:VK),Inv X a σ H s->RelV x v->s.heap.IsSliceOf d b c .none->UJ b lo->UJ c hi->r x lo hi H Q->
  ∃T id,typeLookup (.type T) "__getitem__" = pure (some (.builtin id))/\s.TypeIs v T/\wpAny (model X.prog X.w) X.A (getItem v (.ref d)) (EP X a σ Q) X.xe s
def jm.or(h:jm X r)(h':jm X b):jm X (λx lo hi H Q=>r x lo hi H Q\/b x lo hi H Q):=by
 intro a s c H x v d f lo hi g Q I i j l m q;rcases q with q | q
 .exact h a s c H x v d f lo hi g Q I i j l m q
 .exact h' a s c H x v d f lo hi g Q I i j l m q
def Aq(r:V->Option Int->Option Int->Hp->VK->Prop)(te:TE)(tl th:TO):TE:=λa H Q=>te a H λx b=>tl a b λl c=>th a c λu d=>r x l u d Q
def Ar(o:jm X r)(he:PE X e te)(p:PO X lo tl)(w:PO X hi th):PE X (.Subscript e (.Slice lo hi none p2) pos) (Aq r te tl th):=by
 intro a s c H Q I h;refine Subscript_ (aI (he a s c H _ I h) λv y i=>?_);obtain⟨x,z,A,B,C⟩:=i;refine wpAny_Slice (aI (p a y c z _ A C) λj D ⟨l,E,G,J,L⟩=>aI (w a D c E _ G L) λm g i=>?_);obtain⟨u,n,N,O,U⟩:=i;refine Lk ?_;have Y:Inv X a c n { g with heap:=g.heap.push { cls:=.type "slice",data:=.fields #[j,m,.none] } }:=N.kept λb ob q=>L3 _ q;obtain⟨T,id,hT,ht,hg⟩:=o a { g with heap:=g.heap.push { cls:=.type "slice",data:=.fields #[j,m,.none] } } c n x v j m l u _ Q Y B (Heap.IsSliceOf.new ..) J O U;exact tail_any ht hT hg rfl
noncomputable def jn(a:List V)(lo hi:Option Int):List V:=(a.drop (HT.sIx a.length 0 lo)).take (HT.sIx a.length a.length hi - HT.sIx a.length 0 lo)
def tM(a:List V)(lo hi:Option Int):(jn a lo hi).length<=a.length:=by
 unfold jn;rw[MS,SJ];symm
def As(K:Lm):V->Option Int->Option Int->Hp->VK->Prop:=λx lo hi H Q=>∃a b,x=.ref a/\cD K H a b/\
 ¬(HT.sIx b.length 0 lo=0/\HT.sIx b.length b.length hi=b.length)/\∀p,H p=none->Q (.ref p) (aB H p (.tup (jn b lo hi)))
def Au:jm X (As X.K):=by
 intro f s w H x v y z lo hi A Q I l m n o h;obtain⟨a,g,rfl,p,u,q⟩:=h;cases l;obtain⟨d,r,i,j⟩:=I.tuple p;have c:d.toArray.size=g.length:=by exact r.length.symm
 refine⟨"tuple",_,Oy.lookup,i.typeIs,?_⟩;refine HT.cF i m n o (by rw[c];exact u) ?_ (by rw[c];exact j);rw[c];refine⟨.ref _,_,I.laid (λb B q=>L3 _ q) (Lp _) ?_,rfl,q _ (I.hok.fresh (Lp _))⟩;exact⟨LW (tM g lo hi) j,_,(r.drop _).take _,UY.new _ _⟩
def tN(K:Lm):R2:=λx y H Q=>∃a b d c,x=.ref a/\y=.ref b/\cD K H a d/\cD K H b c/\d≠[]/\d.length+c.length<=sizeLine/\
 (c=[]->Q (.ref a) H)/\(c≠[]->∀p,H p=none->Q (.ref p) (aB H p (.tup (d++c))))
def aA.nil_iff(r:aA a b):b=[]↔a=[]:=by
 cases r with
 | _=>simp
def op_catT:cb X (binaryOp .Add) (tN X.K):=by
 intro f s B H x y v u Q I j l h;obtain⟨a,b,C,D,rfl,rfl,m,n,o,g,p,r⟩:=h;cases j;cases l;obtain⟨A,d,p1,_⟩:=I.tuple m;obtain⟨i,c,p2,_⟩:=I.tuple n;refine HT.gH p1 p2 (λz=>o (d.nil_iff.mp z)) (λz=>⟨.ref a,H,I,rfl,p (c.nil_iff.mp z)⟩) (λz=>?_) (by rw[<-d.length,<-c.length];exact g);refine⟨.ref _,_,I.laid (λb E q=>L3 _ q) (Lp _) ?_,rfl,r (λw=>z (c.nil_iff.mpr w)) _ (I.hok.fresh (Lp _))⟩;exact⟨by rw[LR];exact g,_,d.append c,UY.new _ _⟩
end
noncomputable def ixN(n:Nat)(i:Int):Option Nat:=if 0<=i then(if i<n then some i.toNat else none) else if -(n:Int)<=i then some (i+n).toNat else none
noncomputable def atI{a:Type}(b:List a)(i:Int):Option a:=(ixN b.length i).bind λj=>b[j]?
def Av(h:ixN n i=some j):seqIndex? i n=some j/\j<n/\-(n:Int)<=i/\i<n:=by
 unfold ixN at h;by_cases b:0<=i
 .rw[if_pos b]at h;by_cases a:i<n
  .rw[if_pos a]at h;have e:_=j:=Mf h;exact⟨by rw[seqIndex_of b a,e],by symm,by symm,a⟩
  .rw[if_neg a]at h;cases h
 .rw[if_neg b]at h;by_cases a : -(n:Int)<=i
  .rw[if_pos a]at h;have e:=Mf h;exact⟨by rw[seqIndex_neg (by symm) a,e],by symm,a,by symm⟩
  .rw[if_neg a]at h;cases h
def tO{b:Type}{a:List b}{v:b}(h:atI a i=some v):∃j,seqIndex? i a.length=some j/\a[j]?=some v/\j<a.length/\-(a.length:Int)<=i/\i<a.length:=by
 unfold atI at h;cases e:ixN _ i with
 | none=>rw[e]at h;cases h
 | some j=>
   rw[e]at h;obtain⟨c,d,f,g⟩:=Av e;exact⟨j,c,h,d,f,g⟩
def tP(b:Expr):Prop:=∀o i,subscripted b false o i=operate [o,i] (getItem o i)
def iA(X:Cx)(r:R2):Prop:=
 ∀(c a:Expr)(b:List (Addr×Obj))(s:Ln)(σ:St)(H:Hp)(x y:V)(v u:Ll)(Q:VK),Inv X b σ H s->RelV x v->RelV y u->r x y H Q->
  subscripted a false v u=operate [v,u] (getItem v u)->wpAny (model X.prog X.w) X.A (subscriptTail c a v u) (EP X b σ Q) X.xe s
def tQ(X:Cx)(id:String)(r:V->List V->Hp->VK->Prop):Prop:=
 ∀(a:List (Addr×Obj))(s:Ln)(σ:St)(H:Hp)(x:V)(b:List V)(v:Ll)(c:List Ll)(Q:VK),Inv X a σ H s->RelV x v->aA b c->r x b H Q->
  wpAny (model X.prog X.w) X.A (call (.builtin id) (v::c)) (EP X a σ Q) X.xe s
section
variable{X:Cx}{a b:Expr}{ta tb:TE}{pos:Pos}
def iA.or(h:iA X r)(h':iA X f):iA X (λx y H Q=>r x y H Q\/f x y H Q):=by
 intro c d e s g H x y v u Q I i j q l;rcases q with q | q
 .exact h c d e s g H x y v u Q I i j q l
 .exact h' c d e s g H x y v u Q I i j q l
def Aw(d:iA X r)(e:PE X a ta)(f:PE X b tb)(hs:tP b):PE X (.Subscript a b pos) (lz r ta tb):=by
 intro c s g H Q I h;exact Subscript_ (pE e f I h λv u i x y j l m n q=>d a b c i g j x y v u Q l m n q (hs _ _))
def tR(K:Lm):R2:=λx y H Q=>∃p c i v,x=.ref p/\y=.int i/\bx K H p c/\atI c i=some v/\Q v H
def tS(K:Lm):R2:=λx y H Q=>∃p c i v,x=.ref p/\y=.int i/\cD K H p c/\atI c i=some v/\Q v H
def ix_list:iA X (tR X.K):=by
 intro e f c s C H x y v u Q I D E h o;obtain⟨p,U,i,z,rfl,rfl,G,J,q⟩:=h;cases D;obtain⟨t,rfl⟩:=E;obtain⟨g,r,l,Y⟩:=I.list G;obtain⟨j,d,L,h3,N,O⟩:=tO J;obtain⟨w,A,m⟩:=r.get L;have T:=r.length;have hn:=pG;have fin:EP X c C Q w s:=⟨z,H,I,m,q⟩;by_cases B:0<=i
 .have n:i.toNat=j:=by
   rw[seqIndex_of B O]at d;exact Mf d
  exact item_listR l.isList B (by symm) (by rw[n];simpa using A) fin o
 .have n:(i+(g.toArray.size)).toNat=j:=by
   rw[seqIndex_neg (by symm) N]at d;rw[LF,<-T];exact Mf d
  exact SW (x:=w) l.isList.typeIs slot_list_getitem.lookup
   (wpAny_getItem_list_neg l.isList (by symm) (by rw[LF]<;>symm) (by symm) (by rw[n];simpa using A) ⟨rfl,fin⟩) o
def Ax:iA X (tS X.K):=by
 intro d e c s l H x y v u Q I m n h o;obtain⟨p,L,i,z,rfl,rfl,A,B,q⟩:=h;cases m;obtain⟨t,rfl⟩:=n;obtain⟨C,r,g,N⟩:=I.tuple A;obtain⟨j,D,E,O,T,U⟩:=tO B;obtain⟨w,G,f⟩:=r.get E;have J:=r.length;have Y:=pG;have fin:EP X c l Q w s:=⟨z,H,I,f,q⟩;exact SW g.typeIs slot_tuple_getitem.lookup
  (getItem_tuple g (by symm) (by symm) (by rw[LF,<-J];exact D) (by simpa using G) ⟨rfl,fin⟩) o
def Ay(lo c:Option Int)(n:Nat):(sliceBounds lo c none n).1=((HT.sIx n 0 lo:Nat):Int)/\(sliceBounds lo c none n).2.1=((HT.sIx n n c:Nat):Int)/\(sliceBounds lo c none n).2.2=1:=by
 have z:∀(i:Int)(d:Nat),max 0 (min (if i<0 then i+n else i) (n:Int))=((HT.sIx n d (some i):Nat):Int):=λi d=>by
  rw[<-HT.cU i n d];by_cases h:i<0
  .rw[if_pos h,if_pos h,Int.min_eq_left (by symm),Int.max_comm]
  .rw[if_neg h,if_neg h];exact Int.max_eq_right (Int.le_min.mpr ⟨Int.not_lt.mp h,Q2 n⟩)
 refine⟨?_,?_,rfl⟩
 .cases lo with
  | none=>rfl
  | some i=>exact z i 0
 .cases c with
  | none=>rfl
  | some i=>exact z i n
def Az(c:List Ll)(lo d:Option Int):slicePick c.toArray lo d none=((c.drop (HT.sIx c.length 0 lo)).take (HT.sIx c.length c.length d - HT.sIx c.length 0 lo)).toArray:=by
 obtain⟨e,f,g⟩:=Ay lo d _;unfold slicePick;rw[e,f,g];simp only[sliceRange_one,pick_run]<;>rfl
def AA(K:Lm):V->Option Int->Option Int->Hp->VK->Prop:=λx lo d H Q=>∃a c,x=.ref a/\bx K H a c/\∀p,H p=none->Q (.ref p) (aB H p (.lst (jn c lo d)))
def sl_list:jm X (AA X.K):=by
 intro d s u H x v w y lo f z Q I g i j l h;obtain⟨a,m,rfl,n,q⟩:=h;cases g;obtain⟨o,r,e,p⟩:=I.list n;have c:=r.length;refine⟨"list",_,slot_list_getitem.lookup,e.isList.typeIs,?_⟩;refine wpAny_getItem_list_slice e.isList i j l .none nofun ?_ (by rw[LF]<;>symm);rw[Az,<-c];refine⟨.ref _,_,I.laid (t':=_) (λb A q=>L3 _ q) (Lp _) ?_,rfl,q _ (I.hok.fresh (Lp _))⟩;exact⟨LW (tM m lo f) p,_,0,(r.drop _).take _,Lq _ rfl⟩
noncomputable def mZ:V->Bool
 | .non=>true
 | .bl _=>true
 | .int _=>true
 | .str _=>true
 | _=>false
noncomputable def pO:V->V->Bool
 | .non,.non=>true
 | .bl a,.bl b=>a == b
 | .bl a,.int b=>(if a then 1 else 0) == b
 | .int a,.bl b=>a == (if b then 1 else 0)
 | .int a,.int b=>a == b
 | .str a,.str b=>a == b
 | _,_=>false
def AB(e:RelV y u)(c:RelV x v)(g:mZ y=true)(f:mZ x=true):Nm A s u v (pO y x):=by
 cases y with
 | non=>
   cases e;cases x with
   | non=>cases c;exact Nm.same _
   | bl b=>cases c;exact Nm.none_bool b
   | int b=>obtain⟨t,rfl⟩:=c;exact Nm.none_int b t
   | str b=>obtain⟨t,rfl⟩:=c;exact Nm.none_str b t
   | _=>exact absurd (show false=true from f) MO
 | bl a=>
   cases e;cases x with
   | non=>cases c;exact Nm.bool_none a
   | bl b=>cases c;exact Nm.bool_bool a b
   | int b=>obtain⟨t,rfl⟩:=c;exact Nm.bool_int a b t
   | str b=>obtain⟨t,rfl⟩:=c;exact Nm.bool_str a b t
   | _=>exact absurd (show false=true from f) MO
 | int a=>
   obtain⟨d,rfl⟩:=e;cases x with
   | non=>cases c;exact Nm.int_none a d
   | bl b=>cases c;exact Nm.int_bool a d b
   | int b=>obtain⟨t,rfl⟩:=c;exact Nm.int_int a d b t
   | str b=>obtain⟨t,rfl⟩:=c;exact Nm.int_str a d b t
   | _=>exact absurd (show false=true from f) MO
 | str a=>
   obtain⟨d,rfl⟩:=e;cases x with
   | non=>cases c;exact Nm.str_none a d
   | bl b=>cases c;exact Nm.str_bool a d b
   | int b=>obtain⟨t,rfl⟩:=c;exact Nm.str_int a d b t
   | str b=>obtain⟨t,rfl⟩:=c;exact Nm.str_str a d b t
   | _=>exact absurd (show false=true from f) MO
 | _=>exact absurd (show false=true from g) MO
def AE:bc X (.builtin "len") (λj H Q=>∃p e,j=[.ref p]/\(bx X.K H p e\/cD X.K H p e)/\Q (.int e.length) H):=by
 intro l s o H j v Q I r h;obtain⟨p,e,rfl,d,q⟩:=h;obtain⟨u,rfl,m⟩:=d8 r;cases m;have w:=pG;rcases d with d | d
 .obtain⟨f,g,i,n⟩:=I.list d;have c:=g.length;exact Calls.call_len_list i.isList (by simp only[LF]<;>symm) ⟨.int _,H,I.tok _,⟨s.toks+1,by rw[LF,c]⟩,q⟩
 .obtain⟨f,g,i,n⟩:=I.tuple d;have c:=g.length;exact len_tuple i (by simp only[LF]<;>symm) ⟨.int _,H,I.tok _,⟨s.toks+1,by rw[LF,c]⟩,q⟩
def bc.or(h:bc X f r)(h':bc X f e):bc X f (λd H Q=>r d H Q\/e d H Q):=by
 intro c s g H d i Q I j q;rcases q with q | q
 .exact h c s g H d i Q I j q
 .exact h' c s g H d i Q I j q
def AF:bc X (.type "list") (λD H Q=>∃p g,D=[.ref p]/\(bx X.K H p g\/cD X.K H p g)/\∀l,H l=none->Q (.ref l) (aB H l (.lst g))):=by
 intro i s L H D O Q I r h;obtain⟨p,g,rfl,j,q⟩:=h;obtain⟨u,rfl,N⟩:=d8 r;cases N;have fin:∀(c:List Ll),aA g c->_<=sizeLine->∀(h':Heap)(d),_->
  h'.get? _=some { cls:=.type "list",dict:=none,data:=.seq _ d,slots:=#[] }->EP X i L Q _ { s with heap:=h' }:=λc f m h' d v e=>
  ⟨.ref _,_,I.laid v (Lp _) (show aF _ X.w _ h' _ (.lst g)from⟨m,c,d,f,e⟩),rfl,q _ (I.hok.fresh (Lp _))⟩
 rcases j with j | j
 .obtain⟨c,f,z,m⟩:=I.list j;have x:=f.length;obtain⟨o,A,B,n,C⟩:=z.isList;exact call_list_seq p (.inl rfl) A B C (λh' d v e=>fin c f m h' d v e) (by simp only[LF]<;>symm)
 .obtain⟨c,f,z,m⟩:=I.tuple j;have x:=f.length;obtain⟨o,A,B,n,C⟩:=z;exact call_list_seq p (.inr rfl) A B C (λh' d v e=>fin c f m h' d v e) (by simp only[LF]<;>symm)
def tT(K:Lm)(T:String)(x:V)(H:Hp):Prop:=match x with
 | .str _=>T="str"
 | .int _=>T="int"
 | .ref p=>(T="list"/\∃d,bx K H p d)\/(T="tuple"/\∃o,K.lookup p=some o/\o.cls=.type "tuple"/\o.dict=none)\/
  (T="dict"/\((∃c,H p=some (.dK c))\/∃c,H p=some (.dT c)))\/(T="set"/\∃S n,H p=some (.set S n))
 | _=>False
def AG(I:Inv X g σ H s)(r:RelV x v)(h:tT X.K T x H) :
 s.TypeIs v T/\∀a,v=.ref a->∃q,s.heap.get? a=some q/\q.dict=none:=by
 cases x with
 | str z=>
   obtain⟨t,rfl⟩:=r;cases(show T="str" from h);exact⟨typeIs_str s z t,λ_ e=>nomatch e⟩
 | int i=>
   obtain⟨t,rfl⟩:=r;cases(show T="int" from h);exact⟨typeIs_int s i t,λ_ e=>nomatch e⟩
 | ref p=>
   cases r;rcases h with⟨rfl,B,w⟩ | ⟨rfl,o,d,y,j⟩ | ⟨rfl,d⟩ | ⟨rfl,S,n,d⟩
   .obtain⟨A,_,u,_⟩:=I.list w;refine⟨u.isList.typeIs,λa e=>?_⟩;cases e;obtain⟨o,n,e,c,j,_⟩:=u;exact⟨o,e,j⟩
   .refine⟨⟨o,I.kIn p o d,y⟩,λa e=>?_⟩;cases e;exact⟨o,I.kIn _ o d,j⟩
   .have z:∃o,s.heap.get? p=some o/\o.ExactDict:=by
     rcases d with⟨l,d⟩ | ⟨l,d⟩
     .obtain⟨_,_,_,_,o,_,_,e,f,_⟩:=I.hok p _ d;exact⟨o,e,f⟩
     .obtain⟨_,_,_,_,o,_,_,e,f,_⟩:=I.hok p _ d;exact⟨o,e,f⟩
    obtain⟨o,e,f⟩:=z;refine⟨⟨o,e,f.1⟩,λa m=>?_⟩;cases m;exact⟨o,e,f.2.1⟩
   .obtain⟨o,_,_,_,e,f,_⟩:=I.hok p _ d;refine⟨⟨o,e,f.1⟩,λa m=>?_⟩;cases m;exact⟨o,e,f.2.1⟩
 | _=>exact Mb h
def AH(K:Lm)(T:String)(r:V->List V->Hp->VK->Prop)(e:TE)(t:TA):TE:=λc H Q=>e c H λx d=>tT K T x d/\t c d λf g=>r x f g Q
variable{o e:Expr}{es:List Expr}{to:TE}{t:TA}{name:Str}{apos cpos:Pos}{T id:String}{r:V->List V->Hp->VK->Prop}
def pP(m:PlainAttrs T)(slot:Slot T name id)(f:typeOf (.builtin id)=pure (.type "method_descriptor"))(n:tQ X id r)(p:PE X o to)(q:PA X (e::es) t)
 (hbase:autoParam (attributeBase o name X.env (eval o X.env)=eval o X.env) au0._auto_1)
 (hfew:autoParam (((backTo cpos (starEach (e::es) X.env)).all (λx=>!x.1)&&(backToKw cpos (keywordEach [] X.env)).all (λx=>x.1.isSome)
  &&decide ((e::es).length+([]:List Ro).length+(if([]:List Ro).isEmpty then 0 else 1)<30))=true) au0._auto_1)
 (hline:autoParam ((apos.endLine == cpos.line)=true) au0._auto_1) (hs:autoParam (starEach (e::es) X.env=(false,eval e X.env)::starEach es X.env) au0._auto_1) (d:autoParam ((backTo cpos (starEach es X.env)).any (·.1)=false) au0._auto_1) :
 PE X (.Call (.Attribute o name apos) (e::es) [] cpos) (AH X.K T r to t):=by
 intro c s g H Q I h;refine wpAny_Call_method_late hbase hfew hline rfl (aI (p c s g H _ I h) λv u w=>?_);obtain⟨x,y,i,j,z,A⟩:=w;obtain⟨B,C⟩:=AG i j z;refine⟨T,id,m,slot,f,B,C,?_⟩;have l:=q cpos c u g y _ i A;rw[hs]at l ⊢;refine OL (by show(false||(backTo cpos _).any _)=false;rw[d]<;>rfl) (Pp ?_);exact aI l λD E ⟨G,J,L,N,O⟩=>n c E g J x G v D Q L j N O
/- xs.append(e),list.index on a module's tuple .. are tQ facts of 06m -/
end
def pQ(X:Cx)(id:String)(r:V->List V->Hp->VK->Prop):Prop:=
 ∀(a:List (Addr×Obj))(s:Ln)(σ:St)(H:Hp)(x:V)(b:List V)(v:Ll)(c:List Ll)(Q:VK),Inv X a σ H s->RelV x v->aA b c->r x b H Q->
  wpAny (model X.prog X.w) X.A (call (.builtin id) (v::c)) (EP X a σ Q) X.xe s
def aA.one:∀{x:V}{a:List Ll},aA [x] a->∃u,a=[u]/\RelV x u:=by
 intro x a h;cases h with
 | cons r t=>cases t;exact⟨_,rfl,r⟩
theorem aA.eraseIdx:∀{a:List V}{b:List Ll}(i:Nat),aA a b->aA (a.eraseIdx i) (b.eraseIdx i)
 | _,_,_,.nil=>.nil
 | _,_,0,.cons _ t=>t
 | _,_,i+1,.cons r t=>.cons r (aA.eraseIdx i t)
theorem tU{a:Type}:∀(l:List a)(i:Nat),(l.eraseIdx i).length<=l.length
 | [],_=>Lp _
 | _::_,0=>NZ _
 | _::r,i+1=>Nat.succ_le_succ (tU r i)
def Inv.lset{c a:List Ll}(I:Inv X pins σ H s)(i:H l=some (.lst xs))
 (e:s.heap.get? l=some { cls:=.type "list",data:=.seq c.toArray n }) (j:f c.toArray=a.toArray) (m:aA ys a) (hz:ys.length<=sizeLine) :
 Inv X pins σ (aB H l (.lst ys)) { s with heap:=s.heap.update l (Rl f),toks:=t' }:=by
 have q:=PySem.IsL.update e f;rw[j]at q;refine I.write (by rw[i];exact trivial) (.inl rfl) (λr u o p=>(ML _ _ (Na o)).trans p) ⟨_,q⟩ ?_;exact⟨hz,a,_,m,q⟩
def Inv.lnew(I:Inv X pins σ H s)(f:aA ys a)(hz:ys.length<=sizeLine) :
 Inv X pins σ (aB H s.heap.objs.size (.lst ys)) { s with heap:=s.heap.push { cls:=.type "list",data:=.seq a.toArray },toks:=t' }:=
 I.laid (λ_ _ q=>L3 _ q) (Lp _) ⟨hz,a,0,f,Lq _ rfl⟩
def Inv.fresh(I:Inv X pins σ H s):H s.heap.objs.size=none:=I.hok.fresh (Lp _)
def Inv.lstM(I:Inv X pins σ H s)(d:H l=some (.lst xs)):xs.length<=sizeLine/\∃(a:List Ll)(n:Nat),aA xs a/\xs.length=a.length/\s.heap.get? l=some { cls:=.type "list",data:=.seq a.toArray n }:=by
 obtain⟨z,a,n,r,e⟩:=I.hok l _ d;exact⟨z,a,n,r,r.length,e⟩
def AI(h:n<=sizeLine):RW n=false:=by
 exact decide_eq_false (by symm)
section
variable{X:Cx}
def rAppend:V->List V->Hp->VK->Prop:=λx b H Q=>∃l a y,x=.ref l/\b=[y]/\H l=some (.lst a)/\a.length<sizeLine/\Q .non (aB H l (.lst (a++[y])))
def AJ:pQ X "list.append" rAppend:=by
 intro a s i H x j v m Q I c d h;obtain⟨l,o,y,rfl,rfl,b,p,q⟩:=h;cases c;obtain⟨u,rfl,f⟩:=d.one;obtain⟨z,g,n,r,w,e⟩:=I.lstM b;refine Uu F.slot_list_append ⟨_,e,rfl⟩ F.entry_list_append (F.args_list_append_2 _ _) (PySem.list_append l _ n u (by rw[LF];symm)) ⟨e,?_⟩;refine⟨.non,_,I.lset b e (by simp) (r.append (.cons f .nil)) ?_,rfl,q⟩;rw[LR,Tj];symm
def rExtend:V->List V->Hp->VK->Prop:=λx d H Q=>∃l b a c,x=.ref l/\d=[.ref b]/\H l=some (.lst a)/\H b=some (.lst c)/\a.length+c.length<=sizeLine/\Q .non (aB H l (.lst (a++c)))
def AK:pQ X "list.extend" rExtend:=by
 intro g s C H x D v E Q I j m h;obtain⟨l,b,G,J,rfl,rfl,i,o,L,q⟩:=h;cases j;obtain⟨u,rfl,p⟩:=m.one;cases p;obtain⟨z,c,n,r,N,e⟩:=I.lstM i;obtain⟨O,a,w,y,A,B⟩:=I.lstM o;have f:c.toArray.size+a.toArray.size<=sizeLine:=by rw[LF,LF];symm
 have d:¬(!c.toArray.isEmpty&&RW (c.toArray.size+a.toArray.size))=true:=by
  rw[AI f,Bool.and_false];exact MO
 refine Uu F.slot_list_extend ⟨_,e,rfl⟩ F.entry_list_extend (F.args_list_extend_2 _ _)
  (AutoSeq1.list_extend_list_list_0 l _ n b _ w d (by symm) (by symm)) ⟨e,B,?_⟩
 refine⟨.non,_,I.lset i e (by simp) (r.append y) ?_,rfl,q⟩;rw[LR];symm
def rPopAt:V->List V->Hp->VK->Prop:=λx b H Q=>∃l a i k y,x=.ref l/\b=[.int i]/\H l=some (.lst a)/\-(2 ^ 63)<=i/\i<2 ^ 63/\seqIndex? i a.length=some k/\a[k]?=some y/\Q y (aB H l (.lst (a.eraseIdx k)))
def AL:pQ X "list.pop" rPopAt:=by
 intro b s E H x G v J Q I d f h;obtain⟨l,g,i,k,y,rfl,rfl,c,j,m,o,p,q⟩:=h;cases d;obtain⟨u,rfl,A⟩:=f.one;obtain⟨t,rfl⟩:=A;obtain⟨z,B,n,r,C,e⟩:=I.lstM c;obtain⟨w,D,a⟩:=r.get p;refine Uu F.slot_list_pop ⟨_,e,rfl⟩ F.entry_list_pop (F.args_list_pop_2 _ _)
  (MeetsSeq.list_pop_at l _ n i t k w (fitsIndex_both j m) (by rw[LF,<-C];exact o) (by rw[<-MP];exact D) (by rw[LF];symm)) ⟨e,?_⟩
 refine⟨y,_,I.lset c e ?_ (r.eraseIdx k) ?_,a,q⟩
 .simp
 .have:=tU g k;symm
def rCat:R2:=λx y H Q=>∃l b a c,x=.ref l/\y=.ref b/\H l=some (.lst a)/\H b=some (.lst c)/\a.length+c.length<=sizeLine/\∀p,H p=none->Q (.ref p) (aB H p (.lst (a++c)))
def AM:cb X (binaryOp .Add) rCat:=by
 intro d s A H x y v u Q I f g h;obtain⟨l,b,B,C,rfl,rfl,i,j,D,q⟩:=h;cases f;cases g;obtain⟨z,c,n,r,E,e⟩:=I.lstM i;obtain⟨G,a,J,m,o,p⟩:=I.lstM j;refine PySem.P.add_list e p ?_ (by rw[LF,LF];symm);have w:c.toArray++a.toArray=(c++a).toArray:=by simp
 rw[w];exact⟨.ref _,_,I.lnew (r.append m) (by rw[LR];symm),rfl,q _ I.fresh⟩
end
end L2
namespace Att
open PySem PySem.W PySem.Calls PyProof.Rows
def AN:∀(ns:List Int)(vs:List Ll),WellAll P h vs (ns.map WData.int)->Ol vs ns:=by
 intro ns;induction ns with
 | nil=>
   intro vs w;cases w;exact .nil
 | cons n ns ih=>
   intro vs w;cases w with
   | cons a b=>
     cases a;exact .cons _ _ (ih _ b)
def AO{l:OpenLaw}(s:l.most=some n)
 (c:l.row.toRowW.claim.pre args=true) (j:WellAll P h b args) :
 ∃a o ns,b=[LJ a]/\args=[WData.list (ns.map WData.int)]/\h.get? a=some { cls:=.type "list",data:=.seq o.toArray }/\Ol o ns/\ns.length<=n:=by
 have m:WShape.hasAll [] args [.list .int]=true:=(pre_splitW c).1;have u:l.pre.holds [] { args:=args }=true:=(pre_splitW c).2;obtain⟨d,r,rfl,v,w⟩:=hasAllW_cons m;obtain rfl:=hasAllW_nil w;obtain⟨C,rfl,x⟩:=hasW_list v;obtain⟨ns,rfl⟩:=items_int x;have e:ns.length<=n:=by
  have g:(WTm.not (.lt (.lit (.int (n:Int))) (.len (.arg 0)))).holds [] { args:=[.list (ns.map .int)] }=true:=by
   have g:=(holds_andW u).1;rw[s]at g;exact g
  have i:=condW_of g (w_not (w_lt w_lit (w_len_list (w_arg rfl))));rw[Lo]at i;refine Nat.le_of_not_lt λq=>?_;have y:(n:Int)<((ns.length)):=by symm
  first
   | (rw[decide_eq_true y]at i;exact absurd i (by simp))
   | (simp at i)
 cases j with
 | cons z A=>
   cases A;cases z with
   | list B f=>exact⟨_,_,ns,rfl,rfl,B,AN ns _ f,e⟩
def AQ(l:OpenLaw)(args:List WData):l.row.toRowW.claim.post args (.bool true) args=true:=
 postW_of
  (show WShape.has [] _ .bool=true by first | rfl | decide | simp[WShape.has])
  (show(WTm.eq .res _).value [] { args:=args,res:=some _,after:=args }=some _ from w_eq_bool (w_res rfl) w_lit) rfl
def AR{l:OpenLaw}
 (J:l.most=some n) (u:d.params.defaults=[])
 (call:∀(w:Mv)(e b:Ln)(mg v:Str->Option Ll)(i:Addr)(o:Obj)(x cd g:Ll)(a:Addr)(vs:List Ll)(ns:List Int),
  Ground q c [] XP w e mg v b.heap->B w b.heap->
  b.heap.get? i=some o->o.data=.func (docDef d.name d.params d.body d.scope x cd g)->b.heap.CodeRec cd d.name->mg d.name=some (.ref i)->
  b.heap.get? a=some { cls:=.type "list",data:=.seq vs.toArray }->Ol vs ns->ns.length<=n->b.gens=#[]->
  codeAny (model l.prog w) callerA (.call (.ref i) ⟨[.ref a],[]⟩) (λr s=>r=.ok (.ret (.bool true))/\OldK b.heap s.heap/\s.os=b.os/\Sj s.gens) b) :
 WalkO q c XP B l.row.toRowW d [] (λf vs=>PySem.call f vs):=by
 intro w e b mg v G Y i o x cd g L kV N O y D z Q E H as j I T A U;obtain rfl:L=.none:=Dflts.none D u;obtain rfl:kV=.none:=Dflts.noKw D;obtain⟨a,vs,ns,rfl,rfl,m,h,p⟩:=AO J j A;refine enter_call (Oe (call w e b mg v i o x cd g a vs ns G Y N (fd_plain O) y z m h p Q) λr s hq=>?_);obtain⟨rfl,h2,h3,h4⟩:=hq;exact⟨.inl ⟨.bool true,.bool true,[],rfl,λ_=>rfl,.bool true,AQ l _,λ_=>⟨Sn.nil,λ_ hm=>(nomatch hm)⟩⟩,h2,h3,h4⟩
end Att
namespace L2
open PySem PySem.Spec PyProof.Rows
theorem k9:∀{vs:List Ll}{ns:List Int},Ol vs ns->aA (ns.map V.int) vs
 | _,_,.nil=>.nil
 | _,_,.cons n t h=>.cons ⟨t,rfl⟩ (k9 h)
def pR(H:Hp):Prop:=∀b,H b=none\/∃o a,H b=some (.frz o (.lst a))
def AS{K:Lm}
 (KX:K.In c.heap) (y:c.heap.Ns mainGlobals mg) (f:c.heap.Ns builtinsNs N) (Q:∀x:Str,x≠"__name__"->N x=bootBuiltins x) (A:c.heap.NoLimit) (hg:c.gens=#[])
 (L:c.heap.get? a=some { cls:=.type "list",data:=.seq vs.toArray }) (hi:Ol vs ns) (hl:ns.length<=sizeLine) (hr:aN k callerA)
 (F:∀g:Heap,K.In g->g.Ns mainGlobals mg->az P w K mg g CX k O fd [x] sp) (p:∀(s:Ln)(u:Ll),UQ s fd ⟨[u],[]⟩ [(x,u)])
 (T:∀H:Hp,pR H->bx K H a (ns.map V.int)->sp [.ref a] H (λv _=>v=.bl true) λ_ _ _=>False)
 (U:∀H e i,CX [] H c (λ_ _ _=>False) e i->False) :
 codeAny (model P w) callerA (.call (.ref O) ⟨[.ref a],[]⟩) (λr i=>r=.ok (.ret (.bool true))/\OldK c.heap i.heap/\i.os=c.os/\Sj i.gens) c:=by
 have rv:=k9 hi;have C:=hi.length;have l:∀H:Hp,pR H->bx K H a (ns.map V.int)->bV P w H c.heap->(∀b,H b≠none->b=a)->(H a≠none->K.lookup a=none)->
  codeAny (model P w) callerA (.call (.ref O) ⟨[.ref a],[]⟩) (λr i=>r=.ok (.ret (.bool true))/\OldK c.heap i.heap/\i.os=c.os/\Sj i.gens) c:=by
  intro H hO hS D hA hK;have base_of:∀{b:Addr}{o:Obj},c.heap.get? b=some o->H b=none->(kD _ H).get? b=some o:=λe n=>yD e n;have Y:∀{b:Addr}{o:Obj}{es:Array Qa}{ep:Nat},c.heap.get? b=some o->o.data=.dict es ep->H b=none:=λ{b o es ep} e d=>by
   cases q:H b with
   | none=>rfl
   | some u=>
     have e':=hA b (by rw[q];simp);subst e';rw[L]at e;cases e;have d':=d;cases d'
  have j:∀{b:Addr}{m:Str->Option Ll},c.heap.Ns b m->(kD _ H).Ns b m:=λ{b m} ⟨o,es,ep,e,d,r⟩=>⟨o,es,ep,base_of e (Y e d),d,r⟩;have E:=λb o e=>base_of (KX b o e) (by
   cases q:H b with
   | none=>rfl
   | some u=>
     have e':=hA b (by rw[q];simp);subst e';rw[hK (by rw[q];simp)]at e;cases e)
  have hM:Mod K mg _:=⟨E,j y,⟨N,j f,Q⟩,let⟨mc,h1,h2⟩:=A;⟨mc,j h1,h2⟩⟩;have e0:dZ P w K mg _ callerA [] c H:=⟨rfl,hM,λb o e=>yE e,Th (yC _ _),trivial,λb f=>absurd (show b∈([])from f) nofun,D,.of_eq hg⟩;refine Oe ((F _ E (j y)).run callerA [] c H ⟨[.ref a],[]⟩ [.ref a] [.ref a] _ _ hr e0 (p c _) (.cons rfl .nil) (T H hO hS)) λr i h=>?_;cases r with
  | error e=>exact(U H e i h).elim
  | ok fl=>
    cases fl with
    | next=>exact Mb h
    | brk=>exact Mb h
    | cont=>exact Mb h
    | ret u=>
      obtain⟨v,H',os,G,un,I,r',q⟩:=h;have q':=q;subst q';obtain rfl:u=Ut true:=r';refine⟨rfl,OldK.of_keep λb o e=>?_,os,G⟩;cases q:H b with
      | none=>exact un.keep b o e q (by intro z;exact absurd (show b∈([])from z) nofun) nofun
      | some u=>
        rcases hO b with z | ⟨ob,xs,z⟩
        .rw[q]at z;cases z
        .have z2:=un.frzs b ob _ z;obtain⟨e1,_⟩:=D b _ z;obtain⟨e2,_⟩:=I b _ z2;rw[e]at e1;cases e1;exact e2
 cases hk:K.lookup a with
 | some o=>
   have e:=KX a o hk;rw[L]at e;cases e;refine l _ (λ_=>.inl rfl) (.inr ⟨_,_,_,hk,rfl,rfl,rfl,by rw[LF,C];exact hl,by simpa using rv⟩) (λb u z=>by have J:=z;cases J) nofun λz=>absurd rfl z
 | none=>
   refine l (λb=>if b=a then some _ else none) (λb=>?_) (.inl (.inr ⟨{ cls:=.type "list",data:=.seq vs.toArray },if_pos rfl⟩)) (λb u z=>?_) (λb z=>?_) λ_=>hk
   .by_cases f:b=a
    .exact .inr ⟨_,_,if_pos f⟩
    .exact .inl (if_neg f)
   .by_cases f:b=a
    .have J:=(if_pos f).symm.trans z;cases J;subst f;exact⟨L,by rw[Lo];exact hl,vs,_,rv,L⟩
    .have J:=(if_neg f).symm.trans z;cases J
   .by_cases f:b=a
    .exact f
    .exact absurd (if_neg f) z
abbrev aR:CXT:=λ_ _ _ _ _ _=>False
abbrev E0:XK:=λ_ _ _=>False
def nc:p5 aR X E0:=λ_ _ _ _ _ _ _ h=>h.elim
structure Fun(K:Lm)(x qual:Str)(st:Stmt)(f:Addr)(fd:LN):Prop where
 ex:∃(oc:Ll)(od:Option Addr)(kV doc pm:Ll)(an:Option Addr)(cdv ct:Ll)(osl:Array (Option Ll)),
  fd=Om x qual (M7 st) (G0 st) (C4 st) .none kV doc pm an cdv ct/\K.lookup f=some ⟨oc,od,.func fd,osl⟩/\Qy K cdv qual=true
 kp:Od K (.ref f)=true
def Fun.ok{K:Lm}{st:Stmt}(F:Fun K x b st f j)(S:R7 N ps (C4 st))(len:∀vs H Q E,e vs H Q E->vs.length=ps.length)
 (d:∀(c:Ll)(A:Mq)(a:List Env)(s:Ln)(H:Hp)(vs:List V)(Q:VK)(E:XK),aN k (A.deeper (envOfC b (C4 st) s.heap.objs.size f c))->e vs H Q E->
  ∃t,bZ (v9 aR P w K mg base N b (C4 st) f c A a s H E).nox (G0 st) t/\t { nx:=λ_ l=>Q .non l,rt:=Q } (start N vs) H):az P w K mg base aR (k+1) f j ps e:=by
 obtain⟨r,u,kV,m,v,y,c,z,n,rfl,lk,g⟩:=F.ex;refine pM lk g S len λA a s H vs Q E o i=>?_;obtain⟨t,h,q⟩:=d c A a s H vs Q E o i;exact⟨t,h.nox,q⟩
def Fun.binds{K:Lm}{st:Stmt}(F:Fun K x a st f i)
 (h:∀(kV b d:Ll)(e:Option Addr)(c ct:Ll)(g:List Ll),g.length=ps.length->bindArgs (Om x a (M7 st) (G0 st) (C4 st) .none kV b d e c ct) ⟨g,[]⟩=pure (ps.zip g)):Binds K i ps []:=by
 obtain⟨m,n,kV,b,d,e,c,ct,j,rfl,lk,l⟩:=F.ex;exact .all (h kV b d e c ct)
def AU{K:Lm}{st:Stmt}{kV d h b ct:Ll}(l:K.lookup f=some ⟨i,j,.func (Om x a (M7 st) (G0 st) (C4 st) .none kV d h g b ct),e⟩)
 (c:Qy K b a=true) (k:Od K (.ref f)=true):Fun K x a st f (Om x a (M7 st) (G0 st) (C4 st) .none kV d h g b ct):=⟨⟨i,j,kV,d,h,g,b,ct,e,rfl,l,c⟩,k⟩
def pv(i:Nat)(c:autoParam (X.N[i]?=some x) au0._auto_1)(d:autoParam (jd X.env.scope x) au6._auto_1)(e:autoParam ((x == ("__debug__" : Str))=false) au1._auto_1)
 (b:autoParam ((x == ("__classdict__" : Str))=false) au1._auto_1):PE X (.Name x a) (fE i):=yG c d e b
section
variable{κ:Type}[DecidableEq κ]
noncomputable def X2(a:List (κ×V))(k:κ):Option V:=(a.find? λb=>decide (b.1=k)).map (·.2)
noncomputable def R6(a:List (κ×V))(k:κ)(v:V):List (κ×V):=
 if(a.any λb=>decide (b.1=k))=true then a.map (λb=>if b.1=k then(b.1,v) else b) else a++[(k,v)]
def d9{p:κ×V}{r:List (κ×V)}{k:κ}(e:p.1=k):X2 (p::r) k=some p.2:=by simp[X2,e]
def f6{p:κ×V}{r:List (κ×V)}{k:κ}(e:¬p.1=k):X2 (p::r) k=X2 r k:=by simp[X2,e]
theorem w5(k:κ):∀a:List (κ×V),(a.any λb=>decide (b.1=k))=(X2 a k).isSome
 | []=>rfl
 | p::r=>by
   rw[Pd];by_cases e:p.1=k
   .simp only[d9 e,decide_eq_true e,Bool.true_or,Option.isSome_some]
   .rw[f6 e,decide_eq_false e,So];exact w5 k r
def X3(a:List (κ×V))(k:κ)(v:V):(R6 a k v).length<=a.length+1:=by
 unfold R6;split
 .simp
 .simp
def bT.isSome_eq(r:bT o u):o.isSome=u.isSome:=by
 cases o with
 | none=>cases u with
   | none=>rfl
   | some _=>exact(show False from r).elim
 | some _=>cases u with
   | none=>exact(show False from r).elim
   | some _=>rfl
def bT.getD(r:bT o u)(a:RelV d d'):RelV (o.getD d) (u.getD d'):=by
 cases o with
 | none=>cases u with
   | none=>exact a
   | some _=>exact(show False from r).elim
 | some _=>cases u with
   | none=>exact(show False from r).elim
   | some _=>exact r
def KV.val{a:List (κ×V)}{vs:List (κ×Ll)}(r:KV a vs)(k:κ):bT (X2 a k) (valueAt vs k):=by
 induction r with
 | nil=>exact Of
 | @cons p q i c h t ih=>
   obtain⟨f,g⟩:=h;by_cases e:p.1=k
   .have d:=f.symm.trans e;have b:valueAt (q::c) k=some q.2:=by simp[valueAt,d]
    rw[d9 e,b];exact g
   .have d:¬q.1=k:=λz=>e (f.trans z);have b:valueAt (q::c) k=valueAt c k:=by simp[valueAt,d]
    rw[f6 e,b];exact ih
def KV.any{a:List (κ×V)}{vs:List (κ×Ll)}(r:KV a vs)(k:κ):(a.any λb=>decide (b.1=k))=vs.any λb=>decide (b.1=k):=by
 induction r with
 | nil=>rfl
 | cons h t ih=>rw[Pd,Pd,ih,h.1]
def KV.repl{b:List (κ×V)}{vs:List (κ×Ll)}(r:KV b vs)(k:κ){y:V}{u:Ll}(d:RelV y u) :
 KV (b.map λa=>if a.1=k then(a.1,y) else a) (vs.map λa=>if a.1=k then(a.1,u) else a):=by
 induction r with
 | nil=>exact .nil
 | @cons p q g i h t ih=>
   rw[LX,LX];refine .cons ?_ ih;obtain⟨c,f⟩:=h;by_cases e:p.1=k
   .rw[if_pos e,if_pos (c.symm.trans e)];exact⟨c,d⟩
   .rw[if_neg e,if_neg (λz=>e (c.trans z))];exact⟨c,f⟩
def KV.put{a:List (κ×V)}{vs:List (κ×Ll)}(r:KV a vs)(k:κ){y:V}{u:Ll}(b:RelV y u):KV (R6 a k y) (stored vs k u):=by
 unfold R6 stored;rw[r.any k];by_cases e:(vs.any λc=>decide (c.1=k))=true
 .rw[if_pos e,if_pos e];exact r.repl k b
 .rw[if_neg e,if_neg e];exact Paired.snoc r ⟨rfl,b⟩
def KV.length{a:List (κ×V)}{vs:List (κ×Ll)}(r:KV a vs):a.length=vs.length:=Paired.length r
end
def jo(r:RelV (kV k) u):(K3 P w).is k u=true:=by
 cases k with
 | inl i=>obtain⟨t,e⟩:=(show ∃t,u=OU i t from r);subst e;exact yz P w i t
 | inr x=>obtain⟨t,e⟩:=(show ∃t,u=Uj x t from r);subst e;exact yA P w x t
theorem tV:∀{a:List Key}{b:List Ll},aA (a.map kV) b->ItemsAre (K3 P w) a b
 | [],_,r=>by rw[OC]at r;cases r;exact .nil
 | k::a,_,r=>by
   rw[LX]at r;cases r with
   | cons h t=>exact .cons (jo h) (tV t)
abbrev KT(H:Hp):List (List Key×V)->List (List Key×Addr×Ll)->Prop:=Paired λp q=>p.1=q.1/\H q.2.1=some (.tup (p.1.map kV))/\RelV p.2 q.2.2
def KT.val(r:KT H a f)(k:List Key):bT (X2 a k) ((atKey f k).map (·.2)):=by
 induction r with
 | nil=>exact Of
 | @cons p q j c h t ih=>
   obtain⟨g,_,i⟩:=h;by_cases e:p.1=k
   .have d:=g.symm.trans e;have b:atKey (q::c) k=some q.2:=by simp[atKey,d]
    rw[d9 e,b];exact i
   .have d:¬q.1=k:=λz=>e (g.trans z);have b:atKey (q::c) k=atKey c k:=by simp[atKey,d]
    rw[f6 e,b];exact ih
def KT.repl(r:KT H a d)(k:List Key)(g:RelV y u) :
 KT H (a.map λc=>if c.1=k then(c.1,y) else c) (d.map (putAt k u)):=by
 induction r with
 | nil=>exact .nil
 | @cons p q j l h t ih=>
   rw[LX];refine .cons ?_ ih;obtain⟨b,f,i⟩:=h;unfold putAt;by_cases e:p.1=k
   .rw[if_pos e,if_pos (b.symm.trans e)];exact⟨b,f,g⟩
   .rw[if_neg e,if_neg (λz=>e (b.trans z))];exact⟨b,f,i⟩
def KT.put(r:KT H a c)(k:List Key)(f:H b=some (.tup (k.map kV)))(d:RelV y u) :
 KT H (R6 a k y) (storedH c k b u):=by
 have e:(a.any λg=>decide (g.1=k))=(atKey c k).isSome:=by
  rw[w5,(r.val k).isSome_eq,RY]
 unfold R6 storedH;rw[e];by_cases q:(atKey c k).isSome=true
 .rw[if_pos q,if_pos q];exact r.repl k d
 .rw[if_neg q,if_neg q];exact Paired.snoc r ⟨rfl,f,d⟩
def KT.keeps(r:KT H a c)(e:∀b d,H b=some (.tup d)->H' b=some (.tup d)):KT H' a c:=
 Paired.mapP r λ_ _ z=>⟨z.1,e _ _ z.2.1,z.2.2⟩
def tW(ok:bV P w H h)(e:Rd H a u):aF P w H h a u:=e.ok ok
def jq(ok:bV P w H h)(e:Rd H a (.dK b)):b.length<=sizeLine/\(a == sysModules)=false/\∃c,KV b c/\h.DictOf (K3 P w) a c:=
 show aF P w H h a _ from tW ok e
def tX(ok:bV P w H h)(e:H a=some (.dK b)):b.length<=sizeLine/\(a == sysModules)=false/\∃c,KV b c/\h.DictOf (K3 P w) a c:=jq ok (.inl e)
def f7(ok:bV P w H h)(e:H a=some (.tup (b.map kV))):(tupleKind (K3 P w)).is h b a:=by
 obtain⟨_,c,r,o,d,f,n,g⟩:=(show aF P w H h a _ from ok a _ e);exact⟨o,_,n,d,f,g,by simpa using tV r⟩
def jr(ok:bV P w H h)(e:Rd H a (.dT b)):b.length<=sizeLine/\(a == sysModules)=false/\
 ∃d,KT H b d/\h.DictOfH (tupleKind (K3 P w)) a d:=by
 obtain⟨z,y,d,r,o,g,i,j,n,s,u,v⟩:=(show aF P w H h a _ from tW ok e);refine⟨z,y,d,r,o,g,i,j,n,s,u,λx c=>?_,v⟩;have all:∀{l:List _}{m:List _},KT H l m->∀x∈m,(tupleKind (K3 P w)).is h x.1 x.2.1:=by
  intro l m q;induction q with
  | nil=>simp
  | @cons p q A B f t ih=>
    intro x c;rcases Lu.mp c with e | c
    .subst e;exact f7 ok (by rw[<-f.1];exact f.2.1)
    .exact ih x c
 exact all r x c
def lA(ok:bV P w H h)(e:H a=some (.dT b)):b.length<=sizeLine/\(a == sysModules)=false/\
 ∃c,KT H b c/\h.DictOfH (tupleKind (K3 P w)) a c:=jr ok (.inl e)
def cc(H:Hp)(a:Addr)(y:V)(r:Option V):Prop:=
 (∃c k,Rd H a (.dK c)/\y=kV k/\r=X2 c k)\/∃c k b,Rd H a (.dT c)/\y=.ref b/\H b=some (.tup (k.map kV))/\r=X2 c k
def dE(H:Hp)(a:Addr)(y v:V)(H':Hp):Prop:=
 (∃c k,H a=some (.dK c)/\y=kV k/\c.length<sizeLine/\H'=aB H a (.dK (R6 c k v)))\/
 ∃c k b,H a=some (.dT c)/\y=.ref b/\H b=some (.tup (k.map kV))/\c.length<sizeLine/\H'=aB H a (.dT (R6 c k v))
theorem cc.k{k:Key}(e:H a=some (.dK b)):cc H a (kV k) (X2 b k):=.inl ⟨b,k,.inl e,rfl,rfl⟩
def cc.t{k:List Key}(e:H a=some (.dT c))(d:H b=some (.tup (k.map kV))):cc H a (.ref b) (X2 c k):=.inr ⟨c,k,b,.inl e,rfl,d,rfl⟩
theorem dE.k{k:Key}(e:H a=some (.dK b))(c:b.length<sizeLine):dE H a (kV k) v (aB H a (.dK (R6 b k v))):=.inl ⟨b,k,e,rfl,c,rfl⟩
def dE.t{k:List Key}(e:H a=some (.dT c))(d:H b=some (.tup (k.map kV)))(f:c.length<sizeLine) :
 dE H a (.ref b) v (aB H a (.dT (R6 c k v))):=.inr ⟨c,k,b,e,rfl,d,f,rfl⟩
def Inv.big(I:Inv X pins σ H s):sysModules<s.heap.objs.size:=by
 have h:=(I.mod.glob.keeps I.bk).lt;exact RJ (by decide) h
def AV(C:A.units+1<cLine)(I:Inv X pins σ H s)(g:cc H a y (some v))(x:RelV y u)(h:∀f B,Inv X pins σ H B->RelV v f->Q f B) :
 wpAny (model X.prog X.w) A (getItem (.ref a) u) Q E s:=by
 rcases g with⟨i,k,e,j,l⟩ | ⟨i,k,b,e,j,D,l⟩
 .subst j;obtain⟨z,G,L,c,m⟩:=jq I.hok e;obtain⟨f,n,d⟩:=bT.some_of (by rw[l];exact c.val k);exact wpAny_getItem_of (jo x) m.mapOf n (h f _ (I.tok _) d)
 .subst j;cases(show u=LJ b from x);obtain⟨z,G,N,c,m⟩:=jr I.hok e;obtain⟨f,n,d⟩:=bT.some_of (by rw[l];exact c.val k);obtain⟨p,J,q⟩:=Mi.mp n;refine wpAny_getItem_heap (NX C) (f7 I.hok D) m J ?_;rw[q];exact h f _ (I.tok _) d
def AX(p:A.units+1<cLine)(I:Inv X pins σ H s)(g:cc H a y o)(m:RelV y u)(h:∀n,Inv X pins σ H n->Q (.bool o.isSome) n) :
 wpAny (model X.prog X.w) A (compareOp .In u (.ref a)) Q E s:=by
 rcases g with⟨d,k,e,f,l⟩ | ⟨d,k,b,e,f,x,l⟩
 .subst f;obtain⟨z,i,B,c,j⟩:=jq I.hok e;refine wpAny_in_of (jo m) i j.mapOf ?_;rw[<-(c.val k).isSome_eq,<-l];exact h _ (I.tok _)
 .subst f;cases(show u=LJ b from m);obtain⟨z,i,C,c,j⟩:=jr I.hok e;refine wpAny_in_heap (NX p) (f7 I.hok x) i j ?_;have q:=(c.val k).isSome_eq;rw[RY]at q;rw[<-q,<-l];exact h _ (I.tok _)
def ng(I:Inv X pins σ H s)(e:lx (H a))(hs:MA a s.heap h')(he:∃q,h'.get? a=some q)(new:aF X.prog X.w (aB H a ob) h' a ob) :
 Inv X pins σ (aB H a ob) { s with heap:=h',toks:=t' }:=
 I.write e (.inl rfl) (λb q f z=>(hs.2 b f).trans z) he new
def tY(z:b.length<=sizeLine)(d:(a == sysModules)=false)(c:KV b vs)(e:h'.DictOf (K3 P w) a vs) :
 aF P w H' h' a (.dK b):=⟨z,d,vs,c,e⟩
def AY(T:A.units+1<cLine)(I:Inv X pins σ H s)(g:dE H a y v H')(D:RelV y u)(G:RelV v r)(h:∀J,Inv X pins σ H' J->Q () J) :
 wpAny (model X.prog X.w) A (setItem (.ref a) u r) Q E s:=by
 rcases g with⟨d,k,e,m,l,n⟩ | ⟨d,k,b,e,m,L,l,n⟩
 .subst m n;obtain⟨z,p,U,f,x⟩:=tX I.hok e;have Y:U.length<=sizeLine:=by rw[<-f.length];exact z
  have B:(R6 d k v).length<=sizeLine:=by have:=X3 d k v;symm
  refine wpAny_setItem_pairs (jo D) x λN i C=>h _ ?_;have he:∃q,N.get? a=some q:=let⟨q,_,_,j,_⟩:=i;⟨q,j⟩;exact ng I (by rw[e];exact Of) C he (tY B p (f.put k G) i)
 .subst m n;cases(show u=LJ b from D);obtain⟨z,p,xs,f,x⟩:=lA I.hok e;have Y:xs.length<=sizeLine:=by rw[<-Paired.length f];exact z
  have B:(R6 d k v).length<=sizeLine:=by have:=X3 d k v;symm
  refine wpAny_setItem_heap (NX T) (f7 I.hok L) x λN i C=>h _ ?_;obtain⟨q,es,ep,j,h2,h3,h4,_,h5⟩:=i;refine ng I (by rw[e];exact Of) C ⟨q,j⟩ ⟨B,p,_,(f.put k L G).keeps λc ys O=>?_,q,es,ep,j,h2,h3,h4,h5⟩;rw[aj (sR O e nofun)];exact O
def nh(i:Expr):Prop:=∀ov iv,subscripted i false ov iv=operate [ov,iv] (getItem ov iv)
def AZ{T id:String}
 (n:typeLookup (.type T) "__getitem__" = pure (some (.builtin id))) (hs:nh a)
 (h:wpAny (model prog w) A (eval b g) (λo e=>wpAny (model prog w) A (eval a g) (λi c=>c.TypeIs o T/\wpAny (model prog w) A (getItem o i) Q E c) E e) E s) :
 wpAny (model prog w) A (eval (.Subscript b a m) g) Q E s:=by
 refine Subscript_ (Mp h (λo e j=>Mp j (λi c d=>?_) λ_ _ x=>x) λ_ _ x=>x);obtain⟨p,d⟩:=d;refine L0 ?_;refine L0 (Qb p n ?_);have fin:wpAny (model prog w) A (subscripted a false o i) (λr f=>wpAny (model prog w) A (letTemporaryGo b o r>>=λ_=>pure r) Q E f) E c:=by
  rw[hs o i];exact wpAny_operating (Mp d (λr f l=>L0 (wpAny_letTemporaryGo (Lk l))) λ_ _ x=>x)
 first
  | exact Lk (L0 fin)
  | exact L0 _
  | exact L0 fin
def A6(I:Inv X c σ H s)(g:cc H a y o):s.TypeIs (.ref a) "dict":=by
 rcases g with⟨d,k,e,_,_⟩ | ⟨d,k,b,e,_,_,_⟩
 .obtain⟨_,_,h,_,f⟩:=jq I.hok e;exact f.typeIs
 .obtain⟨_,_,i,_,f⟩:=jr I.hok e;exact f.typeIs
def Ba(d e:TE):TE:=λb H Q=>d b H λx f=>e b f λy c=>∃a v,x=.ref a/\cc c a y (some v)/\Q v c
def tZ(d e:TE):TE:=λb H Q=>d b H λy f=>e b f λx c=>∃a o,x=.ref a/\cc c a y o/\Q (.bl o.isSome) c
def Bb(d e tv:TE):TS:=λD b H=>tv b H λv f=>d b f λx g=>e b g λy h=>∃a c,x=.ref a/\dE h a y v c/\D.nx b c
def ua(j:X.A.units+1<cLine)(l:PE X o td)(m:PE X i ty)(hs:nh i):PE X (.Subscript o i pos) (Ba td ty):=by
 intro b s d H Q I h;refine AZ PySem.F.slot_dict_getitem.lookup hs (aI (l b s d H _ I h) λu n ⟨x,p,q,r,w⟩=>aI (m b n d p _ q w) λiv J z=>?_);obtain⟨y,B,f,C,a,v,D,g,E⟩:=z;subst D;obtain rfl:u=LJ a:=r;exact⟨A6 f g,AV j f g C λL N G c=>⟨v,B,G,c,E⟩⟩
def ub(d:X.A.units+1<cLine)(f:PE X i ty)(j:PE X o td):PC X .In i o (tZ ty td):=by
 intro b s c H Q I h;refine aI (f b s c H _ I h) λiv l ⟨y,m,n,p,q⟩=>aI (j b l c m _ n q) λu E r=>?_;obtain⟨x,v,w,z,a,ov,B,g,C⟩:=r;subst B;obtain rfl:u=LJ a:=z;exact AX d w g p λG D=>⟨.bl _,v,D,rfl,C⟩
def uc(d:X.A.units+1<cLine)(f:PE X o td)(j:PE X i ty)(l:PE X value tv)(hs:swapsWith value (some (.Subscript o i pos')) pos.line X.env=pure false) :
 PS X (.Assign [.Subscript o i pos'] value pos) (Bb td ty tv):=by
 intro b s c H D I h;refine wpAny_Assign_Subscript (aI (l b s c H _ I h) λr m ⟨v,n,p,q,w⟩=>aI (f b m c n _ p w) λu z ⟨x,B,C,E,G⟩=>aI (j b z c B _ C G) λiv Y J=>?_) hs;obtain⟨y,H3,L,N,a,O,Q,g,T⟩:=J;subst Q;obtain rfl:u=LJ a:=E;exact AY d L g N q λs4 U=>⟨c,O,U,T⟩
def Bc(h:Heap)(b:sysModules<h.objs.size):aF P w H (h.push { cls:=.type "dict",data:=.dict #[] }) h.objs.size (.dK []):=
 ⟨OG _,beq_eq_false_iff_ne.mpr (Na (Ly b)),[],.nil,Heap.DictOf.new h⟩
def Bd(h:Heap)(b:sysModules<h.objs.size):aF P w H (h.push { cls:=.type "dict",data:=.dict #[] }) h.objs.size (.dT []):=
 ⟨OG _,beq_eq_false_iff_ne.mpr (Na (Ly b)),[],.nil,_,#[],0,Lq _ rfl,⟨rfl,rfl,rfl⟩,rfl,rfl,OK⟩
def tDNewT:TE:=λ_ H Q=>∀p,H p=none->Q (.ref p) (aB H p (.dT []))
def Be:PE X (.Dict [] [] pos) tDNewT:=λa s b H Q I h=>
 wpAny_Dict_empty ⟨.ref _,_,I.laid (λ_ _ q=>L3 _ q) (Lp _) (Bd _ I.big),rfl,h _ (I.hok.fresh (Lp _))⟩
def ni:List (TE×TE)->St->Hp->(List (V×V)->Hp->Prop)->Prop
 | [],_,H,Q=>Q [] H
 | (b,tv)::r,a,H,Q=>b a H λx c=>tv a c λy d=>ni r a d λe f=>Q ((x,y)::e) f
abbrev VV:List (V×V)->List (Ll×Ll)->Prop:=Paired λp q=>RelV p.1 q.1/\RelV p.2 q.2
def lB(X:Cx)(d:Pos)(c:List (Option Expr))(a:List Expr)(e:List (TE×TE)):Prop:=
 ∀(b:List (Addr×Obj))(s:Ln)(σ:St)(H:Hp)(Q:List (V×V)->Hp->Prop),Inv X b σ H s->ni e σ H Q->
  wpAny (model X.prog X.w) X.A (evalPairs (pairTrees c a X.env d)) (λh i=>∃f g,Inv X b σ g i/\VV f h/\Q f g) X.xe s
def Bf:lB X a [] [] []:=λb s c H Q I h=>pairTrees_nil_walk ⟨[],H,I,.nil,h⟩
def Bg(i:PE X k g)(j:PE X v tv)(l:lB X b f vs c) :
 lB X b (some k::f) (v::vs) ((g,tv)::c):=λa s d H Q I h=>
 pairTrees_cons_walk (aI (i a s d H _ I h) λu m ⟨x,n,o,p,q⟩=>aI (j a m d n _ o q) λJ r ⟨y,w,z,A,B⟩=>
  aI (l a r d w _ z B) λL N ⟨C,D,E,e,G⟩=>⟨_::C,D,E,.cons ⟨p,A⟩ e,G⟩)
noncomputable def q5(b a:List (Key×V)):List (Key×V):=a.foldl (λc d=>R6 c d.1 d.2) b
def KV.merge:∀{a:List (Key×V)}{c:List (Key×Ll)}{b:List (Key×V)}{vs:List (Key×Ll)},KV a c->KV b vs->KV (q5 b a) (merged vs c):=by
 intro a c b vs r;induction r generalizing b vs with
 | nil=>intro q;exact q
 | @cons p q f g h t ih=>
   intro d;have e:KV (R6 b p.1 p.2) (stored vs q.1 q.2):=by
    have:=d.put p.1 h.2;rw[<-h.1];exact this
   exact ih e
theorem n8:∀(b a:List (Key×V)),(q5 a b).length<=a.length+b.length
 | [],a=>by show a.length<=a.length+0;symm
 | p::r,a=>by
   have c:=n8 r (R6 a p.1 p.2);have d:=X3 a p.1 p.2;show(q5 (R6 a p.1 p.2) r).length<=_;rw[Me];symm
theorem ud:∀{d:List (Key×V)}{ws:List (Ll×Ll)},VV (d.map λf=>(kV f.1,f.2)) ws->∃e,Carries (K3 P w) ws e/\KV d e
 | [],_,r=>by rw[OC]at r;cases r;exact⟨[],Of,.nil⟩
 | p::d,_,r=>by
   rw[LX]at r;cases r with
   | @cons a b i bs h t=>
     obtain⟨e,c,q⟩:=ud (P:=P) (w:=w) t;obtain⟨j,g⟩:=b;exact⟨(p.1,g)::e,⟨jo h.1,rfl,c⟩,.cons ⟨rfl,h.2⟩ q⟩
def Bh(b:List (TE×TE)):TE:=λe H Q=>∀p,H p=none->ni b e (aB H p (.dK [])) λf c=>c p=some (.dK [])/\∃a:List (Key×V),f=a.map (λd=>(kV d.1,d.2))/\a.length<=15/\Q (.ref p) (aB c p (.dK (q5 [] a)))
def Bi(h:lB X d a b f)(g:a.all (·.isSome)=true)(p:a.length=b.length)(r:a≠[])
 (m:a.length<=15):PE X (.Dict a b d) (Bh f):=by
 intro i s u H Q I q;have v:=I.hok.fresh (Lp _);have x:=I.laid (t':=s.toks) (λ_ _ q=>L3 _ q) (Lp _) (Bc _ I.big);refine wpAny_Dict_walk (knd:=K3 _ X.w) g p r m (aI (h i _ u _ _ x (q _ v)) λws s2 y=>?_);obtain⟨ps,H2,o,n,e,j,A,lk,B⟩:=y;subst A;obtain⟨C,c,D⟩:=ud n;obtain⟨z,E,G,J,L⟩:=tX o.hok e;cases J;refine⟨C,c,L,λN l O=>⟨.ref _,_,?_,rfl,B⟩⟩;have T:(q5 [] j).length<=sizeLine:=by
  have U:=n8 j [];rw[Nd]at U;rw[OF];symm
 have Y:∃q,N.get? _=some q:=let⟨q,_,_,hq,_⟩:=l;⟨q,hq⟩;exact ng o (by rw[e];exact Of) O Y (tY T E (D.merge .nil) l)
structure M1(X:Cx)(o:Expr)(m:Str)(apos:Pos)(e:Expr)(cpos:Pos):Prop where
 base:attributeBase o m X.env (eval o X.env)=eval o X.env
 few:((backTo cpos (starEach [e] X.env)).all (λx=>!x.1)&&(backToKw cpos (keywordEach [] X.env)).all (λx=>x.1.isSome)
  &&decide (([e]:List Expr).length+([]:List Ro).length+(if([]:List Ro).isEmpty then 0 else 1)<30))=true
 line:(apos.endLine == cpos.line)=true
 trees:backTo cpos (starEach [e] X.env)=[(false,eval e X.env)]
structure M2(X:Cx)(o:Expr)(m:Str)(apos:Pos)(e f:Expr)(cpos:Pos):Prop where
 base:attributeBase o m X.env (eval o X.env)=eval o X.env
 few:((backTo cpos (starEach [e,f] X.env)).all (λx=>!x.1)&&(backToKw cpos (keywordEach [] X.env)).all (λx=>x.1.isSome)
  &&decide (([e,f]:List Expr).length+([]:List Ro).length+(if([]:List Ro).isEmpty then 0 else 1)<30))=true
 line:(apos.endLine == cpos.line)=true
 trees:backTo cpos (starEach [e,f] X.env)=[(false,eval e X.env),(false,eval f X.env)]
def nj(H:Hp)(a:Addr):Prop:=(∃b,Rd H a (.dK b))\/∃b,Rd H a (.dT b)
def pS(I:Inv X f σ H s)(d:nj H a) :
 s.TypeIs (.ref a) "dict"/\(∀b,LJ a=.ref b->∃c,s.heap.get? b=some c/\c.dict=none)/\(a == sysModules)=false:=by
 rcases d with⟨h,e⟩ | ⟨h,e⟩
 .obtain⟨_,i,m,_,g⟩:=jq I.hok e;refine⟨g.typeIs,λb q=>?_,i⟩;cases q;obtain⟨c,_,_,j,l,_⟩:=g;exact⟨c,j,l.2.1⟩
 .obtain⟨_,i,n,_,g⟩:=jr I.hok e;refine⟨g.typeIs,λb q=>?_,i⟩;cases q;obtain⟨c,_,_,j,l,_⟩:=g;exact⟨c,j,l.2.1⟩
def Bj(v:A.units+1<cLine)(I:Inv X pins σ H s)(g:cc H a y o)(n:RelV y u)(h:∀p q,Inv X pins σ H q->RelV (o.getD .non) p->Q p q) :
 wpAny (model X.prog X.w) A (call (.builtin "dict.get") [.ref a,u]) Q E s:=by
 rcases g with⟨i,k,e,j,l⟩ | ⟨i,k,b,e,j,x,l⟩
 .subst j;obtain⟨z,m,C,c,f⟩:=jq I.hok e;refine Tn NT f.typeIs OM (Sq _ _) (meets_dict_get _ a (jo n) m) ⟨_,f.mapOf,h _ _ (I.tok _) ?_⟩;rw[l];exact(c.val k).getD rfl
 .subst j;cases(show u=LJ b from n);obtain⟨z,m,B,c,f⟩:=jr I.hok e;refine Tn NT f.typeIs OM (Sq _ _) (meetsH_dict_get _ a b m) ⟨NX v,k,B,f7 I.hok x,f,h _ _ (I.tok _) ?_⟩;rw[l];exact(c.val k).getD rfl
def Bk(x:A.units+1<cLine)(I:Inv X pins σ H s)(g:cc H a y o)(n:RelV y u)(p:RelV d r)(h:∀q v,Inv X pins σ H v->RelV (o.getD d) q->Q q v) :
 wpAny (model X.prog X.w) A (call (.builtin "dict.get") [.ref a,u,r]) Q E s:=by
 rcases g with⟨i,k,e,j,l⟩ | ⟨i,k,b,e,j,B,l⟩
 .subst j;obtain⟨z,m,D,c,f⟩:=jq I.hok e;refine Tn NT f.typeIs OM (Sr _ _ _) (meets_dict_get_default _ a (jo n) m r) ⟨_,f.mapOf,h _ _ (I.tok _) ?_⟩;rw[l];exact(c.val k).getD p
 .subst j;cases(show u=LJ b from n);obtain⟨z,m,C,c,f⟩:=jr I.hok e;refine Tn NT f.typeIs OM (Sr _ _ _) (meetsH_dict_get_default _ a b m r) ⟨NX x,k,C,f7 I.hok B,f,h _ _ (I.tok _) ?_⟩;rw[l];exact(c.val k).getD p
def Bl(e f:TE):TE:=λb H Q=>e b H λx c=>∃a,x=.ref a/\nj c a/\f b c λy d=>∃o,cc d a y o/\Q (o.getD .non) d
def Bm(e f g:TE):TE:=λb H Q=>e b H λx c=>∃a,x=.ref a/\nj c a/\f b c λy h=>g b h λz d=>∃o,cc d a y o/\Q (o.getD z) d
def Bn(l:X.A.units+1<cLine)(n:PE X o td)(he:PE X e ty)(m:M1 X o "get" apos e cpos):PE X (.Call (.Attribute o "get" apos) [e] [] cpos) (Bl td ty):=by
 intro b s i H Q I h;refine Qs m.base m.few m.line Qc NT To (aI (n b s i H _ I h) λu p q=>?_);obtain⟨x,r,j,v,a,w,d,z⟩:=q;subst w;obtain rfl:u=LJ a:=v;obtain⟨B,C,_⟩:=pS j d;refine⟨B,C,?_⟩;rw[m.trees];refine OL rfl (Pp (NW (aI (he b p i r _ j z) λiv N ⟨y,D,E,G,ov,g,J⟩=>Pb ?_)));exact Bj l E g G λO T L c=>⟨_,D,L,c,J⟩
def Bo(l:X.A.units+1<cLine)(n:PE X o td)(he:PE X e ty)(p:PE X f tx)(m:M2 X o "get" apos e f cpos):PE X (.Call (.Attribute o "get" apos) [e,f] [] cpos) (Bm td ty tx):=by
 intro b s c H Q I h;refine Qs m.base m.few m.line Qc NT To (aI (n b s c H _ I h) λu q r=>?_);obtain⟨x,v,j,w,a,B,d,C⟩:=r;subst B;obtain rfl:u=LJ a:=w;obtain⟨D,E,_⟩:=pS j d;refine⟨D,E,?_⟩;rw[m.trees];refine OL rfl (Pp (NW (aI (he b q c v _ j C) λiv G ⟨y,J,L,N,O⟩=>
  NW (aI (p b G c J _ L O) λfv s3 ⟨z,T,U,Y,ov,g,q3⟩=>Pb ?_))))
 exact Bk l U g N Y λw' s4 I4 i=>⟨_,T,I4,i,q3⟩
end L2
set_option maxRecDepth 100000
namespace Ws
section
inductive PV where
 | non | bl (b:Bool) | int (i:Int) | str (x:Nf) | tup (l:List PV) | ref (n:Nat)
inductive PO where
 | lst (l:List PV)
 | ro (l:List PV)
 | dI (kvs:List (Int×PV))
 | ins (c:Nat) (fs:List (Nat×PV))
   | dT (kvs:List (List Int×PV))
   | dS (kvs:List (Nf×PV))
   | hid
   | exc (c:Nat) (v:PV)
abbrev PHp:=List PO
inductive R (α:Type) where
 | ok (a:α) (A:PHp)
 | ex (c:Nat) (v:PV) (A:PHp)
 | no
abbrev M(a:Type):=PHp->R a
@[simp] noncomputable def ret{b:Type}(a:b):M b:=λA=>.ok a A
@[simp] noncomputable def stuck{a:Type}:M a:=λ_=>.no
@[simp] noncomputable def ao{d e:Type}(m:M d)(f:d->M e):M e:=λA=>match m A with
  | .ok a b=>f a b
  | .ex c v b=>.ex c v b
  | .no=>.no
def D5{a:Type}(P:Prop)(m:M a):M a:=@ite _ P (OH P) m stuck
def J5{a:Type}{P:Prop}{m:M a}(h:P):D5 P m=m:=if_pos h
@[simp] theorem KO{a:Type}{m:M a}:D5 True m=m:=if_pos trivial
def B9{b:Type}{P:Prop}{m:M b}{a:b}(h:D5 P m A=.ok a A'):P/\m A=.ok a A':=by
 by_cases p:P
 .rw[J5 p]at h;exact⟨p,h⟩
 .rw[show D5 P m=stuck from if_neg p]at h;cases h
def ay{b c:Type}{m:M b}{f:b->M c}{a:b}(h:m A=.ok a A'):ao m f A=f a A':=by simp_all
inductive ue {α β:Type} (m:M α) (f:α->M β) (A A':PHp) (b:β):Prop
 | mk (a:α) (A1:PHp) (h0:m A=.ok a A1) (h1:f a A1=.ok b A'):ue m f A A' b
def B0{d g:Type}{m:M d}{f:d->M g}{b:g}(h:ao m f A=.ok b A'):ue m f A A' b:=by
 unfold ao at h;cases e:m A with
 | ok a i=>rw[e]at h;exact⟨a,i,e,h⟩
 | ex c v i=>simp_all
 | no=>simp_all
abbrev PSt:=List (Option PV)
abbrev ED:=PSt->M PV
abbrev TD:=PSt->M Bool
abbrev AD:=PSt->M (List PV)
abbrev Fun:=List PV->M PV
inductive Fl where
 | nx (σ:PSt) | rt (v:PV) | bk (σ:PSt) | ct (σ:PSt)
abbrev SD:=PSt->M Fl
abbrev GD:=PV->PSt->M PSt
@[irreducible] noncomputable def LIM:Nat:=100000
def aH(h:n<=10000):n<=LIM:=by unfold LIM;symm
def bg(h:n<10000):n<LIM:=by unfold LIM;symm
@[simp] theorem KP:0<=LIM:=OG _
@[simp] theorem KQ:1<=LIM:=aH (by symm)
@[simp] theorem KR:2<=LIM:=aH (by symm)
@[simp] theorem KS:3<=LIM:=aH (by symm)
@[simp] theorem KU:4<=LIM:=aH (by symm)
mutual
noncomputable def bJ:PV->PV->Bool
 | .non,.non=>true
 | .bl a,.bl b=>a == b
 | .int i,.int j=>decide (i=j)
 | .str x,.str y=>decide (x=y)
 | .tup l,.tup m=>eqvs l m
 | _,_=>false
noncomputable def eqvs:List PV->List PV->Bool
 | [],[]=>true
 | x::a,y::b=>bJ x y&&eqvs a b
 | _,_=>false
end
mutual
noncomputable def n0:PV->Bool
 | .non=>true
 | .int _=>true
 | .str _=>true
 | .tup l=>nices l
 | _=>false
noncomputable def nices:List PV->Bool
 | []=>true
 | x::a=>n0 x&&nices a
end
@[simp] noncomputable def f8:PV->Bool
  | .non=>true
  | .int _=>true
  | .str _=>true
  | _=>false
noncomputable def iB:PV->Bool
 | .tup l=>l.all f8
 | x=>f8 x
noncomputable def Y8:PV->Bool
 | .tup l=>l.all iB
 | x=>f8 x
noncomputable def plain:PV->Bool
 | .tup l=>l.all Y8
 | x=>f8 x
noncomputable def G6(l:List PV):Bool:=l.all plain
@[simp] theorem KW(i:Int):plain (.int i)=true:=rfl
@[simp] theorem KY:plain .non=true:=rfl
@[simp] noncomputable def alloc(o:PO):M PV:=λA=>.ok (.ref A.length) (A++[o])
@[simp] noncomputable def E7(n:Nat):M (List PV):=λA=>match A[n]? with
  | some (.lst l)=>.ok l A
  | some (.ro l)=>.ok l A
  | _=>.no
@[simp] noncomputable def Q9(n:Nat):M (List PV):=λA=>match A[n]? with
  | some (.lst l)=>.ok l A
  | _=>.no
@[simp] noncomputable def put(n:Nat)(o:PO):M Unit:=λA=>.ok () (A.set n o)
@[simp] noncomputable def w6(n:Nat):M (Nat×List (Nat×PV)):=λA=>match A[n]? with
  | some (.ins c fs)=>.ok (c,fs) A
  | _=>.no
@[simp] noncomputable def O7(v:PV):M (List PV):=match v with
  | .ref n=>E7 n
  | .tup l=>ret l
  | _=>stuck
@[simp] noncomputable def ae(i:Nat):ED:=λa=>match a[i]? with
  | some (some v)=>ret v
  | _=>stuck
@[simp] noncomputable def eK(v:PV):ED:=λ_=>ret v
@[simp] noncomputable def aNil:AD:=λ_=>ret []
@[simp] noncomputable def ag(e:ED)(es:AD):AD:=λa=>ao (e a) λx=>ao (es a) λb=>ret (x::b)
@[simp] def aX(es:AD):ED:=λb=>ao (es b) λa=>D5 (a.length<=LIM) (ret (.tup a))
@[simp] def bA(es:AD):ED:=λb=>ao (es b) λa=>D5 (a.length<=LIM) (alloc (.lst a))
abbrev OD:=PV->PV->M PV
@[simp] noncomputable def eBin(f:OD)(a b:ED):ED:=λc=>ao (a c) λx=>ao (b c) λy=>f x y
@[simp] def aS:OD
  | .int i,.int j=>ret (.int (i+j))
  | .tup l,.tup m=>D5 (l≠[]/\l.length+m.length<=LIM) (ret (.tup (l++m)))
  | .ref n,.ref k=>ao (Q9 n) λl=>ao (Q9 k) λm=>D5 (l.length+m.length<=LIM) (alloc (.lst (l++m)))
  | _,_=>stuck
@[simp] noncomputable def fH:OD
  | .int i,.int j=>ret (.int (i - j))
  | _,_=>stuck
@[simp] def cG:OD
  | .int i,.int j=>D5 ((-(2 ^ 64)<i/\i<2 ^ 64)\/(-(2 ^ 64)<j/\j<2 ^ 64)) (ret (.int (i*j)))
  | _,_=>stuck
@[simp] def bH:OD
  | .int i,.int j=>D5 (0<j) (ret (.int (i%j)))
  | _,_=>stuck
@[simp] def bB:OD
  | .int i,.int j=>D5 (0<j/\j<1073741824) (ret (.int (i / j)))
  | _,_=>stuck
@[simp] noncomputable def eO:OD
  | .int i,.int j=>ret (.bl (decide (i<j)))
  | _,_=>stuck
@[simp] noncomputable def jt:OD
  | .int i,.int j=>ret (.bl (decide (i<=j)))
  | _,_=>stuck
@[simp] noncomputable def ju:OD
  | .int i,.int j=>ret (.bl (decide (j<i)))
  | _,_=>stuck
@[simp] noncomputable def kF:OD
  | .int i,.int j=>ret (.bl (decide (j<=i)))
  | _,_=>stuck
@[simp] noncomputable def uf:PV->PV->Bool
  | .bl _,.bl _=>true
  | _,_=>false
@[simp] def lC(x y:PV):M Bool:=match x,y with
  | .ref n,.ref k=>ao (E7 n) λl=>ao (E7 k) λm=>D5 (G6 l=true/\G6 m=true) (ret (eqvs l m))
  | x,y=>D5 (uf x y=true\/(plain x=true/\plain y=true)) (ret (bJ x y))
@[simp] def ck:OD:=λx y=>ao (lC x y) λb=>ret (.bl b)
@[simp] def cQ:OD:=λx y=>ao (lC x y) λb=>ret (.bl (!b))
noncomputable def dc(x:PV)(l:List PV):Bool:=l.any λy=>bJ y x
@[simp] def dv:OD:=λx y=>ao (O7 y) λl=>D5 (plain x=true/\G6 l=true) (ret (.bl (dc x l)))
@[simp] def bt:OD:=λx y=>ao (O7 y) λl=>D5 (plain x=true/\G6 l=true) (ret (.bl (!dc x l)))
@[simp] noncomputable def nk:PV->Bool
  | .non=>true
  | _=>false
@[simp] noncomputable def gI(a:ED):ED:=λb=>ao (a b) λx=>ret (.bl (nk x))
@[simp] noncomputable def fJ(a:ED):ED:=λb=>ao (a b) λx=>ret (.bl (!nk x))
@[simp] noncomputable def cL(f g:OD)(a b c:ED):ED:=λd=>ao (a d) λx=>ao (b d) λy=>ao (f x y) λz=>match z with
  | .bl true=>ao (c d) λu=>g y u
  | .bl false=>ret (.bl false)
  | _=>stuck
@[simp] noncomputable def kG(v:PV):M Bool:=match v with
  | .bl b=>ret b
  | _=>stuck
@[simp] noncomputable def av(e:ED):TD:=λa=>ao (e a) kG
@[simp] noncomputable def tAnd(a b:TD):TD:=λd=>ao (a d) λc=>if c=true then b d else ret false
@[simp] noncomputable def tOr(a b:TD):TD:=λd=>ao (a d) λc=>if c=true then ret true else b d
@[simp] noncomputable def tNot(a:TD):TD:=λb=>ao (a b) λc=>ret (!c)
@[simp] noncomputable def Y9(a b:ED):ED:=λd=>ao (ao (a d) kG) λc=>if c=true then b d else ret (.bl false)
@[simp] noncomputable def nq(a b:ED):ED:=λd=>ao (ao (a d) kG) λc=>if c=true then ret (.bl true) else b d
@[simp] noncomputable def de(a:ED):ED:=λb=>ao (ao (a b) kG) λc=>ret (.bl (!c))
@[simp] noncomputable def nr(t:TD)(a b:ED):ED:=λd=>ao (t d) λc=>if c=true then a d else b d
noncomputable def ixN(n:Nat)(i:Int):Option Nat:=if 0<=i then(if i<n then some i.toNat else none) else if -(n:Int)<=i then some (i+n).toNat else none
noncomputable def atI{a:Type}(b:List a)(i:Int):Option a:=(ixN b.length i).bind λj=>b[j]?
@[simp] noncomputable def oIx:OD:=λx y=>match y with
  | .int i=>ao (O7 x) λl=>match atI l i with
    | some v=>ret v
    | none=>stuck
  | _=>stuck
noncomputable def V4(n d:Nat):Option Int->Nat
 | none=>d
 | some v=>if v<0 then(max (v+n) 0).toNat else(min v n).toNat
noncomputable def cut{b:Type}(a:List b)(lo c:Option Int):List b:=(a.drop (V4 a.length 0 lo)).take (V4 a.length a.length c - V4 a.length 0 lo)
abbrev LD:=PSt->M (Option Int)
@[simp] noncomputable def gJ:LD:=λ_=>ret none
@[simp] noncomputable def fK(e:ED):LD:=λa=>ao (e a) λx=>match x with
  | .int i=>ret (some i)
  | _=>stuck
@[simp] def df(a:ED)(lo d:LD):ED:=λc=>ao (a c) λx=>ao (lo c) λl=>ao (d c) λh=>match x with
  | .ref n=>ao (E7 n) λb=>alloc (.lst (cut b l h))
  | .tup b=>D5 (¬(V4 b.length 0 l=0/\V4 b.length b.length h=b.length)) (ret (.tup (cut b l h)))
  | _=>stuck
@[simp] noncomputable def q8(a:ED):ED:=λb=>ao (a b) λx=>ao (O7 x) λl=>ret (.int l.length)
@[simp] noncomputable def l4(a:ED):ED:=λb=>ao (a b) λx=>ao (O7 x) λl=>alloc (.lst l)
noncomputable def J9:List PV->Option (List Int)
 | []=>some []
 | .int i::r=>(J9 r).map (i :: ·)
 | _=>none
noncomputable def W3:List PV->Option (List (List Int))
 | []=>some []
 | .tup (x::l)::r=>match J9 (x::l),W3 r with
   | some z,some a=>some (z::a)
   | _,_=>none
 | _=>none
noncomputable def D3:List Int->List Int->Bool
 | _,[]=>false
 | [],_::_=>true
 | x::a,y::b=>if x=y then D3 a b else decide (x<y)
noncomputable def d4{c:Type}(lt:c->c->Bool)(a:c):List c->List c
 | []=>[a]
 | b::r=>if lt b a=true then b::d4 lt a r else a::b::r
noncomputable def D9{b:Type}(lt:b->b->Bool):List b->List b
 | []=>[]
 | a::r=>d4 lt a (D9 lt r)
noncomputable def iC(i j:Int):Bool:=decide (i<j)
def l5(l:List PV):M (List PV):=D5 (l.length<64) (match J9 l with
    | some ns=>ret ((D9 iC ns).map .int)
    | none=>match W3 l with
      | some a=>ret ((D9 D3 a).map λt=>.tup (t.map .int))
      | none=>stuck)
@[simp] def b9(a:ED):ED:=λb=>ao (a b) λx=>match x with
  | .ref n=>ao (E7 n) λl=>ao (l5 l) λm=>alloc (.lst m)
  | _=>stuck
inductive Ty where
 | int | bool | tuple | list
@[simp] noncomputable def lD(t:Ty)(v:PV):M Bool:=match t,v with
  | .int,.int _=>ret true
  | .int,.bl _=>ret true
  | .bool,.bl _=>ret true
  | .tuple,.tup _=>ret true
  | .list,.ref n=>ao (Q9 n) λ_=>ret true
  | _,.ref n=>ao (Q9 n) λ_=>ret false
  | _,_=>ret false
@[simp] noncomputable def fy(a:ED)(t:Ty):ED:=λc=>ao (a c) λx=>ao (lD t x) λb=>ret (.bl b)
@[simp] noncomputable def f9(f:Nat):List (Nat×PV)->Option PV
  | []=>none
  | (g,u)::r=>if g=f then some u else f9 f r
@[simp] noncomputable def aJ(a:ED)(f:Nat):ED:=λb=>ao (a b) λx=>match x with
  | .ref n=>ao (w6 n) λo=>match f9 f o.2 with
    | some v=>ret v
    | none=>stuck
  | _=>stuck
@[simp] noncomputable def putFld(f:Nat)(v:PV):List (Nat×PV)->List (Nat×PV)
  | []=>[(f,v)]
  | (g,u)::r=>if g=f then(g,v)::r else(g,u)::putFld f v r
@[simp] def sFld(a:ED)(f:Nat)(e:ED):SD:=λb=>ao (e b) λv=>ao (a b) λx=>match x with
  | .ref n=>ao (w6 n) λo=>D5 (o.2.length<900) (ao (put n (.ins o.1 (putFld f v o.2))) λ_=>ret (.nx b))
  | _=>stuck
@[simp] noncomputable def C8(f:Fun)(es:AD):ED:=λa=>ao (es a) f
@[simp] noncomputable def iD(c:Nat)(a:Fun)(es:AD):ED:=λb=>ao (es b) λd=>ao (alloc (.ins c [])) λx=>ao (a (x::d)) λ_=>ret x
@[simp] def aQ(c:Nat)(f:Fun)(a:ED)(es:AD):ED:=λb=>ao (a b) λx=>match x with
  | .ref n=>ao (w6 n) λo=>D5 (o.1=c) (ao (es b) λd=>f (x::d))
  | _=>stuck
@[simp] def V5(a e:ED):ED:=λb=>ao (a b) λx=>match x with
  | .ref n=>ao (Q9 n) λ_=>ao (e b) λv=>ao (Q9 n) λl=>D5 (l.length<LIM) (ao (put n (.lst (l++[v]))) λ_=>ret .non)
  | _=>stuck
@[simp] noncomputable def gName(i:Nat):GD:=λv a=>ret (a.set i (some v))
abbrev GDs:=List PV->PSt->M PSt
@[simp] noncomputable def gNil:GDs:=λa b=>match a with
  | []=>ret b
  | _=>stuck
@[simp] noncomputable def gCons(g:GD)(r:GDs):GDs:=λb c=>match b with
  | v::w=>ao (g v c) λa=>r w a
  | _=>stuck
@[simp] def gTup(n:Nat)(g:GDs):GD:=λv a=>match v with
  | .tup l=>D5 (l.length=n) (g l a)
  | _=>stuck
inductive It where
 | rng (lo:Int) (n:Nat) | lst (n:Nat) | tup (l:List PV) | enm (n:Nat)
   | fix (l:List PV)
   | zip (x y:PV)
   | enk (k n:Nat)
abbrev ID:=PSt->M It
@[simp] noncomputable def bI(a:ED):ID:=λb=>ao (a b) λx=>match x with
  | .ref n=>ao (E7 n) λ_=>ret (.lst n)
  | .tup l=>ret (.tup l)
  | _=>stuck
@[simp] def iRng1(a:ED):ID:=λb=>ao (a b) λx=>match x with
  | .int j=>D5 (-(2 ^ 62)<=j/\j<2 ^ 62) (ret (.rng 0 j.toNat))
  | _=>stuck
@[simp] noncomputable def fL(a:ED):ID:=λb=>ao (a b) λx=>match x with
  | .ref n=>ao (E7 n) λ_=>ret (.enm n)
  | _=>stuck
@[simp] noncomputable def item(J:It)(i:Nat):M (Option PV):=match J with
  | .rng lo n=>ret (if i<n then some (.int (lo+i)) else none)
  | .lst a=>ao (E7 a) λl=>ret l[i]?
  | .tup l=>ret l[i]?
  | .enm a=>ao (E7 a) λl=>ret (l[i]?.map λx=>.tup [.int i,x])
  | .fix l=>ret l[i]?
  | .zip x y=>ao (O7 x) λl=>ao (O7 y) λm=>ret (match l[i]?,m[i]? with
    | some u,some v=>some (.tup [u,v])
    | _,_=>none)
  | .enk k a=>ao (E7 a) λl=>ret (l[i]?.map λx=>.tup [.int ((k+i:Nat):Int),x])
@[simp] noncomputable def i0(J:It):M Nat:=match J with
  | .rng _ n=>ret n
  | .lst a=>ao (E7 a) λl=>ret l.length
  | .tup l=>ret l.length
  | .enm a=>ao (E7 a) λl=>ret l.length
  | .fix l=>ret l.length
  | .zip x _=>ao (O7 x) λl=>ret l.length
  | .enk _ a=>ao (E7 a) λl=>ret l.length
@[simp] noncomputable def sPass:SD:=λa=>ret (.nx a)
@[simp] noncomputable def au(a b:SD):SD:=λd=>ao (a d) λf=>match f with
  | .nx c=>b c
  | o=>ret o
@[simp] noncomputable def aO(e:ED):SD:=λa=>ao (e a) λ_=>ret (.nx a)
@[simp] noncomputable def aC(e:ED):SD:=λa=>ao (e a) λv=>ret (.rt v)
@[simp] noncomputable def br(t:TD)(a b:SD):SD:=λd=>ao (t d) λc=>if c=true then a d else b d
@[simp] noncomputable def aD(e:ED)(g:GD):SD:=λb=>ao (e b) λv=>ao (g v b) λa=>ret (.nx a)
@[simp] noncomputable def sNever:SD:=λ_=>stuck
noncomputable def pT(J:It)(g:GD)(a:SD):Nat->Nat->PSt->M Fl
 | 0,_,_=>stuck
 | f+1,i,d=>ao (item J i) λx=>match x with
   | none=>ret (.nx d)
   | some v=>ao (g v d) λc=>ao (a c) λo=>match o with
     | .nx b=>pT J g a f (i+1) b
     | .ct b=>pT J g a f (i+1) b
     | .bk b=>ret (.nx b)
     | .rt v=>ret (.rt v)
theorem pU:∃T:It->GD->SD->Nat->Nat->PSt->M Fl,(∀J g a i c,T J g a 0 i c=stuck)/\∀J g a f i c,T J g a (f+1) i c=ao (item J i) λx=>match x with
 | none=>ret (.nx c)
 | some v=>ao (g v c) λd=>ao (a d) λo=>match o with
   | .nx b=>T J g a f (i+1) b
   | .ct b=>T J g a f (i+1) b
   | .bk b=>ret (.nx b)
   | .rt v=>ret (.rt v):=⟨pT,λ_ _ _ _ _=>rfl,λ_ _ _ _ _ _=>rfl⟩
noncomputable def Z0:It->GD->SD->Nat->Nat->PSt->M Fl:=SK pU
def ug(J:It)(g:GD)(a:SD)(i:Nat)(σ:PSt):Z0 J g a 0 i σ=stuck:=(NU pU).1 J g a i σ
theorem T1(J:It)(g:GD)(a:SD)(f i:Nat)(σ:PSt):Z0 J g a (f+1) i σ=ao (item J i) λx=>match x with
 | none=>ret (.nx σ)
 | some v=>ao (g v σ) λc=>ao (a c) λo=>match o with
   | .nx b=>Z0 J g a f (i+1) b
   | .ct b=>Z0 J g a f (i+1) b
   | .bk b=>ret (.nx b)
   | .rt v=>ret (.rt v):=(NU pU).2 J g a f i σ
@[simp] noncomputable def fz(c:ID)(g:GD)(a:SD):SD:=λb=>ao (c b) λJ=>ao (i0 J) λn=>Z0 J g a (n+1) 0 b
noncomputable def pV(t:TD)(a:SD):Nat->PSt->M Fl
 | 0,_=>stuck
 | f+1,d=>ao (t d) λc=>if c=true then ao (a d) λo=>match o with
    | .nx b=>pV t a f b
    | .ct b=>pV t a f b
    | .bk b=>ret (.nx b)
    | .rt v=>ret (.rt v)
   else ret (.nx d)
theorem pW:∃T:TD->SD->Nat->PSt->M Fl,(∀t a d,T t a 0 d=stuck)/\∀t a f d,T t a (f+1) d=ao (t d) λc=>if c=true then ao (a d) λo=>match o with
 | .nx b=>T t a f b
 | .ct b=>T t a f b
 | .bk b=>ret (.nx b)
 | .rt v=>ret (.rt v)
 else ret (.nx d):=⟨pV,λ_ _ _=>rfl,λ_ _ _ _=>rfl⟩
noncomputable def i3:TD->SD->Nat->PSt->M Fl:=SK pW
def Bp(t:TD)(a:SD)(σ:PSt):i3 t a 0 σ=stuck:=(NU pW).1 t a σ
theorem uh(t:TD)(a:SD)(f:Nat)(σ:PSt):i3 t a (f+1) σ=ao (t σ) λc=>if c=true then ao (a σ) λo=>match o with
 | .nx b=>i3 t a f b
 | .ct b=>i3 t a f b
 | .bk b=>ret (.nx b)
 | .rt v=>ret (.rt v)
 else ret (.nx σ):=(NU pW).2 t a f σ
@[simp] noncomputable def lE(t:TD)(a:SD):SD:=λb=>i3 t a LIM b
noncomputable def cw{a:Type}(b:List (Option Nat))(σ:List (Option a)):List (Option a):=b.map λo=>match o with
 | none=>none
 | some j=>σ.getD j none
noncomputable def pX(J:It)(g:GD)(t:TD)(e:ED):Nat->Nat->PSt->M (List PV)
 | 0,_,_=>stuck
 | f+1,i,b=>ao (item J i) λx=>match x with
   | none=>ret []
   | some v=>ao (g v b) λa=>ao (t a) λc=>if c=true then ao (e a) λy=>ao (pX J g t e f (i+1) a) λd=>ret (y::d)
     else pX J g t e f (i+1) a
theorem pY:∃T:It->GD->TD->ED->Nat->Nat->PSt->M (List PV),(∀J g t e i b,T J g t e 0 i b=stuck)/\∀J g t e f i b,T J g t e (f+1) i b=ao (item J i) λx=>match x with
 | none=>ret []
 | some v=>ao (g v b) λa=>ao (t a) λc=>if c=true then ao (e a) λy=>ao (T J g t e f (i+1) a) λd=>ret (y::d)
   else T J g t e f (i+1) a:=⟨pX,λ_ _ _ _ _ _=>rfl,λ_ _ _ _ _ _ _=>rfl⟩
noncomputable def c5:It->GD->TD->ED->Nat->Nat->PSt->M (List PV):=SK pY
def ui(J:It)(g:GD)(t:TD)(e:ED)(i:Nat)(σ:PSt):c5 J g t e 0 i σ=stuck:=(NU pY).1 J g t e i σ
theorem X4(J:It)(g:GD)(t:TD)(e:ED)(f i:Nat)(σ:PSt):c5 J g t e (f+1) i σ=ao (item J i) λx=>match x with
 | none=>ret []
 | some v=>ao (g v σ) λa=>ao (t a) λc=>if c=true then ao (e a) λy=>ao (c5 J g t e f (i+1) a) λb=>ret (y::b)
   else c5 J g t e f (i+1) a:=(NU pY).2 J g t e f i σ
@[simp] noncomputable def bp:TD:=λ_=>ret true
@[simp] def L9(c:ID)(d:PSt->PSt)(g:GD)(t:TD)(e:ED):ED:=λa=>ao (c a) λJ=>ao (i0 J) λn=>ao (c5 J g t e (n+1) 0 (d a)) λb=>D5 (b.length<=LIM) (alloc (.lst b))
@[simp] noncomputable def start(n:Nat)(vs:List PV):PSt:=vs.map some++Px (n - vs.length) none
noncomputable def fin(o:Fl):M PV:=match o with
    | .rt v=>ret v
    | .nx _=>ret .non
    | _=>stuck
@[simp] theorem KZ(v:PV):fin (.rt v)=ret v:=rfl
@[simp] theorem K1(σ:PSt):fin (.nx σ)=ret .non:=rfl
@[simp] def fn(n p:Nat)(a:SD):Fun:=λb=>D5 (b.length=p) (ao (a (start n b)) fin)
end
def ai{n:Nat}{o:PO}(h:A<+:B)(e:A[n]?=some o):B[n]?=some o:=by
 obtain⟨t,rfl⟩:=h;rw[LG (LA.mp e).1];exact e
def C6{A:PHp}(e:A[n]?=some o):n<A.length:=(LA.mp e).1
def X5{o:PO}(h:A<+:B)(e:A.length<=n):A<+:B.set n o:=by
 obtain⟨t,rfl⟩:=h;rw[Tp _ _ e];exact Lw _ _
def D0{o:PO}(h:A<+:B):A<+:B++[o]:=h.trans (Lw _ _)
def Bq{A B:PHp}(h:A<+:B):A.length<=B.length:=h.length_le
def aq{o:PO}:(A++[o])[A.length]?=some o:=by simp
def ak{A:PHp}{n:Nat}(e:A[n]?=some p):(A++[o])[n]?=some p:=ai (Lw _ _) e
def C5{A:PHp}(h:m≠n):(A.set n o)[m]?=A[m]?:=by
 simp[Na h]
def aE{A:PHp}(h:A[n]?=some p):(A.set n o)[n]?=some o:=by
 simp[C6 h]
def Comes(r:R Fl)(P:PSt->PHp->Prop)(Q:PV->PHp->Prop):Prop:=
 (∃a A,r=.ok (.nx a) A/\P a A)\/∃v A,r=.ok (.rt v) A/\Q v A
def dF(r:R Fl)(P:PSt->PHp->Prop)(Q:PV->PHp->Prop):Prop:=
 (∃a A,(r=.ok (.nx a) A\/r=.ok (.ct a) A)/\P a A)\/∃v A,r=.ok (.rt v) A/\Q v A
theorem turns_inv(P:Nat->PSt->PHp->Prop)(Q:PV->PHp->Prop)
 (d:∀b A,P n b A->item J n A=.ok none A)
 (hs:∀i b A,i<n->P i b A->∃v,item J i A=.ok (some v) A/\dF (ao (g v b) a A) (P (i+1)) Q) :
 ∀k i b A,i+k=n->P i b A->Comes (Z0 J g a (k+1) i b A) (P n) Q
 | 0,i,b,A,e,h=>by
   obtain rfl:i=n:=by symm
   refine .inl ⟨b,A,?_,h⟩;rw[T1,ay (d b A h)];rfl
 | k+1,i,b,A,e,h=>by
   obtain⟨v,p,t⟩:=hs i b A (by symm) h;have j:Z0 J g a (k+1+1) i b A=ao (ao (g v b) a) (λo=>match o with
    | .nx c=>Z0 J g a (k+1) (i+1) c
    | .ct c=>Z0 J g a (k+1) (i+1) c
    | .bk c=>ret (.nx c)
    | .rt v=>ret (.rt v)) A:=by
    rw[T1,ay p];show ao _ _ A=_;unfold ao;cases g v b A<;>rfl
   rw[j];rcases t with⟨c,l,f,m⟩ | ⟨u,l,f,m⟩
   .rcases f with f | f<;>(rw[ay f];exact turns_inv P Q d hs k _ c l (by symm) m)
   .rw[ay f];exact .inr ⟨u,l,rfl,m⟩
def Br(c:e σ A=.ok (.enm a) A1)(P:Nat->PSt->PHp->Prop)(Q:PV->PHp->Prop)(f:P 0 σ A1)
 (d:∀i σ A,P i σ A->E7 a A=.ok l A)
 (hs:∀(i:Nat) v σ A,l[i]?=some v->P i σ A->dF (ao (g (.tup [.int i,v]) σ) b A) (P (i+1)) Q):Comes (fz e g b σ A) (P l.length) Q:=by
 show Comes (ao _ _ A) _ _;rw[ay c];show Comes (ao (ao _ _) _ A1) _ _;rw[ay (show ao (E7 a) _ A1=.ok _ A1 by rw[ay (d 0 σ A1 f)];rfl)];refine turns_inv P Q (λσ A h=>?_) (λi σ A c h=>⟨.tup [.int i,l[i]],?_,hs i _ σ A (by simp) h⟩) _ 0 σ A1 (by simp) f
 .show ao _ _ A=_;rw[ay (d _ _ _ h)];simp
 .show ao _ _ A=_;rw[ay (d _ _ _ h)];simp[c]
def Comes.end(h:Comes r P λ_ _=>False):∃a A,r=.ok (.nx a) A/\P a A:=by
 rcases h with h | ⟨_,_,_,h⟩
 .symm
 .simp_all
def dF.nx(e:r=.ok (.nx σ) A)(h:P σ A):dF r P Q:=.inl ⟨σ,A,.inl e,h⟩
def Comes.mono(h:Comes r P Q)(d:∀a A,P a A->b a A)(f:∀v A,Q v A->c v A):Comes r b c:=by
 rcases h with⟨a,A,e,h⟩ | ⟨v,A,e,h⟩
 .exact .inl ⟨a,A,e,d _ _ h⟩
 .exact .inr ⟨v,A,e,f _ _ h⟩
theorem uj{l:List PV}{S:PSt->Prop}
 (c:∀i,item J i A=.ok l[i]? A)
 (h:∀v∈l,∀b,S b->∃a,g v b A=.ok a A/\S a/\t a A=.ok (p v) A/\(p v=true->e a A=.ok (f v) A)) :
 ∀k i b,i+k=l.length->S b->c5 J g t e (k+1) i b A=.ok (((l.drop i).filter p).map f) A
 | 0,i,b,n,d=>by
   have:l.length<=i:=by symm
   rw[X4,ay (c i)];simp[Qo this,this]
 | k+1,i,b,n,d=>by
   have j:i<l.length:=by symm
   obtain⟨a,o,q,r,s⟩:=h l[i] (Oa j) b d;have ih:=uj c h k (i+1) a (by symm) q;have u:=Oq j;rw[X4,ay (c i),LB j];show ao _ _ A=_;rw[ay o,ay r,u];cases m:p l[i]with
   | true=>
     rw[if_pos rfl,ay (s m),ay ih,Qd m];rfl
   | false=>
     rw[if_neg (by simp),ih,Qe (by simp_all)]
def uk{S:PSt->Prop}(m:i σ A=.ok (.lst a) A1)(n:E7 a A1=.ok l A1)(o:l.length<=LIM)(d:S (j σ))
 (h:∀v∈l,∀σ,S σ->∃b,g v σ A1=.ok b A1/\S b/\t b A1=.ok (p v) A1/\(p v=true->e b A1=.ok (f v) A1)) :
 L9 i j g t e σ A=.ok (.ref A1.length) (A1++[.lst ((l.filter p).map f)]):=by
 show ao _ _ A=_;rw[ay m];show ao (ao _ _) _ A1=_;rw[ay (show ao (E7 a) _ A1=.ok _ A1 by rw[ay n];rfl)];have c:=uj (J:=.lst a) (by simp_all) h l.length 0 _ (by simp) d;rw[ay c,J5]
 .rfl
 .rw[Lo];exact LW (MI _ _) o
def Bs(b:vs.length=p)(h:a (start n vs) A=.ok (.rt v) A'):fn n p a vs A=.ok v A':=by
 show D5 _ _ A=_;rw[J5 b,ay h];rfl
def Bt(A:PHp)(σ:PSt):bA aNil σ A=.ok (.ref A.length) (A++[.lst []]):=by simp
def Bu(h:e σ A=.ok (.ref n) A1)(a:E7 n A1=.ok l A1):bI e σ A=.ok (.lst n) A1:=by simp_all
def G8(h:A[n]?=some (.lst l)):E7 n A=.ok l A:=by simp_all
def q9:E7 A.length (A++[.lst l])=.ok l (A++[.lst l]):=G8 aq
def um(h:A[n]?=some (.lst l)):Q9 n A=.ok l A:=by simp_all
mutual
theorem uo:∀x y:PV,n0 x=true->(bJ x y=true↔x=y)
 | .non,y,_=>by cases y<;>simp[bJ]
 | .bl _,_,h=>by simp[n0]at h
 | .int i,y,_=>by cases y<;>simp[bJ]
 | .str s,y,_=>by cases y<;>simp[bJ]
 | .tup l,y,h=>by
   cases y with
   | tup m=>simp only[PV.tup.injEq];exact eqvs_nice l m (by simpa[n0]using h)
   | _=>simp[bJ]
 | .ref _,_,h=>by simp[n0]at h
theorem eqvs_nice:∀l m:List PV,nices l=true->(eqvs l m=true↔l=m)
 | [],m,_=>by cases m<;>simp[eqvs]
 | x::a,m,h=>by
   cases m with
   | nil=>simp[eqvs]
   | cons y b=>
     simp only[nices,LH]at h;simp only[eqvs,LH,Qf];rw[uo x y h.1,eqvs_nice a b h.2]
end
theorem U7(h:∀x,f x=true->n0 x=true):∀l:List PV,l.all f=true->nices l=true
 | [],_=>rfl
 | x::a,e=>by
   rw[Qg,LH]at e;simp only[nices,LH];exact⟨h x e.1,U7 h a e.2⟩
def lF(x:PV)(h:f8 x=true):n0 x=true:=by cases x<;>simp_all [n0]
def uq(x:PV)(h:iB x=true):n0 x=true:=by
 cases x with
 | tup l=>exact U7 lF l h
 | _=>exact lF _ h
def ur(x:PV)(h:Y8 x=true):n0 x=true:=by
 cases x with
 | tup l=>exact U7 uq l h
 | _=>exact lF _ h
def c6(x:PV)(h:plain x=true):n0 x=true:=by
 cases x with
 | tup l=>exact U7 ur l h
 | _=>exact lF _ h
def pZ(x y:PV)(h:plain x=true):bJ x y=true↔x=y:=uo x y (c6 x h)
def qa(l m:List PV)(h:G6 l=true):eqvs l m=true↔l=m:=eqvs_nice l m (U7 c6 l h)
def r6(l:List PV):G6 l=true↔∀x∈l,plain x=true:=LV
def R0(ns:List Int):G6 (ns.map .int)=true:=by
 rw[r6];intro x a;obtain⟨i,_,rfl⟩:=Lv.mp a;rfl
theorem cA{c:Type}(lt:c->c->Bool)(a:c):∀l:List c,(d4 lt a l).Perm (a::l)
 | []=>.refl _
 | b::r=>by
   unfold d4;split
   .exact((cA lt a r).cons b).trans (.swap a b r)
   .rfl
theorem J2{b:Type}(lt:b->b->Bool):∀l:List b,(D9 lt l).Perm l
 | []=>.refl _
 | a::r=>(cA lt a _).trans ((J2 lt r).cons a)
def O8(ns:List Int):J9 (ns.map .int)=some ns:=by
 induction ns with
 | nil=>rfl
 | cons i r ih=>simp[J9,ih]
theorem uu:∀(a:List (List Int)),(∀t∈a,t≠[])->W3 (a.map λt=>PV.tup (t.map .int))=some a
 | [],_=>rfl
 | t::r,h=>by
   have ih:=uu r λu b=>h u (LC _ b);cases t with
   | nil=>exact absurd rfl (h [] Lz)
   | cons x l=>
     have e:=O8 (x::l);simp only[LX]at e;simp only[LX,W3,e,ih]
def w8(h:a.length<64)(b:∀t∈a,t≠[]):l5 (a.map λt=>PV.tup (t.map .int)) A=.ok ((D9 D3 a).map λt=>PV.tup (t.map .int)) A:=by
 unfold l5;rw[Lo,J5 h];cases a with
 | nil=>rfl
 | cons t r=>
   have e:J9 ((t::r).map λt=>PV.tup (t.map .int))=none:=by simp[J9]
   rw[uu _ b];rfl
theorem w9{f:Type}{lt:f->f->Bool}(d:∀a b,lt a b=true->lt b a=false)(j:∀a b c,lt b a=false->lt c b=false->lt c a=false)(a:f) :
 ∀l:List f,l.Pairwise (λx y=>lt y x=false)->(d4 lt a l).Pairwise (λx y=>lt y x=false)
 | [],_=>by simp[d4]
 | b::r,h=>by
   rw[MJ]at h;unfold d4;split
   .rename_i g;rw[MJ];refine⟨λc e=>?_,w9 d j a r h.2⟩;rcases Lu.mp ((cA lt a r).mem_iff.mp e)with rfl | e
    .exact d _ _ g
    .exact h.1 c e
   .rename_i g;have i:lt b a=false:=by simpa using g
    rw[MJ];refine⟨λc e=>?_,MJ.mpr h⟩;rcases Lu.mp e with rfl | e
    .symm
    .exact j a b c i (h.1 c e)
theorem T9{e:Type}{lt:e->e->Bool}(d:∀a b,lt a b=true->lt b a=false)(f:∀a b c,lt b a=false->lt c b=false->lt c a=false) :
 ∀l:List e,(D9 lt l).Pairwise (λx y=>lt y x=false)
 | []=>by simp[D9]
 | a::r=>w9 d f a _ (T9 d f r)
def Bv(l:List Int):(D9 iC l).Pairwise (·<=·):=by
 refine(T9 ?_ ?_ l).imp ?_
 .intro a b h;simp[iC]at *;symm
 .intro a b c d e;simp[iC]at *;symm
 .intro a b h;simp[iC]at h;exact h
theorem qb:∀{l m:List Int},l.Perm m->l.Pairwise (·<=·)->m.Pairwise (·<=·)->l=m
 | [],m,h,_,_=>(List.nil_perm.mp h).symm
 | x::l,[],h,_,_=>absurd h.length_eq (by simp)
 | x::l,y::m,h,a,b=>by
   rw[MJ]at a b;have e:x=y:=by
    have c:=h.mem_iff.mp Lz;have d:=h.mem_iff.mpr Lz;rcases Lu.mp c with e | e
    .symm
    .grind
   subst e;rw[qb (List.perm_cons _ |>.mp h) a.2 b.2]
theorem l6{d:Type}{lt:d->d->Bool}(c:∀a b,lt a b=false->lt b a=false->a=b):∀{l m:List d},l.Perm m->l.Pairwise (λx y=>lt y x=false)->m.Pairwise (λx y=>lt y x=false)->l=m
 | [],m,h,_,_=>(List.nil_perm.mp h).symm
 | x::l,[],h,_,_=>absurd h.length_eq (by simp)
 | x::l,y::m,h,f,g=>by
   rw[MJ]at f g;have e:x=y:=by
    have j:=h.mem_iff.mp Lz;have n:=h.mem_iff.mpr Lz;rcases Lu.mp j with e | e
    .symm
    .rcases Lu.mp n with i | i
     .exact i.symm
     .exact c _ _ (g.1 x e) (f.1 y i) |>.symm ▸ rfl
   subst e;rw[l6 c (List.perm_cons _ |>.mp h) f.2 g.2]
theorem qc:∀a b:List Int,D3 a b=true->D3 b a=false
 | _,[],h=>by simp[D3]at h
 | [],_::_,_=>rfl
 | x::c,y::d,h=>by
   simp only[D3]at h ⊢;by_cases e:x=y
   .subst e;simp only[if_true]at h ⊢;exact qc c d h
   .rw[if_neg e]at h;rw[if_neg (Na e)];simp at h ⊢;symm
theorem y0:∀a b:List Int,D3 a b=false->D3 b a=false->a=b
 | [],[],_,_=>rfl
 | [],_::_,h,_=>by simp[D3]at h
 | _::_,[],_,h=>by simp[D3]at h
 | x::d,y::f,h,c=>by
   simp only[D3]at h c;by_cases e:x=y
   .subst e;simp only[if_true]at h c;rw[y0 d f h c]
   .grind
theorem qd:∀a b c:List Int,D3 b a=false->D3 c b=false->D3 c a=false
 | [],_,_,_,_=>by simp[D3]
 | _::_,[],_,h,_=>by simp[D3]at h
 | _::_,_::_,[],_,h=>by simp[D3]at h
 | x::f,y::g,z::i,h,d=>by
   simp only[D3]at h d ⊢;by_cases e:y=x
   .subst e;simp only[if_true]at h;by_cases j:z=y
    .subst j;simp only[if_true]at d ⊢;exact qd f g i h d
    .simp_all
   .grind
def uv(a:List (List Int)):(D9 D3 a).Pairwise (λx y=>D3 y x=false):=T9 qc qd a
@[simp] noncomputable def La(a:ED):ED:=λb=>ao (a b) λx=>match x with
  | .ref n=>ao (Q9 n) λl=>match l[l.length - 1]? with
    | some y=>ao (put n (.lst l.dropLast)) λ_=>ret y
    | none=>stuck
  | _=>stuck
noncomputable def z0:List PV->Option (List Bool)
 | []=>some []
 | .bl b::r=>(z0 r).map (b :: ·)
 | _=>none
@[simp] noncomputable def fA(a:ED):ED:=λb=>ao (a b) λx=>match x with
  | .ref n=>ao (E7 n) λl=>match z0 l with
    | some bs=>ret (.bl (bs.all id))
    | none=>stuck
  | _=>stuck
@[simp] noncomputable def nu(a:ED):ED:=λb=>ao (a b) λx=>match x with
  | .ref n=>ao (Q9 n) λl=>match l with
    | y::r=>ao (put n (.lst r)) λ_=>ret y
    | []=>stuck
  | _=>stuck
@[simp] def i4(a:ED):ED:=λb=>ao (a b) λx=>match x with
  | .ref n=>ao (E7 n) λl=>D5 (l.length<=LIM) (ret (.tup l))
  | _=>stuck
@[simp] def nv(a e:ED):ED:=λb=>ao (a b) λx=>match x with
  | .ref n=>ao (Q9 n) λ_=>ao (e b) λv=>match v with
    | .ref k=>ao (Q9 n) λl=>ao (Q9 k) λm=>D5 (l.length+m.length<=LIM) (ao (put n (.lst (l++m))) λ_=>ret .non)
    | _=>stuck
  | _=>stuck
noncomputable def qe:List Int->List (List Int)
 | []=>[[]]
 | a::r=>qe r++(qe r).map (a :: ·)
noncomputable def metI(l:List Int)(a:Int):List Int:=if l.any (·== a)=true then l else l++[a]
noncomputable def eP(ns:List Int):Nat:=(ns.foldl metI []).length
@[simp] def ny(a:ED):ED:=λb=>ao (a b) λx=>ao (O7 x) λl=>match J9 l with
  | some ns=>D5 (ns.length<1000) (ret (.int (eP ns)))
  | none=>stuck
def metI_cases(l:List Int)(a:Int):(a∈l/\metI l a=l)\/(a∉l/\metI l a=l++[a]):=by
 unfold metI;by_cases h:a∈l
 .simp_all
 .simp_all
theorem nz:∀(r l:List Int),l.Nodup->(r.foldl metI l).length<=l.length+r.length/\((r.foldl metI l).length=l.length+r.length↔(l++r).Nodup)
 | [],l,h=>by simp[h]
 | a::r,l,h=>by
   rw[Tq];rcases metI_cases l a with⟨c,e⟩ | ⟨c,e⟩
   .rw[e];obtain⟨d,b⟩:=nz r l h;refine⟨by simp;symm,⟨λz=>by simp at z;symm,λz=>?_⟩⟩;exact absurd rfl ((MF.mp z).2.2 a c a Lz)
   .rw[e];have f:(l++[a]).Nodup:=by
     rw[MF];exact⟨h,by simp,λx j y g z=>by simp at g;exact c (by simp_all)⟩
    obtain⟨d,b⟩:=nz r _ f;have i:l++[a]++r=l++a::r:=by simp
    rw[i]at b;simp only[LR,Me,Nd]at d b ⊢;exact⟨by symm,⟨λz=>b.mp (by symm),λz=>by have:=b.mpr z;symm⟩⟩
def uw(ns:List Int):eP ns<=ns.length:=by have:=(nz ns [] OK).1;simpa[eP]using this
def ux(ns:List Int):eP ns<ns.length↔¬ns.Nodup:=by
 have h:=(nz ns [] OK).2;have a:=uw ns;simp only[Nd,Uz]at h;unfold eP at *;constructor
 .grind
 .grind
@[simp] noncomputable def iZip(a b:ED):ID:=λc=>ao (a c) λx=>ao (b c) λy=>ao (O7 x) λ_=>ao (O7 y) λ_=>ret (.zip x y)
section
noncomputable def dG{b:Type}(m:M b):M b:=λA=>match m A with
 | .ok a c=>.ok a c
 | _=>.no
def Bw{b:Type}{m:M b}{a:b}(h:m A=.ok a A'):dG m A=.ok a A':=by unfold dG;rw[h]
def i5(c:Nat)(f:Fun)(a:ED)(es:AD):ED:=λb=>ao (dG (a b)) λx=>match x with
 | .ref n=>ao (w6 n) λo=>D5 (o.1=c) (ao (dG (es b)) λd=>f (x::d))
 | _=>stuck
noncomputable def cB(s:SD):SD:=λa=>dG (s a)
noncomputable def dg(t:TD):TD:=λa=>dG (t a)
noncomputable def bW(c:Nat)(es:AD):SD:=λa=>ao (dG (es a)) λb A=>match b with
 | [v]=>.ex c v A
 | _=>.no
noncomputable def jv(i:Nat):Fl->Fl
 | .nx a=>.nx (a.set i none)
 | .bk a=>.bk (a.set i none)
 | .ct a=>.ct (a.set i none)
 | .rt v=>.rt v
abbrev Hd:=Nat×Option Nat×SD
noncomputable def V1:List Hd->Nat->PV->PSt->M Fl
 | [],_,_,_=>stuck
 | (k,none,b)::r,c,v,a=>if cf c k=true then b a else V1 r c v a
 | (k,some i,b)::r,c,v,a=>if cf c k=true then ao (alloc (.exc c v)) λx=>ao (b (a.set i (some x))) λf=>ret (jv i f) else V1 r c v a
def kH(es:List Nat)(b:SD)(hs:List Hd):SD:=λd A=>match b d A with
 | .ok f a=>.ok f a
 | .ex c v a=>D5 (c∈es) (V1 hs c v d) a
 | .no=>.no
def iE(n:Nat)(es:List Nat):M (Nat×PV):=λA=>match A[n]? with
 | some (.exc c v)=>D5 (c∈es) (ret (c,v)) A
 | _=>.no
def iF(es:List Nat)(d:ED):ED:=λa=>ao (d a) λx=>match x with
 | .ref n=>ao (iE n es) λp=>ret p.2
 | _=>stuck
def eQ(es:List Nat)(d:ED)(k:Nat):ED:=λa=>ao (d a) λx=>match x with
 | .ref n=>ao (iE n es) λp=>ret (.bl (cf p.1 k))
 | _=>stuck
@[simp] noncomputable def Lb(a b:ED):ED:=λc=>ao (a c) λx=>ao (b c) λy=>match x,y with
  | .int i,.int j=>ret (.int (if j > i then j else i))
  | _,_=>stuck
@[simp] def gK:OD:=λx y=>match x,y with
  | .int i,.int j=>D5 (0<=j/\j<=1000/\i.natAbs<1000) (ret (.int (i ^ j.toNat)))
  | _,_=>stuck
end
section
end
section
end
section
noncomputable def Q1:PV->Option (List Int)
 | .tup l=>J9 l
 | _=>none
noncomputable def S7(n:Nat):M (List (List Int×PV)):=λA=>match A[n]? with
 | some (.dT m)=>.ok m A
 | _=>.no
noncomputable def aK:List (List Int×PV)->List Int->Option PV
 | [],_=>none
 | p::r,k=>if p.1=k then some p.2 else aK r k
noncomputable def V6(a:List (List Int×PV))(k:List Int)(x:PV):List (List Int×PV):=
 if(a.any λp=>decide (p.1=k))=true then a.map (λp=>if p.1=k then(p.1,x) else p) else a++[(k,x)]
noncomputable def dh(y d:ED):ED:=λa=>ao (y a) λk=>ao (d a) λx=>match Q1 k,x with
 | some i,.ref n=>ao (S7 n) λm=>ret (.bl (aK m i).isSome)
 | _,_=>stuck
def cR(d y e:ED):SD:=λa=>ao (e a) λv=>ao (d a) λx=>ao (y a) λk=>match x,Q1 k with
 | .ref n,some i=>ao (S7 n) λm=>D5 (m.length<LIM) (ao (put n (.dT (V6 m i v))) λ_=>ret (.nx a))
 | _,_=>stuck
noncomputable def eTGet(d y:ED):ED:=λa=>ao (d a) λx=>ao (y a) λk=>match x,Q1 k with
 | .ref n,some i=>ao (S7 n) λm=>match aK m i with
   | some v=>ret v
   | none=>stuck
 | _,_=>stuck
noncomputable def eTNew:ED:=λ_=>alloc (.dT [])
noncomputable def nA(d y:ED):ED:=λa=>ao (d a) λx=>match x with
 | .ref n=>ao (S7 n) λ_=>ao (y a) λk=>match Q1 k with
   | some i=>ao (S7 n) λm=>ret ((aK m i).getD .non)
   | _=>stuck
 | _=>stuck
noncomputable def kI(d y e:ED):ED:=λa=>ao (d a) λx=>match x with
 | .ref n=>ao (S7 n) λ_=>ao (y a) λk=>ao (e a) λv=>match Q1 k with
   | some i=>ao (S7 n) λm=>ret ((aK m i).getD v)
   | _=>stuck
 | _=>stuck
def fM:OD
 | .int i,.int j=>D5 (0<=j) (ret (.int (i / 2 ^ j.toNat)))
 | _,_=>stuck
def gL:OD
 | .int i,.int j=>D5 (0<=j/\j<=1000000/\i.natAbs<2 ^ 64) (ret (.int (i*2 ^ j.toNat)))
 | _,_=>stuck
noncomputable def fN:OD
 | .int i,.int j=>ret (.int (Nl i j))
 | _,_=>stuck
end
section
noncomputable def small:List (List Int):=((Mo 10).map λa=>(Mo 10).map λb=>[((a:Nat):Int),((b:Nat):Int)]).flatten
noncomputable def Lc(a:ED):ED:=λb=>ao (a b) λx=>match x with
 | .ref n=>ao (S7 n) λm=>ret (.int m.length)
 | _=>stuck
def nB(a:ED):ED:=λb=>ao (a b) λx=>match x with
 | .ref n=>ao (S7 n) λm=>D5 ((m.map (·.1)).Nodup/\∀p∈m,p.1∈small) (alloc (.dT m))
 | _=>stuck
end
section
end
section
end
section
end
section
end
section
noncomputable def lG(a:ED):ED:=λc=>ao (a c) λx=>match x with
 | .bl b=>ret (.int (if b then 1 else 0))
 | _=>stuck
end
section
end
section
def nC(a:ED):ED:=λb=>ao (a b) λx=>match x with
 | .ref n=>ao (S7 n) λm=>D5 (m.length<64/\∀p∈m,p.1≠[]) (alloc (.lst ((D9 D3 (m.map (·.1))).map λt=>.tup (t.map .int))))
 | _=>stuck
end
section
end
section
end
section
def nE(a:ED):ED:=λb=>ao (a b) λx=>match x with
 | .ref n=>ao (S7 n) λm=>D5 (m.length<=LIM/\∀p∈m,p.1≠[]) (alloc (.lst (m.map λp=>.tup (p.1.map .int))))
 | _=>stuck
end
def i6(d y e:ED):ED:=λa=>ao (d a) λx=>match x with
 | .ref n=>ao (S7 n) λ_=>ao (y a) λk=>ao (e a) λv=>match Q1 k with
   | some i=>ao (S7 n) λm=>match aK m i with
     | some w=>ret w
     | none=>D5 (m.length<LIM) (ao (put n (.dT (V6 m i v))) λ_=>ret v)
   | _=>stuck
 | _=>stuck
noncomputable def gy:List PV->Option (List (List Int×PV))
 | []=>some []
 | .tup [k,v]::r=>(Q1 k).bind λi=>(gy r).map ((i,v) :: ·)
 | _=>none
def nF(a:ED):ED:=λc=>ao (a c) λx=>match x with
 | .ref n=>ao (Q9 n) λl=>match gy l with
   | some m=>D5 (m.length<LIM) (alloc (.dT (m.foldl (λb p=>V6 b p.1 p.2) [])))
   | none=>stuck
 | _=>stuck
noncomputable def r8(M:List Int)(x:Int):Nat:=(M.takeWhile λy=>decide (y<x)).length
noncomputable def eR(M:List Int)(x:Int):List Int:=M.takeWhile (λy=>decide (y<x))++x::M.dropWhile (λy=>decide (y<x))
noncomputable def iG(M:List Int)(x:Int):List Int:=if x∈M then M else eR M x
noncomputable def setL(l:List Int):List Int:=l.foldl iG []
def l7(a:ED):ED:=λb=>ao (a b) λx=>match x with
 | .ref n=>ao (Q9 n) λl=>match J9 l with
   | some ns=>D5 (∀x∈ns,0<=x/\x<=5) (alloc (.lst ((setL ns).map PV.int)))
   | none=>stuck
 | _=>stuck
section
end
section
end
section
end
section
end
@[simp] noncomputable def jw(n:Nat):M (List (Nf×PV)):=λA=>match A[n]? with
  | some (.dS m)=>.ok m A
  | _=>.no
noncomputable def r9:List (Nf×PV)->Nf->Option PV
 | [],_=>none
 | p::r,k=>if p.1=k then some p.2 else r9 r k
noncomputable def gM(a:List (Nf×PV))(k:Nf)(x:PV):List (Nf×PV):=
 if(a.any λp=>decide (p.1=k))=true then a.map (λp=>if p.1=k then(p.1,x) else p) else a++[(k,x)]
@[simp] def dH(d y e:ED):SD:=λa=>ao (e a) λv=>ao (d a) λx=>ao (y a) λk=>match x,k with
  | .ref n,.str i=>ao (jw n) λm=>D5 (m.length<LIM) (ao (put n (.dS (gM m i v))) λ_=>ret (.nx a))
  | _,_=>stuck
@[simp] noncomputable def eSGet(d y:ED):ED:=λa=>ao (d a) λx=>ao (y a) λk=>match x,k with
  | .ref n,.str i=>ao (jw n) λm=>match r9 m i with
    | some v=>ret v
    | none=>stuck
  | _,_=>stuck
@[simp] noncomputable def lH:List (Nf×ED)->PSt->M (List (Nf×PV))
  | [],_=>ret []
  | p::r,a=>ao (p.2 a) λv=>ao (lH r a) λb=>ret ((p.1,v)::b)
@[simp] noncomputable def dw(ps:List (Nf×ED)):ED:=λc=>ao (alloc (.dS [])) λx=>ao (lH ps c) λa=>match x with
  | .ref n=>ao (jw n) λm=>match m with
    | []=>ao (put n (.dS (a.foldl (λb p=>gM b p.1 p.2) []))) λ_=>ret x
    | _=>stuck
  | _=>stuck
@[simp] noncomputable def qf(n:Nat):M Unit:=λA=>match A[n]? with
  | some .hid=>.ok () A
  | _=>.no
noncomputable def nG(g:GD)(a:SD):List (List Int×PV)->PSt->M PSt
 | [],b=>ret b
 | p::r,b=>ao (g (.tup [.tup (p.1.map .int),p.2]) b) λc=>ao (a c) λo=>match o with
   | .nx d=>nG g a r d
   | _=>stuck
noncomputable def qg(d:ED)(g:GD)(a:SD):SD:=λc=>ao (d c) λx=>match x with
 | .ref n=>ao (S7 n) λm=>ao (put n .hid) λ_=>ao (nG g a m c) λb=>ao (qf n) λ_=>ao (put n (.dT m)) λ_=>ret (.nx b)
 | _=>stuck
noncomputable def X6(ns a:List Int):Bool:=decide (eP ns=eP a)&&ns.all λx=>decide (x∈a)
def lI(a b:ED):ED:=λc=>ao (a c) λx=>match x with
 | .ref n=>ao (Q9 n) λl=>ao (b c) λy=>match y with
   | .ref k=>ao (Q9 k) λm=>match J9 l,J9 m with
     | some ns,some d=>D5 (ns.length<900/\d.length<900) (ret (.bl (X6 ns d)))
     | _,_=>stuck
   | _=>stuck
 | _=>stuck
end Ws
namespace Ws
open PySem L2
noncomputable def Bx:Expr->Bool
 | .Starred _ _=>true
 | _=>false
def E3(h:Bx e=false):starEach (e::es) a=(false,eval e a)::starEach es a:=by
 cases e<;>first | rfl | cases h
mutual
inductive RV (ρ:List Addr) (H:Hp):PV->V->Prop
 | non:RV ρ H .non .non
 | bl (b:Bool):RV ρ H (.bl b) (.bl b)
 | int (i:Int):RV ρ H (.int i) (.int i)
 | str (x:Str):RV ρ H (.str x) (.str x)
 | tup {l:List PV} {a:Addr} {vs:List V} (h:H a=some (.tup vs)) (r:RVs ρ H l vs):RV ρ H (.tup l) (.ref a)
 | ref {n:Nat} {a:Addr} (h:ρ[n]?=some a):RV ρ H (.ref n) (.ref a)
inductive RVs (ρ:List Addr) (H:Hp):List PV->List V->Prop
 | nil:RVs ρ H [] []
 | cons {x:PV} {v:V} {l:List PV} {vs:List V} (h:RV ρ H x v) (r:RVs ρ H l vs):RVs ρ H (x::l) (v::vs)
end
structure ax(ρ:List Addr)(H:Hp)(ρ':List Addr)(H':Hp):Prop where
 pre:ρ<+:ρ'
 tup:∀a vs,H a=some (.tup vs)->H' a=some (.tup vs)
 xd:∀a fs,H a=some (.xd fs)->H' a=some (.xd fs)
def ax.refl(a:List Addr)(H:Hp):ax a H a H:=⟨LO _,λ_ _ h=>h,λ_ _ h=>h⟩
def ax.trans(a:ax g H d i)(b:ax d i e j):ax g H e j:=⟨a.pre.trans b.pre,λc f h=>b.tup c f (a.tup c f h),λc f h=>b.xd c f (a.xd c f h)⟩
def nH{n:Nat}{a:Addr}(h:c<+:b)(e:c[n]?=some a):b[n]?=some a:=by
 obtain⟨t,rfl⟩:=h;rw[LG (LA.mp e).1];exact e
def RV.mono(e:ax ρ H ρ' H')(h:RV ρ H x v):RV ρ' H' x v:=
 RV.rec (motive_1:=λx v _=>RV ρ' H' x v) (motive_2:=λl a _=>RVs ρ' H' l a) .non .bl .int .str (λh _ r=>.tup (e.tup _ _ h) r) (λh=>.ref (nH e.pre h)) .nil (λ_ _ h r=>.cons h r) h
def RVs.ind{M:List PV->List V->Prop}(n:M [] [])(c:∀{x v l vs},RV ρ H x v->RVs ρ H l vs->M l vs->M (x::l) (v::vs))(h:RVs ρ H l vs):M l vs:=
 RVs.rec (motive_1:=λ_ _ _=>True) (motive_2:=λl vs _=>M l vs) trivial (λ_=>trivial) (λ_=>trivial) (λ_=>trivial) (λ_ _ _=>trivial) (λ_=>trivial) n (λh r _ m=>c h r m) h
def RVs.mono(e:ax ρ H ρ' H')(h:RVs ρ H l vs):RVs ρ' H' l vs:=RVs.ind (M:=λl vs=>RVs ρ' H' l vs) .nil (λh _ r=>.cons (RV.mono e h) r) h
def RVs.length(h:RVs ρ H l vs):l.length=vs.length:=RVs.ind (M:=λl vs=>l.length=vs.length) rfl (λ_ _ e=>congrArg (·+ 1) e) h
def RVs.get{i:Nat}(h:RVs ρ H l vs)(e:l[i]?=some x):∃v,vs[i]?=some v/\RV ρ H x v:=
 RVs.ind (M:=λl vs=>∀i:Nat,l[i]?=some x->∃v,vs[i]?=some v/\RV ρ H x v) (λ_ e=>nomatch e) (λh _ ih i e=>by
  cases i with
  | zero=>cases e;exact⟨_,rfl,h⟩
  | succ i=>exact ih i e) h i e
def RVs.get'{i:Nat}(h:RVs ρ H l vs)(e:vs[i]?=some v):∃x,l[i]?=some x/\RV ρ H x v:=
 RVs.ind (M:=λl vs=>∀i:Nat,vs[i]?=some v->∃x,l[i]?=some x/\RV ρ H x v) (λ_ e=>nomatch e) (λh _ ih i e=>by
  cases i with
  | zero=>cases e;exact⟨_,rfl,h⟩
  | succ i=>exact ih i e) h i e
def RVs.append(h:RVs ρ H l vs)(s:RVs ρ H m ws):RVs ρ H (l++m) (vs++ws):=RVs.ind (M:=λl vs=>RVs ρ H (l++m) (vs++ws)) s (λh _ r=>.cons h r) h
theorem RVs.take:∀{l:List PV}{vs:List V}(n:Nat),RVs ρ H l vs->RVs ρ H (l.take n) (vs.take n)
 | _,_,0,_=>by simpa using .nil
 | _,_,_+1,.nil=>.nil
 | _,_,n+1,.cons h r=>.cons h (RVs.take n r)
theorem RVs.drop:∀{l:List PV}{vs:List V}(n:Nat),RVs ρ H l vs->RVs ρ H (l.drop n) (vs.drop n)
 | _,_,0,r=>r
 | _,_,_+1,.nil=>.nil
 | _,_,n+1,.cons _ r=>RVs.drop n r
def RVs.ints(ns:List Int):RVs ρ H (ns.map .int) (ns.map .int):=by
 induction ns with
 | nil=>exact .nil
 | cons i r ih=>exact .cons (.int i) ih
def Fz(K:Lm)(H:Hp)(a:Addr)(c:List V):Prop:=
 (∃o,H a=some (.frz o (.lst c)))\/∃(o:Obj)(b:Array Ll)(n:Nat),K.lookup a=some o/\o.cls=.type "list"/\o.dict=none/\o.data=.seq b n/\b.size<=sizeLine/\aA c b.toList
def Fz.sq(h:Fz K H a b):bx K H a b:=by
 rcases h with⟨o,h⟩ | h
 .exact .inl (.inr ⟨o,h⟩)
 .exact .inr h
noncomputable def R1:PO->Bool
 | .ro _=>false
 | .hid=>false
 | _=>true
noncomputable def uy:PO->Bool
 | .ro _=>false
 | .hid=>false
 | .exc _ _=>false
 | _=>true
def By(h:uy o=true):R1 o=true:=by cases o<;>first | rfl | cases h
structure Pairs{κ κ':Type}(f:κ->κ')(ρ:List Addr)(H:Hp)(kvs:List (κ×PV))(kv:List (κ'×V)):Prop where
 keys:kv.map (·.1)=kvs.map λp=>f p.1
 vals:RVs ρ H (kvs.map (·.2)) (kv.map (·.2))
def Pairs.mono{d a:Type}{f:d->a}{c:List (d×PV)}{kv:List (a×V)}(h:Pairs f g H c kv)(e:ax g H b H'):Pairs f b H' c kv:=⟨h.keys,h.vals.mono e⟩
noncomputable def Bz(i:Nat):Str:=(["Keeper.says_word_on.<locals>.<lambda>","law.<locals>.<lambda>","_law_hand.<locals>.<lambda>"]:List Str).getD i "?"
inductive uz (cm:Nat->Addr) (H:Hp) (j:Nat):Prop
 | mk (ps:Array Ll) (h0:H (cm (31+5*j))=some (.tbl ps)) (h1:TriplesOk ps.toList)
   (h2:∀cv,codeAmong ⟨cm (32+5*j),cm (33+5*j),0,0⟩ ps.toList=some cv->∃c o vs t,cv=.ref c/\H c=some (.frz o (.own c))/\o.data=.fields vs/\vs[1]?=some (.str (Bz (cm (35+5*j))) t)):uz cm H j
def fO(a:Nat->Addr)(H:Hp):Prop:=∀j,j<a 30->uz a H j
def fO.keep(t:fO d H)(k:∀a u,H a=some u->((∃b,u=.tbl b)\/∃o c,u=.frz o (.own c))->H' a=some u):fO d H':=λj f=>by
 obtain⟨b,g,h,i⟩:=t j f;refine⟨b,k _ _ g (.inl ⟨_,rfl⟩),h,λl e=>?_⟩;obtain⟨c,o,m,t,n,p,q⟩:=i l e;exact⟨c,o,m,t,n,k _ _ p (.inr ⟨_,_,rfl⟩),q⟩
section
variable(K:Lm)(cm:Nat->Addr)
def RO(f:List Addr)(H:Hp)(a:Addr):PO->Prop
 | .lst l=>∃g,H a=some (.lst g)/\RVs f H l g
 | .ro l=>∃g,Fz K H a g/\RVs f H l g
 | .dI b=>∃e,H a=some (.dK e)/\Pairs (MR:Int->Key) f H b e
 | .ins c fs=>(c<7/\∀p∈fs,p.1<19)/\∃i e,H a=some (.ins (cm c) i e)/\Pairs cE f H fs e
 | .dS b=>∃e,H a=some (.dK e)/\Pairs (Td:Str->Key) f H b e
 | .dT b=>∃e,H a=some (.dT e)/\Pairs (Qz MR:List Int->List Key) f H b e
 | .hid=>True
 | .exc c v=>∃o d h,H a=some (.frz o (.own a))/\o.cls=.ref (cm c)/\o.dict=some d/\(∃vs:Array Ll,o.data=.fields vs/\vs[2]?=some .none)/\H d=some (.xd [("at",h)])/\RV f H v h
structure aL(ρ:List Addr)(A:PHp)(H:Hp):Prop where
 tab:fO cm H
 len:ρ.length=A.length
 obj:∀(n:Nat)(o:PO)(a:Addr),A[n]?=some o->ρ[n]?=some a->RO K cm ρ H a o
 inj:∀(m n:Nat)(a:Addr)(o p:PO),ρ[m]?=some a->ρ[n]?=some a->A[m]?=some o->A[n]?=some p->R1 o=true->R1 p=true->m=n
end
section
variable{K:Lm}{cm:Nat->Addr}{ρ ρ':List Addr}{H H':Hp}{A:PHp}{a p:Addr}{o:PO}{n:Nat}
def RO.keep(r:RO K cm ρ H a o)(e:ax ρ H ρ' H')(b:∀u,H a=some u->H' a=some u):RO K cm ρ' H' a o:=by
 cases o with
 | lst l=>obtain⟨i,h,q⟩:=r;exact⟨i,b _ h,q.mono e⟩
 | ro l=>
   obtain⟨i,h,q⟩:=r;rcases h with⟨u,h⟩ | h
   .exact⟨i,.inl ⟨u,b _ h⟩,q.mono e⟩
   .exact⟨i,.inr h,q.mono e⟩
 | dI g=>obtain⟨f,h,q⟩:=r;exact⟨f,b _ h,q.mono e⟩
 | ins c fs=>obtain⟨j,m,f,h,q⟩:=r;exact⟨j,m,f,b _ h,q.mono e⟩
 | dS g=>obtain⟨f,h,q⟩:=r;exact⟨f,b _ h,q.mono e⟩
 | dT g=>obtain⟨f,h,q⟩:=r;exact⟨f,b _ h,q.mono e⟩
 | hid=>exact trivial
 | exc c v=>obtain⟨o,d,s,h,w,x,y,z,q⟩:=r;exact⟨o,d,s,b _ h,w,x,y,e.xd _ _ z,q.mono e⟩
def RO.some(r:RO K cm ρ H a o)(m:R1 o=true):∃u,H a=some u:=by
 cases o with
 | lst l=>obtain⟨f,h,q⟩:=r;exact⟨_,h⟩
 | ro l=>simp[R1]at m
 | dI b=>obtain⟨e,h,q⟩:=r;exact⟨_,h⟩
 | ins c fs=>obtain⟨_,g,e,h,q⟩:=r;exact⟨_,h⟩
 | dS b=>obtain⟨e,h,q⟩:=r;exact⟨_,h⟩
 | dT b=>obtain⟨e,h,q⟩:=r;exact⟨_,h⟩
 | hid=>cases m
 | exc c v=>obtain⟨o,d,i,h,q⟩:=r;exact⟨_,h⟩
def M9(c:H p=none):∀b v,H b=some v->aB H p u b=some v:=λb v h=>by
 rw[aj (E8 h c)];exact h
def ax.same(b:H p=none):ax ρ H ρ (aB H p u):=⟨LO _,λa c h=>M9 b a _ h,λa c h=>M9 b a _ h⟩
def ax.new(b:H p=none):ax ρ H (ρ++[p]) (aB H p u):=⟨Lw _ _,λa c h=>M9 b a _ h,λa c h=>M9 b a _ h⟩
def aL.grow(r:aL K cm ρ A H)(e:ax ρ H ρ H')(c:∀b v,H b=some v->H' b=some v):aL K cm ρ A H':=
 ⟨r.tab.keep λa u h _=>c a u h,r.len,λn o a d f=>(r.obj n o a d f).keep e (c a),r.inj⟩
def aL.tup{vs:List V}(r:aL K cm ρ A H)(b:H p=none):aL K cm ρ A (aB H p (.tup vs)):=r.grow (ax.same b) (M9 b)
def aL.alloc(r:aL K cm ρ A H)(B:H p=none)(D:RO K cm (ρ++[p]) (aB H p u) p o)(Q:R1 o=true):aL K cm (ρ++[p]) (A++[o]) (aB H p u):=by
 have e:ax ρ H (ρ++[p]) (aB H p u):=ax.new B;have b:∀(n:Nat)(q:PO),ρ[n]?=some p->A[n]?=some q->R1 q=true->False:=λn q d c O=>by
  obtain⟨v,J⟩:=(r.obj n q p c d).some O;rw[B]at J;cases J
 have split:∀{E:Type}{l:List E}{x y:E}{n:Nat},(l++[x])[n]?=some y->l[n]?=some y\/(n=l.length/\y=x):=λ{E l x y n} h=>by
  by_cases D:n<l.length
  .rw[LG D]at h;exact .inl h
  .rw[MB (by symm)]at h;have:n - l.length=0:=by
    by_cases z:n - l.length=0
    .exact z
    .rw[Mu (by simp;symm)]at h;cases h
   rw[this]at h;simp at h;exact .inr ⟨by symm,h.symm⟩
 refine⟨r.tab.keep λa u h _=>M9 B a u h,by simp[r.len],λn q a d c=>?_,λm n a q C d c s w L N=>?_⟩
 .rcases split d with d | ⟨rfl,rfl⟩
  .rcases split c with c | ⟨rfl,rfl⟩
   .exact(r.obj n q a d c).keep e (M9 B a)
   .rw[r.len,Mu (Lp _)]at d;cases d
  .rcases split c with c | ⟨_,rfl⟩
   .rw[<-r.len,Mu (Lp _)]at c;cases c
   .exact D
 .rcases split d with f | ⟨rfl,G⟩<;>rcases split c with g | ⟨rfl,I⟩
  .have i:A[m]?=some q:=by
    rcases split s with s | ⟨rfl,_⟩
    .exact s
    .rw[<-r.len,Mu (Lp _)]at f;cases f
   have j:A[n]?=some C:=by
    rcases split w with w | ⟨rfl,_⟩
    .exact w
    .rw[<-r.len,Mu (Lp _)]at g;cases g
   exact r.inj m n a q C f g i j L N
  .have i:A[m]?=some q:=by
    rcases split s with s | ⟨rfl,_⟩
    .exact s
    .rw[<-r.len,Mu (Lp _)]at f;cases f
   rw[I]at f;exact(b m q f i L).elim
  .have j:A[n]?=some C:=by
    rcases split w with w | ⟨rfl,_⟩
    .exact w
    .rw[<-r.len,Mu (Lp _)]at g;cases g
   rw[G]at g;exact(b n C g j N).elim
  .rfl
def ax.put(r:aL K cm ρ A H)(s:ρ[n]?=some a)(x:A[n]?=some o)(m:R1 o=true):ax ρ H ρ (aB H a u):=by
 have f:∀b w,H b=some w->((∃j,w=.tup j)\/∃fs,w=.xd fs)->aB H a u b=some w:=λb w h e=>by
  have ne:b≠a:=by
   rintro rfl;have q:=r.obj n o b x s;cases o with
   | lst l=>obtain⟨i,z,_⟩:=q;rw[h]at z;cases z;rcases e with⟨_,y⟩ | ⟨_,y⟩<;>cases y
   | ro l=>simp[R1]at m
   | dI g=>obtain⟨i,z,_⟩:=q;rw[h]at z;cases z;rcases e with⟨_,y⟩ | ⟨_,y⟩<;>cases y
   | ins c fs=>obtain⟨_,B,i,z,_⟩:=q;rw[h]at z;cases z;rcases e with⟨_,y⟩ | ⟨_,y⟩<;>cases y
   | dS g=>obtain⟨i,z,_⟩:=q;rw[h]at z;cases z;rcases e with⟨_,y⟩ | ⟨_,y⟩<;>cases y
   | dT g=>obtain⟨i,z,_⟩:=q;rw[h]at z;cases z;rcases e with⟨_,y⟩ | ⟨_,y⟩<;>cases y
   | hid=>cases m
   | exc c v=>obtain⟨o,d,C,z,_⟩:=q;rw[h]at z;cases z;rcases e with⟨_,y⟩ | ⟨_,y⟩<;>cases y
  rw[aj ne];exact h
 exact⟨LO _,λb j h=>f b _ h (.inl ⟨_,rfl⟩),λb j h=>f b _ h (.inr ⟨_,rfl⟩)⟩
def aL.put(r:aL K cm ρ A H)(G:ρ[n]?=some a)(C:A[n]?=some o)(mt:uy o=true)(m':R1 J=true)(T:RO K cm ρ (aB H a u) a J):aL K cm ρ (A.set n J) (aB H a u):=by
 have m:=By mt;have e:ax ρ H ρ (aB H a u):=ax.put r G C m;have U:=C6 C;refine⟨r.tab.keep λb v h E=>?_,by simp[r.len],λk q b D h=>?_,λi j b q Y e1 e2 e3 e4 m1 m2=>?_⟩
 .have ne:b≠a:=by
   rintro rfl;have q:=r.obj n o b C G;cases o with
   | lst l=>obtain⟨s,z,_⟩:=q;rw[h]at z;cases z;rcases E with⟨_,y⟩ | ⟨_,_,y⟩<;>cases y
   | ro l=>cases mt
   | dI B=>obtain⟨s,z,_⟩:=q;rw[h]at z;cases z;rcases E with⟨_,y⟩ | ⟨_,_,y⟩<;>cases y
   | ins c fs=>obtain⟨_,dx,s,z,_⟩:=q;rw[h]at z;cases z;rcases E with⟨_,y⟩ | ⟨_,_,y⟩<;>cases y
   | dS B=>obtain⟨s,z,_⟩:=q;rw[h]at z;cases z;rcases E with⟨_,y⟩ | ⟨_,_,y⟩<;>cases y
   | dT B=>obtain⟨s,z,_⟩:=q;rw[h]at z;cases z;rcases E with⟨_,y⟩ | ⟨_,_,y⟩<;>cases y
   | hid=>cases mt
   | exc c v=>cases mt
  rw[aj ne];exact h
 .by_cases g:k=n
  .subst g;rw[aE C]at D;cases D;rw[G]at h;cases h;exact T
  .rw[C5 g]at D;have L:=r.obj k q b D h;by_cases I:b=a
   .subst I;cases N:R1 q with
    | true=>exact absurd (r.inj k n b q o h G D C N m) g
    | false=>
      cases q with
      | ro l=>
        obtain⟨s,z,w⟩:=L;rcases z with⟨v,z⟩ | z
        .obtain⟨v',O⟩:=(r.obj n o b C G).some m;have:=r.obj n o b C G;rw[z]at O;cases O;cases o with
         | lst l=>obtain⟨s,f,_⟩:=this;rw[z]at f;cases f
         | ro l=>simp[R1]at m
         | dI B=>obtain⟨s,f,_⟩:=this;rw[z]at f;cases f
         | ins c fs=>obtain⟨_,dx,s,f,_⟩:=this;rw[z]at f;cases f
         | dS B=>obtain⟨s,f,_⟩:=this;rw[z]at f;cases f
         | dT B=>obtain⟨s,f,_⟩:=this;rw[z]at f;cases f
         | hid=>cases m
         | exc c v=>obtain⟨o,d,v',f,_⟩:=this;rw[z]at f;cases f
        .exact⟨s,.inr z,w.mono e⟩
      | hid=>exact trivial
      | _=>simp[R1]at N
   .exact L.keep e λv E=>by rw[aj I];exact E
 .have Q:∀(k:Nat)(x:PO),(A.set n J)[k]?=some x->R1 x=true->∃y,A[k]?=some y/\R1 y=true:=λk x D hx=>by
   by_cases g:k=n
   .subst g;exact⟨o,C,m⟩
   .rw[C5 g]at D;exact⟨x,D,hx⟩
  obtain⟨y,y1,y2⟩:=Q i q e3 m1;obtain⟨z,z1,z2⟩:=Q j Y e4 m2;exact r.inj i j b y z e1 e2 y1 z1 y2 z2
end
structure bR(ρ:List Addr)(H:Hp)(σp:PSt)(σ:L2.St):Prop where
 len:σ.length=σp.length
 get:∀(i:Nat)(p:PV),σp[i]?=some (some p)->∃v,σ[i]?=some (some v)/\RV ρ H p v
def bR.mono(h:bR c H b σ)(e:ax c H a H'):bR a H' b σ:=
 ⟨h.len,λi p d=>let⟨v,f,g⟩:=h.get i p d;⟨v,f,g.mono e⟩⟩
def bR.set(h:bR d H a σ)(i:Nat)(r:RV d H x v):bR d H (a.set i (some x)) (σ.set i (some v)):=by
 refine⟨by simp[h.len],λj p b=>?_⟩;by_cases c:i=j
 .subst c;by_cases e:i<a.length
  .rw[List.getElem?_set]at b;simp[e]at b;subst b;exact⟨v,by simp[h.len,e],r⟩
  .rw[Mu (by simp;symm)]at b;cases b
 .rw[MG c]at b ⊢;exact h.get j p b
section
variable(K:Lm)(cm:Nat->Addr)
inductive cJ (d:ED) (σ:L2.St) (H:Hp) (Q:VK):Prop
 | mk (ρ:List Addr) (A:PHp) (σp:PSt) (v:PV) (A':PHp) (h0:aL K cm ρ A H) (h1:bR ρ H σp σ) (h2:d σp A=.ok v A') (h3:∀ρ' H' v',ax ρ H ρ' H'->aL K cm ρ' A' H'->RV ρ' H' v v'->Q v' H'):cJ d σ H Q
inductive fB (d:TD) (σ:L2.St) (H:Hp) (Q:Bool->Hp->Prop):Prop
 | mk (ρ:List Addr) (A:PHp) (σp:PSt) (b:Bool) (A':PHp) (h0:aL K cm ρ A H) (h1:bR ρ H σp σ) (h2:d σp A=.ok b A') (h3:∀ρ' H',ax ρ H ρ' H'->aL K cm ρ' A' H'->Q b H'):fB d σ H Q
inductive gz (d:AD) (σ:L2.St) (H:Hp) (Q:List V->Hp->Prop):Prop
 | mk (ρ:List Addr) (A:PHp) (σp:PSt) (vs:List PV) (A':PHp) (h0:aL K cm ρ A H) (h1:bR ρ H σp σ) (h2:d σp A=.ok vs A') (h3:∀ρ' H' vs',ax ρ H ρ' H'->aL K cm ρ' A' H'->RVs ρ' H' vs vs'->Q vs' H'):gz d σ H Q
inductive kJ (g:GD) (v:V) (σ:L2.St) (H:Hp) (Q:L2.St->Hp->Prop):Prop
 | mk (ρ:List Addr) (A:PHp) (σp:PSt) (x:PV) (σp':PSt) (A':PHp) (h0:aL K cm ρ A H) (h1:bR ρ H σp σ) (h2:RV ρ H x v) (h3:g x σp A=.ok σp' A') (h4:∀ρ' H' σ',ax ρ H ρ' H'->aL K cm ρ' A' H'->bR ρ' H' σp' σ'->Q σ' H'):kJ g v σ H Q
inductive ee (g:GDs) (vs:List V) (σ:L2.St) (H:Hp) (Q:L2.St->Hp->Prop):Prop
 | mk (ρ:List Addr) (A:PHp) (σp:PSt) (xs:List PV) (σp':PSt) (A':PHp) (h0:aL K cm ρ A H) (h1:bR ρ H σp σ) (h2:RVs ρ H xs vs) (h3:g xs σp A=.ok σp' A') (h4:∀ρ' H' σ',ax ρ H ρ' H'->aL K cm ρ' A' H'->bR ρ' H' σp' σ'->Q σ' H'):ee g vs σ H Q
def nI(D:u9)(c:List Addr)(H:Hp):Fl->Prop
 | .nx a=>∀b,bR c H a b->D.nx b H
 | .bk a=>∀b,bR c H a b->D.bk b H
 | .ct a=>∀b,bR c H a b->D.ct b H
 | .rt v=>∀d,RV c H v d->D.rt d H
inductive gA (s:SD) (D:u9) (σ:L2.St) (H:Hp):Prop
 | mk (ρ:List Addr) (A:PHp) (σp:PSt) (f:Fl) (A':PHp) (h0:aL K cm ρ A H) (h1:bR ρ H σp σ) (h2:s σp A=.ok f A') (h3:∀ρ' H',ax ρ H ρ' H'->aL K cm ρ' A' H'->nI D ρ' H' f):gA s D σ H
end
section
variable(X:Cx)(cm:Nat->Addr)
abbrev Pe(e:Expr)(d:ED):Prop:=PE X e (cJ X.K cm d)
abbrev Pt(e:Expr)(d:TD):Prop:=PT X e (fB X.K cm d)
abbrev Pw(e:Expr)(d:TD):Prop:=PW X e (fB X.K cm d)
abbrev Pa(e:List Expr)(d:AD):Prop:=PA X e (gz X.K cm d)
abbrev Ps(e:Stmt)(d:SD):Prop:=PS X e (gA X.K cm d)
abbrev eS(e:List Stmt)(d:SD):Prop:=bZ X e (gA X.K cm d)
abbrev Pg(e:Expr)(d:GD):Prop:=L2.PG X e (kJ X.K cm d)
end
section
variable{X:Cx}{cm:Nat->Addr}
def D4(h:PE X e t)(k:∀a H Q,t' a H Q->t a H Q):PE X e t':=λb s a H Q I q=>h b s a H Q I (k a H Q q)
def s8(h:PT X e t)(k:∀a H Q,t' a H Q->t a H Q):PT X e t':=λb s a H Q I q=>h b s a H Q I (k a H Q q)
def uA(h:PW X e t)(k:∀a H Q,t' a H Q->t a H Q):PW X e t':=λw b s a H Q I q=>h w b s a H Q I (k a H Q q)
def uB(h:PA X es t)(k:∀a H Q,t' a H Q->t a H Q):PA X es t':=λc b s a H Q I q=>h c b s a H Q I (k a H Q q)
def Q3(h:PS X st t)(k:∀D a H,t' D a H->t D a H):PS X st t':=λb s a H D I q=>h b s a H D I (k D a H q)
def nJ(h:bZ X st t)(k:∀D a H,t' D a H->t D a H):bZ X st t':=λb s a H D I q=>h b s a H D I (k D a H q)
def uC(h:L2.PG X e t)(k:∀v a H Q,t' v a H Q->t v a H Q):L2.PG X e t':=λb s a H v u Q I r q=>h b s a H v u Q I r (k v a H Q q)
def uD(h:fw X es t)(k:∀v a H Q,t' v a H Q->t v a H Q):fw X es t':=λb s a H c d Q I r q=>h b s a H c d Q I r (k c a H Q q)
def BA(h:PE X e (fE i)):Pe X cm e (ae i):=D4 h λo H Q b=>by
 obtain⟨c,A,a,v,d,r,f,g,k⟩:=b;have:∃p,a[i]?=some (some p)/\v=p/\d=A:=by
  unfold ae at g;rcases j:a[i]? with _ | (_ | p)
  .simp_all
  .simp_all
  .simp_all
 obtain⟨p,l,rfl,rfl⟩:=this;obtain⟨u,m,n⟩:=f.get i _ l;exact⟨u,m,k c H u (ax.refl _ _) r n⟩
def kK(h:PE X e (tC u))(b:∀a H,RV a H x u):Pe X cm e (eK x):=D4 h λg H Q c=>by
 obtain⟨a,A,d,v,i,r,j,f,k⟩:=c;cases f;exact k a H u (ax.refl _ _) r (b a H)
def lJ{j a}:Pe X cm (.Constant (.int i) j a) (eK (.int i)):=kK sU λ_ _=>.int i
def qh{j a}:Pe X cm (.Constant (.bool b) j a) (eK (.bl b)):=kK yH λ_ _=>.bl b
def lK{j a}:Pe X cm (.Constant .none j a) (eK .non):=kK yI λ_ _=>.non
def S6(K:Lm)(cm:Nat->Addr)(f:OD)(r:R2):Prop:=∀b A H x y z d e g (Q:VK),aL K cm b A H->RV b H x e->RV b H y g->f x y A=.ok z d->
 (∀a c h,ax b H a c->aL K cm a d c->RV a c z h->Q h c)->r e g H Q
def nK(B:S6 X.K cm f r)(h:cJ X.K cm (eBin f a b) σ H Q):lz r (cJ X.K cm a) (cJ X.K cm b) σ H Q:=by
 obtain⟨C,A,c,z,D,E,q,d,k⟩:=h;obtain⟨x,s,G,d⟩:=B0 d;obtain⟨y,u,I,d⟩:=B0 d;exact⟨C,A,c,x,s,E,q,G,λe Y J v g i=>⟨e,s,c,y,u,g,q.mono v,I,λj L N w l m=>B j u L x y z D J N Q l (i.mono w) m d λn O T U o p=>k n O T ((v.trans w).trans U) o p⟩⟩
def cH(i:cb X (binaryOp d) r)(j:S6 X.K cm f r)(l:Pe X cm a e)(m:Pe X cm b g):Pe X cm (.BinOp a d b c) (eBin f e g):=
 D4 (zH i l m) λn H Q h=>nK j h
def dq(i:cb X (compareOp c) r)(j:S6 X.K cm f r)(l:Pe X cm a e)(m:Pe X cm b g)(n:behindInMarks c b=false):Pe X cm (.Compare a [c] [b] d) (eBin f e g):=
 D4 (zM i l m n) λo H Q h=>nK j h
def l8(h:∀σ H Q,cJ X.K cm d σ H Q->t σ H Q)(q:fB X.K cm (av d) σ H Q):tm t σ H Q:=by
 obtain⟨j,A,e,b,s,l,m,a,k⟩:=q;obtain⟨x,n,o,a⟩:=B0 a;refine h σ H _ ⟨j,A,e,x,n,l,m,o,λf p u r g i=>?_⟩;cases x with
 | bl c=>
   cases a;cases i;exact⟨_,rfl,k f p r g⟩
 | _=>cases a
def cC(i:cb X (compareOp c) r)(j:S6 X.K cm f r)(l:Pe X cm a e)(m:Pe X cm b g)(n:behindInMarks c b=false):Pt X cm (.Compare a [c] [b] d) (av (eBin f e g)):=
 s8 (zN i l m n) λo H Q h=>l8 (λ_ _ _=>nK j) h
def jx(h:Pe X cm e d)(he:∀whole,isTrue e X.env whole=(do let v <-whole;standAt e.pos;holding [v] (truthy v)):=by intro _;rfl):Pt X cm e (av d):=
 s8 (yQ h he) λa H Q q=>l8 (λ_ _ _ z=>z) q
def kL{g:Int->Int->PV}(h:∀x y A z a,f x y A=.ok z a->∃i j,x=.int i/\y=.int j/\C i j/\z=g i j/\a=A)(c:∀b H i j,RV b H (g i j) (g' i j))(K:Lm)(cm:Nat->Addr):S6 K cm f (rI C g'):=
 λb A H x y z a o p Q d e l m k=>by
  obtain⟨i,j,rfl,rfl,n,rfl,rfl⟩:=h _ _ _ _ _ m;cases e;cases l;exact⟨i,j,rfl,rfl,n,k b H _ (ax.refl _ _) d (c _ _ _ _)⟩
def kM{g:Int->Int->PV}(h:∀x y A z a,f x y A=.ok z a->∃i j,x=.int i/\y=.int j/\z=g i j/\a=A)(c:∀b H i j,RV b H (g i j) (g' i j))(K:Lm)(cm:Nat->Addr):S6 K cm f (dU g'):=
 λb A H x y z a n o Q d e l m k=>by
  obtain⟨i,j,rfl,rfl,rfl,rfl⟩:=h _ _ _ _ _ m;cases e;cases l;exact⟨i,j,rfl,rfl,k b H _ (ax.refl _ _) d (c _ _ _ _)⟩
def jy:S6 X.K cm fH (dU λi j=>.int (i - j)):=kM (λx y A z a h=>by cases x<;>cases y<;>first | (cases h;exact⟨_,_,rfl,rfl,rfl,rfl⟩) | cases h) (λ_ _ _ _=>.int _) _ _
def fR:S6 X.K cm eO (dU λi j=>.bl (decide (i<j))):=kM (λx y A z a h=>by cases x<;>cases y<;>first | (cases h;exact⟨_,_,rfl,rfl,rfl,rfl⟩) | cases h) (λ_ _ _ _=>.bl _) _ _
def fS:S6 X.K cm jt (dU λi j=>.bl (decide (i<=j))):=kM (λx y A z a h=>by cases x<;>cases y<;>first | (cases h;exact⟨_,_,rfl,rfl,rfl,rfl⟩) | cases h) (λ_ _ _ _=>.bl _) _ _
def iH:S6 X.K cm ju (dU λi j=>.bl (decide (j<i))):=kM (λx y A z a h=>by cases x<;>cases y<;>first | (cases h;exact⟨_,_,rfl,rfl,rfl,rfl⟩) | cases h) (λ_ _ _ _=>.bl _) _ _
def iI:S6 X.K cm kF (dU λi j=>.bl (decide (j<=i))):=kM (λx y A z a h=>by cases x<;>cases y<;>first | (cases h;exact⟨_,_,rfl,rfl,rfl,rfl⟩) | cases h) (λ_ _ _ _=>.bl _) _ _
def jz:S6 X.K cm bH (rI (λ_ j=>0<j) λi j=>.int (i%j)):=kL (λx y A z a h=>by
 cases x<;>cases y<;>first | (obtain⟨c,h⟩:=B9 h;cases h;exact⟨_,_,rfl,rfl,c,rfl,rfl⟩) | cases h) (λ_ _ _ _=>.int _) _ _
def gN:S6 X.K cm bB (rI tj λi j=>.int (i / j)):=kL (λx y A z a h=>by
 cases x<;>cases y<;>first | (obtain⟨c,h⟩:=B9 h;cases h;exact⟨_,_,rfl,rfl,c,rfl,rfl⟩) | cases h) (λ_ _ _ _=>.int _) _ _
def jA:S6 X.K cm cG (rI gF λi j=>.int (i*j)):=kL (λx y A z a h=>by
 cases x<;>cases y<;>first | (obtain⟨c,h⟩:=B9 h;cases h;exact⟨_,_,rfl,rfl,c,rfl,rfl⟩) | cases h) (λ_ _ _ _=>.int _) _ _
end
def N0(i:aL K g ρ A H)(r:RV ρ H (.ref n) v)(h:E7 n A=.ok l A'):A'=A/\∃a d,v=.ref a/\bx K H a d/\RVs ρ H l d:=by
 cases r with
 | ref j=>
   unfold E7 at h;rcases b:A[n]? with _ | o
   .rw[b]at h;cases h
   .have q:=i.obj n o _ b j;cases o with
    | lst m=>rw[b]at h;cases h;obtain⟨d,e,f⟩:=q;exact⟨rfl,_,d,rfl,bx.of e,f⟩
    | ro m=>rw[b]at h;cases h;obtain⟨d,e,f⟩:=q;exact⟨rfl,_,d,rfl,e.sq,f⟩
    | dI m=>rw[b]at h;cases h
    | ins c m=>rw[b]at h;cases h
    | dS m=>rw[b]at h;cases h
    | dT m=>rw[b]at h;cases h
    | hid=>rw[b]at h;cases h
    | exc c m=>rw[b]at h;cases h
def K4(g:aL K f ρ A H)(r:RV ρ H (.ref n) v)(h:Q9 n A=.ok l A'):A'=A/\A[n]?=some (.lst l)/\∃a d,v=.ref a/\ρ[n]?=some a/\H a=some (.lst d)/\RVs ρ H l d:=by
 cases r with
 | ref e=>
   unfold Q9 at h;rcases b:A[n]? with _ | o
   .rw[b]at h;cases h
   .have q:=g.obj n o _ b e;cases o with
    | lst m=>rw[b]at h;cases h;obtain⟨d,i,j⟩:=q;exact⟨rfl,rfl,_,d,rfl,e,i,j⟩
    | ro m=>rw[b]at h;cases h
    | dI m=>rw[b]at h;cases h
    | ins c m=>rw[b]at h;cases h
    | dS m=>rw[b]at h;cases h
    | dT m=>rw[b]at h;cases h
    | hid=>rw[b]at h;cases h
    | exc c m=>rw[b]at h;cases h
def lL{n:Nat}(d:aL K b ρ A H)(e:A[n]?=some (.ins c fs))(f:ρ[n]?=some a):c<7:=(d.obj n _ _ e f).1.1
def nL(i:aL K f ρ A H)(r:RV ρ H (.ref n) v)(h:w6 n A=.ok o A'):A'=A/\A[n]?=some (.ins o.1 o.2)/\∃a e d,v=.ref a/\ρ[n]?=some a/\H a=some (.ins (f o.1) e d)/\Pairs cE ρ H o.2 d/\∀p∈o.2,p.1<19:=by
 cases r with
 | ref g=>
   unfold w6 at h;rcases b:A[n]? with _ | o
   .rw[b]at h;cases h
   .have q:=i.obj n o _ b g;cases o with
    | lst m=>rw[b]at h;cases h
    | ro m=>rw[b]at h;cases h
    | dI m=>rw[b]at h;cases h
    | ins c m=>rw[b]at h;cases h;obtain⟨j,e,d,s,u⟩:=q;exact⟨rfl,rfl,_,e,d,rfl,g,s,u,j.2⟩
    | dS m=>rw[b]at h;cases h
    | dT m=>rw[b]at h;cases h
    | hid=>rw[b]at h;cases h
    | exc c m=>rw[b]at h;cases h
def i7(g:aL K f ρ A H)(r:RV ρ H x v)(h:O7 x A=.ok l A'):A'=A/\∃a b,v=.ref a/\(bx K H a b\/cD K H a b)/\RVs ρ H l b:=by
 cases x with
 | ref n=>
   obtain⟨e,a,b,c,d,i⟩:=N0 g r h;exact⟨e,a,b,c,.inl d,i⟩
 | tup m=>
   cases h;cases r with
   | tup c d=>exact⟨rfl,_,_,rfl,.inr (cD.of c),d⟩
 | _=>cases h
def BB{b:Type}(a:List b)(i:Int):L2.atI a i=atI a i:=rfl
theorem RVs.at(r:RVs ρ H l a)(h:atI l i=some x):∃u,L2.atI a i=some u/\RV ρ H x u:=by
 rw[BB];unfold atI at h ⊢;rw[<-r.length];rcases e:ixN l.length i with _ | j
 .rw[e]at h;cases h
 .rw[e]at h;obtain⟨u,b,c⟩:=r.get (i:=j) h;exact⟨u,b,c⟩
def nM(n d:Nat)(o:Option Int):HT.sIx n d o=V4 n d o:=by
 cases o with
 | none=>rfl
 | some v=>
   have e:=HT.cU v n d;show HT.sIx n d _=if v<0 then(max (v+n) 0).toNat else(min v n).toNat;by_cases h:v<0
   .rw[if_pos h]at e ⊢;symm
   .rw[if_neg h]at e ⊢;symm
def RVs.slc(r:RVs ρ H l a)(lo b:Option Int):RVs ρ H (cut l lo b) (jn a lo b):=by
 unfold cut jn;rw[nM,nM,<-r.length];exact(r.drop _).take _
def W4(h:n<=LIM):n<=sizeLine:=LW h (by unfold LIM;decide)
def lM(h:n<LIM):n<sizeLine:=LI h (by unfold LIM;decide)
section
variable{X:Cx}{cm:Nat->Addr}
def uE(K:Lm):R2:=λx y H Q=>(∃i j,x=.int i/\y=.int j/\Q (.int (i+j)) H)\/(tN K x y H Q\/rCat x y H Q)
def gO:cb X (binaryOp .Add) (uE X.K):=op_add.or (op_catT.or AM)
def jB:S6 X.K cm aS (uE X.K):=λq A H x y z N O T Q f r s d k=>by
 cases x with
 | int i=>
   cases y with
   | int j=>cases d;cases r;cases s;exact .inl ⟨i,j,rfl,rfl,k q H _ (ax.refl _ _) f (.int _)⟩
   | _=>cases d
 | tup l=>
   cases y with
   | tup m=>
     obtain⟨c,d⟩:=B9 d;cases d;cases r with
     | tup B g=>
       cases s with
       | tup E o=>
         refine .inr (.inl ⟨_,_,_,_,rfl,rfl,cD.of B,cD.of E,?_,?_,?_⟩)
         .intro e;subst e;have:=g.length;exact c.1 (List.length_eq_zero_iff.mp (by simpa using this))
         .rw[<-g.length,<-o.length];exact W4 c.2
         .refine⟨λz=>?_,λ_ p h=>?_⟩
          .subst z;cases o;refine k q H _ (ax.refl _ _) f ?_;rw[MM];exact .tup B g
          .refine k q _ _ (ax.same h) (f.tup h) (.tup C2 ?_);exact(g.mono (ax.same h)).append (o.mono (ax.same h))
   | _=>cases d
 | ref n=>
   cases y with
   | ref m=>
     obtain⟨U,Y,G,u⟩:=B0 d;obtain⟨rfl,_,a,C,rfl,_,I,g⟩:=K4 f r G;obtain⟨l2,A2,J,v⟩:=B0 u;obtain⟨rfl,_,b,D,rfl,_,L,o⟩:=K4 f s J;obtain⟨c,w⟩:=B9 v;cases w;refine .inr (.inr ⟨a,b,C,D,rfl,rfl,I,L,?_,λp h=>?_⟩)
     .rw[<-g.length,<-o.length];exact W4 c
     .have e:ax q H _ (aB H p (.lst (C++D))):=ax.new h;exact k _ _ _ e (f.alloc h ⟨_,C2,(g.mono e).append (o.mono e)⟩ rfl) (.ref (by rw[<-f.len];simp))
   | _=>cases d
 | _=>cases y<;>cases d
def uF(K:Lm):R2:=λx y H Q=>tR K x y H Q\/tS K x y H Q
def BC:iA X (uF X.K):=ix_list.or Ax
def BD:S6 X.K cm oIx (uF X.K):=λg A H x y z r s v Q e n o h k=>by
 cases y with
 | int i=>
   obtain⟨l,B,p,b⟩:=B0 h;obtain⟨rfl,a,j,rfl,c,q⟩:=i7 e n p;rcases f:atI l i with _ | u
   .rw[f]at b;cases b
   .rw[f]at b;cases b;cases o;obtain⟨w,m,d⟩:=q.at f;rcases c with c | c
    .exact .inl ⟨a,j,i,w,rfl,rfl,c,m,k g H w (ax.refl _ _) e d⟩
    .exact .inr ⟨a,j,i,w,rfl,rfl,c,m,k g H w (ax.refl _ _) e d⟩
 | _=>cases h
def r_ix(f:Pe X cm a d)(g:Pe X cm b e)(hs:tP b):Pe X cm (.Subscript a b c) (eBin oIx d e):=
 D4 (Aw BC f g hs) λi H Q h=>nK BD h
def uG(r:RV a H x v):decide (v=.non)=nk x:=by
 cases r<;>simp
def jC(l:Pe X cm a i):Pt X cm (.Compare a [.Is] [.Constant .none j b] c) (av (gI i)):=
 s8 (mR (yN l)) λσ H Q q=>l8 (λσ H Q m=>by
  obtain⟨n,A,d,v,A',o,p,e,k⟩:=m;obtain⟨x,w,r,e⟩:=B0 e;cases e;exact⟨n,A,d,x,A',o,p,r,λf s y u g h=>k f s _ u g (by rw[uG h];exact .bl _)⟩) q
def gP(l:Pe X cm a i):Pt X cm (.Compare a [.IsNot] [.Constant .none j b] c) (av (fJ i)):=
 s8 (mR (yO l)) λσ H Q q=>l8 (λσ H Q m=>by
  obtain⟨n,A,d,v,A',o,p,e,k⟩:=m;obtain⟨x,w,r,e⟩:=B0 e;cases e;exact⟨n,A,d,x,A',o,p,r,λf s y u g h=>k f s _ u g (by rw[uG h];exact .bl _)⟩) q
def BE(hf:S6 X.K cm f r)(hg:S6 X.K cm g L)(h:cJ X.K cm (cL f g a b c) σ H Q):tq r L (cJ X.K cm a) (cJ X.K cm b) (cJ X.K cm c) σ H Q:=by
 obtain⟨ρ,A,e,z,A',rl,o,d,k⟩:=h;obtain⟨x,N,e1,d⟩:=B0 d;obtain⟨y,O,e2,d⟩:=B0 d;obtain⟨m,T,e3,d⟩:=B0 d;refine⟨ρ,A,e,x,N,rl,o,e1,λp H1 vx U q s=>⟨p,N,e,y,O,q,o.mono U,e2,λv H2 Y x2 w j=>hf v O H2 x y m T vx Y _ w (s.mono x2) j e3 λl H3 v3 x3 n B=>?_⟩⟩;have i:=(U.trans x2).trans x3;cases m with
 | bl t=>
   cases B;refine⟨t,rfl,?_⟩;cases t with
   | true=>
     obtain⟨u,A4,e4,d⟩:=B0 d;exact⟨l,T,e,u,A4,n,o.mono i,e4,λC H4 v4 x4 D E=>hg C A4 H4 y u z A' Y v4 Q D ((j.mono x3).mono x4) E d λG H5 v5 x5 I J=>k G H5 v5 ((i.trans x4).trans x5) I J⟩
   | false=>
     cases d;exact k l H3 _ i n (.bl false)
 | _=>cases d
def eC(p:cb X (compareOp e) r)(q:S6 X.K cm f r)(j:cb X (compareOp d) l)(s:S6 X.K cm g l)
 (u:Pe X cm a m) (v:Pe X cm b n) (w:Pe X cm c o) (x:autoParam (lastMarks [e,d] [b,c]=false) au5._auto_1):Pe X cm (.Compare a [e,d] [b,c] i) (cL f g m n o):=
 D4 (zO p j u v w x) λy H Q h=>BE q s h
def jD(h:Pt X cm a t):Pt X cm (.UnaryOp .Not a d) (tNot t):=s8 (yV h) λs H Q j=>by
 obtain⟨l,A,e,b,m,n,o,f,k⟩:=j;obtain⟨c,u,p,f⟩:=B0 f;cases f;exact⟨l,A,e,c,m,n,o,p,λg q r i=>k g q r i⟩
def gQ(h:Pt X cm a t):Pw X cm (.BoolOp .And [a] b) t:=yR h
def jE(h:Pt X cm a t):Pw X cm (.BoolOp .Or [a] b) t:=yS h
def BF(o:Pt X cm a t)(p:Pw X cm (.BoolOp .And (b::rest) d) u):Pw X cm (.BoolOp .And (a::b::rest) d) (tAnd t u):=
 uA (yT o p) λC H Q q=>by
  obtain⟨r,A,e,z,s,v,m,h,k⟩:=q;obtain⟨c,n,w,h⟩:=B0 h;refine⟨r,A,e,c,n,v,m,w,λf x i g=>?_⟩;cases c with
  | true=>exact⟨f,n,e,z,s,g,m.mono i,h,λj y B l=>k j y (i.trans B) l⟩
  | false=>cases h;exact k f x i g
def BG(o:Pt X cm a t)(p:Pw X cm (.BoolOp .Or (b::rest) d) u):Pw X cm (.BoolOp .Or (a::b::rest) d) (tOr t u):=
 uA (yU o p) λC H Q q=>by
  obtain⟨r,A,e,z,s,v,m,h,k⟩:=q;obtain⟨c,n,w,h⟩:=B0 h;refine⟨r,A,e,c,n,v,m,w,λf x i g=>?_⟩;cases c with
  | true=>cases h;exact k f x i g
  | false=>exact⟨f,n,e,z,s,g,m.mono i,h,λj y B l=>k j y (i.trans B) l⟩
def qi(h:kG x A=.ok c A'):x=.bl c/\A'=A:=by
 cases x with
 | bl b=>cases h;exact⟨rfl,rfl⟩
 | _=>cases h
def fU(h:Pe X cm a d):Pe X cm (.BoolOp .And [a] b) d:=sV h
def lN(h:Pe X cm a d):Pe X cm (.BoolOp .Or [a] b) d:=sV h
def iJ(q:Pe X cm a d)(r:Pe X cm (.BoolOp .And (b::rest) e) u):Pe X cm (.BoolOp .And (a::b::rest) e) (Y9 d u):=
 D4 (yZ q r) λI H Q s=>by
  obtain⟨v,A,f,z,w,y,p,i,k⟩:=s;obtain⟨c,J,j,i⟩:=B0 i;obtain⟨x,L,B,j⟩:=B0 j;obtain⟨rfl,rfl⟩:=qi j;refine⟨v,A,f,_,_,y,p,B,λg C N l h m=>?_⟩;cases m;refine⟨c,rfl,?_⟩;cases c with
  | true=>exact⟨g,_,f,z,w,h,p.mono l,i,λn D E G o=>k n D E (l.trans G) o⟩
  | false=>cases i;exact k g C _ l h (.bl false)
def BH(q:Pe X cm a d)(r:Pe X cm (.BoolOp .Or (b::rest) e) u):Pe X cm (.BoolOp .Or (a::b::rest) e) (nq d u):=
 D4 (za q r) λI H Q s=>by
  obtain⟨v,A,f,z,w,y,p,i,k⟩:=s;obtain⟨c,J,j,i⟩:=B0 i;obtain⟨x,L,B,j⟩:=B0 j;obtain⟨rfl,rfl⟩:=qi j;refine⟨v,A,f,_,_,y,p,B,λg C N l h m=>?_⟩;cases m;refine⟨c,rfl,?_⟩;cases c with
  | true=>cases i;exact k g C _ l h (.bl true)
  | false=>exact⟨g,_,f,z,w,h,p.mono l,i,λn D E G o=>k n D E (l.trans G) o⟩
def iK(l:Pe X cm a d):Pe X cm (.UnaryOp .Not a b) (de d):=
 D4 (zb l) λu H Q m=>by
  obtain⟨n,A,e,z,v,o,p,f,k⟩:=m;obtain⟨c,w,g,f⟩:=B0 f;obtain⟨x,y,q,g⟩:=B0 g;obtain⟨rfl,rfl⟩:=qi g;cases f;refine⟨n,A,e,_,_,o,p,q,λh r B s i j=>?_⟩;cases j;exact⟨c,rfl,k h r _ s i (.bl _)⟩
def qj(v:Pt X cm c t)(w:Pe X cm a d)(x:Pe X cm b u):Pe X cm (.IfExp c a b m) (nr t d u):=
 D4 (zd v w x) λE H Q y=>by
  obtain⟨B,A,e,z,s,C,n,j,k⟩:=y;obtain⟨c,o,D,j⟩:=B0 j;refine⟨B,A,e,c,o,C,n,D,λh G l i=>?_⟩;cases c with
  | true=>exact⟨h,o,e,z,s,i,n.mono l,j,λf p q r g=>k f p q (l.trans r) g⟩
  | false=>exact⟨h,o,e,z,s,i,n.mono l,j,λf p q r g=>k f p q (l.trans r) g⟩
def bq:Pa X cm [] aNil:=uB pJ λf H Q a=>by
 obtain⟨b,A,c,g,h,d,i,e,k⟩:=a;cases e;exact k b H [] (ax.refl _ _) d .nil
def aP(h:Pe X cm e d)(r:Pa X cm es m)(hs:autoParam (starEach (e::es) X.env=(false,eval e X.env)::starEach es X.env) au2._auto_1):Pa X cm (e::es) (ag d m):=
 uB (v8 h r hs) λE H Q s=>by
  obtain⟨u,A,a,G,v,w,n,b,k⟩:=s;obtain⟨x,o,y,b⟩:=B0 b;obtain⟨z,I,B,b⟩:=B0 b;cases b;exact⟨u,A,a,x,o,w,n,y,λc J L p f g=>⟨c,o,a,z,v,f,n.mono p,B,λi C D q j l=>k i C _ (p.trans q) j (.cons (g.mono q) l)⟩⟩
def lO(h:Pa X cm es m):Pe X cm (.Tuple es f g) (aX m):=
 D4 (Aa h) λz H Q q=>by
  obtain⟨r,A,i,v,s,u,w,b,k⟩:=q;obtain⟨x,B,y,b⟩:=B0 b;obtain⟨c,b⟩:=B9 b;cases b;refine⟨r,A,i,x,s,u,w,y,λa n j f l d=>⟨by rw[<-d.length];exact W4 c,λp o=>?_⟩⟩;have e:ax a n a (aB n p (.tup j)):=ax.same o;exact k a _ _ (f.trans e) (l.tup o) (.tup C2 (d.mono e))
def lP(h:Pa X cm es l):Pe X cm (.List es f) (bA l):=
 D4 (Ab h) λz H Q o=>by
  obtain⟨q,A,g,v,B,r,s,a,k⟩:=o;obtain⟨u,w,x,a⟩:=B0 a;obtain⟨c,a⟩:=B9 a;cases a;refine⟨q,A,g,u,w,r,s,x,λi m j y b d=>⟨by rw[<-d.length];exact W4 c,λp n=>?_⟩⟩;have e:ax i m _ (aB m p (.lst j)):=ax.new n;exact k _ _ _ (y.trans e) (b.alloc n ⟨_,C2,d.mono e⟩ rfl) (.ref (by rw[<-b.len];simp))
inductive jF (K:Lm) (cm:Nat->Addr) (d:LD) (σ:L2.St) (H:Hp) (Q:Option Int->Hp->Prop):Prop
 | mk (ρ:List Addr) (A:PHp) (σp:PSt) (v:Option Int) (A':PHp) (h0:aL K cm ρ A H) (h1:bR ρ H σp σ) (h2:d σp A=.ok v A') (h3:∀ρ' H',ax ρ H ρ' H'->aL K cm ρ' A' H'->Q v H'):jF K cm d σ H Q
def uH(h:L2.PO X e t)(k:∀a H Q,t' a H Q->t a H Q):L2.PO X e t':=λb s a H Q I q=>h b s a H Q I (k a H Q q)
def lQ:L2.PO X none (jF X.K cm gJ):=uH Ao λf H Q a=>by
 obtain⟨b,A,c,v,g,d,h,e,k⟩:=a;cases e;exact k b H (ax.refl _ _) d
def lR(h:Pe X cm e d):L2.PO X (some e) (jF X.K cm (fK d)):=uH (Ap h) λu H Q j=>by
 obtain⟨l,A,b,v,w,m,n,o,k⟩:=j;obtain⟨x,p,q,a⟩:=B0 o;refine⟨l,A,b,x,p,m,n,q,λc r y s f g=>?_⟩;cases x with
 | int i=>cases a;cases g;exact⟨i,rfl,k c r s f⟩
 | _=>cases a
def lS(he:Pe X cm e d)(hl:L2.PO X lo (jF X.K cm dl))(hu:L2.PO X J (jF X.K cm L)):Pe X cm (.Subscript e (.Slice lo J none p2) s) (df d dl L):=
 D4 (Ar (sl_list.or Au) he hl hu) λσ H Q hq=>by
  obtain⟨ρ,A,f,v,A',rl,u,ev,k⟩:=hq;obtain⟨x,N,e1,w⟩:=B0 ev;obtain⟨l,O,e2,y⟩:=B0 w;obtain⟨h,A3,e3,g⟩:=B0 y;refine⟨ρ,A,f,x,N,rl,u,e1,λz H1 v1 B C D=>⟨z,N,f,l,O,C,u.mono B,e2,λE H2 G I=>⟨E,O,f,h,A3,I,(u.mono B).mono G,e3,λm T U b=>?_⟩⟩⟩;have o:=(B.trans G).trans U;have q:=D.mono (G.trans U);cases x with
  | ref n=>
    obtain⟨xs,A4,e4,i⟩:=B0 g;obtain⟨rfl,a,Y,rfl,hs,r⟩:=N0 b q e4;cases i;refine .inl ⟨a,Y,rfl,hs,λp j=>?_⟩;have e:ax m T _ (aB T p (.lst (jn Y l h))):=ax.new j;exact k _ _ _ (o.trans e) (b.alloc j ⟨_,C2,(r.slc l h).mono e⟩ rfl) (.ref (by rw[<-b.len];simp))
  | tup xs=>
    obtain⟨c,i⟩:=B9 g;cases i;cases q with
    | tup ha r=>
      refine .inr ⟨_,_,rfl,cD.of ha,by rw[nM,nM,<-r.length];exact c,λp j=>?_⟩;exact k m _ _ (o.trans (ax.same j)) (b.tup j) (.tup C2 ((r.slc l h).mono (ax.same j)))
  | _=>cases g
def c7(he:∀σ,e σ=ao (d σ) f)
 (y:∀b A H x z c v (Q:VK),aL X.K cm b A H->RV b H x v->f x A=.ok z c->(∀a g s,ax b H a g->aL X.K cm a c g->RV a g z s->Q s g)->r [v] H Q)
    (h:cJ X.K cm e σ H Q):pN r (gz X.K cm (ag d aNil)) σ H Q:=by
 obtain⟨b,A,i,z,c,B,C,u,k⟩:=h;rw[he]at u;obtain⟨x,w,D,j⟩:=B0 u;refine⟨b,A,i,[x],w,B,C,by show ao _ _ A=_;rw[ay D];rfl,λl E G I m n=>?_⟩;cases n with
 | cons J L=>
   cases L;exact y l w E x z c _ Q m J j λo N O T p q=>k o N O (I.trans T) p q
def BI(he:Pe X cm e d)(g:Gl X "len")(i:X.mg "len" = none)(hs:autoParam (starEach [e] X.env=(false,eval e X.env)::starEach [] X.env) au2._auto_1):Pe X cm (.Call (.Name "len" p) [e] [] b) (q8 d):=
 D4 (Y6 AE g i PySem.boot_len (aP he bq hs) (he:=hs)) λu H Q h=>c7 (λ_=>rfl) (λj A H x z A' v Q f m n k=>by
  obtain⟨l,A1,o,c⟩:=B0 n;obtain⟨rfl,a,q,rfl,s,r⟩:=i7 f m o;cases c;exact⟨a,q,rfl,s,k j H _ (ax.refl _ _) f (by rw[<-r.length];exact .int _)⟩) h
def BJ(he:Pe X cm e d)(j:Gl X "list")(m:X.mg "list" = none)(n:bootBuiltins "list" = some (.type "list"))(hs:autoParam (starEach [e] X.env=(false,eval e X.env)::starEach [] X.env) au2._auto_1):Pe X cm (.Call (.Name "list" p) [e] [] b) (l4 d):=
 D4 (Y7 AF j m n (aP he bq hs) (he:=hs)) λy H Q h=>c7 (λ_=>rfl) (λo A H x z A' v Q c q s k=>by
  obtain⟨l,A1,u,f⟩:=B0 s;obtain⟨rfl,a,g,rfl,w,r⟩:=i7 c q u;cases f;refine⟨a,g,rfl,w,λp i=>?_⟩;have e:ax o H _ (aB H p (.lst g)):=ax.new i;exact k _ _ _ e (c.alloc i ⟨_,C2,r.mono e⟩ rfl) (.ref (by rw[<-c.len];simp))) h
theorem Pairs.look(n:∀i j,f i=f j->i<19->j<19->i=j):∀{c:List (Nat×PV)}{kv:List (Str×V)}{i:Nat}{x:PV},Pairs f m H c kv->(∀p∈c,p.1<19)->i<19->f9 i c=some x->∃v,kv.lookup (f i)=some v/\RV m H x v
 | [],kv,i,x,h,_,_,e=>by cases e
 | (g,u)::r,kv,i,x,h,o,s,e=>by
   cases kv with
   | nil=>have:=h.keys;simp at this
   | cons p q=>
     have k:=h.keys;simp only[LX,Qf]at k;have w:=h.vals;cases w with
     | cons y A=>
       have B:=o _ Lz;obtain⟨p1,C⟩:=p;by_cases d:g=i
       .subst d;simp at e;subst e;exact⟨C,by simp[show p1=f g from k.1],y⟩
       .have l:¬f i=p1:=λz=>d (n g i (by rw[z];exact k.1.symm) B s);simp only[f9,d]at e;obtain⟨v,a,b⟩:=Pairs.look n ⟨k.2,A⟩ (λp D=>o p (LC _ D)) s e;refine⟨v,?_,b⟩;rw[QN,beq_eq_false_iff_ne.mpr l];exact a
end
def uI:∀i j,cE i=cE j->i<19->j<19->i=j:=by
 intro i j h b c;have a:∀i:_root_.Fin 19,∀j:_root_.Fin 19,cE i.1=cE j.1->i=j:=by decide +kernel
 exact congrArg (·.1) (a ⟨i,b⟩ ⟨j,c⟩ h)
def BK(he:Pe X cm o d)(z:cE i=f)(B:i<19)(C:∀c,c<7->dC X.K (cm c))(D:∀c,c<7->bM X.K (cm c) f)
 (E:autoParam (attributeBase o f X.env (eval o X.env)=eval o X.env) au0._auto_1):Pe X cm (.Attribute o f h) (aJ d i):=
 D4 (zW he E) λσ H Q G=>by
  obtain⟨I,A,j,v,A',J,L,N,k⟩:=G;obtain⟨x,O,T,l⟩:=B0 N;refine⟨I,A,j,x,O,J,L,T,λm U v1 Y b p=>?_⟩;cases x with
  | ref n=>
    obtain⟨o,A2,e2,e⟩:=B0 l;obtain⟨rfl,s,a,dx,kv,rfl,g,hH,hp,hs⟩:=nL b p e2;rcases q:f9 i o.2 with _ | u
    .rw[q]at e;cases e
    .rw[q]at e;cases e;obtain⟨w,y,r⟩:=hp.look uI hs B q;rw[z]at y;exact⟨a,_,dx,kv,w,rfl,hH,C _ (lL b s g),D _ (lL b s g),y,k m U w Y b r⟩
  | _=>simp_all
theorem Pairs.put(m:i<19)(f:RV d H x v):∀{a:List (Nat×PV)}{kv:List (Str×V)},Pairs cE d H a kv->(∀p∈a,p.1<19)->Pairs cE d H (putFld i x a) (Y5 (cE i) v kv)
 | [],kv,h,_=>by
   cases kv with
   | nil=>exact⟨rfl,.cons f .nil⟩
   | cons p q=>have:=h.keys;simp at this
 | (g,u)::r,kv,h,n=>by
   cases kv with
   | nil=>have:=h.keys;simp at this
   | cons p q=>
     have k:=h.keys;simp only[LX,Qf]at k;have s:=h.vals;cases s with
     | cons w o=>
       obtain⟨p1,j⟩:=p;have y:=n _ Lz;have c:p1=cE g:=k.1;by_cases b:g=i
       .subst b;have e:Y5 (cE g) v ((p1,j)::q)=(p1,v)::q:=by
         show(if p1=cE g then _ else _)=_;rw[if_pos c]
        rw[e];simp only[putFld];exact⟨by simp[c,k.2],.cons f o⟩
       .have l:¬p1=cE i:=λz=>b (uI g i (by rw[<-z];exact c.symm) y m);have e:Y5 (cE i) v ((p1,j)::q)=(p1,j)::Y5 (cE i) v q:=by
         show(if p1=cE i then _ else _)=_;rw[if_neg l]
        rw[e];simp only[putFld,b,if_false];have ih:=Pairs.put m f ⟨k.2,o⟩ λp A=>n p (LC _ A);exact⟨by simp only[LX];rw[ih.keys,c],.cons w ih.vals⟩
theorem uJ(d:i<19):∀{b:List (Nat×PV)},(∀p∈b,p.1<19)->∀p∈putFld i x b,p.1<19
 | [],_,p,a=>by simp at a;subst a;exact d
 | (g,u)::r,c,p,a=>by
   unfold putFld at a;split at a
   .rcases Lu.mp a with rfl | a
    .simp_all
    .exact c p (LC _ a)
   .rcases Lu.mp a with rfl | a
    .exact c _ Lz
    .exact uJ d (λq e=>c q (LC _ e)) p a
def BL(ho:Pe X cm o d)(hv:Pe X cm b e)(hf:cE i=f)(T:i<19)(hc:∀c,c<7->dC X.K (cm c))(hn:∀c,c<7->bM X.K (cm c) f)
 (hs:autoParam (swapsWith b (some (.Attribute o f l)) m.line X.env=pure false) au0._auto_1):Ps X cm (.Assign [.Attribute o f l] b m) (sFld d i e):=
 Q3 (zX ho hv hs) λD σ H hq=>by
  obtain⟨ρ,A,p,fl,A',rl,v,ev,k⟩:=hq;obtain⟨y,U,e1,w⟩:=B0 ev;obtain⟨x,A2,e2,q⟩:=B0 w;refine⟨ρ,A,p,y,U,rl,v,e1,λz H1 v1 B C E=>⟨z,U,p,x,A2,C,v.mono B,e2,λj Y v2 G g I=>?_⟩⟩;cases x with
  | ref n=>
    obtain⟨o,A3,e3,J⟩:=B0 q;obtain⟨rfl,r,a,L,N,rfl,h,hH,hp,s⟩:=nL g I e3;obtain⟨c,O⟩:=B9 J;cases O;have c3:N.length=o.2.length:=by have:=congrArg List.length hp.keys;simpa using this
    refine⟨a,cm o.1,L,N,rfl,hH,hc _ (lL g r h),hn _ (lL g r h),by symm,?_⟩;rw[<-hf];have u:ax j Y j (aB Y a (.ins (cm o.1) L (Y5 (cE i) v1 N))):=ax.put g h r rfl;have Q:aL X.K cm j (A3.set n (.ins o.1 _)) _:=
     g.put h r rfl rfl ⟨⟨lL g r h,uJ T s⟩,L,_,C2,(hp.mono u).put T ((E.mono G).mono u) s⟩
    exact k j _ ((B.trans G).trans u) Q σ (((v.mono B).mono G).mono u)
  | _=>cases q
def BM(N:Pe X cm o d)(he:Pe X cm e u)
 (O:autoParam (attributeBase o "append" X.env (eval o X.env)=eval o X.env) au0._auto_1) (hs:autoParam (starEach [e] X.env=(false,eval e X.env)::starEach [] X.env) au2._auto_1)
 (hfew:autoParam (((backTo b (starEach [e] X.env)).all (λx=>!x.1)&&(backToKw b (keywordEach [] X.env)).all (λx=>x.1.isSome)&&decide ([e].length+([]:List Ro).length+(if([]:List Ro).isEmpty then 0 else 1)<30))=true) au0._auto_1)
 (hline:autoParam ((i.endLine == b.line)=true) au0._auto_1):Pe X cm (.Call (.Attribute o "append" i) [e] [] b) (V5 d u):=
 D4 (pP Qh PySem.F.slot_list_append PySem.F.type_list_append AJ N (aP he bq hs) (hbase:=O) (hfew:=hfew) (hline:=hline) (hs:=hs)) λσ H Q T=>by
  obtain⟨U,A,j,v,A',Y,G,ev,k⟩:=T;obtain⟨x,A1,e1,m⟩:=B0 ev;refine⟨U,A,j,x,A1,Y,G,e1,λr H1 v1 I p q=>?_⟩;cases x with
  | ref n=>
    obtain⟨l0,A2,e2,s⟩:=B0 m;obtain⟨rfl,hA,a,xs,rfl,hn,hH,r0⟩:=K4 p q e2;refine⟨.inl ⟨rfl,xs,bx.of hH⟩,?_⟩;obtain⟨y,A3,e3,w⟩:=B0 s;obtain⟨l,A4,e4,z⟩:=B0 w;obtain⟨c,B⟩:=B9 z;cases B;refine⟨r,_,j,[y],A3,p,G.mono I,by show ao _ _ _=_;rw[ay e3];rfl,λC H2 b0 J f D=>?_⟩;cases D with
    | cons hv hr=>
      cases hr;obtain⟨rfl,g,a2,ys,e5,h,E,L⟩:=K4 f (q.mono J) e4;cases e5;refine⟨a,ys,_,rfl,rfl,E,by rw[<-L.length];exact lM c,?_⟩;refine k C _ _ ((I.trans J).trans (ax.put f h g rfl)) (f.put h g rfl rfl ⟨_,C2,?_⟩) .non;exact(L.mono (ax.put f h g rfl)).append (.cons (hv.mono (ax.put f h g rfl)) .nil)
  | _=>cases m
def jG(h:L2.PG X e (L2.gName i)):Pg X cm e (gName i):=uC h λv m H Q b=>by
 obtain⟨c,A,d,x,a,n,f,g,j,l,k⟩:=b;cases l;exact k c H _ (ax.refl _ _) f (g.set i j)
def lT:fw X [] (ee X.K cm gNil):=uD zm λj l H Q c=>by
 obtain⟨d,A,e,f,a,m,g,h,i,b,k⟩:=c;cases f with
 | nil=>cases b;cases i;exact⟨rfl,k d H _ (ax.refl _ _) g h⟩
 | cons y n=>cases b
def jH(s:Pg X cm e g)(u:fw X es (ee X.K cm r))(hs:autoParam ((assignEach (e::es) X.env).map (·.2)=assign e X.env::(assignEach es X.env).map (·.2)) au0._auto_1):fw X (e::es) (ee X.K cm (gCons g r)):=
 uD (zo s u hs) λT U H Q v=>by
  obtain⟨w,A,c,x,a,z,B,C,D,o,k⟩:=v;cases x with
  | nil=>cases o
  | cons y E=>
    obtain⟨b,p,G,d⟩:=B0 o;cases D with
    | cons I J=>
      exact⟨_,_,rfl,w,A,c,y,b,p,B,C,I,G,λf Y L q h i=>⟨f,p,b,E,a,z,h,i,J.mono q,d,λj N l O m n=>k j N l (q.trans O) m n⟩⟩
def lU(m:X.calm=true)(h:fw X es (ee X.K cm g))(o:autoParam ((assignEach es X.env).length=n) au0._auto_1)(d:autoParam ((assignEach es X.env).findIdx? (·.1)=none) au0._auto_1):Pg X cm (.Tuple es j b) (gTup n g):=
 uC (zp m h o d) λv B H Q p=>by
  obtain⟨q,A,e,x,a,s,u,w,y,i,k⟩:=p;cases x with
  | tup l=>
    obtain⟨c,f⟩:=B9 i;cases y with
    | tup z r=>exact⟨_,_,rfl,cD.of z,by rw[<-r.length];exact c,q,A,e,l,a,s,u,w,r,f,k⟩
  | _=>cases i
def gR:Ps X cm st sNever:=Q3 zl λD c H ⟨d,A,a,f,e,g,h,b,k⟩=>by cases b
def jI:eS X cm [] sPass:=nJ zg λD a H b=>by
 obtain⟨c,A,d,f,i,e,g,h,k⟩:=b;cases h;exact k c H (ax.refl _ _) e a g
def jJ(h:Ps X cm st s):eS X cm [st] s:=mS h
def BN(p:Ps X cm st s)(q:eS X cm rest r):eS X cm (st::rest) (au s r):=
 nJ (sW p q) λD L H u=>by
  obtain⟨w,A,g,f,x,y,z,B,k⟩:=u;obtain⟨o,m,C,a⟩:=B0 B;refine⟨w,A,g,o,m,y,z,C,λb n h c=>?_⟩;cases o with
  | nx i=>exact λe d=>⟨b,m,i,f,x,c,d,a,λj E G l=>k j E (h.trans G) l⟩
  | rt v=>cases a;exact λI J=>k b n h c I J
  | _=>cases a;exact λe d=>k b n h c e d
def jK(h:Pe X cm e d)(hs:autoParam (swapsWith e none a.line X.env=pure false) au0._auto_1):Ps X cm (.Expr e a) (aO d):=
 Q3 (sX h hs) λD m H n=>by
  obtain⟨o,A,b,f,p,q,j,r,k⟩:=n;obtain⟨x,w,s,c⟩:=B0 r;cases c;exact⟨o,A,b,x,p,q,j,s,λg u y l i v=>k g u l i m (j.mono l)⟩
def lV(h:Pe X cm e d):Ps X cm (.Return (some e) a) (aC d):=
 Q3 (zj h) λD w H l=>by
  obtain⟨m,A,b,f,n,o,p,q,k⟩:=l;obtain⟨x,y,r,c⟩:=B0 q;cases c;exact⟨m,A,b,x,n,o,p,r,λg s u v i j=>k g s v i u j⟩
def qk(v:Pt X cm c t)(w:eS X cm a s)(y:eS X cm b u):Ps X cm (.If c a b m) (br t s u):=
 Q3 (sY v w y) λD I H z=>by
  obtain⟨B,A,d,f,r,C,n,E,k⟩:=z;obtain⟨x,o,G,h⟩:=B0 E;refine⟨B,A,d,x,o,C,n,G,λi J l j=>?_⟩;cases x with
  | true=>exact⟨i,o,d,f,r,j,n.mono l,h,λe p q g=>k e p (l.trans q) g⟩
  | false=>exact⟨i,o,d,f,r,j,n.mono l,h,λe p q g=>k e p (l.trans q) g⟩
def uK{X:Cx}(he:∀σ H Q,cJ X.K cm d σ H Q->q σ H Q)(y:∀v σ H Q,kJ X.K cm g v σ H Q->r v σ H Q)(h:gA X.K cm (aD d g) D σ H):px q r D σ H:=by
 obtain⟨z,A,a,f,B,C,s,E,k⟩:=h;obtain⟨x,u,G,b⟩:=B0 E;obtain⟨c,N,I,e⟩:=B0 b;cases e;exact he _ _ _ ⟨z,A,a,x,u,C,s,G,λi O T w j l=>y _ _ _ _ ⟨i,u,a,x,c,B,j,s.mono w,l,I,λm J n L o p=>k m J (w.trans L) o n p⟩⟩
def lW(he:Pe X cm e d)(c:Pg X cm a g)(hs:autoParam (swapsWithSole [a] e b.line X.env=pure false) au0._auto_1)(f:autoParam (swappedStores [a] e X.env=pure none) au0._auto_1)
 (i:autoParam ((assignEach [a] X.env).map (·.2)=[assign a X.env]) au0._auto_1):Ps X cm (.Assign [a] e b) (aD d g):=
 Q3 (zt he c hs f i) λD j H h=>uK (λ_ _ _ z=>z) (λ_ _ _ _ z=>z) h
def lX(f:X.N.Nodup)(g:X.N[i]?=some x)(j:L2.Loc X.env.scope x)(he:Pe X cm e d)(hs:autoParam (swapsWith e (some (.Name x a)) b.line X.env=pure false) au0._auto_1)
 (l:autoParam (X.fn x=true\/X.env.scope.names.lookup x=some .local) au3._auto_1):Ps X cm (.Assign [.Name x a] e b) (aD d (gName i)):=
 Q3 (zu f g j he hs l) λD σ H h=>uK (λ_ _ _ z=>z) (λv σ H Q m=>by
  obtain⟨n,A,o,x,c,A',p,q,r,s,k⟩:=m;cases s;exact k n H _ (ax.refl _ _) p (q.set i r)) h
inductive aV (K:Lm) (cm:Nat->Addr) (f:Fun) (n:Nat) (vs:List V) (H:Hp) (Q:VK) (_E:L2.XK):Prop
 | mk (ρ:List Addr) (A:PHp) (ps:List PV) (v:PV) (A':PHp) (h0:aL K cm ρ A H) (h1:RVs ρ H ps vs) (h2:ps.length=n) (h3:f ps A=.ok v A') (h4:∀ρ' H' v',ax ρ H ρ' H'->aL K cm ρ' A' H'->RV ρ' H' v v'->Q v' H'):aV K cm f n vs H Q _E
def bR.start0(r:RVs b H ps vs):bR b H (Ws.start N.length ps) (L2.start N vs):=by
 have d:=r.length;refine⟨by unfold Ws.start L2.start;simp[d],λi p a=>?_⟩;unfold Ws.start at a;by_cases c:i<ps.length
 .rw[LG (by simpa using c),LL]at a;rcases e:ps[i]? with _ | q
  .rw[e]at a;cases a
  .rw[e]at a;cases a;obtain⟨v,f,g⟩:=r.get e;refine⟨v,?_,g⟩;unfold L2.start;rw[LG (by simp;symm),LL,f];rfl
 .rw[MB (by simpa using c),Sl]at a;split at a<;>cases a
def BO(F:L2.Fun K x b st f p)(S:R7 N ps (C4 st))
 (d:∀(c:Ll)(A:Mq)(a:List Env)(j:Ln)(H:Hp)(E:L2.XK),aN k (A.deeper (My b (C4 st) j.heap.objs.size f c))->
  bZ (v9 aR P w K mg base N b (C4 st) f c A a j H E).nox (G0 st) (gA K cm s)) :
 az P w K mg base aR (k+1) f p ps (aV K cm (fn N.length ps.length s) ps.length):=by
 refine F.ok S (λG H Q E ⟨q,A,r,v,A',y,l,z,_,_⟩=>by rw[<-l.length];exact z) λc A a j H G Q E I h=>⟨_,d c A a j H E I,?_⟩;obtain⟨q,B,r,v,B',y,l,z,J,k⟩:=h;obtain⟨_,m⟩:=B9 J;obtain⟨o,L,O,e⟩:=B0 m;refine⟨q,B,Ws.start _ r,o,L,y,bR.start0 l,O,λg C D i=>?_⟩;cases o with
 | nx T=>cases e;exact λU _=>k g C _ D i .non
 | rt u=>cases e;exact λY n=>k g C Y D i n
 | _=>cases e
section
variable{X:Cx}{cm:Nat->Addr}
def BP(r:∀o A v b,f o A=.ok v b->o.length=n)(h:cJ X.K cm (C8 f m) σ H Q):tE (aV X.K cm f n) [] E0 (gz X.K cm m) σ H Q:=by
 obtain⟨s,A,c,v,b,u,w,x,k⟩:=h;obtain⟨p,q,y,a⟩:=B0 x;refine⟨s,A,c,p,q,u,w,y,λd G z B e g=>?_⟩;rw[MM];exact⟨d,q,p,v,b,e,g,r _ _ _ _ a,a,λi C D E j l=>k i C D (B.trans E) j l⟩
def ql(h:fn n p s vs A=.ok v A'):vs.length=p:=(B9 h).1
def BQ(F:az X.prog X.w X.K X.mg X.base aR k b g ps (aV X.K cm f n))(l:∀j A v m,f j A=.ok v m->j.length=n)(o:aN k X.A)(q:Gl X x)(r:X.mg x=some (.ref b))(s:Od X.K (.ref b)=true)(u:L2.Binds X.K g ps [])
 (y:Pa X cm (e::es) i) (c:autoParam ((x == ("__debug__" : Str))=false) au1._auto_1) (he:autoParam (starEach (e::es) X.env=(false,eval e X.env)::starEach es X.env) au2._auto_1) (d:autoParam ((backTo a (starEach es X.env)).any (·.1)=false) au0._auto_1) :
 Pe X cm (.Call (.Name x p) (e::es) [] a) (C8 f i):=
 D4 (Ac F o q r s u .nil nc y c he d) λz H Q h=>BP l h
def uL(hn:∀vs A v y,f vs A=.ok v y->vs.length=n)(hm:∀i,i<19->cE i≠m)(h:cJ X.K cm (aQ c f d Y) σ H Q) :
 pK (cm c) m (aV X.K cm f n) [] E0 (cJ X.K cm d) (gz X.K cm Y) σ H Q:=by
 obtain⟨ρ,A,b,v,y,rl,rs,ev,k⟩:=h;obtain⟨x,A1,e1,e⟩:=B0 ev;refine⟨ρ,A,b,x,A1,rl,rs,e1,λB H1 v1 x1 g r=>?_⟩;cases x with
 | ref j=>
   obtain⟨o,A2,e2,C⟩:=B0 e;obtain⟨rfl,hA,a,dx,D,rfl,c0,hH,hp,hs⟩:=nL g r e2;obtain⟨hc,E⟩:=B9 C;obtain⟨xs,A3,e3,s⟩:=B0 E;subst hc;have G:D.lookup m=none:=by
    have I:∀(l:List (Str×V)),(∀z∈l.map (·.1),z≠m)->l.lookup m=none:=λl=>by
     induction l with
     | nil=>intro _;rfl
     | cons p q ih=>
       intro u;rw[QN,beq_eq_false_iff_ne.mpr (λz=>u p.1 (by simp) z.symm)];exact ih λz w=>u z (by simp at w ⊢;exact .inr w)
    refine I D λz u=>?_;rw[hp.keys]at u;obtain⟨q,hq,rfl⟩:=Lv.mp u;exact hm _ (hs q hq)
   refine⟨a,dx,D,rfl,hH,G,B,_,b,xs,A3,g,rs.mono x1,e3,λJ H2 d2 x2 L N=>?_⟩;rw[MM];exact⟨J,A3,.ref j::xs,v,y,L,.cons (r.mono x2) N,hn _ _ _ _ s,s,λO H3 v3 x3 T U=>k O H3 v3 ((x1.trans x2).trans x3) T U⟩
 | _=>cases e
def BR(x:Pe X cm o d)(y:dC X.K (cm c))(z:iz X.K (cm c) m p)
 (F:az X.prog X.w X.K X.mg X.base aR k p q ps (aV X.K cm f n)) (B:∀s A v C,f s A=.ok v C->s.length=n) (g:∀i,i<19->cE i≠m) (D:aN k X.A) (E:L2.Binds X.K q ps []) (G:Pa X cm (e::es) r)
 (j:autoParam (starEach (e::es) X.env=(false,eval e X.env)::starEach es X.env) au2._auto_1) (l:autoParam ((backTo a (starEach es X.env)).any (·.1)=false) au0._auto_1)
 (I:autoParam (eval (.Call (.Attribute o m b) (e::es) [] a) X.env=(do
  let ov <-eval o X.env
  standAt b.atName
  let(f,first) <-holding [ov] (getMethod ov m u)
  callWith a f first (backTo a (starEach (e::es) X.env)) (backToKw a (keywordEach [] X.env)))) au0._auto_1) :
 Pe X cm (.Call (.Attribute o m b) (e::es) [] a) (aQ c f d r):=
 D4 (Ad x y z F D E .nil nc G j l I) λJ H Q h=>uL B g h
def BS(U:c<7)(Y:∀I A v i,f I A=.ok v i->I.length=n/\v=.non)(h:cJ X.K cm (iD c f G) σ H Q):tF (cm c) (aV X.K cm f n) [] E0 (gz X.K cm G) σ H Q:=by
 obtain⟨ρ,A,j,v,i,rl,rs,ev,k⟩:=h;obtain⟨J,l,e1,m⟩:=B0 ev;obtain⟨x,A2,e2,o⟩:=B0 m;cases e2;obtain⟨u,A3,L,p⟩:=B0 o;cases p;refine⟨ρ,A,j,J,l,rl,rs,e1,λa q a6 x1 b r x g hx d s=>?_⟩;rw[MM];have w:ax a q a (aB q g (.own x)):=ax.same d;have y:=b.grow w (M9 d);have e:aB q g (.own x) x=none:=by rw[aj (Na s)];exact hx
 have N:ax a _ _ (aB _ x (.ins (cm c) g [])):=ax.new e;have z:aL X.K cm _ (l++[.ins c []]) _:=y.alloc e ⟨⟨U,by simp⟩,g,[],C2,⟨rfl,.nil⟩⟩ rfl;have O:(a++[x])[l.length]?=some x:=by rw[<-b.len];simp
 obtain⟨B,rfl⟩:=Y _ _ _ _ L;refine⟨a++[x],_,.ref _::J,.non,i,z,.cons (.ref O) ((r.mono w).mono N),B,L,λC H4 v4 T D E=>?_⟩;cases E;exact⟨rfl,k C H4 _ (((x1.trans w).trans N).trans T) D (.ref (nH T.pre O))⟩
def BU(m:c<7)(Mk:L2.Mk X.K (cm c) g)(F:az X.prog X.w X.K X.mg X.base aR k g i ps (aV X.K cm f n))(o:∀l A v q,f l A=.ok v q->l.length=n/\v=.non)(r:aN (k+1) X.A)
 (s:Gl X x) (u:X.mg x=some (.ref (cm c))) (y:L2.Binds X.K i ps []) (z:Pa X cm (e::es) j) (b:autoParam ((x == ("__debug__" : Str))=false) au1._auto_1) (he:autoParam (starEach (e::es) X.env=(false,eval e X.env)::starEach es X.env) au2._auto_1) (d:autoParam ((backTo a (starEach es X.env)).any (·.1)=false) au0._auto_1) :
 Pe X cm (.Call (.Name x p) (e::es) [] a) (iD c f j):=
 D4 (Ag Mk F r s u y .nil nc z b he d) λB H Q h=>BS m o h
noncomputable def qm(K:Lm)(a:Addr):L2.It:=
 ⟨λi H=>∃b x,bx K H a b/\b[i]?=some x,λi H x c=>∃y p,(∀b,bx K H a b->b[i]?=some y)/\H p=none/\x=.ref p/\c=aB H p (.tup [.int i,y]),λi H=>∃b,bx K H a b/\b.length<=i⟩
noncomputable def BV(K:Lm)(k:Nat)(a:Addr):L2.It:=
 ⟨λi H=>∃b x,bx K H a b/\b[i]?=some x,λi H x c=>∃y p,(∀b,bx K H a b->b[i]?=some y)/\H p=none/\x=.ref p/\c=aB H p (.tup [.int ((k+i:Nat):Int),y]),λi H=>∃b,bx K H a b/\b.length<=i⟩
noncomputable def BW(vs:List V):L2.It:=⟨λi _=>i<vs.length,λi H x a=>a=H/\vs[i]?=some x,λi _=>vs.length<=i⟩
def eT(k:Bool)(K:Lm)(H:Hp)(a:Addr)(b:List V):Prop:=match k with
 | true=>cD K H a b
 | false=>bx K H a b
noncomputable def kindOf:PV->Bool
 | .tup _=>true
 | _=>false
noncomputable def qp(K:Lm)(e f:Bool)(a b:Addr):L2.It:=
 ⟨λi H=>∃c d x y,eT e K H a c/\eT f K H b d/\c[i]?=some x/\d[i]?=some y,
  λi H v g=>∃x y p,(∀c,eT e K H a c->c[i]?=some x)/\(∀d,eT f K H b d->d[i]?=some y)/\H p=none/\v=.ref p/\g=aB H p (.tup [x,y]),
  λi H=>∃c d,eT e K H a c/\eT f K H b d/\(c.length<=i\/d.length<=i)⟩
def Z1(g:aL K cm c A H)(r:RV c H x v)(h:O7 x A=.ok l A'):A'=A/\∃a b,v=.ref a/\eT (kindOf x) K H a b/\RVs c H l b:=by
 cases x with
 | ref n=>
   obtain⟨e,a,b,d,f,i⟩:=N0 g r h;exact⟨e,a,b,d,f,i⟩
 | tup m=>
   cases h;cases r with
   | tup d f=>exact⟨rfl,_,_,rfl,cD.of d,f⟩
 | _=>cases h
def iL(K:Lm)(c:List Addr)(H:Hp):It->L2.It->Prop
 | .rng lo n,j=>j=mV lo n
 | .lst m,j=>∃a,c[m]?=some a/\j=mT K a
 | .tup l,j=>∃a d,H a=some (.tup d)/\RVs c H l d/\j=mU K a
 | .enm m,j=>∃a,c[m]?=some a/\j=qm K a
 | .fix l,j=>∃d,RVs c H l d/\j=BW d
 | .zip x y,j=>∃a b,RV c H x (.ref a)/\RV c H y (.ref b)/\j=qp K (kindOf x) (kindOf y) a b
 | .enk k m,j=>∃a,c[m]?=some a/\j=BV K k a
def iL.mono(h:iL K m H J j)(e:ax m H f H'):iL K f H' J j:=by
 cases J with
 | rng lo n=>exact h
 | tup l=>obtain⟨a,g,c,d,i⟩:=h;exact⟨a,g,e.tup _ _ c,d.mono e,i⟩
 | fix l=>obtain⟨g,c,d⟩:=h;exact⟨g,c.mono e,d⟩
 | zip x y=>obtain⟨a,b,c,d,i⟩:=h;exact⟨a,b,c.mono e,d.mono e,i⟩
 | _=>obtain⟨a,c,d⟩:=h;exact⟨a,nH e.pre c,d⟩
inductive EvI (K:Lm) (cm:Nat->Addr) (d:ID) (σ:L2.St) (H:Hp) (R:L2.It->Hp->Prop):Prop
 | mk (ρ:List Addr) (A:PHp) (σp:PSt) (J:It) (A':PHp) (h0:aL K cm ρ A H) (h1:bR ρ H σp σ) (h2:d σp A=.ok J A') (h3:∀ρ' H' j,ax ρ H ρ' H'->aL K cm ρ' A' H'->iL K ρ' H' J j->R j H'):EvI K cm d σ H R
def qr(K:Lm)(cm:Nat->Addr)(a:List Addr)(A:PHp)(H:Hp)(j:L2.It)(i:Nat):Option PV->Prop
 | none=>j.stop i H
 | some v=>j.go i H/\∀y b,j.yld i H y b->ax a H a b/\aL K cm a A b/\RV a b v y
def uM(g:aL K cm L A H)(G:iL K L H J j)(e:item J i A=.ok x A') :
 A'=A/\qr K cm L A H j i x:=by
 cases J with
 | rng lo n=>
   cases e;cases G;refine⟨rfl,?_⟩;by_cases h:i<n
   .show qr K cm L A H _ i (if i<n then some (PV.int (lo+i)) else none);rw[if_pos h];refine⟨h,λy N o=>?_⟩;obtain⟨w,B⟩:=o;subst w;subst B;exact⟨ax.refl _ _,g,.int _⟩
   .show qr K cm L A H _ i (if i<n then some (PV.int (lo+i)) else none);rw[if_neg h];exact Nat.le_of_not_lt h
 | fix l=>
   cases e;obtain⟨O,r,rfl⟩:=G;refine⟨rfl,?_⟩;rcases c:l[i]? with _ | v
   .show O.length<=i;rw[<-r.length];exact MV.mp c
   .obtain⟨u,d,q⟩:=r.get c;refine⟨(LA.mp d).1,λy N ⟨C,s⟩=>?_⟩;subst C;rw[d]at s;cases s;exact⟨ax.refl _ _,g,q⟩
 | zip x y=>
   obtain⟨a,b,ra,rb,rfl⟩:=G;obtain⟨l,A1,w,B⟩:=B0 e;obtain⟨rfl,a',f,h1,Q,r1⟩:=Z1 g ra w;cases h1;obtain⟨m,A2,C,s⟩:=B0 B;obtain⟨rfl,b',T,I,U,r2⟩:=Z1 g rb C;cases I;cases s;refine⟨rfl,?_⟩;rcases c:l[i]? with _ | u
   .exact⟨f,T,Q,U,.inl (by rw[<-r1.length];exact MV.mp c)⟩
   .rcases hj:m[i]? with _ | v
    .exact⟨f,T,Q,U,.inr (by rw[<-r2.length];exact MV.mp hj)⟩
    .obtain⟨u',d,ru⟩:=r1.get c;obtain⟨v',hv,q⟩:=r2.get hj;refine⟨⟨f,T,u',v',Q,U,d,hv⟩,λz N o=>?_⟩;obtain⟨x',y',p,Y,g2,g3,g4,g5⟩:=o;have Y:=Y f Q;have g2:=g2 T U;rw[d]at Y;cases Y;rw[hv]at g2;cases g2;subst g4;subst g5;exact⟨ax.same g3,g.tup g3,.tup C2 (.cons (ru.mono (ax.same g3)) (.cons (q.mono (ax.same g3)) .nil))⟩
 | lst m=>
   obtain⟨a,D,rfl⟩:=G;obtain⟨l,A1,w,B⟩:=B0 e;obtain⟨rfl,b,f,hb,E,r⟩:=N0 g (.ref D) w;cases hb;cases B;refine⟨rfl,?_⟩;rcases c:l[i]? with _ | v
   .exact⟨f,E,by rw[<-r.length];exact MV.mp c⟩
   .obtain⟨u,d,q⟩:=r.get c;refine⟨⟨f,u,E,d⟩,λy N o=>?_⟩;obtain⟨C,s⟩:=o;subst C;have:=s f E;rw[d]at this;cases this;exact⟨ax.refl _ _,g,q⟩
 | tup l=>
   obtain⟨a,O,D,r,rfl⟩:=G;cases e;refine⟨rfl,?_⟩;rcases c:l[i]? with _ | v
   .exact⟨O,cD.of D,by rw[<-r.length];exact MV.mp c⟩
   .obtain⟨u,d,q⟩:=r.get c;refine⟨⟨O,u,cD.of D,d⟩,λy N o=>?_⟩;obtain⟨C,s⟩:=o;subst C;have:=s O (cD.of D);rw[d]at this;cases this;exact⟨ax.refl _ _,g,q⟩
 | _=>
   obtain⟨a,D,rfl⟩:=G;obtain⟨l,A1,w,B⟩:=B0 e;obtain⟨rfl,b,f,hb,E,r⟩:=N0 g (.ref D) w;cases hb;cases B;refine⟨rfl,?_⟩;rcases c:l[i]? with _ | v
   .exact⟨f,E,by rw[<-r.length];exact MV.mp c⟩
   .obtain⟨u,d,q⟩:=r.get c;refine⟨⟨f,u,E,d⟩,λy N o=>?_⟩;obtain⟨y',p,I,h3,h4,h5⟩:=o;have I:=I f E;rw[d]at I;cases I;subst h4;subst h5;exact⟨ax.same h3,g.tup h3,.tup C2 (.cons (.int _) (.cons (q.mono (ax.same h3)) .nil))⟩
def qs(h:i0 J A=.ok n A'):A'=A:=by
 have b:∀a,ao (E7 a) (λl=>ret l.length) A=.ok n A'->A'=A:=λa h=>by
  obtain⟨l,f,c,e⟩:=B0 h;cases e;unfold E7 at c;rcases d:A[a]? with _ | o
  .rw[d]at c;cases c
  .cases o<;>rw[d]at c<;>cases c<;>rfl
 cases J with
 | lst m=>exact b m h
 | enm m=>exact b m h
 | enk k m=>exact b m h
 | zip x y=>
   cases x with
   | ref n=>
     exact b n h
   | tup l=>cases h;rfl
   | _=>cases h
 | _=>cases h;rfl
def lY(hp:Tf (model X.prog X.w) X.A X.env X.xe)(hc:X.calm=true)(hi:L2.PI X tg iter (EvI X.K cm it))(hg:Pg X cm tg g)(hb:eS X cm C b)
 (hs:∀x,foldedSetIterable iter X.env x=pure x:=by intro _;rfl):Ps X cm (.For tg iter C [] a8) (fz it g b):=
 Q3 (zF hp hc hi hg hb hs) λD σ H hq=>by
  obtain⟨ρ,A,Q,f,A',rl,rs,ev,k⟩:=hq;obtain⟨J,A1,e1,a9⟩:=B0 ev;obtain⟨n,A2,e2,b0⟩:=B0 a9;obtain rfl:=qs e2;refine⟨ρ,A,Q,J,A2,rl,rs,e1,λE H1 j x1 b1 rj=>?_⟩;refine⟨λi m G T=>∃d B a,ax E H1 d T/\aL X.K cm d B T/\bR d T a G/\Z0 J g b (m+1) i a B=.ok f A',⟨n,E,A2,Q,ax.refl _ _,b1,rs.mono x1,b0⟩,?_⟩;rintro i m G T ⟨d,B,a,x2,U,Y,a0⟩;rw[T1]at a0;obtain⟨x,B1,e3,a1⟩:=B0 a0;obtain⟨rfl,I⟩:=uM U (rj.mono x2) e3;cases x with
  | none=>
    cases a1;exact .inl ⟨I,k d T (x1.trans x2) U G Y⟩
  | some v=>
    refine .inr ⟨I.1,λa2 O=>∃e B3 c,ax E H1 e O/\aL X.K cm e B3 O/\bR e O c a2/\Z0 J g b m (i+1) c B3=.ok f A',?_,λy O hy=>?_⟩
    .rintro a2 O ⟨e,B3,c,x3,L,b3,h⟩;cases m with
     | zero=>rw[ug]at h;cases h
     | succ m=>exact⟨m,Nh _,e,B3,c,x3,L,b3,h⟩
    .obtain⟨x3,L,b5⟩:=I.2 y O hy;obtain⟨a3,B4,e4,h⟩:=B0 a1;obtain⟨o,B5,e5,p⟩:=B0 h;refine⟨d,B1,a,v,a3,B4,L,Y.mono x3,b5,e4,λc1 H4 h0 x4 c2 c3=>⟨c1,B4,a3,o,B5,c2,c3,e5,λq H5 x5 r=>?_⟩⟩;have s:=(((x2.trans x3).trans x4).trans x5);cases o with
     | nx z=>exact λN l=>⟨q,B5,z,s,r,l,p⟩
     | ct z=>exact λN l=>⟨q,B5,z,s,r,l,p⟩
     | bk z=>cases p;exact λN l=>k q H5 (x1.trans s) r N l
     | rt u=>cases p;exact λv' c4=>k q H5 (x1.trans s) r v' c4
def gS(hp:Tf (model X.prog X.w) X.A X.env X.xe)(hc:Pt X cm c t)(hb:eS X cm q b):Ps X cm (.While c q [] N) (lE t b):=
 Q3 (zw hp hc hb) λD σ H hq=>by
  obtain⟨O,A,Q,f,A',rl,rs,ev,k⟩:=hq;refine⟨λm s J=>∃e B a,ax O H e J/\aL X.K cm e B J/\bR e J a s/\i3 t b m a B=.ok f A',⟨LIM,O,A,Q,ax.refl _ _,rl,rs,ev⟩,?_⟩;rintro m s J ⟨e,B,a,x1,T,v,i⟩;cases m with
  | zero=>rw[Bp]at i;cases i
  | succ m=>
    rw[uh]at i;obtain⟨x,B1,e1,C⟩:=B0 i;refine⟨e,B,a,x,B1,T,v,e1,λE H2 L G=>?_⟩;cases x with
    | false=>
      cases C;exact k E H2 (x1.trans L) G s (v.mono L)
    | true=>
      obtain⟨o,U,e2,j⟩:=B0 C;refine⟨λI y=>∃d B3 r,ax O H d y/\aL X.K cm d B3 y/\bR d y r I/\i3 t b m r B3=.ok f A',λI y h=>⟨m,Nh _,h⟩,E,B1,a,o,U,G,v.mono L,e2,λd y x3 l=>?_⟩;have n:=(x1.trans L).trans x3;cases o with
      | nx p=>exact λz g=>⟨d,U,p,n,l,g,j⟩
      | ct p=>exact λz g=>⟨d,U,p,n,l,g,j⟩
      | bk p=>cases j;exact λz g=>k d y n l z g
      | rt u=>cases j;exact λv' Y=>k d y n l v' Y
def uN(h:L2.PI X c iter t)(k:∀a H R,t' a H R->t a H R):L2.PI X c iter t':=λb s a H R I q=>h b s a H R I (k a H R q)
def jL(n:Gl X "range")(o:X.mg "range" = none)(q:Pe X cm a d)(hs:autoParam (starEach [a] X.env=[(false,eval a X.env)]) au0._auto_1):L2.PI X m (.Call (.Name "range" p) [a] [] e) (EvI X.K cm (iRng1 d)):=
 uN (zC n o (aP q bq hs) hs) λI H R r=>by
  obtain⟨s,A,f,J,L,u,v,w,k⟩:=r;obtain⟨x,y,z,b⟩:=B0 w;refine⟨s,A,f,[x],y,u,v,by show ao _ _ A=_;rw[ay z];rfl,λg B C D h j=>?_⟩;cases x with
  | int i=>
    obtain⟨c,l⟩:=B9 b;cases l;cases j with
    | cons E G=>cases G;cases E;exact⟨i,rfl,c.1,c.2,k g B _ D h rfl⟩
  | _=>cases b
def BX(K:Lm)(d:TE):L2.TI:=λe H R=>d e H λx b=>(∃a,x=.ref a/\(∃c,bx K b a c)/\R (mT K a) b)\/(∃a,x=.ref a/\(∃c,cD K b a c)/\R (mU K a) b)
def BY(w:PE X l m):L2.PI X u l (BX X.K m):=by
 intro f s y H R I h;refine aI (w f s y H _ I h) λv d z=>?_;obtain⟨x,n,c,r,A⟩:=z;rcases A with⟨a,e,⟨B,g⟩,q⟩ | ⟨a,e,⟨B,g⟩,q⟩
 .subst e;cases r;obtain⟨i,C,p,D⟩:=c.list g;refine Ow p.isList ?_;refine⟨d.heap.objs.size,[d.heap.objs.size],_,_,n,rfl,c.kept λb o e=>L3 _ e,sZ a _,⟨_,Lq _ rfl,rfl,rfl⟩,λb j=>?_,q⟩;have e:b=d.heap.objs.size:=by simpa using j
  subst e;exact c.fpOk (Lp _) (c.hok.fresh (Lp _))
 .subst e;cases r;obtain⟨i,C,p,D⟩:=c.tuple g;refine OP (show d.heap.IsTuple a _ from p) ?_;refine⟨d.heap.objs.size,[d.heap.objs.size],_,_,n,rfl,c.kept λb o e=>L3 _ e,tf a _,⟨_,Lq _ rfl,rfl,rfl⟩,λb j=>?_,q⟩;have e:b=d.heap.objs.size:=by simpa using j
  subst e;exact c.fpOk (Lp _) (c.hok.fresh (Lp _))
def lZ(p:Pe X cm l d):L2.PI X o l (EvI X.K cm (bI d)):=uN (BY p) λG H R q=>by
 obtain⟨s,A,g,J,I,u,v,w,k⟩:=q;obtain⟨x,y,z,b⟩:=B0 w;refine⟨s,A,g,x,y,u,v,z,λf i L j c e=>?_⟩;cases x with
 | ref n=>
   obtain⟨l,N,B,h⟩:=B0 b;obtain⟨rfl,a,C,rfl,D,r⟩:=N0 c e B;cases h;cases e with
   | ref E=>exact .inl ⟨a,rfl,⟨C,D⟩,k f i _ j c ⟨a,E,rfl⟩⟩
 | tup l=>
   cases b;cases e with
   | tup m r=>exact .inr ⟨_,rfl,⟨_,cD.of m⟩,k f i _ j c ⟨_,_,m,r,rfl⟩⟩
 | _=>cases b
end
def RV.uniq(h:RV ρ H x v)(h':RV ρ H y v)(n:n0 x=true)(g:n0 y=true):x=y:=
 RV.rec (motive_1:=λx v _=>∀y,RV ρ H y v->n0 x=true->n0 y=true->x=y) (motive_2:=λl i _=>∀m,RVs ρ H m i->nices l=true->nices m=true->l=m)
  (λ_ h _ _=>by cases h;rfl) (λ_ _ _ n _=>by cases n) (λ_ _ h _ _=>by cases h;rfl) (λ_ _ h _ _=>by cases h;rfl)
  (λj _ ih _ h b a=>by
   cases h with
   | tup c d=>
     rw[j]at c;cases c;rw[ih _ d b a]
   | ref c=>cases a) (λ_ _ _ n _=>by cases n) (λ_ h _ _=>by cases h;rfl)
  (λ_ _ e f _ h b a=>by
   cases h with
   | cons c d=>
     simp only[nices,LH]at b a;rw[e _ c b.1 a.1,f _ d b.2 a.2]) h _ h' n g
def RVs.uniq(h:RVs ρ H l vs)(h':RVs ρ H m vs)(n:nices l=true)(c:nices m=true):l=m:=
 RVs.ind (M:=λl vs=>∀m,RVs ρ H m vs->nices l=true->nices m=true->l=m) (λ_ h _ _=>by cases h;rfl)
  (λd _ ih _ h a b=>by
   cases h with
   | cons e f=>
     simp only[nices,LH]at a b;rw[RV.uniq d e a.1 b.1,ih _ f a.2 b.2]) h _ h' n c
theorem nN:∀{l m:List PV},l.length≠m.length->eqvs l m=false
 | [],[],h=>absurd rfl h
 | [],_::_,_=>rfl
 | _::_,[],_=>rfl
 | x::a,y::b,h=>by
   have:a.length≠b.length:=by simpa using h
   simp[eqvs,nN this]
theorem nO:∀{l m:List PV},l.length=m.length->eqvs l m=(Mo l.length).all λj=>bJ (l.getD j .non) (m.getD j .non)
 | [],[],_=>rfl
 | [],_::_,h=>by simp at h
 | _::_,[],h=>by simp at h
 | x::a,y::b,h=>by
   have e:a.length=b.length:=by simpa using h
   rw[Me,SX,Qg,List.all_map];simp only[eqvs,nO e];rfl
def qt:eqvs l m=((Mo (min l.length m.length)).all (λj=>bJ (l.getD j .non) (m.getD j .non))&&l.length == m.length):=by
 by_cases h:l.length=m.length
 .rw[nO h,h];simp
 .rw[nN h,beq_eq_false_iff_ne.mpr h,Bool.and_false]
section
variable{X:Cx}{pins:List (Addr×Obj)}{σ:L2.St}{H:Hp}{s:Ln}{ρ:List Addr}{A:Mq}
open PySem.SeqAt
def nP(d:RV ρ H x a)(f:RV ρ H y b)(i:f8 x=true)(j:f8 y=true)(g:L2.RelV a u)(h:L2.RelV b v):EqAt A s u v (bJ x y):=by
 have c:=AB (A:=A) (s:=s) g h (by cases d<;>simp_all [mZ]) (by cases f<;>simp_all [mZ]);have e:pO a b=bJ x y:=by
  cases d<;>cases f<;>simp_all [pO,bJ]<;>(try (exact(QE _ _)))
 rw[<-e];exact c
def qu(I:L2.Inv X pins σ H s)(D:H a=some (.tup vs))(o:H b=some (.tup ws))(p:RVs ρ H l vs)(q:RVs ρ H m ws)(r:l.all f=true)(E:m.all f=true)(w:∀x,f x=true->n0 x=true)(Y:A.units<cLine)
 (ih:∀x y G J u v,RV ρ H x G->RV ρ H y J->f x=true->f y=true->L2.RelV G u->L2.RelV J v->EqAt A.in1 s u v (bJ x y)) :
 (a≠b->RcAt A s (.ref a) (.ref b) (eqvs l m))/\RcAt A s (.ref a) (.ref b) (eqvs l m)/\EqAt A s (.ref a) (.ref b) (eqvs l m):=by
 obtain⟨_,g,z,pi⟩:=I.hok a _ D;obtain⟨_,c,d,B⟩:=I.hok b _ o;have C:RcAt A s (.ref a) (.ref b) (eqvs l m):=by
  have h:=RcAt.tuples (e:=λj=>bJ (l.getD j .non) (m.getD j .non)) pi B Y (λj L N=>by
   have l1:j<vs.length:=by rw[z.length];exact L
   have l2:j<ws.length:=by rw[d.length];exact N
   obtain⟨x,O,rx⟩:=p.get' (i:=j) (v:=vs[j]) (by simp);obtain⟨y,Q,ry⟩:=q.get' (i:=j) (v:=ws[j]) (by simp);obtain⟨u,T,ru⟩:=z.get (i:=j) (x:=vs[j]) (by simp);obtain⟨v,U,rv⟩:=d.get (i:=j) (x:=ws[j]) (by simp);have d1:l.getD j .non=x:=by rw[LU,O];rfl
   have d2:m.getD j .non=y:=by rw[LU,Q];rfl
   have q1:g.toArray[j]=u:=by
    rw[LB L]at T;simpa using Mf T
   have q2:c.toArray[j]=v:=by
    rw[LB N]at U;simpa using Mf U
   rw[d1,d2,q1,q2];exact ih x y _ _ u v rx ry (LV.mp r x (Mm O)) (LV.mp E y (Mm Q)) ru rv)
  rw[qt];have z1:g.toArray.size=l.length:=by rw[LF,<-z.length,p.length]
  have z2:c.toArray.size=m.length:=by rw[LF,<-d.length,q.length]
  rw[z1,z2]at h;exact h
 refine⟨λ_=>C,C,?_⟩;by_cases n:a=b
 .subst n;rw[D]at o;cases o;have e:=RVs.uniq p q (U7 w l r) (U7 w m E);subst e;rw[(eqvs_nice l l (U7 w l r)).mpr rfl];exact EqAt.same _
 .exact EqAt.of_refs n C
def P6(I:L2.Inv X pins σ H s)(w:RV ρ H x p)(z:RV ρ H y q)(c:A.units<cLine)(d:L2.RelV p u)(e:L2.RelV q v)
 (h:(∃l,x=.tup l/\f8 y=true)\/(∃m,y=.tup m/\f8 x=true)):EqAt A s u v (bJ x y)/\RcAt A s u v (bJ x y)/\PB A s u v (!bJ x y):=by
 rcases h with⟨l,rfl,f⟩ | ⟨m,rfl,g⟩
 .cases w with
  | tup j r=>
    obtain⟨_,n,B,a⟩:=I.hok _ _ j;cases d;cases z with
    | non=>cases e;exact⟨EqAt.tuple_none a c,RcAt.tuple_none a c,PB.tuple_none a c⟩
    | int i=>obtain⟨t,rfl⟩:=e;exact⟨EqAt.tuple_int _ _ a c,RcAt.tuple_int _ _ a c,PB.tuple_int _ _ a c⟩
    | str i=>obtain⟨t,rfl⟩:=e;exact⟨EqAt.tuple_str _ _ a c,RcAt.tuple_str _ _ a c,PB.tuple_str _ _ a c⟩
    | bl b=>simp at f
    | tup o C=>simp at f
    | ref o=>simp at f
 .cases z with
  | tup j r=>
    obtain⟨_,n,B,a⟩:=I.hok _ _ j;cases e;cases w with
    | non=>cases d;exact⟨EqAt.none_tuple a c,RcAt.none_tuple a c,PB.none_tuple a c⟩
    | int i=>obtain⟨t,rfl⟩:=d;exact⟨EqAt.int_tuple _ _ a c,RcAt.int_tuple _ _ a c,PB.int_tuple _ _ a c⟩
    | str i=>obtain⟨t,rfl⟩:=d;exact⟨EqAt.str_tuple _ _ a c,RcAt.str_tuple _ _ a c,PB.str_tuple _ _ a c⟩
    | bl b=>simp at g
    | tup o C=>simp at g
    | ref o=>simp at g
def N2(A:Mq)(n:Nat)(h:A.units+(n+1)<cLine):A.in1.units+n<cLine:=by
 show _+1+n<cLine;symm
def BZ(I:L2.Inv X pins σ H s)(A:Mq)(z:A.units+1<cLine)(x y:PV)(e f:V)(u v:Ll)(a:RV ρ H x e)(b:RV ρ H y f)(g:iB x=true)(h:iB y=true)(c:L2.RelV e u)(d:L2.RelV f v):EqAt A s u v (bJ x y):=by
 cases x with
 | tup l=>
   cases y with
   | tup m=>
     cases a with
     | tup i j=>
       cases b with
       | tup n o=>
         cases c;cases d;exact(qu I i n j o g h lF (by symm) (λx y e f u v a b p q r w=>nP a b p q r w)).2.2
   | _=>exact(P6 I a b (by symm) c d (.inl ⟨_,rfl,h⟩)).1
 | _=>
   cases y with
   | tup m=>exact(P6 I a b (by symm) c d (.inr ⟨_,rfl,g⟩)).1
   | _=>exact nP a b g h c d
def uO(I:L2.Inv X pins σ H s)(A:Mq)(z:A.units+2<cLine)(x y:PV)(c d:V)(u v:Ll)(a:RV ρ H x c)(b:RV ρ H y d)(g:Y8 x=true)(h:Y8 y=true)(e:L2.RelV c u)(f:L2.RelV d v):EqAt A s u v (bJ x y):=by
 cases x with
 | tup l=>
   cases y with
   | tup m=>
     cases a with
     | tup i j=>
       cases b with
       | tup n o=>
         cases e;cases f;exact(qu I i n j o g h uq (by symm) (λx y c d u v a b p q r w=>BZ I _ (N2 A 1 (by symm)) x y c d u v a b p q r w)).2.2
   | _=>exact(P6 I a b (by symm) e f (.inl ⟨_,rfl,h⟩)).1
 | _=>
   cases y with
   | tup m=>exact(P6 I a b (by symm) e f (.inr ⟨_,rfl,g⟩)).1
   | _=>exact nP a b g h e f
def qv(I:L2.Inv X pins σ H s)(A:Mq)(z:A.units+3<cLine)(x y:PV)(c d:V)(u v:Ll)(a:RV ρ H x c)(b:RV ρ H y d)(g:plain x=true)(h:plain y=true)(e:L2.RelV c u)(f:L2.RelV d v):EqAt A s u v (bJ x y):=by
 cases x with
 | tup l=>
   cases y with
   | tup m=>
     cases a with
     | tup i j=>
       cases b with
       | tup n o=>
         cases e;cases f;exact(qu I i n j o g h ur (by symm) (λx y c d u v a b p q r w=>uO I _ (N2 A 2 (by symm)) x y c d u v a b p q r w)).2.2
   | _=>exact(P6 I a b (by symm) e f (.inl ⟨_,rfl,h⟩)).1
 | _=>
   cases y with
   | tup m=>exact(P6 I a b (by symm) e f (.inr ⟨_,rfl,g⟩)).1
   | _=>exact nP a b g h e f
end
end Ws
namespace Ws
open PySem PySem.SeqAt L2
section
variable{X:Cx}{cm:Nat->Addr}{pins:List (Addr×Obj)}{σ:L2.St}{H:Hp}{s:Ln}{ρ:List Addr}{A:Mq}
def uP(h:RV ρ H x f)(b:RV ρ H y g)(l:f8 x=true)(c:f8 y=true)(d:L2.RelV f u)(a:L2.RelV g v):RcAt A s u v (bJ x y)/\PB A s u v (!bJ x y):=by
 have m:∀(i j:Int),(i == j)=decide _:=λi j=>by rw[QE]
 have n:∀(i j:Str),(i == j)=decide _:=λi j=>by rw[QE]
 cases h with
 | non=>
   cases d;cases b with
   | non=>cases a;exact⟨RcAt.none_none,PB.none_none⟩
   | int i=>obtain⟨t,rfl⟩:=a;exact⟨RcAt.none_int _ _,PB.none_int _ _⟩
   | str i=>obtain⟨t,rfl⟩:=a;exact⟨RcAt.none_str _ _,PB.none_str _ _⟩
   | _=>simp at c
 | int i=>
   obtain⟨t,rfl⟩:=d;cases b with
   | non=>cases a;exact⟨RcAt.int_none _ _,PB.int_none _ _⟩
   | int j=>obtain⟨e,rfl⟩:=a;exact⟨RcAt.int_int _ _ _ _,PB.int_int _ _ _ _⟩
   | str j=>obtain⟨e,rfl⟩:=a;exact⟨RcAt.int_str _ _ _ _,PB.int_str _ _ _ _⟩
   | _=>simp at c
 | str i=>
   obtain⟨t,rfl⟩:=d;cases b with
   | non=>cases a;exact⟨RcAt.str_none _ _,PB.str_none _ _⟩
   | int j=>obtain⟨e,rfl⟩:=a;exact⟨RcAt.str_int _ _ _ _,PB.str_int _ _ _ _⟩
   | str j=>obtain⟨e,rfl⟩:=a;exact⟨RcAt.str_str _ _ _ _,PB.str_str _ _ _ _⟩
   | _=>simp at c
 | _=>simp at l
def qw(w:RVs ρ H l vs)(z:RVs ρ H m ws)(g:aA vs b)(c:aA ws a)(B:l.all f=true)(C:m.all f=true)
 (ih:∀x y h n u v,RV ρ H x h->RV ρ H y n->f x=true->f y=true->L2.RelV h u->L2.RelV n v->EqAt A s u v (bJ x y)) :
 ∀j (d:j<b.toArray.size) (e:j<a.toArray.size),EqAt A s b.toArray[j] a.toArray[j] (bJ (l.getD j .non) (m.getD j .non)):=λj d e=>by
 have Q:j<vs.length:=by rw[g.length];exact d
 have l2:j<ws.length:=by rw[c.length];exact e
 obtain⟨x,o,D⟩:=w.get' (i:=j) (v:=vs[j]) (by simp);obtain⟨y,p,E⟩:=z.get' (i:=j) (v:=ws[j]) (by simp);obtain⟨u,q,G⟩:=g.get (i:=j) (x:=vs[j]) (by simp);obtain⟨v,r,I⟩:=c.get (i:=j) (x:=ws[j]) (by simp);have J:l.getD j .non=x:=by rw[LU,o];rfl
 have L:m.getD j .non=y:=by rw[LU,p];rfl
 have N:b.toArray[j]=u:=by
  rw[LB d]at q;simpa using Mf q
 have O:a.toArray[j]=v:=by
  rw[LB e]at r;simpa using Mf r
 rw[J,L,N,O];exact ih x y _ _ u v D E (LV.mp B x (Mm o)) (LV.mp C y (Mm p)) G I
def jM(K:Lm)(g:Bool->Bool):R2:=λd e H Q=>∃(ρ:List Addr),
 (∃x y,RV ρ H x d/\RV ρ H y e/\plain x=true/\plain y=true/\Q (.bl (g (bJ x y))) H)\/(∃b c,d=.bl b/\e=.bl c/\Q (.bl (g (b == c))) H)\/
 (∃a b l m f h,d=.ref a/\e=.ref b/\bx K H a f/\bx K H b h/\RVs ρ H l f/\RVs ρ H m h/\G6 l=true/\G6 m=true/\Q (.bl (g (eqvs l m))) H)
def uQ(hr:X.A.units+64<cLine)(I:L2.Inv X pins σ H s)(o:L2.RelV w u)(p:L2.RelV z v)(h:jM X.K g w z H Q):∃b,RcAt X.A s u v b/\PB X.A s u v (!b)/\Q (.bl (g b)) H:=by
 obtain⟨ρ,h⟩:=h;rcases h with⟨x,y,f,i,T,U,q⟩ | ⟨b,c,rfl,rfl,q⟩ | ⟨a,b,l,m,xs,ys,rfl,rfl,B,C,J,L,p1,p2,q⟩
 .refine⟨bJ x y,?_,?_,q⟩<;>
  (cases x with
  | tup l=>
    cases y with
    | tup m=>
      cases f with
      | tup ha J=>
        cases i with
        | tup hb L=>
          cases o;cases p;obtain⟨_,D,N,E⟩:=I.hok _ _ ha;obtain⟨_,n,j,e⟩:=I.hok _ _ hb;have r:D.toArray.size=l.length:=by rw[LF,<-N.length,J.length]
          have G:n.toArray.size=m.length:=by rw[LF,<-j.length,L.length]
          have O:=qw J L N j (show l.all Y8=true from T) (show m.all Y8=true from U) (λx y w z u v f i B C Y u2=>uO I _ (N2 X.A 2 (by symm)) x y w z u v f i B C Y u2);first
           | (have h:=RcAt.tuples E e (by symm) O
              rw[r,G,<-qt]at h;exact h)
           | (have h:=PB.tuples E e (by symm) O
              rw[r,G,<-qt]at h;exact h)
    | _=>first | exact(P6 I f i (by symm) o p (.inl ⟨_,rfl,U⟩)).2.1 | exact(P6 I f i (by symm) o p (.inl ⟨_,rfl,U⟩)).2.2
  | _=>
    cases y with
    | tup m=>first | exact(P6 I f i (by symm) o p (.inr ⟨_,rfl,T⟩)).2.1 | exact(P6 I f i (by symm) o p (.inr ⟨_,rfl,T⟩)).2.2
    | _=>first | exact(uP f i T U o p).1 | exact(uP f i T U o p).2)
 .cases o;cases p;exact⟨b == c,RcAt.bool_bool _ _,PB.bool_bool _ _,q⟩
 .cases o;cases p;obtain⟨D,N,E,_⟩:=I.list B;obtain⟨n,j,e,_⟩:=I.list C;have r:D.toArray.size=l.length:=by rw[LF,<-N.length,J.length]
  have G:n.toArray.size=m.length:=by rw[LF,<-j.length,L.length]
  refine⟨eqvs l m,?_,?_,q⟩
  .by_cases d:l.length=m.length
   .have O:=qw J L N j p1 p2 (λx y w z u v f i B C Y u2=>qv I _ (N2 X.A 3 (by symm)) x y w z u v f i B C Y u2);have h:=RcAt.lists E.isList e.isList (by rw[r,G,d]) (by symm) O;rw[r,<-nO d]at h;exact h
   .rw[nN d];exact RcAt.lists_lengths E.isList e.isList (by rw[r,G];exact bne_iff_ne.mpr d) (by symm)
  .by_cases d:l.length=m.length
   .have O:=qw J L N j p1 p2 (λx y w z u v f i B C Y u2=>qv I _ (N2 X.A 3 (by symm)) x y w z u v f i B C Y u2);have h:=PB.lists E.isList e.isList (by rw[r,G,d]) (by symm) O;rw[r,<-nO d]at h;exact h
   .rw[nN d];exact PB.lists_lengths E.isList e.isList (by rw[r,G];exact bne_iff_ne.mpr d) (by symm)
def fV(a:X.A.units+64<cLine):cb X (compareOp .Eq) (jM X.K id):=by
 intro pins s σ H x y v u Q I c d q;obtain⟨b,e,_,f⟩:=uQ a I c d q;exact e _ _ _ _ ⟨.bl b,H,I,rfl,f⟩
def fW(a:X.A.units+64<cLine):cb X (compareOp .NotEq) (jM X.K not):=by
 intro pins s σ H x y v u Q I c d q;obtain⟨b,_,e,f⟩:=uQ a I c d q;exact e _ _ _ _ ⟨.bl _,H,I,rfl,f⟩
def nQ(u:aL X.K cm ρ B H)(d:RV ρ H x j)(e:RV ρ H y o)(h:lC x y B=.ok b i)(q:Q (.bl (g b)) H):i=B/\jM X.K g j o H Q:=by
 have f:∀x y,RV ρ H x j->RV ρ H y o->D5 (uf x y=true\/(plain x=true/\plain y=true)) (ret (bJ x y)) B=.ok b i->i=B/\jM X.K g j o H Q:=λx y d e h=>by
  obtain⟨c,h⟩:=B9 h;cases h;refine⟨rfl,ρ,?_⟩;rcases c with c | c
  .cases x with
   | bl v=>
     cases y with
     | bl w=>cases d;cases e;exact .inr (.inl ⟨v,w,rfl,rfl,q⟩)
     | _=>simp at c
   | _=>simp at c
  .exact .inl ⟨x,y,d,e,c.1,c.2,q⟩
 cases x with
 | ref n=>
   cases y with
   | ref k=>
     obtain⟨l,T,z,C⟩:=B0 h;obtain⟨rfl,a,D,rfl,E,r⟩:=N0 u d z;obtain⟨m,U,G,I⟩:=B0 C;obtain⟨rfl,J,L,rfl,p,N⟩:=N0 u e G;obtain⟨c,O⟩:=B9 I;cases O;exact⟨rfl,ρ,.inr (.inr ⟨a,J,l,m,D,L,rfl,rfl,E,p,r,N,c.1,c.2,q⟩)⟩
   | _=>exact f _ _ d e h
 | _=>cases y<;>exact f _ _ d e h
def iM:S6 X.K cm ck (jM X.K id):=λρ B H x y z j l m Q a d e h k=>by
 obtain⟨b,n,f,c⟩:=B0 h;cases c;have i:=(nQ (g:=id) (Q:=λ_ _=>True) a d e f trivial).1;subst i;exact(nQ a d e f (k ρ H _ (ax.refl _ _) a (.bl b))).2
def iN:S6 X.K cm cQ (jM X.K not):=λρ B H x y z j l m Q a d e h k=>by
 obtain⟨b,n,f,c⟩:=B0 h;cases c;have i:=(nQ (g:=not) (Q:=λ_ _=>True) a d e f trivial).1;subst i;exact(nQ a d e f (k ρ H _ (ax.refl _ _) a (.bl _))).2
def nR(K:Lm)(b:Bool):R2:=λd e H Q=>∃(ρ:List Addr)(x:PV)(a:Addr)(l:List PV)(c:List V),RV ρ H x d/\e=.ref a/\(bx K H a c\/cD K H a c)/\RVs ρ H l c/\plain x=true/\G6 l=true/\Q (.bl (if b then !dc x l else dc x l)) H
def qx(ρ:List Addr)(H:Hp)(x:PV)(u:Ll):Bool:=@decide (∃y a,L2.RelV a u/\RV ρ H y a/\plain y=true/\bJ y x=true) (OH _)
def uR(b:L2.RelV a u)(c:RV ρ H y a)(d:plain y=true):qx ρ H x u=bJ y x:=by
 cases e:bJ y x with
 | true=>exact@decide_eq_true _ (OH _) ⟨y,a,b,c,d,e⟩
 | false=>
   refine@decide_eq_false _ (OH _) λg=>?_;obtain⟨z,l,h,i,j,f⟩:=g;have:=h.inj b;subst this;have:=RV.uniq i c (c6 _ j) (c6 _ d);subst this;rw[e]at f;cases f
def nS(h:RVs ρ H l b)(h':aA b c)(p:G6 l=true):c.any (qx ρ H x)=dc x l:=by
 induction h' generalizing l with
 | nil=>cases h;rfl
 | cons h' _ ih=>
   cases h with
   | cons h r=>
     have a:=p;unfold G6 at a;rw[Qg,LH]at a;rw[Pd,uR h' h a.1,ih r a.2];rfl
def nT(I:L2.Inv X pins σ H s)(A:Mq)(b:A.units+3<cLine)(g:RV ρ H x d)(i:plain x=true)(j:L2.RelV d v)(h:RVs ρ H l e)(h':aA e f)(p:G6 l=true):∀u∈f,EqAt A s u v (qx ρ H x u):=by
 induction h' generalizing l with
 | nil=>exact λu b=>nomatch b
 | cons h' _ ih=>
   cases h with
   | cons h r=>
     intro u c;have a:=p;unfold G6 at a;rw[Qg,LH]at a;rcases Lu.mp c with rfl | c
     .rw[uR h' h a.1];exact qv I A b _ _ _ _ _ _ h g a.1 i h' j
     .exact ih r a.2 u c
def fX(p:X.A.units+64<cLine):cb X (compareOp .In) (nR X.K false):=by
 intro pins s σ H x y v u Q I i n h;obtain⟨ρ,z,a,l,B,j,rfl,b,r,m,d,q⟩:=h;cases n;rcases b with b | b
 .obtain⟨e,c,f,o⟩:=I.list b;refine in_listAt _ f.isList (λw g=>nT I _ (N2 X.A 3 (by symm)) j m i r c d w (by simpa using g)) ⟨.bl _,H,I,rfl,?_⟩;rw[QP,nS r c d];exact q
 .obtain⟨e,c,f,o⟩:=I.tuple b;refine in_tupleAt _ f (λw g=>nT I _ (N2 X.A 3 (by symm)) j m i r c d w (by simpa using g)) ⟨.bl _,H,I,rfl,?_⟩;rw[QP,nS r c d];exact q
def eU(p:X.A.units+64<cLine):cb X (compareOp .NotIn) (nR X.K true):=by
 intro pins s σ H x y v u Q I i n h;obtain⟨ρ,z,a,l,B,j,rfl,b,r,m,d,q⟩:=h;cases n;rcases b with b | b
 .obtain⟨e,c,f,o⟩:=I.list b;refine notIn_listAt _ f.isList (λw g=>nT I _ (N2 X.A 3 (by symm)) j m i r c d w (by simpa using g)) ⟨.bl _,H,I,rfl,?_⟩;rw[QP,nS r c d];exact q
 .obtain⟨e,c,f,o⟩:=I.tuple b;refine notIn_tupleAt _ f (λw g=>nT I _ (N2 X.A 3 (by symm)) j m i r c d w (by simpa using g)) ⟨.bl _,H,I,rfl,?_⟩;rw[QP,nS r c d];exact q
def iO:S6 X.K cm dv (nR X.K false):=λρ B H x y z n o p Q e f g h k=>by
 obtain⟨l,q,i,b⟩:=B0 h;obtain⟨rfl,a,j,rfl,m,r⟩:=i7 e g i;obtain⟨c,d⟩:=B9 b;cases d;exact⟨ρ,x,a,l,j,f,rfl,m,r,c.1,c.2,k ρ H _ (ax.refl _ _) e (.bl _)⟩
def fY:S6 X.K cm bt (nR X.K true):=λρ B H x y z n o p Q e f g h k=>by
 obtain⟨l,q,i,b⟩:=B0 h;obtain⟨rfl,a,j,rfl,m,r⟩:=i7 e g i;obtain⟨c,d⟩:=B9 b;cases d;exact⟨ρ,x,a,l,j,f,rfl,m,r,c.1,c.2,k ρ H _ (ax.refl _ _) e (.bl _)⟩
noncomputable def ma:Ty->String
 | .int=>"int"
 | .bool=>"bool"
 | .tuple=>"tuple"
 | .list=>"list"
structure nU(K:Lm):Prop where
 t (a b:String) (ha:a∈["NoneType","bool","int","str","list","tuple"]) (hb:b∈["int","bool","tuple","list"]):PySem.W.kitOne K (.type a) (.type b)=some (a == b||(a == "bool"&&b == "int"))
def Ca(K:Lm)(t:Ty):List V->Hp->VK->Prop:=λb H Q=>∃v a,b=[v,.ty (ma t)]/\a∈["NoneType","bool","int","str","list","tuple"]/\eN K H v (.type a)/\Q (.bl (a == ma t||(a == "bool"&&ma t == "int"))) H
def Cb(a:nU X.K)(t:Ty):bc X (.builtin "isinstance") (Ca X.K t):=by
 intro pins s σ H i j Q I r h;obtain⟨v,d,rfl,e,b,q⟩:=h;obtain⟨u,w,rfl,f,c⟩:=pH r;cases c;exact zY I f b (a.t d _ e (by cases t<;>simp[ma])) λg=>⟨.bl _,H,I.tok g,rfl,q⟩
def nV(y:nU X.K)(he:Pe X cm e d)(O:Gl X "isinstance")(T:X.mg "isinstance" = none)(B:Gl X j)(C:X.mg j=none)(D:bootBuiltins j=some (.type (ma t)))
 (hs:autoParam (starEach [e,.Name j m] X.env=(false,eval e X.env)::starEach [.Name j m] X.env) au2._auto_1) (E:autoParam (starEach [LQ j m] X.env=(false,eval (.Name j m) X.env)::starEach [] X.env) au2._auto_1) (U:autoParam ((backTo w (starEach [LQ j m] X.env)).any (·.1)=false) au0._auto_1)
 (N:autoParam (j≠"__name__") au1._auto_1) (G:autoParam ((j == ("__debug__" : Str))=false) au1._auto_1) :
 Pe X cm (.Call (.Name "isinstance" p) [e,.Name j m] [] w) (fy d t):=
 D4 (Y6 (Cb y t) O T Ra (v8 he (v8 (yK (v:=.ty _) B C D rfl N G) pJ E) hs) (he:=hs)) λσ H Q Y=>by
  obtain⟨ρ,A,I,v,A',rl,rs,ev,k⟩:=Y;obtain⟨x,A1,e1,J⟩:=B0 ev;obtain⟨b,A2,o,L⟩:=B0 J;cases L;refine⟨ρ,A,I,x,A1,rl,rs,e1,λg q v1 u f h=>?_⟩;cases x with
  | non=>cases h;cases t<;>cases o<;>exact⟨_,"NoneType",rfl,by simp,.non,k g q _ u f (.bl _)⟩
  | bl c=>cases h;cases t<;>cases o<;>exact⟨_,"bool",rfl,by simp,.bl c,k g q _ u f (.bl _)⟩
  | int i=>cases h;cases t<;>cases o<;>exact⟨_,"int",rfl,by simp,.int i,k g q _ u f (.bl _)⟩
  | str z=>cases h;cases t<;>cases o<;>exact⟨_,"str",rfl,by simp,.str z,k g q _ u f (.bl _)⟩
  | tup l=>
    cases h with
    | tup ha r=>cases t<;>cases o<;>exact⟨_,"tuple",rfl,by simp,.tup ha,k g q _ u f (.bl _)⟩
  | ref n=>
    cases t<;>
    (obtain⟨l,A3,e3,e4⟩:=B0 o
     obtain⟨rfl,hA,a,xs,rfl,N,hH,r⟩:=K4 f h e3;cases e4;exact⟨_,"list",rfl,by simp,.lst hH,k g q _ u f (.bl _)⟩)
end
end Ws
namespace Ws
open PySem L2
def s9{fp:List Addr}(I:L2.Inv X a σ H s)(i:∀b∈fp,d7 X a H b)
 (k:∀b u,b∉fp->s.heap.get? b=some u->h'.get? b=some u) (j:s.heap.objs.size<=T) (new:aF X.prog X.w (aB H T o) h' T o):L2.Inv X a σ (aB H T o) { s with heap:=h',toks:=t' }:=by
 have f:=I.hok.fresh j;have neT:∀b u,s.heap.get? b=some u->b≠T:=λb u e=>Ly (LI (Lr e) j);have g:∀b u,H b=some u->b∉fp:=λb u e z=>by rw[(i b z).1]at e;cases e
 refine I.step (λb h=>?_) (λb u _ _ d e _=>k b u d e) (λb u _ _ d e _=>⟨u.slots,k b u d e⟩) (λb u d e n=>by rw[aj (neT b u e)];exact n) (λb u d e=>⟨u,k b u d e⟩)
  (λb x e=>by rw[aj (E8 e f)];exact e) (λb u x e=>by rw[aj (E8 e f)];exact e) (λb N e=>⟨#[],by rw[aj (E8 e f),e];simp⟩) (λm A=>?_) (λb u e=>?_) I.bare
 .obtain⟨_,B,_,C,D,E⟩:=i b h;exact⟨C,B,D,E⟩
 .obtain⟨y,G,J,L,r⟩:=A;exact⟨y,G,J,k _ y (λz=>(i _ z).2.1 rfl) L,r⟩
 .by_cases h:b=T
  .subst h;rw[C2]at e;cases e;exact new
  .rw[aj h]at e;refine(I.hok b u e).stay (λc v d q=>k c v ?_ q) (λc q=>by rw[aj (E8 q f)];exact q) λc x q=>by rw[aj (E8 q f)];exact q
   rcases d with rfl | d
   .exact g c u e
   .exact g c _ d
def qy{fp:List Addr}(I:L2.Inv X a σ H s)(g:∀b∈fp,d7 X a H b)
 (k:∀b u,b∉fp->s.heap.get? b=some u->h'.get? b=some u):L2.Inv X a σ H { s with heap:=h',toks:=t' }:=by
 have f:∀b u,H b=some u->b∉fp:=λb u e z=>by rw[(g b z).1]at e;cases e
 refine I.step (λb o=>?_) (λb u _ _ d e _=>k b u d e) (λb u _ _ d e _=>⟨u.slots,k b u d e⟩) (λb u d e n=>n) (λb u d e=>⟨u,k b u d e⟩)
  (λb j e=>e) (λb u j e=>e) (λb E e=>⟨#[],by rw[e];simp⟩) (λm p=>?_) (λb u e=>?_) I.bare
 .obtain⟨_,w,_,x,y,A⟩:=g b o;exact⟨x,w,y,A⟩
 .obtain⟨l,B,C,D,r⟩:=p;exact⟨l,B,C,k _ l (λz=>(g _ z).2.1 rfl) D,r⟩
 .refine(I.hok b u e).stay (λc v d q=>k c v ?_ q) (λc q=>q) λc j q=>q;rcases d with rfl | d
  .exact f c u e
  .exact f c _ d
def Cc(a e it:Addr)(hei:e≠it):je P w K (.Tuple elts x1 pos) (qm K a) [e,it] e (λi h=>(∃old,IsEnum h e it i old)/\h.IsListIter it a i) where
 mem:=by simp
 obj:=λi h st b hb=>by
  obtain⟨⟨old,he⟩,o,e1,c,d⟩:=st;rcases Lu.mp hb with rfl | hb
  .exact⟨_,he,λv z=>by cases z⟩
  .have e2:b=it:=by simpa using hb
   subst e2;exact⟨o,e1,λv z=>by rw[d]at z;cases z⟩
 keep:=λi h h' st k=>by
  obtain⟨⟨old,he⟩,hit⟩:=st;exact⟨⟨old,k e (by simp) _ he⟩,hit.at λo x=>k it (by simp) o x⟩
 item:=by
  intro X hP hw hK hc i pins s σ H E I hf st hg;subst hP hw hK;obtain⟨xs,x,hq,hx⟩:=hg;obtain⟨its,rv,p,hz⟩:=I.list hq;obtain⟨u,hu,ru⟩:=rv.get hx;obtain⟨⟨old,he⟩,hit⟩:=st;have el:=Lr he;refine wpAny_pyNext_enum_item he hit p.isList (by simpa using hu) hei λh' ho hit' hT hsz hk=>?_;refine⟨.ref _,rfl,wpAny_letOwnedTupleGo_enum ho λh2 he2 hs2=>?_⟩;have sb:∀b u,b≠e->h'.get? b=some u->h2.get? b=some u:=λb u hb q=>(hs2.2 b hb).trans q;have hTe:=Nx el;have I2:L2.Inv X pins σ (aB H s.heap.objs.size (.tup [.int i,x])) { s with heap:=h2,toks:=s.toks+1 }:=by
   refine s9 I hf (λb u hb q=>?_) (Lp _) ?_
   .have h1:b≠e:=λz=>hb (by simp[z]);have h2:b≠it:=λz=>hb (by simp[z]);exact sb b u h1 (hk b u h1 h2 q)
   .exact⟨by show 2<=sizeLine;decide,[.int i _,u],.cons ⟨_,rfl⟩ (.cons ru .nil),_,sb _ _ hTe hT,rfl,_,rfl⟩
  refine⟨.ref _,aB H _ _,I2,rfl,⟨x,_,λys hy=>by rw[I.list_inj hy hq];exact hx,I.hok.fresh (Lp _),rfl,rfl⟩,⟨⟨u,by exact_mod_cast he2⟩,hit'.at λo y=>sb it o hei.symm y⟩,λb hb=>?_⟩
  .rw[aj]
   .exact(hf b hb).1
   .rcases Lu.mp hb with rfl | hb
    .exact hTe.symm
    .have e2:b=it:=by simpa using hb
     subst e2;obtain⟨_,y,_⟩:=hit;exact Ly (Lr y)
 done:=by
  intro X hP hw hK hc i pins s σ H E I hf st hg;subst hP hw hK;obtain⟨xs,hq,hx⟩:=hg;obtain⟨its,rv,p,hz⟩:=I.list hq;obtain⟨⟨old,he⟩,hit⟩:=st;have hl:=rv.length;exact wpAny_pyNext_enum_end (I.ok.hd hc) he hit p.isList (by simp;symm) λh' eb=>⟨rfl,qy I hf λb u hb q=>eb b u (λz=>hb (by simp[z])) q⟩
 self:=λ_ _ _ _ _ st h=>by
  obtain⟨⟨old,he⟩,_⟩:=st;exact wpAny_pyIter_enum he h
def md(Y:Gl X "enumerate")(hm:X.mg "enumerate" = none)(hl:Pe X cm l d)(hs:autoParam (starEach [l] X.env=(false,eval l X.env)::starEach [] X.env) au2._auto_1):L2.PI X (.Tuple f B g) (.Call (.Name "enumerate" p) [l] [] i) (EvI X.K cm (fL d)):=by
 intro j s σ H R I h;obtain⟨ρ,A,C,J,A',rl,rs,ev,k⟩:=h;obtain⟨x,A1,e1,o⟩:=B0 ev;refine PyProof.Rows.Call_ (S8 I Y hm PyProof.Rows.boot_enumerate (OV (aI ((aP hl bq hs) i j s σ H (λQ c=>∃a y,Q=[.ref a]/\bx X.K c a y/\R (qm X.K a) c) I ⟨ρ,A,C,[x],A1,rl,rs,by show ao _ _ A=_;rw[ay e1];rfl,λD c a9 B v E=>?_⟩) λus e zq=>?_) hs rfl))
 .cases x with
  | ref n=>
    obtain⟨m,A2,e2,G⟩:=B0 o;cases E with
    | cons T hr=>
      cases hr;obtain⟨rfl,a,y,rfl,L,r⟩:=N0 v T e2;cases G;cases T with
      | ref hn=>exact⟨a,y,rfl,L,k D c _ B v ⟨a,hn,rfl⟩⟩
  | _=>cases o
 .obtain⟨Q,c,z,r1,q1⟩:=zq;obtain⟨a,y,rfl,L,q⟩:=q1;obtain⟨u,rfl,rx⟩:=d8 r1;cases rx;obtain⟨c2,rv,pl,hz⟩:=z.list L;refine call_enumerate_list pl.isList λh' U N c4 kp=>?_;refine wpAny_pyIter_enum U ?_;have I2:=z.kept (t':=e.toks) kp;refine⟨e.heap.objs.size+1,[e.heap.objs.size+1,e.heap.objs.size],_,_,c,rfl,I2,Cc a _ _ (Nat.succ_ne_self _),⟨⟨_,U⟩,N⟩,λb O=>?_,q⟩;have w:e.heap.objs.size<=b:=by
   rcases Lu.mp O with rfl | O
   .simp
   .have:b=e.heap.objs.size:=by simpa using O
    exact Th this.symm
  exact z.fpOk w (z.hok.fresh w)
structure bS(P:LK)(w:Mv)(K:Lm)(mg:Str->Option Ll)(base:Heap)(cm:Nat->Addr)(x:Str)(k:Nat)(ps:List Str)(f:Fun)(n:Nat):Prop where
 ex:∃(fa:Addr)(fd:LN),az P w K mg base aR k fa fd ps (aV K cm f n)/\mg x=some (.ref fa)/\Od K (.ref fa)=true/\L2.Binds K fd ps []
 len:∀vs A v A',f vs A=.ok v A'->vs.length=n
structure i8(P:LK)(w:Mv)(K:Lm)(mg:Str->Option Ll)(base:Heap)(cm:Nat->Addr)(c:Nat)(m:Str)(k:Nat)(ps:List Str)(f:Fun)(n:Nat):Prop where
 ex:∃(fa:Addr)(fd:LN),az P w K mg base aR k fa fd ps (aV K cm f n)/\iz K (cm c) m fa/\L2.Binds K fd ps []
 len:∀vs A v A',f vs A=.ok v A'->vs.length=n
structure me(P:LK)(w:Mv)(K:Lm)(mg:Str->Option Ll)(base:Heap)(cm:Nat->Addr)(c:Nat)(x:Str)(k:Nat)(ps:List Str)(f:Fun)(n:Nat):Prop where
 ex:∃(fa:Addr)(fd:LN),az P w K mg base aR k fa fd ps (aV K cm f n)/\L2.Mk K (cm c) fa/\mg x=some (.ref (cm c))/\L2.Binds K fd ps []
 len:∀vs A v A',f vs A=.ok v A'->vs.length=n/\v=.non
def uS(D:bS X.prog X.w X.K X.mg X.base cm x k ps f n)(i:k<=g)(j:aN g X.A)(l:Gl X x)
 (m:Pa X cm (e::es) h) (b:autoParam ((x == ("__debug__" : Str))=false) au1._auto_1) (he:autoParam (starEach (e::es) X.env=(false,eval e X.env)::starEach es X.env) au2._auto_1) (c:autoParam ((backTo a (starEach es X.env)).any (·.1)=false) au0._auto_1) :
 Pe X cm (.Call (.Name x p) (e::es) [] a) (C8 f h):=by
 obtain⟨r,s,F,o,d,q⟩:=D.ex;exact BQ F D.len (j.mono i) l o d q m b he c
def Cd(D:i8 X.prog X.w X.K X.mg X.base cm c m k ps f n)(r:k<=l)(s:aN l X.A)(u:dC X.K (cm c))(v:Pe X cm o d)(x:Pa X cm (e::es) p)(g:∀i,i<19->cE i≠m)
 (h:autoParam (starEach (e::es) X.env=(false,eval e X.env)::starEach es X.env) au2._auto_1) (j:autoParam ((backTo a (starEach es X.env)).any (·.1)=false) au0._auto_1)
 (y:autoParam (eval (.Call (.Attribute o m b) (e::es) [] a) X.env=(do
  let ov <-eval o X.env
  standAt b.atName
  let(f,first) <-holding [ov] (getMethod ov m q)
  callWith a f first (backTo a (starEach (e::es) X.env)) (backToKw a (keywordEach [] X.env)))) au0._auto_1) :
 Pe X cm (.Call (.Attribute o m b) (e::es) [] a) (aQ c f d p):=by
 obtain⟨C,E,F,z,B⟩:=D.ex;exact BR v u z F D.len g (s.mono r) B x h j y
def Ce(D:me X.prog X.w X.K X.mg X.base cm c x k ps f n)(i:k+1<=g)(j:aN g X.A)
 (l:Gl X x) (m:Pa X cm (e::es) h) (b:autoParam ((x == ("__debug__" : Str))=false) au1._auto_1) (he:autoParam (starEach (e::es) X.env=(false,eval e X.env)::starEach es X.env) au2._auto_1) (d:autoParam ((backTo a (starEach es X.env)).any (·.1)=false) au0._auto_1) (o:autoParam (c<7) au1._auto_1) :
 Pe X cm (.Call (.Name x p) (e::es) [] a) (iD c f h):=by
 obtain⟨u,v,F,q,r,s⟩:=D.ex;exact BU o q F D.len (j.mono i) l r s m b he d
def jN(c:Gl X x)(b:∃t,X.mg x=some (.int i t))(d:autoParam ((x == ("__debug__" : Str))=false) au1._auto_1):Pe X cm (.Name x a) (eK (.int i)):=by
 obtain⟨t,b⟩:=b;exact kK (pw c b (show L2.RelV (.int i) _ from⟨t,rfl⟩) d) λ_ _=>.int i
structure H8(K:Lm)(mg:Str->Option Ll)(cm:Nat->Addr):Prop where
 kit:nU K
 cls:∀c,c<7->dC K (cm c)
 na:∀c i,i<19->c<7->bM K (cm c) (cE i)
 b_len:mg "len" = none
 b_range:mg "range" = none
 b_list:mg "list" = none
 b_sorted:mg "sorted" = none
 b_isinstance:mg "isinstance" = none
 b_int:mg "int" = none
 b_bool:mg "bool" = none
 b_tuple:mg "tuple" = none
 b_enumerate:mg "enumerate" = none
 b_reversed:mg "reversed" = none
 b_max:mg "max" = none
 b_min:mg "min" = none
 b_all:mg "all" = none
 b_any:mg "any" = none
 b_set:mg "set" = none
 b_zip:mg "zip" = none
 b_dict:mg "dict" = none
section
variable{prog:LK}{w:Mv}{A:Mq}{R:Uy->Ln->Prop}{s:Ln}
abbrev uT(b:List Expr)(a:Env):Sem Bool:=forIn b true λc r=>if r=true then do let ok <-isTrue c a (eval c a);pure (ForInStep.yield ok) else pure (ForInStep.yield r)
def Cf{q a iter:Expr}{u:List Expr}{p:Si}{G:Pos}{H y:Ll}{e:Env}(I:Nat->Ln->Prop)
 (z:∀n s,I n s->wpAny (model prog w) A (pyNext H) (λr b=>match r with
  | none=>R (.ok .next) b
  | some v=>wpAny (model prog w) A (letOwnedTupleGo a H v) (λ_ f=>wpAny (model prog w) A (assign a e v) (λ_ g=>
   wpAny (model prog w) A (uT u e) (λok c=>
    if ok=true then wpAny (model prog w) A (eval q e) (λx i=>
     wpAny (model prog w) A (call (.builtin "list.append") [y,x]) (λ_ j=>∃m,m<n/\I m j) (λ_ _=>False) i) (λ_ _=>False) c
    else ∃m,m<n/\I m c) (λ_ _=>False) g) (λ_ _=>False) f) (λ_ _=>False) b) (λ_ _=>False) s)
 (n:Nat) (h:I n s):codeAny (model prog w) A (.compLoop (.ListComp q [⟨a,iter,u,0⟩] p G) 0 H y e) R s:=by
 refine codeAny_loop rfl I (λn s J=>?_) n h;show wpAny _ A _ _ _ s;refine wpAny_noted ?_;rw[compTurn_list];refine L0 (Rb (L0 (Mp (z n s J) (λr b l=>?_) λ_ _ d=>d.elim)));cases r with
 | none=>exact Lk l
 | some v=>
   refine L0 (Mp l (λ_ f B=>?_) λ_ _ d=>d.elim);refine L0 (Mp B (λ_ g C=>L0 (Mp C (λok c o=>?_) λ_ _ d=>d.elim)) λ_ _ d=>d.elim);cases ok with
   | false=>exact Lk ⟨rfl,o⟩
   | true=>
     exact L0 (L0 (Mp o (λx i D=>L0 (Mp D (λ_ j E=>Lk (Lk ⟨rfl,E⟩)) λ_ _ d=>d.elim)) λ_ _ d=>d.elim))
end
noncomputable def eV(X:Cx)(N:List Str)(scope:Si)(cl:List (Str×Addr))(C:Addr)(s₀:Ln)(H₀:Hp)(fp:List Addr):Cx where
 prog:=X.prog
 w:=X.w
 K:=X.K
 mg:=X.mg
 base:=X.base
 A:=X.A
 N:=N
 s₀:=s₀
 H₀:=H₀
 env:=compEnvC scope cl C X.env
 outer:=X.stack
 stack:=X.stack
 ex:=fp
 fn:=λ_=>false
 calm:=X.calm
 pn:=[]
 xe:=λ_ _=>False
inductive bh (X:Cx) (scope:Si) (cl:List (Str×Addr)):List Str->List (Option Nat)->Prop where
 | nil:bh X scope cl [] []
 | own {x:Str} {N:List Str} {js:List (Option Nat)} (h:bh X scope cl N js):bh X scope cl (x::N) (none::js)
 | free {x:Str} {j:Nat} {N:List Str} {js:List (Option Nat)} (h1:X.N[j]?=some x) (h2:X.env.kindOf x=some .cell\/X.env.kindOf x=some .free) (h3:jd X.env.scope x) (h4:cl.lookup x=X.env.cells.lookup x) (h5:(relabel scope X.env).names.lookup x=some .cell\/(relabel scope X.env).names.lookup x=some .free) (h:bh X scope cl N js):bh X scope cl (x::N) (some j::js)
def bh.len(h:bh X a c N b):b.length=N.length:=by
 induction h with
 | nil=>rfl
 | own _ ih=>exact congrArg (·+ 1) ih
 | free _ _ _ _ _ _ ih=>exact congrArg (·+ 1) ih
def bh.get{i j:Nat}(h:bh X f m N n)(g:N[i]?=some x)(l:n[i]?=some (some j)):X.N[j]?=some x/\(X.env.kindOf x=some .cell\/X.env.kindOf x=some .free)/\jd X.env.scope x/\m.lookup x=X.env.cells.lookup x/\((relabel f X.env).names.lookup x=some .cell\/(relabel f X.env).names.lookup x=some .free):=by
 induction h generalizing i with
 | nil=>cases g
 | own _ ih=>
   cases i with
   | zero=>cases l
   | succ i=>exact ih g l
 | free a b c d e _ ih=>
   cases i with
   | zero=>cases g;cases l;exact⟨a,b,c,d,e⟩
   | succ i=>exact ih g l
def uU{c:Type}{σ:List (Option c)}{i:Nat}{v:c}(h:(cw b σ)[i]?=some (some v)):∃j,b[i]?=some (some j)/\σ[j]?=some (some v):=by
 unfold cw at h;rw[LL]at h;rcases e:b[i]? with _ | (_ | j)
 .rw[e]at h;cases h
 .rw[e]at h;cases h
 .rw[e]at h;refine⟨j,rfl,?_⟩;have a:σ.getD j none=some v:=Mf h;rw[LU]at a;rcases d:σ[j]? with _ | o
  .rw[d]at a;cases a
  .rw[d]at a;exact congrArg some a
def bR.bst(h:bR b H a σ)(c:List (Option Nat)):bR b H (Ws.cw c a) (Ws.cw c σ):=by
 refine⟨by simp[Ws.cw],λi p d=>?_⟩;obtain⟨j,e,f⟩:=uU d;obtain⟨v,g,l⟩:=h.get j p f;refine⟨v,?_,l⟩;unfold Ws.cw;rw[LL,e];show some (σ.getD j none)=_;rw[LU,g];rfl
structure mf(X:Cx)(scope:Si)(cl:List (Str×Addr)):Prop where
 kind:scope.kind=.function
 clos:closureFor scope X.env=pure cl
 nocell:∀y∈scope.names,y.2≠.cell
 names:∀y∈scope.names,y.2=.local->scope.names.lookup y.1=some .local
 sub:∀p∈cl,X.env.cells.lookup p.1=some p.2
 has:∀y∈scope.names,y.2=.free->(cl.lookup y.1).isSome=true
def Cg(S:mf X a f)(h:(relabel a X.env).names.lookup x=some .cell\/(relabel a X.env).names.lookup x=some .free):∃c,f.lookup x=some c:=by
 have d:∀k,(x,k)∈(relabel a X.env).names->k=.cell\/k=.free->∃c,f.lookup x=some c:=λk j l=>by
  obtain⟨⟨n,m⟩,g,e⟩:=Lv.mp j;dsimp only at e;have b:n=x/\m=.free:=by
   split at e
   .rename_i i;cases e;simp only[LH,beq_iff_eq]at i;exact⟨rfl,i.1.1⟩
   .cases e;rcases l with rfl | rfl
    .exact absurd rfl (S.nocell _ g)
    .simp
  obtain⟨rfl,rfl⟩:=b;exact RT.mp (S.has _ g rfl)
 rcases h with h | h
 .exact d _ (Nc h) (.inl rfl)
 .exact d _ (Nc h) (.inr rfl)
def Ci(S:mf X a r)(Fr:bh X a r N J)(I:L2.Inv X pins σ H s)(l:∀b∈fp,d7 X pins H b)(w:∀b∈fp,b<s.heap.objs.size)
 (A:s.heap.objs.size<=C) (L:∀b u,s.heap.get? b=some u->h'.get? b=some u) (B:h'.Ns C m):L2.Inv (eV X N a r C s H fp) [] (Ws.cw J σ) H { s with heap:=h',toks:=t' }:=by
 have D:L2.Inv X pins σ H { s with heap:=h',toks:=t' }:=I.kept L;have sub:=λx c e=>S.sub (x,c) (Nc e);refine⟨⟨I.ok.mod,S.kind,I.ok.glob,I.ok.blt,A,λx y c E G=>I.ok.inj x y c (sub x c E) (sub y c G),λx O=>Cg S O,λx c h=>(nomatch h),I.ok.hd,I.ok.frames,.inl rfl,λb d=>⟨Ly (LI (w b d) A),λx c e=>(l b d).2.2.2.2.1 x c (sub x c e)⟩,
  I.bs,LW I.ok.bsz I.sz,λb o e d=>?_,λb d Q=>?_,I.stack,I.stkFree⟩,rfl,I.bare,Un.kept L,⟨m,B,λi x v E G h3=>?_⟩,λx c e=>D.cell x c (sub x c e),I.hok.fresh A,λx c e=>I.freeC x c (sub x c e),λp T=>absurd (show p∈([])from T) (by simp),D.hok,by simp[Ws.cw,Fr.len,eV]⟩
 .rcases(l b d).2.2.2.1 with z | z
  .exact I.ok.noex b o e z
  .exact absurd (LI (Lr e) (LW I.ok.bsz z)) (NP _)
 .rcases Lu.mp (I.stkSub b Q)with z | z
  .exact(l b d).2.1 z
  .exact(l b d).2.2.1 z
 .obtain⟨j,U,Y⟩:=uU G;obtain⟨a1,n,a3,a4,a5⟩:=Fr.get E U;obtain⟨m0,_,hl⟩:=D.loc;obtain⟨u,ru,lk⟩:=hl j x v a1 Y a3;refine⟨u,ru,?_⟩;rcases lk with⟨q,_⟩ | ⟨_,c,e1,e2⟩
  .rcases n with n | n<;>(rw[n]at q;cases q)
  .exact .inr ⟨a5,c,a4.trans e1,e2⟩
def Cj{fp:List Addr}(I:L2.Inv X pins σ H s)(a:d7 X pins H D)(new:aF X.prog X.w (aB H D o) s.heap D o):L2.Inv X pins σ (aB H D o) s:=by
 have i:=a.1;have ne:∀b u,H b=some u->b≠D:=λb u e z=>by rw[z,i]at e;cases e
 obtain⟨p,g,d,r,os⟩:=s;refine I.step (ch:=[D]) (λb f=>?_) (λb u _ _ _ e _=>e) (λb u _ _ _ e _=>⟨u.slots,e⟩) (λb u j e n=>by rw[aj (λz=>j (by simp[z]))];exact n) (λb u _ e=>⟨u,e⟩)
  (λb h e=>by rw[aj (ne b _ e)];exact e) (λb u h e=>by rw[aj (ne b _ e)];exact e) (λb x e=>⟨#[],by rw[aj (ne b _ e),e];simp⟩) (λm l=>l) (λb u e=>?_) I.bare
 .have e:b=D:=by simpa using f
  subst e;exact⟨a.2.2.2.1,a.2.1,a.2.2.2.2.1,a.2.2.2.2.2⟩
 .by_cases f:b=D
  .subst f;rw[C2]at e;cases e;exact new
  .rw[aj f]at e;exact(I.hok b u e).stay (λc v _ q=>q) (λc q=>by rw[aj (ne c _ q)];exact q) λc h q=>by rw[aj (ne c _ q)];exact q
section
variable{X:Cx}{cm:Nat->Addr}
def jO(X:Cx)(b:List Expr)(t:TT):Prop:=
 ∀(a:List (Addr×Obj))(s:Ln)(σ:L2.St)(H:Hp)(Q:Bool->Hp->Prop),L2.Inv X a σ H s->t σ H Q->wpAny (model X.prog X.w) X.A (uT b X.env) (TP X a σ Q) X.xe s
def jP:jO X [] (fB X.K cm bp):=λa s h H Q I c=>by
 obtain⟨d,A,e,b,i,f,j,g,k⟩:=c;cases g;exact wpAny_tests_nil ⟨H,I,k d H (ax.refl _ _) f⟩
def jQ(h:Pt X cm c t):jO X [c] (fB X.K cm t):=λa s b H Q I q=>wpAny_tests_one (h a s b H Q I q)
structure uV(C:Cx->Prop)(Z:Hp->Prop)(P:LK)(w:Mv)(K:Lm)(tg:Expr)(J:L2.It)(fp:List Addr)(it:Addr)(tn:Nat->Heap->Prop):Prop where
 obj:∀i h,tn i h->∀b∈fp,∃o,h.get? b=some o/\∀v,o.data≠.cell v
 keep:∀i h h',tn i h->(∀b∈fp,∀o,h.get? b=some o->h'.get? b=some o)->tn i h'
 item:∀(X:Cx),X.prog=P->X.w=w->X.K=K->C X->∀(i:Nat)(pins:List (Addr×Obj))(s:Ln)(σ:L2.St)(H:Hp)(E:Ll->Ln->Prop),L2.Inv X pins σ H s->(∀b∈fp,d7 X pins H b)->tn i s.heap->J.go i H->
  wpAny (model P w) X.A (pyNext (.ref it)) (λr s1=>∃u,r=some u/\
   wpAny (model P w) X.A (letOwnedTupleGo tg (.ref it) u) (λ_ s2=>∃x H',L2.Inv X pins σ H' s2/\L2.RelV x u/\J.yld i H x H'/\tn (i+1) s2.heap/\∀b∈fp,H' b=none) E s1) E s
 done:∀(X:Cx),X.prog=P->X.w=w->X.K=K->C X->∀(i:Nat)(pins:List (Addr×Obj))(s:Ln)(σ:L2.St)(H:Hp)(E:Ll->Ln->Prop),L2.Inv X pins σ H s->(∀b∈fp,d7 X pins H b)->tn i s.heap->J.stop i H->Z H->
  wpAny (model P w) X.A (pyNext (.ref it)) (λr s1=>r=none/\L2.Inv X pins σ H s1) E s
 self:∀(A:Mq)(i:Nat)(s:Ln)(Q:Ll->Ln->Prop)(E:Ll->Ln->Prop),tn i s.heap->Q (.ref it) s->wpAny (model P w) A (pyIter (.ref it)) Q E s
def uW(T:je P w K g J fp h l):uV (λX=>X.calm=true) (λ_=>True) P w K g J fp h l:=
 ⟨T.obj,T.keep,T.item,λX a b c d i e s m H E I f t j _=>T.done X a b c d i e s m H E I f t j,T.self⟩
def uX
           {RR:Ll->Addr->Uy->Ln->Prop} 
  {W:PHp->Prop} (hC:∀Y:Cx,Y.calm=X.calm->Y.A=X.A->C Y) (hz:∀{h H' B},ax ρ H h H'->aL X.K cm h B H'->W B->Z H') (r7:W A) (kg:∀v σ B a0 B',g v σ B=.ok a0 B'->W B->W B') (kt:∀σ B b B',t σ B=.ok b B'->W B->W B') (ke:∀σ B v B',e σ B=.ok v B'->W B->W B') (S:mf X a cl) (Fr:bh X a cl N js)
 (hg:∀C s0 H0 fp,L2.PG (eV X N a cl C s0 H0 fp) tg (kJ X.K cm g)) (ht:∀C s0 H0 fp,jO (eV X N a cl C s0 H0 fp) h6 (fB X.K cm t)) (he:∀C s0 H0 fp,PE (eV X N a cl C s0 H0 fp) h5 (cJ X.K cm e))
 (I:L2.Inv X L σ H s) (T:uV C Z X.prog X.w X.K tg j fp it tn) (st:tn 0 s.heap) (hf:∀b∈fp,d7 X L H b) (rj:iL X.K ρ H J j) (rl:aL X.K cm ρ A H) (rs:bR ρ H h9 σ)
 (ev:c5 J g t e (n+1) 0 (Ws.cw js h9) A=.ok ys A') (hy:ys.length<=LIM)
 (s3:∀D C s' m,s'.heap.Ns C m->C≠X.env.locals->(∀n1,MA C s'.heap n1->∃h H',ax ρ H h H'/\aL X.K cm h (A'++[.lst ys]) H'/\h[A'.length]?=some D/\L2.Inv X L σ H' { s' with heap:=n1 }/\d7 X L H' C)->RR (.ref D) C (.ok .next) s') :
 wpAny (model X.prog X.w) X.A (newList []) (λn2 a4=>wpAny (model X.prog X.w) X.A (newFunctionEnv a X.env.globals cl [] X.env.qual none .none (some X.env)) (λg8 n3=>
  codeAny (model X.prog X.w) X.A (.compStart (.ListComp h5 [⟨tg,iter,h6,0⟩] a l1) 0 (.ref it) n2 { g8 with scope:=relabel a X.env }) (RR n2 g8.locals) n3) E a4) E s:=by
 refine MN (wpAny_newFunctionEnv S.nocell (by intro y hy;simp at hy) (λa5 a1 U=>?_) S.kind);dsimp only at a1 U ⊢;generalize i1:s.heap.push { cls:=.type "list",dict:=none,data:=.seq ([]:List Ll).toArray }=H2 at a1 U ⊢;have i2:H2.objs.size=s.heap.objs.size+1:=by rw[<-i1,ME]
 have j1:∀b∈fp,b<s.heap.objs.size:=λb d=>by
  obtain⟨o,ho,_⟩:=T.obj 0 _ st b d;exact Lr ho
 have d1:s.heap.objs.size≠H2.objs.size:=by rw[i2];exact Ly (Nh _)
 have Q:s.heap.objs.size<=H2.objs.size:=by rw[i2];exact NZ _
 have n6:∀b o,s.heap.get? b=some o->a5.get? b=some o:=λb o q=>U.extBut b o (by rw[i2];exact Ly (Ni (Lr q))) (L3 _ (i1 ▸ L3 _ q));have n7:a5.PlainList s.heap.objs.size #[]:=⟨_,U.extBut _ _ d1 (L3 _ (i1 ▸ Lq _ rfl))⟩;generalize a9:s.heap.objs.size=D at *;generalize A9:H2.objs.size=C at *
 let Y:=eV X N a cl C s H fp
 have d2:∀b∈fp,b≠D:=λb d=>Ly (j1 b d);have e0:∀b o,s.heap.get? b=some o->b<D:=λb o q=>by rw[<-a9];exact Lr q
 have nD:D∉frs X.stack:=λz=>by
  obtain⟨_,o,ho,_⟩:=I.stack.mem z;exact NP _ (e0 _ _ ho)
 have j2:∀x c,X.env.cells.lookup x=some c->c<D:=λx c q=>by
  obtain⟨v,o,ho,_⟩:=I.cell x c q;exact e0 _ _ ho
 have g9:∀x c,cl.lookup x=some c->X.env.cells.lookup x=some c:=λx c q=>S.sub (x,c) (Nc q);have o1:∀(ps:List (Addr×Obj))(H':Hp),(∀p∈ps,∀b∈fp,p.1≠b)->(∀b∈fp,H' b=none)->∀b∈fp,d7 Y ps H' b:=λps H' s4 hn b d=>
  ⟨hn b d,Ly (LI (j1 b d) Q),λhz=>(Lu.mp (I.stkSub b hz)).elim (hf b d).2.1 (hf b d).2.2.1,.inl d,λx c q=>(hf b d).2.2.2.2.1 x c (g9 x c q),λp hp=>s4 p (by simpa[Y,eV]using hp) b d⟩
 have I0:L2.Inv Y [] (Ws.cw js σ) H { s with heap:=a5,toks:=s.toks+([]:List (Str×Ll)).length }:=Ci S Fr I hf (λb d=>by rw[a9];exact j1 b d) (by rw[a9];exact Q) n6 a1;have o3:tn 0 a5:=T.keep 0 _ _ st λb d o q=>n6 b o q;have h0:∀a4:Ln,a4={ s with heap:=a5,toks:=s.toks+([]:List (Str×Ll)).length }->
  codeAny (model X.prog X.w) X.A (.compLoop (.ListComp h5 [⟨tg,iter,h6,0⟩] a l1) 0 (.ref it) (.ref D) (compEnvC a cl C X.env)) (RR (.ref D) C) a4:=by
  rintro a4 rfl;refine Cf (λm s'=>∃i a0 H' h B b2 b3 a6 G f,L2.Inv Y [] a0 H' s'/\tn i s'.heap/\(∀b∈fp,H' b=none)/\ax ρ H h H'/\aL X.K cm h B H'/\bR h H' b2 a0/\c5 J g t e (m+1) i b2 B=.ok b3 A'/\
   s'.heap.PlainList D (QG f)/\H' D=none/\aA G f/\RVs h H' a6 G/\a6++b3=ys/\W B) ?_ n ⟨0,_,H,ρ,A,Ws.cw js h9,ys,[],[],[],I0,o3,λb d=>(hf b d).1,ax.refl _ _,rl,rs.bst js,ev,n7,by rw[<-a9];exact I.hok.fresh (Lp _),.nil,.nil,rfl,r7⟩
  rintro m s' ⟨i,a0,H',h,B,b2,b3,a6,G,f,I1,p0,t2,x1,g2,t3,p3,pl,g3,va,ra,e3,k0⟩;obtain⟨O,u0⟩:=id pl;have dD:∀v,({ cls:=.type "list",data:=.seq f.toArray O }:Obj).data≠.cell v:=λv z=>nomatch z;have I2:L2.Inv Y [(D,{ cls:=.type "list",data:=.seq f.toArray O })] a0 H' s':=I1.pins_of λp hp=>by
   have e:p=(D,{ cls:=.type "list",data:=.seq f.toArray O }):=by simpa using hp
   subst e;exact⟨u0,g3,d1,nD,dD⟩
  have f2:=o1 [(D,{ cls:=.type "list",data:=.seq f.toArray O })] H' (λp hp b d=>by
   have e:p=(D,{ cls:=.type "list",data:=.seq f.toArray O }):=by simpa using hp
   subst e;exact(d2 b d).symm) t2
  rw[X4]at p3;obtain⟨x,B1,e1,p7⟩:=B0 p3;obtain⟨rfl,k1⟩:=uM g2 (rj.mono x1) e1;cases x with
  | none=>
    cases p7;rw[MM]at e3;subst e3;refine aI (T.done Y rfl rfl rfl (hC Y rfl rfl) i _ s' a0 H' (λ_ _=>False) I2 f2 p0 k1 (hz x1 g2 k0)) λr s1 zq=>?_;obtain⟨hr,I3⟩:=zq;subst hr;have v1:=I3.pin (D,{ cls:=.type "list",data:=.seq f.toArray O }) (by simp);obtain⟨mC,v2,_⟩:=id I3.loc;refine s3 D C s1 mC v2 (λz=>?_) λh2 sb=>?_
    .have:=I.lt;rw[<-z,a9]at this;exact absurd (LI this Q) (NP _)
    .have ch:∀b∈fp,(b∈X.ex\/X.s₀.heap.objs.size<=b)/\b≠X.env.locals/\(∀x c,X.env.cells.lookup x=some c->c≠b)/\∀p∈X.pn++L,p.1≠b:=λb d=>⟨(hf b d).2.2.2.1,(hf b d).2.1,(hf b d).2.2.2.2.1,(hf b d).2.2.2.2.2⟩;have IX:L2.Inv X L σ H' s1:=I.call' I3.os I3.base I3.hok I3.bare ch;have c1:∀(g4:Hp) b,D<=b->g4 b=none->d7 X L g4 b:=λg4 b d hn=>by
      rw[<-a9]at d;exact I.fpOk (H':=g4) d hn
     have v3:L2.Inv X L σ H' { s1 with heap:=h2 }:=IX.turned (t':=s1.toks) (λb o d q=>(sb.2 b d).trans q) I3.free (c1 H' C Q I3.free).2.1 (c1 H' C Q I3.free).2.2.2.1 (c1 H' C Q I3.free).2.2.2.2.1 (c1 H' C Q I3.free).2.2.2.2.2;have e9:G.length<=sizeLine:=by rw[<-ra.length];exact W4 hy
     have v4:L2.Inv X L σ (aB H' D (.lst G)) { s1 with heap:=h2 }:=Cj (fp:=fp) v3 (c1 H' D (Lp _) g3) ⟨e9,f,O,va,(sb.2 D d1).trans v1.1⟩;have ex:ax h H' (h++[D]) (aB H' D (.lst G)):=ax.new g3;refine⟨h++[D],aB H' D (.lst G),x1.trans ex,g2.alloc g3 ⟨G,C2,ra.mono ex⟩ rfl,by rw[<-g2.len];simp,v4,c1 _ C Q ?_⟩;rw[aj (Na d1)];exact I3.free
  | some v=>
    refine aI (T.item Y rfl rfl rfl (hC Y rfl rfl) i _ s' a0 H' (λ_ _=>False) I2 f2 p0 k1.1) λr s1 zq=>?_;obtain⟨u,hr,h4⟩:=zq;subst hr;refine aI h4 λ_ s2 zq=>?_;obtain⟨xv,H3,I3,ru,v6,g5,w0⟩:=zq;obtain⟨x2,w1,w2⟩:=k1.2 xv H3 v6;have f3:=o1 [(D,{ cls:=.type "list",data:=.seq f.toArray O })] H3 (λp hp b d=>by
     have e:p=(D,{ cls:=.type "list",data:=.seq f.toArray O }):=by simpa using hp
     subst e;exact(d2 b d).symm) w0
    have I4:=I3.pinned f3 (T.obj _ _ g5);obtain⟨c2,B4,e4,w7⟩:=B0 p7;obtain⟨b5,B5,e5,c3⟩:=B0 w7;refine aI (hg C s H fp _ s2 a0 H3 xv u (λa7 H5=>∃a8,ax h H3 a8 H5/\aL X.K cm a8 B4 H5/\bR a8 H5 c2 a7) I4 ru ⟨h,B1,b2,v,c2,B4,w1,t3.mono x2,w2,e4,λa8 H5 a7 x5 k3 c4=>⟨a8,x5,k3,c4⟩⟩) λ_ s5 zq=>?_;obtain⟨a7,H5,I5,a8,x5,k3,c4⟩:=zq;refine aI (ht C s H fp _ s5 a7 H5 (λb H6=>b=b5/\∃a2,ax a8 H5 a2 H6/\aL X.K cm a2 B5 H6) I5 ⟨a8,B4,c2,b5,B5,k3,c4,e5,λa2 H6 x6 g6=>⟨rfl,a2,x6,g6⟩⟩) λok s6 zq=>?_;obtain⟨H6,I6,x8,a2,x6,g6⟩:=zq;subst x8;have k4:ax h H' a2 H6:=(x2.trans x5).trans x6;have f0:∀{f1:L2.St}{H7:Hp}{s7:Ln},L2.Inv Y ([(D,{ cls:=.type "list",data:=.seq f.toArray O })]++ly fp s2.heap) f1 H7 s7->(s7.heap.get? D=some { cls:=.type "list",data:=.seq f.toArray O }/\H7 D=none)/\(∀b∈fp,H7 b=none)/\(∀b∈fp,∀o,s2.heap.get? b=some o->s7.heap.get? b=some o):=λ{f1 H7 s7} I7=>by
     have p1:=I7.pin (D,{ cls:=.type "list",data:=.seq f.toArray O }) (Ma _ (ND _ (by simp)));refine⟨⟨p1.1,p1.2.1⟩,λb d=>?_,λb d o q=>?_⟩
     .obtain⟨o,q,_⟩:=T.obj _ _ g5 b d;exact(I7.pin (b,o) (Ma _ (Ma _ (S9 d q)))).2.1
     .exact(I7.pin (b,o) (Ma _ (Ma _ (S9 d q)))).1
    have f4:∀{ps:List (Addr×Obj)}{f1:L2.St}{H7:Hp}{s7:Ln},L2.Inv Y ps f1 H7 s7->L2.Inv Y [] f1 H7 s7:=λI7=>I7.pins_of λp hp=>absurd hp (by simp);cases ok with
    | false=>
      rw[if_neg (by simp)];rw[if_neg (by simp)]at c3;cases m with
      | zero=>rw[ui]at c3;cases c3
      | succ m=>
        obtain⟨⟨u1,u2⟩,u3,u4⟩:=f0 I6;exact⟨m,Nh _,i+1,a7,H6,a2,B5,c2,b3,a6,G,f,f4 I6,T.keep _ _ _ g5 u4,u3,x1.trans k4,g6,c4.mono x6,c3,⟨O,u1⟩,u2,va,ra.mono k4,e3,kt _ _ _ _ e5 (kg _ _ _ _ _ e4 k0)⟩
    | true=>
      rw[if_pos rfl];rw[if_pos rfl]at c3;obtain⟨y,B7,e7,y4⟩:=B0 c3;obtain⟨p8,B8,e8,y6⟩:=B0 y4;cases y6;refine aI (he C s H fp _ s6 a7 H6 (λyv H7=>∃b1,ax a2 H6 b1 H7/\aL X.K cm b1 B7 H7/\RV b1 H7 y yv) I6 ⟨a2,B5,c2,y,B7,g6,c4.mono x6,e7,λb1 H7 yv x7 k5 k6=>⟨b1,x7,k5,k6⟩⟩) λyu s7 zq=>?_;obtain⟨yv,H7,I7,ry,b1,x7,k5,k6⟩:=zq;obtain⟨⟨u1,u2⟩,u3,u4⟩:=f0 I7;have e9:f.length<=sizeLine:=by
       rw[<-va.length,<-ra.length];refine W4 (LW ?_ hy);rw[<-e3,LR];exact SM _ _
      refine wpAny_list_append_plain (items:=f.toArray) ⟨O,u1⟩ (λh8 y7 p9=>?_) (by rw[LF];exact e9);have I8:L2.Inv Y [] a7 H7 { s7 with heap:=h8 }:=(f4 I7).turned (t':=s7.toks) (λb o d q=>(p9.2 b d).trans q) u2 d1 (.inr (by show s.heap.objs.size<=D;rw[a9];exact Lp _)) (λx c q=>Ly (j2 x c (g9 x c q))) (λp hp=>absurd (show p∈([]:List (Addr×Obj))from hp) (by simp));cases m with
      | zero=>rw[ui]at e8;cases e8
      | succ m=>
        have q0:=k4.trans x7;refine⟨m,Nh _,i+1,a7,H7,b1,B7,c2,p8,a6++[y],G++[yv],f++[yu],I8,T.keep _ _ _ g5 λb d o q=>(p9.2 b (d2 b d)).trans (u4 b d o q),u3,x1.trans q0,k5,(c4.mono x6).mono x7,e8,by simpa using y7,u2,va.append (.cons ry .nil),(ra.mono q0).append (.cons k6 .nil),by rw[<-e3];simp,ke _ _ _ _ e7 (kt _ _ _ _ e5 (kg _ _ _ _ _ e4 k0))⟩
 exact codeAny_compStart_list (h0 _ rfl) (T.self X.A 0 _ _ _ o3 (h0 _ rfl))
def O9(js:List (Option Nat))(hc:X.calm=true)(S:mf X a o)(Fr:bh X a o N js)(hi:L2.PI X B iter (EvI X.K cm it))
 (hg:∀C p q f,L2.PG (eV X N a o C p q f) B (kJ X.K cm g)) (ht:∀C p q f,jO (eV X N a o C p q f) l (fB X.K cm t)) (he:∀C p q f,PE (eV X N a o C p q f) i (cJ X.K cm e))
 (hs:∀x,foldedSetIterable iter X.env x=pure x:=by intro _;rfl):Pe X cm (.ListComp i [⟨B,iter,l,0⟩] a E) (L9 it (Ws.cw js) g t e):=by
 intro r s σ H Q I ⟨ρ,A,G,v,A',rl,rs,ev,k⟩;obtain⟨J,A1,e1,L⟩:=B0 ev;obtain⟨n,A2,e2,O⟩:=B0 L;obtain rfl:=qs e2;obtain⟨ys,A3,e3,U⟩:=B0 O;obtain⟨c,Y⟩:=B9 U;cases Y;refine RZ rfl hs S.clos S.kind S.names (Mp (hi r s σ H (λj u=>∃b,ax ρ H b u/\aL X.K cm b A2 u/\iL X.K b u J j) I ⟨ρ,A,G,J,A2,rl,rs,e1,λb u j y d rj=>⟨b,y,d,rj⟩⟩) (λxv s1 h1=>Mp h1 (λd1 s2 h2=>?_) λ_ _ z=>z) λ_ _ z=>z);obtain⟨e0,f,tn,j,u,rfl,I1,T,st,hf,b,y,d,rj⟩:=h2;refine uX (W:=λ_=>True) (λ_ h _=>h.trans hc) (λ_ _ _=>trivial) trivial (λ_ _ _ _ _ _ z=>z) (λ_ _ _ _ _ z=>z) (λ_ _ _ _ _ z=>z) S Fr hg ht he I1 (uW T) st hf rj d (rs.mono y) e3 c λD C s' m hn e7 w=>⟨m,hn,λa1 sb=>?_⟩;obtain⟨a2,H2,x2,a3,hD,I2,_⟩:=w a1 sb;exact⟨.ref D,H2,I2,rfl,k a2 H2 _ (y.trans x2) a3 (.ref hD)⟩
def uY(js:List (Option Nat))(hc:X.calm=true)(S:mf X a O)(Fr:bh X a O N js)(hi:L2.PI X tg iter (EvI X.K cm it))
 (hg:∀C Q U G,L2.PG (eV X N a O C Q U G) tg (kJ X.K cm g)) (ht:∀C Q U G,jO (eV X N a O C Q U G) w (fB X.K cm t)) (he:∀C Q U G,PE (eV X N a O C Q U G) u (cJ X.K cm e))
 (hN:X.N.Nodup) (a5:X.N[i]?=some y) (hy:L2.Loc X.env.scope y)
 (a6:autoParam (swapsWith (.ListComp u [⟨tg,iter,w,0⟩] a L) (some (.Name y py)) f.line X.env=pure true) au0._auto_1)
 (a7:autoParam (X.fn y=true\/X.env.scope.names.lookup y=some .local) au9._auto_1)
 (hs:∀x,foldedSetIterable iter X.env x=pure x:=by intro _;rfl):Ps X cm (.Assign [.Name y py] (.ListComp u [⟨tg,iter,w,0⟩] a L) f) (aD (L9 it (Ws.cw js) g t e) (gName i)):=by
 intro l s σ H Dn I ⟨ρ,A,a9,fl,A',rl,rs,ev,k⟩;obtain⟨v,A0,e0,b1⟩:=B0 ev;obtain⟨g6,A9,e9,b2⟩:=B0 b1;cases e9;cases b2;obtain⟨J,A1,e1,b3⟩:=B0 e0;obtain⟨n,A2,e2,b5⟩:=B0 b3;obtain rfl:=qs e2;obtain⟨ys,A3,e3,c0⟩:=B0 b5;obtain⟨c,c1⟩:=B9 c0;cases c1;rw[exec_Assign_Name_used _ _ _ _ a6];refine L0 (Rb (L0 ?_));refine L0 (Mp (RZ rfl hs S.clos S.kind S.names (Mp (hi l s σ H (λj Y=>∃d,ax ρ H d Y/\aL X.K cm d A2 Y/\iL X.K d Y J j) I ⟨ρ,A,a9,J,A2,rl,rs,e1,λd Y j x1 B rj=>⟨d,x1,B,rj⟩⟩) (λxv s1 h1=>Mp h1 (λh5 s2 h2=>?_) λ_ _ z=>z) λ_ _ z=>z)) (λ_ s' hq=>Lk (Lk hq)) λ_ _ z=>z);obtain⟨h8,G,tn,j,Y,rfl,I1,T,st,hf,d,x1,B,rj⟩:=h2;refine uX (W:=λ_=>True) (λ_ h _=>h.trans hc) (λ_ _ _=>trivial) trivial (λ_ _ _ _ _ _ z=>z) (λ_ _ _ _ _ z=>z) (λ_ _ _ _ _ z=>z) S Fr hg ht he I1 (uW T) st hf rj B (rs.mono x1) e3 c λD C s' m hn j1 a1=>?_;obtain⟨c3,H2,x2,d0,hD,I2,r⟩:=a1 _ (.refl ..);obtain⟨oC,es,ep,d1,a2,rC⟩:=id hn;have I3:L2.Inv X (l++[(C,oC)]) σ H2 s':=L2.Inv.pins_of (I:=I2) λp E=>by
  rcases LY.mp E with E | E
  .exact I2.pin p (Ma _ E)
  .have e:p=(C,oC):=by simpa using E
   subst e;exact⟨d1,r.1,r.2.1,r.2.2.1,λv z=>by rw[a2]at z;cases z⟩
 refine wpAny_assign_Name (W2 I3 hN a5 hy (show L2.RelV (.ref D) _ from rfl) (λs3 I4=>?_) a7);have pC:=I4.pin (C,oC) (by simp);refine⟨m,⟨oC,es,ep,pC.1,a2,rC⟩,λh4 sb=>?_⟩;have I5:=I4.pins_of λp E=>I4.pin p (Ma _ (ND _ E));have I6:=I5.turned (t':=s3.toks) (λb o hb q=>(sb.2 b hb).trans q) r.1 r.2.1 r.2.2.2.1 r.2.2.2.2.1 r.2.2.2.2.2;exact⟨σ.set i _,H2,I6,k c3 H2 (x1.trans x2) d0 _ (((rs.mono x1).mono x2).set i (.ref hD))⟩
end
def Ck{a:Type}{P:a->Prop}:∀x∈([]:List a),P x:=by simp
def Cm{b:Type}{P:b->Prop}{a:b}{l:List b}(h:P a)(r:∀x∈l,P x):∀x∈a::l,P x:=λx c=>(Lu.mp c).elim (λe=>e ▸ h) (r x)
end Ws
namespace Ws
open PySem PySem.W PyProof.Rows L2
def eW{b:Type}(n:Nat)(lt:Nat->Nat->Bool):KasT b->(b->Prop)->Prop
 | .ret a,Q=>Q a
 | .ask i j k,Q=>i<n/\j<n/\eW n lt (k (lt i j)) Q
theorem Z2{b c:Type}{f:b->KasT c}{Q:c->Prop}:∀{t:KasT b},eW n lt t (λa=>eW n lt (f a) Q)->eW n lt (t.bind f) Q
 | .ret _,h=>h
 | .ask _ _ k,⟨d,e,g⟩=>⟨d,e,Z2 (t:=k _) g⟩
theorem uZ{c:Type}{G:c->Ln->Prop}(e:∀i j C,i<n->j<n->C (lt i j) s->b i j C s):∀{t:KasT c}{Q:c->Prop},eW n lt t Q->(∀a,Q a->G a s)->t.kasWp b G s
 | .ret a,Q,h,d=>d a h
 | .ask i j k,Q,⟨f,g,l⟩,d=>e i j _ f g (uZ e (t:=k _) l d)
section
variable{n:Nat}{α:Type}{key:Nat->α}{lt:Nat->Nat->Bool}
structure Ord(key:Nat->α)(lt:Nat->Nat->Bool):Prop where
 asym:∀a b,lt a b=true->lt b a=false
 tr:∀a b c,lt b a=false->lt c b=false->lt c a=false
 tot:∀a b,lt a b=false->lt b a=false->key a=key b
 cong:∀a b c d,key a=key b->key c=key d->lt a c=lt b d
structure Pm(n:Nat)(p:Array Nat):Prop where
 size:p.size=n
 perm:p.Perm (QG (Mo n))
def Pm.bd(h:Pm n p)(b:0<n)(i:Nat):p.getD i 0<n:=by
 by_cases a:i<p.size
 .have e:p.getD i 0=p[i]:=by simp[Array.getD,a]
  rw[e];have c:p[i]∈p.toList:=by simp
  have:=(RA.mp h.perm).mem_iff.mp c;simpa using this
 .have e:p.getD i 0=0:=by simp[Array.getD,a]
  rw[e];exact b
def mh{p q:Array Nat}(h:p[i]?=q[j]?):p.getD i 0=q.getD j 0:=by
 rw[Rp,Rp,h]
def Pm.rev(h:Pm n p)(i j:Nat):Pm n (US p i j):=⟨by unfold US;rw[mirror_size];exact h.size,(mirror_perm _ _ _ _).trans h.perm⟩
def qz(a:j<=p.size)(k:Nat):(US p i j).getD k 0=if i<=k/\k<j then p.getD (i+j - 1 - k) 0 else p.getD k 0:=by
 have e:=getElem?_mirror_all (i:=i) a k;by_cases h:i<=k/\k<j
 .rw[if_pos h]at e ⊢;exact mh e
 .rw[if_neg h]at e ⊢;exact mh e
def Pm.bub(h:Pm n p)(i d:Nat):Pm n (bubble p i d):=⟨by rw[bubble_size];exact h.size,(bubble_perm _ _ _).trans h.perm⟩
def vb(hs:a<p.size)(f:d<=a)(k:Nat):(bubble p a d).getD k 0=if k=a - d then p.getD a 0 else if a - d<k/\k<=a then p.getD (k - 1) 0 else p.getD k 0:=by
 have e:=getElem?_bubble hs d f k;by_cases b:k=a - d
 .rw[if_pos b]at e ⊢;exact mh e
 .rw[if_neg b]at e ⊢;by_cases c:a - d<k/\k<=a
  .rw[if_pos c]at e ⊢;exact mh e
  .rw[if_neg c]at e ⊢;exact mh e
def fC(lt:Nat->Nat->Bool)(p:Array Nat)(m:Nat):Prop:=∀i j,i<=j->j<m->lt (p.getD j 0) (p.getD i 0)=false
def iP(lt:Nat->Nat->Bool)(p:Array Nat)(m:Nat):Prop:=∀i j,i<=j->j<m->lt (p.getD i 0) (p.getD j 0)=false
variable(O:Ord key lt)(hn:0<n)
include O hn
theorem Ord.irr(a:Nat):lt a a=false:=by
 cases h:lt a a with
 | false=>rfl
 | true=>have:=O.asym a a h;rw[h]at this;exact this
theorem Cn(h:fC lt p m)(a:m=0\/lt (p.getD m 0) (p.getD (m - 1) 0)=false):fC lt p (m+1):=λi j b d=>by
 by_cases e:j=m
 .subst e;by_cases c:i=j
  .subst c;exact O.irr hn _
  .rcases a with a | a
   .symm
   .exact O.tr _ _ _ (h i _ (by symm) (by symm)) a
 .exact h i j b (by symm)
theorem i9(h:iP lt p m)(a:m=0\/lt (p.getD (m - 1) 0) (p.getD m 0)=false):iP lt p (m+1):=λi j b d=>by
 by_cases e:j=m
 .subst e;by_cases c:i=j
  .subst c;exact O.irr hn _
  .rcases a with a | a
   .symm
   .exact O.tr _ _ _ a (h i _ (by symm) (by symm))
 .exact h i j b (by symm)
theorem qA(i:Pm n p):∀f m,1<=m->fC lt p m->(∀e,m<=e->e<=m+f->fC lt p e->(e<m+f->lt (p.getD e 0) (p.getD (e - 1) 0)=true)->Q e)->eW n lt (kas_asc p f m) Q
 | 0,m,_,g,h=>h m (Lp _) (Lp _) g λz=>by symm
 | f+1,m,l,g,h=>by
   refine⟨i.bd hn m,i.bd hn (m - 1),?_⟩;cases j:lt (p.getD m 0) (p.getD (m - 1) 0)with
   | true=>exact h m (Lp _) (by symm) g λ_=>j
   | false=>
     simp only[NY,if_false];exact qA i f (m+1) (by symm) (Cn O hn g (.inr j)) λe a b c d=>h e (by symm) (by symm) c λz=>d (by symm)
theorem qB(a:j<=p.size)(he:∀k,i<=k->k<j->key (p.getD k 0)=key (p.getD (j - 1) 0))(k:Nat):key ((US p i j).getD k 0)=key (p.getD k 0):=by
 rw[qz a];by_cases h:i<=k/\k<j
 .rw[if_pos h,he _ (by symm) (by symm),he k h.1 h.2]
 .rw[if_neg h]
theorem qC(h:∀k,key (p.getD k 0)=key (q.getD k 0))(b:iP lt q m):iP lt p m:=λi j a c=>by rw[O.cong _ _ _ _ (h i) (h j)];exact b i j a c
def qD(key:Nat->α)(p:Array Nat)(m q:Nat):Prop:=q+1<=m/\∀k,m - (q+1)<=k->k<m->key (p.getD k 0)=key (p.getD (m - 1) 0)
omit O hn in
theorem qE(h:1<=m):qD key p m 0:=⟨h,λk a b=>by rw[show k=m - 1 by symm]⟩
theorem nW:∀f (p:Array Nat) m q,Pm n p->m+f<=n->iP lt p m->qD key p m q->(∀o g r,Pm n o->m<=g->g<=m+f->iP lt o g->qD key o g r->Q (o,g,r))->eW n lt (kas_desc f p m q) Q
 | 0,p,m,q,l,w,s,u,h=>h p m q l (Lp _) (Lp _) s u
 | f+1,p,m,q,l,w,s,u,h=>by
   refine⟨l.bd hn m,l.bd hn (m - 1),?_⟩;have A:=u.1;cases x:lt (p.getD m 0) (p.getD (m - 1) 0)with
   | true=>
     simp only[if_true];by_cases y:q > 0
     .rw[if_pos y];have z:=qB O hn (p:=p) (i:=m - (q+1)) (j:=m) (by rw[l.size];symm) u.2;refine nW f _ (m+1) 0 (l.rev _ _) (by symm) ?_ (qE (by symm)) λo g r a b c d e=>h o g r a (by symm) (by symm) d e;exact qC O hn z (i9 O hn s (.inr (O.asym _ _ x)))
     .rw[if_neg y];exact nW f p (m+1) 0 l (by symm) (i9 O hn s (.inr (O.asym _ _ x))) (qE (by symm)) λo g r a b c d e=>h o g r a (by symm) (by symm) d e
   | false=>
     simp only[NY,if_false];refine⟨l.bd hn (m - 1),l.bd hn m,?_⟩;cases v:lt (p.getD (m - 1) 0) (p.getD m 0)with
     | true=>exact h p m q l (Lp _) (by symm) s u
     | false=>
       simp only[NY,if_false];refine nW f p (m+1) (q+1) l (by symm) (i9 O hn s (.inr v)) ⟨by symm,λk B C=>?_⟩ λo g r a b c d e=>h o g r a (by symm) (by symm) d e;rw[Nat.add_sub_cancel];by_cases e:k=m
       .rw[e]
       .rw[u.2 k (by symm) (by symm)];exact O.tot _ _ v x
theorem vc{p:Array Nat}{m:Nat}(f:Pm n p)(l:1<=m)(e:m<=n)(o:iP lt p m){Q:Nat×Array Nat->Prop}(h:∀d g,Pm n g->1<=d->d<=n->fC lt g d->Q (d,g)):eW n lt (kas_tail3 m n p) Q:=by
 refine Z2 ?_;have q:fC lt (US p 0 m) m:=λi j r s=>by
  rw[qz (by rw[f.size];exact e),qz (by rw[f.size];exact e),if_pos ⟨by symm,s⟩,if_pos ⟨by symm,by symm⟩];exact o _ _ (by symm) (by symm)
 exact qA O hn (f.rev 0 m) _ m l q λd a b c _=>h d _ (f.rev 0 m) (by symm) (by symm) c
theorem vd{p:Array Nat}{m:Nat}(j:Pm n p)(s:1<=m)(l:m<n)(o:iP lt p (m+1)){Q:Nat×Array Nat->Prop}(h:∀f g,Pm n g->1<=f->f<=n->fC lt g f->Q (f,g)):eW n lt (kas_descPart m n p) Q:=by
 refine Z2 (nW O hn _ p _ 0 j (by symm) o (qE (by simp)) λg f q a b c d e=>?_);by_cases i:q > 0
 .rw[if_pos i];have r:=qB O hn (by rw[a.size];symm) e.2;exact vc O hn (a.rev _ _) (by symm) (by symm) (qC O hn r d) h
 .rw[if_neg i];exact vc O hn a (by symm) (by symm) d h
theorem Co(f:Pm n p)(A:2<=n)(h:∀q r,Pm n r->1<=q->q<=n->fC lt r q->Q (q,r)):eW n lt (kas_count n p) Q:=by
 refine Z2 (qA O hn f _ 1 (Lp _) (λi j l s=>by rw[show i=j by symm];exact O.irr hn _) λm a b c d=>?_);by_cases u:(m == n)=true
 .rw[if_pos u];exact h m p f a (by symm) c
 .rw[if_neg u];have o:m<n:=by have:m≠n:=λz=>u (by simp[z]);symm
  have e:=d (by symm);by_cases v:m > 1
  .rw[if_pos v];refine⟨f.bd hn 0,f.bd hn _,?_⟩;cases w:lt _ _ with
   | true=>exact h m p f a (by symm) c
   | false=>
     have g:∀k,0<=k->k<m->key _=key _:=λk _ x=>by
      refine O.tot _ _ ?_ (c k (m - 1) (by symm) (by symm));exact O.tr _ _ _ w (c 0 k (by symm) x)
     have y:=qB O hn (by rw[f.size];symm) g;refine vd O hn (f.rev 0 m) a o (qC O hn y (i9 O hn (λi j l s=>?_) (.inr (O.asym _ _ e)))) h;rw[O.cong _ _ _ _ (g i (by simp) (by symm)) (g j (by simp) s)];exact O.irr hn _
  .rw[if_neg v];have:m=1:=by symm
   subst this;refine vd O hn f a o (i9 O hn (λi j l s=>by rw[show i=j by symm];exact O.irr hn _) (.inr (O.asym _ _ e))) h
theorem qF(d:Pm n p)(g:fC lt p k):∀f l r,l<=r->r<=k->r - l<=f->(∀i,i<l->lt (p.getD k 0) (p.getD i 0)=false)->(∀i,r<=i->i<k->lt (p.getD k 0) (p.getD i 0)=true)->
 (∀j,j<=k->(∀i,i<j->lt (p.getD k 0) (p.getD i 0)=false)->(∀i,j<=i->i<k->lt (p.getD k 0) (p.getD i 0)=true)->Q j)->eW n lt (kas_place p k f l r) Q
 | 0,l,r,q,c,v,m,o,h=>h l (by symm) m λi a b=>o i (by symm) b
 | f+1,l,r,q,c,v,m,o,h=>by
   unfold kas_place;by_cases s:l>=r
   .rw[if_pos s];exact h l (by symm) m λi a b=>o i (by symm) b
   .rw[if_neg s];refine⟨d.bd hn k,d.bd hn _,?_⟩;cases u:lt (p.getD k 0) (p.getD ((l+r) / 2) 0)with
    | true=>
      simp only[if_true];refine qF d g f l ((l+r) / 2) (by symm) (by symm) (by symm) m (λi a b=>?_) h;cases e:lt (p.getD k 0) (p.getD i 0)with
      | true=>rfl
      | false=>
        have:=O.tr _ _ _ (g ((l+r) / 2) i a b) e;rw[u]at this;exact this.symm
    | false=>
      simp only[NY,if_false];refine qF d g f ((l+r) / 2+1) r (by symm) c (by symm) (λi a=>?_) o h;exact O.tr _ _ _ (g i ((l+r) / 2) (by symm) (by symm)) u
theorem ve:∀f (p:Array Nat) k,Pm n p->k+f=n->fC lt p k->(∀r,Pm n r->fC lt r n->Q r)->eW n lt (kas_bin f p k) Q
 | 0,p,k,e,v,d,h=>h p e (by rw[<-v];exact d)
 | f+1,p,k,e,v,d,h=>by
   refine Z2 (qF O hn e d k 0 k (by symm) (by symm) (by symm) (λi a=>by symm) (λi a b=>by symm) λl z w x=>?_);refine ve f _ (k+1) (e.bub _ _) (by symm) (λi j s A=>?_) h;have g:k<p.size:=by rw[e.size];symm
   have u:k - (k - l)=l:=by symm
   rw[vb g (by symm),vb g (by symm),u];by_cases m:j=l
   .rw[if_pos m];by_cases c:i=l
    .rw[if_pos c];exact O.irr hn _
    .rw[if_neg c,if_neg (by symm)];exact w i (by symm)
   .rw[if_neg m];by_cases o:l<j/\j<=k
    .rw[if_pos o];by_cases c:i=l
     .rw[if_pos c];exact O.asym _ _ (x (j - 1) (by symm) (by symm))
     .rw[if_neg c];by_cases q:l<i/\i<=k
      .rw[if_pos q];exact d (i - 1) (j - 1) (by symm) (by symm)
      .rw[if_neg q];exact d i (j - 1) (by symm) (by symm)
    .rw[if_neg o];have y:j<l:=by symm
     rw[if_neg (by symm),if_neg (by symm)];exact d i j s (by symm)
theorem Cp(g:2<=n)(h:∀e,Pm n e->fC lt e n->Q e):eW n lt (kas_sort n) Q:=by
 refine Z2 (Co O hn ⟨by simp,.refl _⟩ g λm p a b c d=>?_);by_cases f:m<n
 .rw[if_pos f,Nat.max_eq_left b];exact ve O hn _ p m a (by symm) d h
 .rw[if_neg f];have:m=n:=by symm
  subst this;exact h p a d
end
noncomputable def gB(fin:Bool):List Int->List Int->Bool
 | x::a,y::b=>if x=y then gB fin a b else decide (x<y)
 | _,_=>fin
theorem vf:∀a b:List Int,gB (decide (a.length<b.length)) a b=D3 a b
 | [],[]=>rfl
 | [],_::_=>by simp[gB,D3]
 | _::_,[]=>by simp[gB,D3]
 | x::a,y::b=>by
   simp only[gB,D3,Me,Nat.add_lt_add_iff_right];rw[vf a b]
section
variable{prog:LK}{w:Mv}{A:Mq}{E:Ll->Ln->Prop}{s:Ln}
def Cq{fin:Bool}(i:Nat)(g:Ol vs ns)(f:Ol b d)(h:Q (gB fin ns d) s):KatLex prog w A true fin Q (vs.zip b) i s:=by
 induction g generalizing b d i with
 | nil=>simpa[gB]using kat_nil h
 | cons a t g ih=>
   cases f with
   | nil=>simpa[gB]using kat_nil h
   | cons c u f=>
     rw[List.zip_cons_cons];refine kat_cons (wpAny_eqBool_int ?_);by_cases e:a=c
     .subst e;simp only[gB,if_true]at h;rw[beq_self_eq_true];exact kat_yes (ih (i+1) f h)
     .rw[beq_eq_false_iff_ne.mpr e];simp only[gB,e,if_false]at h;refine kat_no ?_;cases j:(true&&i == 0)with
      | true=>exact oneLt_int h
      | false=>exact kat_one _ _ (lt_int h)
def iQ(h:Heap)(v:Ll)(t:List Int):Prop:=∃a o b n,v=.ref a/\h.get? a=some o/\o.cls=.type "tuple"/\o.data=.seq b n/\Ol b.toList t/\t≠[]
theorem qG:∀{vs:List Ll}{b:List (List Int)}{i:Nat},Paired (iQ h) vs b->i<vs.length->iQ h (vs.getD i .none) (b.getD i [])
 | _,_,_,.nil,a=>by simp at a
 | _,_,0,.cons r _,_=>r
 | _,_,i+1,.cons _ t,a=>by
   have:=qG (i:=i) t (by simpa using a);simpa using this
def Cr(l:Paired (iQ h) vs j):∃fs,KatTups h vs fs/\fs.length=vs.length/\∀f∈fs,∃i t,f=OU i t:=by
 induction l with
 | nil=>exact⟨[],KatTups.nil,rfl,λ_ z=>nomatch z⟩
 | cons r _ ih=>
   obtain⟨a,o,c,n,rfl,m,p,q,b,d⟩:=r;obtain⟨fs,k,u,x⟩:=ih;cases e:c.toList with
   | nil=>rw[e]at b;cases b;exact absurd rfl d
   | cons v r=>
     rw[e]at b;cases b with
     | cons i y B=>
       refine⟨.int i y::fs,KatTups.cons m p q (by rw[<-MP,e];rfl) k,by simp[u],λf g=>?_⟩;rcases Lu.mp g with rfl | g
       .exact⟨_,_,rfl⟩
       .exact x f g
def Cs(b:List (List Int)):Ord (λi=>b.getD i []) (λi j=>D3 (b.getD i []) (b.getD j [])):=
 ⟨λ_ _ h=>qc _ _ h,λ_ _ _ h a=>qd _ _ _ h a,λ_ _ h a=>y0 _ _ h a,λ_ _ _ _ h a=>congr (congrArg D3 h) a⟩
def V7(a:List (List Int))(n:Nat)(p:List Nat):Prop:=p.Perm (Mo n)/\(p.map λi=>a.getD i []).Pairwise (λx y=>D3 y x=false)
def j0(D:s.heap.get? a=some (seqObj "list" vs.toArray n))(ht:Paired (iQ s.heap) vs u)(U:vs.length<64)
 (h:∀p,V7 u vs.length p->P (.done (.ret .none)) { s with heap:=sortedHeap s.heap a vs (QG (p.map λi=>vs.getD i MZ)) }) :
 wpAny (model prog w) A (MK.«list.sort» ⟨[.ref a],[]⟩) P E s:=by
 rw[list_sort_plain];have ha:=Lr D;refine L0 (listItems_at D rfl ?_);refine L0 (Um D rfl ?_);obtain⟨Y,G⟩:∃Y,(s.heap.update a _).get? a=some (seqObj "list" #[] Y):=⟨_,get?_update_seq D (λ_=>#[])⟩;refine L0 (UK G rfl ?_);refine L0 (wpAny_newTuple ?_);refine L0 (Ss ?_);refine Mh ?_;have l:(((s.heap.update a (Rl λ_=>#[])).push (seqObj "tuple" vs.toArray 0)).push (seqObj "list" #[] 0)).get? a=some (seqObj "list" #[] Y):=by
  rw[Qt _ _ _ (by rw[Uv,PM];exact Ly (Ni ha)),Qt _ _ _ (by rw[PM];exact Ly ha)];exact G
 dsimp only;have a0:vs.toArray.size=vs.length:=by simp
 have a5:∀v t,iQ s.heap v t->iQ (((s.heap.update a (Rl λ_=>#[])).push (seqObj "tuple" vs.toArray 0)).push (seqObj "list" #[] 0)) v t:=λv t hq=>by
  obtain⟨b,o,y,k,e,q,c,d,r⟩:=hq;have hb:b≠a:=by
   rintro rfl;rw[D]at q;cases q;exact absurd (Ll.type.inj (show Ll.type "list" = Ll.type "tuple" from c)) (by decide)
  exact⟨b,o,y,k,e,L3 _ (L3 _ (by rw[Ud _ _ _ _ hb];exact q)),c,d,r⟩
 have z:=L2.Paired.mapP ht a5;by_cases B:vs.toArray.size<2
 .rw[if_pos B,if_pos B];refine L0 (Lk ?_);refine L0 (Lk ?_);dsimp only;refine L0 (UK l rfl ?_);refine L0 (Um l rfl ?_ (hsz2:=by rw[Array.size_map];show(pairsOf vs).size<=_;rw[pairsOf_size,OF];symm));simp only[bne_self_eq_false];have x:V7 u vs.length (Mo vs.length):=by
   refine⟨.refl _,?_⟩;rw[a0]at B;match hl:vs.length,B with
   | 0,_=>simp
   | 1,_=>simp
  have g:(arrOf (SortSt.mk' general' (vs.toArray.zip vs.toArray) #[] 7 none)).map (·.2)=QG ((Mo vs.length).map λi=>vs.getD i MZ):=by
   apply SN.mp;show((vs.toArray.zip _).map _).toList=_;apply List.ext_getElem
   .simp
   .intro i h1 B;have H:i<vs.length:=by simpa using h1
    simp[H]
  have:=h _ x;rw[<-g]at this;exact Lk this
 .rw[if_neg B,if_neg B];have I:2<=vs.length:=by symm
  obtain⟨fs,hk,c4,a6⟩:=Cr z;refine L0 (kat_kind hk (by symm) (λv hv=>by
   obtain⟨i,t,rfl⟩:=a6 v hv;exact Looks.of_pure rfl) rfl ?_)
  have ev:(kas_sort vs.length).kasWp (kas_ask prog w A (tuples' (Ll.type "int" != Ll.type "tuple")) vs) (λp J=>V7 u vs.length p.toList/\J={ s with heap:=((s.heap.update a (Rl λ_=>#[])).push (seqObj "tuple" vs.toArray 0)).push (seqObj "list" #[] 0) }) { s with heap:=((s.heap.update a (Rl λ_=>#[])).push (seqObj "tuple" vs.toArray 0)).push (seqObj "list" #[] 0) }:=by
   refine uZ (λi j C H T hC=>?_) (Cp (Cs u) (by symm) I λp x L=>?_) λp x=>⟨x,rfl⟩
   .obtain⟨b,o,y,k,e,q,c,d,r,_⟩:=qG z H;obtain⟨b',o',N,k',e',q',c',d',r',_⟩:=qG z T;unfold kas_ask;rw[e,e'];refine kat_lt q d q' d' (Cq 0 r r' ?_);have z1:y.size=(u.getD i []).length:=by rw[<-r.length];simp
    have z2:N.size=(u.getD j []).length:=by rw[<-r'.length];simp
    rw[z1,z2,vf];exact hC
   .refine⟨by simpa using RA.mp x.perm,?_⟩;rw[Pf,Nr];intro i j H T e6;have:=L i j (by symm) (by rw[<-x.size];simpa using T);have a7:i<p.size:=by simpa using H
    have a8:j<p.size:=by simpa using T
    simpa[a7,a8]using this
  refine L0 (Mp (kat_run (Q:=λm J=>∃p:Array Nat,_=_/\arrOf m=p.map _/\failedOf m=none/\V7 u _ _/\J={ s with heap:=((s.heap.update a _).push _).push _ })
   rfl I U (λp' m J a1 a2 a3 a4=>⟨p',a1,a2,a3,a4.1,a4.2⟩) ev) ?_ λ_ _ e=>e)
  rintro⟨⟨⟩,m⟩ J ⟨p,x,a9,hf,O,rfl⟩;have g:=kat_snds rfl a9;have b3:(QG (p.toList.map λi=>vs.getD i MZ)).size=vs.length:=by rw[LF,Lo,Nw,x]
  refine L0 (UK l rfl ?_);rw[g];refine L0 (Um l rfl ?_ (hsz2:=by rw[OF];symm));rw[hf];simp only[bne_self_eq_false];exact Lk (h _ O)
def Ct(n:s.heap.IsList l vs.toArray)(u:Paired (iQ s.heap) vs j)(f:vs.length<64)
 (h:∀p,V7 j vs.length p->Q (.ref (s.heap.objs.size+1)) { s with heap:=sortedAll s.heap vs (QG (p.map λi=>vs.getD i MZ)) }) :
 wpAny (model prog w) A (call (.builtin "sorted") [.ref l]) Q E s:=by
 refine PF UL UA UB (UC _) ?_;refine L0 (Lk ?_);refine L0 (collect_list n ?_);refine L0 (Ss ?_);have a:((s.heap.push (seqObj "list" #[] 0)).update s.heap.objs.size (Rl (·++vs.toArray))).objs.size=s.heap.objs.size+1:=by
  rw[PM,Uv]
 have d:(((s.heap.push (seqObj "list" #[] 0)).update s.heap.objs.size (Rl (·++vs.toArray))).push (seqObj "list" vs.toArray 0)).get? (s.heap.objs.size+1)=some (seqObj "list" vs.toArray 0):=by
  rw[<-a];exact Lq _ rfl
 rw[a];have keep:∀b o,s.heap.get? b=some o->(((s.heap.push _).update _ _).push (seqObj "list" vs.toArray 0)).get? b=some o:=λb o q=>by
  have c:=Lr q;rw[Qt _ _ _ (by rw[a];exact Ly (Ni c)),Ud _ _ _ _ (Ly c),Qt _ _ _ (Ly c)];exact q
 refine L0 (Mh (Mc TN ⟨_,d,rfl⟩ Tr (j0 d (L2.Paired.mapP u λv t ⟨b,o,g,k,e,q,r⟩=>⟨b,o,g,k,e,keep b o q,r⟩) f λp x=>⟨_,rfl,?_⟩) (TQ _)));exact Lk ⟨_,rfl,h p x⟩
end
section
variable{X:Cx}{cm:Nat->Addr}
def Cu(K:Lm):List V->Hp->VK->Prop:=λb H Q=>∃a ns,b=[.ref a]/\bx K H a (ns.map V.int)/\ns.length<64/\∀l,H l=none->Q (.ref l) (aB H l (.lst ((D9 iC ns).map V.int)))
def call_sortI:bc X (.builtin "sorted") (Cu X.K):=by
 intro i s B H C D Q I r h;obtain⟨a,ns,rfl,m,n,q⟩:=h;obtain⟨u,rfl,p⟩:=d8 r;cases p;obtain⟨d,v,w,E⟩:=I.list m;have j:=Q0 v;have G:=j.length;refine sorted_ints w.isList j (by symm) λf x y z A=>?_;have e:=qb (z.trans (J2 _ _).symm) A (Bv ns);subst e;obtain⟨c,g⟩:=sortedAll_at _ d f;have l:(D9 iC ns).length=_:=(J2 _ _).length_eq;refine⟨.ref _,_,I.laid (λb o e=>sortedAll_old e) (NZ _) ?_,rfl,q _ (I.hok.fresh (NZ _))⟩;refine⟨by rw[Lo,OF];symm,_,c,k9 y,?_⟩;exact g
def eX(H:Hp)(x:V)(t:List Int):Prop:=∃b,x=.ref b/\H b=some (.tup (t.map V.int))/\t≠[]
def Cv(K:Lm):List V->Hp->VK->Prop:=λd H Q=>∃a b c,d=[.ref a]/\bx K H a b/\Paired (eX H) b c/\b.length<64/\∀l p,V7 c b.length p->H l=none->Q (.ref l) (aB H l (.lst (p.map λi=>b.getD i .non)))
def vg(I:L2.Inv X a σ H s)(j:aA g c)(i:Paired (eX H) g e):Paired (iQ s.heap) c e:=by
 induction j generalizing e with
 | nil=>cases i;exact .nil
 | cons r _ ih=>
   cases i with
   | cons h k=>
     refine .cons ?_ (ih k);obtain⟨b,rfl,l,f⟩:=h;cases r;obtain⟨_,d,m,o,p,q,n,u⟩:=I.hok b _ l;exact⟨b,o,d.toArray,n,rfl,p,q,u,by simpa using Q0 m,f⟩
theorem qH(r:aA b a):∀p:List Nat,(∀i∈p,i<b.length)->aA (p.map λi=>b.getD i .non) (p.map λi=>a.getD i .none)
 | [],_=>.nil
 | i::p,h=>by
   have c:=h i Lz;obtain⟨u,d,e⟩:=r.get (i:=i) (x:=b[i]) (by simp[c]);refine .cons ?_ (qH r p λj f=>h j (LC _ f));have g:b.getD i .non=b[i]:=by simp[c]
   have l:a.getD i .none=u:=by rw[LU,d];rfl
   show L2.RelV (b.getD i .non) (a.getD i .none);rw[g,l];exact e
def Cw:bc X (.builtin "sorted") (Cv X.K):=by
 intro l s E H G J Q I r h;obtain⟨a,m,n,rfl,v,w,x,q⟩:=h;obtain⟨u,rfl,y⟩:=d8 r;cases y;obtain⟨f,g,z,L⟩:=I.list v;have A:=g.length;refine Ct z.isList (vg I g w) (by symm) λp B=>?_;have d:V7 n m.length p:=by rw[A];exact B
 obtain⟨c,j⟩:=sortedAll_at _ f _;have C:p.length=m.length:=by rw[d.1.length_eq];simp
 refine⟨.ref _,_,I.laid (λb o e=>sortedAll_old e) (NZ _) ?_,rfl,q _ p d (I.hok.fresh (NZ _))⟩;refine⟨by rw[Lo];symm,p.map λi=>f.getD i _,c,qH g p λi D=>?_,j⟩;have:=d.1.mem_iff.mp D;simpa using this
theorem P0:∀{l:List PV}{ns:List Int},J9 l=some ns->l=ns.map .int
 | [],ns,h=>by simp[J9]at h;subst h;rfl
 | x::r,ns,h=>by
   cases x with
   | int i=>
     simp only[J9,Mi]at h;obtain⟨m,a,rfl⟩:=h;rw[P0 a];rfl
   | _=>simp[J9]at h
theorem vh:∀{l:List PV}{c:List (List Int)},W3 l=some c->l=c.map (λt=>PV.tup (t.map .int))/\∀t∈c,t≠[]
 | [],c,h=>by simp[W3]at h;subst h;simp
 | x::r,c,h=>by
   cases x with
   | tup m=>
     cases m with
     | nil=>simp[W3]at h
     | cons y i=>
       unfold W3 at h;rcases d:J9 (y::i)with _ | z
       .rw[d]at h;cases h
       .rcases e:W3 r with _ | j
        .rw[d,e]at h;cases h
        .rw[d,e]at h;cases h;obtain⟨a,b⟩:=vh e;have g:=P0 d;refine⟨by rw[a,g];rfl,λt f=>?_⟩;rcases Lu.mp f with rfl | f
         .rintro rfl;simp at g
         .exact b t f
   | _=>simp[W3]at h
theorem RVs.ints_inv:∀{ns:List Int}{a:List V},RVs b H (ns.map .int) a->a=ns.map V.int
 | [],_,h=>by cases h;rfl
 | i::ns,_,h=>by cases h with | cons h r=>cases h;rw[RVs.ints_inv r];rfl
theorem vi:∀{b:List (List Int)}{c:List V},RVs e H (b.map λt=>PV.tup (t.map .int)) c->(∀t∈b,t≠[])->Paired (eX H) c b
 | [],_,h,_=>by cases h;exact .nil
 | t::b,_,h,a=>by
   cases h with
   | cons h r=>
     cases h with
     | tup d f=>
       rw[RVs.ints_inv f]at d;exact .cons ⟨_,rfl,d,a t Lz⟩ (vi r λu g=>a u (LC _ g))
theorem qI(r:RVs b H l a):∀p:List Nat,(∀i∈p,i<l.length)->RVs b H (p.map λi=>l.getD i .non) (p.map λi=>a.getD i .non)
 | [],_=>.nil
 | i::p,h=>by
   have c:=h i Lz;obtain⟨u,d,e⟩:=r.get (i:=i) (x:=l[i]) (by simp[c]);refine .cons ?_ (qI r p λj f=>h j (LC _ f));have g:l.getD i .non=l[i]:=by simp[c]
   have m:a.getD i .non=u:=by rw[LU,d];rfl
   show RV b H (l.getD i .non) (a.getD i .non);rw[g,m];exact e
def vj{b:Type}(a:List b)(d:b){p:List Nat}(c:p.Perm (Mo a.length)):(p.map λi=>a.getD i d).Perm a:=by
 refine(c.map _).trans ?_;have:(Mo a.length).map (λi=>a.getD i d)=a:=by
  apply List.ext_getElem
  .simp
  .intro i f e;simp[e]
 rw[this]
def Cy(hr:X.A.units+64<cLine)(he:Pe X cm e d)(O:Gl X "sorted")(T:X.mg "sorted" = none)(hs:autoParam (starEach [e] X.env=(false,eval e X.env)::starEach [] X.env) au2._auto_1):Pe X cm (.Call (.Name "sorted" p) [e] [] y) (b9 d):=
 D4 (Y6 (call_sortI.or Cw) O T PU (aP he bq hs) (he:=hs)) λσ H Q h=>c7 (λ_=>rfl) (λJ A H x z A' v Q g U L k=>by
  cases x with
  | ref n=>
    obtain⟨l,A1,Y,B⟩:=B0 L;obtain⟨rfl,a,C,rfl,N,r⟩:=N0 g U Y;obtain⟨m,A2,e2,j⟩:=B0 B;obtain⟨o,c⟩:=B9 e2;rcases b:J9 l with _ | ns
    .rcases E:W3 l with _ | f
     .rw[b,E]at c;cases c
     .rw[b,E]at c;cases c;cases j;obtain⟨rfl,G⟩:=vh E;have I:C.length=f.length:=by rw[<-r.length];simp
      refine .inr ⟨a,C,f,rfl,N,vi r G,by rw[<-r.length];exact o,λD p u q=>?_⟩;rw[I]at u;have es:=l6 y0 ((vj f [] u.1).trans (J2 _ _).symm) u.2 (uv f);have s:∀i∈p,i<_:=λi b=>by simpa using u.1.mem_iff.mp b
      have ep:(D9 D3 f).map (λt=>PV.tup (t.map .int))=p.map λi=>(f.map λt=>PV.tup (t.map .int)).getD i .non:=by
       rw[<-es,LM];refine NK λi b=>?_;have:=s i b;simp[this]
      have w:ax J H _ (aB H D (.lst (p.map λi=>C.getD i .non))):=ax.new q;refine k _ _ _ w (g.alloc q ⟨_,C2,?_⟩ rfl) (.ref (by rw[<-g.len];simp));rw[ep];exact(qI r p λi b=>by rw[Lo];exact s i b).mono w
    .rw[b]at c;cases c;cases j;have I:=P0 b;subst I;have hx:=RVs.ints_inv r;subst hx;refine .inl ⟨a,ns,rfl,N,by simpa using o,λD q=>?_⟩;have w:ax J H _ (aB H D (.lst ((D9 iC ns).map V.int))):=ax.new q;exact k _ _ _ w (g.alloc q ⟨_,C2,RVs.ints _⟩ rfl) (.ref (by rw[<-g.len];simp))
  | _=>cases L) h
end
end Ws
namespace Ws
open PySem L2
def Cz(K:Lm):nU K:=⟨λa b c d=>by
 simp only[Lu,Mz,or_false]at c d;rcases c with rfl | rfl | rfl | rfl | rfl | rfl<;>rcases d with rfl | rfl | rfl | rfl<;>with_unfolding_all rfl⟩
def t0(s:SD):Prop:=∀a A v b,s a A≠.ok (.rt v) b
def K2(d:t0 a)(e:t0 b):t0 (au a b):=λi A v j h=>by
 obtain⟨o,l,f,c⟩:=B0 h;cases o with
 | nx g=>exact e _ _ _ _ c
 | rt u=>exact d _ _ _ _ f
 | _=>cases c
def nX(e:t0 a)(f:t0 b):t0 (br t a b):=λg A v i h=>by
 obtain⟨c,j,l,d⟩:=B0 h;cases c with
 | true=>exact e _ _ _ _ d
 | false=>exact f _ _ _ _ d
def nY:t0 sPass:=λa A v b h=>by cases h
def l9:t0 sNever:=λa A v b h=>by cases h
def vk:t0 (aD e g):=λc A v d h=>by
 obtain⟨x,f,i,a⟩:=B0 h;obtain⟨y,j,l,b⟩:=B0 a;cases b
def O0:t0 (sFld a f e):=λi A v j h=>by
 obtain⟨x,l,m,c⟩:=B0 h;obtain⟨y,p,q,b⟩:=B0 c;cases y with
 | ref n=>
   obtain⟨o,r,s,d⟩:=B0 b;obtain⟨_,g⟩:=B9 d;cases g
 | _=>cases b
def qJ(hs:t0 s)(h:fn n p s vs A=.ok v A'):v=.non:=by
 obtain⟨_,b⟩:=B9 h;obtain⟨o,e,c,a⟩:=B0 b;cases o with
 | nx d=>cases a;rfl
 | rt u=>exact absurd c (hs _ _ _ _)
 | _=>cases a
def qK(K:Lm):Sp:=λb H Q _=>∃(a:Addr)(ns:List Int),b=[.ref a]/\bx K H a (ns.map V.int)/\ns.length<=63/\pR H/\∀c,Q (.bl true) c
def CA(K:Lm)(c:Nat->Addr):Sp:=λd H Q _=>∃(a:Addr)(ns:List Int),d=[.ref a]/\bx K H a (ns.map V.int)/\ns.length<=63/\(∀b e,H b≠some (.lst e))/\fO c H/\∀f,Q (.bl true) f
def CB(h:∀ns:List Int,∃g,f [.ref 0] [.ro (ns.map .int)]=.ok (.bl true) g)(vs:List V)(H:Hp)(Q:VK)(E:L2.XK)(q:CA K j vs H Q E):aV K j f 1 vs H Q E:=by
 obtain⟨a,ns,rfl,c,_,l,r,k⟩:=q;obtain⟨g,e⟩:=h ns;have s:Fz K H a (ns.map V.int):=by
  rcases c with(c | c) | c
  .exact absurd c (l _ _)
  .exact .inl c
  .exact .inr c
 refine⟨[a],[.ro (ns.map .int)],[.ref 0],.bl true,g,⟨r,rfl,λn o b d i=>?_,λm n b o p d i u v z A=>?_⟩,.cons (.ref rfl) .nil,rfl,e,λw x B _ _ y=>by cases y;exact k x⟩
 .cases n with
  | zero=>simp at d i;subst d;subst i;exact⟨_,s,RVs.ints ns⟩
  | succ n=>simp at d
 .cases m with
  | zero=>cases n with
    | zero=>rfl
    | succ n=>simp at v
  | succ m=>simp at u
def CC(h:∀ns:List Int,∃e,f [.ref 0] [.ro (ns.map .int)]=.ok (.bl true) e)(vs:List V)(H:Hp)(Q:VK)(E:L2.XK)(q:qK K vs H Q E)(c:autoParam (d 30=0) au0._auto_1):aV K d f 1 vs H Q E:=by
 obtain⟨a,ns,rfl,g,i,l,k⟩:=q;refine CB h _ _ _ E ⟨a,ns,rfl,g,i,λb n z=>?_,λj m=>absurd m (by rw[c];exact Nat.not_lt_zero _),k⟩;rcases l b with y | ⟨o,p,y⟩<;>(rw[z]at y;cases y)
end Ws
namespace Ws
open PySem PySem.W
def CD:∀(n:Nat)(S:Pq)(t:UD)(R:Pq),
 qL (stepOk m e) (stepT (denote f) p w) n S t=some R->topRun f p w m e n S.abs t=some R.abs:=by
 intro n;induction n with
 | zero=>intro S t R h;cases h
 | succ n ih=>
   intro S t R h;unfold topRun;have d:@Bool.rec (λ_=>Option Pq) _ _ _=some R:=h;cases a:through t with
   | true=>rw[a]at d;cases d;rfl
   | false=>
     rw[a]at d;cases b:stepOk m e t with
     | false=>rw[b]at d;cases d
     | true=>
       rw[b]at d;cases c:stepT _ p w S t with
       | none=>rw[c]at d;cases d
       | some r=>
         rw[c]at d;obtain⟨g,i⟩:=r;rw[stepT_spec c];exact ih g i R d
def CF(w:Mv)(os:UM):(qM w os).abs=⟨Qi w.params,#[],Uw,UN,os⟩:=by kernel_rfl
def CG(P:Params):((Qi P).isNs mainGlobals,(Qi P).objs.size,(Qi P).nsMap mainGlobals "__annotations__")=(true,11,some (.ref 6)):=by kernel_rfl
noncomputable def iR(h:Heap):Frag:=(Mo h.objs.size).filterMap λa=>(h.get? a).map λo=>(a,o)
theorem qN{h:Heap}:∀(l:List Nat){a:Addr}{o:Obj},(l.filterMap λa=>(h.get? a).map λo=>(a,o)).lookup a=some o->h.get? a=some o
 | [],_,_,e=>by cases e
 | b::l,a,o,e=>by
   rw[Oi]at e;cases q:h.get? b with
   | none=>rw[q]at e;exact qN l e
   | some x=>
     rw[q]at e;change ((b,x)::_).lookup a=some o at e;rw[QN]at e;by_cases z:(a == b)=true
     .rw[z]at e;cases e;rw[beq_iff_eq.mp z];exact q
     .have c:(a == b)=false:=by simpa using z
      rw[c]at e;exact qN l e
def CH(h:Heap):(iR h).In h:=λa o e=>qN _ e
def CI(S:Pq):iR S.abs.heap=mi S:=by
 have g:S.abs.heap.objs.size=S.n:=absHeap_size ..;unfold iR mi;rw[g];have e:∀l:List Nat,(∀a∈l,a<S.n)->(l.filterMap λa=>(S.abs.heap.get? a).map λo=>(a,o))=l.filterMap λa=>(alive ((S.tree.get a).getD default)).map λo=>(a,o):=by
  intro l;induction l with
  | nil=>intro _;rfl
  | cons a l ih=>
    intro h;have f:S.abs.heap.get? a=alive ((S.tree.get a).getD default):=by
     show(absHeap _ S.n _).get? a=_;unfold Heap.get?;rw[absHeap_at,if_pos (h a (.head _))];cases(S.tree.get a).getD default with
     | mk c d i m=>cases i<;>rfl
    rw[Oi,Oi,f,ih λb j=>h b (.tail _ j)]
 exact e _ λa f=>Nn.mp f
noncomputable def Kw(p:LK)(N:Nat)(w:Mv):Frag:=match openEnds treeTable p w N with
 | some s=>iR s.heap
 | none=>[]
def CJ{q:LK->LK}{Xt:LK->Ln->Bool}{v:Type}{ob:Frag->v}{va:LK->v}
    
 
 (C:p=f) (i:stepOk=ok) (j:stepT=st) (l:denote=x) (m:treeTable=y) (n:openSeen=z)
 (D:∀w:Mv,(fencedOpening treeTable p w N).map (λs=>(s.heap,s.gens,s.drawn,s.toks))=some (Qi w.params,#[],Uw,UN))
 (E:∀(w:Mv)(os:UM),(qL (ok 11 (some (.ref 6))) (st (x y) f w) N (qM w os) (topStub f)).map (λS=>(lk z f (q f) a (Xt f) w S.abs,ob (mi S)))=some ((true,openGood (q f) a),va f)) :
 LeftO p (q p) a (Xt p) (λs=>iR s.heap) (Kw p N) N/\∀w,ob (Kw p N w)=va p:=by
 subst C i j l m n;have g:∀w,∃s,openEnds treeTable p w N=some s/\openSeen (q p) a (importedModules p.main.body) (Xt p) true s=openGood (q p) a/\ob (iR s.heap)=va p:=by
  intro w;obtain⟨⟨h,L,d,k,os⟩,e,A⟩:=Mi.mp (D w);simp only[Uo]at A;obtain⟨rfl,rfl,rfl,rfl⟩:=A;obtain⟨S,r,c⟩:=Mi.mp (E w os);simp only[lk,Uo]at c;obtain⟨⟨G,o⟩,u⟩:=c;have B:=CD N _ _ _ r;rw[CF]at B;have b:=CG w.params;simp only[Uo]at b;obtain⟨H,I,J⟩:=b;refine⟨S.abs,?_,o,by rw[CI];exact u⟩;unfold openEnds;rw[e];show topFrom treeTable p w N _=_;unfold topFrom;rw[H,I,J,B];show(match staticsOk _ _ _&&namesBound p _&&gensDone _&&laidKept _ _ with | true=>some _ | false=>none)=_;rw[G]
 refine⟨λw=>?_,λw=>?_⟩
 .obtain⟨s,e,o,_⟩:=g w;rw[e];unfold Kw;rw[e];exact congrArg some (Prod.ext o rfl)
 .obtain⟨s,e,_,u⟩:=g w;unfold Kw;rw[e];exact u
noncomputable def CK:Stmt->Pos
 | .FunctionDef _ _ _ _ _ _ _ _ _ p=>p
 | _=>⟨0,0,0,0⟩
def CL{l:OpenLaw}
 (left:LeftO l.row.prog q loose (λs=>xlAt q [] s&&recOk (RowW.records l.row.toRowW) s) (λs=>iR s.heap) (Kw l.row.prog N) N)
 (hdef:defOf q l.row.name=some (d,[])) (hp:l.row.prog.theDef l.row.name=some (d.params,d.body,d.scope)) (hk:kwWritten? d.params.kwonlyargs d.params.kw_defaults=some [])
 (hwr:(!l.row.writes||l.row.records.isEmpty)=true) (k1:l.row.wellSaid=true) (ok:(chainsOk q&&opensWell l.row.prog&&(frees l.row.toRowW&&l.row.within.isEmpty))=true) (hb:l.row.prog.bare) (hw:l.row.toRowW.promised)
 (call:WalkO q loose (XL q []) (λw h=>(Kw l.row.prog N w).In h) l.row.toRowW d [] λf vs=>PySem.call f vs):l.row.Holds:=
 holds_open left (λw s e=>by rw[<-e];exact CH _) (λw h h' x k=>x.keeps k) (λs e=>xl_of s (QX.mp e).1) XL.keeps hdef hp hk (λs e=>recFacts_of (QX.mp e).2) hwr k1 ok hb hw call
def p1{d e:Type}{a c:d}{b f:e}(h:(a,b)=(c,f)):a=c:=(Prod.mk.inj h).1
end Ws
namespace Ws
open PySem L2
def CM{l:PySem.W.OpenLaw}{XP:(Str->Option Ll)->Heap->Prop}{K:Mv->Lm}(I:l.most=some 63)(r:d.params.defaults=[])(J:aN k PySem.callerA)
 (B:∀(w:Mv)(h:Heap),A w h->(K w).In h)
 (F:∀(w:Mv)(mg:Str->Option Ll)(p:Addr)(h:Heap),(K w).In h->h.Ns mainGlobals mg->mg d.name=some (.ref p)->
  ∃v:LN,(∀(s:Ln)(u:Ll),UQ s v ⟨[u],[]⟩ [(x,u)])/\∀c:Heap,(K w).In c->c.Ns mainGlobals mg->az l.prog w (K w) mg c aR k p v [x] (qK (K w))) :
 PySem.W.WalkO q j XP A l.row.toRowW d [] (λf C=>PySem.call f C):=by
 refine Att.AR I r λw D E mg mb p o pm cd L a C ns G Y ho hd N y n m i O=>?_;obtain⟨v,Q,U⟩:=F w mg p _ (B w _ Y) G.T.g y;exact AS (B w _ Y) G.T.g G.T.b G.T.builtins G.T.nolimit O n m (LW i (by decide)) J U Q (λH hO hS=>⟨a,ns,rfl,hS,i,hO,λ_=>rfl⟩) λH e s' z=>z
end Ws
open PySem PySem.Spec PyProof.Rows
namespace Ws
open PySem L2
def Pairs.cons_inv{c a:Type}{f:c->a}{p:c×PV}{r:List (c×PV)}{kv:List (a×V)}(h:Pairs f ρ H (p::r) kv):∃u b,kv=(f p.1,u)::b/\RV ρ H p.2 u/\Pairs f ρ H r b:=by
 obtain⟨k,v⟩:=h;cases kv with
 | nil=>cases k
 | cons q t=>
   obtain⟨g,u⟩:=q;simp only[LX,Qf]at k;cases v with
   | cons d e=>exact⟨u,t,by rw[<-k.1],d,k.2,e⟩
def Pairs.nil_inv{b a:Type}{f:b->a}{kv:List (a×V)}(h:Pairs f ρ H [] kv):kv=[]:=by
 obtain⟨k,v⟩:=h;cases kv with
 | nil=>rfl
 | cons q t=>cases k
def Pairs.cons'{b a:Type}{f:b->a}{p:b×PV}{r:List (b×PV)}{kv:List (a×V)}(h:RV ρ H p.2 u)(t:Pairs f ρ H r kv):Pairs f ρ H (p::r) ((f p.1,u)::kv):=
 ⟨by rw[LX,LX,t.keys],.cons h t.vals⟩
end Ws
namespace Ws
open PySem PySem.W PyProof.Rows L2
def c8{M:UU}(hs:starEach [e] a=(false,eval e a)::starEach [] a)(h:wpAny M A (eval e a) (λu c=>Q [u] c) E s):wpAny M A (spliced (backTo b (starEach [e] a))) Q E s:=by
 rw[hs];exact NW (aI h λu c q=>Pb q)
def CN{X:Cx}(h:gz X.K cm aNil σ H Q):tNil σ H Q:=by
 obtain⟨a,A,b,e,f,c,g,d,k⟩:=h;cases d;exact k a H [] (ax.refl _ _) c .nil
def fZ(D:i8 X.prog X.w X.K X.mg X.base cm c m k ps f n)(u:k<=r)(x:aN r X.A)(y:dC X.K (cm c))(z:Pe X cm o d)(g:∀i,i<19->cE i≠m)
 (B:autoParam (eval (.Call (.Attribute o m b) [] [] e) X.env=(do
  let ov <-eval o X.env
  standAt b.atName
  let(f,first) <-holding [ov] (getMethod ov m s)
  callWith e f first (backTo e (starEach [] X.env)) (backToKw e (keywordEach [] X.env)))) au0._auto_1) :
 Pe X cm (.Call (.Attribute o m b) [] [] e) (aQ c f d aNil):=by
 obtain⟨fa,fd,F,C,E⟩:=D.ex;refine D4 (Ae z y C F (x.mono u) E .nil nc B) λσ H Q h=>?_;obtain⟨G,A,j,v,I,J,L,N,k⟩:=uL D.len g h;exact⟨G,A,j,v,I,J,L,N,λl O T U p q=>by
  obtain⟨a,Y,fs,h1,h2,h3,h4⟩:=k l O T U p q;exact⟨a,Y,fs,h1,h2,h3,CN h4⟩⟩
structure ef(K:Lm)(x qual:Str)(st:Stmt)(f:Addr)(fd:LN)(items:Array Ll):Prop where
 ex:∃(T:Addr)(oc:Ll)(od:Option Addr)(kV doc pm:Ll)(an:Option Addr)(cdv ct:Ll)(osl:Array (Option Ll))(tc:Ll)(td:Option Addr)(tn:Nat)(ts:Array (Option Ll)),
  fd=Om x qual (M7 st) (G0 st) (C4 st) (.ref T) kV doc pm an cdv ct/\K.lookup f=some ⟨oc,od,.func fd,osl⟩/\Qy K cdv qual=true/\K.lookup T=some ⟨tc,td,.seq items tn,ts⟩
 kp:Od K (.ref f)=true
def ef.binds{K:Lm}{st:Stmt}(F:ef K x a st f j items)(n:Nat)(r:n+e.length=ps.length)
 (h:∀(T:Addr)(kV b g:Ll)(i:Option Addr)(c ct:Ll)(d:List Ll),d.length=n->∃k,bindArgs (Om x a (M7 st) (G0 st) (C4 st) (.ref T) kV b g i c ct) ⟨d,[]⟩=(seqItems? (.ref T)>>=k)/\k (some items)=pure (ps.zip (d++e))):L2.Binds K j ps e:=by
 obtain⟨T,u,v,kV,b,g,i,c,ct,l,y,z,A,B,rfl,lk,m,lt⟩:=F.ex;intro s d X o;obtain⟨k,p,q⟩:=h T kV b g i c ct d (by rw[LR]at o;symm);exact binds_K X rfl lt rfl p q
def CO{K:Lm}{st:Stmt}{kV d h b ct:Ll}
 (l:K.lookup f=some ⟨i,j,.func (Om x a (M7 st) (G0 st) (C4 st) (.ref T) kV d h g b ct),e⟩) (c:Qy K b a=true) (k:Od K (.ref f)=true) (lt:K.lookup T=some ⟨m,n,.seq items o,p⟩) :
 ef K x a st f (Om x a (M7 st) (G0 st) (C4 st) (.ref T) kV d h g b ct) items:=⟨⟨T,i,j,kV,d,h,g,b,ct,e,m,n,o,p,rfl,l,c,lt⟩,k⟩
def CP{K:Lm}{st:Stmt}(F:ef K x b st f q items)(S:R7 N ps (C4 st))
 (d:∀(c:Ll)(A:Mq)(a:List Env)(j:Ln)(H:Hp)(E:L2.XK),aN k (A.deeper (My b (C4 st) j.heap.objs.size f c))->
  bZ (v9 aR P w K mg base N b (C4 st) f c A a j H E).nox (G0 st) (gA K cm s)) :
 az P w K mg base aR (k+1) f q ps (aV K cm (fn N.length ps.length s) ps.length):=by
 obtain⟨T,oc,od,kV,I,pm,an,c,ct,J,tc,td,tn,ts,rfl,lk,l,lt⟩:=F.ex;refine pM lk l S (λL H Q E ⟨r,A,y,v,A',z,m,C,_,_⟩=>by rw[<-m.length];exact C) λA a j H L Q E O h=>⟨_,(d c A a j H E O).nox,?_⟩;obtain⟨r,B,y,v,B',z,m,C,U,k⟩:=h;obtain⟨_,n⟩:=B9 U;obtain⟨o,Y,e1,e⟩:=B0 n;refine⟨r,B,Ws.start _ y,o,Y,z,bR.start0 m,e1,λg D G i=>?_⟩;cases o with
 | nx a1=>cases e;exact λa2 _=>k g D _ G i .non
 | rt u=>cases e;exact λv' p=>k g D v' G i p
 | _=>cases e
section
variable{X:Cx}{cm:Nat->Addr}
theorem vm:∀{bs:List Bool}{a:List Ll},aA (bs.map V.bl) a->∀(i:Nat)(v:Ll),a[i]?=some v->∃b,bs[i]?=some b/\v=.bool b
 | [],_,.nil,i,v,h=>by simp at h
 | b::bs,_,.cons r t,0,v,h=>by
   cases r;simp at h;subst h;exact⟨b,rfl,rfl⟩
 | b::bs,_,.cons r t,i+1,v,h=>vm t i v (by simpa using h)
def CQ(bs:List Bool):((Mo bs.length).all λi=>(bs[i]?).getD true)=bs.all id:=by
 induction bs with
 | nil=>rfl
 | cons b r ih=>
   rw[Me,SX,Qg,List.all_map,Qg,<-ih];rfl
def CS(K:Lm):List V->Hp->VK->Prop:=λb H Q=>∃(a:Addr)(bs:List Bool),b=[.ref a]/\bx K H a (bs.map V.bl)/\Q (.bl (bs.all id)) H
def CT(c:X.calm=true):bc X (.builtin "all") (CS X.K):=by
 intro p s J H L N Q I r h;obtain⟨a,bs,rfl,x,q⟩:=h;obtain⟨u,rfl,y⟩:=d8 r;cases y;obtain⟨f,w,z,O⟩:=I.list x;have d:=z.isList;have l:a<s.heap.objs.size:=by
  obtain⟨_,e,_⟩:=d;exact Lr e
 have g:f.length=bs.length:=by
  have:=w.length;simpa using this.symm
 refine call_all_walk (Ow d ⟨s.heap.objs.size,[s.heap.objs.size,a],[s.heap.objs.size],_,_,_,λi=>(bs[i]?).getD true,rfl,
  UZ.list (A:=X.A.in1) (I.ok.hd c) _ a (Ly l) _,⟨⟨_,Lq _ rfl,rfl,rfl⟩,d.push _⟩,?_,?_⟩)
 .intro i v B C T D m;obtain⟨b,n,rfl⟩:=vm w i v (by simpa using D);have j:C ((bs[i]?).getD true) B:=m;rw[n]at j;exact NJ j
 .intro U Y E;have n:f.toArray.size=bs.length:=by exact g
  rw[n,CQ];exact⟨.bl _,H,I.kept (λb o e=>E b o (λG=>by rw[Ls.mp G]at e;exact absurd (Lr e) (NP _)) (L3 _ e)),rfl,q⟩
theorem vn:∀{l:List PV}{bs:List Bool},z0 l=some bs->l=bs.map .bl
 | [],bs,h=>by simp[z0]at h;subst h;rfl
 | x::r,bs,h=>by
   cases x with
   | bl b=>
     simp only[z0,Mi]at h;obtain⟨m,a,rfl⟩:=h;rw[vn a];rfl
   | _=>simp[z0]at h
theorem vo:∀{c:List Addr}{H:Hp}{bs:List Bool}{a:List V},RVs c H (bs.map PV.bl) a->a=bs.map V.bl
 | _,_,[],_,.nil=>rfl
 | _,_,b::bs,_,.cons h t=>by cases h;rw[vo t];rfl
def CU(c:X.calm=true)(he:Pe X cm e d)(o:Gl X "all")(q:X.mg "all" = none)(hs:autoParam (starEach [e] X.env=(false,eval e X.env)::starEach [] X.env) au2._auto_1):Pe X cm (.Call (.Name "all" p) [e] [] f) (fA d):=
 D4 (Y6 (CT c) o q rfl (aP he bq hs) (he:=hs)) λy H Q h=>c7 (λ_=>rfl) (λr A H x z A' v Q i s j k=>by
  cases x with
  | ref n=>
    obtain⟨l,A1,u,b⟩:=B0 j;obtain⟨rfl,a,B,rfl,w,m⟩:=N0 i s u;cases g:z0 l with
    | none=>rw[g]at b;cases b
    | some bs=>
      rw[g]at b;cases b;rw[vn g]at m;exact⟨a,bs,rfl,by rw[<-vo m];exact w,k r H _ (ax.refl _ _) i (.bl _)⟩
  | _=>cases j) h
theorem Z3:∀{b:List Addr}{H:Hp}{ns:List Int}{a:List V},RVs b H (ns.map PV.int) a->a=ns.map V.int
 | _,_,[],_,.nil=>rfl
 | _,_,i::ns,_,.cons h t=>by cases h;rw[Z3 t];rfl
def mj:Pe X cm (.UnaryOp .USub (.Constant (.int i) j b) a) (eK (.int (-i))):=
 D4 (zI zL sU) λh H Q c=>by
  obtain⟨d,A,e,v,l,f,m,g,k⟩:=c;cases g;exact⟨i,rfl,k d H _ (ax.refl _ _) f (.int _)⟩
def CV(I:Pe X cm o d)(he:Pe X cm e (eK (.int 0)))
 (J:autoParam (attributeBase o "pop" X.env (eval o X.env)=eval o X.env) au0._auto_1) (hs:autoParam (starEach [e] X.env=(false,eval e X.env)::starEach [] X.env) au2._auto_1)
 (hfew:autoParam (((backTo b (starEach [e] X.env)).all (λx=>!x.1)&&(backToKw b (keywordEach [] X.env)).all (λx=>x.1.isSome)&&decide ([e].length+([]:List Ro).length+(if([]:List Ro).isEmpty then 0 else 1)<30))=true) au0._auto_1)
 (hline:autoParam ((h.endLine == b.line)=true) au0._auto_1):Pe X cm (.Call (.Attribute o "pop" h) [e] [] b) (nu d):=
 D4 (pP Qh PySem.F.slot_list_pop PySem.F.type_list_pop AL I (aP he bq hs) (hbase:=J) (hfew:=hfew) (hline:=hline) (hs:=hs)) λσ H Q L=>by
  obtain⟨N,A,i,v,A',O,C,T,k⟩:=L;obtain⟨x,U,Y,j⟩:=B0 T;refine⟨N,A,i,x,U,O,C,Y,λq H1 v1 D l m=>?_⟩;cases x with
  | ref n=>
    obtain⟨l0,A2,E,p⟩:=B0 j;have s:=E;obtain⟨rfl,hA,a,xs,rfl,hn,hH,r0⟩:=K4 l m E;refine⟨.inl ⟨rfl,xs,bx.of hH⟩,q,_,i,[.int 0],_,l,C.mono D,rfl,λu H2 a4 G c w=>?_⟩;cases w with
    | cons hv hr=>
      cases hr;cases hv;obtain⟨_,f,a2,ys,e5,g,z,r2⟩:=K4 c (m.mono G) s;cases e5;cases l0 with
      | nil=>cases p
      | cons y r=>
        cases p;cases r2 with
        | cons hy B=>
          refine⟨a,_,0,0,_,rfl,rfl,z,by symm,by symm,by unfold seqIndex?;simp,rfl,?_⟩;refine k u _ _ ((D.trans G).trans (ax.put c g f rfl)) (c.put g f rfl rfl ⟨_,C2,?_⟩) (hy.mono (ax.put c g f rfl));exact B.mono (ax.put c g f rfl)
  | _=>cases j
end
end Ws
namespace Ws
open PySem PySem.W PyProof.Rows L2
section
variable{X:Cx}{cm:Nat->Addr}
def CW(K:Lm):List V->Hp->VK->Prop:=λc H Q=>∃(a:Addr)(b:List V),c=[.ref a]/\bx K H a b/\∀p,H p=none->Q (.ref p) (aB H p (.tup b))
def CY:bc X (.type "tuple") (CW X.K):=by
 intro d s w H x y Q I r h;obtain⟨a,j,rfl,l,q⟩:=h;obtain⟨u,rfl,m⟩:=d8 r;cases m;obtain⟨c,f,n,g⟩:=I.list l;have p:=f.length;refine call_tuple_list n.isList (λz v=>?_) (by rw[LF,<-p];exact g);have i:=I.kept (t':=s.toks) v;exact⟨.ref _,_,i.laid (o:=.tup j) (λb o e=>L3 _ e) (Lp _) ⟨g,c,f,_,Lq _ rfl,rfl,_,rfl⟩,rfl,q _ (i.hok.fresh (Lp _))⟩
def CZ(he:Pe X cm e d)(u:Gl X "tuple")(w:X.mg "tuple" = none)(f:bootBuiltins "tuple" = some (.type "tuple"))(hs:autoParam (starEach [e] X.env=(false,eval e X.env)::starEach [] X.env) au2._auto_1):Pe X cm (.Call (.Name "tuple" p) [e] [] b) (i4 d):=
 D4 (Y7 CY u w f (aP he bq hs) (he:=hs)) λD H Q h=>c7 (λ_=>rfl) (λg A H x z A' v Q m y o k=>by
  cases x with
  | ref n=>
    obtain⟨l,A1,B,i⟩:=B0 o;obtain⟨rfl,a,q,rfl,C,f⟩:=N0 m y B;obtain⟨c,j⟩:=B9 i;cases j;refine⟨a,q,rfl,C,λp r=>?_⟩;have s:ax g H g (aB H p (.tup q)):=ax.same r;exact k g _ _ s (m.tup r) (.tup C2 (f.mono s))
  | _=>cases o) h
def C0(ho:Pe X cm o d)(he:Pe X cm e u)
 (hb:autoParam (attributeBase o "extend" X.env (eval o X.env)=eval o X.env) au0._auto_1) (hs:autoParam (starEach [e] X.env=(false,eval e X.env)::starEach [] X.env) au2._auto_1)
 (hfew:autoParam (((backTo f (starEach [e] X.env)).all (λx=>!x.1)&&(backToKw f (keywordEach [] X.env)).all (λx=>x.1.isSome)&&decide ([e].length+([]:List Ro).length+(if([]:List Ro).isEmpty then 0 else 1)<30))=true) au0._auto_1)
 (hline:autoParam ((p.endLine == f.line)=true) au0._auto_1):Pe X cm (.Call (.Attribute o "extend" p) [e] [] f) (nv d u):=
 D4 (pP Qh PySem.F.slot_list_extend PySem.F.type_list_extend AK ho (aP he bq hs) (hbase:=hb) (hfew:=hfew) (hline:=hline) (hs:=hs)) λσ H Q hq=>by
  obtain⟨ρ,A,q,v,A',rl,O,ev,k⟩:=hq;obtain⟨x,A1,e1,r⟩:=B0 ev;refine⟨ρ,A,q,x,A1,rl,O,e1,λB H1 v1 T s w=>?_⟩;cases x with
  | ref n=>
    obtain⟨l0,A2,e2,C⟩:=B0 r;obtain⟨rfl,hA,a,xs,rfl,hn,hH,r0⟩:=K4 s w e2;refine⟨.inl ⟨rfl,xs,bx.of hH⟩,?_⟩;obtain⟨y,A3,e3,z⟩:=B0 C;refine⟨B,_,q,[y],A3,s,O.mono T,by show ao _ _ _=_;rw[ay e3];rfl,λD H2 c0 U g E=>?_⟩;cases E with
    | cons hv hr=>
      cases hr;cases y with
      | ref j=>
        obtain⟨l,A4,e4,G⟩:=B0 z;obtain⟨rfl,h,a2,ys,e5,i,I,Y⟩:=K4 g (w.mono U) e4;cases e5;obtain⟨m,A5,e6,J⟩:=B0 G;obtain⟨rfl,d2,b,zs,rfl,e7,L,r3⟩:=K4 g hv e6;obtain⟨c,N⟩:=B9 J;cases N;refine⟨a,b,ys,zs,rfl,rfl,I,L,by rw[<-Y.length,<-r3.length];exact W4 c,?_⟩;refine k D _ _ ((T.trans U).trans (ax.put g i h rfl)) (g.put i h rfl rfl ⟨_,C2,?_⟩) .non;exact(Y.mono (ax.put g i h rfl)).append (r3.mono (ax.put g i h rfl))
      | _=>cases z
  | _=>cases r
end
section
variable{prog:LK}{w:Mv}{A:Mq}{E:Ll->Ln->Prop}{s:Ln}
def Dc(e:s.heap.IsTupleIter c t i)(l:s.heap.IsTuple t a)(m:a[i]?=some x)
 (n:∀f,f.IsTupleIter c t (i+1)->MA c s.heap f->Q x { s with heap:=f }):wpAny (model prog w) A (Ot (.ref c)) Q E s:=by
 obtain⟨o,d,p,b⟩:=id e;obtain⟨q,g,_,r,h⟩:=l;refine L0 (Mj e.typeIs Nk (Mc Nk e.typeIs OW ?_ (OS _)));show wpAny _ _ (field _ 0>>=_) _ _ s;refine L0 (Mx d b (x:=.ref t) rfl ?_);refine L0 (Mx d b rfl ?_);refine L0 (NR g h ?_);simp only[NL,m];refine L0 (Nz d b (by simp) (Lk ⟨x,rfl,Lk (n _ ⟨_,Mn _ d (Ng (Mr b _)),(Oz ..).trans p,by rw[Mr b];simp[rawInt]⟩ (Ms ..))⟩))
def Dd(n:A.handled=none)(d:s.heap.IsTupleIter c t i)(q:s.heap.IsTuple t b)(r:b[i]?=none)
 (u:∀f e,Qu c s.heap f->(∃o,f.get? e=some o/\o.cls=.type "StopIteration")->E (.ref e) { s with heap:=f }):wpAny (model prog w) A (Ot (.ref c)) Q E s:=by
 obtain⟨o,g,v,h⟩:=id d;obtain⟨y,j,_,z,l⟩:=q;refine L0 (Mj d.typeIs Nk (Mc Nk d.typeIs OW ?_ (OS _)));show wpAny _ _ (field _ 0>>=_) _ _ s;refine L0 (Mx g h (x:=.ref t) rfl ?_);refine L0 (Mx g h rfl ?_);refine L0 (NR j l ?_);simp only[NL,r];refine L0 (Ph (L0 (Nz g h (by simp) ?_)));refine L0 ?_;refine L0 (m:=firstArgMember _ _) (Rq (a:=MZ) rfl ?_);refine MN ?_ (by size_fits);refine L0 (Rc ?_);first | rw[show _=none from n] | rw[n]
 refine L0 (Lk (Su ?_));exact u _ _ (((Ms ..).extBut.push _).push _) ⟨_,Lq _ rfl,rfl⟩
def bj(k:Bool)(h:Heap)(a l:Addr)(i:Nat):Prop:=match k with
 | true=>h.IsTupleIter a l i
 | false=>h.IsListIter a l i
def SeqAt(k:Bool)(h:Heap)(l:Addr)(a:Array Ll):Prop:=match k with
 | true=>h.IsTuple l a
 | false=>h.IsList l a
def bj.at(x:bj k h a l i)(e:∀o,h.get? a=some o->h'.get? a=some o):bj k h' a l i:=by
 cases k with
 | true=>exact Heap.IsTupleIter.at x e
 | false=>exact Heap.IsListIter.at x e
def SeqAt.at(x:SeqAt k h l a)(e:∀o,h.get? l=some o->h'.get? l=some o):SeqAt k h' l a:=by
 cases k with
 | true=>obtain⟨o,b,c⟩:=x;exact⟨o,e o b,c⟩
 | false=>exact Heap.IsList.at x e
def bj.obj(x:bj k h a l i):∃o b,h.get? a=some o/\o.data=.fields b:=by
 cases k with
 | _=>obtain⟨o,c,_,d⟩:=x;exact⟨o,_,c,d⟩
def SeqAt.lt(x:SeqAt k h l a):l<h.objs.size:=by
 cases k with
 | _=>obtain⟨o,b,_⟩:=x;exact Lr b
def m3(d:bj k s.heap b t i)(e:SeqAt k s.heap t a)(f:a[i]?=some x)
 (g:∀c,bj k c b t (i+1)->MA b s.heap c->Q x { s with heap:=c }):wpAny (model prog w) A (Ot (.ref b)) Q E s:=by
 cases k with
 | true=>exact Dc d e f g
 | false=>exact wpAny_nextOf_list_item d e f g
def nZ(d:A.handled=none)(f:bj k s.heap b t i)(g:SeqAt k s.heap t a)(h:a[i]?=none)
 (j:∀c e,Qu b s.heap c->(∃o,c.get? e=some o/\o.cls=.type "StopIteration")->E (.ref e) { s with heap:=c }):wpAny (model prog w) A (Ot (.ref b)) Q E s:=by
 cases k with
 | true=>exact Dd d f g h j
 | false=>exact wpAny_nextOf_list_end d f g h j
noncomputable def ml(k:Bool)(l:Addr):Obj:={ cls:=.type (match k with | true=>"tuple_iterator" | false=>"list_iterator"),data:=.fields #[.ref l,.int 0 0] }
def vp(k:Bool)(h:Heap)(l:Addr):bj k (h.push (ml k l)) h.objs.size l 0:=by
 cases k with
 | _=>exact⟨_,Lq _ rfl,rfl,rfl⟩
def vq(b:SeqAt k s.heap l a)(c:Q (.ref s.heap.objs.size) { s with heap:=s.heap.push (ml k l) }):wpAny (model prog w) A (pyIter (.ref l)) Q E s:=by
 cases k with
 | true=>exact OP b c
 | false=>exact Ow b c
def qO(h:Heap)(z TI TO:Addr):Prop:=∃(a:Ll)(e:Bool),(a=.none\/∃T:Addr,a=rawInt T)/\h.get? z=some { cls:=.type "zip",dict:=none,data:=.fields #[a,.bool e,.bool false,.ref TI,.ref TO],slots:=#[] }
abbrev oa(d:Ll)(e:Bool)(TI TO:Addr):Obj:={ cls:=.type "zip",dict:=none,data:=.fields #[d,.bool e,.bool false,.ref TI,.ref TO],slots:=#[] }
structure eY(k1 k2:Bool)(z TI TO i1 i2 l1 l2:Addr)(i:Nat)(h:Heap):Prop where
 zr:qO h z TI TO
 ti:UP h TI (.ref i1) (.ref i2)
 to:∃a b,UP h TO a b
 j1:bj k1 h i1 l1 i
 j2:bj k2 h i2 l2 i
abbrev Kp(z TO a b:Addr)(h h':Heap):Prop:=∀c o,c≠z->c≠TO->c≠a->c≠b->h.get? c=some o->h'.get? c=some o
structure ZA(z TI TO i1 i2 l1 l2:Addr):Prop where
 TIz:TI≠z
 TOz:TO≠z
 i1z:i1≠z
 i2z:i2≠z
 TITO:TI≠TO
 TIi1:TI≠i1
 TIi2:TI≠i2
 TOi1:TO≠i1
 TOi2:TO≠i2
 i12:i1≠i2
 l1z:l1≠z
 l1TO:l1≠TO
 l1i1:l1≠i1
 l1i2:l1≠i2
 l2z:l2≠z
 l2TO:l2≠TO
 l2i1:l2≠i1
 l2i2:l2≠i2
def eY.keep{z TI TO c d j l2:Addr}(S:eY f g z TI TO c d j l2 i h)(k:∀b∈[z,TI,TO,c,d],∀o,h.get? b=some o->h'.get? b=some o):eY f g z TI TO c d j l2 i h':=by
 obtain⟨⟨l,m,n,p⟩,q,⟨a,b,r⟩,u,v⟩:=S;exact⟨⟨l,m,n,k z (by simp) _ p⟩,k TI (by simp) _ q,⟨a,b,k TO (by simp) _ r⟩,u.at λo e=>k c (by simp) o e,v.at λo e=>k d (by simp) o e⟩
def De(h:Q (s.heap.get? a) s):wpAny (model prog w) A (loadIfAlive a) Q E s:=λ_ _ _=>h
def vr{z TI TO:Addr}(hz:qO s.heap z TI TO)(h:∀b c d a,c.get? z=some (oa d a TI TO)->(b=false->∃T:Addr,d=rawInt T)->MA z s.heap c->Q b { s with heap:=c }) :
 wpAny (model prog w) A (MK.SmallTypes.ownedTupleIsFree (.ref z)) Q E s:=by
 obtain⟨d,a,j,hz⟩:=hz;rcases j with rfl | ⟨T,rfl⟩
 .exact L0 (Mx hz rfl rfl (Lk (h true _ _ _ hz (by simp) ⟨rfl,λ_ _=>rfl⟩)))
 .refine L0 (Mx hz rfl rfl ?_);refine L0 (De ?_);by_cases i:(s.heap.get? ((T:Int).toNat)).isNone=true
  .rw[if_pos i];exact Lk (h true _ _ _ hz (by simp) ⟨rfl,λ_ _=>rfl⟩)
  .rw[if_neg i];refine L0 (Mx hz rfl (x:=.bool a) rfl ?_);cases a with
   | true=>
     exact Lk (h false _ _ _ hz (λ_=>⟨T,rfl⟩) ⟨rfl,λ_ _=>rfl⟩)
   | false=>
     refine L0 (Mw hz (by simp) λl e f=>Lk (h false l _ true e (λ_=>⟨T,rfl⟩) f))
def Df{z TI TO i1 i2 l1 l2:Addr}{Q:Ll->Ln->Prop}(D:ZA z TI TO i1 i2 l1 l2)(S:eY k1 k2 z TI TO i1 i2 l1 l2 k s.heap)
 (e5:SeqAt k1 s.heap l1 xs) (e6:SeqAt k2 s.heap l2 ys) (hx:xs[k]?=some x) (hy:ys[k]?=some y)
 (hQ:∀h',eY k1 k2 z TI TO i1 i2 l1 l2 (k+1) h'->UP h' s.heap.objs.size x y->Kp z TO i1 i2 s.heap h'->Q (.ref s.heap.objs.size) { s with heap:=h' }) :
 wpAny (model prog w) A (MK.«zip.__next__» ⟨[.ref z],[]⟩) (λfin s'=>∃v,fin=.done (.ret v)/\Q v s') E s:=by
 obtain⟨hz,a2,⟨a,b,e7⟩,h1,h2⟩:=S;obtain⟨g0,g1,_,b5⟩:=id hz;show wpAny _ _ (field _ 2>>=_) _ _ _;refine L0 (Mx b5 rfl (x:=.bool false) rfl ?_);refine L0 (Mx b5 rfl rfl ?_);refine L0 (NR a2 rfl ?_);refine L0 (vr hz λfr h0 f0 f1 a3 e8 m=>?_);have a0:=m.extBut _ _ D.TOz e7;have j1:=h1.at λo e=>m.extBut _ _ D.i1z e;have j2:=h2.at λo e=>m.extBut _ _ D.i2z e;have q1:=e5.at λo e=>m.extBut _ _ D.l1z e;have q2:=e6.at λo e=>m.extBut _ _ D.l2z e;cases fr with
 | true=>
   simp only[if_true];refine L0 (Ph ?_);refine L0 (Mx a3 rfl rfl ?_);refine L0 (Mw a3 (by simp) λc0 p g=>?_);replace p:c0.get? z=some _:=p;refine L0 ?_;simp only[List.zipIdx_cons,List.zipIdx_nil,List.forIn_cons,List.forIn_nil];refine L0 (L0 (Sv ?_));refine L0 (m3 (j1.at λo e=>g.extBut _ _ D.i1z e) (q1.at λo e=>g.extBut _ _ D.l1z e) hx λd0 q d=>Lk ?_);have C:=d.extBut _ _ D.TOi1 (g.extBut _ _ D.TOz a0);refine L0 (NR C rfl ?_);refine L0 (QY C λd1 n h=>?_);replace n:UP d1 TO x b:=n;refine L0 (Ue (Lk ?_));refine L0 (L0 (Sv ?_));refine L0 (m3 (j2.at λo e=>h.extBut _ _ D.TOi2.symm (d.extBut _ _ D.i12.symm (g.extBut _ _ D.i2z e))) (q2.at λo e=>h.extBut _ _ D.l2TO (d.extBut _ _ D.l2i1 (g.extBut _ _ D.l2z e))) hy λG r f=>Lk ?_);have H:=f.extBut _ _ D.TOi2 n;refine L0 (NR H rfl ?_);refine L0 (QY H λl i j=>?_);replace i:UP l TO x y:=i;refine L0 (Ue (Lk (Lk ?_)));refine L0 (NR i rfl ?_);have a4:l.objs.size=s.heap.objs.size:=by rw[j.1,f.1,h.1,d.1,g.1,m.1]
   have J:=j.extBut _ _ D.TOz.symm (f.extBut _ _ D.i2z.symm (h.extBut _ _ D.TOz.symm (d.extBut _ _ D.i1z.symm p)));have L:Kp z TO i1 i2 _ l:=λc o I c2 c3 c4 e=>
    j.extBut _ _ c2 (f.extBut _ _ c4 (h.extBut _ _ c2 (d.extBut _ _ c3 (g.extBut _ _ I (m.extBut _ _ I e)))))
   have a8:=q.at λo e=>j.extBut _ _ D.TOi1.symm (f.extBut _ _ D.i12 (h.extBut _ _ D.TOi1.symm e));have a9:=r.at λo e=>j.extBut _ _ D.TOi2.symm e;have a1:=Lr J;show wpAny _ _ (MK.SmallTypes.ownedTupleHandOut (.ref z) (.ref l.objs.size)>>=_) _ _ _;refine L0 ?_;have b0:(l.push { cls:=.type "tuple",data:=.seq #[x,y] }).get? z=some _:=L3 _ J;refine L0 (Mw b0 (by simp) λd2 u N=>?_);replace u:d2.get? z=some (oa _ f1 TI TO):=u;refine Mw u (by simp) λO B U=>?_;replace B:O.get? z=some _:=B;have up:∀c o,c≠z->l.get? c=some o->O.get? c=some o:=λc o I e=>U.extBut _ _ I (N.extBut _ _ I (L3 _ e));have Y:=U.extBut _ _ (Nx a1) (N.extBut _ _ (Nx a1) (Lq _ rfl));refine Lk ⟨_,rfl,?_⟩;rw[a4]at Y ⊢;exact hQ O ⟨⟨_,_,.inr ⟨_,rfl⟩,B⟩,up _ _ D.TIz (L _ _ D.TIz D.TITO D.TIi1 D.TIi2 a2),⟨_,_,up _ _ D.TOz i⟩,a8.at λo e=>up _ o D.i1z e,a9.at λo e=>up _ o D.i2z e⟩ Y λc o I c2 c3 c4 e=>up c o I (L c o I c2 c3 c4 e)
 | false=>
   obtain⟨T,hT⟩:=e8 rfl;refine L0 ?_;refine L0 (L0 (Mh ?_));refine L0 (m3 j1 q1 hx λd0 q d=>Lk (Lk ?_));refine L0 (L0 (Mh ?_));refine L0 (m3 (j2.at λo e=>d.extBut _ _ D.i12.symm e) (q2.at λo e=>d.extBut _ _ D.l2i1 e) hy λG r f=>Lk (Lk (Lk ?_)));refine L0 (wpAny_newTuple ?_ (by show 2<=sizeLine;decide));have a4:G.objs.size=s.heap.objs.size:=by rw[f.1,d.1,m.1]
   refine Lk ⟨_,rfl,?_⟩;have hk:Kp z TO i1 i2 _ G:=λc o I c2 c3 c4 e=>f.extBut _ _ c4 (d.extBut _ _ c3 (m.extBut _ _ I e));have b1:=f.extBut _ _ D.i2z.symm (d.extBut _ _ D.i1z.symm a3);have hp:UP _ G.objs.size x y:=Lq _ rfl;rw[a4]at hp ⊢;refine hQ _ ⟨⟨_,_,.inr ⟨T,hT⟩,L3 _ b1⟩,L3 _ (hk _ _ D.TIz D.TITO D.TIi1 D.TIi2 a2),⟨a,b,L3 _ (f.extBut _ _ D.TOi2 (d.extBut _ _ D.TOi1 a0))⟩,
    q.at λo e=>L3 _ (f.extBut _ _ D.i12 e),r.at λo e=>L3 _ e⟩ hp λc o I c2 c3 c4 e=>L3 _ (hk c o I c2 c3 c4 e)
def Dg{z TI TO i1 i2 l1 l2:Addr}(hh:A.handled=none)(D:ZA z TI TO i1 i2 l1 l2)(S:eY k1 k2 z TI TO i1 i2 l1 l2 k s.heap)
 (b1:SeqAt k1 s.heap l1 xs) (b2:SeqAt k2 s.heap l2 ys) (B:xs[k]?=none\/ys[k]?=none)
 (hE:∀h' e,Kp z TO i1 i2 s.heap h'->(∃o,h'.get? e=some o/\o.cls=.type "StopIteration")->E (.ref e) { s with heap:=h' }) :
 wpAny (model prog w) A (MK.«zip.__next__» ⟨[.ref z],[]⟩) Q E s:=by
 obtain⟨hz,b5,⟨a,b,c0⟩,h1,h2⟩:=S;obtain⟨g0,g1,_,O⟩:=id hz;show wpAny _ _ (field _ 2>>=_) _ _ _;refine L0 (Mx O rfl (x:=.bool false) rfl ?_);refine L0 (Mx O rfl rfl ?_);refine L0 (NR b5 rfl ?_);refine L0 (vr hz λfr h0 f0 f1 T f2 i=>?_);have U:=i.extBut _ _ D.TOz c0;have j1:=h1.at λo e=>i.extBut _ _ D.i1z e;have j2:=h2.at λo e=>i.extBut _ _ D.i2z e;have q1:=b1.at λo e=>i.extBut _ _ D.l1z e;have q2:=b2.at λo e=>i.extBut _ _ D.l2z e;cases fr with
 | true=>
   simp only[if_true];refine L0 (Ph ?_);refine L0 (Mx T rfl rfl ?_);refine L0 (Mw T (by simp) λY j f=>?_);replace j:Y.get? z=some (oa .ellipsis f1 TI TO):=j;refine L0 ?_;simp only[List.zipIdx_cons,List.zipIdx_nil,List.forIn_cons,List.forIn_nil];refine L0 (L0 (Sv ?_));cases H:xs[k]? with
   | none=>
     refine L0 (nZ hh (j1.at λo e=>f.extBut _ _ D.i1z e) (q1.at λo e=>f.extBut _ _ D.l1z e) H λn e d I=>?_);obtain⟨oe,m,q⟩:=I;have r:=d _ _ D.i1z.symm j;have J:e≠z:=λx=>by subst x;rw[r]at m;cases m;simp at q
     refine Mw r (by simp) λC _ g=>hE C e (λc o u _ L _ x=>g.extBut _ _ u (d _ _ L (f.extBut _ _ u (i.extBut _ _ u x)))) ⟨oe,g.extBut _ _ J m,q⟩
   | some x=>
     have hy:ys[k]?=none:=by rcases B with h | h;· rw[H]at h;cases h
                             .exact h
     refine L0 (m3 (j1.at λo e=>f.extBut _ _ D.i1z e) (q1.at λo e=>f.extBut _ _ D.l1z e) H λn N d=>Lk ?_);have p:=d.extBut _ _ D.TOi1 (f.extBut _ _ D.TOz U);refine L0 (NR p rfl ?_);refine L0 (QY p λC a7 g=>?_);refine L0 (Ue (Lk ?_));refine L0 (L0 (Sv ?_));refine L0 (nZ hh (j2.at λo e=>g.extBut _ _ D.TOi2.symm (d.extBut _ _ D.i12.symm (f.extBut _ _ D.i2z e))) (q2.at λo e=>g.extBut _ _ D.l2TO (d.extBut _ _ D.l2i1 (f.extBut _ _ D.l2z e))) hy λG e l I=>?_);obtain⟨oe,m,q⟩:=I;have v:=l _ _ D.i2z.symm (g.extBut _ _ D.TOz.symm (d.extBut _ _ D.i1z.symm j));have J:e≠z:=λx=>by subst x;rw[v]at m;cases m;simp at q
     refine Mw v (by simp) λa0 _ y=>hE a0 e (λc o u c2 L c4 x=>y.extBut _ _ u (l _ _ c4 (g.extBut _ _ c2 (d.extBut _ _ L (f.extBut _ _ u (i.extBut _ _ u x)))))) ⟨oe,y.extBut _ _ J m,q⟩
 | false=>
   refine L0 ?_;refine L0 (L0 (Mh ?_));cases H:xs[k]? with
   | none=>exact L0 (nZ hh j1 q1 H λn e d I=>hE n e (λc o u _ L _ x=>d _ _ L (i.extBut _ _ u x)) I)
   | some x=>
     have hy:ys[k]?=none:=by rcases B with h | h;· rw[H]at h;cases h
                             .exact h
     refine L0 (m3 j1 q1 H λn N d=>Lk (Lk ?_));refine L0 (L0 (Mh ?_));exact L0 (nZ hh (j2.at λo e=>d.extBut _ _ D.i12.symm e) (q2.at λo e=>d.extBut _ _ D.l2i1 e) hy λG e l I=>hE G e (λc o u _ L c4 x=>l _ _ c4 (d.extBut _ _ L (i.extBut _ _ u x))) I)
def Dh{z TI TO b c d l2:Addr}(D:ZA z TI TO b c d l2)(S:eY e f z TI TO b c d l2 k s.heap)
 (g:SeqAt e s.heap d j) (i:SeqAt f s.heap l2 l) (o:j[k]?=some x) (p:l[k]?=some y)
 (q:∀a,eY e f z TI TO b c d l2 (k+1) a->UP a s.heap.objs.size x y->Kp z TO b c s.heap a->Q (some (.ref s.heap.objs.size)) { s with heap:=a }) :
 wpAny (model prog w) A (pyNext (.ref z)) Q E s:=by
 have n:s.TypeIs (.ref z) "zip":=by obtain⟨_,_,_,h⟩:=S.zr;exact⟨_,h,rfl⟩
 refine L0 (NS (Mj n Qj (Mc Qj n F.entry_zip_next (Df D S g i o p λa r u v=>Lk (q a r u v)) (F.args_zip_next_1 _))))
def Di{z TI TO b c d l2:Addr}(r:A.handled=none)(D:ZA z TI TO b c d l2)(S:eY j l z TI TO b c d l2 k s.heap)
 (f:SeqAt j s.heap d m) (g:SeqAt l s.heap l2 n) (a:m[k]?=none\/n[k]?=none) (u:∀i,Kp z TO b c s.heap i->Q none { s with heap:=i }) :
 wpAny (model prog w) A (pyNext (.ref z)) Q E s:=by
 have q:s.TypeIs (.ref z) "zip":=by obtain⟨_,_,_,h⟩:=S.zr;exact⟨_,h,rfl⟩
 refine L0 (NS (Mj q Qj (Mc Qj q F.entry_zip_next (Dg r D S f g a λi e v x=>?_) (F.args_zip_next_1 _))));obtain⟨o,y,B⟩:=x;exact L0 (NF ⟨o,y,B⟩ QA (Lk (u _ v)))
def Dj{z TI TO h i j l2 T:Addr}(H:∀u p,g≠.List u p)(D:ZA z TI TO h i j l2)(S:eY q r z TI TO h i j l2 k s.heap)
 (v:∀f,eY q r z TI TO h i j l2 k f->MA z s.heap f->Q () { s with heap:=f }) :
 wpAny (model prog w) A (letOwnedTupleGo g (.ref z) (.ref T)) Q E s:=by
 have y:=v _ S ⟨rfl,λ_ _=>rfl⟩;cases g with
 | Tuple B O I=>
   obtain⟨⟨J,C,U,G⟩,l,⟨a,b,m⟩,L,N⟩:=S;refine L0 (wpAny_load G ?_);by_cases c:(["enumerate","zip","dict_itemiterator","dict_reverseitemiterator","odict_iterator","itertools.zip_longest","itertools.pairwise"].contains "zip"&&(#[J,.bool C,.bool false,.ref TI,.ref TO])[0]? == some (rawInt T))=true
   .show wpAny _ _ (if _ then _ else _) Q E s;rw[if_pos c];refine Mw G (by simp) λf n d=>v f ⟨⟨.none,C,.inl rfl,n⟩,d.extBut _ _ D.TIz l,⟨a,b,d.extBut _ _ D.TOz m⟩,L.at λo e=>d.extBut _ _ D.i1z e,N.at λo e=>d.extBut _ _ D.i2z e⟩ d
   .show wpAny _ _ (if _ then _ else _) Q E s;rw[if_neg c];exact Lk y
 | List u p=>exact absurd rfl (H _ _)
 | _=>exact Lk y
def vt{z TI TO:Addr}(hz:qO s.heap z TI TO)(h:Q (.ref z) s):wpAny (model prog w) A (pyIter (.ref z)) Q E s:=by
 have a:s.TypeIs (.ref z) "zip":=by obtain⟨_,_,_,h⟩:=hz;exact⟨_,h,rfl⟩
 refine Pj a F.slot_zip_iter (Mc F.slot_zip_iter a F.entry_zip_iter ?_ (F.args_zip_iter_1 _));exact Lk ⟨_,rfl,"zip",_,a,Qj.lookup,h⟩
end
def kN(I:L2.Inv X c σ H s)(h:eT k X.K H a d):∃b:List Ll,aA d b/\SeqAt k s.heap a b.toArray:=by
 cases k with
 | true=>obtain⟨b,r,p,_⟩:=I.tuple h;exact⟨b,r,p⟩
 | false=>obtain⟨b,r,p,_⟩:=I.list h;exact⟨b,r,p.isList⟩
def vu(I:L2.Inv X b σ H s)(h:eT k X.K H a c)(h':eT k X.K H a d):c=d:=by
 cases k with
 | true=>exact I.tuple_inj h h'
 | false=>exact I.list_inj h h'
def Dl{K:Lm}(ht:∀es p,tg≠.List es p)(k1 k2:Bool)(a b z TI TO i1 i2:Addr)(D:ZA z TI TO i1 i2 a b) :
 je P w K tg (qp K k1 k2 a b) [z,TI,TO,i1,i2] z (λi h=>eY k1 k2 z TI TO i1 i2 a b i h) where
 mem:=by simp
 obj:=λi h S c hc=>by
  obtain⟨⟨f0,f1,_,hz⟩,ti,⟨x,y,to⟩,j1,j2⟩:=S;simp only[Lu,Mz,or_false]at hc;rcases hc with rfl | rfl | rfl | rfl | rfl
  .exact⟨_,hz,λv z=>by cases z⟩
  .exact⟨_,ti,λv z=>by cases z⟩
  .exact⟨_,to,λv z=>by cases z⟩
  .obtain⟨o,vs,h1,h2⟩:=j1.obj;exact⟨o,h1,λv z=>by rw[h2]at z;cases z⟩
  .obtain⟨o,vs,h1,h2⟩:=j2.obj;exact⟨o,h1,λv z=>by rw[h2]at z;cases z⟩
 keep:=λi h h' S k=>S.keep k
 item:=by
  intro X hP hw hK hc i pins s σ H E I hf S hg;subst hP hw hK;obtain⟨xs,ys,x,y,hq1,hq2,hx,hy⟩:=hg;obtain⟨its1,r1,p1⟩:=kN I hq1;obtain⟨its2,r2,p2⟩:=kN I hq2;obtain⟨u,hu,ru⟩:=r1.get hx;obtain⟨v,hv,rv⟩:=r2.get hy;refine Dh D S p1 p2 (by simpa using hu) (by simpa using hv) λh' S' hT hk=>?_;refine⟨.ref _,rfl,Dj ht D S' λh2 S2 hs2=>?_⟩;have zlt:z<s.heap.objs.size:=by obtain⟨_,_,_,e⟩:=S.zr;exact Lr e
  have I2:L2.Inv X pins σ (aB H s.heap.objs.size (.tup [x,y])) { s with heap:=h2 }:=by
   refine s9 I hf (λb u hb q=>?_) (Lp _) ?_
   .have n1:b≠z:=λe=>hb (by simp[e]);exact hs2.extBut _ _ n1 (hk b u n1 (λe=>hb (by simp[e])) (λe=>hb (by simp[e])) (λe=>hb (by simp[e])) q)
   .exact⟨by show 2<=sizeLine;decide,[u,v],.cons ru (.cons rv .nil),_,hs2.extBut _ _ (Nx zlt) hT,rfl,_,rfl⟩
  refine⟨.ref _,aB H _ _,I2,rfl,⟨x,y,_,λzs hz=>by rw[vu I hz hq1];exact hx,λzs hz=>by rw[vu I hz hq2];exact hy,I.hok.fresh (Lp _),rfl,rfl⟩,S2,λb hb=>?_⟩;rw[aj]
  .exact(hf b hb).1
  .intro e;subst e;have:∃o,s.heap.get? s.heap.objs.size=some o:=by
    obtain⟨⟨f0,f1,_,hz⟩,ti,⟨x,y,to⟩,j1,j2⟩:=S;simp only[Lu,Mz,or_false]at hb;rcases hb with e | e | e | e | e
    .rw[e];exact⟨_,hz⟩
    .rw[e];exact⟨_,ti⟩
    .rw[e];exact⟨_,to⟩
    .rw[e];obtain⟨o,vs,h1,h2⟩:=j1.obj;exact⟨o,h1⟩
    .rw[e];obtain⟨o,vs,h1,h2⟩:=j2.obj;exact⟨o,h1⟩
   obtain⟨o,ho⟩:=this;exact absurd (Lr ho) (NP _)
 done:=by
  intro X hP hw hK hc i pins s σ H E I hf S hg;subst hP hw hK;obtain⟨xs,ys,hq1,hq2,hx⟩:=hg;obtain⟨its1,r1,p1⟩:=kN I hq1;obtain⟨its2,r2,p2⟩:=kN I hq2;have l1:=r1.length;have l2:=r2.length;refine Di (I.ok.hd hc) D S p1 p2 ?_ λh' hk=>⟨rfl,qy I hf λb u hb q=>hk b u (λe=>hb (by simp[e])) (λe=>hb (by simp[e])) (λe=>hb (by simp[e])) (λe=>hb (by simp[e])) q⟩;rcases hx with hx | hx
  .left;simp;symm
  .right;simp;symm
 self:=λ_ _ _ _ _ S h=>vt S.zr h
abbrev og(a:Bool)(h:Heap)(b:Addr):Heap:=h.push (ml a b)
abbrev oi(a b:Bool)(h:Heap)(c l2:Addr):Heap:=(og a h c).push (ml b l2)
abbrev oj(a d:Bool)(h:Heap)(b l2:Addr):Heap:=(oi a d h b l2).push { cls:=.type "tuple",data:=.seq #[.ref h.objs.size,.ref (og a h b).objs.size] }
abbrev om(b c:Bool)(h:Heap)(d l2:Addr):Heap:=(oj b c h d l2).push { cls:=.type "tuple",data:=.seq #[.none,.none] }
abbrev kO(a b:Bool)(h:Heap)(c l2:Addr):Heap:=(om a b h c l2).push (oa .none false (oi a b h c l2).objs.size (oj a b h c l2).objs.size)
def Dm(b c:Bool)(a l2:Addr)(m n:Array Ll) :
 Meets (MK.«zip.__new__» ⟨[.type "zip",.ref a,.ref l2],[]⟩) (λ_ R s=>SeqAt b s.heap a m/\SeqAt c s.heap l2 n/\R (.ok (.ret (.ref (om b c s.heap a l2).objs.size))) { s with heap:=kO b c s.heap a l2 }):=
 .of_wp λq w A R s h=>by
  obtain⟨r,g,d,u,os⟩:=s;obtain⟨f,i,h⟩:=h;have v:=sub_zip;have j:SeqAt b (Ln.heap ⟨r,g,d,u,os⟩) a m:=f;have l:SeqAt c (Ln.heap ⟨r.push (ml b a),g,d,u,os⟩) l2 n:=i.at λo e=>L3 _ e
  wp_walk using vq j,vq l
  exact⟨_,rfl,h⟩
def Dp{a l2:Addr}(f:SeqAt b s.heap a p)(g:SeqAt d s.heap l2 q)
 (h:∀i,eY b d (s.heap.objs.size+4) (s.heap.objs.size+2) (s.heap.objs.size+3) s.heap.objs.size (s.heap.objs.size+1) a l2 0 i->(∀c o,s.heap.get? c=some o->i.get? c=some o)->Q (.ref (s.heap.objs.size+4)) { s with heap:=i }) :
 wpAny (model prog w) A (call (.type "zip") [.ref a,.ref l2]) Q E s:=by
 refine callType_new F.called_zip rfl (F.typeCall_zip_2 _ _) (F.newCall_zip_2 _ _) (λobj=>F.args_object_init_3 obj _ _) F.entry_zip_new (Dm b d a l2 p q) ⟨f,g,?_⟩;have j:(og b s.heap a).objs.size=_+1:=ME ..;have l:(oi b d s.heap a l2).objs.size=s.heap.objs.size+2:=by rw[ME,j]
 have m:(oj b d s.heap a l2).objs.size=s.heap.objs.size+3:=by rw[ME,l]
 have u:(om b d s.heap a l2).objs.size=s.heap.objs.size+4:=by rw[ME,m]
 have n:(kO b d _ a l2).get? (om b d s.heap a l2).objs.size=some _:=Lq _ rfl;have v:(kO b d _ a l2).get? (oj b d s.heap a l2).objs.size=some _:=L3 _ (Lq _ rfl);have y:(kO b d _ a l2).get? (oi b d s.heap a l2).objs.size=some _:=L3 _ (L3 _ (Lq _ rfl));have z:bj d (kO b d _ a l2) (og b s.heap a).objs.size l2 0:=(vp d _ l2).at λo e=>L3 _ (L3 _ (L3 _ e));have B:bj b (kO b d _ a l2) _ a 0:=(vp b s.heap a).at λo e=>L3 _ (L3 _ (L3 _ (L3 _ e)));rw[l,m,u]at n;rw[j,l]at y;rw[m]at v;rw[j]at z;rw[u];exact⟨⟨_,n,rfl⟩,h _ ⟨⟨_,_,.inl rfl,n⟩,y,⟨_,_,v⟩,B,z⟩ λc o x=>L3 _ (L3 _ (L3 _ (L3 _ (L3 _ x))))⟩
def i_zip(ht:∀es p,Y≠.List es p)(hg:Gl X "zip")(hm:X.mg "zip" = none)(ha:Pe X cm a d)(hb:Pe X cm b e)
 (hs:autoParam (starEach [a,b] X.env=(false,eval a X.env)::starEach [b] X.env) au2._auto_1) (o:autoParam (starEach [b] X.env=(false,eval b X.env)::starEach [] X.env) au2._auto_1):L2.PI X Y (.Call (.Name "zip" p) [a,b] [] n) (EvI X.K cm (iZip d e)):=by
 intro u s σ H R I h;obtain⟨ρ,A,D,J,A',rl,rs,ev,k⟩:=h;obtain⟨x,A1,e1,E⟩:=B0 ev;obtain⟨y,A2,e2,G⟩:=B0 E;refine UW (S8 I hg hm (show bootBuiltins "zip" = some _ from by rfl) (callWith_type1 (aI ((aP ha (aP hb bq o) hs) n u s σ H (λvs f=>∃a B b C,vs=[.ref a,.ref b]/\eT (kindOf x) X.K f a B/\eT (kindOf y) X.K f b C/\R (qp X.K (kindOf x) (kindOf y) a b) f) I ⟨ρ,A,D,[x,y],A2,rl,rs,by show ao _ _ A=_;rw[ay e1];show ao (ao _ _) _ A1=_;rw[ay (show ao _ _ A1=.ok [y] A2 by rw[ay e2];rfl)];rfl,λL f e5 x1 g N=>?_⟩) λus i zq=>?_) hs (by rw[o];rfl)))
 .cases N with
  | cons hv hr=>
    cases hr with
    | cons v O=>
      cases O;obtain⟨l,A3,e3,Q⟩:=B0 G;obtain⟨rfl,a,B,rfl,T,r⟩:=Z1 g hv e3;obtain⟨m,A4,e4,U⟩:=B0 Q;obtain⟨rfl,b,C,rfl,j,r2⟩:=Z1 g v e4;cases U;exact⟨a,B,b,C,rfl,T,j,k L f _ x1 g ⟨a,b,hv,v,rfl⟩⟩
 .obtain⟨vs,f,w,r1,q1⟩:=zq;obtain⟨a,B,b,C,rfl,T,j,q⟩:=q1;cases r1 with
  | cons h1 t1=>
    cases t1 with
    | cons h2 t2=>
      cases t2;cases h1;cases h2;obtain⟨a5,r1,p1⟩:=kN w T;obtain⟨a6,r2,p2⟩:=kN w j;refine Dp p1 p2 λh' S kp=>?_;refine vt S.zr ?_;have I2:=w.kept (t':=i.toks) kp;have la:=p1.lt;have lb:=p2.lt;refine⟨i.heap.objs.size+4,[i.heap.objs.size+4,i.heap.objs.size+2,i.heap.objs.size+3,_,i.heap.objs.size+1],_,_,f,rfl,I2,Dl ht _ _ a b _ _ _ _ _ ?_,S,λc hc=>?_,q⟩
      .have la:@LT.lt Nat _ a _:=la;have lb:@LT.lt Nat _ b _:=lb;constructor<;>first | exact Ly (by symm) | exact Nx (by simp)
      .have z:i.heap.objs.size<=c:=by
        simp only[Lu,Mz,or_false]at hc;rcases hc with rfl | rfl | rfl | rfl | rfl
        .simp
        .simp
        .simp
        .simp
        .simp
       exact w.fpOk z (w.hok.fresh z)
abbrev gb(led:Bool):Obj:={ cls:=.type "set",dict:=none,data:=.set #[] 0 (.fresh 0 0 led) }
set_option maxHeartbeats 3200000 in
def Dq(hh:A.handled=none)(hl:s.heap.IsTuple l d)(hi:Ol d.toList ns)(N:d.size+1<scanBound)
 (h:∀(h':Heap)(O:Nat),h'.SetOf (intKind prog w) s.heap.objs.size (λU=>(firstMet (λi=>ns.getD i 0) d.size).any (·== U)) (firstMet (λi=>ns.getD i 0) d.size).length->(∀b o,b<s.heap.objs.size->s.heap.get? b=some o->h'.get? b=some o)->Q (.ref s.heap.objs.size) { s with heap:=h',toks:=O }) :
 wpAny (model prog w) A (call (.type "set") [.ref l]) Q E s:=by
 obtain⟨c,tl,b1⟩:=Ml.mro;have Y:=Ml.made;have b2:=Ml.sub;refine Pc (Rr ?_);show wpAny _ _ (callAny (.type "set") _) _ _ _;refine Lk ⟨Qk _ (by decide +kernel),Oj Sw ?_⟩;rw[Mq.under_plain (Ts "set" [.ref l] []) rfl];have h1:=Ml.notType;have h2:=Ml.canCreate;have d2:=SY (.ref l);repeat (any_goals (first | assumption | wp_step))
 refine Oe (code_set_new_1 (.ref l) (E:=E) (Q₁:=λobj m=>∃a:Bool,obj=.ref s.heap.objs.size/\m={ s with heap:=s.heap.push (gb a) }) λa=>⟨a,rfl,rfl⟩) λr m hr=>?_;cases r with
 | error e=>exact hr
 | ok fl=>
   cases fl with
   | ret obj=>
     obtain⟨a,rfl,rfl⟩:=hr;have hS:(s.heap.push (gb a)).get? s.heap.objs.size=some (gb a):=Lq _ rfl;have hT:Pk { s with heap:=s.heap.push (gb a) } (.ref s.heap.objs.size) "set":=⟨_,hS,rfl⟩;have e2:=Ml.init.lookup;have e3:=Ml.init.bind (.ref s.heap.objs.size);repeat (any_goals (first | assumption | wp_step))
     refine Oe (Pr (R:=wants (λr n=>r=.none/\∃h' O,n={ s with heap:=h',toks:=O }/\
      h'.SetOf (intKind prog w) s.heap.objs.size (λU=>(firstMet (λi=>ns.getD i 0) d.size).any (·== U)) (firstMet (λi=>ns.getD i 0) d.size).length/\
      (∀b o,b<s.heap.objs.size->s.heap.get? b=some o->h'.get? b=some o)) E) Ml.init.plain Ta (check_set_init_1 hT ?_)) λy n f=>?_
     .obtain⟨ol,z,B,nl,hdl⟩:=hl;obtain⟨c0,p,a1,j⟩:=ol;simp only at B hdl;subst B;subst hdl;have C:(s.heap.push (gb a)).get? l=some { cls:=.type "tuple",dict:=p,data:=.seq d nl,slots:=j }:=L3 _ z;have c2:=PySem.F.sub_tuple_set;have c3:=PySem.F.sub_tuple_frozenset;have e5:(Ll.type "tuple" == Ll.type "dict")=false:=by decide
      have G:(s.heap.push (gb a)).IsTuple l d:=⟨_,C,rfl,nl,rfl⟩;unfold MK.«set.__init__» noKeywords Rf;generalize a3:pyIter=PI
      wp_walk
      subst a3;refine OP G ?_;refine L0 (TR ?_);have H:l<s.heap.objs.size:=Lr z;have a4:A.in1.in1.in1.handled=none:=by simp[hh]
      have I:l≠(s.heap.push (gb a)).objs.size:=by
       rw[ME];exact Ly (Ni H)
      have a5:s.heap.objs.size∉[(s.heap.push (gb a)).objs.size,l]:=by
       rw[ME];simp only[Lu,Ls,Mz,or_false,not_or];exact⟨Ly (Nh _),Nx H⟩
      have J:∀(i:Nat)(v:Ll),d[i]?=some v->∃t,v=.int ((λi=>ns.getD i 0) i) t:=λi v hv=>TU hi i v (by rw[MP];exact hv);refine codeAny_set_update_loopS ((UZ.tuple a4 _ l I d).toS) s.heap.objs.size a5 (λi=>ns.getD i 0) J N (d.size - 0) 0 _ (by symm) (OG _)
       ⟨⟨_,Lq _ rfl,rfl,rfl⟩,(G.push _)⟩ ?hS0 ?hR
      case hS0=>
       have L:((s.heap.push (gb a)).push { cls:=.type "tuple_iterator",data:=.fields #[.ref l,.int 0 0] }).get? s.heap.objs.size=some (gb a):=L3 _ hS;exact SetOf_congr ((setObjOf_fresh (knd:=intKind prog w) a).setOf L (by unfold scanBound;symm)) (λ_=>rfl) rfl
      case hR=>
       intro s' T q;obtain⟨h',g',d',a6,a7⟩:=s';have eg:g'=s.gens:=T.gens;have ed:d'=s.drawn:=T.drawn;have eo:a7=s.os:=T.os;subst eg;subst ed;subst eo;show wpAny _ _ _ _ _ _;refine Lk ?_;show wpAny _ _ (PySem.ret MZ) _ _ _;refine Lk ⟨rfl,h',a6,rfl,q,λb o N e=>?_⟩;have a8:b≠s.heap.objs.size:=Ly N;have a9:b≠(s.heap.push (gb a)).objs.size:=by
        rw[ME];exact Ly (Ni N)
       exact T.heap b o (by simp only[Lu,Ls,Mz,or_false,not_or];exact⟨a8,a9⟩) (L3 _ (L3 _ e))
     .cases y with
      | error e=>exact f
      | ok u=>
        cases u with
        | ret r=>
          obtain⟨rfl,h',O,rfl,q,b0⟩:=f;repeat (any_goals (first | assumption | wp_step))
          exact h _ _ q b0
        | _=>exact f.elim
   | _=>exact hr.elim
def qP(ns:List Int):(firstMet (λi=>ns.getD i 0) ns.length).length=eP ns:=by
 unfold firstMet eP;have e:(Mo ns.length).map (λi=>ns.getD i 0)=ns:=by
  refine Pl λk=>?_;rw[LL];by_cases a:k<ns.length
  .simp[a]
  .simp[a]
 rw[e];rfl
def Dr{p1 T q1 U:Pos}(j:X.calm=true)(he:Pe X cm e d)(Y:Gl X "len")(a0:X.mg "len" = none)(a1:Gl X "set")(a2:X.mg "set" = none)
 (C:autoParam (starEach [e] X.env=(false,eval e X.env)::starEach [] X.env) au2._auto_1)
 (D:autoParam (starEach [.Call (.Name "set" T) [e] [] U] X.env=(false,eval (.Call (.Name "set" T) [e] [] U) X.env)::starEach [] X.env) au0._auto_1) :
 Pe X cm (.Call (.Name "len" p1) [.Call (.Name "set" T) [e] [] U] [] q1) (ny d):=by
 intro r s σ H Q I h;obtain⟨ρ,A,a3,v,A',rl,rs,ev,k⟩:=h;obtain⟨x,A1,e1,a4⟩:=B0 ev;refine UW (S8 I Y a0 PySem.boot_len (callWith_builtin1 (c8 D ?_) D rfl));refine UW (S8 I a1 a2 (show bootBuiltins "set" = some _ from by rfl) (callWith_type1 (c8 C ?_) C rfl));refine aI (he r s σ H (λv z=>∃(a:Addr)(ns:List Int),v=.ref a/\eT (kindOf x) X.K z a (ns.map V.int)/\ns.length<1000/\Q (.int (eP ns)) z) I ⟨ρ,A,a3,x,A1,rl,rs,e1,λa5 z v1 x1 E a6=>?_⟩) λu G zq=>?_
 .obtain⟨l,A2,e2,m⟩:=B0 a4;obtain⟨rfl,a,xs,rfl,hH,r0⟩:=Z1 E a6 e2;cases p:J9 l with
  | none=>rw[p]at m;cases m
  | some ns=>
    rw[p]at m;obtain⟨c,a7⟩:=B9 m;cases a7;rw[P0 p]at r0;exact⟨a,ns,rfl,by rw[<-Z3 r0];exact hH,c,k a5 z _ x1 E (.int _)⟩
 .obtain⟨w1,z,J,r1,a,ns,ew,O,L,q⟩:=zq;subst ew;obtain rfl:u=LJ a:=r1;have fin:∀(y)(B:Nat)(n:Nat),n=ns.length->y.SetOf (intKind X.prog X.w) G.heap.objs.size (λk'=>(firstMet (λi=>ns.getD i 0) n).any (·== k')) (firstMet (λi=>ns.getD i 0) n).length->
   (∀b o,b<G.heap.objs.size->G.heap.get? b=some o->y.get? b=some o)->wpAny (model X.prog X.w) X.A (call (.builtin "len") [.ref G.heap.objs.size]) (EP X r σ Q) X.xe { G with heap:=y,toks:=B }:=by
   intro y B n hn f g;subst hn;obtain⟨o,es,ep,t,ho,hex,hd,_,_,_,hf,a9⟩:=f;have hn:es.size=eP ns:=by rw[a9];exact qP ns
   have f5:=uw ns;refine call_len_set ho hex hd hf (by symm) ?_;rw[hn];exact⟨.int _,z,J.kept (λb ob e=>g b ob (Lr e) e),⟨_,rfl⟩,q⟩
  cases hk:kindOf x with
  | true=>
    rw[hk]at O;obtain⟨b0,ri,pl,hz⟩:=J.tuple O;have p:=Q0 ri;have N:=p.length;refine Dq (J.ok.hd j) pl (by simpa using p) (by rw[LF,N];exact LI (QQ L) (by decide)) λy B f g=>fin y B _ (by rw[LF,N]) f g
  | false=>
    rw[hk]at O;obtain⟨b0,ri,pl,hz⟩:=J.list O;have p:=Q0 ri;have N:=p.length;refine Up (J.ok.hd j) pl.isList (by simpa using p) (by rw[LF,N];exact LI (QQ L) (by decide)) λy B f g=>fin y B _ (by rw[LF,N]) f g
end Ws
namespace Ws
open PySem PySem.W PyProof.Rows PySem.Calls
structure oq(h:Heap)(C:Addr)(newId:String):Prop where
 obj:∃nm q N bs bm hdct sn sub ab col dd k0 k1 k2 k3 k5,h.get? C=some (excClassObj nm q C N bs bm hdct sn sub ab col dd k0 k1 k2 k3 k5 newId)/\bm.contains (.type "ValueError")=true/\bm.contains (.type "BaseException")=true/\bm.contains (.type "AttributeError")=false/\bm.contains (.type "NameError")=false
abbrev jR(C t:Addr):Obj:={ cls:=.ref C,data:=.fields #[.ref t,.none,.none,.none,.bool false,.none] }
def VEF:ExcBaseFacts "ValueError" "ValueError.__new__" "ValueError.__init__" [.type "ValueError",.type "Exception",.type "BaseException",.type "object"]:=PySem.F.excBase_ValueError
def Ds{R:Uy->Ln->Prop}{os:UM}(Y:oq h C "ValueError.__new__")(r:R (.ok (.ret (.ref (h.objs.size+1)))) ⟨(h.push { cls:=.type "tuple",data:=.seq rest.toArray }).push (jR C h.objs.size),g,d,t,os⟩)(c:rest.length<=sizeLine) :
 codeAny (model prog w) A (.call (.builtin "ValueError.__new__") ⟨.ref C::rest,[]⟩) R ⟨h,g,d,t,os⟩:=by
 obtain⟨y,q,N,bs,e,o,z,sub,B,s,D,E,G,H,I,J,a,u,L,v,x⟩:=Y.obj;have b:(LJ C::e).contains (.type "ValueError")=true:=by rw[NB,u,QH]
 have f:(LJ C::e).contains (.type "AttributeError")=false:=by rw[NB,v];rfl
 have i:(LJ C::e).contains (.type "NameError")=false:=by rw[NB,x];rfl
 have j:=VEF.noStar;refine codeAny_call_builtin_code (Qk _ VEF.quiet) ?_;simp only[checkBuiltinCall,VEF.newKind,VEF.newSplit,VEF.newRow];repeat (first | refine Nj a ?_ | (refine NM a ?_;rw[b]) | refine wpAny_staticBase_exc a ?_ | refine wpAny_madeBy_exc a ?_ | simp only[bne_self_eq_false,NY,if_false] | wp_step)
 have l:=VEF.ends;refine codeAny_builtinAt VEF.entry ?_;unfold MK.«BaseException.__new__»;refine PySem.wpAt_bind ?_;show PySem.wpAt _ _ _ (stack>>=_) _ _ _;refine PySem.wpAt_bind (PySem.wpAt_stack λp m=>Ug ?_)
 wp_walk
 refine Ug ?_;rw[VEF.owner];repeat (first | with_reducible refine wpAny_madeHere_exc VEF.canon a ?_ | with_reducible refine Nj a ?_ | (with_reducible refine NM a ?_;first | rw[b] | rw[f] | rw[i]) | wp_step)
 show R _ _;rw[ME];exact r
def Dt{R:Uy->Ln->Prop}{os:UM}(Y:oq h C "ValueError.__new__")(s:Looks (model prog w) h (typeLookup (.ref C) "__init__") (some (.ref fI)))(u:∀a,Looks (model prog w) h (bindSpecial (.ref fI) a) (.ref fI,[a]))(f:rest.length<=sizeLine)
 (x:codeAny (model prog w) (A.under (.builtin "type.__call__" ⟨.ref C::rest,[]⟩)) (.call (.ref fI) ⟨.ref (h.objs.size+1)::rest,[]⟩) (InitBack (h.objs.size+1) R) ⟨(h.push { cls:=.type "tuple",data:=.seq rest.toArray }).push (jR C h.objs.size),g,d,t,os⟩) :
 codeAny (model prog w) A (.call (.ref C) ⟨rest,[]⟩) R ⟨h,g,d,t,os⟩:=by
 have y:=Y;obtain⟨H,q,N,bs,B,p,I,sub,J,D,L,O,Q,T,U,k5,j,c1,c2,c3,c4⟩:=Y.obj;have f1:=tc_lookup;have f2:=tc_bind (.ref C);have hT:(⟨h,g,d,t,os⟩:Ln).TypeIs (.ref C) "type":=⟨_,j,rfl⟩;refine Rr ?_;show wpAny _ _ (callAny (.ref C) _) _ _ _;repeat (any_goals (first | assumption | with_reducible refine Nj j ?_ | wp_step))
 refine⟨rfl,?_⟩;refine codeAny_call_builtin_at (Qk _ (by decide +kernel)) entry_typeCall (wpAny_check_type_call_sub j ?_);repeat (first | with_reducible refine Nj j ?_ | with_reducible refine wpAny_madeBy_exc j ?_ | with_reducible refine Pc ?_ | wp_step)
 refine Ds (rest:=rest) y ?_ f;show wpAny _ _ _ _ _ _;have m:∀b o,h.get? b=some o->((h.push { cls:=.type "tuple",data:=.seq rest.toArray }).push (jR C h.objs.size)).get? b=some o:=λb o e=>L3 _ (L3 _ e);have i:=m _ _ j;have l:((h.push { cls:=.type "tuple",data:=.seq rest.toArray }).push (jR C h.objs.size)).get? (h.objs.size+1)=some (jR C h.objs.size):=by heap_get
 have n:(LJ C::B).contains (.ref C)=true:=by simp
 unfold isInstance;repeat (first | with_reducible refine Nj l ?_ | (with_reducible refine NM i ?_;rw[n]) | wp_step)
 have E:=s.keeps m;have G:=(u (.ref (h.objs.size+1))).keeps m;show wpAny _ _ (typeLookup (.ref C) "__init__") _ _ _;refine E.here ?_;refine Mh (L0 (G.here ?_));refine L0 (Pc ?_);refine Oe x λr s' z=>?_;rcases r with e | (v | _ | _ | _)<;>first | exact z | exact z.elim | skip
 obtain⟨rfl,z⟩:=z;exact Lk (Lk z)
end Ws
namespace Ws
open PySem PySem.W PyProof.Rows PySem.Calls Builtin Builtin.ObjectAttr
noncomputable def mn:List Ll:=[.type "ValueError",.type "Exception",.type "BaseException",.type "object"]
noncomputable def U0:List Ll->Bool
 | .ref _::r=>U0 r
 | l=>l == mn
def Du(a:Ll):refuseLoop a "__setattr__" mn=pure ():=rfl
theorem vv(a:Ll):∀{l:List Ll},U0 l=true->refuseLoop a "__setattr__" l=pure ()
 | .ref c::r,e=>by rw[refuseLoop_ref];exact vv a (by cases r<;>exact e)
 | [],e=>by cases e
 | .type n::r,e=>by rw[show Ll.type n::r=mn from beq_iff_eq.mp e];exact Du a
 | .none::r,e=>by cases e
 | .bool _::r,e=>by cases e
 | .int _ _::r,e=>by cases e
 | .str _ _::r,e=>by cases e
 | .bytes _ _::r,e=>by cases e
 | .float _ _::r,e=>by cases e
 | .builtin _::r,e=>by cases e
 | .ellipsis::r,e=>by cases e
 | .notImplemented::r,e=>by cases e
theorem vw:∀{l:List Ll},U0 l=true->l.contains (.type "object")=true
 | .ref c::r,e=>by rw[NB,vw (l:=r) (by cases r<;>exact e),QH]
 | [],e=>by cases e
 | .type n::r,e=>by rw[show Ll.type n::r=mn from beq_iff_eq.mp e];rfl
 | .none::r,e=>by cases e
 | .bool _::r,e=>by cases e
 | .int _ _::r,e=>by cases e
 | .str _ _::r,e=>by cases e
 | .bytes _ _::r,e=>by cases e
 | .float _ _::r,e=>by cases e
 | .builtin _::r,e=>by cases e
 | .ellipsis::r,e=>by cases e
 | .notImplemented::r,e=>by cases e
def Dv{R:Uy->Ln->Prop}{K:Frag}(X:K.In s.heap)(I:InstAt s.heap x ox C none)(J:clsIn K C=some cd)(H:U0 cd.mro=true)(hh:cd.hasDict=true)(ht:findIn K (.ref C) name=some none)(d:ox.data=.fields vs)(f:ox.dict=none)
 (h:∀i,i.get? x=some { ox with dict:=some s.heap.objs.size }->i.Ns1 s.heap.objs.size (λy=>if y=name then some v else none)->(∀b o,b≠x->s.heap.get? b=some o->i.get? b=some o)->R (.ok (.ret .none)) { s with heap:=i,toks:=s.toks+1 }) :
 codeAny (model prog w) A (.call (.builtin "object.__setattr__") ⟨[.ref x,.str name Y,v],[]⟩) R s:=by
 have l:=PySem.F.store_object;have ne:cd.mro.isEmpty=false:=by cases q:cd.mro with
  | nil=>rw[q]at H;cases H
  | cons _ _=>rfl
 have sub:Looks (model prog w) _ (isInstance _ _) true:=I.type.andThen (looks_mroIn X (by unfold mroIn;rw[J,Option.bind_some,if_neg (by rw[ne];decide),vw H]));refine Pr l.slot.plain l.entry (@check_slot _ _ _ s "object.__setattr__" "object" "__setattr__" _ [.str name Y,v] [] _ l.kind l.split sub (l.args _ _ v) ?_);have hm:Looks (model prog w) _ (mroOf (.ref C)) _:=(looks_clsIn X J).andThen .now;rw[osa_eq,refuse_eq];refine L0 (L0 (I.type.here (L0 (hm.here ?_))));rw[vv _ H];refine Lk (L0 (I.type.here (L0 ((TB X ht).here (L0 (Lk ?_))))));obtain⟨L,m,hn,_⟩:=I;obtain⟨oc,a5,a6,n⟩:=ox;dsimp only at m d f;subst m d f;refine L0 (Lk (L0 (L0 (TM L (L0 ((looks_clsIn X J).here ?_))))));rw[hh];refine L0 (wpAny_alloc ?_);have p:(s.heap.push { cls:=Ll.type "dict",data:=QJ #[] }).get? x=some { cls:=.ref C,data:=.fields vs,slots:=n }:=L3 _ L;have g:=Lr L;refine L0 (wpAny_update p ?_);refine Lk ?_;have N:(s.heap.push { cls:=Ll.type "dict",data:=QJ #[] }).get? _=some { cls:=Ll.type "dict",data:=QJ #[] }:=Lq _ rfl;have r:((s.heap.push { cls:=Ll.type "dict",data:=QJ #[] }).update x λo=>{ cls:=o.cls,dict:=some s.heap.objs.size,data:=o.data,slots:=o.slots }).get? s.heap.objs.size=some { cls:=Ll.type "dict",data:=QJ #[] }:=by
  rw[ML _ _ (Ly g)];exact N
 have u:((s.heap.push { cls:=Ll.type "dict",data:=QJ #[] }).update x λo=>{ cls:=o.cls,dict:=some s.heap.objs.size,data:=o.data,slots:=o.slots }).get? x=some { cls:=.ref C,dict:=some s.heap.objs.size,data:=.fields vs,slots:=n }:=by
  rw[Mn _ p rfl]
 have B:((s.heap.push { cls:=Ll.type "dict",data:=QJ #[] }).update x λo=>{ cls:=_,dict:=some _,data:=_,slots:=_ }).Ns1 _ _:=⟨_,#[],_,r,rfl,(λe he=>absurd he (by simp)),Sn.nil,λ_=>rfl⟩;have kp:∀b o,b≠x->s.heap.get? b=some o->((s.heap.push { cls:=Ll.type "dict",data:=QJ #[] }).update x λo=>{ cls:=o.cls,dict:=some s.heap.objs.size,data:=o.data,slots:=o.slots }).get? b=some o:=λb o O e=>by
  rw[ML _ _ (Na O)];exact L3 _ e
 generalize(s.heap.push { cls:=Ll.type "dict",data:=QJ #[] }).update x _=h2 at r u B kp;refine L0 (Lk (L0 ?_));refine wpAny_nsSet1 (s:={ s with heap:=h2 }) B λi D G=>?_;obtain⟨oD,a9,b0,Q,T,U⟩:=D.count (RF.cons name v (ns:=[]) (λ_ z=>absurd rfl z));refine L0 (wpAny_lookBehind Q (by rw[T];exact pastItsLine_dict (LW U (by simp))) ?_);refine Lk (h _ ((G.2 _ (Ly g)).trans u) D λb o O e=>?_);exact(G.2 _ (Ly (Lr e))).trans (kp b o O e)
end Ws
namespace Ws
open PySem PySem.W PyProof.Rows PySem.Calls L2
noncomputable def vy:Option Addr->Ll
 | none=>.none
 | some T=>.ref T
inductive ou (C:Addr) (d tb:Option Addr) (e:Addr) (h:Heap):Prop
 | mk (oe) (vs) (h0:h.get? e=some oe) (h1:oe.cls=.ref C) (h2:oe.dict=d) (h3:oe.data=.fields vs) (h4:vs[1]?=some (vy tb)) (h5:vs[2]?=some .none):ou C d tb e h
noncomputable def XO(C:Addr)(d a:Option Addr)(e:Addr):HO:=.ext (ou C d a e)
inductive qQ (T:Addr) (fl:Ll) (h:Heap):Prop
 | mk (oT) (ts) (h0:h.get? T=some oT) (h1:oT.data=.fields ts) (h2:ts[3]?=some fl):qQ T fl h
noncomputable def TO(T:Addr)(a:Ll):HO:=.ext (qQ T a)
def qR(x:ou C d a e h):aF P w H h e (XO C d a e):=by
 obtain⟨b,p,c,q⟩:=id x;refine⟨x,⟨b,c⟩,λr s y k=>?_⟩;obtain⟨o,f,g,i,j,l,m,n⟩:=y;exact⟨o,f,k _ g,i,j,l,m,n⟩
def qS(x:qQ T a h):aF P w H h T (TO T a):=by
 obtain⟨b,i,c,j⟩:=id x;refine⟨x,⟨b,c⟩,λl m y k=>?_⟩;obtain⟨o,d,e,f,g⟩:=y;exact⟨o,d,k _ e,f,g⟩
def ow(I:L2.Inv X a σ H s)(h:H e=some (XO C d b e)):ou C d b e s.heap:=(I.hok e _ h).1
structure XK(K:Lm)(C fI:Addr):Prop where
 obj:∃nm q N bs bm hdct sn sub ab col dd k0 k1 k2 k3 k5,K.lookup C=some (excClassObj nm q C N bs bm hdct sn sub ab col dd k0 k1 k2 k3 k5 "ValueError.__new__")/\U0 bm=true/\hdct=true
 init:findIn K (.ref C) "__init__" = some (some (.ref fI))
 fn:isFn K (.ref fI)=true
 kp:keepIn K (.ref C)=true
 sa:findIn K (.ref C) "__setattr__" = some (some (.builtin "object.__setattr__"))
 na:findIn K (.ref C) "at" = some none
theorem oy:∀{l:List Ll},U0 l=true->l.contains (.type "ValueError")=true/\l.contains (.type "BaseException")=true/\l.contains (.type "AttributeError")=false/\l.contains (.type "NameError")=false
 | .ref c::r,e=>by
   obtain⟨a,b,d,f⟩:=oy (l:=r) (by cases r<;>exact e);refine⟨?_,?_,?_,?_⟩<;>rw[NB]<;>first | rw[a] | rw[b] | rw[d] | rw[f]
   .exact QH _
   .exact QH _
   .rfl
   .rfl
 | [],e=>by cases e
 | .type n::r,e=>by rw[show Ll.type n::r=mn from beq_iff_eq.mp e];exact⟨rfl,rfl,rfl,rfl⟩
 | .none::r,e=>by cases e
 | .bool _::r,e=>by cases e
 | .int _ _::r,e=>by cases e
 | .str _ _::r,e=>by cases e
 | .bytes _ _::r,e=>by cases e
 | .float _ _::r,e=>by cases e
 | .builtin _::r,e=>by cases e
 | .ellipsis::r,e=>by cases e
 | .notImplemented::r,e=>by cases e
def XK.cls{K:Lm}(x:XK K C c)(X:K.In h):oq h C "ValueError.__new__":=by
 obtain⟨d,q,N,bs,e,a,f,sub,g,b,i,j,l,m,n,o,p,r,_⟩:=x.obj;exact⟨d,q,N,bs,e,a,f,sub,g,b,i,j,l,m,n,o,X _ _ p,oy r⟩
def XK.cd{K:Lm}(x:XK K C b):∃cd,clsIn K C=some cd/\U0 cd.mro=true/\cd.hasDict=true:=by
 obtain⟨g,q,N,bs,h,a,i,sub,j,c,l,m,n,o,p,r,d,e,f⟩:=x.obj;refine⟨_,by unfold clsIn;rw[d],?_,f⟩;exact e
def oz(ch:List Addr)(ok:bV P w H h)(r:∀b∈ch,∃d,H b=some (.ext d))(m:∀b∈fs,H b=none)
 (k:∀b u,b∉ch->b∉fs->h.get? b=some u->h'.get? b=some u) (j:∀b u,b∈fs->h.get? b=some u->∃j,h'.get? b=some { u with slots:=j })
 (C:∀b∈ch,∃o,h'.get? b=some o) (f:∀b u,b∉ch->H b=some u->H' b=some u) (x:∀b,b<h.objs.size->H b=none->H' b=none)
 (new:∀b u,b∈ch\/h.objs.size<=b->H' b=some u->aF P w H' h' b u):Un fs [] H H' h h'/\bV P w H' h':=by
 have p:∀b,H b=none->b∉ch:=λb n z=>by obtain⟨d,e⟩:=r b z;rw[n]at e;cases e
 have i:∀b u,H b=some u->b∉fs:=λb u e z=>by rw[m b z]at e;cases e
 have nx:∀b u,H b=some u->(∀d,u≠.ext d)->b∉ch:=λb u e q z=>by obtain⟨d,y⟩:=r b z;rw[e]at y;exact q d (Mf y)
 refine⟨⟨λb o e n a _=>k b o (p b n) a e,λb o e n a _=>j b o a e,λb o e n _=>x b (Lr e) n,λb o e _=>?_,λb D e=>f b _ (nx b _ e (by intro d q;cases q)) e,λb o u e=>f b _ (nx b _ e (by simp)) e,λb G e=>⟨#[],by rw[f b _ (nx b _ e (by simp)) e];simp⟩⟩,λb u e=>?_⟩
 .by_cases a:b∈ch
  .exact C b a
  .by_cases A:b∈fs
   .obtain⟨s,q⟩:=j b o A e;exact⟨_,q⟩
   .exact⟨o,k b o a A e⟩
 .by_cases a:b∈ch
  .exact new b u (.inl a) e
  .by_cases E:h.objs.size<=b
   .exact new b u (.inr E) e
   .rcases l:H b with _ | v
    .rw[x b (by symm) l]at e;cases e
    .have B:=f b v a l;rw[e]at B;cases B;refine(ok b u l).stay (λc o g q=>k c o ?_ ?_ q) (λc q=>f c _ (nx c _ q (by simp)) q) λc D q=>f c _ (nx c _ q (by intro d z;cases z)) q
     .rcases g with rfl | g
      .exact a
      .exact nx c _ g (by simp)
     .rcases g with rfl | g
      .exact i _ _ l
      .exact i _ _ g
section
variable{X:Cx}{o value:Expr}{pos pos':Pos}{to tv:TE}
def vz(K:Lm)(to tv:TE):TS:=λD a H=>tv a H λy c=>to a c λx b=>∃e C f,x=.ref e/\b e=some (XO C none none e)/\XK K C f/\∀d,b d=none->d≠e->D.nx a (aB (aB b e (XO C (some d) none e)) d (.xd [("at",y)]))
def Dw(O:PE X o to)(Q:PE X value tv)(hs:swapsWith value (some (.Attribute o "at" pos')) pos.line X.env=pure false):PS X (.Assign [.Attribute o "at" pos'] value pos) (vz X.K to tv):=by
 intro d s l H D I h;refine Qr (aI (Q d s l H _ I h) λu T ⟨y,U,Y,ry,q⟩=>aI (O d T l U _ Y q) λov B zq=>?_) hs;obtain⟨x,H2,g,rx,e,C,fI,ex,m,n,q2⟩:=zq;subst ex;obtain rfl:ov=LJ e:=rx;obtain⟨oe,vs,E,G,L,p,h5,h6⟩:=ow g m;obtain⟨cd,c1,c2,c3⟩:=n.cd;have J:InstAt _ e oe C none:=⟨E,G,by unfold notCls;rw[p],by rw[L];trivial⟩;refine set_plain g.kIn J n.sa (Dv g.kIn J c1 c2 c3 n.na p L λh' N g2 g3=>?_);have j:=g.hok.fresh (Lp _);have r:=Nx (Lr E);refine⟨l,_,?_,q2 _ j r⟩;have w:=ry;obtain⟨u1,u2⟩:=oz (fs:=[]) (H':=aB (aB H2 e (XO C (some B.heap.objs.size) none e)) _ (.xd [("at",y)])) [e] g.hok (λb a=>by
  rw[Ls.mp a];exact⟨_,m⟩) (λ_ z=>nomatch z) (λb o a _ q=>g3 b o (λz=>a (by simp[z])) q) (λ_ _ z=>nomatch z) (λb a=>by rw[Ls.mp a];exact⟨_,N⟩)
  (λb v a q=>by rw[aj (E8 q j),aj (λz=>a (by simp[z]))];exact q)
  (λb a q=>by rw[aj (Ly a),aj (λz=>by rw[z,m]at q;cases q)];exact q)
  (λb v a q=>by
   by_cases i:b=B.heap.objs.size
   .rw[i,C2]at q;cases q;rw[i];refine⟨_,g2,λf=>?_⟩;by_cases A:f="at"
    .subst A;exact w
    .have:=beq_eq_false_iff_ne.mpr A;simp[PN,A,this,bT]
   .rw[aj i]at q;by_cases c:b=e
    .rw[c,C2]at q;cases q;rw[c];exact qR ⟨_,vs,N,G,rfl,p,h5,h6⟩
    .rw[aj c]at q;rcases a with a | a
     .exact absurd (Ls.mp a) c
     .rw[g.hok.fresh a]at q;cases q)
 exact g.un (u1.mono (λ_ z=>nomatch z) λ_ z=>z) u2
end
def Dx(f:Array Ll->Array Ll)(o:Obj):(Nu f o).dict=o.dict:=by
 obtain⟨c,d,a,b⟩:=o;cases a<;>rfl
inductive U8 (fl:Ll) (H:Hp) (e C:Addr) (v:V):Prop
 | mk (d) (tb) (h0:H e=some (XO C (some d) tb e)) (h1:H d=some (.xd [("at",v)])) (h2:∀T,tb=some T->H T=some (TO T fl)/\T≠e):U8 fl H e C v
def cn(H H':Hp):Prop:=∀b u,H b=some u->(∀a,u≠.ext a)->H' b=some u
def cn.refl(H:Hp):cn H H:=λ_ _ e _=>e
def cn.trans(a:cn H d)(b:cn d f):cn H f:=λc u e n=>b c u (a c u e n) n
def vA{M:UU}{A:Mq}
 (H:A.frames=some (g::c)) (hl:s.heap.FunFrames base (g::c)) (hf:g.frame=some L)
 (he:s.heap.get? e=some G) (I:G.data=.fields vs) (J:1<vs.size)
 (h:∀z T oT ts,(∀b o,b≠e->b∉frs (g::c)->s.heap.get? b=some o->z.get? b=some o)->(∀b o,b≠e->b∈frs (g::c)->s.heap.get? b=some o->∃N,z.get? b=some { o with slots:=N })->
  s.heap.objs.size<=T->z.get? e=some (Nu (·.setIfInBounds 1 (LJ T)) G)->z.get? T=some oT->oT.data=.fields ts->ts[3]?=some (rawInt L)->Q () { s with heap:=z }) :
 wpAny M A (do let a <-frameOf g;let p <-entryPlaceOf L j;let b <-EntryCells.newEntry i a .none (rawInt L) .none p;setField (.ref e) 1 b) Q E s:=by
 have B:e∉(g::c).filterMap _:=λhm=>by
  obtain⟨_,o,D,O⟩:=hl.mem hm;rw[he]at D;injection D with D;subst D;exact O vs I
 refine L0 (wpAny_frameOf_fun H hl hf λd f=>?_);refine L0 (wpAny_entryPlaceOf λp U=>?_);refine L0 (MN ?_ (U.sizeOk5 _ _ _ _ _));have l:=(f.2.1 e B).trans he;have m:=L3 { cls:=.type "traceback",dict:=none,data:=.fields ([i,.ref L,.none,rawInt L,.none]++(if p.isEmpty then Px 6 MZ else p)).toArray } l;have Y:=Nx (Lr l);have v:=Mr I (·.setIfInBounds 1 (LJ d.objs.size));have x:=Mn _ m (Ng v);have y:=(ML (d.push { cls:=.type "traceback",dict:=none,data:=.fields ([i,.ref L,.none,rawInt L,.none]++(if p.isEmpty then Px 6 MZ else p)).toArray })
  (Nu (·.setIfInBounds 1 (LJ d.objs.size))) (Na Y)).trans (Lq d rfl)
 have keep:∀b o,b≠e->d.get? b=some o->
  ((d.push { cls:=.type "traceback",dict:=none,data:=.fields ([i,.ref L,.none,rawInt L,.none]++(if p.isEmpty then Px 6 MZ else p)).toArray }).update e (Nu (·.setIfInBounds 1 (LJ d.objs.size)))).get? b=some o:=
  λb o n C=>by
   rw[ML _ _ (Na n)];exact L3 _ C
 refine Nz m I J (h _ _ _ _ (λb o n a0 C=>keep b o n ((f.2.1 b a0).trans C)) (λb o n _ C=>?_) (by rw[f.1];exact Lp _) x y rfl rfl);obtain⟨N,q⟩:=f.2.2 b o C;exact⟨N,keep b _ n q⟩
def qT{M:UU}(ok:bV P w H s.heap)(f:U8 J H e C v)
 (h:∀m H',Un [] [] H H' s.heap m->bV P w H' m->U8 .none H' e C v->cn H H'->Q () { s with heap:=m }):wpAny M A (setFlight (.ref e) none) Q E s:=by
 obtain⟨d,L,p,l,N⟩:=f;obtain⟨oe,vs,y,g2,g3,B,D,g6⟩:=(ok e _ p).1;cases L with
 | none=>
   refine L0 (Mx y B D ?_);exact Lk (h _ H Un.refl ok ⟨d,none,p,l,λT z=>nomatch z⟩ (cn.refl H))
 | some T=>
   obtain⟨j,G⟩:=N T rfl;obtain⟨oT,ts,I,r,O⟩:=(ok T _ j).1;have g:=(Po.mp O).1;refine L0 (Mx y B D ?_);have other:∀b,b≠T->(s.heap.update T (Nu (·.setIfInBounds 3 ((none:Option Addr).elim MZ λf=>rawInt f)))).get? b=s.heap.get? b:=λb a=>ML _ _ (Na a);have i:=Mn (Nu (·.setIfInBounds 3 ((none:Option Addr).elim MZ λf=>rawInt f))) I (Ng (Mr r _));obtain⟨U,Y⟩:=oz (fs:=[]) (H':=aB H T (TO T .none)) [T] ok
    (λb a=>by rw[Ls.mp a];exact⟨_,j⟩) (λ_ z=>nomatch z) (λb o a _ q=>(other b (λz=>a (by simp[z]))).trans q) (λ_ _ z=>nomatch z) (λb a=>by rw[Ls.mp a];exact⟨_,i⟩)
    (λb u a q=>by rw[aj (λz=>a (by simp[z]))];exact q) (λb _ q=>by rw[aj (λz=>by rw[z,j]at q;cases q)];exact q)
    (λb u a q=>by
     by_cases c:b=T
     .rw[c,C2]at q;cases q;rw[c];exact qS ⟨_,_,i,Mr r _,by simp[g]⟩
     .rw[aj c]at q;rcases a with a | a
      .exact absurd (Ls.mp a) c
      .rw[ok.fresh a]at q;cases q)
   refine Nz I r g (h _ _ U Y ⟨d,some T,by rw[aj (Na G)];exact p,by rw[aj (λz=>by rw[z,j]at l;cases l)];exact l,λT' z=>?_⟩ λb u q n=>?_)
   .cases z;exact⟨C2,G⟩
   .rw[aj (λz=>by rw[z,j]at q;exact n _ (Mf q).symm)];exact q
def vB{M:UU}{A:Mq}(O:A.frames=some (g::c))(hl:s.heap.FunFrames base (g::c))(hf:g.frame=some L)
 (y:∀b∈frs (g::c),H b=none) (ok:bV P w H s.heap) (f:U8 .none H e C v)
 (h:∀h' H',Un (frs (g::c)) [] H H' s.heap h'->bV P w H' h'->U8 (rawInt L) H' e C v->cn H H'->Q () { s with heap:=h' }):wpAny M A (noteFrame (.ref e) g) Q E s:=by
 obtain⟨d,tb,m,f2,f3⟩:=f;obtain⟨oe,vs,g1,g2,g3,g4,g5,g6⟩:=(ok e _ m).1;have B:=(Po.mp g5).1;unfold noteFrame;simp only[hf];refine L0 (Mx g1 g4 g5 ?_);have fin:∀(ch:List Addr)(h0 h':Heap)(T:Addr)(N:Obj)(D:Array Ll),(∀b∈ch,∃φ,H b=some (.ext φ))->e∈ch->(∀b∈ch,b≠e->∃o,h'.get? b=some o/\∀u,H b=some u->aF P w (aB (aB H e (XO C (some d) (some T) e)) T (TO T (rawInt L))) h' b u)->
  (∀b o,b∉ch->b∉frs (g::c)->s.heap.get? b=some o->h'.get? b=some o)->(∀b o,b∈frs (g::c)->s.heap.get? b=some o->∃sl,h'.get? b=some { o with slots:=sl })->
  s.heap.objs.size<=T->h'.get? e=some (Nu (·.setIfInBounds 1 (LJ T)) oe)->h'.get? T=some N->N.data=.fields D->D[3]?=some (rawInt L)->Q () { s with heap:=h' }:=by
  intro ch h0 h' T N D hx b0 Y hk hs hT he b1 b2 b3;have l:=ok.fresh hT;have a0:T≠e:=λz=>by rw[z,m]at l;cases l
  obtain⟨u1,u2⟩:=oz (H':=aB (aB H e (XO C _ (some T) e)) T (TO T _)) ch ok hx y hk hs
   (λb a=>by
    by_cases i:b=e
    .rw[i];exact⟨_,he⟩
    .obtain⟨o,q,_⟩:=Y b a i;exact⟨o,q⟩)
   (λb u a q=>by rw[aj (E8 q l),aj (λz=>a (by rw[z];exact b0))];exact q)
   (λb a q=>by rw[aj (Ly (LI a hT)),aj (λz=>by rw[z,m]at q;cases q)];exact q)
   (λb u a q=>by
    by_cases G:b=T
    .rw[G,C2]at q;cases q;rw[G];exact qS ⟨_,_,b1,b2,b3⟩
    .rw[aj G]at q;by_cases i:b=e
     .rw[i,C2]at q;cases q;rw[i];exact qR ⟨_,_,he,(Oz _ _).trans g2,(Dx _ _).trans g3,Mr g4 _,by simp[B,vy],by rw[Array.getElem?_setIfInBounds_ne (by simp)];exact g6⟩
     .rw[aj i]at q;rcases a with a | a
      .obtain⟨o,_,r⟩:=Y b a i;exact r u q
      .rw[ok.fresh a]at q;cases q)
  refine h h' _ u1 u2 ⟨d,some T,by rw[aj (Na a0)];exact C2,?_,λT' z=>?_⟩ λb u q n=>?_
  .rw[aj (E8 f2 l),aj (λz=>by rw[z,m]at f2;cases f2)];exact f2
  .cases z;exact⟨C2,a0⟩
  .rw[aj (E8 q l),aj (λz=>by rw[z,m]at q;exact n _ (Mf q).symm)];exact q
 have fe:e∉frs _:=λz=>by rw[y e z]at m;cases m
 cases tb with
 | none=>
   refine vA O hl hf g1 g4 B λh' T N D k1 k2 k3 k4 k5 k6 k7=>fin [e] s.heap h' T N D (λb a=>by rw[Ls.mp a];exact⟨_,m⟩) (by simp) (λb a z=>absurd (Ls.mp a) z) (λb o a I q=>k1 b o (λz=>a (by simp[z])) I q) (λb o a q=>k2 b o (λz=>fe (by rw[<-z];exact a)) a q) k3 k4 k5 k6 k7
 | some p=>
   obtain⟨f4,f5⟩:=f3 p rfl;obtain⟨N,D,t1,t2,t3⟩:=(ok p _ f4).1;have x:=(Po.mp t3).1;have fT:p∉frs _:=λz=>by rw[y p z]at f4;cases f4
   refine L0 (Mx t1 t2 t3 ?_);refine L0 (Nz t1 t2 x ?_);have other:∀b,b≠p->(s.heap.update p (Nu (·.setIfInBounds 3 MZ))).get? b=s.heap.get? b:=λb a=>ML _ _ (Na a);have a3:=Mn (Nu (·.setIfInBounds 3 MZ)) t1 (Ng (Mr t2 _));have j:∀b o,s.heap.get? b=some o->(∀vs,o.data≠.fields vs)->b≠p:=λb o a J q=>by
    rw[q,t1]at a;injection a with a;subst a;exact J D t2
   refine vA O (hl.of_keeps λb o a J=>⟨o,(other b (j b o a J)).trans a,rfl⟩) hf ((other e (Na f5)).trans g1) g4 B λh' T d0 d1 k1 k2 k3 k4 k5 k6 k7=>fin [e,p] s.heap h' T d0 d1 (λb a=>?_) (by simp) (λb a z=>?_) (λb o a I q=>?_) (λb o a q=>?_) ?_ k4 k5 k6 k7
   .rcases Lu.mp a with rfl | a
    .exact⟨_,m⟩
    .rw[Ls.mp a];exact⟨_,f4⟩
   .obtain rfl:b=p:=by
     rcases Lu.mp a with a | a
     .exact absurd a z
     .exact Ls.mp a
    have q:=k1 b _ z fT a3;refine⟨_,q,λu hu=>?_⟩;rw[f4]at hu;cases hu;exact qS ⟨_,_,q,Mr t2 _,by simp[x]⟩
   .exact k1 b o (λz=>a (by simp[z])) I ((other b (λz=>a (by simp[z]))).trans q)
   .exact k2 b o (λz=>fe (by rw[<-z];exact a)) a ((other b (λz=>fT (by rw[<-z];exact a))).trans q)
   .have:=k3;rw[PM]at this;exact this
def Dy{M:UU}(g:A.frames=some (c::a))(m:s.heap.FunFrames base (c::a))(n:c.frame=some L)
 (i:∀b∈frs (c::a),H b=none) (ok:bV P w H s.heap) (f:U8 .none H e C v)
 (h:∀j d,Un (frs (c::a)) [] H d s.heap j->bV P w d j->U8 .none d e C v->cn H d->Q () { s with heap:=j }):wpAny M A (leaving c (.ref e)) Q E s:=by
 refine L0 (vB g m n i ok f λI J o p q r=>?_);exact qT p q λu x y B D G=>h u x (o.trans (y.mono nofun λ_ z=>z)) B D (r.trans G)
section
variable(K:Lm)(cm:Nat->Addr)
def cV(f:List Addr)(H:Hp)(c:Nat)(v:PV)(A':PHp)(g:Addr->Hp->Prop):Prop:=∀b d a e,ax f H b d->aL K cm b A' d->RV b d v e->U8 .none d a (cm c) e->g a d
def dJ(e:List Addr)(H:Hp)(g:Addr->Hp->Prop)(Q:VK):R PV->Prop
 | .ok v d=>∀a b f,ax e H a b->aL K cm a d b->RV a b v f->Q f b
 | .ex c v d=>cV K cm e H c v d g
 | .no=>False
inductive qU (XQ:Addr->Hp->Prop) (d:ED) (σ:L2.St) (H:Hp) (Q:VK):Prop
 | mk (ρ:List Addr) (A:PHp) (σp:PSt) (h0:aL K cm ρ A H) (h1:bR ρ H σp σ) (h2:dJ K cm ρ H XQ Q (d σp A)):qU XQ d σ H Q
inductive gT (f:Fun) (n:Nat) (vs:List V) (H:Hp) (Q:VK) (E:L2.XK):Prop
 | mk (ρ:List Addr) (A:PHp) (ps:List PV) (h0:aL K cm ρ A H) (h1:RVs ρ H ps vs) (h2:ps.length=n) (h3:dJ K cm ρ H (λa H'=>E (.ref a) none H') Q (f ps A)):gT f n vs H Q E
def cS(e:List Addr)(H:Hp)(g:Addr->Hp->Prop)(D:u9):R Fl->Prop
 | .ok f b=>∀a d,ax e H a d->aL K cm a b d->nI D a d f
 | .ex c v b=>cV K cm e H c v b g
 | .no=>False
inductive bC (XE:Addr->Hp->Prop) (s:SD) (D:u9) (σ:L2.St) (H:Hp):Prop
 | mk (ρ:List Addr) (A:PHp) (σp:PSt) (h0:aL K cm ρ A H) (h1:bR ρ H σp σ) (h2:cS K cm ρ H XE D (s σp A)):bC XE s D σ H
end
def cV.ext{K:Lm}(h:cV K cm ρ H c v A' XQ)(x:ax ρ H ρ1 H1):cV K cm ρ1 H1 c v A' XQ:=λb d a e y r g f=>h b d a e (x.trans y) r g f
def dJ.ext{K:Lm}(h:dJ K cm ρ H XQ Q r)(x:ax ρ H ρ1 H1):dJ K cm ρ1 H1 XQ Q r:=by
 cases r with
 | ok v b=>exact λa d e y f g=>h a d e (x.trans y) f g
 | ex c v b=>exact cV.ext h x
 | no=>exact h
def cS.ext{K:Lm}(h:cS K cm ρ H XQ D r)(x:ax ρ H ρ1 H1):cS K cm ρ1 H1 XQ D r:=by
 cases r with
 | ok v b=>exact λa d y e=>h a d (x.trans y) e
 | ex c v b=>exact cV.ext h x
 | no=>exact h
def cn.ext(c:cn H H'):ax ρ H ρ H':=⟨LO _,λa b h=>c a _ h (by simp),λa b h=>c a _ h (by simp)⟩
def Dz{K:Lm}(r:RO K cm ρ H a o)(c:cn H H'):RO K cm ρ H' a o:=by
 have e:ax ρ H ρ H':=c.ext;cases o with
 | lst l=>obtain⟨i,h,q⟩:=r;exact⟨i,c _ _ h (by intro b z;cases z),q.mono e⟩
 | ro l=>
   obtain⟨i,h,q⟩:=r;rcases h with⟨u,h⟩ | h
   .exact⟨i,.inl ⟨u,c _ _ h (by intro b z;cases z)⟩,q.mono e⟩
   .exact⟨i,.inr h,q.mono e⟩
 | dI g=>obtain⟨f,h,q⟩:=r;exact⟨f,c _ _ h (by intro b z;cases z),q.mono e⟩
 | ins j fs=>obtain⟨m,n,f,h,q⟩:=r;exact⟨m,n,f,c _ _ h (by intro b z;cases z),q.mono e⟩
 | dS g=>obtain⟨f,h,q⟩:=r;exact⟨f,c _ _ h (by intro b z;cases z),q.mono e⟩
 | dT g=>obtain⟨f,h,q⟩:=r;exact⟨f,c _ _ h (by intro b z;cases z),q.mono e⟩
 | hid=>exact trivial
 | exc j v=>obtain⟨o,d,p,h,s,w,x,y,q⟩:=r;exact⟨o,d,p,c _ _ h (by intro b z;cases z),s,w,x,c _ _ y (by intro b z;cases z),q.mono e⟩
def aL.calm{K:Lm}(r:aL K cm ρ A H)(c:cn H H'):aL K cm ρ A H':=⟨r.tab.keep (λa u h b=>c a u h λf z=>by rw[z]at b;rcases b with⟨_,y⟩ | ⟨_,_,y⟩<;>cases y),r.len,λn o a d e=>Dz (r.obj n o a d e) c,r.inj⟩
def eZ(P:LK)(w:Mv):CXT:=λb H s E e c=>∃a C v d,e=.ref a/\c.os=s.os/\Sj c.gens/\Un (frs b) [] H d s.heap c.heap/\bV P w d c.heap/\U8 .none d a C v/\E (.ref a) none d
inductive jS (X:Cx) (pins:List (Addr×Obj)) (σ:L2.St) (XQ:Addr->Hp->Prop) (e:Ll) (s':Ln):Prop
 | mk (a) (C) (v) (H') (h0:e=.ref a) (h1:L2.Inv X pins σ H' s') (h2:U8 .none H' a C v) (h3:XQ a H'):jS X pins σ XQ e s'
def kP(X:Cx)(c:Nat->Addr)(e:Expr)(d:ED):Prop:=
 ∀(a:List (Addr×Obj))(s:Ln)(σ:L2.St)(H:Hp)(Q:VK)(b:Addr->Hp->Prop),L2.Inv X a σ H s->qU X.K c b d σ H Q->wpAny (model X.prog X.w) X.A (eval e X.env) (EP X a σ Q) (jS X a σ b) s
def DA(I:L2.Inv X pins σ H s)(h:eZ X.prog X.w X.stack H s E e s'):jS X pins σ (λa i=>E (.ref a) none i) e s':=by
 obtain⟨a,C,v,i,rfl,os,c,un,j,f,q⟩:=h;obtain⟨m,g,d,t,l⟩:=s';obtain rfl:l=s.os:=os;exact⟨a,C,v,i,rfl,I.call un j c (λb z=>absurd z (by simp)),f,q⟩
def DB(F:az X.prog X.w X.K X.mg X.base (eZ X.prog X.w) k f g ps i)(j:aN k X.A)(l:L2.Binds X.K g ps [])
 (I:L2.Inv X pins σ H s) (r:aA vs b) (h:i vs H Q E):wpAny (model X.prog X.w) X.A (call (.ref f) b) (EP X pins σ Q) (jS X pins σ λa m=>E (.ref a) none m) s:=by
 have n:b.length=ps.length:=by rw[<-r.length];exact F.len _ _ _ _ h
 have c:=l s b I.kIn (by rw[MM];exact n);rw[MM]at c;refine Pc (Oe (F.run X.A _ s H ⟨b,[]⟩ b vs Q E j I.env0 c r h) λr s' d=>?_);cases r with
 | error e=>exact DA I d
 | ok o=>
   cases o with
   | ret u=>exact I.after d
   | next=>exact Mb d
   | brk=>exact Mb d
   | cont=>exact Mb d
def DC(h:jS X pins σ (λa c=>∃b,LJ a=.ref b/\d b c) e s'):jS X pins σ d e s':=by
 obtain⟨a,C,v,c,f,I,g,b,i,j⟩:=h;cases i;exact⟨a,C,v,c,f,I,g,j⟩
def DD(ho:PE X.nox o (cJ X.K cm d))(hc:dC X.K (cm c))(hm:iz X.K (cm c) m fa)
 (F:az X.prog X.w X.K X.mg X.base (eZ X.prog X.w) k fa fd ps (gT X.K cm f n)) (hn:∀vs A,f vs A≠.no->vs.length=n) (c0:∀i,i<19->cE i≠m) (hr:aN k X.A) (hb:L2.Binds X.K fd ps []) (ha:PA X.nox (e::es) (gz X.K cm ds))
 (c1:autoParam (starEach (e::es) X.env=(false,eval e X.env)::starEach es X.env) au2._auto_1) (c2:autoParam ((backTo B (starEach es X.env)).any (·.1)=false) au0._auto_1)
 (ht:autoParam (eval (.Call (.Attribute o m D) (e::es) [] B) X.env=(do
  let ov <-eval o X.env
  standAt D.atName
  let(f,first) <-holding [ov] (getMethod ov m pl)
  callWith B f first (backTo B (starEach (e::es) X.env)) (backToKw B (keywordEach [] X.env)))) au0._auto_1) :
 kP X cm (.Call (.Attribute o m D) (e::es) [] B) (i5 c f d ds):=by
 intro T s σ H Q XQ I ⟨ρ,A,G,rl,rs,g⟩;unfold i5 ao dG at g;rcases hd:d G A with⟨x,A1⟩ | ⟨c',v,A1⟩ | _
 case ex=>rw[hd]at g;exact Mb g
 case no=>rw[hd]at g;exact Mb g
 rw[hd]at g;refine QD (Mp (ho T s σ H (λv1 U=>∃y,ax ρ H y U/\aL X.K cm y A1 U/\RV y U x v1) (I.wish _) ⟨ρ,A,G,x,A1,rl,rs,hd,λy U v1 x1 L N=>⟨y,x1,L,N⟩⟩) (λu s1 zq=>?_) λ_ _ z=>Mb z) ht;obtain⟨x',U,I1,rx,y,x1,L,N⟩:=zq;cases x with
 | ref j=>
   rcases hi:w6 j A1 with⟨ob,A2⟩ | ⟨c',v,A2⟩ | _
   case ex=>simp only[ao]at g;unfold w6 at hi;split at hi<;>cases hi
   case no=>simp only[ao]at g;rw[hi]at g;exact Mb g
   obtain⟨rfl,hA,a,dx,kv,rfl,g6,hH,hp,hs⟩:=nL L N hi;have J:dJ X.K cm ρ H XQ Q (ao (w6 j) (λo=>D5 (o.1=c) (ao (dG (ds G)) λvs=>f (.ref j::vs))) A2):=g;rw[ay hi]at J;have h:=J;clear g J;by_cases Y:ob.1=c
   case neg=>rw[show D5 _ _=stuck from if_neg Y]at h;exact Mb h
   rw[J5 Y]at h;subst Y;have c4:kv.lookup m=none:=by
    have d0:∀(l:List (Str×V)),(∀z∈l.map (·.1),z≠m)->l.lookup m=none:=λl=>by
     induction l with
     | nil=>simp
     | cons p q ih=>
       intro hz;rw[QN,beq_eq_false_iff_ne.mpr (λz=>hz p.1 (by simp) z.symm)];exact ih λz a5=>hz z (by simp at a5 ⊢;exact .inr a5)
    refine d0 kv λz hz=>?_;rw[hp.keys]at hz;obtain⟨q,hq,rfl⟩:=Lv.mp hz;exact c0 _ (hs q hq)
   obtain rfl:u=LJ a:=rx;refine p4 I1.unwish hH hc hm c4 ?_;unfold ao dG at h;rcases O:ds G A2 with⟨xs,A3⟩ | ⟨c',v,A3⟩ | _
   case ex=>rw[O]at h;exact Mb h
   case no=>rw[O]at h;exact Mb h
   rw[O]at h;have g:dJ X.K cm ρ H XQ Q (f _ A3):=h;refine OR I.ok.mod.kin hm.kp (Mp (ha B T s1 σ U (λa6 H2=>∃C,ax y U C H2/\aL X.K cm C A3 H2/\RVs C H2 xs a6) I1 ⟨y,A2,G,xs,A3,L,rs.mono x1,O,λC H2 a6 x2 a1 a2=>⟨C,x2,a1,a2⟩⟩) (λus s2 ⟨vs,H2,I2,r,C,x2,a1,a2⟩=>⟨I2.kIn,?_⟩) λ_ _ z=>Mb z) c1 c2;refine Mp (DB (vs:=.ref a::vs) (E:=λe _ H'=>∃b,e=.ref b/\XQ b H') F hr hb I2.unwish (.cons rfl r) ⟨C,A3,.ref j::xs,a1,.cons (N.mono x2) a2,hn _ A3 (λz=>by rw[z]at g;exact g),?_⟩) (λ_ _ z=>z) λ_ _ z=>DC z;have o2:=(g.ext x1).ext x2;revert o2;cases f _ A3 with
   | ok v A'=>exact λz=>z
   | ex c v A'=>simp
   | no=>exact λz=>z
 | _=>exact Mb g
def oA(X:Cx)(c:Addr->Hp->Prop):Prop:=∀(b:List (Addr×Obj))(σ:L2.St)(H:Hp)(s:Ln)(a C:Addr)(v:V),L2.Inv X b σ H s->U8 .none H a C v->c a H->X.xe (.ref a) s
def noX_inv{c:Type}{m:M c}{r:R c}(h:dG m A=r):(∃a b,m A=.ok a b/\r=.ok a b)\/r=.no:=by
 unfold dG at h;rcases d:m A with⟨a,b⟩ | _ | _<;>rw[d]at h
 .exact .inl ⟨a,b,rfl,h.symm⟩
 .exact .inr h.symm
 .exact .inr h.symm
def DE{st:Stmt}(h:PS X.nox st t):PS X st t:=λa s b H D I c=>
 Mp (h a s b H D (I.wish _) c) (λ_ _ q=>q.unwish) λ_ _ z=>Mb z
def mq{st:Stmt}(h:PS X.nox st (gA X.K cm s)):PS X st (bC X.K cm XE (cB s)):=Q3 (DE h) λD j H c=>by
 obtain⟨a,A,b,d,g,o⟩:=c;rcases noX_inv rfl with⟨f,i,e,q⟩ | q
 .have o:cS X.K cm a H XE D (dG _ A):=o;rw[q]at o;exact⟨a,A,b,f,i,d,g,e,o⟩
 .have o:cS X.K cm a H XE D (dG _ A):=o;rw[q]at o;exact Mb o
def jT{st:List Stmt}(h:bZ X.nox st (gA X.K cm s)):bZ X st (bC X.K cm XE (cB s)):=nJ (bZ.nox h) λD j H c=>by
 obtain⟨a,A,b,d,g,o⟩:=c;rcases noX_inv rfl with⟨f,i,e,q⟩ | q
 .have o:cS X.K cm a H XE D (dG _ A):=o;rw[q]at o;exact⟨a,A,b,f,i,d,g,e,o⟩
 .have o:cS X.K cm a H XE D (dG _ A):=o;rw[q]at o;exact Mb o
def gU{st:Stmt}(h:PS X st (bC X.K cm XE s)):bZ X [st] (bC X.K cm XE s):=mS h
def gc{st:Stmt}(m:PS X st (bC X.K cm XE s))(n:bZ X rest (bC X.K cm XE r)):bZ X (st::rest) (bC X.K cm XE (au s r)):=
 nJ (sW m n) λD B H p=>by
  obtain⟨q,A,e,u,w,o⟩:=p;refine⟨q,A,e,u,w,?_⟩;unfold au ao at o;rcases x:s e A with⟨f,j⟩ | ⟨c,v,j⟩ | _<;>rw[x]at o
  .intro a l h b;cases f with
   | nx i=>exact λg d=>⟨a,j,i,b,d,cS.ext o h⟩
   | rt v=>exact λy z=>o a l h b y z
   | _=>exact λg d=>o a l h b g d
  .exact o
  .exact o
def mr(l:PT X.nox c (fB X.K cm t))(m:bZ X a (bC X.K cm XE s))(n:bZ X b (bC X.K cm XE u)):PS X (.If c a b h) (bC X.K cm XE (br (dg t) s u)):=
 Q3 (sY (PT.nox l) m n) λD y H p=>by
  obtain⟨r,A,d,v,i,o⟩:=p;unfold br dg ao at o;rcases noX_inv rfl with⟨x,j,w,q⟩ | q<;>rw[q]at o
  .refine⟨r,A,d,x,j,v,i,w,λe z g f=>?_⟩;cases x with
   | true=>exact⟨e,j,d,f,i.mono g,cS.ext o g⟩
   | false=>exact⟨e,j,d,f,i.mono g,cS.ext o g⟩
  .exact Mb o
def DF(i:oA X XE)(h:kP X cm e d):PE X e (qU X.K cm XE d):=λb s g H Q I ⟨j,A,c,l,m,o⟩=>
 Mp (h b s g H Q XE I ⟨j,A,c,l,m,o⟩) (λ_ _ z=>z) λw n ⟨a,C,v,p,r,u,f,q⟩=>by subst r;exact i b g p n a C v u f q
def gV(m:oA X XE)(h:kP X cm e d)(hs:autoParam (swapsWith e none a.line X.env=pure false) au0._auto_1):PS X (.Expr e a) (bC X.K cm XE (aO d)):=
 Q3 (sX (DF m h) hs) λD n H p=>by
  obtain⟨q,A,b,r,j,o⟩:=p;refine⟨q,A,b,r,j,?_⟩;unfold aO ao at o;rcases hs:d b A with⟨f,s⟩ | ⟨c,v,s⟩ | _<;>rw[hs]at o
  .exact λg u x l i w=>o g u l i n (j.mono l)
  .exact o
  .exact o
def DG(a:Un fs [] p H i h)(b:Un (L::fs) [] H H' h h')(r:i.objs.size<=L):Un fs [] p H' i h':=by
 have ne:∀b o,i.get? b=some o->b≠L:=λb o e=>Ly (LI (Lr e) r);refine⟨λc o e n g d=>?_,λc o e n g d=>?_,λc o e n d=>?_,λc o e d=>?_,λc q e=>b.tups c q (a.tups c q e),λc o u e=>b.frzs c o u (a.frzs c o u e),λc s e=>?_⟩
 .exact b.keep c o (a.keep c o e n g d) (a.free c o e n d) (λz=>(Lu.mp z).elim (ne c o e) g) d
 .obtain⟨x,f⟩:=a.slot c o e n g d;obtain⟨j,l⟩:=b.slot c _ f (a.free c o e n d) (LC _ g) d;exact⟨j,l⟩
 .obtain⟨m,f⟩:=a.there c o e d;exact b.free c m f (a.free c o e n d) d
 .obtain⟨m,f⟩:=a.there c o e d;exact b.there c m f d
 .obtain⟨v,f⟩:=a.tbls c s e;obtain⟨w,l⟩:=b.tbls c _ f;exact⟨v++w,by rw[l,RG]⟩
def oB(E:L2.XK)(a:Addr)(H':Hp):Prop:=∃C v,U8 .none H' a C v/\∀b,cn H' b->U8 .none b a C v->E (.ref a) none b
def gd{K:Lm}:oA (v9 (eZ P w) P w K mg base N e b f h A d l m E) (oB E):=by
 intro i o H s a p r I _ ⟨C,v,n,q⟩;refine Dy (P:=P) (w:=w) I.ok.frames I.stack rfl I.stkFree I.hok n λx j u ok g c=>?_;refine⟨a,C,v,j,rfl,I.os,I.bare,?_,ok,g,q j c g⟩;exact DG I.base (u.mono I.stkSub λ_ z=>z) (Lp _)
def DH{K:Lm}(h:dJ K cm z H (λa f=>E (.ref a) none f) Q (fn n p s i B)) :
 cS K cm z H (oB E) { nx:=λ_ f=>Q .non f,rt:=Q } (s (Ws.start n i) B):=by
 unfold fn at h;by_cases A:i.length=p
 case neg=>rw[show D5 _ _=stuck from if_neg A]at h;exact Mb h
 rw[J5 A]at h;unfold ao at h;rcases C:s _ B with⟨o,D⟩ | ⟨c,v,D⟩ | _<;>rw[C]at h
 .cases o with
  | nx G=>exact λb j l d I _=>h b j _ l d .non
  | rt u=>exact λb j l d g m=>h b j g l d m
  | _=>exact Mb h
 .exact λq f a g x J L r=>⟨cm c,g,r,λy calm e=>h q y a g (x.trans calm.ext) (J.calm calm) (L.mono calm.ext) e⟩
 .exact h
def DI{K:Lm}{st:Stmt}(F:L2.Fun K x b st f j)(S:R7 N ps (C4 st))
 (d:∀(c:Ll)(A:Mq)(a:List Env)(e:Ln)(H:Hp)(E:L2.XK),aN k (A.deeper (My b (C4 st) e.heap.objs.size f c))->
  bZ (v9 (eZ P w) P w K mg base N b (C4 st) f c A a e H E) (G0 st) (bC K cm (oB E) s)) :
 az P w K mg base (eZ P w) (k+1) f j ps (gT K cm (fn N.length ps.length s) ps.length):=by
 obtain⟨y,z,kV,q,C,D,c,G,r,rfl,lk,g⟩:=F.ex;refine pM lk g S (λu H Q E ⟨l,A,m,n,i,p,_⟩=>by rw[<-i.length];exact p) λA a e H u Q E v h=>⟨_,d c A a e H E v,?_⟩;obtain⟨l,B,m,n,i,p,o⟩:=h;exact⟨l,B,Ws.start _ m,n,bR.start0 i,DH o⟩
def DJ(h:fn n p s vs A≠.no):vs.length=p:=by
 by_cases a:vs.length=p
 .exact a
 .exfalso;apply h;show D5 _ _ A=_;rw[show D5 _ _=stuck from if_neg a];rfl
structure mu(P:LK)(w:Mv)(K:Lm)(mg:Str->Option Ll)(base:Heap)(cm:Nat->Addr)(c:Nat)(m:Str)(k:Nat)(ps:List Str)(f:Fun)(n:Nat):Prop where
 ex:∃(fa:Addr)(fd:LN),az P w K mg base (eZ P w) k fa fd ps (gT K cm f n)/\iz K (cm c) m fa/\L2.Binds K fd ps []
 len:∀vs A,f vs A≠.no->vs.length=n
def DK(D:mu X.prog X.w X.K X.mg X.base cm c m k ps f n)(r:k<=l)(s:aN l X.A)(u:dC X.K (cm c))(v:PE X.nox o (cJ X.K cm d))(x:PA X.nox (e::es) (gz X.K cm p))(g:∀i,i<19->cE i≠m)
 (h:autoParam (starEach (e::es) X.env=(false,eval e X.env)::starEach es X.env) au2._auto_1) (j:autoParam ((backTo a (starEach es X.env)).any (·.1)=false) au0._auto_1)
 (y:autoParam (eval (.Call (.Attribute o m b) (e::es) [] a) X.env=(do
  let ov <-eval o X.env
  standAt b.atName
  let(f,first) <-holding [ov] (getMethod ov m q)
  callWith a f first (backTo a (starEach (e::es) X.env)) (backToKw a (keywordEach [] X.env)))) au0._auto_1) :
 kP X cm (.Call (.Attribute o m b) (e::es) [] a) (i5 c f d p):=by
 obtain⟨C,E,F,z,B⟩:=D.ex;exact DD v u z F D.len g (s.mono r) B x h j y
def kQ(K:Lm):Sp:=λa H Q _=>∃e C b v,a=[.ref e,v]/\H e=some (XO C none none e)/\XK K C b/\∀d,H d=none->d≠e->Q .non (aB (aB H e (XO C (some d) none e)) d (.xd [("at",v)]))
def DL{K:Lm}{st:Stmt}(F:L2.Fun K x b st f j)(S:R7 N N (C4 st))(m:N.length=2)
 (g:∀(c:Ll)(A:Mq)(a:List Env)(i:Ln)(H:Hp)(E:L2.XK),aN k (A.deeper (My b (C4 st) i.heap.objs.size f c))->
  bZ (v9 aR P w K mg base N b (C4 st) f c A a i H E).nox (G0 st) (vz K (fE 0) (fE 1))) :
 az P w K mg base aR (k+1) f j N (kQ K):=by
 refine F.ok S (λn H Q E ⟨e,C,l,v,h,_⟩=>by rw[h,m];rfl) λc A a i H n Q E o h=>⟨_,g c A a i H E o,?_⟩;obtain⟨e,C,l,v,rfl,p,q,r⟩:=h;have s:(L2.start N [V.ref e,v])[0]?=some (some (V.ref e)):=by unfold L2.start;simp
 have u:(L2.start N [V.ref e,v])[1]?=some (some v):=by unfold L2.start;simp
 exact⟨v,u,.ref e,s,e,C,l,rfl,p,q,λd y z=>r d y z⟩
def DM(m:XK X.K C n)(F:az X.prog X.w X.K X.mg X.base aR k n z ps (kQ X.K))(G:aN (k+1) X.A)(J:L2.Binds X.K z ps [])
 (I:L2.Inv X pins σ H s) (r:L2.RelV v u) (h:∀e d,H e=none->H d=none->d≠e->Q (.ref e) (aB (aB H e (XO C (some d) none e)) d (.xd [("at",v)]))) :
 wpAny (model X.prog X.w) X.A (call (.ref C) [u]) (EP X pins σ Q) E s:=by
 have L:∀b o,s.heap.get? b=some o->(s.heap.push { cls:=.type "tuple",data:=.seq [u].toArray }).get? b=some o:=λb o e=>L3 _ e;have N:((s.heap.push { cls:=.type "tuple",data:=.seq [u].toArray }).push (jR C s.heap.objs.size)).get? (s.heap.objs.size+1)=some (jR C s.heap.objs.size):=by heap_get
 have O:=I.kept (t':=s.toks) L;have p:=O.laid (a:=s.heap.objs.size+1) (o:=XO C none none _) (t':=s.toks) (λb o q=>L3 _ q) (Th (ME _ _))
  (qR ⟨_,_,N,rfl,rfl,rfl,rfl,rfl⟩)
 have x:=I.hok.fresh (NZ _);have i:kQ X.K [.ref _,v] _ (λw T=>w=.non/\Q _ T) E0:=
  ⟨s.heap.objs.size+1,C,n,v,rfl,C2,m,λd B j=>⟨rfl,by
   rw[yB];exact h _ d x (by rw[aj j]at B;exact B) j⟩⟩
 have D:aA [V.ref _,v] [LJ (s.heap.objs.size+1),u]:=.cons rfl (.cons r .nil);have U:[LJ (s.heap.objs.size+1),u].length=ps.length:=by
  have e:=D.length;rw[F.len _ _ _ _ i]at e;exact e.symm
 have y:=J _ [LJ _,u] p.kIn (by exact U);obtain⟨hh,g,d,t,os⟩:=s;refine Pc (Dt (m.cls I.kIn) (TB I.kIn m.init) (λl=>PySem.W.bind_fn I.kIn l (beq_iff_eq.mp m.fn)) (by simp[sizeLine]) (Oe (F.run _ _ _ _ ⟨[LJ _,u],[]⟩ _ _ _ _ (G.make C [u] [])
  (p.env0.make C [u] []) y D i) λr s' c=>?_))
 cases r with
 | error e=>exact Mb c
 | ok Y=>
   cases Y with
   | ret u=>
     obtain⟨v,H',I3,rv,ev,q3⟩:=p.after c;subst ev;exact⟨rv,⟨V.ref _,H',I3,rfl,q3⟩⟩
   | next=>exact Mb c
   | brk=>exact Mb c
   | cont=>exact Mb c
def DN{M:UU}(r:A.handled=none)
 (h:wpAny M A x (λv a=>∃e i j,v=.ref e/\oq a.heap C "ValueError.__new__"/\a.heap.get? e=some i/\i.cls=.ref C/\i.data=.fields j/\j[1]?=some .none/\E (.ref e) a) E s) :
 wpAny M A (raiseStmt env (some x) none) Q E s:=by
 unfold raiseStmt;refine L0 (Mp h (λv a c=>?_) λ_ _ x=>x);obtain⟨e,i,j,rfl,u,m,f,n,w,y⟩:=c;obtain⟨D,q,N,bs,z,o,G,sub,H,B,I,J,L,O,T,U,p,_,b,_⟩:=u.obj;have l:(LJ C::z).contains (.type "BaseException")=true:=by rw[NB,b,QH]
 obtain⟨Y,g,d,tk,os⟩:=a;repeat (first | (with_reducible refine Nj m ?_;first | rw[f] | rw[n]) | with_reducible refine Nj p ?_ | (with_reducible refine NM p ?_;rw[l]) | with_reducible refine Mx m n w ?_ | wp_step)
 exact wpAny_raiseNew_none r y
structure jU(P:LK)(w:Mv)(K:Lm)(mg:Str->Option Ll)(base:Heap)(cm:Nat->Addr)(c:Nat)(x:Str)(k:Nat):Prop where
 ex:∃(fI:Addr)(fd:LN)(ps:List Str),az P w K mg base aR k fI fd ps (kQ K)/\XK K (cm c) fI/\mg x=some (.ref (cm c))/\L2.Binds K fd ps []
def DO(he:H e=none)(b:H d=none)(a:d≠e):U8 .none (aB (aB H e (XO C (some d) none e)) d (.xd [("at",v)])) e C v:=
 ⟨d,none,by rw[aj (Na a),C2],C2,λT z=>nomatch z⟩
def gf(hx:oA X XE)(hc:X.calm=true)(D:jU X.prog X.w X.K X.mg X.base cm c x k)(hk:k+1<=k')(hr:aN k' X.A)(hg:Gl X x)
 (ha:PA X.nox [e] (gz X.K cm ds)) (B:autoParam ((x == ("__debug__" : Str))=false) au1._auto_1) (he:autoParam (starEach [e] X.env=(false,eval e X.env)::starEach [] X.env) au2._auto_1) (E:autoParam ((backTo f (starEach [] X.env)).any (·.1)=false) au0._auto_1) :
 PS X (.Raise (some (.Call (.Name x np) [e] [] f)) none y) (bC X.K cm XE (bW c ds)):=by
 intro h s σ H D' I ⟨ρ,A,G,rl,rs,o⟩;obtain⟨fI,fd,ps,F,J,hm,hb⟩:=D.ex;rw[arm_exec_Raise];refine L0 (Rb (DN (C:=cm c) (I.ok.hd hc) (L0 (Mp ?_ (λv s3 l=>L0 (Rb (Lk l))) λ_ _ x=>x))));unfold bW ao at o;rcases noX_inv rfl with⟨L,A1,e1,q⟩ | q<;>rw[q]at o
 case inr=>exact Mb o
 refine OQ (v7 I hg hm ?_ B);refine OR I.ok.mod.kin J.kp (Mp (ha f h s σ H (λm g=>∃b,ax ρ H b g/\aL X.K cm b A1 g/\RVs b g L m) (I.wish _) ⟨ρ,A,G,L,A1,rl,rs,e1,λb g v1 N i j=>⟨b,N,i,j⟩⟩) (λus s1 ⟨m,g,I1,r,b,N,i,j⟩=>⟨I1.kIn,?_⟩) λ_ _ z=>Mb z) he E;rcases L with _ | ⟨v,_ | ⟨w',t⟩⟩
 .exact Mb o
 .cases j with
  | cons rv rn=>
    rename_i u t';cases rn;cases r with
    | cons r1 r2=>
      rename_i u' t';cases r2;refine Mp (DM (Q:=λz H2=>∃a d,z=.ref a/\g a=none/\g d=none/\d≠a/\H2=aB (aB g a (XO _ (some d) none a)) d _) J F (hr.mono hk) hb I1.unwish r1 λa d O n l=>⟨a,d,rfl,O,n,l,rfl⟩) (λz s2 zq=>?_) λ_ _ z=>z;obtain⟨z',H2,T,rz,a,d,O,n,l,U,h5⟩:=zq;subst O;obtain rfl:z=LJ a:=rz;subst h5;have fl:U8 .none _ a (cm c) u:=DO n l U;have p:aB g a (XO (cm c) (some d) none a) d=none:=by rw[aj U];exact l
      have Y:ax b g b (aB g a (XO (cm c) (some d) none a)):=ax.same n;have g2:ax b _ b (aB _ d (.xd [("at",u)])):=ax.same p;have a1:=(i.grow Y (M9 n)).grow g2 (M9 p);obtain⟨oe,ws,y1,y2,y3,y4,y5,y6⟩:=ow T (by rw[aj (Na U),C2]);exact⟨a,oe,ws,rfl,J.cls T.kIn,y1,y2,y4,y5,hx h σ _ s2 a _ u T fl (o b _ a u ((N.trans Y).trans g2) a1 ((rv.mono Y).mono g2) fl)⟩
 .exact Mb o
def vC{K:Lm}(x:XK K C o):∃d q N bs c a e sub f b g h i j l m,K.lookup C=some (excClassObj d q C N bs c a e sub f b g h i j l m "ValueError.__new__")/\U0 c=true/\(LJ C::c).contains (.ref C')=kR K C C':=by
 obtain⟨d,q,N,bs,c,a,e,sub,f,b,g,h,i,j,l,m,n,p,_⟩:=x.obj;refine⟨d,q,N,bs,c,a,e,sub,f,b,g,h,i,j,l,m,n,p,?_⟩;unfold kR;rw[n]
def DP{M:UU}{K:Lm}(b:K.In s.heap)(x:XK K C y)(z:XK K C' i)(he:s.heap.get? e=some r)(c:r.cls=.ref C)(j:Q (kR K C C') s):wpAny M A (excMatches (.ref e) (.ref C')) Q E s:=by
 obtain⟨nm,q,N,bs,B,u,sn,sub,ab,D,dd,k0,k1,k2,k3,k5,G,ho,H⟩:=vC (C':=C') x;obtain⟨I,q',N',J,l,m,L,v,O,w,T,U,Y,a0,a1,a2,n,o,_⟩:=vC (C':=C') z;have hC:=b _ _ G;have h:=b _ _ n;have a:=(oy o).2.1;have p:(LJ C'::l).contains (.type "BaseException")=true:=by rw[NB,a,QH]
 have f:=tc_notTuple;rw[<-H]at j;obtain⟨hp,g,d,t,os⟩:=s;unfold excMatches;repeat (first | (with_reducible refine Nj he ?_;rw[c]) | with_reducible refine Nj h ?_ | (with_reducible refine NM h ?_;rw[p]) | with_reducible refine NM hC ?_ | wp_step)
 cases hb:(LJ C::B).contains (.ref C')<;>(rw[hb]at j;wp_walk;exact j)
abbrev mv(X:Cx)(a:Addr):Cx:={ X with A:=X.A.mark (some (.ref a)),calm:=false,xe:=λ_ _=>False }
def vD(I:L2.Inv X pins σ H s)(a:Addr):L2.Inv (mv X a) pins σ H s:=
 ⟨⟨I.ok.mod,I.ok.kind,I.ok.glob,I.ok.blt,I.ok.above,I.ok.inj,I.ok.has,I.ok.cab,(λz=>by cases z),I.ok.frames,I.ok.stk,I.ok.exf,I.ok.bs,I.ok.bsz,I.ok.noex,I.ok.exfs,I.ok.funs,I.ok.frf⟩,I.os,I.bare,I.base,I.loc,I.cell,I.free,I.freeC,I.pin,I.hok,I.len⟩
def DQ(O:X.Ok)(I:L2.Inv (mv X a) pins σ H s):L2.Inv X pins σ H s:=⟨O,I.os,I.bare,I.base,I.loc,I.cell,I.free,I.freeC,I.pin,I.hok,I.len⟩
def DR(I:L2.Inv X pins σ H s)(J:X.N.Nodup)(C:X.N[i]?=some x)
 (L:∀(j:Nat)(y:Str)(v:V),X.N[j]?=some y->σ[j]?=some (some v)->jd X.env.scope y->∃u,L2.RelV v u/\sT X.env s.heap m y u)
 (w:h'.Ns X.env.locals (λy=>if y=x then v else m y)) (hs:MA X.env.locals s.heap h'):L2.Inv X pins (σ.set i none) H { s with heap:=h',toks:=t' }:=by
 obtain⟨m0,⟨oL,_,_,O,_⟩,_⟩:=id I.loc;have g:i<σ.length:=by rw[I.len];exact(LA.mp C).1
 refine⟨I.ok,I.os,I.bare,⟨λb o e n A h=>?_,λb o e n A h=>?_,I.base.free,λb o e h=>?_,I.base.tups,I.base.frzs,I.base.tbls⟩,⟨_,w,λj y Q f l T=>?_⟩,λy c e=>?_,I.free,I.freeC,λp U=>?_,λb Y e=>?_,by simpa using I.len⟩
 .exact(hs.2 b (Ly (LI (Lr e) I.ok.above))).trans (I.base.keep b o e n A h)
 .obtain⟨sl,f⟩:=I.base.slot b o e n A h;exact⟨sl,(hs.2 b (Ly (LI (Lr e) I.ok.above))).trans f⟩
 .obtain⟨o',f⟩:=I.base.there b o e h;exact⟨o',(hs.2 b (Ly (LI (Lr e) I.ok.above))).trans f⟩
 .by_cases B:j=i
  .subst B;rw[NH g]at l;cases l
  .rw[MG (Na B)]at l;obtain⟨u',r',q⟩:=L j y Q f l T;refine⟨u',r',?_⟩;rcases q with⟨k,e⟩ | ⟨k,c,e,z⟩
   .refine .inl ⟨k,?_⟩;have:y≠x:=λe=>B (pk J f (e ▸ C));simp[this,e]
   .exact .inr ⟨k,c,e,z.sameBut hs (I.cne y c e)⟩
 .obtain⟨G,z⟩:=I.cell y c e;exact⟨G,z.sameBut hs (I.cne y c e)⟩
 .obtain⟨e,n,ne,nf,d⟩:=I.pin p U;exact⟨(hs.2 p.1 ne).trans e,n,ne,nf,d⟩
 .refine(I.hok b Y e).stay (λc G r q=>(hs.2 c ?_).trans q) (λ_ q=>q) λ_ _ q=>q;rintro rfl;rcases r with rfl | r
  .rw[I.free]at e;cases e
  .rw[I.free]at r;cases r
def qV(h:bR d H b σ)(i:Nat):bR d H (b.set i none) (σ.set i none):=by
 refine⟨by simp[h.len],λj p a=>?_⟩;by_cases c:i=j
 .subst c;rw[List.getElem?_set]at a;split at a
  .split at a<;>cases a
  .rename_i z;exact absurd rfl z
 .rw[MG c]at a ⊢;exact h.get j p a
structure mw(K:Lm)(cm:Nat->Addr)(es:List Nat):Prop where
 xk:∀c∈es,∃fI,XK K (cm c) fI
 sub:∀c∈es,∀k∈es,kR K (cm c) (cm k)=cf c k
def DS{K:Lm}(r:RO K cm ρ H a o)(m:R1 o=true)(e:H a=some (.ext g)):False:=by
 cases o with
 | lst l=>obtain⟨i,h,q⟩:=r;rw[e]at h;cases h
 | ro l=>cases m
 | dI b=>obtain⟨f,h,q⟩:=r;rw[e]at h;cases h
 | ins c fs=>obtain⟨_,j,f,h,q⟩:=r;rw[e]at h;cases h
 | dS b=>obtain⟨f,h,q⟩:=r;rw[e]at h;cases h
 | dT b=>obtain⟨f,h,q⟩:=r;rw[e]at h;cases h
 | hid=>cases m
 | exc c v=>obtain⟨o,d,n,h,q⟩:=r;rw[e]at h;cases h
def vE(e:H a=some (.ext c)):cn H (aB H a u):=λb v q n=>by
 rw[aj (λz=>by rw[z,e]at q;exact n c (Mf q).symm)];exact q
def DU{K:Lm}(r:aL K cm ρ A H)(e:H a=some (.ext E))(G:RO K cm (ρ++[a]) (aB H a u) a o):aL K cm (ρ++[a]) (A++[o]) (aB H a u):=by
 have C:=r.calm (vE (u:=u) e);have I:ax ρ (aB H a u) (ρ++[a]) (aB H a u):=⟨Lw _ _,λ_ _ h=>h,λ_ _ h=>h⟩;refine⟨C.tab,by simp[r.len],λn p b c f=>?_,λm n b p q c f i v w x=>?_⟩
 .by_cases g:n<A.length
  .rw[LG g]at c;rw[LG (by rw[r.len];exact g)]at f;exact(C.obj n p b c f).keep I λ_ z=>z
  .have:n=A.length:=by
    have:=(LA.mp c).1;simp at this;symm
   subst this;rw[MB (Lp _)]at c;rw[<-r.len,MB (Lp _)]at f;simp at c f;subst c;subst f;exact G
 .have j:∀(m:Nat)(p:PO),(ρ++[a])[m]?=some b->(A++[o])[m]?=some p->R1 p=true->m<A.length\/(m=A.length/\b=a):=λm p c i w=>by
   by_cases g:m<A.length
   .exact .inl g
   .have:m=A.length:=by
     have:=(LA.mp i).1;simp at this;symm
    subst this;rw[<-r.len,MB (Lp _)]at c;simp at c;exact .inr ⟨rfl,c.symm⟩
  have l:∀(m:Nat)(p:PO),m<A.length->(ρ++[a])[m]?=some b->(A++[o])[m]?=some p->R1 p=true->b≠a:=λm p g y D J z=>by
   rw[LG g]at D;rw[LG (by rw[r.len];exact g)]at y;rw[z]at y;exact DS (r.obj m p _ D y) J e
  rcases j m p c i w with s | ⟨s,L⟩<;>rcases j n q f v x with d | ⟨d,B⟩
  .rw[LG s]at i;rw[LG (by rw[r.len];exact s)]at c;rw[LG d]at v;rw[LG (by rw[r.len];exact d)]at f;exact r.inj m n b p q c f i v w x
  .exact absurd B (l m p s c i w)
  .exact absurd L (l n q d f v x)
  .rw[s,d]
section
variable{X:Cx}{cm:Nat->Addr}
def PH(X:Cx)(cm:Nat->Addr)(es:List Nat)(hs:List Rg)(j:List Hd):Prop:=
 ∀(b:List (Addr×Obj))(s:Ln)(σ:L2.St)(H:Hp)(D:u9)(E:Ll->Ln->Prop)(a:Addr)(c:Nat)(i:V)(g:List Addr)(A:PHp)(e:PSt)(v:PV)(f:Fl)(A':PHp),L2.Inv X b σ H s->U8 .none H a (cm c) i->c∈es->
  aL X.K cm g A H->bR g H e σ->RV g H v i->V1 j c v e A=.ok f A'->(∀d h,ax g H d h->aL X.K cm d A' h->nI D d h f)->wpAny (model X.prog X.w) X.A (handleBy (.ref a) X.env hs) (SP X b D) E s
def jV:PH X cm es hs []:=by
 intro b s g H D E a c h i A d v f j I l m n o p e k;cases e
end
structure XG(K:Lm)(C:Addr):Prop where
 ga:findIn K (.ref C) "__getattribute__" = some (some (.builtin "BaseException.__getattribute__"))
 gt:findIn K (.ref C) "__getattr__" = some none
 hd:hasDictIn K C=true
 cl:findIn K (.ref C) "__class__" = some (some (.builtin "object.__class__"))
 cg:specialIn K (.builtin "object.__class__") "__get__" = some (some (.builtin "getset_descriptor.__get__"))
 ct:takesIn K (.builtin "object.__class__")=some true
 mo:mroIn K C (.type "object")=some true
def DV{K:Lm}{os:UM}{M:UU}(c:K.In h)(i:XK K C fI)(I:InstAt h x ox C (some od))(j:Q () ⟨h,g,d,t,os⟩):wpAny M A (checkBuiltinCall "BaseException.__getattribute__" ⟨[.ref x,a],[]⟩) Q E ⟨h,g,d,t,os⟩:=by
 have l:builtinKind "BaseException.__getattribute__" = some .slot:=by decide +kernel
 have b:splitId "BaseException.__getattribute__" = some ("BaseException","__getattribute__"):=by decide +kernel
 obtain⟨v,q,N,bs,m,f,y,sub,z,n,B,D,G,H,J,L,o,p,_⟩:=i.obj;have r:=c _ _ o;have s:=I.at_;have u:=I.cls;have e:(LJ C::m).contains (.type "BaseException")=true:=by rw[NB,(oy p).2.1];rfl
 have O:=F.args_bexc_ga (.ref x) a;simp only[checkBuiltinCall,l,b];refine L0 ?_
 .unfold isInstance;repeat (first | (with_reducible refine Nj s ?_;rw[u]) | (with_reducible refine NM r ?_;rw[e]) | wp_step)
  exact j
def DW{K:Lm}{os:UM}(a:K.In h)(I:InstAt h x ox C (some od))(c:findObj K C (some od) name=some (.value v))(e:Q (.done (.ret v)) ⟨h,g,d,t,os⟩) :
 wpAny (model prog w) A (MK.«object.__getattribute__» ⟨[.ref x,.str name b],[]⟩) Q E ⟨h,g,d,t,os⟩:=by
 have f:=I.type (M:=model prog w);have i:=looks_find (M:=model prog w) a I c;refine L0 (Lk ?_);refine L0 (Lk ?_);refine L0 (f.at (L0 (i.at ?_)));exact Lk e
def DX{K:Lm}{os:UM}{v b c:Ll}(a:K.In h)(I:InstAt h x ox C (some od))(i:findObj K C (some od) name=some (.bind b c))(j:wpAny (model prog w) A (call b [c,.ref x,.ref C]) (λv e=>Q (.done (.ret v)) e) E ⟨h,g,d,t,os⟩) :
 wpAny (model prog w) A (MK.«object.__getattribute__» ⟨[.ref x,.str name f],[]⟩) Q E ⟨h,g,d,t,os⟩:=by
 have l:=I.type (M:=model prog w);have m:=looks_find (M:=model prog w) a I i;refine L0 (Lk ?_);refine L0 (Lk ?_);refine L0 (l.at (L0 (m.at ?_)));exact L0 (Mh (Mp j (λv e z=>Lk z) λ_ _ z=>z))
def vF{K:Lm}{os:UM}{fill a:Bool}(b:K.In h)(i:XK K C fI)(f:XG K C)(I:InstAt h x ox C (some od))(j:handedIn v=true)
 (l:∀(A:Mq)(E:Ll->Ln->Prop)(R:Fin->Ln->Prop),R (.done (.ret v)) ⟨h,g,d,t,os⟩->wpAny (model prog w) A (MK.«object.__getattribute__» ⟨[.ref x,.str name e],[]⟩) R E ⟨h,g,d,t,os⟩)
 (m:Q v ⟨h,g,d,t,os⟩):wpAny (model prog w) A (getAttrBy (.ref x) (.str name e) fill a) Q E ⟨h,g,d,t,os⟩:=by
 have n:=I.type (M:=model prog w);have o:=TB (M:=model prog w) b f.ga;have L2:=TB (M:=model prog w) b f.gt;have r:=TC.ga.bind (.ref x);have c:(a&&onTheHeap (Ql "BaseException.__getattribute__"))=false:=by cases a<;>rfl
 have p:(Ql "BaseException.__getattribute__" == Ql "object.__getattribute__")=false:=by decide +kernel
 have q:(onTheHeap (LJ C)&&Ql "BaseException.__getattribute__" == Ql "object.__getattribute__")=false:=by rfl
 refine Mh (L0 (n.at (L0 (o.at ?_))));unfold getAttrByItsOwn hookBefore;refine L0 (L2.at (L0 (NS (Mh ?_))));unfold callGetattribute boundAndCalled;rw[c];refine L0 (Lk (Pc (Pr TC.ga.plain F.entry_bexc_ga (DV b i I (l _ _ _ ?_)))));show wpAny _ _ (handedOut v) _ _ _;rw[handedOut_of j];exact Lk m
def DY{K:Lm}{os:UM}(b:K.In h)(c:XK K C fI)(e:XG K C)(I:InstAt h x ox C (some od))(f:findObj K C (some od) name=some (.value v))(i:handedIn v=true)(j:Q v ⟨h,g,d,t+1,os⟩) :
 wpAny (model prog w) A (getAttr (.ref x) name a) Q E ⟨h,g,d,t,os⟩:=by
 exact vF b c e I i (λA E R l=>DW b I f l) j
def DZ{K:Lm}{os:UM}(a:K.In h)(c:XK K C fI)(b:XG K C)(I:InstAt h x ox C (some od))(e:Q (some (.ref C)) ⟨h,g,d,t+1,os⟩) :
 wpAny (model prog w) A (getAttr? (.ref x) "__class__") Q E ⟨h,g,d,t,os⟩:=by
 have f:findObj K C (some od) "__class__" = some _:=findObj_data (by obtain⟨cd,i,_⟩:=any_some b.hd;rw[i];rfl) b.cl b.cg b.ct;refine L0 (wpAny_mkText (L0 (NS ?_)));exact vF a c b I rfl (λA E R j=>DX (v:=.ref C) a I f (Pc (class_get a I b.mo j))) (Lk e)
def D1{K:Lm}(xk:XK K C fI)(xg:XG K C):KitX K (.ref x) (.ref C) (λh=>InstAt h x ox C (some od)) where
 ty:=λ_ _ _ I=>I.type
 it:=λ_ _ X _=>by
  obtain⟨cdD,hcD,_⟩:=any_some xg.hd;unfold clsIn at hcD;split at hcD
  .rename_i c' d' cd' sl' ho;intro A' Q' E' s' k q;exact L0 (TM (k _ _ (X _ _ ho)) (Lk q))
  .cases hcD
 ne:=λh tp dd its n sl X htp=>by
  obtain⟨cdD,hcD,_⟩:=any_some xg.hd;refine Bool.eq_false_iff.mpr λq=>?_;have e:=LJ.inj (beq_iff_eq.mp q);subst e;unfold clsIn at hcD;split at hcD
  .rename_i c' d' cd' sl' ho;have z:=(X _ _ ho).symm.trans htp;cases z
  .cases hcD
 ca:=λ{_ _ _ _ _ s} X I k=>by exact DZ X xk xg I k
structure oE(K:Lm)(cm:Nat->Addr)(es:List Nat):Prop where
 xg:∀c∈es,XG K (cm c)
 kit:∀c∈es,∀k∈es,kitOne K (.ref (cm c)) (.ref (cm k))=some (cf c k)
 kitV:∀c∈es,kitOne K (.ref (cm c)) (.type "ValueError")=some true
def vG(I:L2.Inv X pins σ H s)(h:H a=some (.frz o (.own a)))(e:o.cls=.ref C)(f:o.dict=some d)(g:o.data=.fields vs)(i:H d=some (.xd [("at",c)])) :
 ∃b u,InstAt s.heap a o C (some b)/\lookIn "at" b=some (some u)/\L2.RelV c u:=by
 obtain⟨j,_⟩:=(show aF _ X.w H _ a _ from I.hok a _ h);obtain⟨v,l,m⟩:=(show aF _ X.w H _ d _ from I.hok d _ i);obtain⟨b,n,p⟩:=tu l;obtain⟨u,q,r⟩:=bT.some_of (by have:=m "at";simpa using this);exact⟨b,u,⟨j,e,by unfold notCls;rw[g],by rw[f];exact n⟩,by rw[p,q],r⟩
def vH{K:Lm}(j:aL K cm g A H)(l:RV g H (.ref n) v)(e:iE n es A=.ok p A'):A'=A/\p.1∈es/\∃a o d b i,v=.ref a/\H a=some (.frz o (.own a))/\o.cls=.ref (cm p.1)/\o.dict=some d/\o.data=.fields i/\H d=some (.xd [("at",b)])/\RV g H p.2 b:=by
 unfold iE at e;rcases f:A[n]? with _ | o
 .rw[f]at e;cases e
 .cases o with
  | exc c x=>
    rw[f]at e;obtain⟨m,e⟩:=B9 e;cases e;cases l with
    | ref h=>
      obtain⟨o,d,b,q,r,u,⟨i,w,_⟩,y,z⟩:=j.obj n _ _ f h;exact⟨rfl,m,_,o,d,b,i,rfl,q,r,u,w,y,z⟩
  | _=>rw[f]at e;cases e
def qW(G:mw X.K cm es)(L:oE X.K cm es)(N:Pe X cm o d)(O:autoParam (attributeBase o "at" X.env (eval o X.env)=eval o X.env) au0._auto_1):Pe X cm (.Attribute o "at" i) (iF es d):=by
 intro g s T H Q I ⟨r,A,j,v,A',U,Y,ev,k⟩;obtain⟨x,w,e1,h⟩:=B0 ev;cases x with
 | ref n=>
   obtain⟨p,A2,e2,l⟩:=B0 h;cases l;refine tD O (aI (N g s T H (λy e=>∃b,ax r H b e/\aL X.K cm b w e/\RV b e _ y) I ⟨r,A,j,.ref n,w,U,Y,e1,λb e y m c f=>⟨b,m,c,f⟩⟩) λu s1 zq=>?_);obtain⟨x',e,q,rx,b,m,c,f⟩:=zq;obtain⟨rfl,z,a,o,d,B,vs,rfl,h1,h2,h3,h4,h5,h6⟩:=vH c f e2;obtain rfl:u=LJ a:=rx;obtain⟨od,u,J,hl,C⟩:=vG q h1 h2 h3 h4 h5;obtain⟨fI,D⟩:=G.xk _ z;have E:=L.xg _ z;refine DY q.kIn D E J (findObj_own E.hd D.na rfl hl) (dn C) ?_;exact⟨B,e,q.tok _,C,k b e B m c h6⟩
 | _=>cases h
def iS(Er:mw X.K cm es)(Eg:oE X.K cm es)(hk:k∈es)(he:Pe X cm e d)(hg:Gl X "isinstance")(hm:X.mg "isinstance" = none)(y:Gl X b)(z:X.mg b=some (.ref (cm k)))
 (hs:autoParam (starEach [e,.Name b f] X.env=(false,eval e X.env)::starEach [.Name b f] X.env) au2._auto_1) (B:autoParam (starEach [LQ b f] X.env=(false,eval (.Name b f) X.env)::starEach [] X.env) au2._auto_1) (b1:autoParam ((backTo g (starEach [LQ b f] X.env)).any (·.1)=false) au0._auto_1)
 (C:autoParam ((b == ("__debug__" : Str))=false) au1._auto_1) :
 Pe X cm (.Call (.Name "isinstance" p) [e,.Name b f] [] g) (eQ es d k):=by
 have call:bc X (.builtin "isinstance") (λD H Q=>∃a o E m c ws,D=[.ref a,.ref (cm k)]/\c∈es/\H a=some (.frz o (.own a))/\o.cls=.ref (cm c)/\o.dict=some E/\o.data=.fields ws/\H E=some (.xd [("at",m)])/\Q (.bl (cf c k)) H):=by
  intro a5 s σ H xs us Q I r h;obtain⟨a,o,E,m,c,ws,rfl,i,G,L,N,O,T,q⟩:=h;obtain⟨u,w,rfl,ru,U⟩:=pH r;obtain rfl:u=LJ a:=ru;obtain rfl:w=LJ _:=U;obtain⟨od,u,J,hl,ru⟩:=vG I G L N O T;obtain⟨fI,xk⟩:=Er.xk _ i;exact kia_one (D1 xk (Eg.xg _ i)) I.kIn J (Eg.kit c i k hk) nofun λtk=>⟨.bl _,H,I.tok tk,rfl,q⟩
 refine D4 (Y6 call hg hm Ra (v8 he (v8 (pw (v:=.ref _) y z rfl C) pJ B) hs) (he:=hs)) λσ H Q zq=>?_;obtain⟨ρ,A,Y,v,A',rl,rs,ev,kk⟩:=zq;obtain⟨x,A1,e1,j⟩:=B0 ev;refine⟨ρ,A,Y,x,A1,rl,rs,e1,λa0 H1 v1 x1 l a1=>?_⟩;cases x with
 | ref n=>
   obtain⟨p,A2,e2,a2⟩:=B0 j;cases a2;obtain⟨rfl,i,a,o,d,m,D,rfl,G,L,N,O,T,h6⟩:=vH l a1 e2;exact⟨a,o,d,m,p.1,D,rfl,i,G,L,N,O,T,kk a0 H1 _ x1 l (.bl _)⟩
 | _=>cases j
def qX(X:Cx)(c:Nat->Addr)(st:Stmt)(d:SD):Prop:=
 ∀(a:List (Addr×Obj))(s:Ln)(σ:L2.St)(H:Hp)(D:u9)(b:Addr->Hp->Prop),L2.Inv X a σ H s->bC X.K c b d D σ H->wpAny (model X.prog X.w) X.A (exec st X.env) (SP X a D) (jS X a σ b) s
def gW(h:kP X cm e d)(hs:autoParam (swapsWith e none a.line X.env=pure false) au0._auto_1):qX X cm (.Expr e a) (aO d):=by
 intro b s i H D q I ⟨r,A,g,u,n,o⟩;refine wpAny_Expr_any (Mp (h b s i H _ q I ⟨r,A,g,u,n,?_⟩) (λv E ⟨x,j,w,G,y⟩=>⟨i,j,w,y⟩) λ_ _ z=>z) I.quiet hs;unfold aO ao at o;rcases hs:d g A with⟨f,B⟩ | ⟨c,v,B⟩ | _<;>rw[hs]at o
 .exact λl j J p m C=>o l j p m i (n.mono p)
 .exact o
 .exact o
def Ea{st:Stmt}(i:X.stack=X.env::X.outer/\X.env.frame=some X.env.locals)(hb:qX X cm st b)(hh:PH X cm es (h₀::hs) J) :
 Ps X cm (.Try [st] (h₀::hs) [] [] G) (kH es b J):=by
 intro g s T H D I ⟨U,A,e,f,Y,rl,rs,h,k⟩;refine wpAny_Try_except (SI (Mp (hb g s T H D (λa r=>∃c v d j o,ax U H d r/\aL X.K cm d j r/\RV d r v o/\U8 .none r a (cm c) o/\c∈es/\V1 J c v e j=.ok f Y) I ⟨U,A,e,rl,rs,?_⟩) (λu y q=>?_) λh y zq=>?_))
 .unfold kH at h;rcases L:b e A with⟨f1,j⟩ | ⟨c,v,j⟩ | _<;>rw[L]at h
  .cases h;exact k
  .obtain⟨N,h⟩:=B9 h;exact λl H' a o B m n u=>⟨c,v,l,j,o,B,m,n,u,N,h⟩
  .cases h
 .cases u with
  | next=>exact Ov (Ov q)
  | _=>exact q
 .obtain⟨a,C,v0,r,h1,p,_,c,v,d,j,o,B,m,n,u,N,O⟩:=zq;subst h1;have w:=p.ok.frames;have hl:=p.stack;have x:=p.stkFree;rw[i.1]at w hl x;refine vB w hl i.2 x p.hok u λh2 H2 u2 o2 f2 c2=>?_;have I2:=p.call (t':=y.toks) (d':=y.drawn) (ch:=[]) (by rw[i.1];exact u2) o2 p.bare (λb z=>absurd z nofun);refine qT o2 f2 λh3 H3 u3 o3 f3 c3=>?_;have I3:=I2.un (t':=y.toks) (u3.mono nofun λ_ z=>z) o3;have E:=c2.trans c3;exact hh g _ T H3 D X.xe a c o d j e v f Y I3 f3 N (m.calm E) ((rs.mono B).mono E.ext) (n.mono E.ext) O λl H' x' Q=>k l H' ((B.trans E.ext).trans x') Q
end Ws
namespace Ws
open PySem L2
def jW{X:Cx}:S6 X.K cm gK (rI mX λi j=>.int (i ^ j.toNat)):=kL (λx y A z a h=>by
 cases x<;>cases y<;>first | (obtain⟨c,h⟩:=B9 h;cases h;exact⟨_,_,rfl,rfl,⟨c.1,by symm⟩,rfl,rfl⟩) | cases h) (λ_ _ _ _=>.int _) _ _
end Ws
namespace Ws
open PySem L2
def vI{i j:List Int}(h:i.map (MR:Int->Key)=j.map MR):i=j:=(List.map_inj_right λ_ _ z=>MR.inj z).mp h
section
variable{ρ:List Addr}{H:Hp}{K:Lm}{A:PHp}{n:Nat}{v:V}
abbrev PT2(ρ:List Addr)(H:Hp)(m:List (List Int×PV))(kv:List (List Key×V)):Prop:=Pairs (Qz MR:List Int->List Key) ρ H m kv
def PT2.len(h:PT2 ρ H m kv):m.length=kv.length:=by
 have:=congrArg List.length h.keys;simpa using this.symm
theorem PT2.val:∀{m:List (List Int×PV)}{kv:List (List Key×V)}(i:List Int),PT2 ρ H m kv->(aK m i=none/\X2 kv (i.map MR)=none)\/∃x u,aK m i=some x/\X2 kv (i.map MR)=some u/\RV ρ H x u
 | [],kv,i,h=>by obtain rfl:=h.nil_inv;exact .inl ⟨rfl,rfl⟩
 | p::r,kv,i,h=>by
   obtain⟨u,a,rfl,b,t⟩:=h.cons_inv;unfold aK;by_cases e:p.1=i
   .rw[if_pos e,d9 (by rw[e])];exact .inr ⟨_,_,rfl,rfl,b⟩
   .rw[if_neg e,f6 (λz=>e (vI z))];exact PT2.val i t
def PT2.some_eq(i:List Int)(h:PT2 ρ H m kv):(X2 kv (i.map MR)).isSome=(aK m i).isSome:=by
 rcases PT2.val i h with⟨a,b⟩ | ⟨x,u,a,b,_⟩<;>rw[a,b]<;>rfl
theorem vJ(i:List Int):∀m:List (List Int×PV),(m.any λp=>decide (p.1=i))=(aK m i).isSome
 | []=>rfl
 | p::r=>by
   unfold aK;rw[Pd];by_cases e:p.1=i
   .rw[if_pos e,decide_eq_true e];rfl
   .rw[if_neg e,decide_eq_false e,So];exact vJ i r
theorem PT2.repl(a:RV ρ H x u)(i:List Int):∀{m:List (List Int×PV)}{kv:List (List Key×V)},PT2 ρ H m kv->PT2 ρ H (m.map λp=>if p.1=i then(p.1,x) else p) (kv.map λp=>if p.1=(i.map MR) then(p.1,u) else p)
 | [],kv,h=>by obtain rfl:=h.nil_inv;exact⟨rfl,.nil⟩
 | p::r,kv,h=>by
   obtain⟨w,b,rfl,c,t⟩:=h.cons_inv;have ih:=PT2.repl a i t;rw[LX,LX];by_cases e:p.1=i
   .rw[if_pos e,if_pos (by rw[e])];exact Pairs.cons' a ih
   .rw[if_neg e,if_neg (λz=>e (vI z))];exact Pairs.cons' c ih
theorem PT2.snoc(a:RV ρ H x u)(i:List Int):∀{m:List (List Int×PV)}{kv:List (List Key×V)},PT2 ρ H m kv->PT2 ρ H (m++[(i,x)]) (kv++[(i.map MR,u)])
 | [],kv,h=>by obtain rfl:=h.nil_inv;exact Pairs.cons' a ⟨rfl,.nil⟩
 | p::r,kv,h=>by
   obtain⟨w,b,rfl,c,t⟩:=h.cons_inv;exact Pairs.cons' c (PT2.snoc a i t)
def PT2.put(b:RV ρ H x u)(i:List Int)(h:PT2 ρ H m kv):PT2 ρ H (V6 m i x) (R6 kv (i.map MR) u):=by
 unfold V6 R6;have e:(kv.any λp=>decide (p.1=(i.map MR)))=(m.any λp=>decide (p.1=i)):=by
  rw[vJ,w5];exact h.some_eq i
 rw[e];by_cases a:(m.any λp=>decide (p.1=i))=true
 .rw[if_pos a,if_pos a];exact h.repl b i
 .rw[if_neg a,if_neg a];exact h.snoc b i
def M3(f:aL K e ρ A H)(r:RV ρ H (.ref n) v)(h:S7 n A=.ok m A'):A'=A/\A[n]?=some (.dT m)/\∃a c,v=.ref a/\ρ[n]?=some a/\H a=some (.dT c)/\PT2 ρ H m c:=by
 cases r with
 | ref d=>
   unfold S7 at h;rcases b:A[n]? with _ | o
   .rw[b]at h;cases h
   .have q:=f.obj n o _ b d;cases o with
    | dT m=>rw[b]at h;cases h;obtain⟨g,i,j⟩:=q;exact⟨rfl,rfl,_,g,rfl,d,i,j⟩
    | _=>rw[b]at h;cases h
end
def W5(h:Q1 a=some j)(r:RV d H a v):∃b,v=.ref b/\H b=some (.tup ((j.map MR).map L2.kV)):=by
 cases a with
 | tup l=>
   cases r with
   | tup e c=>
     rw[P0 h]at c;have:=Z3 c;refine⟨_,rfl,?_⟩;rw[e,this];congr 2;simp[L2.kV]
 | _=>cases h
def vK{X:Cx}(h:cJ X.K cm (dh y d) σ H Q):tZ (cJ X.K cm y) (cJ X.K cm d) σ H Q:=by
 obtain⟨D,A,e,v,A',E,u,G,k⟩:=h;obtain⟨w,z,I,i⟩:=B0 G;obtain⟨x,J,L,c⟩:=B0 i;refine⟨D,A,e,w,z,E,u,I,λl H1 v1 B o p=>⟨l,z,e,x,J,o,u.mono B,L,λq N v2 C f r=>?_⟩⟩;rcases g:Q1 w with _ | j<;>rw[g]at c
 .cases c
 cases x with
 | ref n=>
   obtain⟨m,A3,O,s⟩:=B0 c;obtain⟨rfl,hA,a,kv,rfl,hn,T,U⟩:=M3 f r O;cases s;obtain⟨b,rfl,Y⟩:=W5 g (p.mono C);refine⟨a,_,rfl,cc.t T Y,?_⟩;rw[U.some_eq j];exact k q N _ (B.trans C) f (.bl _)
 | _=>cases c
def jX(b:X.A.units+1<cLine)(c:Pe X cm i y)(e:Pe X cm o d)(f:autoParam (behindInMarks .In o=false) au0._auto_1):Pe X cm (.Compare i [.In] [o] a) (dh y d):=
 D4 (yP (ub b c e) f) λg H Q h=>vK h
def gX(b:X.A.units+1<cLine)(c:Pe X cm i y)(e:Pe X cm o d)(f:autoParam (behindInMarks .In o=false) au0._auto_1):Pt X cm (.Compare i [.In] [o] a) (av (dh y d)):=
 s8 (mR (ub b c e) f) λg H Q h=>l8 (λ_ _ _=>vK) h
def jY(hu:X.A.units+1<cLine)(ho:Pe X cm o d)(hi:Pe X cm i y)(hv:Pe X cm g e)(hs:autoParam (swapsWith g (some (.Subscript o i p)) s.line X.env=pure false) au0._auto_1) :
 Ps X cm (.Assign [.Subscript o i p] g s) (cR d y e):=
 Q3 (uc hu ho hi hv hs) λD σ H hq=>by
  obtain⟨ρ,A,q,f,A',rl,v,ev,k⟩:=hq;obtain⟨w,A1,e1,G⟩:=B0 ev;obtain⟨x,A2,e2,I⟩:=B0 G;obtain⟨kx,A3,e3,h⟩:=B0 I;refine⟨ρ,A,q,w,A1,rl,v,e1,λJ H1 v1 z L N=>⟨J,A1,q,x,A2,L,v.mono z,e2,λO H2 v2 B Q T=>⟨O,A2,q,kx,A3,Q,(v.mono z).mono B,e3,λl H3 v3 C r U=>?_⟩⟩⟩;rcases u:Q1 kx with _ | j<;>rw[u]at h
  .cases x<;>cases h
  cases x with
  | ref n=>
    obtain⟨m,A4,e4,Y⟩:=B0 h;obtain⟨rfl,hA,a,kv,rfl,hn,hH,hp⟩:=M3 r (T.mono C) e4;obtain⟨c,a0⟩:=B9 Y;cases a0;obtain⟨b,rfl,hb⟩:=W5 u U;refine⟨a,_,rfl,dE.t hH hb (by rw[<-hp.len];exact lM c),?_⟩;have E:ax l H3 l (aB H3 a (.dT (R6 kv (j.map MR) v1))):=ax.put r hn hA rfl;have a1:aL X.K cm l (A4.set n (.dT _)) _:=
     r.put hn hA rfl rfl ⟨_,C2,PT2.put ((((N.mono B).mono C)).mono E) j (hp.mono E)⟩
    exact k l _ (((z.trans B).trans C).trans E) a1 σ ((((v.mono z).mono B).mono C).mono E)
  | _=>cases h
def r_tget(N:X.A.units+1<cLine)(O:Pe X cm o d)(T:Pe X cm i y)(hs:nh i):Pe X cm (.Subscript o i l) (eTGet d y):=
 D4 (ua N O T hs) λσ H Q U=>by
  obtain⟨Y,A,f,v,A',rl,D,ev,k⟩:=U;obtain⟨x,E,e1,p⟩:=B0 ev;obtain⟨G,A2,e2,c⟩:=B0 p;refine⟨Y,A,f,x,E,rl,D,e1,λq H1 v1 I r s=>⟨q,E,f,G,A2,r,D.mono I,e2,λw H2 v2 J g B=>?_⟩⟩;rcases h:Q1 G with _ | j<;>rw[h]at c
  .cases x<;>cases c
  cases x with
  | ref n=>
    obtain⟨m,A3,e3,e⟩:=B0 c;obtain⟨rfl,hA,a,kv,rfl,hn,hH,hp⟩:=M3 g (s.mono J) e3;obtain⟨b,rfl,hb⟩:=W5 h B;rcases hp.val j with⟨C,L⟩ | ⟨z,u,C,L,ru⟩
    .rw[C]at e;cases e
    .rw[C]at e;cases e;exact⟨a,u,rfl,by rw[<-L];exact cc.t hH hb,k w H2 _ (I.trans J) g ru⟩
  | _=>cases c
def jZ:Pe X cm (.Dict [] [] a) eTNew:=
 D4 Be λh H Q ⟨d,A,e,v,i,b,j,f,k⟩ p c=>by
  cases f;have g:ax d H _ (aB H p (.dT [])):=ax.new c;exact k _ _ _ g (b.alloc c ⟨_,C2,⟨rfl,.nil⟩⟩ rfl) (.ref (by rw[<-b.len];simp))
def Eb(Y:X.A.units+1<cLine)(ho:Pe X cm o d)(he:Pe X cm e y)(m:M1 X o "get" c e f:=by exact⟨rfl,rfl,rfl,rfl⟩):Pe X cm (.Call (.Attribute o "get" c) [e] [] f) (nA d y):=
 D4 (Bn Y ho he m) λσ H Q hq=>by
  obtain⟨ρ,A,i,v,A',rl,O,ev,k⟩:=hq;obtain⟨x,A1,e1,l⟩:=B0 ev;refine⟨ρ,A,i,x,A1,rl,O,e1,λz H1 v1 B p r=>?_⟩;cases x with
  | ref n=>
    obtain⟨m0,A2,e2,C⟩:=B0 l;obtain⟨rfl,hA,a,kv,rfl,hn,hH,hp⟩:=M3 p r e2;refine⟨a,rfl,.inr ⟨kv,.inl hH⟩,?_⟩;obtain⟨T,A3,e3,g⟩:=B0 C;refine⟨z,_,i,T,A3,p,O.mono B,e3,λs U v2 D h E=>?_⟩;rcases w:Q1 T with _ | j<;>rw[w]at g
    .cases g
    obtain⟨m1,A5,e5,G⟩:=B0 g;obtain⟨rfl,b5,a2,c0,e6,c2,I,J⟩:=M3 h (r.mono D) e5;cases e6;cases G;obtain⟨b,rfl,hb⟩:=W5 w E;refine⟨_,cc.t I hb,?_⟩;rcases J.val j with⟨L,N⟩ | ⟨q,u,L,N,ru⟩
    .rw[L]at k;rw[N];exact k s U _ (B.trans D) h .non
    .rw[L]at k;rw[N];exact k s U _ (B.trans D) h ru
  | _=>cases l
def Ec(hu:X.A.units+1<cLine)(ho:Pe X cm o d)(he:Pe X cm e y)(hf:Pe X cm f z)(m:M2 X o "get" c e f g:=by exact⟨rfl,rfl,rfl,rfl⟩):Pe X cm (.Call (.Attribute o "get" c) [e,f] [] g) (kI d y z):=
 D4 (Bo hu ho he hf m) λσ H Q hq=>by
  obtain⟨ρ,A,h,v,A',rl,I,ev,k⟩:=hq;obtain⟨x,A1,e1,p⟩:=B0 ev;refine⟨ρ,A,h,x,A1,rl,I,e1,λJ H1 v1 D r s=>?_⟩;cases x with
  | ref n=>
    obtain⟨m0,A2,e2,L⟩:=B0 p;obtain⟨rfl,hA,a,kv,rfl,hn,hH,hp⟩:=M3 r s e2;refine⟨a,rfl,.inr ⟨kv,.inl hH⟩,?_⟩;obtain⟨kx,A3,e3,N⟩:=B0 L;obtain⟨w,A4,e4,i⟩:=B0 N;refine⟨J,_,h,kx,A3,r,I.mono D,e3,λO H2 v2 E T U=>⟨O,A3,h,w,A4,T,(I.mono D).mono E,e4,λB H3 v3 G l Y=>?_⟩⟩;rcases C:Q1 kx with _ | j<;>rw[C]at i
    .cases i
    obtain⟨m1,A5,e5,a0⟩:=B0 i;obtain⟨rfl,e8,a2,e9,e6,f1,a1,a3⟩:=M3 l ((s.mono E).mono G) e5;cases e6;cases a0;obtain⟨b,rfl,hb⟩:=W5 C (U.mono G);refine⟨_,cc.t a1 hb,?_⟩;rcases a3.val j with⟨h1,h2⟩ | ⟨q,u,h1,h2,ru⟩
    .rw[h1]at k;rw[h2];exact k B H3 _ ((D.trans E).trans G) l Y
    .rw[h1]at k;rw[h2];exact k B H3 _ ((D.trans E).trans G) l ru
  | _=>cases p
end Ws
namespace Ws
open PySem PySem.W PyProof.Rows
noncomputable def Ed(x:Int)(n:Nat)(hs:List Int)(t:Tx):Tx:=
 match t.freeSlot x with
 | some (slot,_)=>
   if(t.put slot).1.tooFull then(match (t.put slot).1.relaid hs.toArray (TV n)with
    | some (a,_)=>a
    | none=>(t.put slot).1)
   else(t.put slot).1
 | none=>t
noncomputable def I9(led:Bool)(ns:List Int):Tx:=(Mo ns.length).foldl (λt i=>Ed (ns.getD i 0) (i+1) (ns.take (i+1)) t) (.fresh 0 0 led)
noncomputable def kS(led:Bool)(ns:List Int):Bool:=
 (I9 led ns).fits ns.length&&(I9 led ns).led == led&&(I9 led ns).plain&&QC (I9 led ns).place 0 == 0&&(Mo ns.length).all (λi=>QC (I9 led ns).place ((I9 led ns).place.getD i 0+1) == i+1)
abbrev sixes:List (List Int):=qe [0,1,2,3,4,5]
def Ee:sixes.all (λns=>(Mo (ns.length+1)).all λi=>kS true (ns.take i)&&kS false (ns.take i))=true:=by decide +kernel
def Ef:sixes.all (λns=>ns.all (λx=>decide (hashInt x=x))&&decide (ns.length<=6)&&decide (ns.Pairwise (·< ·)))=true:=by decide +kernel
def qY(h:ns∈sixes)(a:i<=ns.length)(led:Bool):kS led (ns.take i)=true:=by
 have:=LV.mp (LV.mp Ee ns h) i (Nn.mpr (by symm));rw[LH]at this;cases led
 .exact this.2
 .exact this.1
end Ws
namespace Ws
open PySem PySem.W PyProof.Rows PySem.Spec
noncomputable def V8(es:Array (Int×Ll))(ep:Nat)(t:Tx):Obj:={ cls:=.type "set",dict:=none,data:=.set es ep t }
structure bD(es:Array (Int×Ll))(ns:List Int):Prop where
 hs:es.toList.map (·.1)=ns
 vs:Ol (es.toList.map (·.2)) ns
def bD.size(h:bD es ns):es.size=ns.length:=by
 have:=congrArg List.length h.hs;simpa using this
def bD.ent(h:bD es ns)(he:e∈es.toList):e.1∈ns/\∃t,e.2=.int e.1 t:=by
 obtain⟨i,a,rfl⟩:=PQ he;have b:ns[i]?=some es.toList[i].1:=by rw[<-h.hs,LL,LB a];rfl
 obtain⟨t,c⟩:=TU h.vs i es.toList[i].2 (by rw[LL,LB a];rfl);refine⟨Mm b,t,?_⟩;rw[c,LU,b];rfl
def bD.elems(h:bD es ns)(b:∀x∈ns,hashInt x=x):UT (intKind prog w) es.toList:=by
 intro e c;obtain⟨d,t,a⟩:=h.ent c;exact⟨⟨e.1,by rw[a];exact Tz _ _ _ _,(b _ d).symm⟩,by rw[a];rfl⟩
def oF(h:ns∈sixes):(∀x∈ns,hashInt x=x)/\ns.length<=6/\ns.Pairwise (·< ·):=by
 have:=LV.mp Ef ns h;simp only[LH,decide_eq_true_eq,LV]at this;exact⟨this.1.1,this.1.2,this.2⟩
def Eh{es:Array (Int×Ll)}(h:es.size=5):(#[0,1,2,3,4]:Array Nat).filterMap (es[·]?)=es:=by
 obtain⟨l⟩:=es;rcases l with _ | ⟨a,_ | ⟨b,_ | ⟨c,_ | ⟨d,_ | ⟨e,_ | ⟨f,l⟩⟩⟩⟩⟩⟩
 iterate 5 (exact absurd h (by simp))
 .rfl
 .exact absurd h (by simp)
def Ei(a:Ll)
 (h:Q₁ (.ref s.heap.objs.size) { s with heap:=s.heap.push (V8 #[] 0 (.fresh 0 0 (!w.params.followText "set-order"))) }) :
 codeAny (model prog w) A (.call (.builtin "set.__new__") ⟨[.type "set",a],[]⟩) (wants Q₁ E) s:=by
 refine Rr ?_;show wpAny _ A.in1 (do checkBuiltinCall "set.__new__" ⟨[.type "set",a],[]⟩;again (.builtin "set.__new__" ⟨[.type "set",a],[]⟩)) _ _ s;refine L0 (Rq (PySem.F.newCall_set_1 a) (Lk ⟨Rh F.plain_set_new _,Oj F.entry_set_new ?_⟩));rw[Mq.under_plainId F.plain_set_new _];unfold MK.«set.__new__» MK.Frozenset.newClass;have c:=sub_set_self;obtain⟨e,g,d,f,os⟩:=s;dsimp only
 wp_walk
 refine SO (Lk ?_);dsimp only;simp only[newObj];refine L0 (wpAny_alloc (Lk ?_));exact Lk h
end Ws
namespace Ws
open PySem PySem.W PyProof.Rows PySem.Spec PySem.Calls
theorem vL{b:Type}:∀{l:List b}{j:Nat}(h:j<l.length),(l[j]::l.eraseIdx j).Perm l
 | a::l,0,h=>TX _
 | a::l,j+1,h=>(UX.swap _ _ _).trans ((vL (l:=l) (j:=j) (by simpa using h)).cons a)
theorem vM{c:Type}(next:Nat->Nat):∀(n k:Nat)(left:List c)(a:Array c),left.length=n->(UE next n k left a).toList.Perm (a.toList++left)
 | 0,k,left,a,h=>by
   obtain rfl:=List.eq_nil_of_length_eq_zero h;unfold UE;simp
 | n+1,k,left,a,h=>by
   have b:next k%left.length<left.length:=Nat.mod_lt _ (by symm)
   unfold UE;rw[LB b];dsimp only;refine(vM next n (k+1) _ _ (by rw[List.length_eraseIdx_of_lt b];symm)).trans ?_;rw[Array.toList_push,Sa];exact UX.append_left _ (vL b)
def Ej{b:Type}(next:Nat->Nat)(a:Array b):(pickOrder next a).toList.Perm a.toList:=by
 have:=vM next a.size 0 a.toList #[] rfl
 simpa[pickOrder]using this
def si_slot_next:Slot "set_iterator" "__next__" "set_iterator.__next__":=
 .of (owner:="set_iterator") (n:="__next__") rfl rfl rfl rfl
  (by first | exact .inl rfl | exact .inr _) rfl
def vN:Slot "set_iterator" "__iter__" "set_iterator.__iter__":=
 .of (owner:="set_iterator") (n:="__iter__") rfl rfl rfl rfl
  (by first | exact .inl rfl | exact .inr _) rfl
def n9:entryFor table "set_iterator.__next__" = some MK.«set_iterator.__next__»:=entryFor_of_tree rfl
def Ek:entryFor table "set_iterator.__iter__" = some MK.«dict_keyiterator.__iter__»:=
 TY (id':="dict_keyiterator.__iter__") (by kernel_rfl) rfl (by decide +kernel) (by kernel_rfl)
def El:entryFor table "set.__iter__" = some MK.«frozenset.__iter__»:=
 TY (id':="frozenset.__iter__") (by kernel_rfl) rfl (by decide +kernel) (by kernel_rfl)
def Ld:Manifest.owners.lookup (String.ofList ['r','o','t','a','r','e','t','i','_','t','e','s'].reverse)=some Manifest.sig_set_iterator:=rfl
def vO(a:Ll):argsOk "set_iterator.__next__" ⟨[a],[]⟩:=rfl
def Em(a:Ll):argsOk "set_iterator.__iter__" ⟨[a],[]⟩:=rfl
noncomputable def gY(led:Bool)(ns:List Int):Nat->Nat
 | 0=>0
 | i+1=>if led then(I9 led ns).place.getD i 0+1 else 0
def di(h:Heap)(a S:Addr)(led:Bool)(ns:List Int)(ep i:Nat):Prop:=
 ∃o,h.get? a=some o/\o.cls=.type "set_iterator"/\o.data=.fields #[.int (gY led ns i) 0,.int i 0,.ref S,.int ns.length 0,.int ep 0]
def di.typeIs{s:Ln}(x:di s.heap a S led ns ep i):s.TypeIs (.ref a) "set_iterator":=
 let⟨o,b,c,_⟩:=x;⟨o,b,c⟩
def di.at(x:di h a S led ns ep i)(e:∀o,h.get? a=some o->h'.get? a=some o):di h' a S led ns ep i:=
 let⟨o,b,r⟩:=x;⟨o,e _ b,r⟩
noncomputable def Z4(w:Mv)(S:Addr)(ep:Nat)(es:Array (Int×Ll)):List Ll:=
 if w.params.followText "set-order" then(pickOrder (w.params.setOrder S ep) es).toList.map (·.2) else es.toList.map (·.2)
def vP(w:Mv)(S:Addr)(ep:Nat)(es:Array (Int×Ll)):(Z4 w S ep es).Perm (es.toList.map (·.2)):=by
 unfold Z4;split
 .exact(Ej _ _).map _
 .rfl
def qZ(he:bD es ns):(Z4 w S ep es).length=ns.length:=by
 rw[(vP w S ep es).length_eq,Lo,Nw,he.size]
structure gg(b:Bool)(ns:List Int):Prop where
 fits:(I9 b ns).fits ns.length=true
 led:(I9 b ns).led=b
 plain:(I9 b ns).plain=true
 zero:QC (I9 b ns).place 0=0
 next:∀i<ns.length,QC (I9 b ns).place ((I9 b ns).place.getD i 0+1)=i+1
def oG(h:ns∈sixes)(led:Bool):gg led ns:=by
 have:=qY h (Lp _) led;rw[MT]at this;unfold kS at this;simp only[LH,beq_iff_eq,LV,Nn]at this;exact⟨this.1.1.1.1,this.1.1.1.2,this.1.1.2,this.1.2,λi a=>this.2 i a⟩
def gg.psize{led:Bool}(h:gg led ns):(I9 led ns).place.size=ns.length:=by
 have:=h.fits;simp only[Tx.fits,LH,beq_iff_eq]at this;exact this.1
def vQ(m:ns∈sixes)(q:i<=ns.length)
 (d:s.heap.get? S=some (V8 es ep (I9 (!w.params.followText "set-order") ns))) (he:bD es ns)
 (h:Q (((Z4 w S ep es)[i]?).map λv=>(v,gY (!w.params.followText "set-order") ns (i+1))) s) :
 wpAny (model prog w) A (setNext S (gY (!w.params.followText "set-order") ns i) i ep) Q E s:=by
 have T:=oG m (!w.params.followText "set-order");have e:(I9 (!w.params.followText "set-order") ns).fits es.size=true:=by rw[he.size];exact T.fits
 refine L0 (MH d rfl e ?_);show wpAny _ _ (if w.params.followText "set-order" = true then _ else _) _ _ s;cases a:w.params.followText "set-order" with
 | true=>
   rw[if_pos rfl,if_neg (by simp)];refine L0 ?_;refine L0 (MH d rfl e ?_);show wpAny _ _ (if w.params.followText "set-order" = true then _ else _) _ _ s;rw[if_pos a];refine L0 (SO (Lk ?_));refine Lk ?_;have f:Z4 w S ep es=(pickOrder (w.params.setOrder S ep) es).toList.map (·.2):=by unfold Z4;rw[if_pos a]
   have n:gY (!w.params.followText "set-order") ns (i+1)=gY (!w.params.followText "set-order") ns i:=by
    rw[a];cases i<;>rfl
   rw[f,n,a,LL,MP,TZ]at h;exact h
 | false=>
   simp only[a,Bool.not_false]at T d e h ⊢;have f:Z4 w S ep es=es.toList.map (·.2):=by unfold Z4;rw[if_neg (by simp[a])]
   show wpAny _ _ (if(!(I9 true ns).plain&&decide _)=true then _ else _) _ _ s;rw[if_neg (by rw[T.plain];simp)];show wpAny _ _ ((if _=true then _ else _)>>=_) _ _ s;rw[if_neg (by rw[T.led];simp)];refine Lk ?_;have o:QC (I9 true ns).place (gY true ns i)=i:=by
    cases i with
    | zero=>exact T.zero
    | succ j=>exact T.next j (by symm)
   rw[o];rw[f,LL,MP]at h;by_cases b:i<ns.length
   .have c:i<es.size:=by rw[he.size];exact b
    have g:i<(I9 true ns).place.size:=by rw[T.psize];exact b
    have p:gY true ns (i+1)=(I9 true ns).place[i]+1:=by
     show(if true=true then(I9 true ns).place.getD i 0+1 else 0)=_;simp[g]
    rw[Nt c,Nt g];rw[Nt c]at h;have l:=h;rw[p]at l;exact l
   .have c:es[i]?=none:=ON (by rw[he.size];symm);rw[c]at h ⊢;exact h
def Eo(f:ns∈sixes)
 (a:s.heap.get? S=some (V8 es ep (I9 (!w.params.followText "set-order") ns))) (he:bD es ns)
 (g:Q (.ref s.heap.objs.size) { s with heap:=s.heap.push { cls:=.type "set_iterator",data:=.fields #[.int 0 0,.int 0 0,.ref S,.int ns.length 0,.int ep 0] } }) :
 wpAny (model prog w) A (pyIter (.ref S)) Q E s:=by
 have T:=oG f (!w.params.followText "set-order");have b:(I9 (!w.params.followText "set-order") ns).fits es.size=true:=by rw[he.size];exact T.fits
 have e:s.TypeIs (.ref S) "set":=⟨_,a,rfl⟩;refine Pj e F.slot_set_iter (Mc F.slot_set_iter e El ?_ (F.args_set_iter_1 _));unfold MK.«frozenset.__iter__» MK.Frozenset.slot0 slotArgs;simp only[List.isEmpty_nil,Bool.not_true,NY,↓reduceIte,bind_assoc];refine L0 (Lk ?_);refine L0 (Lk ?_);refine L0 (L0 (Rt a rfl b (Lk ?_)));refine L0 (L0 (MH a rfl b ?_));refine L0 (L0 (SO (Lk ?_)));refine Lk ?_;show wpAny _ _ (if(!w.params.followText "set-order"&&(!(I9 _ ns).plain&&decide _))=true then _ else _) _ _ s;rw[if_neg (by rw[T.plain];simp)];refine L0 (Lk ?_);refine L0 (wpAny_setEpoch_of a rfl b ?_);refine L0 (MN (Lk ⟨_,rfl,"set_iterator",_,⟨_,Lq _ rfl,rfl⟩,si_slot_next.lookup,?_⟩));simpa[rawInt,he.size]using g
def Ep(h:ns∈sixes)(m:S≠c)
 (j:s.heap.get? S=some (V8 es ep (I9 (!w.params.followText "set-order") ns))) (he:bD es ns) (a:di s.heap c S (!w.params.followText "set-order") ns ep i) (n:i<ns.length) (p:(Z4 w S ep es)[i]?=some v)
 (q:∀f,di f c S (!w.params.followText "set-order") ns ep (i+1)->MA c s.heap f->Q (some v) { s with heap:=f }) :
 wpAny (model prog w) A (pyNext (.ref c)) Q E s:=by
 obtain⟨o,g,r,e⟩:=id a;have T:=oG h (!w.params.followText "set-order");have u:(I9 (!w.params.followText "set-order") ns).fits es.size=true:=by rw[he.size];exact T.fits
 refine L0 (NS (Mj a.typeIs si_slot_next
  (Mc si_slot_next a.typeIs n9 ?_ (vO _))))
 refine L0 (Lk ?_);refine L0 (PJ g e ?_);refine L0 (Rt j rfl u ?_);rw[if_neg (by rw[he.size];simp)];show wpAny _ _ (setNext S _ i ep>>=_) _ _ s;refine L0 (vQ h (RH n) j he ?_);rw[p];refine L0 (Nz g e (by simp) ?_);have d:=Mn (Nu (·.setIfInBounds 0 (rawInt (gY (!w.params.followText "set-order") ns (i+1))))) g (Ng (Mr e _));have b:=Mr e (·.setIfInBounds 0 (rawInt (gY (!w.params.followText "set-order") ns (i+1))));refine L0 (Nz d b (by simp) ?_);refine Lk ⟨_,rfl,Lk (q _ ?_ ((Ms ..).trans (Ms ..)))⟩;exact⟨_,Mn _ d (Ng (Mr b _)),(Oz ..).trans ((Oz ..).trans r),by rw[Mr b];simp[rawInt]⟩
def Es(d:ns∈sixes)(j:A.handled=none)
 (e:s.heap.get? S=some (V8 es ep (I9 (!w.params.followText "set-order") ns))) (he:bD es ns) (b:di s.heap c S (!w.params.followText "set-order") ns ep ns.length)
 (l:∀f,Qu c s.heap f->Q none { s with heap:=f }) :
 wpAny (model prog w) A (pyNext (.ref c)) Q E s:=by
 obtain⟨o,h,p,i⟩:=id b;have T:=oG d (!w.params.followText "set-order");have n:(I9 (!w.params.followText "set-order") ns).fits es.size=true:=by rw[he.size];exact T.fits
 refine L0 (NS (Mj b.typeIs si_slot_next
  (Mc si_slot_next b.typeIs n9 ?_ (vO _))))
 refine L0 (Lk ?_);refine L0 (PJ h i ?_);refine L0 (Rt e rfl n ?_);rw[if_neg (by rw[he.size];simp)];refine L0 (vQ d (Lp _) e he ?_);rw[Mu (by rw[qZ he];exact Lp _)];refine L0 (Nz h i (by simp) ?_);refine L0 ?_;refine L0 (m:=firstArgMember _ _) (Rq (a:=MZ) rfl ?_);refine MN ?_ (by size_fits);refine L0 (Rc ?_);rw[show _=none from j];refine L0 (Lk (Su ?_));refine L0 (NF ⟨_,Lq _ rfl,rfl⟩ QA ?_);exact Lk (l _ (((Ms ..).extBut.push _).push _))
def Et(a:di s.heap b S led ns ep i)(h:Q (.ref b) s):wpAny (model prog w) A (pyIter (.ref b)) Q E s:=by
 refine Pj a.typeIs vN (Mc vN a.typeIs Ek ?_ (Em _));exact Lk ⟨_,rfl,"set_iterator",_,a.typeIs,si_slot_next.lookup,h⟩
def Eu(hh:A.handled=none)(I S:Addr)(hne:S≠I)(hn:ns∈sixes)(he:bD es ns) :
 UZ prog w A I [I,S] [I] ns.length (λi v=>(Z4 w S ep es)[i]?=some v) (λi h=>di h I S (!w.params.followText "set-order") ns ep i/\h.get? S=some (V8 es ep (I9 (!w.params.followText "set-order") ns))) where
 sub:=λb hb=>by simp at hb;simp[hb]
 frame:=λ_ _ _ st hk=>⟨st.1.at λo e=>hk I (by simp) o e,hk S (by simp) _ st.2⟩
 item:=λi s Q E hi st hQ=>by
  have hlt:i<(Z4 w S ep es).length:=by rw[qZ he];exact hi
  refine Ep hn hne st.2 he st.1 hi (LB hlt) λh' hit' hs'=>?_;exact hQ _ h' _ (LB hlt) ⟨hit',hs'.extBut S _ hne st.2⟩ λb o hb e=>hs'.extBut b o (λh=>hb (by simp[h])) e
 done:=λs Q E st hQ=>Es hn hh st.2 he st.1 λh' he'=>hQ h' _ λb o hb e=>he' b o (λh=>hb (by simp[h])) e
 self:=λ_ _ _ _ st hQ=>Et st.1 hQ
def Ew(a:s.TypeIs (.ref r) "set")(h:Q false s):wpAny (model prog w) A (MK.List.listLengthHint (.ref r)) Q E s:=by
 refine L0 (Qb a PySem.F.slot_set_len.lookup ?_);generalize c:("set.__len__")=e
 wp_delta
 subst c;refine L0 (NF (b:=true) a rfl ?_);refine wpAny_ite_split (λd=>absurd d (by decide)) (λ_=>?_);refine L0 (RI a ?_);exact Lk h
def Ex(hn:ns∈sixes)(he:bD es ns) :
 KdlSrc prog w "set" S S ns.length (λi v=>(Z4 w S ep es)[i]?=some v) (λh=>h.get? S=some (V8 es ep (I9 (!w.params.followText "set-order") ns))) where
 type:=λ_ hm=>⟨_,hm,rfl⟩
 there:=λ_ hm=>⟨Lr hm,Lr hm⟩
 keep:=λ_ _ hm hk=>hk S (.inl rfl) _ hm
 notList:=by decide
 notTuple:=by decide
 hint:=λ_ _ _ _ hm hq=>Ew ⟨_,hm,rfl⟩ hq
 iter:=λ_ s hh hm=>⟨_,_,(λ_ _ hq=>Eo hn hm he hq),Eu hh _ S (Ly (Lr hm)) hn he,⟨⟨_,Lq _ rfl,rfl,rfl⟩,L3 _ hm⟩⟩
def Ey:∀{vs c:List Ll},vs.Perm c->∀{ns:List Int},Ol c ns->∃b,b.Perm ns/\Ol vs b:=by
 intro vs c h;induction h with
 | nil=>intro ns a;exact⟨ns,TX _,a⟩
 | cons x _ ih=>
   intro ns a;cases a with
   | cons n t h=>obtain⟨b,d,e⟩:=ih h;exact⟨n::b,d.cons n,.cons n t e⟩
 | swap x y l=>
   intro ns a;cases a with
   | cons n t h=>
     cases h with
     | cons m u h=>exact⟨m::n::_,UX.swap _ _ _,.cons m u (.cons n t h)⟩
 | trans _ _ f g=>
   intro ns a;obtain⟨b,d,e⟩:=g a;obtain⟨i,j,o⟩:=f e;exact⟨i,j.trans d,o⟩
end Ws
namespace Ws
open PySem PySem.W PyProof.Rows L2
def ka{X:Cx}:S6 X.K cm fM (rI (λ_ j=>0<=j) λi j=>.int (i / 2 ^ j.toNat)):=kL (λx y A z a h=>by
 cases x<;>cases y<;>first | (obtain⟨c,h⟩:=B9 h;cases h;exact⟨_,_,rfl,rfl,c,rfl,rfl⟩) | cases h) (λ_ _ _ _=>.int _) _ _
def kc{X:Cx}:S6 X.K cm gL (rI mX λi j=>.int (i*2 ^ j.toNat)):=kL (λx y A z a h=>by
 cases x<;>cases y<;>first | (obtain⟨c,h⟩:=B9 h;cases h;exact⟨_,_,rfl,rfl,c,rfl,rfl⟩) | cases h) (λ_ _ _ _=>.int _) _ _
def kd{X:Cx}:S6 X.K cm fN (dU λi j=>.int (MK.bitAnd i j)):=kM (λx y A z a h=>by
 cases x<;>cases y<;>first | (cases h;exact⟨_,_,rfl,rfl,rfl,rfl⟩) | cases h) (λ_ _ _ _=>.int _) _ _
end Ws
namespace Ws
open PySem PySem.W PyProof.Rows L2
def fc:typeLookup (.type "list") "keys" = pure none:=rfl
def Ez
 (q:s.heap.get? a=some o) (r:o.cls=.type "list") (b:o.data=.seq p k) (u:o.dict=none) (f:typeLookup (.type "list") name=pure none) (i:(["__module__","__name__","__qualname__","__doc__","__annotations__"]:List Str).contains name=false) (B:A.handled=none)
 (h:∀m v e,Heap.NewExcOf s.heap m e "AttributeError"->Q none { s with heap:=m,toks:=v }) (n:autoParam (name.length+100<=sizeLine) au10._auto_1) :
 wpAny (model prog w) A (getAttr? (.ref a) name) Q E s:=by
 obtain⟨c,C,D,G⟩:=o;simp only at r b u;subst r b u;obtain⟨H,g,d,v,os⟩:=s;have z:∀j,(⟨H,g,d,j,os⟩:Ln).TypeIs (.ref a) "list":=λ_=>⟨_,q,rfl⟩;have I:=sub_AttributeError;have J:=PY.lookup;have L:=PY.bind (.ref a);have N:=am_list_getattr_none;unfold getAttr? getAttrBy? getAttrBy;repeat (any_goals (first | assumption | exact z _ | ((with_reducible show wpAny _ _ (call (Ql "list.__getattribute__") _ _) _ _ _);refine Uu PY (z _) am_entry_list_getattribute (F.args_list_getattribute_2 _ _) (meets_getattribute_miss_list a p k G name _ f i n) ⟨q,B,λm j e l=>?_⟩) | wp_step))
 obtain⟨O,T,U⟩:=l.there;show wpAny _ _ (getattributeRaised _ _ _ _ _ _ _) _ _ _;unfold getattributeRaised;repeat (any_goals (first | assumption | wp_step))
 exact h _ _ _ l.of
def vR:entryFor table "dict.update.loop" = some MK.«dict.update.loop»:=entryFor_of_tree rfl
def vS:plainId "dict.update.loop" = true:=by decide +kernel
def EA{c a:Type}{m:Type->Type}[Monad m][LawfulMonad m](d:Array c)(b:a)(f:c->a->m (ForInStep a)):forIn d b f=forIn d.toList b f:=by simp
section
variable{prog:LK}{w:Mv}{A:Mq}{E:Ll->Ln->Prop}{s:Ln}
def EB(l:s.heap.get? d=some o)(m:o.data=.dict es ep)
 (n:∀e∈es.toList,∃a,e.key=.ref a/\s.TypeIs (.ref a) "tuple") (p:∀e∈es.toList,(es.filter (·.hash == e.hash)).size<=1) (h:Q es s):wpAny (model prog w) A (MK.Dict.entriesForEmpty j d) Q E s:=by
 refine L0 (MW l m ?_);refine L0 ?_;rw[EA];refine SQ _ (λc _ g=>g=s/\∀e∈c,e∈_) _ ?_ ?_ _ _ ⟨rfl,λe f=>f⟩
 .rintro e c b g ⟨rfl,i⟩;have f:=i e Lz;obtain⟨a,q,r⟩:=n e f;refine L0 ?_;rw[q];refine L0 (Qb r PySem.F.slot_tuple_eq.lookup (Lk ?_));rw[if_pos (by decide),if_neg (by have:=p e f;symm)];exact Lk ⟨rfl,λx u=>i x (LC _ u)⟩
 .rintro b g ⟨rfl,_⟩;exact Lk h
abbrev TK(prog:LK)(w:Mv):HeapKind prog w (List Key):=tupleKind (K3 prog w)
def EC(L:(o == sysModules)=false)(ho:s.heap.DictOfH (TK prog w) o m)(a6:m.length<=sizeLine)
 (v:∀x∈m,(m.filter λy=>(TK prog w).hash y.1 == (TK prog w).hash x.1).length<=1)
 (h:∀N,N.DictOfH (TK prog w) s.heap.objs.size m->MA s.heap.objs.size (s.heap.push { cls:=.type "dict",data:=.dict #[] }) N->Q (.ref s.heap.objs.size) { s with heap:=N }) :
 wpAny (model prog w) A (call (.type "dict") [.ref o]) Q E s:=by
 obtain⟨oo,j,ep,z,hc,g,d,hk,hn⟩:=id ho;have B:=Ru d;refine callType_codes (Q₁:=λobj l=>obj=.ref _/\l={ s with heap:=s.heap.push { cls:=.type "dict",data:=.dict #[] } }) Tb (RB _) Sx (kt_code_dict_new _ ⟨rfl,rfl⟩) ?_;rintro obj l ⟨rfl,rfl⟩;have i:(s.heap.push { cls:=.type "dict",data:=.dict #[] }).get? _=some { cls:=.type "dict",data:=.dict #[] }:=Lq _ rfl;have C:Pk { s with heap:=s.heap.push { cls:=.type "dict",data:=.dict #[] } } (.ref _) "dict":=⟨_,i,rfl⟩;have c:(s.heap.push { cls:=.type "dict",data:=.dict #[] }).get? o=some oo:=L3 _ z;have p:Pk { s with heap:=s.heap.push { cls:=.type "dict",data:=.dict #[] } } (.ref o) "dict":=⟨_,c,hc.1⟩;have O:s.heap.objs.size≠o:=λe=>absurd (Lr z) (by rw[e];exact NP _);refine⟨C,Sb _ _,?_⟩;refine L0 ?_;refine L0 (Oo C ?_);refine Lk ?_;show wpAny _ _ (Sy "dict.__init__" _ _ [] .none) _ _ _;refine L0 (RI p ?_);refine L0 ?_;refine L0 ?_;refine L0 (NF p isSubtype_dict_dict ?_);refine L0 (Qb p Qp.lookup (Lk ?_));refine L0 (Lk ?_);unfold MK.Dict.mergeDict;rw[if_neg (by simpa using O)];unfold OX;rw[if_neg (by rw[L];exact MO)];refine L0 (Lk ?_);refine L0 (MW c g ?_);cases q:m with
 | nil=>
   subst q;have D:j=#[]:=SN.mp (by rw[d];rfl);subst D;rw[if_neg (by simp)];refine L0 (OA c g ?_);refine L0 (MW c g ?_);refine L0 ?_;rw[Std.Legacy.Range.forIn_eq_forIn_range'];refine Lk ?_;refine Lk ?_;refine L0 (Lk (Lk ⟨rfl,h _ ?_ (MA.refl _ _)⟩));exact⟨_,_,_,i,⟨rfl,rfl,rfl⟩,rfl,rfl,λx r=>by simp at r,OK⟩
 | cons T xr=>
   have U:T∈m:=by rw[q];exact Lz
   have u:∀e∈j.toList,∃a,e.key=.ref a/\Pk { s with heap:=s.heap.push { cls:=.type "dict",data:=.dict #[] } } (.ref a) "tuple":=by
    intro e J;rw[d]at J;obtain⟨x,r,rfl⟩:=Lv.mp J;obtain⟨Y,G,n,h1,h2,_⟩:=hk x r;exact⟨x.2.1,rfl,Y,L3 _ h1,h2⟩
   have H:(decide (j.size<=8)&&j.all λe=>(keyPart e.key).isSome)=false:=by
    rw[Bool.and_eq_false_iff];refine .inr ?_;rw[<-Array.all_toList,List.all_eq_false];refine⟨entryOfKey _ T,by rw[d];exact Lv.mpr ⟨T,U,rfl⟩,?_⟩;simp[entryOfKey,keyPart]
   rw[H];refine L0 (MW i rfl ?_);refine L0 (EB c g u (λe J=>?_) ?_)
   .have I:=J;rw[d]at I;obtain⟨x,r,rfl⟩:=Lv.mp I;have:=v x r;rw[<-Nw,Array.toList_filter,d,OY,Lo];exact this
   .have a2:j.isEmpty=false:=by
     cases hh:j.isEmpty with
     | false=>rfl
     | true=>
       have:j.size=0:=by simpa using hh
       rw[B,q]at this;simp at this
    rw[a2];refine L0 (wpAny_updateDictKeysTo i rfl ?_ (by symm));refine Lk ?_;refine L0 (Lk (Lk ⟨rfl,h _ ?_ (Ms ..)⟩));have a3:Obj.ExactDict { cls:=.type "dict",data:=.dict #[] }:=⟨rfl,rfl,rfl⟩;refine⟨_,j,_,Mn _ i (Uh (Pu rfl _)),a3.mapDictKeys _,Pu rfl _,d,λx r=>?_,hn⟩;refine(TK prog w).keeps (?_) i rfl (Ms ..);obtain⟨Y,G,n,h1,h2⟩:=hk x r;exact⟨Y,G,n,L3 _ h1,h2⟩
end
noncomputable def hashK(k:List Int):Int:=reduceHash (MK.Tuple.tupleHashOf (k.map hashInt))
def EE(P:LK)(w:Mv)(k:List Int):(TK P w).hash (k.map MR)=hashK k:=by
 show reduceHash _=_;rw[LM];rfl
def EF:(small.map hashK).Nodup:=by decide +kernel
def EH(c:a∈small)(d:b∈small)(h:hashK a=hashK b):a=b:=by
 obtain⟨i,e,rfl⟩:=MX.mp c;obtain⟨j,f,rfl⟩:=MX.mp d;have:=(SH (h₀:=by simpa using e) (h₁:=by simpa using f) EF).mp (by simpa using h);subst this;rfl
def EI{d:List (List Int)}(hs:∀k∈d,k∈small):∀{c:List (List Key×Addr×Ll)},c.map (·.1)=d.map (Qz MR)->d.Nodup->∀x∈c,(c.filter λy=>(TK P w).hash y.1 == (TK P w).hash x.1).length<=1:=by
 intro c m o x r;have f:(c.map λy=>(TK P w).hash y.1).Nodup:=by
  have e:(c.map λy=>(TK P w).hash y.1)=d.map hashK:=by
   have:(c.map λy=>(TK P w).hash y.1)=(c.map (·.1)).map (TK P w).hash:=by rw[LM];rfl
   rw[this,m,LM];exact NK λk _=>EE P w k
  rw[e];have g:∀l:List _,(∀k∈l,k∈small)->l.Nodup->(l.map hashK).Nodup:=by
   intro l;induction l with
   | nil=>intro _ _;simp
   | cons a l ih=>
     intro h n;rw[Nq]at n;rw[LX,Nq];refine⟨λz=>?_,ih (λk p=>h k (LC _ p)) n.2⟩;obtain⟨b,j,e⟩:=Lv.mp z;exact n.1 (EH (h b (LC _ j)) (h a Lz) e ▸ j)
  exact g d hs o
 have i:∀(l:List (List _×Addr×Ll))(v:Int),(l.map λy=>(TK P w).hash y.1).Nodup->(l.filter λy=>(TK P w).hash y.1 == v).length<=1:=by
  intro l v;induction l with
  | nil=>intro _;simp
  | cons a l ih=>
    intro n;rw[LX,Nq]at n;by_cases e:(TK P w).hash a.1=v
    .have:l.filter (λy=>(TK P w).hash y.1 == v)=[]:=by
      rw[List.filter_eq_nil_iff];intro y q z;exact n.1 (Lv.mpr ⟨y,q,by rw[eq_of_beq z,e]⟩)
     rw[Qd (by simpa using e),this];simp
    .rw[Qe (by simpa using e)];exact ih n.2
 exact i c _ f
def EJ(r:KT H a b):a.map (·.1)=b.map (·.1):=by
 induction r with
 | nil=>rfl
 | cons h _ ih=>rw[LX,LX,ih,h.1]
def EK:bc X (.type "dict") (λi H Q=>∃(a:Addr)(d:List (List Key×V))(j:List (List Int)),i=[.ref a]/\H a=some (.dT d)/\d.map (·.1)=j.map (Qz MR)/\j.Nodup/\(∀k∈j,k∈small)/\∀l,H l=none->Q (.ref l) (aB H l (.dT d))):=by
 intro w s σ H i us Q I r h;obtain⟨a,d,j,rfl,y,m,A,n,q⟩:=h;obtain⟨u,rfl,B⟩:=d8 r;cases B;obtain⟨z,C,i,f,D⟩:=lA I.hok y;have E:=Paired.length f;refine EC C D (by rw[<-E];exact z) (EI n (by rw[<-EJ f];exact m) A) λh' p G=>?_;obtain⟨J,L,N,O,T,U,Y,_,h5⟩:=p;have g:=I.hok.fresh (Lp _);refine⟨.ref _,_,I.laid (o:=.dT d) (λb o x=>(G.2 b (Ly (Lr x))).trans (L3 _ x)) (Lp _) ⟨z,beq_eq_false_iff_ne.mpr (Na (Ly I.big)),i,KT.keeps f (λc ys v=>?_),J,L,N,O,T,U,Y,h5⟩,rfl,q _ g⟩;rw[aj (λe=>by rw[e,g]at v;cases v)];exact v
def EL(he:Pe X cm e d)(s:Gl X "dict")(u:X.mg "dict" = none)(hs:autoParam (starEach [e] X.env=(false,eval e X.env)::starEach [] X.env) au2._auto_1):Pe X cm (.Call (.Name "dict" p) [e] [] f) (nB d):=
 D4 (Y7 EK s u (show bootBuiltins "dict" = some _ from by rfl) (aP he bq hs) (he:=hs)) λG H Q h=>c7 (λ_=>rfl) (λw A H x z A' v Q g y l k=>by
  cases x with
  | ref n=>
    obtain⟨m,A1,B,i⟩:=B0 l;obtain⟨rfl,I,a,o,rfl,J,C,b⟩:=M3 g y B;obtain⟨c,j⟩:=B9 i;cases j;refine⟨a,o,m.map _,rfl,C,by rw[b.keys,LM];rfl,c.1,λk E=>?_,λD q=>?_⟩
    .obtain⟨p,b,rfl⟩:=Lv.mp E;exact c.2 p b
    .have r:ax w H _ (aB H D (.dT o)):=ax.new q;exact k _ _ _ r (g.alloc q ⟨_,C2,b.mono r⟩ rfl) (.ref (by rw[<-g.len];simp))
  | _=>cases l) h
def gC(h:Heap)(d:Addr)(es:Array Qa)(ep:Nat):Prop:=∃o,h.get? d=some o/\o.ExactDict/\o.data=.dict es ep
def gC.at(x:gC h d es ep)(k:∀o,h.get? d=some o->h'.get? d=some o):gC h' d es ep:=let⟨o,a,r⟩:=x;⟨o,k o a,r⟩
end Ws
namespace Ws
open PySem PySem.W PyProof.Rows L2
def iT{j a}:Pe X cm (.Constant (.str x) j a) (eK (.str x)):=kK yJ λ_ _=>.str x
def EM:bc X (.type "int") (λa H Q=>∃b,a=[.bl b]/\Q (.int (if b then 1 else 0)) H):=by
 intro c s e H a f Q I r h;obtain⟨b,rfl,q⟩:=h;obtain⟨u,rfl,d⟩:=d8 r;cases d;exact call_int_bool ⟨.int _,H,I.tok _,⟨_,rfl⟩,q⟩
def EN(he:Pe X cm e d)(f:Gl X "int")(g:X.mg "int" = none)(hs:autoParam (starEach [e] X.env=(false,eval e X.env)::starEach [] X.env) au2._auto_1):Pe X cm (.Call (.Name "int" p) [e] [] a) (lG d):=
 D4 (Y7 EM f g Tt (aP he bq hs) (he:=hs)) λm H Q h=>c7 (λ_=>rfl) (λi A H x z n v Q j l c k=>by
  cases x with
  | bl b=>cases c;cases l;exact⟨b,rfl,k i H _ (ax.refl _ _) j (.int _)⟩
  | _=>cases c) h
def EO{K:Lm}:az P w K mg base aR k e f ps (aV K d (λ_=>stuck) n):=
 ⟨λg H Q E ⟨h,A,i,v,j,_,_,_,a,_⟩=>(nomatch a),λA b s H c l g Q E m o p q ⟨h,B,i,v,j,_,_,_,a,_⟩=>(nomatch a)⟩
theorem rd(c:t0 b):∀(f i:Nat)(σ:PSt)(A:PHp)(v:PV)(A':PHp),Z0 J g b f i σ A≠.ok (.rt v) A'
 | 0,i,σ,A,v,A',h=>by rw[ug]at h;cases h
 | f+1,i,σ,A,v,A',h=>by
   rw[T1]at h;obtain⟨x,l,m,h⟩:=B0 h;cases x with
   | none=>cases h
   | some y=>
     obtain⟨e,n,p,h⟩:=B0 h;obtain⟨o,d,j,h⟩:=B0 h;cases o with
     | nx a=>exact rd c f (i+1) a d v A' h
     | ct a=>exact rd c f (i+1) a d v A' h
     | bk a=>cases h
     | rt z=>exact c _ _ _ _ j
def ES(c:t0 b):t0 (fz a g b):=λd A v e h=>by
 obtain⟨J,f,i,h⟩:=B0 h;obtain⟨n,j,l,h⟩:=B0 h;exact rd c _ _ _ _ _ _ h
def ET:t0 (cR d y e):=λf A v g h=>by
 obtain⟨j,l,o,h⟩:=B0 h;obtain⟨b,p,q,h⟩:=B0 h;obtain⟨c,r,s,h⟩:=B0 h;cases b with
 | ref n=>
   cases a:Q1 c with
   | none=>rw[a]at h;cases h
   | some i=>
     rw[a]at h;obtain⟨m,u,w,h⟩:=B0 h;obtain⟨_,h⟩:=B9 h;cases h
 | _=>cases h
def gC.type{s:Ln}(a:gC s.heap d es ep):s.TypeIs (.ref d) "dict":=let⟨o,b,c,_⟩:=a;⟨o,b,c.1⟩
def EU(lo:(d == sysModules)=false)(c:gC s.heap d es ep)
 (h:Q (.ref s.heap.objs.size) { s with heap:=s.heap.push { cls:=.type "dict_keyiterator",data:=.fields #[.ref d,.int 0 0,.int es.size 0,.int ep 0] } }):wpAny (model prog w) A (pyIter (.ref d)) Q E s:=by
 have b:=c.type;obtain⟨o,g,i,a⟩:=id c;refine Pj b Qp (Mc Qp b PySem.F.entry_dict_iter ?_ (PySem.F.args_dict_iter_1 _));refine L0 ?_;refine L0 (Oo b (show wpAny _ _ _ _ _ s from Lk ?_));refine(show wpAny _ _ (OX d>>=_) _ _ s from ?_);unfold OX;rw[if_neg (by rw[lo];simp)];refine L0 (Lk (L0 (MW g a (L0 (OA g a ?_)))));refine L0 (MN (Lk ⟨_,rfl,"dict_keyiterator",_,⟨_,Lq _ rfl,rfl⟩,MU.lookup,?_⟩));simpa[rawInt]using h
def EV(a:s.heap.IsKeyIter c d i es.size ep)(n:gC s.heap d es ep)(h:i<es.size)
 (p:∀j,j.IsKeyIter c d (i+1) es.size ep->MA c s.heap j->Q (some es[i].key) { s with heap:=j }):wpAny (model prog w) A (pyNext (.ref c)) Q E s:=by
 obtain⟨o,l,q,g⟩:=id a;obtain⟨u,e,r,f⟩:=id n;have own:MY "dict_keyiterator" = false:=by decide
 refine L0 (NS (Mj a.typeIs MU
  (Mc MU a.typeIs PR ?_ (PK _))))
 refine L0 (Lk (L0 (L0 ?_)));first | refine L0 (Ob a.typeIs (Lk ?_)) | refine L0 _
 refine L0 (PJ l g ?_);show wpAny _ _ (if _=true then _ else _) _ _ s;refine L0 (Lk (L0 (MW e f ?_)));rw[if_neg (by simp)];refine L0 (Lk (L0 (OA e f ?_)));rw[if_neg (by simp)];refine Lk ?_;simp only[if_false,NL,Nt h];refine L0 ?_;first | refine L0 (Ob a.typeIs (Lk ?_)) | refine L0 _
 refine L0 (Tu a.typeIs ?_);show wpAny _ _ (setField _ 1 _>>=_) _ _ s;refine L0 (Nz l g (by simp) ?_);have b:(s.heap.update c (Nu (·.setIfInBounds 1 (rawInt ((i:Int)+1))))).IsKeyIter c d (i+1) es.size ep:=
  ⟨_,Mn _ l (Ng (Mr g _)),(Oz ..).trans q,by rw[Mr g];simp[rawInt]⟩
 refine L0 (Mh ?_);refine L0 (Tu b.typeIs ?_);exact Lk (Lk ⟨_,rfl,Lk (p _ b (Ms ..))⟩)
def EW(l:A.handled=none)(b:s.heap.IsKeyIter f d es.size es.size ep)(n:gC s.heap d es ep)
 (p:∀g,Qu f s.heap g->Q none { s with heap:=g }):wpAny (model prog w) A (pyNext (.ref f)) Q E s:=by
 obtain⟨o,i,r,j⟩:=id b;obtain⟨u,c,q,e⟩:=id n;have own:MY "dict_keyiterator" = false:=by decide
 refine L0 (NS (Mj b.typeIs MU
  (Mc MU b.typeIs PR ?_ (PK _))))
 refine L0 (Lk (L0 (L0 ?_)));first | refine L0 (Ob b.typeIs (Lk ?_)) | refine L0 _
 refine L0 (PJ i j ?_);show wpAny _ _ (if _=true then _ else _) _ _ s;refine L0 (Lk (L0 (MW c e ?_)));rw[if_neg (by simp)];refine L0 (Lk (L0 (OA c e ?_)));rw[if_neg (by simp)];refine Lk ?_;simp only[if_false,NL,ON (Lp es.size)];refine L0 ?_;first | refine L0 (Ob b.typeIs (Lk ?_)) | refine L0 _
 show wpAny _ _ (setField _ 0 .none>>=_) _ _ s;refine L0 (Nz i j (by simp) ?_);refine L0 ?_;refine L0 (m:=firstArgMember _ _) (Rq (a:=MZ) rfl ?_);refine MN ?_ (by size_fits);refine L0 (Rc ?_);rw[show _=none from l];refine L0 (Lk (Su ?_));refine L0 (NF ⟨_,Lq _ rfl,rfl⟩ QA ?_);exact Lk (p _ (((Ms ..).extBut.push _).push _))
def EX(hh:A.handled=none)(I:Addr)(hne:d≠I):UZ prog w A I [I,d] [I] es.size (λi v=>(es[i]?).map (·.key)=some v) (λi h=>h.IsKeyIter I d i es.size ep/\gC h d es ep) where
 sub:=λb hb=>by simp at hb;simp[hb]
 frame:=λ_ _ _ st hk=>⟨st.1.at λo e=>hk I (by simp) o e,st.2.at λo e=>hk d (by simp) o e⟩
 item:=λi s Q E hi st hQ=>by
  refine EV st.1 st.2 hi λh' hit' hs'=>?_;exact hQ _ h' _ (by rw[Nt hi];rfl) ⟨hit',st.2.at λo e=>hs'.extBut d o hne e⟩ λb o hb e=>hs'.extBut b o (λh=>hb (by simp[h])) e
 done:=λs Q E st hQ=>EW hh st.1 st.2 λh' he'=>hQ h' _ λb o hb e=>he' b o (λh=>hb (by simp[h])) e
 self:=λ_ _ _ _ st hQ=>wpAny_pyIter_keyiter st.1 hQ
def vT(lo:(d == sysModules)=false):KdlSrc prog w "dict" d d es.size (λi v=>(es[i]?).map (·.key)=some v) (λh=>gC h d es ep) where
 type:=λ_ hm=>hm.type
 there:=λ_ hm=>⟨let⟨_,ho,_⟩:=hm;Lr ho,let⟨_,ho,_⟩:=hm;Lr ho⟩
 keep:=λ_ _ hm hk=>hm.at λo e=>hk d (.inl rfl) o e
 notList:=by decide
 notTuple:=by decide
 hint:=λ_ _ _ _ hm hq=>kdl_hint_dict hm.type hq
 iter:=λ_ _ hh hm=>⟨_,_,(λ_ _ hq=>EU lo hm hq),EX hh _ (Ly (let⟨_,ho,_⟩:=hm;Lr ho)),⟨⟨_,Lq _ rfl,rfl,rfl⟩,hm.at λo e=>L3 _ e⟩⟩
section
variable{X:Cx}{cm:Nat->Addr}
def rSortDT:List V->Hp->VK->Prop:=λe H Q=>∃(a:Addr)(b:List (List Key×V))(c:List (List Int)),e=[.ref a]/\H a=some (.dT b)/\b.map (·.1)=c.map (Qz (MR:Int->Key))/\(∀t∈c,t≠[])/\c.length<64/\
 ∀(l:Addr)(p:List Nat)(d:List V),Paired (eX H) d c->V7 c d.length p->H l=none->Q (.ref l) (aB H l (.lst (p.map λi=>d.getD i .non)))
def vU:∀{b:List (List Key×V)}{d:List (List Key×Addr×Ll)}{a:List (List Int)},KT H b d->b.map (·.1)=a.map (Qz (MR:Int->Key))->(∀t∈a,t≠[])->Paired (eX H) (d.map λq=>V.ref q.2.1) a:=by
 intro b d a r;induction r generalizing a with
 | nil=>
   intro e _;cases a with
   | nil=>exact .nil
   | cons t a=>cases e
 | @cons p q _ _ h _ ih=>
   intro e c;cases a with
   | nil=>cases e
   | cons t a=>
     rw[LX]at e;injection e with f g;refine .cons ⟨_,rfl,?_,c t Lz⟩ (ih g λu i=>c u (LC _ i));rw[h.2.1,f,LM];rfl
def EY(w:X.calm=true):bc X (.builtin "sorted") rSortDT:=by
 intro a7 s σ H B us Q I r h;obtain⟨a,J,L,rfl,hH,f,N,b5,q⟩:=h;obtain⟨u,rfl,rx⟩:=d8 r;cases rx;obtain⟨z,hd,B,x,dd⟩:=lA I.hok hH;obtain⟨oo,es,ep,O,hc,C,y,T,U⟩:=id dd;have g:=Ru y;have Y:=Paired.length x;have l:J.length=L.length:=by
  have:=congrArg List.length f;simpa using this
 have hT:=vU x f N;refine PF UL UA UB (UC _) ?_;refine L0 (Lk ?_);refine L0 (kdu_collect (vT hd) (I.ok.hd w) ⟨oo,O,hc,C⟩ (by rw[g,<-Y];exact z) λh' tk d hk n=>?_);have m:d.toList=B.map λq=>LJ q.2.1:=by
  refine Pl λj=>?_;rw[MP];cases hj:d[j]? with
  | none=>
    have D:d.size<=j:=by simpa using hj
    rw[n.1,g]at D;rw[Mu (by simpa using D)]
  | some v=>
    have D:(es[j]?).map _=some v:=n.2 j v hj;rw[entry_at y j,TZ]at D;rw[LL];exact D.symm
 have E:d.toList.length=L.length:=by rw[m,Lo,<-Y,l]
 have I1:=I.kept (t':=tk) hk;have hv:aA (B.map λq=>V.ref q.2.1) d.toList:=by
  rw[m];clear m E hT y Y x dd g T U;induction B with
  | nil=>exact .nil
  | cons q r ih=>exact .cons rfl ih
 refine L0 (Ss ?_ (by symm));have A:(h'.push _).get? _=some (seqObj "list" d.toList.toArray 0):=Lq _ rfl;have a2:=vg I1 hv hT;refine L0 (Mh (Mc TN ⟨_,A,rfl⟩ Tr (j0 A (L2.Paired.mapP a2 λv t ⟨b,o,a3,k,e,q,r⟩=>⟨b,o,a3,k,e,L3 _ q,r⟩) (by symm) λp hp=>⟨_,rfl,?_⟩) (TQ _)));refine Lk ⟨_,rfl,?_⟩;have a4:(B.map λq=>V.ref q.2.1).length=d.toList.length:=by rw[m];simp
 have G:V7 L (B.map λq=>V.ref q.2.1).length p:=by rw[a4];exact hp
 obtain⟨c,a5⟩:=sortedHeap_at A;have a6:p.length=d.toList.length:=by rw[hp.1.length_eq];simp
 refine⟨.ref _,_,I1.laid (λb o e2=>?_) (Lp _) ?_,rfl,q _ p _ hT G (I1.hok.fresh (Lp _))⟩
 .have l:=Lr e2;rw[sortedHeap_old (Ly l) (by rw[Uv];exact Ni l)];exact L3 _ e2
 .refine⟨by rw[Lo,a6];symm,p.map λi=>d.toList.getD i _,c,qH hv p λi hi=>?_,a5⟩;have:=G.1.mem_iff.mp hi;simpa using this
def EZ(c:X.calm=true)(he:Pe X cm e d)(N:Gl X "sorted")(O:X.mg "sorted" = none)(hs:autoParam (starEach [e] X.env=(false,eval e X.env)::starEach [] X.env) au2._auto_1):Pe X cm (.Call (.Name "sorted" p) [e] [] o) (nC d):=
 D4 (Y6 (EY c) N O PU (aP he bq hs) (he:=hs)) λσ H Q h=>c7 (λ_=>rfl) (λC A H x z A' v Q r T E k=>by
  cases x with
  | ref n=>
    obtain⟨m,A1,U,s⟩:=B0 E;obtain⟨rfl,hA,a,Y,rfl,hn,hH,hp⟩:=M3 r T U;obtain⟨⟨u,w⟩,y⟩:=B9 s;cases y;refine⟨a,Y,m.map _,rfl,hH,by rw[hp.keys,LM];rfl,λt ht=>?_,by simpa using u,λD p G B hs I=>?_⟩
    .obtain⟨q,hq,rfl⟩:=Lv.mp ht;exact w q hq
    generalize m.map _=g at B hs k;have j:=Paired.length B;rw[j]at hs;have J:=l6 y0 ((vj g [] hs.1).trans (J2 _ _).symm) hs.2 (uv g);have f:∀i∈p,i<_:=λi l=>by simpa using hs.1.mem_iff.mp l
    have hr:RVs C H (g.map λt=>PV.tup (t.map .int)) G:=by
     clear hs J f j k;induction B with
     | nil=>exact .nil
     | cons h _ ih=>
       obtain⟨b,rfl,hb,_⟩:=h;exact .cons (.tup hb (RVs.ints _)) ih
    have ep:(D9 D3 g).map (λt=>PV.tup (t.map .int))=p.map λi=>(g.map λt=>PV.tup (t.map .int)).getD i .non:=by
     rw[<-J,LM];refine NK λi l=>?_;have:=f i l;simp[this]
    have L:ax C H _ (aB H D (.lst (p.map λi=>G.getD i .non))):=ax.new I;refine k _ _ _ L (r.alloc I ⟨_,C2,?_⟩ rfl) (.ref (by rw[<-r.len];simp));rw[ep];exact(qI hr p λi l=>by rw[Lo];exact f i l).mono L
  | _=>cases E) h
end
end Ws
namespace Ws
open PySem PySem.W PyProof.Rows PySem.Builtin PySem.Builtin.Str L2
def gZ(c:Gl X x)(b:∃t,X.mg x=some (.str z t))(d:autoParam ((x == ("__debug__" : Str))=false) au1._auto_1):Pe X cm (.Name x a) (eK (.str z)):=by
 obtain⟨t,b⟩:=b;exact kK (pw c b (show L2.RelV (.str z) _ from⟨t,rfl⟩) d) λ_ _=>.str z
end Ws
namespace Ws
open PySem PySem.W PyProof.Rows PySem.SeqAt L2
open MeetsSeq MeetsSeq2 MeetsSeq3 SeqRoads2
section
variable{X:Cx}{cm:Nat->Addr}{pins:List (Addr×Obj)}{σ:L2.St}{H:Hp}{s:Ln}
def rKeysDT:List V->Hp->VK->Prop:=λe H Q=>∃(a:Addr)(b:List (List Key×V))(c:List (List Int)),e=[.ref a]/\H a=some (.dT b)/\b.map (·.1)=c.map (Qz (MR:Int->Key))/\(∀t∈c,t≠[])/\
 ∀(l:Addr)(d:List V),Paired (eX H) d c->H l=none->Q (.ref l) (aB H l (.lst d))
def E2(f:X.calm=true):bc X (.type "list") rKeysDT:=by
 intro pins s σ H w us Q I r h;obtain⟨a,J,ts,rfl,L,g,x,q⟩:=h;obtain⟨u,rfl,N⟩:=d8 r;cases N;obtain⟨z,O,w,i,D⟩:=lA I.hok L;obtain⟨T,U,ep,y,Y,m,l,A,B⟩:=id D;have b:=Ru l;have C:=Paired.length i;have E:=vU i g x;refine kdl_call (vT O) (I.ok.hd f) ⟨T,y,Y,m⟩ (by rw[b,<-C];exact z) λh' tk d c hk hD e=>?_;have n:d.toList=w.map λq=>LJ q.2.1:=by
  refine Pl λj=>?_;rw[MP];cases G:d[j]? with
  | none=>
    have p:d.size<=j:=by simpa using G
    rw[e.1,b]at p;rw[Mu (by simpa using p)]
  | some v=>
    have p:(U[j]?).map _=some v:=e.2 j v G;rw[entry_at l j,TZ]at p;rw[LL];exact p.symm
 have hv:aA (w.map λq=>V.ref q.2.1) d.toList:=by
  rw[n];clear n E l C i D b A B;induction w with
  | nil=>exact .nil
  | cons q r ih=>exact .cons rfl ih
 refine⟨.ref _,_,I.laid (o:=.lst _) hk (Lp _) ⟨by rw[Lo,<-C];exact z,_,c,hv,?_⟩,rfl,q _ _ E (I.hok.fresh (Lp _))⟩;exact hD
def Fb(c:X.calm=true)(he:Pe X cm e d)(E:Gl X "list")(G:X.mg "list" = none)(hs:autoParam (starEach [e] X.env=(false,eval e X.env)::starEach [] X.env) au2._auto_1):Pe X cm (.Call (.Name "list" p) [e] [] f) (nE d):=
 D4 (Y7 (E2 c) E G Qq (aP he bq hs) (he:=hs)) λσ H Q h=>c7 (λ_=>rfl) (λo A H x z A' v Q g I r k=>by
  cases x with
  | ref n=>
    obtain⟨m,A1,J,i⟩:=B0 r;obtain⟨rfl,hA,a,L,rfl,hn,N,O⟩:=M3 g I J;obtain⟨⟨T,j⟩,l⟩:=B9 i;cases l;refine⟨a,L,m.map _,rfl,N,by rw[O.keys,LM];rfl,λt U=>?_,λD u w y=>?_⟩
    .obtain⟨q,Y,rfl⟩:=Lv.mp U;exact j q Y
    have B:RVs o H ((m.map (·.1)).map λt=>PV.tup (t.map .int)) u:=by
     generalize m.map _=ts at w;induction w with
     | nil=>exact .nil
     | cons h _ ih=>
       obtain⟨b,rfl,hb,_⟩:=h;exact .cons (.tup hb (RVs.ints _)) ih
    rw[LM]at B;have C:ax o H _ (aB H D (.lst u)):=ax.new y;exact k _ _ _ C (g.alloc y ⟨_,C2,B.mono C⟩ rfl) (.ref (by rw[<-g.len];simp))
  | _=>cases r) h
end
end Ws
namespace Ws
open PySem PySem.W PyProof.Rows L2
section
variable{prog:LK}{w:Mv}{K:Type}[DecidableEq K]{knd:HeapKind prog w K}{A:Mq}{E:Ll->Ln->Prop}{s:Ln}
def Fc{d a:Addr}{e:List (K×Addr×Ll)}{k:K}{v:Ll}{Q:Ll->Ln->Prop}(G:knd.room A)(b:knd.is s.heap k a)(L:s.heap.DictOfH knd d e)(z:e.length<=sizeLine)
 (f:∀p,atKey e k=some p->Q p.2 { s with toks:=s.toks+knd.draws k })
 (g:atKey e k=none->∀B,B.DictOfH knd d (storedH e k a v)->MA d s.heap B->Q v { s with heap:=B,toks:=s.toks+knd.draws k }) :
 wpAny (model prog w) A (dictSetDefault d (.ref a) v) Q E s:=by
 obtain⟨o,N,O,m,T,i,c,q,C⟩:=L;have r:=Ru c;refine Mh ?_;refine L0 (knd.pyHash G b ?_);refine L0 (wpAny_dictFind_heap G b m i c q C (λh=>?_) λj p u=>?_)
 .have I:=atKey_none_of_get h;have l:storedH e k a v=e++[(k,a,v)]:=by
   unfold storedH;rw[I];rfl
  refine L0 (Ph ?_);refine L0 (wpAny_updateDictKeys (hz:=by rw[r];exact z) m i (Lk (g I _ ⟨_,_,O+1,Mn _ m (Uh (Pu i _)),
   T.mapDictKeys _,Pu i _,?_,λx n=>?_,?_⟩ (Ms ..))))
  .rw[l,LZ,<-c,Array.toList_push];rfl
  .rw[l]at n;rcases LY.mp n with n | n
   .exact knd.keeps (q x n) m i (Ms ..)
   .cases Ls.mp n;exact knd.keeps b m i (Ms ..)
  .rw[l,LZ];refine MF.mpr ⟨C,by simp,?_⟩;intro a1 U b1 J Y;rw[LX,OC,Ls]at J;obtain⟨y,hy,ey⟩:=Lv.mp U;obtain⟨j,u⟩:=List.getElem?_of_mem hy;refine h j y.2 ?_;rw[u,show k=y.1 from J.symm.trans (Y.symm.trans ey.symm)]
 .refine L0 (MW m i ?_);have D:N[j]?=some (entryOfKey knd (k,p)):=by rw[entry_at c j,u];rfl
  rw[D];exact L0 (Ph (Lk (f p (atKey_of_get C u))))
def Fd{d a:Addr}{e:List (K×Addr×Ll)}{k:K}{dflt:Ll}{Q:Ll->Ln->Prop}(n:(d == sysModules)=false)(o:knd.room A.in1)(f:knd.is s.heap k a)(j:s.heap.DictOfH knd d e)(h:e.length<=sizeLine)
 (b:∀p,atKey e k=some p->∀i,Q p.2 { s with toks:=i })
 (c:atKey e k=none->∀g i,g.DictOfH knd d (storedH e k a dflt)->MA d s.heap g->Q dflt { s with heap:=g,toks:=i }) :
 wpAny (model prog w) A (call (.builtin "dict.setdefault") [.ref d,.ref a,dflt]) Q E s:=by
 have m:=j.typeIs;refine Mc Ri m PySem.F.entry_dict_setdefault ?_ (PySem.F.args_dict_setdefault_3 _ _ _);refine L0 ?_;refine L0 (Oo m ?_);refine Lk ?_;show wpAny _ _ (if _=true then _ else _) _ _ s;rw[if_neg (by rw[n];exact MO)];refine L0 (Fc o f j h (λp q=>?_) λr g u v=>?_)
 .exact Lk ⟨_,rfl,b p q _⟩
 .exact Lk ⟨_,rfl,c r g _ u v⟩
end
section
variable{X:Cx}{cm:Nat->Addr}{o e f:Expr}{apos cpos:Pos}{td ty tx:TE}
def Fe(td ty tx:TE):TE:=λg H Q=>td g H λx h=>∃a,x=.ref a/\nj h a/\ty g h λy i=>tx g i λz d=>∃c k b,d a=some (.dT c)/\y=.ref b/\d b=some (.tup (k.map L2.kV))/\
 (∀v,X2 c k=some v->Q v d)/\(X2 c k=none->c.length<sizeLine/\Q z (aB d a (.dT (R6 c k z))))
def Ff(U:X.A.units+1<cLine)(Y:PE X o td)(he:PE X e ty)(hf:PE X f tx)(m:M2 X o "setdefault" apos e f cpos):PE X (.Call (.Attribute o "setdefault" apos) [e,f] [] cpos) (Fe td ty tx):=by
 intro g s q H Q I h;refine Qs m.base m.few m.line Qc Ri PySem.F.type_dict_setdefault (aI (Y g s q H _ I h) λu s1 zq=>?_);obtain⟨x,H1,D,rx,a,ex,d,q1⟩:=zq;subst ex;obtain rfl:u=LJ a:=rx;obtain⟨t1,t2,_⟩:=pS D d;refine⟨t1,t2,?_⟩;rw[m.trees];refine OL rfl (Pp (NW (aI (he g s1 q H1 _ D q1) λiv s2 ⟨y,H2,I2,ry,q2⟩=>
  NW (aI (hf g s2 q H2 _ I2 q2) λfv s3 ⟨z,H3,n,E,i,k,b,r,ey,G,q3,J⟩=>Pb ?_))))
 subst ey;cases(show iv=LJ b from ry);obtain⟨zz,L,xs,j,dd⟩:=lA n.hok r;have hl:=Paired.length j;refine Fd (knd:=TK _ X.w) L (NX U) (f7 n.hok G) dd (by rw[<-hl];exact zz) (λp hp tk=>?_) λh0 h' tk B hs=>?_
 .have:=j.val k;rw[hp]at this;cases l:X2 i k with
  | none=>rw[l]at this;exact this.elim
  | some v=>rw[l]at this;exact⟨v,H3,n.kept (λ_ _ e=>e),this,q3 v l⟩
 .have:=j.val k;rw[h0]at this;cases l:X2 i k with
  | some v=>rw[l]at this;exact this.elim
  | none=>
    have e1:=(J l).1;have C:(R6 i k z).length<=sizeLine:=by have:=X3 i k z;symm
    obtain⟨N,es,ep,O,h2,h3,h4,_,h5⟩:=B;refine⟨z,_,ng (ob:=.dT _) n (by rw[r];exact Of) hs ⟨N,O⟩ ⟨C,L,_,KT.keeps (j.put k G E) (λc ys T=>?_),N,es,ep,O,h2,h3,h4,h5⟩,E,(J l).2⟩;rw[aj (sR T r nofun)];exact T
def Fg(hu:X.A.units+1<cLine)(ho:Pe X cm o d)(he:Pe X cm e y)(hf:Pe X cm f x)(m:M2 X o "setdefault" apos e f cpos:=by exact⟨rfl,rfl,rfl,rfl⟩):Pe X cm (.Call (.Attribute o "setdefault" apos) [e,f] [] cpos) (i6 d y x):=
 D4 (Ff hu ho he hf m) λσ H Q hq=>by
  obtain⟨ρ,A,p,v,A',rl,rs,ev,k⟩:=hq;obtain⟨xv,A1,e1,B⟩:=B0 ev;refine⟨ρ,A,p,xv,A1,rl,rs,e1,λa1 H1 v1 O C D=>?_⟩;cases xv with
  | ref n=>
    obtain⟨m0,A2,e2,a2⟩:=B0 B;obtain⟨rfl,hA,a,kv,rfl,hn,hH,hp⟩:=M3 C D e2;obtain⟨kx,A3,e3,a4⟩:=B0 a2;obtain⟨z,A4,e4,q⟩:=B0 a4;refine⟨a,rfl,.inr ⟨kv,.inl hH⟩,a1,_,p,kx,A3,C,rs.mono O,e3,λa5 H2 v2 T a6 a7=>⟨a5,A3,p,z,A4,a6,(rs.mono O).mono T,e4,λg H3 v3 U h E=>?_⟩⟩;rcases G:Q1 kx with _ | j<;>rw[G]at q
    .cases q
    obtain⟨mm,A5,e5,i⟩:=B0 q;obtain⟨rfl,I,a3,J,e6,L,a8,l⟩:=M3 h ((D.mono T).mono U) e5;cases e6;obtain⟨b,rfl,hb⟩:=W5 G (a7.mono U);refine⟨J,j.map _,b,a8,rfl,hb,λw r=>?_,λr=>?_⟩
    .rcases PT2.val j l with⟨N,s⟩ | ⟨w',u,N,s,g3⟩
     .rw[s]at r;cases r
     .rw[s]at r;cases r;rw[N]at i;cases i;exact k g _ _ ((O.trans T).trans U) h g3
    .rcases PT2.val j l with⟨N,s⟩ | ⟨w',u,N,s,g3⟩
     .rw[N]at i;obtain⟨c,a9⟩:=B9 i;cases a9;have Y:ax g H3 g (aB H3 a (.dT (R6 J (j.map MR) v3))):=ax.put h L I rfl;exact⟨by rw[<-l.len];exact lM c,k g _ _ (((O.trans T).trans U).trans Y) (h.put L I rfl rfl ⟨_,C2,PT2.put (E.mono Y) j (l.mono Y)⟩) (E.mono Y)⟩
     .rw[s]at r;cases r
  | _=>cases B
end
end Ws
namespace Ws
open PySem PySem.W PyProof.Rows L2
noncomputable def foldH{K:Type}[DecidableEq K](ws:List (K×Addr×Ll)):List (K×Addr×Ll):=ws.foldl (λa p=>storedH a p.1 p.2.1 p.2.2) []
def Fh{K:Type}[DecidableEq K](ws:List (K×Addr×Ll))(p:K×Addr×Ll):foldH (ws++[p])=storedH (foldH ws) p.1 p.2.1 p.2.2:=by
 unfold foldH;rw[List.foldl_append];rfl
def Fi{K:Type}[DecidableEq K](b:List (K×Addr×Ll))(k:K)(a:Addr)(v:Ll):(storedH b k a v).length<=b.length+1:=by
 unfold storedH;split<;>simp
def vV{K:Type}[DecidableEq K](ws:List (K×Addr×Ll)):(foldH ws).length<=ws.length:=by
 have b:∀(l a:List (K×Addr×Ll)),(l.foldl (λa p=>storedH a p.1 p.2.1 p.2.2) a).length<=a.length+l.length:=by
  intro l;induction l with
  | nil=>simp
  | cons p l ih=>
    intro a;have c:=ih (storedH a p.1 p.2.1 p.2.2);have d:=Fi a p.1 p.2.1 p.2.2;simp only[Tq,Me];symm
 simpa[foldH]using b ws []
def Fj{K:Type}[DecidableEq K](ws:List (K×Addr×Ll)):∀x∈foldH ws,∃q∈ws,x.1=q.1/\x.2.1=q.2.1:=by
 have d:∀(l a:List (K×Addr×Ll)),∀x∈l.foldl (λa p=>storedH a p.1 p.2.1 p.2.2) a,(∃q∈a,x.1=q.1/\x.2.1=q.2.1)\/∃q∈l,x.1=q.1/\x.2.1=q.2.1:=by
  intro l;induction l with
  | nil=>intro a x c;exact .inl ⟨x,c,rfl,rfl⟩
  | cons p l ih=>
    intro a x c;rcases ih _ x c with⟨q,b,e⟩ | ⟨q,b,e⟩
    .have b:q∈storedH a p.1 _ _:=b;unfold storedH at b;split at b
     .obtain⟨g,f,rfl⟩:=Lv.mp b;refine .inl ⟨g,f,?_⟩;unfold putAt at e;split at e<;>exact e
     .rcases LY.mp b with z | z
      .exact .inl ⟨q,z,e⟩
      .cases Ls.mp z;exact .inr ⟨p,Lz,e⟩
    .exact .inr ⟨q,LC _ b,e⟩
 intro x c;rcases d ws [] x c with⟨q,b,_⟩ | h
 .cases b
 .exact h
def oH(c:(TK P w).is h k a)(d:∀o,h.get? a=some o->h'.get? a=some o):(TK P w).is h' k a:=by
 obtain⟨e,b,n,f,g⟩:=c;exact⟨e,b,n,d _ f,g⟩
def c9{h h':Heap}(b:h.DictOfH (TK P w) D a)(c:∀o,h.get? D=some o->h'.get? D=some o)(d:∀x∈a,(TK P w).is h' x.1 x.2.1):h'.DictOfH (TK P w) D a:=by
 obtain⟨o,e,f,g,i,j,l,_,m⟩:=b;exact⟨o,e,f,c _ g,i,j,l,d,m⟩
def vW{ws:List (List Key×Addr×Ll)}(b:∀j (a:j<ws.length),(TK P w).is h ws[j].1 ws[j].2.1)(i:Nat):∀x∈foldH (ws.take i),(TK P w).is h x.1 x.2.1:=by
 intro x c;obtain⟨q,d,e,f⟩:=Fj _ x c;obtain⟨j,a,rfl⟩:=PQ (TF d);rw[e,f];exact b j a
def Fk{R:Uy->Ln->Prop}{St:Nat->Ln->Prop}
 (W:WalksS prog w A.in1 I fp x G ws.length P St) (y:D∉fp) (res:Ll) (z:Nat->Addr) (U:∀i v,P i v->v=.ref (z i)) (B:∀i,i<ws.length->z i≠D/\z i∉x) (q:∀i (hi:i<ws.length),ws[i].2.1≠D/\ws[i].2.1∉x) (hu:(TK prog w).room A.in1) (hz:ws.length<=sizeLine) :
 ∀(k i:Nat)(s:Ln),ws.length - i=k->i<=ws.length->St i s->s.heap.DictOfH (TK prog w) D (foldH (ws.take i))->
  (∀j (c:j<ws.length),s.heap.IsTuple (z j) #[.ref ws[j].2.1,ws[j].2.2]/\(TK prog w).is s.heap ws[j].1 ws[j].2.1)->
  (∀g,Moved (D::x) G s g->g.heap.DictOfH (TK prog w) D (foldH ws)->R (.ok (.ret res)) g)->
  codeAny (model prog w) A (.builtin "dict.update.loop" ⟨[.ref D,.ref I,rawInt i,res],[]⟩) R s:=by
 have C:=λh=>y (W.sub _ h);have n:∀b∈x,b∈D::x:=λb H=>LC _ H;intro k;induction k with
 | zero=>
   intro i s hk hi u T f Y;have a0:i=ws.length:=by symm
   subst a0;rw[MT]at T;refine Oj vR ?_;refine L0 (W.done s _ _ u λg p=>?_);refine Lk (Y g (p.mono n) ?_);refine c9 T (λo d=>p.heap D o C d) ?_;have:=vW (i:=ws.length) λj c=>oH (f j c).2 λo d=>p.heap _ o (q j c).2 d;rw[MT]at this;exact this
 | succ k ih=>
   intro i s hk hi u T f Y;have l:i<ws.length:=by symm
   refine Oj vR ?_;refine L0 (W.item i s _ _ l u λv g hP J p=>?_);obtain rfl:=U i v hP;have a:∀j _,g.heap.IsTuple (z j) #[.ref ws[j].2.1,ws[j].2.2]/\(TK prog w).is g.heap ws[j].1 ws[j].2.1:=by
    intro j c;obtain⟨⟨o,d,r⟩,h2⟩:=f j c;exact⟨⟨o,p.heap _ o (B j c).2 d,r⟩,oH h2 λo d=>p.heap _ o (q j c).2 d⟩
   have a2:=c9 T (λo d=>p.heap D o C d) (vW (i:=i) λj c=>(a j c).2);obtain⟨⟨ot,L,a3,nt,a4⟩,N⟩:=a i l;have hT:g.TypeIs (.ref _) "tuple":=⟨ot,L,a3⟩;refine L0 (Mh ?_);refine L0 (wpAny_tryCatch ?_);refine L0 (RI hT ?_);refine L0 (NR L a4 ?_);refine Lk ?_;refine Mh ?_;refine wpAny_dictSet_heap hu N a2 (λh' a5 m=>?_) (by have:=vV (ws.take i);have:(ws.take i).length<=ws.length:=(by rw[MS];symm);symm);have a6:ws.take (i+1)=ws.take i++[ws[i]]:=by rw[NA,LB l];rfl
   have hc:((i:Int)+1)=((i+1)):=by push_cast;rfl
   refine Lk ⟨Rh vS _,ih (i+1) _ (by symm) l (W.frame _ g _ _ J (SM _ _) λb H o e=>?_) (by rw[a6,Fh];exact a5) (λj c=>?_) λa7 O Q=>?_⟩
   .rw[m.2 b (λh:b=D=>y (by rw[<-h];exact H))];exact e
   .obtain⟨⟨o,d,r⟩,h2⟩:=a j c;exact⟨⟨o,by rw[m.2 _ (B j c).1];exact d,r⟩,oH h2 λo d=>by rw[m.2 _ (q j c).1];exact d⟩
   .refine Y a7 (Moved.trans W.gtrans ((p.mono n).then_heap (SM _ _) λb o H e=>?_) O) Q;rw[m.2 b (λh:b=D=>H (by rw[h];exact Lz))];exact e
def Fm(hh:A.handled=none)(hu:(TK prog w).room A.in1.in1)(hl:PlainL s.heap l items)(Y:Nat->Addr)(I:items.size=ws.length)(hz:ws.length<=sizeLine)
 (q:∀j (hj:j<ws.length),items[j]?=some (.ref (Y j))/\s.heap.IsTuple (Y j) #[.ref ws[j].2.1,ws[j].2.2]/\(TK prog w).is s.heap ws[j].1 ws[j].2.1)
 (h:∀J tk,J.DictOfH (TK prog w) s.heap.objs.size (foldH ws)->(∀b o,s.heap.get? b=some o->J.get? b=some o)->Q (.ref s.heap.objs.size) { s with heap:=J,toks:=tk }) :
 wpAny (model prog w) A (call (.type "dict") [.ref l]) Q E s:=by
 refine callType_codes (Q₁:=λobj y=>obj=.ref _/\y={ s with heap:=s.heap.push { cls:=.type "dict",data:=.dict #[] } }) Tb (RB _) Sx (kt_code_dict_new _ ⟨rfl,rfl⟩) ?_;rintro obj y ⟨rfl,rfl⟩;have c:(s.heap.push { cls:=.type "dict",data:=.dict #[] }).DictOfH (TK prog w) _ []:=⟨_,#[],0,Lq _ rfl,⟨rfl,rfl,rfl⟩,rfl,rfl,λx L=>(nomatch L),OK⟩;obtain⟨ol,n,N,D,a1,g⟩:=id hl;have m:(s.heap.push { cls:=.type "dict",data:=.dict #[] }).get? l=some _:=L3 _ N;have hT:Pk { s with heap:=s.heap.push { cls:=.type "dict",data:=.dict #[] } } (.ref l) "list":=⟨_,m,D⟩;refine⟨c.typeIs,Sb _ _,?_⟩;refine L0 ?_;refine L0 (Oo c.typeIs ?_);refine Lk ?_;show wpAny _ _ (Sy "dict.__init__" _ _ [] .none) _ _ _;refine L0 (RI hT ?_);refine L0 (Ez m D g a1 fc rfl (by simpa using hh) λH c1 e1 ne=>?_);refine L0 (Ph ?_);have O:H.IsList l items:=⟨_,ne.keeps _ _ m,D,n,g⟩;refine L0 (Ow O ?_);have a:s.heap.objs.size<H.objs.size:=by
  obtain⟨o,_,_,p,_⟩:=c;exact Lr (ne.keeps _ _ p)
 have G:H.DictOfH (TK prog w) s.heap.objs.size (foldH (ws.take 0)):=by
  exact c9 c (λo p=>ne.keeps _ _ p) λx L=>nomatch L
 have T:=Lr N;have U:=Ly (RJ T a);have WW:=(UZ.list (prog:=prog) (w:=w) (A:=A.in1.in1) (by simpa using hh) _ l U items).toS;rw[I]at WW;have a2:s.heap.objs.size∉[H.objs.size,l]:=by
  simp only[Lu,Mz,or_false,not_or];exact⟨Ly a,Nx T⟩
 have B:∀i,i<ws.length->Y i<s.heap.objs.size:=by
  intro i d;obtain⟨_,⟨o,p,_⟩,_⟩:=q i d;exact Lr p
 have C:∀i (d:i<ws.length),ws[i].2.1<s.heap.objs.size:=by
  intro i d;obtain⟨_,_,ot,c2,n,H,h2⟩:=q i d;exact Lr H
 refine Lk ⟨Rh vS _,Fk WW a2 .none Y (λi v hv=>?_) (λi d=>⟨Ly (B i d),?_⟩) (λi d=>⟨Ly (C i d),?_⟩) hu hz ws.length 0 _ rfl (OG _)
  ⟨⟨_,Lq _ rfl,rfl,rfl⟩,O.push _⟩ ?_ (λj hj=>?_) λs' hm hD=>?_⟩
 .have d:i<ws.length:=by
   rcases Nat.lt_or_ge i _ with z | z
   .rw[<-I];exact z
   .rw[ON z]at hv;cases hv
  have:=(q i d).1;rw[hv]at this;exact Mf this
 .rw[Ls];exact Ly (RJ (B i d) a)
 .rw[Ls];exact Ly (RJ (C i d) a)
 .exact c9 G (λo p=>L3 _ p) λx L=>nomatch L
 .obtain⟨_,⟨o,p,r⟩,h2⟩:=q j hj;exact⟨⟨o,L3 _ (ne.keeps _ _ (L3 _ p)),r⟩,oH h2 λo p=>L3 _ (ne.keeps _ _ (L3 _ p))⟩
 .obtain⟨J,g',d',a4,a5⟩:=s';have eg:g'=s.gens:=hm.gens;have ed:d'=s.drawn:=hm.drawn;have eo:a5=s.os:=hm.os;subst eg;subst ed;subst eo;refine⟨rfl,h J a4 hD λb o e=>?_⟩;have hb:=Lr e;refine hm.heap b o ?_ (L3 _ (ne.keeps _ _ (L3 _ e)));simp only[Lu,Mz,or_false,not_or];exact⟨Ly hb,Ly (RJ hb a)⟩
abbrev TripT:=Addr×Addr×List Int×V
def oI(H:Hp)(t:TripT):Prop:=H t.1=some (.tup [.ref t.2.1,t.2.2.2])/\H t.2.1=some (.tup ((t.2.2.1.map MR).map L2.kV))
theorem vX:∀{l:List PV}{d:List V}{m:List (List Int×PV)},RVs j H l d->gy l=some m->∃a:List TripT,d=a.map (λt=>V.ref t.1)/\(∀t∈a,oI H t)/\m.map (·.1)=a.map (·.2.2.1)/\RVs j H (m.map (·.2)) (a.map (·.2.2.2))
 | [],d,m,r,h=>by
   cases r;cases h;exact⟨[],rfl,by simp,rfl,.nil⟩
 | x::l,d,m,r,h=>by
   cases r with
   | cons f n=>
     match x,f,h with
     | .tup [k,v],f,h=>
       rcases e:Q1 k with _ | i
       .simp[gy,e]at h
       rcases g:gy l with _ | C
       .simp[gy,e,g]at h
       .simp only[gy,e,g,Rv,Option.bind_some,Option.some.injEq]at h;subst h;obtain⟨a,o,p,q,s⟩:=vX n g;cases f with
        | tup u c=>
          cases c with
          | cons w c=>
            obtain⟨b,rfl,y⟩:=W5 e w;cases c with
            | cons A c=>
              cases c;refine⟨(_,b,i,_)::a,by rw[o];rfl,λt B=>?_,by simp[q],.cons A s⟩;rcases Lu.mp B with z | z
              .subst z;exact⟨u,y⟩
              .exact p t z
noncomputable def t4(b:List TripT)(a:List (List Key×V)):List (List Key×V):=b.foldl (λa t=>R6 a (t.2.2.1.map MR) t.2.2.2) a
theorem vY:∀(m:List (List Int×PV))(a:List TripT)(b:List (List Int×PV))(c:List (List Key×V)),m.map (·.1)=a.map (·.2.2.1)->RVs d H (m.map (·.2)) (a.map (·.2.2.2))->PT2 d H b c->PT2 d H (m.foldl (λf p=>V6 f p.1 p.2) b) (t4 a c)
 | [],[],b,c,_,_,h=>h
 | [],_::_,_,_,e,_,_=>by simp at e
 | _::_,[],_,_,e,_,_=>by simp at e
 | p::m,t::a,b,c,e,r,h=>by
   simp only[LX,Qf]at e;cases r with
   | cons g i=>
     show PT2 d H (m.foldl _ (V6 b p.1 p.2)) (t4 a (R6 c (t.2.2.1.map MR) t.2.2.2));rw[<-e.1];exact vY m a _ _ e.2 i (PT2.put g p.1 h)
def vZ(s:Ln)(t:TripT)(q:List Key×Addr×Ll):Prop:=q.1=t.2.2.1.map MR/\q.2.1=t.2.1/\L2.RelV t.2.2.2 q.2.2/\s.heap.IsTuple t.1 #[.ref q.2.1,q.2.2]
theorem wa(I:L2.Inv X pins σ H s):∀(a:List TripT),(∀t∈a,oI H t)->∃b:List (List Key×Addr×Ll),b.length=a.length/\∀j (c:j<b.length) (d:j<a.length),vZ s a[j] b[j]
 | [],_=>⟨[],rfl,λj c=>absurd c (by simp)⟩
 | t::a,h=>by
   obtain⟨b,e,f⟩:=wa I a λx g=>h x (LC _ g);obtain⟨_,i,l,m⟩:=I.hok _ _ (h t Lz).1;obtain⟨n,o,rfl,p,q⟩:=pH l;cases(show n=LJ t.2.1 from p);refine⟨(t.2.2.1.map MR,t.2.1,o)::b,by simp[e],λj c d=>?_⟩;cases j with
   | zero=>exact⟨rfl,rfl,q,m⟩
   | succ j=>exact f j (by simpa using c) (by simpa using d)
theorem wc:∀(a:List TripT)(ws:List (List Key×Addr×Ll))(b:List (List Key×V))(c:List (List Key×Addr×Ll)),ws.length=a.length->(∀j (f:j<ws.length) (g:j<a.length),vZ s a[j] ws[j])->(∀t∈a,oI H t)->KT H b c->KT H (t4 a b) (ws.foldl (λd p=>storedH d p.1 p.2.1 p.2.2) c)
 | [],[],b,c,_,_,_,h=>h
 | [],_::_,_,_,e,_,_,_=>by simp at e
 | _::_,[],_,_,e,_,_,_=>by simp at e
 | t::a,q::ws,b,c,e,i,l,h=>by
   have r:=i 0 (by simp) (by simp);obtain⟨m,n,o,_⟩:=r;simp only[List.getElem_cons_zero]at m n o;show KT H (t4 a (R6 b (t.2.2.1.map MR) t.2.2.2)) (ws.foldl _ (storedH c q.1 q.2.1 q.2.2));refine wc a ws _ _ (by simpa using e) (λj f g=>by have:=i (j+1) (by simpa using f) (by simpa using g);simpa using this) (λx u=>l x (LC _ u)) ?_;rw[m,n];exact h.put _ (l t Lz).2 o
def Fn(B:X.calm=true)(hu:X.A.units+64<cLine)(he:Pe X cm e d)(hg:Gl X "dict")(hm:X.mg "dict" = none)
 (hs:autoParam (starEach [e] X.env=(false,eval e X.env)::starEach [] X.env) au2._auto_1) :
 Pe X cm (.Call (.Name "dict" p) [e] [] q) (nF d):=by
 intro pins s σ H Q I h;obtain⟨ρ,A,N,v,A',rl,rs,ev,k⟩:=h;obtain⟨x,A1,e1,G⟩:=B0 ev;refine UW (S8 I hg hm (show bootBuiltins "dict" = some _ from by rfl) (callWith_type1 (c8 hs ?_) hs rfl));refine aI (he pins s σ H (λv w=>∃(a:Addr)(f:List TripT),v=.ref a/\bx X.K w a (f.map λt=>V.ref t.1)/\(∀t∈f,oI w t)/\f.length<=sizeLine/\∀l,w l=none->Q (.ref l) (aB w l (.dT (t4 f [])))) I ⟨ρ,A,N,x,A1,rl,rs,e1,λO w v1 x1 C T=>?_⟩) λu s1 zq=>?_
 .cases x with
  | ref n=>
    obtain⟨l,A2,U,i⟩:=B0 G;obtain⟨rfl,hA,a,xs,rfl,hn,hH,r0⟩:=K4 C T U;cases Y:gy l with
    | none=>rw[Y]at i;cases i
    | some m=>
      rw[Y]at i;obtain⟨c,a0⟩:=B9 i;cases a0;obtain⟨f,f1,f2,f3,f4⟩:=vX r0 Y;have hl:f.length=m.length:=by
       have:=congrArg List.length f3;simpa using this.symm
      refine⟨a,f,rfl,by rw[<-f1];exact bx.of hH,f2,by rw[hl];exact RH (lM c),λD hD=>?_⟩;have ex:ax O w _ (aB w D (.dT (t4 f []))):=ax.new hD;refine k _ _ _ (x1.trans ex) (C.alloc hD ⟨_,C2,?_⟩ rfl) (.ref (by rw[<-C.len];simp));exact vY m f [] [] f3 (f4.mono ex) ⟨rfl,.nil⟩
  | _=>cases G
 .obtain⟨w1,w,y,r1,a,f,ew,hq,E,hz,qq⟩:=zq;subst ew;obtain rfl:u=LJ a:=r1;obtain⟨a1,ri,pl,_⟩:=y.list hq;obtain⟨ws,g,w2⟩:=wa y f E;have J:a1.length=f.length:=by rw[<-ri.length];simp
  refine Fm (y.ok.hd B) (NX (N2 X.A 1 (by symm))) pl (λj=>(f.getD j (0,0,[],.non)).1) (by rw[LF,J,g]) (by rw[g];exact hz) (λj hj=>?_) λh' tk dd hk=>?_
  .have r:j<f.length:=by rw[<-g];exact hj
   have e0:f.getD j (0,0,[],.non)=f[j]:=by simp[r]
   rw[e0];obtain⟨g1,g2,g3,g4⟩:=w2 j hj r;refine⟨?_,g4,?_⟩
   .obtain⟨u,hu,ru⟩:=ri.get (by rw[LL,LB r];rfl);cases(show u=LJ f[j].1 from ru);simpa using hu
   .rw[g1,g2];exact f7 y.hok (E _ (Oa r)).2
  .have L:=wc f ws [] [] g w2 E .nil;have a2:(t4 f []).length<=sizeLine:=by
    rw[Paired.length L];exact LW (vV ws) (by rw[g];exact hz)
   obtain⟨qo,es,ep,a3,h2,h3,h4,_,h5⟩:=dd;refine⟨.ref _,_,y.laid (o:=.dT _) (λb o U=>hk b o U) (Lp _) ⟨a2,beq_eq_false_iff_ne.mpr (Na (Ly y.big)),_,KT.keeps L (λc ys ec=>?_),qo,es,ep,a3,h2,h3,h4,h5⟩,rfl,qq _ (y.hok.fresh (Lp _))⟩;rw[aj (λz=>by rw[z,y.hok.fresh (Lp _)]at ec;cases ec)];exact ec
end Ws
namespace Ws
open PySem PySem.W PyProof.Rows PySem.Calls L2
def Fo:entryFor table "proto.unchain" = some MK.«proto.unchain»:=entryFor_of_fast (by kernel_rfl)
def Fp{e:Type}{Q:e->Ln->Prop}(i:A.handled=some (.ref b))(j:s.heap.get? b=some f)(l:f.data=.fields vs)(m:vs[2]?=some .none)
 (he:s.heap.get? a=some g) (c:g.data=.fields ws) (n:2<ws.size) (d:b≠a)
 (o:E (.ref a) { s with heap:=s.heap.update a (Nu (·.setIfInBounds 2 (.ref b))) }):wpAny (model prog w) A (raiseNew (.ref a):Sem e) Q E s:=by
 refine L0 (Rc ?_);rw[i];have p:(LJ b != LJ a)=true:=by simp[d]
 dsimp only;rw[if_pos p];refine L0 (Mh (TR (Oj Fo ?_)));refine L0 (Mx j l m ?_);refine Lk ?_;refine L0 ?_;refine L0 (wpAny_load he ?_);rw[c];dsimp only;rw[if_pos n];exact wpAny_update he (Su o)
def Fq(G:A.handled=some (.ref g))(f:s.heap.get? g=some v)(h:v.data=.fields vs)(H:vs[2]?=some .none)(j:g≠d)
 (c:s.heap.IsTupleIter d t i) (I:s.heap.IsTuple t items) (J:items[i]?=none)
 (L:∀y,Qu d s.heap y->Q none { s with heap:=y }):wpAny (model prog w) A (pyNext (.ref d)) Q E s:=by
 obtain⟨o,l,N,n⟩:=id c;obtain⟨O,p,_,T,hdl⟩:=I;refine L0 (NS (Mj c.typeIs Nk
  (Mc Nk c.typeIs OW ?_ (OS _))))
 show wpAny _ _ (field _ 0>>=_) _ _ s;refine L0 (Mx l n (x:=.ref t) rfl ?_);refine L0 (Mx l n rfl ?_);refine L0 (NR p hdl ?_);simp only[NL,J];refine L0 (Ph (L0 (Nz l n (by simp) ?_)));refine L0 ?_;refine L0 (m:=firstArgMember _ _) (Rq (a:=MZ) rfl ?_);refine MN ?_ (by size_fits);have q:=Lr f;have B:∀(b:Addr)(u:Obj),b≠d->s.heap.get? b=some u->(s.heap.update d (Nu λx=>x.setIfInBounds 0 MZ)).get? b=some u:=λb u r e=>(ML _ _ (Na r)).trans e;refine Fp (by first | exact G | rfl) (L3 _ (L3 _ (B _ _ j f))) h H (Lq _ rfl) rfl (by simp;symm) ?_ ?_
 .rw[ME,PM];exact Ly (Ni q)
 .refine L0 (NF ⟨_,Mn _ (Lq _ rfl) (Ng (Mr rfl _)),(Oz ..).trans rfl⟩ QA ?_);refine Lk (L _ λb u r e=>?_);have C:=L3 { cls:=Ll.type "tuple",data:=Data.seq ([]).toArray } (B b u r e);rw[ML _ _ ?_]
  .exact L3 _ C
  .exact(Ly (Lr C)).symm
def Fs(z:A.handled=some (.ref p))(h:s.heap.get? p=some q)(r:q.data=.fields vs)(B:vs[2]?=some .none)(i:s.heap.IsTuple t items)
 (C:∀u,Qu s.heap.objs.size s.heap u->Q items.toList { s with heap:=u }):wpAny (model prog w) A (unpackItems (.ref t) items.size none) Q E s:=by
 have j:t≠s.heap.objs.size:=by obtain⟨o,D,_⟩:=i;exact Ly (Lr D)
 have l:=Ly (Lr h);refine L0 ?_
 .unfold notIterableAtAll;refine L0 (Qb i.typeIs F.slot_tuple_iter.lookup ?_);refine Lk ?_;refine L0 (Mh (OP i ?_));refine L0 (Mh (wpAny_draw_tuple j _ 0 _ _ ⟨_,Lq _ rfl,rfl,rfl⟩ (i.push _) (by simp) λx c a=>?_));have m:List.take items.size (List.drop 0 items.toList)=items.toList:=by
   exact NI (by simp)
  rw[m];rw[if_neg (by simp)];have d:=(i.push _).extBut a.extBut j;have f:=a.extBut p q l (L3 _ h);refine L0 (Mh (Fq z f r B l c d (by simp) λn g=>?_));refine Lk (C n λb o y e=>g b o y (a.extBut b o y (L3 _ e)))
inductive rf (K:Lm) (cm:Nat->Addr) (a:Addr) (s:SD) (D:u9) (σ:L2.St) (H:Hp):Prop
 | mk (ρ:List Addr) (A:PHp) (σp:PSt) (f:Fl) (A':PHp) (n c:Nat) (v:PV) (h0:aL K cm ρ A H) (h1:bR ρ H σp σ) (h2:s σp A=.ok f A') (h3:(∀ρ' H',ax ρ H ρ' H'->aL K cm ρ' A' H'->nI D ρ' H' f)) (h4:ρ[n]?=some a) (h5:A[n]?=some (.exc c v)):rf K cm a s D σ H
def oJ(b:AD):Prop:=∀c A d a,b c A=.ok d a->a=A
def V2(d:ED):Prop:=∀b A v a,d b A=.ok v a->a=A
def kf:oJ aNil:=λ_ _ _ _ h=>by cases h;rfl
def dy(b:V2 d)(c:oJ a):oJ (ag d a):=λg A i j h=>by
 obtain⟨x,l,e,h⟩:=B0 h;obtain⟨m,n,f,h⟩:=B0 h;cases h;rw[c _ _ _ _ f,b _ _ _ _ e]
def rg:V2 (eK v):=λ_ _ _ _ h=>by cases h;rfl
def eh:V2 (ae i):=λc A v d h=>by
 have a:(match c[i]? with | some (some v)=>ret v | _=>stuck) A=R.ok v d:=h;rcases b:c[i]? with _ | _ | x
 .rw[b]at a;cases a
 .rw[b]at a;cases a
 .rw[b]at a;cases a;rfl
def wd(h:iE n es A=.ok p A'):A'=A:=by
 unfold iE at h;split at h
 .obtain⟨_,h⟩:=B9 h;cases h;rfl
 .cases h
def my(a:V2 d):V2 (iF es d):=λe A v f h=>by
 obtain⟨x,g,b,h⟩:=B0 h;cases x with
 | ref n=>
   obtain⟨p,i,c,h⟩:=B0 h;cases h;rw[wd c,a _ _ _ _ b]
 | _=>cases h
def gh(a:V2 d):V2 (eQ es d k):=λe A v f h=>by
 obtain⟨x,g,b,h⟩:=B0 h;cases x with
 | ref n=>
   obtain⟨p,i,c,h⟩:=B0 h;cases h;rw[wd c,a _ _ _ _ b]
 | _=>cases h
def we(h:kG x A=.ok c A'):A'=A:=by
 cases x with
 | bl b=>cases h;rfl
 | _=>cases h
def kh(b:V2 d):V2 (de d):=λe A v f h=>by
 obtain⟨x,g,a,h⟩:=B0 h;cases h;obtain⟨y,i,c,a⟩:=B0 a;rw[we a,b _ _ _ _ c]
def ki(b:V2 d)(c:V2 e):V2 (Y9 d e):=λi A v j h=>by
 obtain⟨x,f,a,h⟩:=B0 h;obtain⟨y,l,g,a⟩:=B0 a;have q:f=A:=by rw[we a,b _ _ _ _ g]
 cases x with
 | true=>rw[c _ _ _ _ h,q]
 | false=>cases h;exact q
def Ft{kt k2 q}(hA:X.A.handled=some (.ref a))(hN:X.N.Nodup)(hi:X.N[i]?=some x)(hj:X.N[j]?=some y)(hk:X.N[k]?=some z)(r:i≠j/\i≠k/\j≠k)
 (hx:X.env.scope.names.lookup x=some .local) (hy:X.env.scope.names.lookup y=some .local) (hz:X.env.scope.names.lookup z=some .local) (a5:oJ U) (ha:Pa X cm [L,O,B] U)
 (hw:autoParam (swappedStores [.Tuple [.Name x Y,.Name y py,.Name z pz] kt pt] (.Tuple [L,O,B] k2 q) X.env=pure (some [x,y,z])) au0._auto_1)
 (hs:autoParam (swapsWithSole [.Tuple [.Name x Y,.Name y py,.Name z pz] kt pt] (.Tuple [L,O,B] k2 q) C.line X.env=pure false) au0._auto_1) :
 bZ X [.Assign [.Tuple [.Name x Y,.Name y py,.Name z pz] kt pt] (.Tuple [L,O,B] k2 q) C] (rf X.K cm a (aD (aX U) (gTup 3 (gCons (gName i) (gCons (gName j) (gCons (gName k) gNil)))))):=by
 refine mS ?_;intro p s Q H D I ⟨ρ,A,a6,f,A',n,c,v,rl,rs,E,kk,hn,a7⟩;obtain⟨tv,A1,G,E⟩:=B0 E;obtain⟨vs,A2,q2,G⟩:=B0 G;obtain⟨e0,G⟩:=B9 G;cases G;obtain⟨h5,A3,q3,E⟩:=B0 E;cases E;obtain⟨T,q3⟩:=B9 q3;rcases vs with _ | ⟨w1,_ | ⟨w2,_ | ⟨w3,_ | ⟨w4,vs⟩⟩⟩⟩
 .cases T
 .cases T
 .cases T
 rotate_left
 .simp at T
 cases q3;have a9:=a5 _ _ _ _ q2;refine L0 (Rb ?_);refine L0 (Lk ?_);refine L0 (Tuple_ (aI (ha _ p s Q H (λu l=>∃g,ax ρ H g l/\aL X.K cm g A' l/\RVs g l [w1,w2,w3] u) I ⟨ρ,A,a6,_,_,rl,rs,q2,λg l u J m h=>⟨g,J,m,h⟩⟩) λus s1 hh=>?_));obtain⟨u,l,I1,r1,g,J,m,h⟩:=hh;rcases h with _ | ⟨h,_ | ⟨b2,_ | ⟨b3,b5⟩⟩⟩;cases b5;rcases r1 with _ | ⟨r1,_ | ⟨r2,_ | ⟨r3,r4⟩⟩⟩;cases r4;rename_i v1 v2 v3 u1 u2 u3;refine MN ?_ (by show 3<=sizeLine;decide);have I2:L2.Inv X p Q l { s1 with heap:=s1.heap.push { cls:=.type "tuple",data:=.seq [u1,u2,u3].toArray } }:=I1.kept λb o e=>L3 _ e;obtain⟨oh,d,v',g1,g2,g3,⟨ws,g4,g5⟩,g6⟩:=(show RO X.K cm g l a _ from m.obj n _ _ (by rw[a9];exact a7) (by obtain⟨t,ht⟩:=J.pre;rw[<-ht,LG (LA.mp hn).1];exact hn));obtain⟨g7,_⟩:=(show aF _ X.w l _ a _ from I2.hok a _ g1);rw[hw];refine L0 (Lk ?_);refine L0 (Ph (L0 (Fs (items:=#[u1,u2,u3]) hA g7 g4 g5 (UY.new _ _) λh' c0=>?_)));have I3:=I2.kept (t':=s1.toks) λb o e=>c0 b o (Ly (Lr e)) e;refine L0 (PZ (Ua (W2 I3 hN hk (.inl hz) r3 (λs2 I4=>?_) (.inr hz))));refine PZ (Ua (W2 I4 hN hj (.inl hy) r2 (λs3 I5=>?_) (.inr hy)));refine PZ (Ua (W2 I5 hN hi (.inl hx) r1 (λs4 I6=>assignInOrder_nil (Lk ?_)) (.inr hx)));have B:((Q.set k (some v3)).set j (some v2)).set i (some v1)=((Q.set i (some v1)).set j (some v2)).set k (some v3):=by
  rw[Uq _ _ r.2.2.symm,Uq _ _ r.2.1.symm,Uq _ _ r.1.symm]
 rw[B]at I6;exact⟨_,l,I6,kk g l J m _ ((((rs.mono J).set i h).set j b2).set k b3)⟩
def bA0(Er:mw X.K cm es)(hk:k∈es)(hg:Gl X x)(hm:X.mg x=some (.ref (cm k)))
 (hN:X.N.Nodup) (hi:X.N[i]?=some n) (hl:X.env.scope.names.lookup n=some .local)
 (j:∀a,bZ (mv X a) (B::C) (rf X.K cm a b)) (hr:PH X cm es hs ph) (a9:autoParam ((x == ("__debug__" : Str))=false) au1._auto_1) :
 PH X cm es (.ExceptHandler (some (.Name x np)) (some n) (B::C) O::hs) ((k,some i,b)::ph):=by
 intro g s σ H D E a c v' Q A b0 v f A' I T hc rl rs rv U kk;obtain⟨fI,xk⟩:=Er.xk c hc;obtain⟨i2,b3⟩:=Er.xk k hk;obtain⟨d,tb,f1,f2,f3⟩:=id T;obtain⟨Y,vs,y1,y2,y3,y4,y5,y6⟩:=ow I f1;refine wpAny_handleBy_cons (codeAny_handlers_test (v7 (vD I a) hg hm ?_ a9)) (by intro q;cases q);refine DP I.kIn xk b3 y1 y2 ?_;rw[Er.sub c hc k hk];unfold V1 at U;cases a1:cf c k with
 | true=>
   rw[a1,if_pos rfl]at U;refine codeAny_handlers_suite_as ?_;refine qT I.hok T λh' H' u ok c0 a2=>?_;have I2:=I.un (t':=s.toks) (u.mono (λ_ z=>nomatch z) λ_ z=>z) ok;obtain⟨x0,A1,e1,c1⟩:=B0 U;cases e1;obtain⟨f0,A2,e2,c2⟩:=B0 c1;cases c2;obtain⟨d,tb,J,g2,g3⟩:=id c0;obtain⟨Y,vs,y1,y2,y3,y4,y5,y6⟩:=ow I2 J;obtain⟨u1,u2⟩:=oz (fs:=[]) (H':=aB H' a (.frz Y (.own a))) [a] ok (λb j=>by rw[Ls.mp j];exact⟨_,J⟩) (λ_ z=>nomatch z) (λb o _ _ q=>q) (λ_ _ z=>nomatch z) (λb j=>by rw[Ls.mp j];exact⟨_,y1⟩)
    (λb u j q=>by rw[aj (λz=>j (by simp[z]))];exact q) (λb _ q=>by rw[aj (λz=>by rw[z,J]at q;cases q)];exact q)
    (λb u j q=>by
     by_cases y:b=a
     .rw[y,C2]at q;cases q;rw[y];exact⟨y1,Y,y1⟩
     .rw[aj y]at q;rcases j with j | j
      .exact absurd (Ls.mp j) y
      .rw[ok.fresh j]at q;cases q)
   have I3:=I2.un (t':=s.toks) (u1.mono (λ_ z=>nomatch z) λ_ z=>z) u2;have a3:cn H (aB H' a (.frz Y (.own a))):=a2.trans (vE J);have x2:ax Q H (Q++[a]) _:=(a3.ext).trans ⟨Lw _ _,λ_ _ h=>h,λ_ _ h=>h⟩;have d0:aL X.K cm _ (A++[.exc c v]) _:=DU (rl.calm a2) J ⟨Y,d,v',C2,y2,y3,⟨vs,y4,y6⟩,by rw[aj (λz=>by rw[z,J]at g2;cases g2)];exact g2,rv.mono x2⟩;have a4:(Q++[a])[A.length]?=some a:=by rw[<-rl.len];simp
   have d1:=(rs.mono x2).set i (.ref a4);refine W2 (X:=mv X a) (vD I3 a) hN hi (.inl hl) (v:=.ref a) rfl (λs4 I4=>?_) (.inr hl);refine Mp (j a g s4 _ _ { nx:=λe H'=>D.nx (e.set i none) H',rt:=D.rt,bk:=λe H'=>D.bk (e.set i none) H',ct:=λe H'=>D.ct (e.set i none) H' } I4 ⟨Q++[a],A++[.exc c v],_,f0,A',_,c,v,d0,d1,e2,λd2 H1 x1 e0=>?_,a4,by simp⟩) (λT s5 q=>?_) λ_ _ z=>Mb z
   .have k1:=kk d2 H1 (x2.trans x1) e0;cases f0 with
    | nx a5=>exact λe l=>k1 _ (qV l i)
    | bk a5=>exact λe l=>k1 _ (qV l i)
    | ct a5=>exact λe l=>k1 _ (qV l i)
    | rt u=>exact k1
   .have hp:(X.env.scope.kind == .class||(X.env.scope.kind == .module&&X.env.locals != X.env.globals))=false:=by rw[I.ok.kind];rfl
    have fin:∀{e:L2.St}{p:Hp}{P:Prop}{Q':Unit->Ln->Prop},L2.Inv (mv X a) g e p s5->(∀L,L2.Inv X g _ p L->Q' () L)->wpAny (model X.prog X.w) X.A (do bindName _ n .none;unbindBehindTheSuite _ n O) Q' E s5:=λ{e p P Q'} r hQ=>by
     obtain⟨m,hn,e4⟩:=r.loc;refine wpAny_nameGoes_keeps hl hn hp λh6 v6 e5 e6=>hQ _ ?_;exact DR (DQ I.ok r) hN hi e4 e5 e6
    cases T with
    | next=>
      obtain⟨e,p,r,q⟩:=q;exact fin (P:=True) r λL G=>⟨_,p,G,q⟩
    | brk=>
      obtain⟨e,p,r,q⟩:=q;exact fin (P:=True) r λL G=>⟨_,p,G,q⟩
    | cont=>
      obtain⟨e,p,r,q⟩:=q;exact fin (P:=True) r λL G=>⟨_,p,G,q⟩
    | ret u=>
      obtain⟨v5,e,p,r,r5,q⟩:=q;exact fin (P:=True) r λL G=>⟨v5,_,p,G,r5,q⟩
 | false=>
   rw[a1]at U;exact hr g s σ H D E a c v' Q A b0 v f A' I T hc rl rs rv U kk
end Ws
namespace Ws
open PySem PySem.W PyProof.Rows PySem.Spec PySem.Calls L2
def Fu(h:0<=x/\x<=5):hashInt x=x:=by
 have:x=0\/x=1\/x=2\/x=3\/x=4\/x=5:=by symm
 rcases this with rfl | rfl | rfl | rfl | rfl | rfl<;>decide +kernel
noncomputable def kT(led:Bool)(M:List Int)(x:Int):Bool:=
 match (I9 led M).freeSlot x with
 | some (slot,false)=>
   ((I9 led M).put slot).2 == r8 M x&&((I9 led M).put slot).1.fits (M.length+1)&&((I9 led M).put slot).1.plain&&
     (if((I9 led M).put slot).1.tooFull then(match ((I9 led M).put slot).1.relaid (eR M x).toArray (TV (M.length+1))with
      | some (a,order)=>M.length == 4&&decide (order=#[0,1,2,3,4])&&a.fits 5&&decide (a=I9 led (eR M x))
      | none=>false)
     else decide (((I9 led M).put slot).1=I9 led (eR M x)))
 | _=>false
def Fv:sixes.all (λM=>([0,1,2,3,4,5]:List Int).all λx=>decide (x∈M)||(kT true M x&&kT false M x&&decide (eR M x∈sixes)))=true:=by decide +kernel
def Fw(h:0<=x/\x<=5):x∈([0,1,2,3,4,5]:List Int):=by
 simp;symm
def wg{M:List Int}(b:M∈sixes)(c:0<=x/\x<=5)(a:x∉M):(kT true M x=true/\kT false M x=true)/\eR M x∈sixes:=by
 have:=LV.mp (LV.mp Fv M b) x (Fw c);simp only[a,decide_false,So,LH,decide_eq_true_eq]at this;exact this
def Fx{M:List Int}(b:M∈sixes)(c:0<=x/\x<=5)(a:x∉M)(led:Bool):kT led M x=true:=by
 have:=(wg b c a).1;cases led
 .exact this.2
 .exact this.1
def Fy{M:List Int}:r8 M x<=M.length:=by
 exact(List.takeWhile_prefix _).length_le
def rh{a:Type}{es:Array a}{y:a}(h:p<=es.size):(Mt es p y).size=es.size+1:=by
 unfold Mt;simp;symm
theorem rm:∀{vs:List Ll}{ns:List Int}{a:List Ll}{b:List Int},Ol vs ns->Ol a b->Ol (vs++a) (ns++b)
 | _,_,_,_,.nil,h=>h
 | _,_,_,_,.cons n t h,c=>.cons n t (rm h c)
theorem wh:∀{vs:List Ll}{ns:List Int}(k:Nat),Ol vs ns->Ol (vs.take k) (ns.take k)
 | _,_,0,_=>.nil
 | _,_,k+1,.nil=>.nil
 | _,_,k+1,.cons n t h=>.cons n t (wh k h)
theorem wj:∀{vs:List Ll}{ns:List Int}(k:Nat),Ol vs ns->Ol (vs.drop k) (ns.drop k)
 | _,_,0,h=>h
 | _,_,k+1,.nil=>.nil
 | _,_,k+1,.cons n t h=>wj k h
def wm(M:List Int)(x:Int):eR M x=M.take (r8 M x)++([x]++M.drop (r8 M x)):=by
 unfold eR r8;have e:=List.takeWhile_append_dropWhile (p:=λy:Int=>decide (y<x)) (l:=M);generalize M.takeWhile _=T at e ⊢;generalize M.dropWhile _=D at e ⊢;subst e;simp
def wo{a:Type}{es:Array a}{y:a}:(Mt es p y).toList=es.toList.take p++([y]++es.toList.drop p):=by
 unfold Mt;simp;exact NI (by simp)
def bD.ins{es:Array (Int×Ll)}{M:List Int}(h:bD es M)(x:Int)(t:Nat):bD (Mt es (r8 M x) (x,.int x t)) (eR M x):=by
 refine⟨?_,?_⟩
 .rw[wo,wm,LZ,LZ,Ur,Qm,h.hs];rfl
 .rw[wo,wm,LZ,LZ,Ur,Qm];exact rm (wh _ h.vs) (rm (.cons x t .nil) (wj _ h.vs))
def FA{M:List Int}(z:M∈sixes)(n:0<=x/\x<=5)(o:x∉M)
 (v:s.heap.get? a=some (V8 es ep (I9 led M))) (he:bD es M)
 (h:∀p B C,MA a s.heap C->C.get? a=some (V8 p B (I9 led (eR M x)))->bD p (eR M x)->Q true { s with heap:=C }) :
 wpAny (model prog w) A (setAddHashed a (.int x tok) ((intKind prog w).hash x)) Q E s:=by
 obtain⟨hH,a2,a3⟩:=oF z;have D:(intKind prog w).hash x=x:=Fu n;have f:=he.size;have y:=qY z (Lp _) led;rw[MT]at y;have m:=Fx z n o led;have U:(I9 led M).fits es.size=true:=by
  unfold kS at y;simp only[LH]at y;rw[f];exact y.1.1.1.1
 have q:UT (intKind prog w) _:=he.elems λx hx=>hH x hx;have hb:es.size<scanBound:=by unfold scanBound;symm
 have r:es.toList.findIdx? (λe=>(intKind prog w).is x e.2)=none:=by
  rw[RP];intro e G;obtain⟨Y,t,H⟩:=he.ent G;cases hc:(intKind prog w).is x e.2 with
  | false=>rfl
  | true=>
    exfalso;rw[H]at hc;have u:x=e.1:=by
     have I:Sh x (.int e.1 t)=true:=hc;obtain⟨t',u⟩:=Ll.isInt_shape I;injection u with u;exact u.symm
    rw[<-u]at Y;exact o Y
 have j:r8 M x<=es.size:=by rw[f];exact Fy
 generalize J:I9 led M=t at *;unfold kT at m;rw[J]at m;split at m
 .rename_i slot L;simp only[LH,beq_iff_eq]at m;obtain⟨⟨⟨H,h3⟩,h4⟩,g⟩:=m;have hL:layNew t es x (.int x tok)=((Mt es (r8 M x) (x,.int x tok)),(t.put slot).1,false,false):=by
   have e0:layNew t es x (.int x tok)=(Mt es (t.put slot).2 (x,.int x tok),(t.put slot).1.orStandIn (Mt es (t.put slot).2 (x,.int x tok)).size,false,!(t.put slot).1.fits (Mt es (t.put slot).2 (x,.int x tok)).size):=by
    unfold layNew;rw[L]
   rw[e0,H,rh j,f];unfold Tx.orStandIn;rw[h3];rfl
  have c:=he.ins x tok;refine Mh (L0 (MH v rfl U ?_));dsimp only;rw[byScan_of rfl hb q];refine L0 ?_;refine L0 (Ph ?_);refine L0 (wpAny_setScan_of (Tz _ _ _ _) v rfl U q ?_);rw[r,D,hL];refine L0 (Lk ?_);rw[if_pos h4];refine L0 ?_;refine Lk ?_;simp only[show plainKind (OU x tok)=true from rfl,if_true];refine L0 (wpAny_storeSet_of v rfl ?_ (by rw[rh j,OF];symm));have l:=Mn (Obj.putSet (Mt es (r8 M x) (x,.int x tok)) (t.put slot).1) v rfl;have i:=Ms s.heap a (Obj.putSet (Mt es (r8 M x) (x,.int x tok)) (t.put slot).1);cases d:(t.put slot).1.tooFull with
  | false=>
    rw[d]at g;simp only[NY,if_false,decide_eq_true_eq]at g;refine Lk ?_;refine Lk ?_;refine h _ (ep+1) _ i ?_ c;rw[<-g];exact l
  | true=>
    rw[d]at g;simp only[if_true]at g;split at g
    .rename_i t2 order N;simp only[LH,beq_iff_eq,decide_eq_true_eq]at g;obtain⟨⟨⟨O,h7⟩,h8⟩,h9⟩:=g;have hm:(Mt es (r8 M x) (x,OU x tok)).map (·.1)=(eR M x).toArray:=by
      apply SN.mp;rw[Array.toList_map,c.hs]
     have b:(Mt es (r8 M x) (x,OU x tok)).size=M.length+1:=by rw[rh j,f]
     have hR:relayAll (t.put slot).1 (Mt es (r8 M x) (x,OU x tok)) (TV (Mt es (r8 M x) (x,OU x tok)).size)=((Mt es (r8 M x) (x,OU x tok)),t2,false):=by
      unfold relayAll;rw[hm,b,N];dsimp only;rw[h7,Eh (by rw[b,O])];rw[if_pos (by
       rw[LH];refine⟨?_,?_⟩
       .rw[O];decide +kernel
       .rw[b,O];exact h8)]
     rw[hR];refine L0 (Lk ?_);refine L0 (wpAny_storeSet_of l rfl ?_ (by rw[b,OF];symm));refine Lk ?_;refine Lk ?_;refine h _ (ep+1+1) _ (i.trans (Ms _ a _)) ?_ c;rw[<-h9];exact Mn _ l rfl
    .cases g
 .cases m
def FC{M:List Int}(j:M∈sixes)(o:0<=x/\x<=5)(b:x∈M)
 (l:s.heap.get? a=some (V8 es ep (I9 led M))) (he:bD es M) (h:Q false s) :
 wpAny (model prog w) A (setAddHashed a (.int x tok) ((intKind prog w).hash x)) Q E s:=by
 obtain⟨p,q,r⟩:=oF j;have g:=he.size;have f:=qY j (Lp _) led;rw[MT]at f;have m:(I9 led M).fits es.size=true:=by
  unfold kS at f;simp only[LH]at f;rw[g];exact f.1.1.1.1
 have c:UT (intKind prog w) _:=he.elems λx u=>p x u;have v:es.size<scanBound:=by unfold scanBound;symm
 obtain⟨i,y⟩:∃i,es.toList.findIdx? (λe=>(intKind prog w).is x e.2)=some i:=by
  cases n:es.toList.findIdx? _ with
  | some i=>exact⟨i,rfl⟩
  | none=>
    exfalso;rw[RP]at n;rw[<-he.hs]at b;obtain⟨e,d,rfl⟩:=Lv.mp b;obtain⟨B,t,z⟩:=he.ent d;have:=n e d;rw[z]at this;rw[Tz]at this;cases this
 refine Mh (L0 (MH l rfl m ?_));dsimp only;rw[byScan_of rfl v c];refine L0 ?_;refine L0 (Ph ?_);refine L0 (wpAny_setScan_of (Tz _ _ _ _) l rfl m c ?_);rw[y];refine Lk ?_;exact Lk h
def FD{M:List Int}(a:M∈sixes)(b:0<=x/\x<=5):iG M x∈sixes:=by
 unfold iG;by_cases h:x∈M
 .rw[if_pos h];exact a
 .rw[if_neg h];exact(wg a b h).2
def wq(h:∀x∈l,0<=x/\x<=5):setL l∈sixes:=by
 have b:∀(l:List Int)(M:List Int),M∈sixes->(∀x∈l,0<=x/\x<=5)->l.foldl iG M∈sixes:=by
  intro l;induction l with
  | nil=>intro M h _;exact h
  | cons a r ih=>intro M h c;exact ih _ (FD h (c a Lz)) λx d=>c x (LC _ d)
 exact b l [] (by decide) h
def FE(l:List Int)(x:Int):setL (l++[x])=iG (setL l) x:=by
 unfold setL;rw[List.foldl_append];rfl
def FF{R:Uy->Ln->Prop}{St:Nat->Ln->Prop}(hn:∀x∈ns,0<=x/\x<=5)
 (W:WalksS prog w A.in1 I fp Y G ns.length P St) (S:Addr) (J:S∉fp) (L:∀i v,P i v->∃t,v=.int (ns.getD i 0) t) :
 ∀(k i:Nat)(s:Ln)(es:Array (Int×Ll))(ep:Nat),ns.length - i=k->i<=ns.length->St i s->
  s.heap.get? S=some (V8 es ep (I9 led (setL (ns.take i))))->bD es (setL (ns.take i))->
  (∀q p u,Moved (S::Y) G s q->q.heap.get? S=some (V8 p u (I9 led (setL ns)))->bD p (setL ns)->R (.ok (.ret .none)) q)->
  codeAny (model prog w) A (.builtin "set.update.loop" ⟨[.ref S,.ref I],[]⟩) R s:=by
 have N:=λh=>J (W.sub _ h);have f:∀b∈Y,b∈S::Y:=λb y=>LC _ y;intro k;induction k with
 | zero=>
   intro i s es ep hk hi z hS D hR;have c:i=ns.length:=by symm
   subst c;rw[MT]at hS D;refine Oj Sz ?_;refine L0 (W.done s _ _ z λq H=>?_);exact Lk (hR q es ep (H.mono f) (H.heap S _ N hS) D)
 | succ k ih=>
   intro i s es ep hk hi z hS D hR;have d:i<ns.length:=by symm
   refine Oj Sz ?_;refine L0 (W.item i s _ _ d z λv q hP r H=>?_);obtain⟨t,rfl⟩:=L i v hP;have B:=H.heap S _ N hS;refine L0 (Mh ?_);refine L0 ((intKind prog w).pyHash (Tz _ _ _ _) ?_);have O:ns.getD i 0=ns[i]:=by simp[d]
   have Q:0<=ns.getD i 0/\ns.getD i 0<=5:=by rw[O];exact hn _ (Oa d)
   have T:setL (ns.take (i+1))=iG (setL (ns.take i)) (ns.getD i 0):=by
    rw[NA,LB d,O];exact FE _ _
   have hM:setL (ns.take i)∈sixes:=wq λx hx=>hn x (TF hx);by_cases c:ns.getD i 0∈setL (ns.take i)
   .refine FC hM Q c B D ?_;have a:setL (ns.take (i+1))=setL (ns.take i):=by rw[T];unfold iG;rw[if_pos c]
    refine Lk ⟨Rh SA _,ih (i+1) _ es ep (by symm) d (W.frame _ q _ _ r (NZ _) λb y o e=>e) (by rw[a];exact B) (by rw[a];exact D) λC g j l m n=>?_⟩;exact hR C g j (Moved.trans W.gtrans ((H.mono f).then_heap (NZ _) λb o y e=>e) l) m n
   .refine FA hM Q c B D λp u h' U a2 a3=>?_;have a:setL (ns.take (i+1))=eR (setL (ns.take i)) (ns.getD i 0):=by rw[T];unfold iG;rw[if_neg c]
    refine Lk ⟨Rh SA _,ih (i+1) _ p u (by symm) d (W.frame _ q _ _ r (NZ _) λb y o e=>?_) (by rw[a];exact a2) (by rw[a];exact a3) λC g j l m n=>?_⟩
    .rw[U.2 b (λh:b=S=>J (by rw[<-h];exact y))];exact e
    .refine hR C g j (Moved.trans W.gtrans ((H.mono f).then_heap (NZ _) λb o y e=>?_) l) m n;rw[U.2 b (λh:b=S=>y (by rw[h];exact Lz))];exact e
set_option maxHeartbeats 3200000 in
def FG(hn:∀x∈ns,0<=x/\x<=5)
 (hh:A.handled=none) (hl:s.heap.IsList l items) (hi:Ol items.toList ns)
 (h:∀(h':Heap)(N:Nat)(es:Array (Int×Ll))(ep:Nat),h'.get? s.heap.objs.size=some (V8 es ep (I9 (!w.params.followText "set-order") (setL ns)))->bD es (setL ns)->
  (∀b o,b<s.heap.objs.size->s.heap.get? b=some o->h'.get? b=some o)->Q (.ref s.heap.objs.size) { s with heap:=h',toks:=N }) :
 wpAny (model prog w) A (call (.type "set") [.ref l]) Q E s:=by
 have y:items.size=ns.length:=by have:=hi.length;rwa [Nw]at this
 obtain⟨c,tl,b2⟩:=Ml.mro;have T:=Ml.made;have b3:=Ml.sub;refine Pc (Rr ?_);show wpAny _ _ (callAny (.type "set") _) _ _ _;refine Lk ⟨Qk _ (by decide +kernel),Oj Sw ?_⟩;rw[Mq.under_plain (Ts "set" [.ref l] []) rfl];have h1:=Ml.notType;have h2:=Ml.canCreate;have e3:=SY (.ref l);repeat (any_goals (first | assumption | wp_step))
 generalize z:(!w.params.followText "set-order")=led at *;refine Oe (Ei (.ref l) (E:=E) (Q₁:=λobj g=>obj=.ref s.heap.objs.size/\g={ s with heap:=s.heap.push (V8 #[] 0 (.fresh 0 0 led)) }) (by rw[z];exact⟨rfl,rfl⟩)) λr g U=>?_;cases r with
 | error e=>exact U
 | ok fl=>
   cases fl with
   | ret obj=>
     obtain⟨rfl,rfl⟩:=U;have hS:(s.heap.push (V8 #[] 0 (.fresh 0 0 led))).get? s.heap.objs.size=some (V8 #[] 0 (.fresh 0 0 led)):=Lq _ rfl;have hT:Pk { s with heap:=s.heap.push (V8 #[] 0 (.fresh 0 0 led)) } (.ref s.heap.objs.size) "set":=⟨_,hS,rfl⟩;have e6:=Ml.init.lookup;have e7:=Ml.init.bind (.ref s.heap.objs.size);repeat (any_goals (first | assumption | wp_step))
     refine Oe (Pr (R:=wants (λr j=>r=.none/\∃h' N es ep,j={ s with heap:=h',toks:=N }/\
      h'.get? s.heap.objs.size=some (V8 es ep (I9 led (setL ns)))/\bD es (setL ns)/\
      (∀b o,b<s.heap.objs.size->s.heap.get? b=some o->h'.get? b=some o)) E) Ml.init.plain Ta (check_set_init_1 hT ?_)) λB j a=>?_
     .obtain⟨ol,C,D,nl,hdl⟩:=hl;obtain⟨c1,m,Y,f⟩:=ol;simp only at D hdl;subst D;subst hdl;have G:(s.heap.push (V8 #[] 0 (.fresh 0 0 led))).get? l=some { cls:=.type "list",dict:=m,data:=.seq items nl,slots:=f }:=L3 _ C;have c4:=PySem.F.sub_list_set;have d0:=PySem.F.sub_list_frozenset;have e9:(Ll.type "list" == Ll.type "dict")=false:=by decide
      have H:(s.heap.push (V8 #[] 0 (.fresh 0 0 led))).IsList l items:=⟨_,G,rfl,nl,rfl⟩;unfold MK.«set.__init__» noKeywords Rf;generalize a1:pyIter=PI
      wp_walk
      subst a1;refine Ow H ?_;refine L0 (TR ?_);have I:l<s.heap.objs.size:=Lr C;have a2:A.in1.in1.in1.handled=none:=by simp[hh]
      have J:l≠(s.heap.push (V8 #[] 0 (.fresh 0 0 led))).objs.size:=by
       rw[ME];exact Ly (Ni I)
      have a3:s.heap.objs.size∉[(s.heap.push (V8 #[] 0 (.fresh 0 0 led))).objs.size,l]:=by
       rw[ME];simp only[Lu,Ls,Mz,or_false,not_or];exact⟨Ly (Nh _),Nx I⟩
      have L:∀(i:Nat)(v:Ll),items[i]?=some v->∃t,v=.int (ns.getD i 0) t:=λi v hv=>
       TU hi i v (by rw[MP];exact hv)
      have WW:=(UZ.list (prog:=prog) (w:=w) a2 (s.heap.push (V8 #[] 0 (.fresh 0 0 led))).objs.size l J items).toS;rw[y]at WW;refine FF (led:=led) hn WW s.heap.objs.size
       a3 L (ns.length - 0) 0 _ #[] 0 (by symm) (OG _)
       ⟨⟨_,Lq _ rfl,rfl,rfl⟩,(H.push _)⟩ (L3 _ hS) ⟨rfl,.nil⟩ ?hR
      case hR=>
       intro s' a4 a5 O n p;obtain⟨h',g',d',a6,a7⟩:=s';have eg:g'=s.gens:=O.gens;have ed:d'=s.drawn:=O.drawn;have eo:a7=s.os:=O.os;subst eg;subst ed;subst eo;show wpAny _ _ _ _ _ _;refine Lk ?_;show wpAny _ _ (PySem.ret MZ) _ _ _;refine Lk ⟨rfl,h',a6,a4,a5,rfl,n,p,λb o hb e=>?_⟩;have a8:b≠s.heap.objs.size:=Ly hb;have a9:b≠(s.heap.push (V8 #[] 0 (.fresh 0 0 led))).objs.size:=by
        rw[ME];exact Ly (Ni hb)
       exact O.heap b o (by simp only[Lu,Ls,Mz,or_false,not_or];exact⟨a8,a9⟩) (L3 _ (L3 _ e))
     .cases B with
      | error e=>exact a
      | ok q=>
        cases q with
        | ret r=>
          obtain⟨rfl,h',N,es,ep,rfl,n,p,b0⟩:=a;repeat (any_goals (first | assumption | wp_step))
          exact h _ _ _ _ n p b0
        | _=>exact a.elim
   | _=>exact U.elim
def FH{p1 p2 q1 q2:Pos}(f:X.calm=true)(he:Pe X cm e d)(a2:Gl X "sorted")(a3:X.mg "sorted" = none)(a4:Gl X "set")(a5:X.mg "set" = none)
 (G:autoParam (starEach [e] X.env=(false,eval e X.env)::starEach [] X.env) au2._auto_1)
 (J:autoParam (starEach [.Call (.Name "set" p2) [e] [] q2] X.env=(false,eval (.Call (.Name "set" p2) [e] [] q2) X.env)::starEach [] X.env) au0._auto_1) :
 Pe X cm (.Call (.Name "sorted" p1) [.Call (.Name "set" p2) [e] [] q2] [] q1) (l7 d):=by
 intro L s σ H Q I h;obtain⟨ρ,A,a6,v,A',rl,rs,ev,k⟩:=h;obtain⟨x,A1,e1,N⟩:=B0 ev;refine UW (S8 I a2 a3 PU (callWith_builtin1 (c8 J ?_) J rfl));refine UW (S8 I a4 a5 (show bootBuiltins "set" = some _ from by rfl) (callWith_type1 (c8 G ?_) G rfl));refine aI (he L s σ H (λv r=>∃(a:Addr)(ns:List Int),v=.ref a/\bx X.K r a (ns.map V.int)/\(∀x∈ns,0<=x/\x<=5)/\∀l,r l=none->Q (.ref l) (aB r l (.lst ((setL ns).map V.int)))) I ⟨ρ,A,a6,x,A1,rl,rs,e1,λa7 r v1 x1 y a8=>?_⟩) λu s1 zq=>?_
 .cases x with
  | ref n=>
    obtain⟨l,A2,Y,i⟩:=B0 N;obtain⟨rfl,hA,a,xs,rfl,hn,hH,r0⟩:=K4 y a8 Y;cases O:J9 l with
    | none=>rw[O]at i;cases i
    | some ns=>
      rw[O]at i;obtain⟨c,a9⟩:=B9 i;cases a9;rw[P0 O]at r0;refine⟨a,ns,rfl,by rw[<-Z3 r0];exact bx.of hH,c,λD hD=>?_⟩;have ex:ax a7 r _ (aB r D (.lst ((setL ns).map V.int))):=ax.new hD;exact k _ _ _ (x1.trans ex) (y.alloc hD ⟨_,C2,RVs.ints _⟩ rfl) (.ref (by rw[<-y.len];simp))
  | _=>cases N
 .obtain⟨w1,r,I1,r1,a,ns,ew,hq,m,q⟩:=zq;subst ew;obtain rfl:u=LJ a:=r1;obtain⟨g2,ri,pl,hz⟩:=I1.list hq;have O:=Q0 ri;have z:=wq m;have h6:=(oF z).2.1;refine FG m (I1.ok.hd f) pl.isList (by simpa using O) λh' tk es ep hS B T=>?_;have I2:=I1.kept (t':=tk) (λb ob e=>T b ob (Lr e) e);refine PF UL UA UB (UC _) ?_;refine L0 (Lk ?_);refine L0 (kdu_collect (Ex z B) (I2.ok.hd f) hS (by rw[OF];symm) λb1 b2 g hk p=>?_);have C:g.toList=Z4 X.w s1.heap.objs.size ep es:=by
   refine Pl λj=>?_;rw[MP];cases hj:g[j]? with
   | none=>
     have:g.size<=j:=by simpa using hj
     rw[Mu (by rw[qZ B,<-p.1];exact this)]
   | some v=>exact(p.2 j v hj).symm
  obtain⟨ms,hp,hI⟩:=Ey (vP X.w _ ep es) B.vs;rw[<-C]at hI;have b5:g.toList.length=(setL ns).length:=by rw[hI.length];exact hp.length_eq
  refine L0 (Ss ?_ (by rw[b5,OF];symm));have E:(b1.push _).get? _=some (seqObj "list" g.toList.toArray 0):=Lq _ rfl;refine L0 (Mh (Mc TN ⟨_,E,rfl⟩ Tr (list_sort_tree E hI (by symm) λg9 h0 h1 h2 h3=>⟨_,rfl,?_⟩) (TQ _)));refine Lk ⟨_,rfl,?_⟩;have e:=qb (h2.trans hp) h3 ((oF z).2.2.imp λh=>UG h);subst e;obtain⟨c,hc⟩:=sortedHeap_at E;have I3:=I2.kept (t':=b2) hk;refine⟨.ref _,_,I3.laid (λb o Y=>?_) (Lp _) ?_,rfl,q _ (I3.hok.fresh (Lp _))⟩
  .have U:=Lr Y;rw[sortedHeap_old (Ly U) (by rw[Uv];exact Ni U)];exact L3 _ Y
  .refine⟨by rw[Lo,OF];symm,_,c,k9 h1,?_⟩;exact hc
end Ws
namespace Ws
open PySem L2
def rq(h:n+64<cLine):n+1<cLine:=Nat.lt_of_le_of_lt (Nat.add_le_add_left (by simp) _) h
def C9{K:Lm}{st:Stmt}(F:L2.Fun K x qual st f fd)(S:R7 N ps (C4 st))
 (e:∀(b:Ll)(A:Mq)(a:List Env)(c:Ln)(H:Hp)(E:L2.XK),aN k (A.deeper (My qual (C4 st) c.heap.objs.size f b))->(A.deeper (My qual (C4 st) c.heap.objs.size f b)).units+64<cLine->(A.deeper (My qual (C4 st) c.heap.objs.size f b)).units+1<cLine->
  bZ (v9 aR P w K mg base N qual (C4 st) f b A a c H E).nox (G0 st) (gA K cm s)) :
 az P w K mg base aR (k+1) f fd ps (aV K cm (fn N.length ps.length s) ps.length):=BO F S λb A a c H E d=>e b A a c H E d d.units (rq d.units)
def FI{K:Lm}{st:Stmt}(F:ef K x qual st f fd items)(S:R7 N ps (C4 st))
 (e:∀(b:Ll)(A:Mq)(a:List Env)(c:Ln)(H:Hp)(E:L2.XK),aN k (A.deeper (My qual (C4 st) c.heap.objs.size f b))->(A.deeper (My qual (C4 st) c.heap.objs.size f b)).units+64<cLine->(A.deeper (My qual (C4 st) c.heap.objs.size f b)).units+1<cLine->
  bZ (v9 aR P w K mg base N qual (C4 st) f b A a c H E).nox (G0 st) (gA K cm s)) :
 az P w K mg base aR (k+1) f fd ps (aV K cm (fn N.length ps.length s) ps.length):=CP F S λb A a c H E d=>e b A a c H E d d.units (rq d.units)
def rr{K:Lm}{st:Stmt}(F:L2.Fun K x qual st f fd)(S:R7 N ps (C4 st))
 (e:∀(b:Ll)(A:Mq)(a:List Env)(c:Ln)(H:Hp)(E:L2.XK),aN k (A.deeper (My qual (C4 st) c.heap.objs.size f b))->(A.deeper (My qual (C4 st) c.heap.objs.size f b)).units+64<cLine->(A.deeper (My qual (C4 st) c.heap.objs.size f b)).units+1<cLine->
  bZ (v9 (eZ P w) P w K mg base N qual (C4 st) f b A a c H E) (G0 st) (bC K cm (oB E) s)) :
 az P w K mg base (eZ P w) (k+1) f fd ps (gT K cm (fn N.length ps.length s) ps.length):=DI F S λb A a c H E d=>e b A a c H E d d.units (rq d.units)
def oK(i:Nat)(b:autoParam (X.N[i]?=some x) au0._auto_1)(c:autoParam (jd X.env.scope x) au6._auto_1)(g:autoParam ((x == ("__debug__" : Str))=false) au1._auto_1)
 (a:autoParam ((x == ("__classdict__" : Str))=false) au1._auto_1):Pe X cm (.Name x pos) (ae i):=BA (L2.pv i b c g a)
def wu{K:Lm}(B:H8 K mg cm)(a:cE i=f)(b:i<19):∀c,c<7->bM K (cm c) f:=λc h=>a ▸ B.na c i b h
def rA(i:Nat)(B:H8 X.K mg cm)(he:Pe X cm o d)(a:autoParam (cE i=f) au0._auto_1)(b:autoParam (i<19) au1._auto_1)(c:autoParam (attributeBase o f X.env (eval o X.env)=eval o X.env) au0._auto_1):Pe X cm (.Attribute o f pos) (aJ d i):=BK he a b B.cls (wu B a b) c
def rB(i:Nat)(B:H8 X.K mg cm)(c:Pe X cm o d)(g:Pe X cm value e)(a:autoParam (cE i=f) au0._auto_1)(b:autoParam (i<19) au1._auto_1)(hs:autoParam (swapsWith value (some (.Attribute o f pos')) pos.line X.env=pure false) au0._auto_1):Ps X cm (.Assign [.Attribute o f pos'] value pos) (sFld d i e):=BL c g a b B.cls (wu B a b) hs
end Ws
local macro_rules | `(tactic| walk_at "sc")=>`(tactic| exact⟨rfl,rfl,rfl,by decide +kernel,rfl,by decide +kernel,by decide +kernel⟩)
local macro_rules | `(tactic| walk_at "fb")=>`(tactic| first | exact(λ_=>rfl) | exact(λh=>nomatch h))
local macro_rules | `(tactic| walk_at "o2")=>`(tactic| first | exact UO rfl | exact Ul rfl)
local macro_rules | `(tactic| walk_at "o3")=>`(tactic| first | exact UO rfl | exact Ul (UO rfl) | exact Ul (Ul rfl))
namespace Ws
open PySem L2
section
variable{ρ:List Addr}{H:Hp}{K:Lm}{A:PHp}{n:Nat}{v:V}
abbrev PX(ρ:List Addr)(H:Hp)(m:List (Str×PV))(kv:List (Key×V)):Prop:=Pairs (Td:Str->Key) ρ H m kv
def PX.len(h:PX ρ H m kv):m.length=kv.length:=by
 have:=congrArg List.length h.keys;simpa using this.symm
theorem PX.val:∀{m:List (Str×PV)}{kv:List (Key×V)}(i:Str),PX ρ H m kv->(r9 m i=none/\X2 kv (.inr i)=none)\/∃x u,r9 m i=some x/\X2 kv (.inr i)=some u/\RV ρ H x u
 | [],kv,i,h=>by obtain rfl:=h.nil_inv;exact .inl ⟨rfl,rfl⟩
 | p::r,kv,i,h=>by
   obtain⟨u,a,rfl,b,t⟩:=h.cons_inv;unfold r9;by_cases e:p.1=i
   .rw[if_pos e,d9 (by rw[e])];exact .inr ⟨_,_,rfl,rfl,b⟩
   .rw[if_neg e,f6 (λz=>e (Td.inj z))];exact PX.val i t
def PX.some_eq(i:Str)(h:PX ρ H m kv):(X2 kv (.inr i)).isSome=(r9 m i).isSome:=by
 rcases PX.val i h with⟨a,b⟩ | ⟨x,u,a,b,_⟩<;>rw[a,b]<;>rfl
theorem wx(i:Str):∀m:List (Str×PV),(m.any λp=>decide (p.1=i))=(r9 m i).isSome
 | []=>rfl
 | p::r=>by
   unfold r9;rw[Pd];by_cases e:p.1=i
   .rw[if_pos e,decide_eq_true e];rfl
   .rw[if_neg e,decide_eq_false e,So];exact wx i r
theorem PX.repl(a:RV ρ H x u)(i:Str):∀{m:List (Str×PV)}{kv:List (Key×V)},PX ρ H m kv->PX ρ H (m.map λp=>if p.1=i then(p.1,x) else p) (kv.map λp=>if p.1=(.inr i) then(p.1,u) else p)
 | [],kv,h=>by obtain rfl:=h.nil_inv;exact⟨rfl,.nil⟩
 | p::r,kv,h=>by
   obtain⟨w,b,rfl,c,t⟩:=h.cons_inv;have ih:=PX.repl a i t;rw[LX,LX];by_cases e:p.1=i
   .rw[if_pos e,if_pos (by rw[e])];exact Pairs.cons' (p:=(p.1,x)) a ih
   .rw[if_neg e,if_neg (λz=>e (Td.inj z))];exact Pairs.cons' c ih
theorem PX.snoc(a:RV ρ H x u)(i:Str):∀{m:List (Str×PV)}{kv:List (Key×V)},PX ρ H m kv->PX ρ H (m++[(i,x)]) (kv++[(.inr i,u)])
 | [],kv,h=>by obtain rfl:=h.nil_inv;exact Pairs.cons' (p:=(i,x)) a ⟨rfl,.nil⟩
 | p::r,kv,h=>by
   obtain⟨w,b,rfl,c,t⟩:=h.cons_inv;exact Pairs.cons' c (PX.snoc a i t)
def PX.put(b:RV ρ H x u)(i:Str)(h:PX ρ H m kv):PX ρ H (gM m i x) (R6 kv (.inr i) u):=by
 unfold gM R6;have e:(kv.any λp=>decide (p.1=(.inr i)))=(m.any λp=>decide (p.1=i)):=by
  rw[wx,w5];exact h.some_eq i
 rw[e];by_cases a:(m.any λp=>decide (p.1=i))=true
 .rw[if_pos a,if_pos a];exact h.repl b i
 .rw[if_neg a,if_neg a];exact h.snoc b i
def rD(f:aL K e ρ A H)(r:RV ρ H (.ref n) v)(h:jw n A=.ok m A'):A'=A/\A[n]?=some (.dS m)/\∃a c,v=.ref a/\ρ[n]?=some a/\H a=some (.dK c)/\PX ρ H m c:=by
 cases r with
 | ref d=>
   unfold jw at h;rcases b:A[n]? with _ | o
   .rw[b]at h;cases h
   .have q:=f.obj n o _ b d;cases o with
    | dS m=>rw[b]at h;cases h;obtain⟨g,i,j⟩:=q;exact⟨rfl,rfl,_,g,rfl,d,i,j⟩
    | _=>rw[b]at h;cases h
end
section
variable{X:Cx}{cm:Nat->Addr}
def rE(r:RV a H (.str i) v):v=L2.kV (.inr i):=by cases r;rfl
def kj(hu:X.A.units+1<cLine)(ho:Pe X cm o d)(hi:Pe X cm i y)(hv:Pe X cm b e)(hs:autoParam (swapsWith b (some (.Subscript o i h)) r.line X.env=pure false) au0._auto_1) :
 Ps X cm (.Assign [.Subscript o i h] b r) (dH d y e):=
 Q3 (uc hu ho hi hv hs) λD σ H hq=>by
  obtain⟨ρ,A,l,f,A',rl,s,ev,k⟩:=hq;obtain⟨w,A1,e1,C⟩:=B0 ev;obtain⟨x,A2,e2,E⟩:=B0 C;obtain⟨kx,A3,e3,p⟩:=B0 E;refine⟨ρ,A,l,w,A1,rl,s,e1,λG H1 v1 u I J=>⟨G,A1,l,x,A2,I,s.mono u,e2,λL H2 v2 v N O=>⟨L,A2,l,kx,A3,N,(s.mono u).mono v,e3,λg Q v3 z q T=>?_⟩⟩⟩;cases x with
  | ref n=>
    cases kx with
    | str j=>
      obtain⟨m,A4,e4,U⟩:=B0 p;obtain⟨rfl,hA,a,kv,rfl,hn,hH,hp⟩:=rD q (O.mono z) e4;obtain⟨c,Y⟩:=B9 U;cases Y;rw[rE T];refine⟨a,_,rfl,dE.k hH (by rw[<-hp.len];exact lM c),?_⟩;have B:ax g Q g (aB Q a (.dK (R6 kv (.inr j) v1))):=ax.put q hn hA rfl;have a0:aL X.K cm g (A4.set n (.dS (gM m j w))) (aB Q a (.dK (R6 kv (.inr j) v1))):=
       q.put hn hA rfl rfl ⟨_,C2,PX.put ((((J.mono v).mono z)).mono B) j (hp.mono B)⟩
      exact k g _ (((u.trans v).trans z).trans B) a0 σ ((((s.mono u).mono v).mono z).mono B)
    | _=>cases p
  | _=>cases p
def r_sget(J:X.A.units+1<cLine)(L:Pe X cm o d)(N:Pe X cm i y)(hs:nh i):Pe X cm (.Subscript o i g) (eSGet d y):=
 D4 (ua J L N hs) λσ H Q O=>by
  obtain⟨T,A,e,v,A',U,B,Y,k⟩:=O;obtain⟨x,C,e1,h⟩:=B0 Y;obtain⟨D,A2,e2,c⟩:=B0 h;refine⟨T,A,e,x,C,U,B,e1,λl H1 v1 E p q=>⟨l,C,e,D,A2,p,B.mono E,e2,λr H2 v2 G f s=>?_⟩⟩;cases x with
  | ref n=>
    cases D with
    | str j=>
      obtain⟨m,A3,e3,b⟩:=B0 c;obtain⟨rfl,hA,a,kv,rfl,hn,hH,hp⟩:=rD f (q.mono G) e3;rcases hp.val j with⟨w,I⟩ | ⟨z,u,w,I,ru⟩
      .rw[w]at b;cases b
      .rw[w]at b;cases b;rw[rE s];exact⟨a,u,rfl,by rw[<-I];exact cc.k hH,k r H2 _ (E.trans G) f ru⟩
    | _=>cases c
  | _=>cases c
noncomputable def wy(K:Lm)(cm:Nat->Addr)(ps:List (Str×ED)):List (TE×TE):=ps.map λp=>(cJ K cm (eK (.str p.1)),cJ K cm p.2)
def kU(X:Cx)(cm:Nat->Addr)(c:Pos)(b:List (Option Expr))(a:List Expr)(ps:List (Str×ED)):Prop:=lB X c b a (wy X.K cm ps)
def kl:kU X cm a [] [] []:=Bf
def FJ(c:Pe X cm k (eK (.str s)))(d:Pe X cm v e)(f:kU X cm a b vs ps):kU X cm a (some k::b) (v::vs) ((s,e)::ps):=Bg c d f
theorem wz{K:Lm}:∀(ps:List (Str×ED)){c:List Addr}{A A':PHp}{a:PSt}{σ:L2.St}{H:Hp}{b:List (Str×PV)}{Q:List (V×V)->Hp->Prop},aL K cm c A H->bR c H a σ->lH ps a A=.ok b A'->
 (∀d e f,ax c H d e->aL K cm d A' e->PX d e b f->Q (f.map λy=>(L2.kV y.1,y.2)) e)->ni (wy K cm ps) σ H Q
 | [],c,A,A',a,σ,H,b,Q,h,g,i,k=>by
   cases i;exact k c H [] (ax.refl _ _) h ⟨rfl,.nil⟩
 | p::r,c,A,A',a,σ,H,b,Q,h,g,i,k=>by
   obtain⟨w,C,D,j⟩:=B0 i;obtain⟨N,O,E,l⟩:=B0 j;cases l;refine⟨c,A,a,.str p.1,A,h,g,rfl,λm T U n o q=>⟨m,A,a,w,C,o,g.mono n,D,λG Y I z s u=>?_⟩⟩;rw[rE q];refine wz r s ((g.mono n).mono z) E λv J f B x L=>?_;exact k v J ((.inr p.1,I)::f) ((n.trans z).trans B) x (Pairs.cons' (p:=(p.1,w)) (u.mono B) L)
theorem PX.fold:∀{a:List (Str×PV)}{b:List (Key×V)}{m:List (Str×PV)}{kv:List (Key×V)},PX c H a b->PX c H m kv->PX c H (a.foldl (λd p=>gM d p.1 p.2) m) (q5 kv b)
 | [],b,m,kv,h,e=>by obtain rfl:=h.nil_inv;exact e
 | p::r,b,m,kv,h,e=>by
   obtain⟨u,f,rfl,g,t⟩:=h.cons_inv;exact PX.fold (m:=gM m p.1 p.2) (kv:=R6 kv (.inr p.1) u) t (PX.put g p.1 e)
def hF(h:kU X cm l b c ps)(n:autoParam (b.all (·.isSome)=true) au0._auto_1)(u:autoParam (b.length=c.length) au0._auto_1)(h0:b≠[]:=by intro z;cases z)(y:autoParam (b.length<=15) au1._auto_1)(I:autoParam (ps.length<=15) au1._auto_1):Pe X cm (.Dict b c l) (dw ps):=
 D4 (Bi h n u h0 y) λσ H Q ⟨q,A,B,v,A',J,rs,ev,k⟩ p L=>by
  obtain⟨x,A1,N,g⟩:=B0 ev;cases N;obtain⟨d,A2,s,i⟩:=B0 g;have O:ax q H (q++[p]) (aB H p (.dK [])):=ax.new L;have C:aL X.K cm (q++[p]) (A++[.dS []]) (aB H p (.dK [])):=J.alloc L ⟨_,C2,⟨rfl,.nil⟩⟩ rfl;have u:(q++[p])[A.length]?=some p:=by rw[<-J.len];simp
  have a8:d.length=ps.length:=by
   have:∀(ps:List (Str×ED)){A A':PHp}{d:List (Str×PV)},lH ps B A=.ok d A'->d.length=ps.length:=λps=>by
    induction ps with
    | nil=>intro A A' d e;cases e;rfl
    | cons p r ih=>
      intro A A' d e;obtain⟨w,A1,N,g⟩:=B0 e;obtain⟨ws,A2,s,i⟩:=B0 g;cases i;simp[ih s]
   exact this ps s
  refine wz ps C (rs.mono O) s λf D T U j Y=>?_;have rp:RV f D (.ref A.length) (.ref p):=(RV.ref u).mono U;obtain⟨m,A4,e4,o⟩:=B0 i;obtain⟨rfl,hA,a,kv,ea,hn,hH,E⟩:=rD j rp e4;cases ea;cases m with
  | nil=>
    cases o;obtain rfl:=E.nil_inv;refine⟨hH,T,rfl,by have:=PX.len Y;symm,?_⟩;have G:ax f D f (aB D p (.dK (q5 [] T))):=ax.put j hn hA rfl;exact k f _ _ ((O.trans U).trans G) (j.put hn hA rfl rfl ⟨_,C2,PX.fold (Y.mono G) ⟨rfl,.nil⟩⟩) (rp.mono G)
  | cons _ _=>cases o
end
end Ws
namespace Ws
open PySem PySem.W PyProof.Rows L2
set_option maxHeartbeats 1000000 in
def FK{ok ov:Ll}(e:Rm s.heap c d i es.size ep ok ov)
 (l:s.heap.get? d=some H) (m:H.data=.dict es ep) (C:i<es.size)
 (U:∀n,IsItemIterOut n c d (i+1) es.size ep es[i].key es[i].val s.heap.objs.size->
  n.get? s.heap.objs.size=some { cls:=.type "tuple",data:=.seq #[es[i].key,es[i].val] }->n.objs.size=s.heap.objs.size+1->
  (∀b o,b≠c->s.heap.get? b=some o->n.get? b=some o)->Q (some (.ref s.heap.objs.size)) { s with heap:=n }) :
 wpAny (model prog w) A (pyNext (.ref c)) Q E s:=by
 have j:s.TypeIs (.ref c) "dict_itemiterator":=⟨_,e,rfl⟩;unfold pyNext;refine L0 (NS (Mj (name:=Str.ofString "__next__") j Nv
  (Mc Nv j QK ?_ (Qv _))))
 wp_walk using PJ e rfl,MW l m,OA l m,NV j,OO j
 rw[if_neg (show ¬((i:Int)<0) by symm),NL,Nt C];dsimp only
 wp_walk using NV j,OO j,Mw e (by simp[MY])
 intro f r u;have I:Rm f c d (i+1) es.size ep ok ov:=by
  refine r.trans ?_;rw[show MY "dict_itemiterator" = true by decide];rfl
 clear r;have D:Pk { s with heap:=f } (.ref c) "dict_itemiterator":=⟨_,I,rfl⟩;have g:f.objs.size=s.heap.objs.size:=u.1;have G:c<s.heap.objs.size:=Lr e;have J:Rm (f.push { cls:=.type "tuple",data:=.seq #[es[i].key,es[i].val] }) c d (i+1) es.size ep ok ov:=L3 _ I;have Y:(f.push { cls:=.type "tuple",data:=.seq #[es[i].key,es[i].val] }).get? s.heap.objs.size=some { cls:=.type "tuple",data:=.seq #[es[i].key,es[i].val] }:=by rw[<-g];exact Lq _ rfl
 have z2:(f.push { cls:=.type "tuple",data:=.seq #[es[i].key,es[i].val] }).objs.size=s.heap.objs.size+1:=by rw[ME,g]
 have k2:∀b o,b≠c->s.heap.get? b=some o->(f.push { cls:=.type "tuple",data:=.seq #[es[i].key,es[i].val] }).get? b=some o:=λb o h q=>L3 _ (u.extBut b o h q)
 wp_walk using OO D,Mx J rfl rfl,Mw J (by simp)
 intro L e3 v;replace v:MA c (f.push { cls:=.type "tuple",data:=.seq #[es[i].key,es[i].val] }) L:=v;refine L0 (Mw e3 (by simp) λN e4 x=>?_);replace x:MA c L N:=x;refine L0 (Mw e4 (by simp) λO e5 y=>?_);replace y:MA c N O:=y;refine L0 (Mw e5 (by simp) λz e6 B=>?_);replace B:MA c O z:=B;have T:∀b o,b≠c->(f.push { cls:=.type "tuple",data:=.seq #[es[i].key,es[i].val] }).get? b=some o->z.get? b=some o:=λb o h q=>B.extBut b o h (y.extBut b o h (x.extBut b o h (v.extBut b o h q)));have e7:IsItemIterOut z c d (i+1) es.size ep es[i].key es[i].val s.heap.objs.size:=by rw[<-g];exact e6
 refine L0 (Ue (Lk (Lk ⟨_,rfl,Lk ?_⟩)));rw[g];exact U z e7 (T _ _ (Nx G) Y) (by rw[B.1,y.1,x.1,v.1,z2]) λb o h q=>T b o h (k2 b o h q)
set_option maxHeartbeats 1000000 in
def FL{ok ov:Ll}(q:A.handled=none)(c:Rm s.heap f d i es.size ep ok ov)
 (g:s.heap.get? d=some n) (h:n.data=.dict es ep) (l:es.size<=i)
 (r:∀o,Qu f s.heap o->Q none { s with heap:=o }):wpAny (model prog w) A (pyNext (.ref f)) Q E s:=by
 have j:s.TypeIs (.ref f) "dict_itemiterator":=⟨_,c,rfl⟩;unfold pyNext;refine L0 (NS (Mj (name:=Str.ofString "__next__") j Nv
  (Mc Nv j QK ?_ (Qv _))))
 wp_walk using PJ c rfl,MW g h,OA g h,NV j,OO j
 rw[if_neg (show ¬((i:Int)<0) by symm),NL,ON l];dsimp only
 wp_walk using NV j,Mw c (by simp[MY])
 intro u _ e;replace e:MA f s.heap u:=e;refine L0 ?_;simp only[newExc,newTuple];refine L0 (MN ?_ (by size_fits));refine L0 (m:=firstArgMember _ _) (Rq (a:=MZ) (by simp only[firstArgMember];rfl) ?_);refine MN ?_ (by size_fits);simp only[raiseNew];refine L0 (Rc ?_);rw[show A.in1.handled=none from q];refine L0 (Lk (Su ?_));refine L0 (NF (T:="StopIteration") (b:=true) ⟨_,Lq _ rfl,rfl⟩ QA ?_);exact Lk (r _ ((e.extBut.push _).push _))
def FN(b:s.heap.IsItemsView v d)(f:s.heap.get? d=some o)(a:o.data=.dict es ep)
 (i:Q (.ref s.heap.objs.size) { s with heap:=s.heap.push { cls:=.type "dict_itemiterator",data:=.fields #[.none,.bool false,.ref d,.int 0 0,.int es.size 0,.int ep 0,.none,.none] } }) :
 wpAny (model prog w) A (pyIter (.ref v)) Q E s:=by
 obtain⟨ov,c,j,e⟩:=id b;refine Pj b.typeIs Tc (Mc Tc b.typeIs F.entry_dict_items_iter ?_ (F.args_dict_items_iter_1 _))
 wp_walk using Mx c e (x:=.ref d) rfl,MW f a,OA f a
 rw[if_pos (show MY "dict_itemiterator" = true by decide)];exact⟨_,rfl,"dict_itemiterator",_,⟨_,Lq _ rfl,rfl⟩,Nv.lookup,i⟩
def FO(d:Addr)(c:(d == sysModules)=false) :
 MeetsIn prog w (MK.«dict.items» ⟨[.ref d],[]⟩) (λ_ R s=>s.TypeIs (.ref d) "dict"/\
  R (.ok (.ret (.ref s.heap.objs.size))) { s with heap:=s.heap.push { cls:=.type "dict_items",data:=.fields #[.ref d] } }):=
 .of_wp λA R s e=>by
  obtain⟨f,h⟩:=e;have g:¬(d == sysModules)=true:=by rw[c];exact MO
  unfold MK.«dict.items» MK.Dict.noArgs OX
  wp_walk using Oo f
  exact⟨_,rfl,h⟩
def FP{c d:Type}{F:c->d->Prop}{l:List c}{m:List d}(h:Paired F l m){i:Nat}{a:c}(e:l[i]?=some a):∃b,m[i]?=some b/\F a b:=by
 induction h generalizing i with
 | nil=>cases e
 | cons r _ ih=>
   cases i with
   | zero=>cases e;exact⟨_,rfl,r⟩
   | succ i=>exact ih e
noncomputable def Z5(H:Hp)(d:Addr):Hp:=λb=>if b=d then none else H b
def mz(h:b≠d):Z5 H d b=H b:=if_neg h
def wA:Z5 H d d=none:=if_pos rfl
def FQ(H H':Hp):Prop:=∀b a,H b=some (.tup a)->H' b=some (.tup a)
def FR(I:L2.Inv X pins σ H s)(e:H d=some (.dT kvs))(m:s.heap.get? d=some o)(w:∀v,o.data≠.cell v):L2.Inv X (pins++[(d,o)]) σ (Z5 H d) s:=by
 have a:∀{b u},H b=some u->(∀k,u≠.dT k)->Z5 H d b=some u:=λ{b u} h y=>by
  rw[mz]
  .exact h
  .rintro rfl;rw[e]at h;cases h;exact y _ rfl
 have no:∀{b},H b=none->Z5 H d b=none:=λ{b} h=>by
  unfold Z5;split
  .rfl
  .exact h
 refine⟨I.ok,I.os,I.bare,⟨I.base.keep,I.base.slot,λb o q n A=>no (I.base.free b o q n A),I.base.there,λb j q=>a (I.base.tups b j q) (by intro k z;cases z),λb o u q=>a (I.base.frzs b o u q) (by intro k z;cases z),λb B q=>?_⟩,I.loc,I.cell,no I.free,λx c q=>no (I.freeC x c q),λp l=>?_,λb u q=>?_,I.len⟩
 .obtain⟨f,h⟩:=I.base.tbls b B q;exact⟨f,a h (by intro k z;cases z)⟩
 .rw[<-Sa]at l;rcases LY.mp l with z | z
  .obtain⟨C,D,E⟩:=I.pin p z;exact⟨C,no D,E⟩
  .rw[Ls.mp z];refine⟨m,wA,λz=>?_,λg=>?_,w⟩
   .have:=I.free;rw[<-z,e]at this;cases this
   .obtain⟨_,G,i,_⟩:=I.ok.funs.mem g;have:=I.base.free d G i (I.ok.frf d g) λz=>I.ok.exfs d z g;rw[e]at this;cases this
 .have g:b≠d:=by rintro rfl;rw[wA]at q;cases q
  rw[mz g]at q;exact(I.hok b u q).stay (λc v _ r=>r) (λc r=>a r (by intro k z;cases z)) λc j r=>a r (by intro k z;cases z)
def FT(I:L2.Inv X (pins++[(d,o)]) σ H s)(z:∀a,X.s₀.heap.get? d=some a->X.H₀ d=none->d∉X.ex->False)(A:∀p∈X.pn++pins,p.1≠d)(ok:aF X.prog X.w (aB H d (.dT kvs)) s.heap d (.dT kvs)):L2.Inv X pins σ (aB H d (.dT kvs)) s:=by
 obtain⟨B,C,D,L,E⟩:=I.pin (d,o) (by simp);have e:∀{b u},H b=some u->aB H d (.dT kvs) b=some u:=λ{b u} h=>by
  rw[aj]
  .exact h
  .rintro rfl;rw[C]at h;cases h
 refine⟨I.ok,I.os,I.bare,⟨I.base.keep,I.base.slot,λb a q n m=>?_,I.base.there,λb y q=>e (I.base.tups b y q),λb a u q=>e (I.base.frzs b a u q),λb G q=>?_⟩,I.loc,I.cell,?_,λx c q=>?_,λp f=>?_,λb u q=>?_,I.len⟩
 .by_cases g:b=d
  .subst g;exact(z a q n m).elim
  .rw[aj g];exact I.base.free b a q n m
 .obtain⟨i,h⟩:=I.base.tbls b G q;exact⟨i,e h⟩
 .rw[aj (Na D)];exact I.free
 .rw[aj]
  .exact I.freeC x c q
  .rintro rfl;obtain⟨v,a,j,l⟩:=I.cell x c q;rw[B]at j;cases j;exact E _ l
 .obtain⟨j,l,J⟩:=I.pin p (by rw[<-Sa];exact ND _ f);exact⟨j,by rw[aj (A p f)];exact l,J⟩
 .by_cases g:b=d
  .subst g;rw[C2]at q;cases q;exact ok
  .rw[aj g]at q;exact(I.hok b u q).stay (λc v _ r=>r) (λc r=>e r) λc y r=>e r
def FU(h:TE)(g:TG)(j:TS):TS:=λD a H=>h a H λv c=>∃(d:Addr)(b:List (List Key×V))(W:Nat->L2.St->Hp->Prop),v=.ref d/\c d=some (.dT b)/\W 0 a (Z5 c d)/\(∀i a H,W i a H->FQ c H)/\
 (∀i k u a H f p,b[i]?=some (k,u)->W i a H->H f=some (.tup (k.map L2.kV))->H p=none->p≠d->g (.ref p) a (aB H p (.tup [.ref f,u])) λe l=>j { nx:=W (i+1),rt:=λ_ _=>False } e l)/\
 ∀a H,W b.length a H->H d=none->D.nx a (aB H d (.dT b))
set_option maxHeartbeats 1000000 in
def FV(hp:Tf (model X.prog X.w) X.A X.env X.xe)(hc:X.calm=true)(ho:PE X o to)(hg:L2.PG X (.Tuple a0 x1 pt) g)(J:bZ X a1 tb)
 (hbase:autoParam (attributeBase o "items" X.env (eval o X.env)=eval o X.env) au0._auto_1) (hline:autoParam ((L.endLine == m.line)=true) au0._auto_1)
 (hs:∀x,foldedSetIterable (.Call (.Attribute o "items" L) [] [] m) X.env x=pure x:=by intro _;rfl):PS X (.For (.Tuple a0 x1 pt) (.Call (.Attribute o "items" L) [] [] m) a1 [] f3) (FU to g tb):=by
 intro c s σ H D I h;refine wpAny_For (Qs (T:="dict") (id:="dict.items") hbase rfl hline F.plainAttrs_dict F.slot_dict_items F.type_dict_items (aI (ho c s σ H _ I h) λu C hh=>?_)) hs;obtain⟨v,H1,I1,rv,d,a5,W,ev,eH,w0,wt,step,fin⟩:=hh;subst ev;obtain rfl:u=LJ d:=rv;obtain⟨hz,a2,xs,a6,B,es,ep,h1,h2,h3,h4,nd⟩:=I1.hok d _ eH;have hT:C.TypeIs (.ref d) "dict":=⟨B,h1,h2.1⟩;have a7:∀v,B.data≠.cell v:=λv z=>by rw[h3]at z;cases z
 have h0:∀o',X.s₀.heap.get? d=some o'->X.H₀ d=none->d∉X.ex->False:=λo' q n hx=>by
  have:=I1.base.free d o' q n hx;rw[eH]at this;cases this
 have g4:∀p∈X.pn++c,p.1≠d:=λp hp z=>by
  have:=(I1.pin p hp).2.1;rw[z,eH]at this;cases this
 have g5:es.size=a5.length:=by
  rw[<-Nw,h4,Lo];exact(Paired.length a6).symm
 refine⟨hT,λa e=>?_,?_⟩
 .cases e;exact⟨B,h1,h2.2.1⟩
 show wpAny _ _ (callWith m (.builtin "dict.items") [.ref d] [] []) _ _ C;refine method_meetsIn F.slot_dict_items F.entry_dict_items rfl (PySem.evalArgs_none ⟨rfl,hT,F.args_dict_items_1 _,_,FO d a2,hT,?_⟩);refine FN (o:=B) (es:=es) (ep:=ep) ⟨_,Lq _ rfl,rfl,rfl⟩ (L3 _ h1) h3 ?_;have Ih:=FR I1 eH h1 a7;have c2:(C.heap.push { cls:=.type "dict_items",data:=.fields #[.ref d] }).objs.size=C.heap.objs.size+1:=ME ..;have Ik:L2.Inv X (c++[(d,B)]) σ (Z5 H1 d) { C with heap:=(C.heap.push { cls:=.type "dict_items",data:=.fields #[.ref d] }).push { cls:=.type "dict_itemiterator",data:=.fields #[.none,.bool false,.ref d,.int 0 0,.int es.size 0,.int ep 0,.none,.none] } }:=Ih.kept (t':=C.toks) λb u e=>L3 _ (L3 _ e);have c3:Rm ((C.heap.push { cls:=.type "dict_items",data:=.fields #[.ref d] }).push { cls:=.type "dict_itemiterator",data:=.fields #[.none,.bool false,.ref d,.int 0 0,.int es.size 0,.int ep 0,.none,.none] }) (C.heap.push { cls:=.type "dict_items",data:=.fields #[.ref d] }).objs.size d 0 es.size ep .none .none:=Lq _ rfl;have c4:C.heap.objs.size<=(C.heap.push { cls:=.type "dict_items",data:=.fields #[.ref d] }).objs.size:=by rw[c2];exact NZ _
 have d0:=Ih.fpOk c4 (Ih.hok.fresh c4);generalize(C.heap.push { cls:=.type "dict_items",data:=.fields #[.ref d] }).objs.size=E at *;generalize(C.heap.push { cls:=.type "dict_items",data:=.fields #[.ref d] }).push { cls:=.type "dict_itemiterator",data:=.fields #[.none,.bool false,.ref d,.int 0 0,.int es.size 0,.int ep 0,.none,.none] }=o1 at *;have O:∀{H':Hp},H' E=none->∀b∈[E],d7 X (c++[(d,B)]) H' b:=λhn b J=>by
  rw[Ls.mp J];exact⟨hn,d0.2⟩
 have a3:∀{Y H' s'},L2.Inv X (c++[(d,B)]) Y H' s'->s'.heap.get? d=some B/\H' d=none:=λI'=>let q:=I'.pin (d,B) (by simp);⟨q.1,q.2.1⟩;refine Uc (λn s'=>∃i Y H' ok ov,L2.Inv X (c++[(d,B)]) Y H' s'/\Rm s'.heap E d i es.size ep ok ov/\H' E=none/\W i Y H'/\i<=es.size/\n=es.size+1 - i) ?_ (es.size+1) ⟨0,σ,_,_,_,Ik,c3,d0.1,w0,OG _,rfl⟩;rintro n U ⟨i,l,H3,ok,ov,I3,Q,a8,w3,hi,rfl⟩;obtain⟨a9,e1⟩:=a3 I3;by_cases b0:i<es.size
 .refine Nb hp (FK Q a9 h3 b0 λh' e2 ht p3 hk=>?_);refine Nb hp (wpAny_letOwnedTupleGo_items (s:={ U with heap:=h' }) e2 λh5 e5 s5=>?_);replace s5:MA E h' h5:=s5;have e3:E<U.heap.objs.size:=Lr Q;obtain⟨x,hx,e4⟩:∃x,xs[i]?=some x/\es[i]=entryOfKey (tupleKind (K3 X.prog X.w)) x:=by
   have:es.toList[i]?=some es[i]:=by simp[b0]
   rw[h4,LL]at this;obtain⟨x,a,b⟩:=Mi.mp this;exact⟨x,a,b.symm⟩
  have g8:i<a5.length:=by symm
  obtain⟨ku,e6⟩:∃p,a5[i]?=some p:=⟨_,LB g8⟩;obtain⟨r1,r2,r3⟩:ku.1=x.1/\H1 x.2.1=some (.tup (ku.1.map L2.kV))/\L2.RelV ku.2 x.2.2:=by
   obtain⟨y,hy,r⟩:=FP a6 e6;rw[hx]at hy;cases hy;exact r
  have g9:=wt i l H3 w3 _ _ r2;have I5:L2.Inv X (c++[(d,B)]) l (aB H3 U.heap.objs.size (.tup [.ref x.2.1,ku.2])) { U with heap:=h5 }:=by
   refine s9 (t':=U.toks) I3 (O a8) (λb u J q=>?_) (Lp _) ⟨by show 2<=sizeLine;decide,[es[i].key,es[i].val],.cons ?_ (.cons ?_ .nil),_,s5.extBut _ _ (Nx e3) ht,rfl,_,rfl⟩
   .have J:b≠E:=λz=>J (by simp[z]);exact s5.extBut b u J (hk b u J q)
   .rw[e4];rfl
   .rw[e4];exact r3
  have h6:aB H3 U.heap.objs.size (.tup [.ref x.2.1,ku.2]) E=none:=by rw[aj (Ly e3)];exact a8
  have h7:=I5.pinned (O h6) (λb J=>by rw[Ls.mp J];exact⟨_,e5,λv z=>by cases z⟩);refine Nb hp (aI (hg _ _ l _ (.ref U.heap.objs.size) _ _ h7 rfl (step i ku.1 ku.2 l H3 x.2.1 U.heap.objs.size e6 w3 g9 (I3.hok.fresh (Lp _)) (Nx (Lr a9)))) λ_ s6 h8=>?_);obtain⟨h9,H6,I6,q6⟩:=h8;refine Nb hp (aI (J _ s6 h9 H6 _ I6 q6) λf s7 q7=>?_);have i1:∀{G H7},L2.Inv X (c++[(d,B)]++ly [E] h5) G H7 s7->Rm s7.heap E d (i+1) es.size ep es[i].key es[i].val/\H7 E=none:=λI7=>by
   have q:=I7.pin (E,_) (Ma _ (Ma _ (S9 (SE E) e5)));exact⟨q.1,q.2.1⟩
  cases f with
  | next=>
    obtain⟨G,H7,I7,n7⟩:=q7;obtain⟨p1,p2⟩:=i1 I7;exact⟨es.size+1 - (i+1),by symm,i+1,G,H7,_,_,I7.unpinned,p1,p2,n7,b0,rfl⟩
  | cont=>obtain⟨G,H7,I7,n7⟩:=q7;exact n7.elim
  | brk=>obtain⟨G,H7,I7,n7⟩:=q7;exact n7.elim
  | ret v=>obtain⟨x7,G,H7,I7,r7,n7⟩:=q7;exact n7.elim
 .have i2:i=es.size:=by symm
  refine Nb hp (FL (I3.ok.hd hc) Q a9 h3 (by symm) λh' eb=>Ov ?_);have I4:L2.Inv X (c++[(d,B)]) l H3 { U with heap:=h' }:=qy (t':=U.toks) I3 (O a8) λb u J q=>eb b u (λz=>J (by simp[z])) q;obtain⟨j1,_⟩:=a3 I4;rw[i2,g5]at w3;refine⟨l,_,FT I4 h0 g4 ⟨hz,a2,xs,?_,B,es,ep,j1,h2,h3,h4,nd⟩,fin l H3 w3 e1⟩;refine L2.Paired.mapP a6 λa b r=>⟨r.1,?_,r.2.2⟩;have:=wt _ _ _ w3 _ _ r.2.1;rw[aj]
  .exact this
  .rintro z;rw[z,e1]at this;cases this
end Ws
namespace Ws
open PySem L2
def rF(e:H d=some (.dT kv)):ax ρ H ρ (Z5 H d):=by
 refine⟨LO _,λa b h=>?_,λa b h=>?_⟩;all_goals
  rw[mz]
  .exact h
  .rintro rfl;rw[e]at h;cases h
def FW{K:Lm}(r:aL K cm ρ A H)(C:ρ[n]?=some d)(s:A[n]?=some (.dT m))(e:H d=some (.dT kv)):aL K cm ρ (A.set n .hid) (Z5 H d):=by
 have D:∀{b u},H b=some u->(∀k,u≠.dT k)->Z5 H d b=some u:=λ{b u} h f=>by
  rw[mz]
  .exact h
  .rintro rfl;rw[e]at h;cases h;exact f _ rfl
 refine⟨r.tab.keep λa u h f=>D h λk z=>?_,by simp[r.len],λj o a c g=>?_,λi j a o p c g E G w x=>?_⟩
 .subst z;rcases f with⟨_,f⟩ | ⟨_,_,f⟩<;>cases f
 .by_cases v:j=n
  .subst v;rw[NH (LA.mp s).1]at c;cases c;exact trivial
  .rw[MG (Na v)]at c;have q:=r.obj j o a c g;by_cases y:a=d
   .subst y;cases o with
    | ro l=>
      obtain⟨I,h,q⟩:=q;rcases h with⟨u,h⟩ | h
      .rw[e]at h;cases h
      .exact⟨I,.inr h,q.mono (rF e)⟩
    | hid=>exact trivial
    | _=>exact(v (r.inj j n _ _ _ g C c s rfl rfl)).elim
   .exact q.keep (rF e) λu h=>by rw[mz y];exact h
 .have ne:∀{k q},(A.set n .hid)[k]?=some q->R1 q=true->A[k]?=some q:=λ{k q} h J=>by
   by_cases B:k=n
   .rw[B,NH (LA.mp s).1]at h;cases h;cases J
   .rwa [MG (Na B)]at h
  exact r.inj i j a o p c g (ne E w) (ne G x) w x
def FX{K:Lm}(r:aL K cm ρ A H)(s:ρ[n]?=some d)(C:A[n]?=some .hid)(g:H d=none)(D:Pairs (Qz MR:List Int->List Key) ρ H m kv):aL K cm ρ (A.set n (.dT m)) (aB H d (.dT kv)):=by
 have x:ax ρ H ρ (aB H d (.dT kv)):=ax.same g;have e:∀{k q},ρ[k]?=some d->A[k]?=some q->R1 q=true->False:=λ{k q} b c E=>by
  obtain⟨u,y⟩:=(r.obj k q d c b).some E;rw[g]at y;cases y
 refine⟨r.tab.keep λa u h _=>M9 g a u h,by simp[r.len],λj o a b c=>?_,λi j a o p b c v l z B=>?_⟩
 .by_cases f:j=n
  .subst f;rw[NH (LA.mp C).1]at b;cases b;rw[s]at c;cases c;exact⟨_,C2,D.mono x⟩
  .rw[MG (Na f)]at b;exact(r.obj j o a b c).keep x λu h=>M9 g a u h
 .by_cases w:i=n
  .by_cases f:j=n
   .rw[w,f]
   .subst w;rw[s]at b;cases b;rw[MG (Na f)]at l;exact(e c l B).elim
  .rw[MG (Na w)]at v;by_cases f:j=n
   .subst f;rw[s]at c;cases c;exact(e b v z).elim
   .rw[MG (Na f)]at l;exact r.inj i j a o p b c v l z B
def FY(O:Tf (model X.prog X.w) X.A X.env X.xe)(hc:X.calm=true)(ho:Pe X cm o d)(hg:Pg X cm (.Tuple C z1 pt) g)(hb:eS X cm E b)
 (hbase:autoParam (attributeBase o "items" X.env (eval o X.env)=eval o X.env) au0._auto_1) (hline:autoParam ((j.endLine == l.line)=true) au0._auto_1)
 (hs:∀x,foldedSetIterable (.Call (.Attribute o "items" j) [] [] l) X.env x=pure x:=by intro _;rfl):Ps X cm (.For (.Tuple C z1 pt) (.Call (.Attribute o "items" j) [] [] l) E [] a9) (qg d g b):=
 Q3 (FV O hc ho hg hb hbase hline hs) λD σ H hq=>by
  obtain⟨ρ,A,Q,f,A',rl,rs,ev,k⟩:=hq;obtain⟨x,A1,e1,T⟩:=B0 ev;refine⟨ρ,A,Q,x,A1,rl,rs,e1,λy H1 v1 x1 U b2=>?_⟩;cases x with
  | ref n=>
    obtain⟨m,A2,e2,b3⟩:=B0 T;obtain⟨rfl,hA,a,kv,rfl,hn,hH,O⟩:=M3 U b2 e2;obtain⟨_,A3,e3,c0⟩:=B0 b3;cases e3;obtain⟨c1,A4,e4,c2⟩:=B0 c0;obtain⟨_,A5,J,c3⟩:=B0 c2;have Y:kv.map (·.1)=m.map λp=>p.1.map MR:=O.keys;have G:m.length=kv.length:=by simpa using(congrArg List.length Y).symm
    have xh:ax y H1 y (Z5 H1 a):=rF hH;refine⟨a,kv,λi r s=>∃e B h,ax y (Z5 H1 a) e s/\aL X.K cm e B s/\bR e s h r/\nG g b (m.drop i) h B=.ok c1 A4,rfl,hH,⟨y,_,Q,ax.refl _ _,FW U hn hA hH,(rs.mono x1).mono xh,e4⟩,?_,?_,?_⟩
    .rintro i r s ⟨e,B,h,I,_⟩ c ys hc;exact(xh.trans I).tup c ys hc
    .rintro i ks u r s kb p hi ⟨e,B,h,I,L,N,v⟩ d1 a1 j2;have a2:i<m.length:=by rw[G];exact(LA.mp hi).1
     have hm:m[i]?=some m[i]:=LB a2;rw[Oq a2]at v;have d2:ks=m[i].1.map MR:=by
      have q:=congrArg (·[i]?) Y;simp only[LL,hi,hm,Rv,Option.some.injEq]at q;exact q
     obtain⟨u',a3,ru⟩:=O.vals.get (i:=i) (x:=m[i].2) (by rw[LL,hm];rfl);rw[LL,hi]at a3;cases a3;have x3:ax e s e (aB s p (.tup [.ref kb,u])):=ax.same a1;have rk:RV e (aB s p (.tup [.ref kb,u])) (.tup (m[i].1.map .int)) (.ref kb):=by
      refine .tup (x3.tup _ _ d1) ?_;rw[d2,LM];exact RVs.ints _
     obtain⟨a4,B4,e6,e0⟩:=B0 v;obtain⟨q,B5,e7,a5⟩:=B0 e0;refine⟨e,B,h,_,a4,B4,L.tup a1,N.mono x3,.tup C2 (.cons rk (.cons (((ru.mono xh).mono I).mono x3) .nil)),e6,λe8 H4 k4 x4 e9 f0=>⟨e8,B4,a4,q,B5,e9,f0,e7,λf1 H5 x5 f2=>?_⟩⟩;cases q with
     | nx f3=>exact λk6 f4=>⟨f1,B5,f3,((I.trans x3).trans x4).trans x5,f2,f4,a5⟩
     | _=>cases a5
    .rintro r s ⟨e,B,h,I,L,N,v⟩ hd;rw[<-G,SR]at v;cases v;unfold qf at J;rcases z:A4[n]? with _ | q
     .rw[z]at J;cases J
     .cases q with
      | hid=>
        rw[z]at J;cases J;cases c3;have x4:ax e s e (aB s a (.dT kv)):=ax.same hd;exact k e _ (((x1.trans xh).trans I).trans x4) (FX L (nH I.pre hn) z hd ((O.mono xh).mono I)) r (N.mono x4)
      | _=>rw[z]at J;cases J
  | _=>cases T
end Ws
namespace Ws
open PySem PySem.W PyProof.Rows L2
def FZ:entryFor table "set.__eq__" = some MK.«frozenset.__eq__»:=TY (id':="frozenset.__eq__") (by kernel_rfl) rfl (by decide +kernel) (by kernel_rfl)
def wB(h:(intKind prog w).is k v=true):∃t,v=.int k t:=by
 have h:Sh k v=true:=h;cases v<;>simp[Sh]at h;exact⟨_,by rw[h]⟩
def Ga(p:s.heap.get? a=some o)(q:o.data=.set es ep t)(r:UT (intKind prog w) es.toList)(u:t.fits es.size=true)
 (v:s.heap.get? b=some m) (y:m.data=.set f g t') (B:UT (intKind prog w) f.toList) (C:t'.fits f.size=true) (h:Q es.toList s):wpAny (model prog w) A (Rj a b) Q E s:=by
 unfold Rj setEntries;refine L0 (L0 (MH p q u (Lk ?_)));refine L0 (L0 (MH v y C (Lk ?_)));refine L0 (SQ _ (λd c i=>(∀e∈d,∃k t,e.2=.int k t)/\c=(none,())/\i=s) _ ?_ ?_ _ _ ⟨?_,rfl,rfl⟩)
 .rintro⟨D,x⟩ d c i ⟨n,rfl,rfl⟩;obtain⟨k,t,rfl⟩:=n _ Lz;exact Lk ⟨λe j=>n e (LC _ j),rfl,rfl⟩
 .rintro c i ⟨_,rfl,rfl⟩;exact Lk h
 .intro e j;rcases LY.mp j with z | z
  .obtain⟨⟨k,l,_⟩,_⟩:=r e z;exact⟨k,wB l⟩
  .obtain⟨⟨k,l,_⟩,_⟩:=B e z;exact⟨k,wB l⟩
def Gb(ha:s.heap.SetOf (intKind prog w) a S n)(L:s.heap.SetOf (intKind prog w) b T m)(a5:n=m)
 (h:∀r,(r=true↔∀k,S k=true->T k=true)->Q r s):wpAny (model prog w) A (RC nm a b) Q E s:=by
 have y:=L;obtain⟨o,B,ep,t,p,h2,q,N,O,h6,u,h8⟩:=ha;obtain⟨o',C,a6,t',U,g2,Y,g4,g5,g6,g7,g8⟩:=L;unfold RC Sd setEntries setEpoch;refine L0 (L0 (L0 (MH p q u (Lk (Lk ?_)))));refine L0 (L0 (L0 (MH U Y g7 (Lk (Lk ?_)))));rw[if_neg (by show ¬C.size<B.size;symm)];refine L0 (L0 (MH p q u (Lk ?_)));refine L0 (Ga p q N u U Y g4 g7 ?_);refine L0 (SQ _ (λd c D=>(∃pre,B.toList=pre++d/\∀e∈pre,∀k,(intKind prog w).is k e.2=true->T k=true)/\c=(none,())/\D=s) _ ?_ ?_ _ _ ⟨⟨[],rfl,λe f=>by cases f⟩,rfl,rfl⟩)
 .rintro⟨hx,x⟩ d c D ⟨⟨pre,v,G⟩,rfl,rfl⟩;have hm:(hx,x)∈B.toList:=by rw[v];simp
  obtain⟨⟨k,g,H⟩,hs⟩:=N _ hm;have H:hx=(intKind prog w).hash k:=H;subst H;refine L0 (Mh (wpAny_setFind_of g hs y λr l=>?_));cases r with
  | none=>
    refine Lk ?_;refine Lk (h false ⟨λz=>(nomatch z),λz=>?_⟩);have:=z k ((O k).mpr ⟨_,hm,g⟩);rw[<-l]at this;cases this
  | some i=>
    refine L0 ?_;unfold MK.Frozenset.unchanged setEpoch;refine L0 (L0 (MH p q u (Lk ?_)));rw[if_neg (by simp)];refine Lk (Lk ⟨⟨pre++[((intKind prog w).hash k,x)],by rw[v];simp,λe f j I=>?_⟩,rfl,rfl⟩);rcases LY.mp f with z | z
    .exact G e z j I
    .rw[Ls.mp z]at I;obtain rfl:=(intKind prog w).inj _ _ _ g I;exact l.symm
 .rintro c D ⟨⟨pre,v,G⟩,rfl,rfl⟩;refine Lk (h true ⟨λ_ k g=>?_,λ_=>rfl⟩);obtain⟨e,f,J⟩:=(O k).mp g;exact G e (by rw[v]at f;simpa using f) k J
def SetOf.type{prog:LK}{w:Mv}{s:Ln}{K:Type}[DecidableEq K]{knd:KeyKind prog w K}{a:Addr}{S:K->Bool}{n:Nat}(h:s.heap.SetOf knd a S n):s.TypeIs (.ref a) "set":=by
 obtain⟨o,d,e,t,b,c,_⟩:=h;exact⟨o,b,c.1⟩
def Gc(d:s.heap.SetOf (intKind prog w) a S n)(f:s.heap.SetOf (intKind prog w) b T m)(u:A.units<cLine)
 (h:∀r,(r=true↔n=m/\∀k,S k=true->T k=true)->Q (.bool r) s):wpAny (model prog w) A (richCompare .Eq (.ref a) (.ref b)) Q E s:=by
 have g:=SetOf.type d;have l:=SetOf.type f;refine wpAny_richCompare_same_room g l F.slot_set_eq (Mc F.slot_set_eq g FZ ?_ (F.args_set_eq_2 _ _)) u;unfold MK.«frozenset.__eq__»;refine L0 (m:=MK.Frozenset.slot1 "__eq__" ⟨[.ref a,.ref b],[]⟩) ?_;show wpAny _ _ (pure (LJ a,LJ b)) _ _ s;refine Lk ?_;dsimp only;have i:=d;have j:=f;obtain⟨o,p,I,t,v,J,y,L,N,O,B,U⟩:=d;obtain⟨Y,c,C,t',D,g2,G,g4,g5,g6,H,g8⟩:=f;refine L0 (L0 (NF l sub_set_self ?_));refine Lk ?_;rw[if_neg (by simp)];refine L0 (Lk ?_);refine L0 (Lk ?_);unfold Sd setEntries;refine L0 (L0 (L0 (MH v y B (Lk (Lk ?_)))));refine L0 (L0 (L0 (MH D G H (Lk (Lk ?_)))));refine L0 ?_;by_cases e:n=m
 .rw[if_neg (by show ¬(p.size != c.size)=true;simp;symm)];refine L0 (L0 (NF g F.sub_set_frozenset ?_));refine Lk ?_;rw[if_neg (by simp)];refine Gb i j e λr q=>?_;exact Lk ⟨_,rfl,(λx=>nomatch x),h r ⟨λz=>⟨e,q.mp z⟩,λz=>q.mpr z.2⟩⟩
 .rw[if_pos (by show(p.size != c.size)=true;simp;symm)];exact Lk (Lk ⟨_,rfl,(λx=>nomatch x),h false ⟨λz=>(nomatch z),λz=>(e z.1).elim⟩⟩)
def Gd(ns:List Int)(k:Int):((firstMet (λi=>ns.getD i 0) ns.length).any (·== k))=decide (k∈ns):=by
 rw[firstMet_any];have e:(Mo ns.length).map (λi=>ns.getD i 0)=ns:=by
  refine Pl λk=>?_;rw[LL];by_cases a:k<ns.length
  .rw[List.getElem?_range a];simp[a]
  .simp[a]
 rw[e];by_cases h:k∈ns
 .simp[h]
 .simp[h];exact λx b z=>h (z ▸ b)
def Ge{p1 p2 q1 q2:Pos}(f:X.calm=true)(hu:X.A.units+1<cLine)(ha:Pe X cm a da)(Y:Pe X cm b db)(hg:Gl X "set")(hm:X.mg "set" = none)
 (a0:starEach [a] X.env=(false,eval a X.env)::starEach [] X.env) (a1:starEach [b] X.env=(false,eval b X.env)::starEach [] X.env) :
 PC X .Eq (.Call (.Name "set" p1) [a] [] q1) (.Call (.Name "set" p2) [b] [] q2) (cJ X.K cm (lI da db)):=by
 intro D s σ H Q I h;obtain⟨ρ,A,a2,v,A',rl,rs,ev,k⟩:=h;obtain⟨x,A1,e1,a3⟩:=B0 ev;refine UW (S8 I hg hm (show bootBuiltins "set" = some (.type "set")from by rfl) (callWith_type1 (c8 a0 ?_) a0 rfl));refine aI (ha D s σ H (λv O=>∃(c:Addr)(ns:List Int),v=.ref c/\bx X.K O c (ns.map V.int)/\ns.length<900/\cJ X.K cm db σ O λv2 T=>∃(U:Addr)(C:List Int),v2=.ref U/\bx X.K T U (C.map V.int)/\C.length<900/\Q (.bl (X6 ns C)) T) I ⟨ρ,A,a2,x,A1,rl,rs,e1,λe0 O v1 x1 a4 e5=>?_⟩) λu s1 zq=>?_
 .cases x with
  | ref n=>
    obtain⟨l,A2,e2,e7⟩:=B0 a3;obtain⟨rfl,hA,c,xs,rfl,hn,hH,r0⟩:=K4 a4 e5 e2;obtain⟨y,A3,e3,a5⟩:=B0 e7;cases y with
    | ref j=>
      obtain⟨l2,A4,e4,d⟩:=B0 a5;cases G:J9 l with
      | none=>rw[G]at d;cases d
      | some ns=>
        cases hj:J9 l2 with
        | none=>rw[G,hj]at d;cases d
        | some C=>
          rw[G,hj]at d;obtain⟨g,e9⟩:=B9 d;cases e9;rw[P0 G]at r0;refine⟨c,ns,rfl,by rw[<-Z3 r0];exact bx.of hH,g.1,e0,_,a2,_,A3,a4,rs.mono x1,e3,λf0 T v2 x2 a6 f1=>?_⟩;obtain⟨rfl,l3,U,m0,rfl,m1,f2,r2⟩:=K4 a6 f1 e4;rw[P0 hj]at r2;exact⟨U,C,rfl,by rw[<-Z3 r2];exact bx.of f2,g.2,k f0 T _ (x1.trans x2) a6 (.bl _)⟩
    | _=>cases a5
  | _=>cases a3
 .obtain⟨w1,O,I1,r1,c,ns,ew,hq,f3,q⟩:=zq;subst ew;obtain rfl:u=LJ c:=r1;obtain⟨J,ri,pl,hz⟩:=I1.list hq;have G:Ol J ns:=Q0 ri;have hl:J.length=ns.length:=G.length;refine Up (I1.ok.hd f) pl.isList (by simpa using G) (by rw[LF,hl];exact LI (QQ f3) (by decide)) λh' tk E a8=>?_;have f4:J.toArray.size=ns.length:=by rw[LF,hl]
  rw[f4]at E;have I2:L2.Inv X D σ O { s1 with heap:=h',toks:=tk }:=I1.kept (λb ob e=>a8 b ob (Lr e) e);obtain⟨o,es,ep,t,k1,k2,k3,k4⟩:=E;have b1:=I2.pinned (fp:=[s1.heap.objs.size]) (λb Y=>by rw[Ls.mp Y];exact I1.fpOk (Lp _) (I1.hok.fresh (Lp _))) (λb Y=>by rw[Ls.mp Y];exact⟨o,k1,λv z=>by rw[k3]at z;cases z⟩);refine UW (S8 b1 hg hm (show bootBuiltins "set" = some (.type "set")from by rfl) (callWith_type1 (c8 a1 ?_) a1 rfl));refine aI (Y _ _ σ O _ b1 q) λu2 s3 zq=>?_;obtain⟨w2,T,I3,r3,U,C,g0,g1,b2,q2⟩:=zq;subst g0;obtain rfl:u2=LJ U:=r3;obtain⟨m,g2,g3,p8⟩:=I3.list g1;have b3:Ol m C:=Q0 g2;have b5:m.length=C.length:=b3.length;refine Up (I3.ok.hd f) g3.isList (by simpa using b3) (by rw[LF,b5];exact LI (QQ b2) (by decide)) λL c0 p B=>?_;have c1:m.toArray.size=C.length:=by rw[LF,b5]
  rw[c1]at p;have p1:=(I3.pin (s1.heap.objs.size,o) (Ma _ (Ma _ (S9 (SE _) k1)))).1;have N:Heap.SetOf (intKind X.prog X.w) L s1.heap.objs.size (λk'=>(firstMet (λi=>ns.getD i 0) ns.length).any (·== k')) (firstMet (λi=>ns.getD i 0) ns.length).length:=⟨o,es,ep,t,B _ _ (Lr p1) p1,k2,k3,k4⟩;refine Gc (s:={ s3 with heap:=L,toks:=c0 }) N p (by symm) λr hr=>?_;have er:r=X6 ns C:=by
   rw[qP,qP]at hr;rw[Bool.eq_iff_iff,hr];unfold X6;simp only[Gd,decide_eq_true_eq,LH,LV]
  subst er;exact⟨.bl _,T,(I3.unpinned).kept (h':=L) (t':=c0) (λb ob e=>B b ob (Lr e) e),rfl,q2⟩
def Gf{p1 j l m d:Pos}(c:X.calm=true)(n:X.A.units+1<cLine)(o:Pe X cm a g)(p:Pe X cm b i)(q:Gl X "set")(r:X.mg "set" = none)
 (e:autoParam (starEach [a] X.env=(false,eval a X.env)::starEach [] X.env) au2._auto_1) (f:autoParam (starEach [b] X.env=(false,eval b X.env)::starEach [] X.env) au2._auto_1) :
 Pt X cm (.Compare (.Call (.Name "set" p1) [a] [] l) [.Eq] [.Call (.Name "set" j) [b] [] m] d) (av (lI g i)):=
 s8 (mR (Ge c n o p q r e f)) λs H Q h=>l8 (λ_ _ _ z=>z) h
end Ws
namespace Ws
abbrev XP:=Nat->PV->PHp->Prop
def Wp{d:Type}(m:M d)(A:PHp)(Q:d->PHp->Prop)(E:XP):Prop:=match m A with
 | .ok a b=>Q a b
 | .ex c v b=>E c v b
 | .no=>False
abbrev NoX:XP:=λ_ _ _=>False
section
variable{α β:Type}{m:M α}{f:α->M β}{A A' A1 B:PHp}{a:α}{E E':XP}{σ σ':PSt}
def w_eq(h:m A=.ok a A')(q:Q a A'):Wp m A Q E:=by unfold Wp;rw[h];exact q
def mB(h:Wp m A Q NoX):∃a A',m A=.ok a A'/\Q a A':=by
 unfold Wp at h;cases e:m A with
 | ok a A'=>rw[e]at h;exact⟨a,A',rfl,h⟩
 | _=>rw[e]at h;exact h.elim
def bX(h:Wp m A Q E)(d:∀a A',Q a A'->b a A')(he:∀c v A',E c v A'->E' c v A'):Wp m A b E':=by
 unfold Wp at h ⊢;cases e:m A with
 | ok a A'=>simp_all
 | ex c v A'=>simp_all
 | no=>simp_all
def af(h:Wp m A Q E)(c:∀a A',Q a A'->b a A'):Wp m A b E:=bX h c λ_ _ _ z=>z
def wC(h:Wp m A Q NoX)(c:∀a A',Q a A'->b a A'):Wp m A b E:=bX h c λ_ _ _ z=>z.elim
def hJ(q:Q a A):Wp (ret a) A Q E:=q
def B6(h:Wp m A (λa A1=>Wp (f a) A1 Q E) E):Wp (ao m f) A Q E:=by
 unfold Wp at h ⊢;unfold ao;cases e:m A with
 | _=>rw[e]at h;exact h
def C7{P:Prop}(p:P)(h:Wp m A Q E):Wp (D5 P m) A Q E:=by rw[J5 p];exact h
variable{Q:PV->PHp->Prop}{e e1 e2 e3:ED}{es:AD}{v x y:PV}{i j:Int}{k n:Nat}{l:List PV}
def w_var(h:σ[k]?=some (some v))(q:Q v A):Wp (ae k σ) A Q E:=w_eq (by simp_all) q
def Gg(q:Q v A):Wp (eK v σ) A Q E:=q
def wD{Q:List PV->PHp->Prop}(q:Q [] A):Wp (aNil σ) A Q E:=q
def wF{Q:List PV->PHp->Prop}(h:Wp (e σ) A (λx A1=>Wp (es σ) A1 (λb c=>Q (x::b) c) E) E):Wp (ag e es σ) A Q E:=
 B6 (af h λ_ _ d=>B6 (af d λ_ _ g=>g))
def Gh(h:Wp (es σ) A (λb A1=>b.length<=LIM/\Q (.tup b) A1) E):Wp (aX es σ) A Q E:=B6 (af h λ_ _ ⟨c,d⟩=>C7 c d)
def Gi(h:Wp (es σ) A (λb A1=>b.length<=LIM/\Q (.ref A1.length) (A1++[.lst b])) E):Wp (bA es σ) A Q E:=B6 (af h λ_ _ ⟨c,d⟩=>C7 c d)
def kW{f:OD}(h:Wp (e1 σ) A (λx A1=>Wp (e2 σ) A1 (λy b=>Wp (f x y) b Q E) E) E):Wp (eBin f e1 e2 σ) A Q E:=B6 (af h λ_ _ c=>B6 c)
def Gj(q:Q (.int (i+j)) A):Wp (aS (.int i) (.int j)) A Q E:=q
def km{l m:List PV}(h:l≠[]/\l.length+m.length<=LIM)(q:Q (.tup (l++m)) A):Wp (aS (.tup l) (.tup m)) A Q E:=C7 h q
def hV{Q:List PV->PHp->Prop}(h:A[n]?=some (.lst l))(q:Q l A):Wp (Q9 n) A Q E:=w_eq (um h) q
def ei{l m:List PV}(b:A[n]?=some (.lst l))(c:A[k]?=some (.lst m))(d:l.length+m.length<=LIM)(q:Q (.ref A.length) (A++[.lst (l++m)])):Wp (aS (.ref n) (.ref k)) A Q E:=
 B6 (hV b (B6 (hV c (C7 d q))))
def Gk(q:Q (.int (i - j)) A):Wp (fH (.int i) (.int j)) A Q E:=q
def w_mul(h:(-(2 ^ 64)<i/\i<2 ^ 64)\/(-(2 ^ 64)<j/\j<2 ^ 64))(q:Q (.int (i*j)) A):Wp (cG (.int i) (.int j)) A Q E:=C7 h q
def w_mod(h:0<j)(q:Q (.int (i%j)) A):Wp (bH (.int i) (.int j)) A Q E:=C7 h q
def ko(h:0<j/\j<1073741824)(q:Q (.int (i / j)) A):Wp (bB (.int i) (.int j)) A Q E:=C7 h q
def w_lt(q:Q (.bl (decide (i<j))) A):Wp (eO (.int i) (.int j)) A Q E:=q
def Gm(q:Q (.bl (decide (j<i))) A):Wp (ju (.int i) (.int j)) A Q E:=q
def wG(q:Q (.bl (decide (j<=i))) A):Wp (kF (.int i) (.int j)) A Q E:=q
def Gn(q:Q (.bl (decide (i=j))) A):Wp (ck (.int i) (.int j)) A Q E:=B6 (C7 (.inr ⟨rfl,rfl⟩) q)
def Gp(q:Q (.bl (!decide (i=j))) A):Wp (cQ (.int i) (.int j)) A Q E:=B6 (C7 (.inr ⟨rfl,rfl⟩) q)
def Gq{l m:List PV}(h:plain (.tup l)=true/\plain (.tup m)=true)(q:Q (.bl (eqvs l m)) A):Wp (ck (.tup l) (.tup m)) A Q E:=B6 (C7 (.inr h) q)
def Gr{l m:List PV}(h:plain (.tup l)=true/\plain (.tup m)=true)(q:Q (.bl (!eqvs l m)) A):Wp (cQ (.tup l) (.tup m)) A Q E:=B6 (C7 (.inr h) q)
def Gs(b:plain x=true)(c:plain y=true)(q:Q (.bl (bJ x y)) A):Wp (ck x y) A Q E:=by
 cases x with
 | ref n=>cases b
 | _=>exact B6 (C7 (.inr ⟨b,c⟩) q)
def iU(b:plain x=true)(c:plain y=true)(q:Q (.bl (!bJ x y)) A):Wp (cQ x y) A Q E:=by
 cases x with
 | ref n=>cases b
 | _=>exact B6 (C7 (.inr ⟨b,c⟩) q)
def R8{Q:List PV->PHp->Prop}(h:A[n]?=some (.lst l))(q:Q l A):Wp (E7 n) A Q E:=w_eq (G8 h) q
def wH{Q:List PV->PHp->Prop}(h:A[n]?=some (.ro l))(q:Q l A):Wp (E7 n) A Q E:=w_eq (by simp_all) q
def eD{l m:List PV}(b:A[n]?=some (.lst l))(c:A[k]?=some (.lst m))(d:G6 l=true/\G6 m=true)(q:Q (.bl (eqvs l m)) A):Wp (ck (.ref n) (.ref k)) A Q E:=
 B6 (B6 (R8 b (B6 (R8 c (C7 d q)))))
def iV{l m:List PV}(b:A[n]?=some (.lst l))(c:A[k]?=some (.lst m))(d:G6 l=true/\G6 m=true)(q:Q (.bl (!eqvs l m)) A):Wp (cQ (.ref n) (.ref k)) A Q E:=
 B6 (B6 (R8 b (B6 (R8 c (C7 d q)))))
def wI(b:A[n]?=some (.lst l))(c:plain x=true/\G6 l=true)(q:Q (.bl (dc x l)) A):Wp (dv x (.ref n)) A Q E:=B6 (R8 b (C7 c q))
def Gu(b:plain x=true/\G6 l=true)(q:Q (.bl (dc x l)) A):Wp (dv x (.tup l)) A Q E:=B6 (hJ (C7 b q))
def wJ(b:A[n]?=some (.lst l))(c:plain x=true/\G6 l=true)(q:Q (.bl (!dc x l)) A):Wp (bt x (.ref n)) A Q E:=B6 (R8 b (C7 c q))
def rG(b:plain x=true/\G6 l=true)(q:Q (.bl (!dc x l)) A):Wp (bt x (.tup l)) A Q E:=B6 (hJ (C7 b q))
def Gv(h:Wp (e σ) A (λx A1=>Q (.bl (nk x)) A1) E):Wp (gI e σ) A Q E:=B6 h
variable{QB:Bool->PHp->Prop}{t t1 t2:TD}{b:Bool}
def wK(q:QB true A):Wp (bp σ) A QB E:=q
def oM(h:Wp (e σ) A (λx A1=>∃b,x=.bl b/\QB b A1) E):Wp (av e σ) A QB E:=B6 (af h λx A1 ⟨b,c,q⟩=>by subst c;exact q)
def Gw(h:Wp (t1 σ) A (λb A1=>(b=true->Wp (t2 σ) A1 QB E)/\(b=false->QB false A1)) E):Wp (tAnd t1 t2 σ) A QB E:=B6 (af h λb A1 c=>by
 obtain⟨d,g⟩:=c;cases b with
 | true=>exact d rfl
 | false=>exact g rfl)
def Gx(h:Wp (t1 σ) A (λb A1=>(b=true->QB true A1)/\(b=false->Wp (t2 σ) A1 QB E)) E):Wp (tOr t1 t2 σ) A QB E:=B6 (af h λb A1 c=>by
 obtain⟨d,g⟩:=c;cases b with
 | true=>exact d rfl
 | false=>exact g rfl)
def Gy(h:Wp (t σ) A (λb A1=>QB (!b) A1) E):Wp (tNot t σ) A QB E:=B6 h
def Gz(h:Wp (e1 σ) A (λx A1=>∃b,x=.bl b/\((b=true->Wp (e2 σ) A1 Q E)/\(b=false->Q (.bl false) A1))) E):Wp (Y9 e1 e2 σ) A Q E:=B6 (B6 (af h λx A1 c=>by
 obtain⟨b,d,g,o⟩:=c;subst d;cases b with
 | true=>exact g rfl
 | false=>exact o rfl))
def GA(h:Wp (e1 σ) A (λx A1=>∃b,x=.bl b/\((b=true->Q (.bl true) A1)/\(b=false->Wp (e2 σ) A1 Q E))) E):Wp (nq e1 e2 σ) A Q E:=B6 (B6 (af h λx A1 c=>by
 obtain⟨b,d,g,o⟩:=c;subst d;cases b with
 | true=>exact g rfl
 | false=>exact o rfl))
def w_not(h:Wp (e σ) A (λx A1=>∃b,x=.bl b/\Q (.bl (!b)) A1) E):Wp (de e σ) A Q E:=B6 (B6 (af h λx A1 ⟨b,c,q⟩=>by subst c;exact q))
def GB(h:Wp (t σ) A (λb A1=>(b=true->Wp (e1 σ) A1 Q E)/\(b=false->Wp (e2 σ) A1 Q E)) E):Wp (nr t e1 e2 σ) A Q E:=B6 (af h λb A1 c=>by
 obtain⟨d,g⟩:=c;cases b with
 | true=>exact d rfl
 | false=>exact g rfl)
def dM(c:A[n]?=some (.lst l))(d:atI l i=some v)(q:Q v A):Wp (oIx (.ref n) (.int i)) A Q E:=B6 (R8 c (by rw[d];exact q))
def mD(c:A[n]?=some (.ro l))(d:atI l i=some v)(q:Q v A):Wp (oIx (.ref n) (.int i)) A Q E:=B6 (wH c (by rw[d];exact q))
def gi(c:atI l i=some v)(q:Q v A):Wp (oIx (.tup l) (.int i)) A Q E:=by
 refine w_eq ?_ q;simp[c]
def GC(h:Wp (e σ) A (λx A1=>Wp (O7 x) A1 (λl c=>Q (.int l.length) c) E) E):Wp (q8 e σ) A Q E:=B6 (af h λ_ _ d=>B6 d)
def ej{Q:List PV->PHp->Prop}(h:A[n]?=some (.lst l))(q:Q l A):Wp (O7 (.ref n)) A Q E:=R8 h q
def kq{Q:List PV->PHp->Prop}(h:A[n]?=some (.ro l))(q:Q l A):Wp (O7 (.ref n)) A Q E:=wH h q
def kr{Q:List PV->PHp->Prop}(q:Q l A):Wp (O7 (.tup l)) A Q E:=q
def dN(h:Wp (e σ) A (λx A1=>Wp (O7 x) A1 (λl c=>Q (.ref c.length) (c++[.lst l])) E) E):Wp (l4 e σ) A Q E:=B6 (af h λ_ _ d=>B6 d)
def GF(h:Wp (e σ) A (λx A1=>∃n l,x=.ref n/\A1[n]?=some (.lst l)/\l.length<=LIM/\Q (.tup l) A1) E):Wp (i4 e σ) A Q E:=B6 (af h λx A1 c=>by
 obtain⟨n,l,d,g,o,q⟩:=c;subst d;exact B6 (R8 g (C7 o q)))
variable{QO:Option Int->PHp->Prop}{lo hi:LD}
def GG(q:QO none A):Wp (gJ σ) A QO E:=q
def GH(h:Wp (e σ) A (λx A1=>∃i,x=.int i/\QO (some i) A1) E):Wp (fK e σ) A QO E:=B6 (af h λx A1 ⟨i,c,q⟩=>by subst c;exact q)
def GI(h:Wp (e σ) A (λx A1=>Wp (lo σ) A1 (λl o=>Wp (hi σ) o (λh d=>(∃n c,x=.ref n/\E7 n d=.ok c d/\Q (.ref d.length) (d++[.lst (cut c l h)]))\/
 ∃c,x=.tup c/\¬(V4 c.length 0 l=0/\V4 c.length c.length h=c.length)/\Q (.tup (cut c l h)) d) E) E) E):Wp (df e lo hi σ) A Q E:=
 B6 (af h λ_ _ p=>B6 (af p λ_ _ r=>B6 (af r λ_ _ s=>by
  rcases s with⟨n,c,rfl,g,q⟩ | ⟨c,rfl,g,q⟩
  .exact B6 (w_eq g q)
  .exact C7 g q)))
theorem wL:∀bs:List Bool,z0 (bs.map PV.bl)=some bs
 | []=>rfl
 | b::r=>by show(z0 _).map _=_;rw[wL r];rfl
def GJ(h:Wp (e σ) A (λx A1=>∃(n:Nat)(bs:List Bool),x=.ref n/\A1[n]?=some (.lst (bs.map PV.bl))/\Q (.bl (bs.all id)) A1) E):Wp (fA e σ) A Q E:=B6 (af h λx A1 c=>by
 obtain⟨n,bs,d,g,q⟩:=c;subst d;refine B6 (R8 g ?_);rw[wL];exact q)
def GK(h:Wp (e σ) A (λx A1=>Wp (O7 x) A1 (λl A2=>∃ns,l=ns.map PV.int/\ns.length<1000/\Q (.int (eP ns)) A2) E) E):Wp (ny e σ) A Q E:=B6 (af h λx A1 c=>B6 (af c λl A2 d=>by
 obtain⟨ns,g,o,q⟩:=d;subst g;rw[O8];exact C7 o q))
def wM(h:Wp (e1 σ) A (λx A1=>∃n l,x=.ref n/\A1[n]?=some (.lst l)/\Wp (e2 σ) A1 (λv c=>∃l2,c[n]?=some (.lst l2)/\l2.length<LIM/\Q .non (c.set n (.lst (l2++[v])))) E) E):Wp (V5 e1 e2 σ) A Q E:=
 B6 (af h λx A1 d=>by
  obtain⟨n,l,g,o,p⟩:=d;subst g;exact B6 (hV o (B6 (af p λv c ⟨l2,r,s,q⟩=>B6 (hV r (C7 s q))))))
def GN(h:Wp (e σ) A (λx A1=>∃n c fs v,x=.ref n/\A1[n]?=some (.ins c fs)/\f9 k fs=some v/\Q v A1) E):Wp (aJ e k σ) A Q E:=
 B6 (af h λx A1 d=>by
  obtain⟨n,c,fs,v,g,p,o,q⟩:=d;subst g;refine B6 (w_eq (a:=(c,fs)) (A':=A1) (by simp_all) ?_);rw[o];exact q)
def GO{f:Fun}(h:Wp (es σ) A (λc A1=>Wp (f c) A1 Q E) E):Wp (C8 f es σ) A Q E:=B6 h
def GP{f:Fun}(h:Wp (e σ) A (λx A1=>∃n fs,x=.ref n/\A1[n]?=some (.ins c fs)/\Wp (es σ) A1 (λd g=>Wp (f (.ref n::d)) g Q E) E) E):Wp (aQ c f e es σ) A Q E:=
 B6 (af h λx A1 o=>by
  obtain⟨n,fs,p,r,q⟩:=o;subst p;exact B6 (w_eq (a:=(c,fs)) (by simp_all) (C7 rfl (B6 q))))
def GQ{f:Fun}(h:Wp (es σ) A (λd A1=>Wp (f (.ref A1.length::d)) (A1++[.ins c []]) (λ_ g=>Q (.ref A1.length) g) E) E):Wp (iD c f es σ) A Q E:=
 B6 (af h λd A1 o=>B6 (w_eq rfl (B6 o)))
variable{QF:Fl->PHp->Prop}{s s1 s2:SD}{g:GD}{QS:PSt->PHp->Prop}
def X7(q:QF (.nx σ) A):Wp (sPass σ) A QF E:=q
def bw(h:Wp (s1 σ) A (λo A1=>match o with | .nx σ'=>Wp (s2 σ') A1 QF E | o=>QF o A1) E):Wp (au s1 s2 σ) A QF E:=B6 (af h λo A1 c=>by
 cases o with
 | nx σ'=>symm
 | _=>exact c)
def wN(h:Wp (e σ) A (λ_ A1=>QF (.nx σ) A1) E):Wp (aO e σ) A QF E:=B6 h
def dz(h:Wp (e σ) A (λv A1=>QF (.rt v) A1) E):Wp (aC e σ) A QF E:=B6 h
def kX(h:Wp (t σ) A (λb A1=>(b=true->Wp (s1 σ) A1 QF E)/\(b=false->Wp (s2 σ) A1 QF E)) E):Wp (br t s1 s2 σ) A QF E:=B6 (af h λb A1 c=>by
 obtain⟨d,o⟩:=c;cases b with
 | true=>exact d rfl
 | false=>exact o rfl)
def cy(h:Wp (e σ) A (λv A1=>Wp (g v σ) A1 (λσ' c=>QF (.nx σ') c) E) E):Wp (aD e g σ) A QF E:=B6 (af h λ_ _ d=>B6 d)
def E6(q:QS (σ.set k (some v)) A):Wp (gName k v σ) A QS E:=q
def mE(q:QS σ A):Wp (gNil [] σ) A QS E:=q
def K5(h:Wp (g v σ) A (λσ' A1=>Wp (r vs σ') A1 QS E) E):Wp (gCons g r (v::vs) σ) A QS E:=B6 h
def cW(c:l.length=n)(h:Wp (r l σ) A QS E):Wp (gTup n r (.tup l) σ) A QS E:=C7 c h
def GR(h:Wp (e2 σ) A (λv A1=>Wp (e1 σ) A1 (λx A2=>∃n c fs,x=.ref n/\A2[n]?=some (.ins c fs)/\fs.length<900/\QF (.nx σ) (A2.set n (.ins c (putFld k v fs)))) E) E):Wp (sFld e1 k e2 σ) A QF E:=
 B6 (af h λv A1 d=>B6 (af d λx A2 o=>by
  obtain⟨n,c,fs,p,u,r,q⟩:=o;subst p;exact B6 (w_eq (a:=(c,fs)) (by simp_all) (C7 r q))))
def GS{n p:Nat}{vs:List PV}(d:vs.length=p)(h:Wp (s (start n vs)) A (λo A1=>match o with | .rt v=>Q v A1 | .nx _=>Q .non A1 | _=>False) E):Wp (fn n p s vs) A Q E:=
 C7 d (B6 (af h λo A1 c=>by
  cases o with
  | rt v=>exact c
  | nx σ'=>exact c
  | bk σ'=>simp_all
  | ct σ'=>exact c.elim))
abbrev kY(P:PSt->PHp->Prop)(QF:Fl->PHp->Prop):Fl->PHp->Prop:=λo A=>match o with
 | .nx σ=>P σ A
 | .ct σ=>P σ A
 | .bk σ=>QF (.nx σ) A
 | .rt v=>QF (.rt v) A
theorem oN(P:Nat->PSt->PHp->Prop)(c:∀σ A,P n σ A->item J n A=.ok none A/\QF (.nx σ) A)
 (hs:∀i σ A,i<n->P i σ A->∃v,item J i A=.ok (some v) A/\Wp (g v σ) A (λq A1=>Wp (s q) A1 (kY (P (i+1)) QF) E) E) :
 ∀k i σ A,i+k=n->P i σ A->∀m,k<m->Wp (Z0 J g s m i σ) A QF E
 | _,_,_,_,_,_,0,r=>absurd r (Nat.not_lt_zero _)
 | 0,i,σ,A,e,h,m+1,r=>by
   obtain rfl:i=n:=by symm
   obtain⟨u,p⟩:=c σ A h;rw[T1];exact B6 (w_eq u p)
 | k+1,i,σ,A,e,h,m+1,r=>by
   obtain⟨v,z,t⟩:=hs i σ A (by symm) h;rw[T1];refine B6 (w_eq z ?_);refine B6 (af t λq A1 u=>B6 (af u λo w p=>?_));cases o with
   | nx d=>exact oN P c hs k _ d w (by symm) p m (by symm)
   | ct d=>exact oN P c hs k _ d w (by symm) p m (by symm)
   | bk d=>exact p
   | rt v=>exact p
def wO(P:Nat->PSt->PHp->Prop)(h:Wp (o σ) A (λJ A1=>∃lo n,J=.rng lo n/\P 0 σ A1/\(∀(i:Nat) σ B,i<n->P i σ B->Wp (g (.int (lo+i)) σ) B (λc p=>Wp (s c) p (kY (P (i+1)) QF) E) E)/\∀σ B,P n σ B->QF (.nx σ) B) E) :
 Wp (fz o g s σ) A QF E:=B6 (af h λJ A1 q=>by
 obtain⟨lo,n,r,u,hs,he⟩:=q;subst r;exact B6 (hJ (oN P (λσ B d=>⟨by simp,he σ B d⟩) (λi σ B hi d=>⟨_,by simp[hi],hs i σ B hi d⟩) n 0 σ A1 (by simp) u _ (Nh _))))
def oO(P:Nat->PSt->PHp->Prop)(h:Wp (p σ) A (λJ A1=>∃a l,J=.lst a/\P 0 σ A1/\(∀i σ B,P i σ B->E7 a B=.ok l B)/\(∀(i:Nat) v σ B,l[i]?=some v->P i σ B->Wp (g v σ) B (λd r=>Wp (s d) r (kY (P (i+1)) QF) E) E)/\∀σ B,P l.length σ B->QF (.nx σ) B) E) :
 Wp (fz p g s σ) A QF E:=B6 (af h λJ A1 u=>by
 obtain⟨a,l,w,q,o,hs,he⟩:=u;subst w;refine B6 (B6 (w_eq (o 0 σ A1 q) (hJ ?_)));refine oN P (λσ B c=>⟨by show ao _ _ B=_;rw[ay (o _ σ B c)];simp,he σ B c⟩) (λi σ B hi c=>?_) _ 0 σ A1 (by simp) q _ (Nh _);exact⟨l[i],by show ao _ _ B=_;rw[ay (o _ σ B c),LB hi];rfl,hs i l[i] σ B (LB hi) c⟩)
theorem rH(P:Nat->PSt->PHp->Prop)(hs:∀m σ A,P m σ A->Wp (t σ) A (λb A1=>(b=true->Wp (s σ) A1 (kY (λσ' A'=>∃d,d<m/\P d σ' A') QF) E)/\(b=false->QF (.nx σ) A1)) E) :
 ∀f m σ A,m<f->P m σ A->Wp (i3 t s f σ) A QF E
 | 0,m,σ,A,u,_=>absurd u (by simp)
 | f+1,m,σ,A,u,h=>by
   rw[uh];refine B6 (af (hs m σ A h) λb A1 z=>?_);obtain⟨C,D⟩:=z;cases b with
   | false=>exact D rfl
   | true=>
     refine B6 (af (C rfl) λo w p=>?_);cases o with
     | nx c=>obtain⟨d,q,r⟩:=p;exact rH P hs f d c w (by symm) r
     | ct c=>obtain⟨d,q,r⟩:=p;exact rH P hs f d c w (by symm) r
     | bk c=>exact p
     | rt v=>exact p
def rJ(P:Nat->PSt->PHp->Prop){m:Nat}(d:m<10000)(h:P m σ A)(hs:∀m σ A,P m σ A->Wp (t σ) A (λb A1=>(b=true->Wp (s σ) A1 (kY (λσ' A'=>∃c,c<m/\P c σ' A') QF) E)/\(b=false->QF (.nx σ) A1)) E) :
 Wp (lE t s σ) A QF E:=rH P hs LIM m σ A (bg d) h
theorem rK{QL:List PV->PHp->Prop}(P:Nat->List PV->PSt->PHp->Prop)(p:∀i d σ B,P i d σ B->item J i B=.ok l[i]? B)
 (hs:∀i v d σ B,l[i]?=some v->P i d σ B->Wp (g v σ) B (λo z=>Wp (t o) z (λc q=>(c=true->Wp (e o) q (λy r=>P (i+1) (d++[y]) o r) E)/\(c=false->P (i+1) d o q)) E) E)
 (he:∀d σ B,P l.length d σ B->QL d B):∀k i d σ B,i<=l.length->l.length<i+k->P i d σ B->Wp (c5 J g t e k i σ) B (λu D=>QL (d++u) D) E
 | 0,i,d,σ,B,G,C,_=>absurd C (by symm)
 | k+1,i,d,σ,B,G,C,h=>by
   rw[X4];refine B6 (w_eq (p i d σ B h) ?_);cases w:l[i]? with
   | none=>
     have:l.length=i:=by have:=MV.mp w;symm
     subst this;show QL _ B;rw[MM];exact he d σ B h
   | some v=>
     have hi:=(LA.mp w).1;refine B6 (af (hs i v d σ B w h) λo z H=>B6 (af H λc q I=>?_));obtain⟨L,N⟩:=I;cases c with
     | true=>
       refine B6 (af (L rfl) λy r O=>B6 (af (rK P p hs he k _ _ o r hi (by symm) O) λu T U=>?_));show QL _ T;rw[show d++_=d++[y]++u by simp];exact U
     | false=>exact rK P p hs he k _ d o q hi (by symm) (N rfl)
def mF(h:Wp (u σ) A (λJ A1=>∃(l:List PV)(n:Nat)(P:Nat->List PV->PSt->PHp->Prop),i0 J A1=.ok n A1/\l.length<=n/\P 0 [] (p σ) A1/\(∀i d σ B,P i d σ B->item J i B=.ok l[i]? B)/\
 (∀i v d σ B,l[i]?=some v->P i d σ B->Wp (g v σ) B (λo D=>Wp (t o) D (λc w=>(c=true->Wp (e o) w (λy G=>P (i+1) (d++[y]) o G) E)/\(c=false->P (i+1) d o w)) E) E)/\
 ∀d σ B,P l.length d σ B->d.length<=LIM/\Q (.ref B.length) (B++[.lst d])) E):Wp (L9 u p g t e σ) A Q E:=
 B6 (af h λJ A1 H=>by
  obtain⟨l,n,P,I,N,L,q,hs,he⟩:=H;refine B6 (w_eq I (B6 (af (rK P q hs (QL:=λd B=>d.length<=LIM/\Q (.ref B.length) (B++[.lst d])) he (n+1) 0 [] (p σ) A1 (OG _) (by symm) L) λO B r=>?_)));obtain⟨z,C⟩:=r;rw[List.nil_append]at z C;exact C7 z C)
def U1(S:PSt->Prop)(p:PV->Bool)(f:PV->PV)(h:Wp (z σ) A (λJ A1=>∃n,i0 J A1=.ok n A1/\l.length<=n/\l.length<=LIM/\S (C σ)/\(∀i,item J i A1=.ok l[i]? A1)/\
 (∀v σ,v∈l->S σ->Wp (g v σ) A1 (λd D=>D=A1/\S d/\Wp (t d) A1 (λc G=>G=A1/\c=p v/\(c=true->Wp (e d) A1 (λy H=>H=A1/\y=f v) E)) E) E)/\
 Q (.ref A1.length) (A1++[.lst ((l.filter p).map f)])) E):Wp (L9 z C g t e σ) A Q E:=
 mF (af h λJ A1 T=>by
  obtain⟨n,U,Y,hL,h0,u,hs,he⟩:=T;refine⟨l,n,λi o σ B=>B=A1/\S σ/\o=((l.take i).filter p).map f,U,Y,⟨rfl,h0,rfl⟩,λi o σ B k=>?_,λi v o σ B I k=>?_,λo σ B k=>?_⟩
  .rw[k.1];exact u i
  .obtain⟨w,h2,q⟩:=k;subst w;refine af (hs v σ (Mm I) h2) λd D k=>?_;obtain⟨e1,L,h5⟩:=k;subst e1;refine af h5 λc G k=>?_;obtain⟨e2,N,h7⟩:=k;subst e2;have O:l.take (i+1)=l.take i++[v]:=by rw[NA,I];rfl
   refine⟨λr=>af (h7 r) λy H k=>⟨k.1,L,?_⟩,λr=>⟨rfl,L,?_⟩⟩
   .rw[O,NC,LZ,q,k.2,Qd (by rw[<-N];exact r)];rfl
   .rw[O,NC,LZ,q,Qe (by rw[<-N,r];simp)];exact(MM _).symm
  .obtain⟨w,_,q⟩:=k;subst w;rw[NI (Lp _)]at q;subst q;exact⟨by rw[Lo];exact LW (MI _ _) hL,he⟩)
def aY(h:A[n]?=some (.lst l)):i0 (.lst n) A=.ok l.length A:=by simp_all
def R9(h:A[n]?=some (.lst l))(i:Nat):item (.lst n) i A=.ok l[i]? A:=by simp_all
def oP(n i:Nat):item (.rng 0 n) i A=.ok ((Mo n).map λ(k:Nat)=>PV.int (k:Int))[i]? A:=by
 by_cases hi:i<n<;>simp[hi]
noncomputable def d5:List PV->List PV->List PV
 | x::c,y::d=>.tup [x,y]::d5 c d
 | _,_=>[]
theorem rL:∀(l m:List PV)(i:Nat),(match l[i]?,m[i]? with | some u,some v=>some (.tup [u,v]) | _,_=>none)=(d5 l m)[i]?
 | [],m,i=>by simp[d5]
 | x::c,[],i=>by cases h:(x::c)[i]?<;>simp[d5]
 | x::c,y::d,0=>by simp[d5]
 | x::c,y::d,i+1=>by simpa[d5]using rL c d i
theorem wQ:∀(l m:List PV),(d5 l m).length<=l.length
 | [],m=>by simp[d5]
 | x::c,[]=>by simp[d5]
 | x::c,y::d=>by simpa[d5]using wQ c d
def GU(l m:List PV)(i:Nat):item (.zip (.tup l) (.tup m)) i A=.ok (d5 l m)[i]? A:=by
 rw[<-rL];rfl
def GV{l m:List PV}(c:A[n]?=some (.lst l))(d:A[k]?=some (.lst m))(i:Nat):item (.zip (.ref n) (.ref k)) i A=.ok (d5 l m)[i]? A:=by
 rw[<-rL];show ao (E7 n) _ A=_;rw[ay (G8 c)];show ao (E7 k) _ A=_;rw[ay (G8 d)];rfl
def GW{α:Type}{c:List α}{j:Nat}(h:j<c.length):atI c (j:Int)=some c[j]:=by
 unfold atI ixN;simp[h]
end
noncomputable def pv(p:Int×Int):PV:=.tup [.int p.1,.int p.2]
noncomputable def aG(ps:List (Int×Int)):List PV:=ps.map pv
def GX(p:Int×Int):plain (pv p)=true:=rfl
def R3(ps:List (Int×Int)):G6 (aG ps)=true:=by
 rw[r6];intro x a;obtain⟨p,_,rfl⟩:=Lv.mp a;rfl
def wR(h:pv p=pv q):p=q:=by
 obtain⟨a,b⟩:=p;simp[pv]at h;simp[h]
def rM(p:Int×Int)(ps:List (Int×Int)):dc (pv p) (aG ps)=decide (p∈ps):=by
 induction ps with
 | nil=>rfl
 | cons q r ih=>
   have e:bJ (pv q) (pv p)=decide (q=p):=by
    by_cases h:q=p
    .subst h;simp[(pZ _ (pv q) rfl).mpr rfl]
    .have:¬bJ _ _=true:=λz=>h (wR ((pZ _ _ rfl).mp z));simp[h,this]
   show(bJ _ _||dc _ (aG r))=_;rw[ih,e];by_cases h:q=p<;>by_cases a:p∈r<;>simp[h,a];intro z;exact h z.symm
def wU(h:v∈aG ps):∃p∈ps,v=pv p:=by
 obtain⟨p,a,rfl⟩:=Lv.mp h;exact⟨p,a,rfl⟩
noncomputable def iW:PV->Int
 | .tup [.int a,.int b]=>a
 | _=>0
noncomputable def hX:PV->Int
 | .tup [.int a,.int b]=>b
 | _=>0
@[simp] theorem Le(p:Int×Int):iW (pv p)=p.1:=rfl
@[simp] theorem Lf(p:Int×Int):hX (pv p)=p.2:=rfl
def rN(x:Int)(M:List Int):dc (.int x) (M.map .int)=decide (x∈M):=by
 induction M with
 | nil=>rfl
 | cons a r ih=>
   have:dc _ ((a::r).map .int)=(bJ _ _||dc (.int x) _):=rfl;rw[this,ih];show(decide _||decide _)=_;by_cases h:a=x
   .simp_all
   .have b:¬x=a:=λz=>h z.symm;simp[h,b]
def w_inI{M:List Int}(c:A[n]?=some (.lst (M.map .int)))(q:Q (.bl (decide (x∈M))) A):Wp (dv (.int x) (.ref n)) A Q E:=wI c ⟨rfl,R0 _⟩ (by rw[rN];exact q)
def gj{M:List Int}(q:Q (.bl (decide (x∈M))) A):Wp (dv (.int x) (.tup (M.map .int))) A Q E:=Gu ⟨rfl,R0 _⟩ (by rw[rN];exact q)
def fg{M:List Int}(q:Q (.bl (!decide (x∈M))) A):Wp (bt (.int x) (.tup (M.map .int))) A Q E:=rG ⟨rfl,R0 _⟩ (by rw[rN];exact q)
def iX(c:A[n]?=some (.lst (aG ps)))(q:Q (.bl (decide ((a,b)∈ps))) A):Wp (dv (.tup [.int a,.int b]) (.ref n)) A Q E:=wI c ⟨rfl,R3 _⟩ (by rw[show PV.tup [.int a,.int b]=pv (a,b)from rfl,rM];exact q)
def cX(c:A[n]?=some (.lst (aG ps)))(q:Q (.bl (!decide ((a,b)∈ps))) A):Wp (bt (.tup [.int a,.int b]) (.ref n)) A Q E:=wJ c ⟨rfl,R3 _⟩ (by rw[show PV.tup [.int a,.int b]=pv (a,b)from rfl,rM];exact q)
def t5(l:List Int):plain (.tup (l.map .int))=true:=by
 show(l.map _).all Y8=true;rw[LV];intro x c;obtain⟨y,_,rfl⟩:=Lv.mp c;rfl
def GY(h:Wp (e σ) A (λx d=>Wp (lD t x) d (λb f=>c (.bl b) f) E) E):Wp (fy e t σ) A c E:=B6 (af h λ_ _ g=>B6 g)
def hY(h:lD t x A=.ok b A)(q:c b A):Wp (lD t x) A c E:=w_eq h q
def hZ(h:A[n]?=some (.lst l))(q:c true A):Wp (lD .list (.ref n)) A c E:=B6 (hV h q)
def m4(l m:List Int):eqvs (l.map .int) (m.map .int)=decide (l=m):=by
 have h:=qa (l.map .int) (m.map .int) (R0 _);have inj:l.map _=m.map _↔l=m:=⟨λz=>by
  have:=congrArg J9 z;rw[O8,O8]at this;exact Mf this,λz=>by rw[z]⟩
 cases e:eqvs _ _ with
 | true=>exact(decide_eq_true (inj.mp (h.mp e))).symm
 | false=>simp_all
def GZ(q:Q (.bl (decide (l=[]))) A):Wp (ck (.tup (l.map .int)) (.tup [])) A Q E:=Gq ⟨t5 _,rfl⟩ (by rw[show([])=([]).map .int from rfl,m4];exact q)
def Ha(q:Q (.bl (!decide (l=[]))) A):Wp (cQ (.tup (l.map .int)) (.tup [])) A Q E:=Gr ⟨t5 _,rfl⟩ (by rw[show([])=([]).map .int from rfl,m4];exact q)
def ky(c:A[n]?=some (.lst (l.map .int)))(d:A[k]?=some (.lst []))(q:Q (.bl (decide (l=[]))) A):Wp (ck (.ref n) (.ref k)) A Q E:=eD c d ⟨R0 _,rfl⟩ (by rw[show([])=([]).map .int from rfl,m4];exact q)
section
variable{A:PHp}{E:XP}{σ:PSt}{e e1 e2:ED}
def Hc{P R:Prop}(h:P):(true=true->P)/\(true=false->R):=by simp_all
def He{P R:Prop}(h:R):(false=true->P)/\(True->R):=by simp_all
def Hf{P R:Prop}(h:R):((!true)=true->P)/\((!true)=false->R):=by simp_all
def Hg{P R:Prop}(h:P):((!false)=true->P)/\((!false)=false->R):=by simp_all
def kz{P R:Prop}(h:R):(false=true->P)/\(false=false->R):=by simp_all
def Hh{R:Nat->List PV->Prop}(h:A[n]?=some (.lst l))(q:R n l):∃a b,PV.ref n=.ref a/\A[a]?=some (.lst b)/\R a b:=⟨n,l,rfl,h,q⟩
def rO{n:Nat}{R:List PV->Prop}(h:A[n]?=some (.lst l))(q:R l):∃a,A[n]?=some (.lst a)/\R a:=⟨l,h,q⟩
def Hi{R:Nat->List (Nat×PV)->Prop}(h:A[n]?=some (.ins c l))(q:R n l):∃a b,PV.ref n=.ref a/\A[a]?=some (.ins c b)/\R a b:=⟨n,l,rfl,h,q⟩
def rP{R:Nat->Nat->List (Nat×PV)->Prop}(h:A[n]?=some (.ins c l))(q:R n c l):∃a b d,PV.ref n=.ref a/\A[a]?=some (.ins b d)/\R a b d:=⟨n,c,l,rfl,h,q⟩
def Hj{R:PV->Prop}(h:A[n]?=some (.ins c l))(f:f9 k l=some v)(q:R v):∃a g b d,PV.ref n=.ref a/\A[a]?=some (.ins g b)/\f9 k b=some d/\R d:=⟨n,c,l,v,rfl,h,f,q⟩
def rQ{R:Nat->Prop}{b:Prop}(h:A[n]?=some (.lst l))(q:R n):(∃a c,PV.ref n=.ref a/\E7 a A=.ok c A/\R a)\/b:=.inl ⟨n,l,rfl,G8 h,q⟩
def rR{R:List PV->Prop}{b:Prop}(q:R l):b\/∃a,PV.tup l=.tup a/\R a:=.inr ⟨l,rfl,q⟩
def Hk(h:A[n]?=some (.ro l)):E7 n A=.ok l A:=by simp_all
def rS{R:Nat->List PV->Prop}{c:Prop}(h:A[n]?=some (.lst l))(q:R n l):(∃a b,PV.ref n=.ref a/\E7 a A=.ok b A/\R a b)\/c:=.inl ⟨n,l,rfl,G8 h,q⟩
def rT{R:Nat->List PV->Prop}{c:Prop}(h:A[n]?=some (.ro l))(q:R n l):(∃a b,PV.ref n=.ref a/\E7 a A=.ok b A/\R a b)\/c:=.inl ⟨n,l,rfl,Hk h,q⟩
def rV{R:Nat->Prop}(h:A[n]?=some (.lst l))(q:R n):∃a b,PV.ref n=.ref a/\E7 a A=.ok b A/\R a:=⟨n,l,rfl,G8 h,q⟩
variable{QI:It->PHp->Prop}
def Hl(h:Wp (e σ) A (λx a=>(∃n l,x=.ref n/\E7 n a=.ok l a/\QI (.lst n) a)\/∃l,x=.tup l/\QI (.tup l) a) E):Wp (bI e σ) A QI E:=B6 (af h λx a b=>by
 rcases b with⟨n,l,rfl,c,q⟩ | ⟨l,rfl,q⟩
 .exact B6 (w_eq c q)
 .exact q)
def Hm(h:Wp (e σ) A (λx A1=>∃n:Nat,x=.int n/\n<=1000000/\QI (.rng 0 n) A1) E):Wp (iRng1 e σ) A QI E:=B6 (af h λx A1 a=>by
 obtain⟨n,b,c,q⟩:=a;subst b;have d:=Int.ofNat_le.mpr c;refine C7 ⟨Int.le_trans (by simp) (Q2 n),Int.lt_of_le_of_lt d (by simp)⟩ (hJ ?_);exact q)
def Hn(h:Wp (e1 σ) A (λx a=>Wp (e2 σ) a (λy b=>Wp (O7 x) b (λ_ c=>Wp (O7 y) c (λ_ d=>QI (.zip x y) d) E) E) E) E):Wp (iZip e1 e2 σ) A QI E:=
 B6 (af h λ_ _ f=>B6 (af f λ_ _ g=>B6 (af g λ_ _ i=>B6 i)))
def Ho(h:Wp (e σ) A (λx A1=>∃n l,x=.ref n/\E7 n A1=.ok l A1/\QI (.enm n) A1) E):Wp (fL e σ) A QI E:=B6 (af h λx A1 a=>by
 obtain⟨n,l,b,c,q⟩:=a;subst b;exact B6 (w_eq c q))
end
end Ws
local macro_rules | `(tactic| walk_at "st")=>`(tactic| first
 | assumption
 | exact Ws.aq
 | (refine Ws.ak ?_;walk_at "st")
 | (refine Ws.ai (by assumption) ?_;walk_at "st"))
local macro_rules | `(tactic| walk_at "lim")=>`(tactic| first
 | (refine Ws.aH ?_;(try simp only[Lo,LR,Me,Nd]);omega)
 | (refine Ws.bg ?_;(try simp only[Lo,LR,Me,Nd]);omega))
local macro_rules | `(tactic| walk_at "s1")=>`(tactic| first
 | with_reducible first
   | refine Ws.bw ?_
   | refine Ws.cy ?_
   | refine Ws.kX ?_
   | refine Ws.wN ?_
   | refine Ws.dz ?_
   | refine Ws.w_retN ?_
   | refine Ws.X7 ?_
   | refine Ws.GR ?_
   | refine Ws.oM ?_
   | refine Ws.Gw ?_
   | refine Ws.Gx ?_
   | refine Ws.Gy ?_
   | refine Ws.kW ?_
   | refine Ws.w_chain ?_
   | refine Ws.Gz ?_
   | refine Ws.GA ?_
   | refine Ws.w_not ?_
   | refine Ws.GB ?_
   | refine Ws.Gv ?_
   | refine Ws.w_notN ?_
   | refine Ws.wF ?_
   | refine Ws.Gh ?_
   | refine Ws.Gi ?_
   | refine Ws.GO ?_
   | refine Ws.GP ?_
   | refine Ws.GQ ?_
   | refine Ws.GN ?_
   | refine Ws.GC ?_
   | refine Ws.dN ?_
   | refine Ws.GF ?_
   | refine Ws.GI ?_
   | refine Ws.w_cut2 ?_
   | refine Ws.GH ?_
   | refine Ws.wM ?_
   | refine Ws.GY ?_
   | refine Ws.GJ ?_
   | refine Ws.GK ?_
   | refine Ws.w_revT ?_
   | refine Ws.w_isF ?_
   | refine Ws.Hn ?_
   | refine Ws.Hl ?_
   | refine Ws.Hm ?_
   | refine Ws.w_irng2 ?_
   | refine Ws.Ho ?_)
local macro_rules | `(tactic| walk_at "s2")=>`(tactic| first
 | ((with_reducible apply Ws.w_var);(·rfl))
 | with_reducible first
   | refine Ws.Gg ?_
   | refine Ws.wK ?_
   | refine Ws.wD ?_
   | refine Ws.E6 ?_
   | refine Ws.mE ?_
   | refine Ws.K5 ?_
 | ((with_reducible apply Ws.cW);(·rfl))
 | with_reducible first
   | refine Ws.Gj ?_
   | refine Ws.w_add2 ?_
   | refine Ws.Gk ?_
 | ((with_reducible apply Ws.w_mod);(·omega))
 | ((with_reducible apply Ws.ko);(·omega))
 | with_reducible first
   | refine Ws.w_lt ?_
   | refine Ws.w_le ?_
   | refine Ws.Gm ?_
   | refine Ws.wG ?_
   | refine Ws.Gn ?_
   | refine Ws.Gp ?_
   | refine Ws.w_eqB ?_
   | refine Ws.w_neB ?_
   | refine Ws.GG ?_
 | ((with_reducible apply Ws.w_inI);(·walk_at "st"))
 | with_reducible refine Ws.gj ?_
 | with_reducible refine Ws.fg ?_
 | ((with_reducible apply Ws.iX);(·walk_at "st"))
 | ((with_reducible apply Ws.cX);(·walk_at "st"))
 | ((with_reducible apply Ws.hZ);(·walk_at "st"))
 | ((with_reducible apply Ws.hY);(·rfl))
 | with_reducible first
   | refine Ws.GZ ?_
   | refine Ws.Ha ?_
   | refine Ws.w_eqTI ?_
   | refine Ws.w_neTI ?_
 | ((with_reducible apply Ws.ky);(·walk_at "st");(·walk_at "st"))
 | ((with_reducible refine Ws.kr ?_);(try dsimp only);(try rw[Lo]))
 | ((with_reducible apply Ws.ej);(·walk_at "st");(try dsimp only);(try rw[Lo]))
 | ((with_reducible apply Ws.kq);(·walk_at "st"))
 | ((with_reducible apply Ws.dM);(·walk_at "st");(·walk_at "ix"))
 | ((with_reducible apply Ws.mD);(·walk_at "st");(·walk_at "ix"))
 | ((with_reducible apply Ws.gi);(·walk_at "ix")))
local macro_rules | `(tactic| walk_at "ix")=>`(tactic| first
 | assumption
 | rfl
 | exact Ws.atl (by omega))
local macro_rules | `(tactic| walk_at "s3")=>`(tactic| first
 | with_reducible first
   | refine Ws.Hc ?_
   | refine Ws.kz ?_
   | refine Ws.Hf ?_
   | refine Ws.Hg ?_
   | refine Ws.brT' ?_
   | refine Ws.He ?_
 | with_reducible refine⟨_,rfl,?_⟩
 | ((with_reducible apply Ws.Hh);(·walk_at "st"))
 | ((with_reducible apply Ws.rO);(·walk_at "st"))
 | ((with_reducible apply Ws.Hi);(·walk_at "st"))
 | ((with_reducible apply Ws.rP);(·walk_at "st"))
 | ((with_reducible apply Ws.Hj);(·walk_at "st");(·rfl))
 | ((with_reducible apply Ws.rQ);(·walk_at "st"))
 | ((with_reducible apply Ws.rV);(·walk_at "st"))
 | ((with_reducible apply Ws.rS);(·walk_at "st"))
 | ((with_reducible apply Ws.rT);(·walk_at "st"))
 | with_reducible apply Ws.rR
 | ((with_reducible refine And.intro ?h1 ?_);(case h1=>first | walk_at "lim" | omega)))
local macro_rules | `(tactic| walk_at "s")=>`(tactic| (first | walk_at "s1" | walk_at "s2" | walk_at "s3");(try dsimp only[List.set,Ws.kY]))
local macro_rules | `(tactic| walk_at "fn")=>`(tactic| (refine Ws.GS (by rfl) ?_;simp only[Ws.start,LX,OC,Me,Nd,Nat.reduceAdd,Nat.reduceSub,Px,QR,List.nil_append]))
local macro_rules | `(tactic| walk_at "go")=>`(tactic| repeat walk_at "s")
namespace Ws
def K9:Fun:=fn 1 1
 (aC (Y9 (fy (ae 0) .int) (de (fy (ae 0) .bool))))
def J6:Fun:=fn 2 2
 (aC (Y9 (C8 K9 (ag (ae 1) aNil)) (cL jt eO (eK (.int 0)) (ae 1) (ae 0))))
def E9:Fun:=fn 1 1
 (aC (Y9 (C8 K9 (ag (ae 0) aNil)) (cL jt jt (eK (.int 2)) (ae 0) (eK (.int 6)))))
def K6:Fun:=fn 2 2
 (au (br (tOr (tNot (av (fy (ae 1) .tuple))) (av (eBin cQ (q8 (ae 1)) (eK (.int 2)))))
 (aC (eK (.bl false)))
 sPass)
 (aC (Y9 (C8 J6 (ag (ae 0) (ag (eBin oIx (ae 1) (eK (.int 0))) aNil))) (Y9 (C8 J6 (ag (ae 0) (ag (eBin oIx (ae 1) (eK (.int 1))) aNil))) (eBin cQ (eBin oIx (ae 1) (eK (.int 0))) (eBin oIx (ae 1) (eK (.int 1))))))))
def L4:SD:=
 (br (tOr (tNot (av (C8 K6 (ag (ae 0) (ag (ae 3) aNil))))) (av (eBin dv (ae 3) (df (ae 1) gJ (fK (ae 2))))))
 (aC (ae 2))
 sPass)
def L5:SD:=fz (fL (ae 1)) (gTup 2 (gCons (gName 2) (gCons (gName 3) gNil))) L4
def E5:Fun:=fn 4 2
 (au L5
 (aC (eK .non)))
def L6:Fun:=fn 3 3
 (au (sFld (ae 0) 6 (ae 1))
 (au (sFld (ae 0) 7 (nr (av (gI (ae 2))) (bA aNil) (l4 (ae 2))))
 (au (sFld (ae 0) 11 (i4 (aJ (ae 0) 7)))
 (au (sFld (ae 0) 12 (eK (.int 1)))
 (au (sFld (ae 0) 13 eTNew)
 (au (sFld (ae 0) 14 eTNew)
 (sFld (ae 0) 15 eTNew)))))))
def j3:ED:=L9 (iZip (ae 0) (df (ae 0) (fK (eK (.int 1))) gJ)) (cw [none,none]) (gTup 2 (gCons (gName 0) (gCons (gName 1) gNil))) bp (eBin eO (ae 0) (ae 1))
def U9:Fun:=fn 1 1
 (aC (fA j3))
def Z6:ED:=L9 (bI (ae 1)) (cw [none,some 0]) (gName 0) bp (C8 J6 (ag (aJ (ae 1) 0) (ag (ae 0) aNil)))
def P7:Fun:=fn 2 2
 (au (br (tOr (tNot (av (fy (ae 1) .list))) (av (eBin ck (ae 1) (bA aNil))))
 (aC (eK (.bl false)))
 sPass)
 (aC (Y9 (fA Z6) (C8 U9 (ag (ae 1) aNil)))))
def T2:Fun:=fn 1 1
 (aC (Y9 (C8 K9 (ag (ae 0) aNil)) (eBin kF (ae 0) (eK (.int 0)))))
def W6:SD:=
 (au (br (tNot (av (C8 T2 (ag (nA (ae 3) (ae 5)) aNil))))
 sNever
 sPass)
 (cR (ae 4) (ae 5) (eTGet (ae 3) (ae 5))))
def W8:SD:=fz (bI (aJ (ae 1) 1)) (gName 5) W6
def P1:Fun:=fn 6 4
 (au (br (tNot (av (C8 P7 (ag (ae 1) (ag (ae 2) aNil)))))
 sNever
 sPass)
 (au (aD eTNew (gName 4))
 (au W8
 (au (sFld (ae 0) 3 (ae 1))
 (au (sFld (ae 0) 4 (l4 (ae 2)))
 (au (sFld (ae 0) 5 (nB (ae 4)))
 (au (sFld (ae 0) 9 (i4 (ae 2)))
 (sFld (ae 0) 10 (ae 4)))))))))
def P2:Fun:=fn 4 3
 (au (br (tNot (av (C8 E9 (ag (ae 1) aNil))))
 sNever
 sPass)
 (au (aD (C8 E5 (ag (ae 1) (ag (ae 2) aNil))) (gName 3))
 (au (br (av (fJ (ae 3)))
 sNever
 sPass)
 (au (sFld (ae 0) 0 (ae 1))
 (sFld (ae 0) 1 (b9 (ae 2)))))))
def Q4:ED:=L9 (bI (aJ (ae 0) 1)) (cw [none,none,some 1]) (gTup 2 (gCons (gName 0) (gCons (gName 1) gNil))) (av (eBin ck (ae 0) (ae 2))) (ae 1)
def G4:Fun:=fn 2 2
 (aC Q4)
def bN:ED:=L9 (bI (ae 2)) (cw [none,some 0]) (gName 0) bp (C8 J6 (ag (aJ (ae 1) 0) (ag (ae 0) aNil)))
def bO:ED:=L9 (iZip (ae 2) (df (ae 2) (fK (eK (.int 1))) gJ)) (cw [none,some 0]) (gName 0) bp (eBin dv (ae 0) (aJ (ae 1) 1))
def T3:Fun:=fn 3 3
 (au (br (tOr (av (eBin ck (ae 2) (aX aNil))) (av (eBin bt (eBin oIx (ae 2) (eK (.int (-1)))) (ae 1))))
 (aC (eK (.bl false)))
 sPass)
 (au (br (tOr (av (eBin eO (ny (ae 2)) (q8 (ae 2)))) (tNot (av (fA bN))))
 (aC (eK (.bl false)))
 sPass)
 (aC (fA bO))))
def O1:ED:=L9 (bI (aQ 0 G4 (ae 0) (ag (eBin oIx (ae 1) (eK (.int (-1)))) aNil))) (cw [none,some 1]) (gName 0) (av (eBin bt (ae 0) (ae 1))) (eBin aS (ae 1) (aX (ag (ae 0) aNil)))
def K0:Fun:=fn 2 2
 (aC O1)
def T4:SD:=
 (au (aD (nu (ae 4)) (gName 5))
 (au (br (av (eBin dv (eBin oIx (ae 5) (eK (.int (-1)))) (ae 1)))
 (aO (V5 (ae 3) (ae 5)))
 sPass)
 (aO (nv (ae 4) (C8 K0 (ag (ae 0) (ag (ae 5) aNil)))))))
def P4:SD:=lE (av (eBin cQ (ae 4) (bA aNil))) T4
def N3:Fun:=fn 6 3
 (au (aD (bA aNil) (gName 3))
 (au (aD (bA (ag (aX (ag (ae 2) aNil)) aNil)) (gName 4))
 (au P4
 (aC (ae 3)))))
def j4:Fun:=fn 2 2
 (aC (Y9 (C8 K6 (ag (aJ (ae 0) 0) (ag (ae 1) aNil))) (eBin dv (ae 1) (aJ (ae 0) 1))))
def T5:ED:=L9 (bI (ae 1)) (cw [none,some 0]) (gName 0) bp (C8 J6 (ag (aJ (aJ (ae 1) 3) 0) (ag (ae 0) aNil)))
def N4:Fun:=fn 2 2
 (au (br (tOr (tNot (av (fy (ae 1) .tuple))) (tNot (av (fA T5))))
 (aC (eK (.bl false)))
 sPass)
 (aC (C8 T3 (ag (aJ (ae 0) 3) (ag (aJ (ae 0) 9) (ag (ae 1) aNil))))))
def R4:Fun:=fn 2 2
 (au (br (tOr (tNot (av (fy (ae 1) .tuple))) (tOr (av (eBin eO (q8 (ae 1)) (eK (.int 2)))) (tNot (av (C8 j4 (ag (aJ (ae 0) 3) (ag (eBin oIx (ae 1) (eK (.int 1))) aNil)))))))
 (aC (eK (.bl false)))
 sPass)
 (au (br (av (eBin ck (q8 (ae 1)) (eK (.int 2))))
 (aC (eBin ck (eBin oIx (ae 1) (eK (.int 0))) (eK (.str "lay"))))
 sPass)
 (au (br (tOr (av (eBin cQ (q8 (ae 1)) (eK (.int 3)))) (av (eBin cQ (eBin oIx (ae 1) (eK (.int 0))) (eK (.str "say")))))
 (aC (eK (.bl false)))
 sPass)
 (aC (Y9 (C8 N4 (ag (ae 0) (ag (eBin oIx (ae 1) (eK (.int 2))) aNil))) (eBin ck (eBin oIx (eBin oIx (ae 1) (eK (.int 2))) (eK (.int 0))) (eBin oIx (eBin oIx (ae 1) (eK (.int 1))) (eK (.int 1)))))))))
def N5:Fun:=fn 1 1
 (sFld (ae 0) 12 (eBin aS (aJ (ae 0) 12) (eK (.int 1))))
def K7:Fun:=fn 2 2
 (au (br (dg (av (dh (eBin oIx (ae 1) (eK (.int 1))) (aJ (ae 0) 13))))
 (bW 13 (ag (ae 1) aNil))
 (cB sPass))
 (cB (cR (aJ (ae 0) 13) (eBin oIx (ae 1) (eK (.int 1))) (aJ (ae 0) 12))))
def V9:Fun:=fn 2 2
 (aC (eTGet (aJ (ae 0) 10) (ae 1)))
def M4:Fun:=fn 3 3
 (aC (eBin ju (aJ (ae 0) 12) (eBin aS (aQ 1 V9 (aJ (ae 0) 6) (ag (ae 1) aNil)) (q8 (ae 2)))))
def G1:Fun:=fn 2 2
 (aC (Y9 (dh (ae 1) (aJ (ae 0) 13)) (eBin eO (eTGet (aJ (ae 0) 13) (ae 1)) (aJ (ae 0) 12))))
def G2:Fun:=fn 2 2
 (aC (Y9 (dh (ae 1) (aJ (ae 0) 15)) (eBin eO (eTGet (aJ (ae 0) 15) (ae 1)) (aJ (ae 0) 12))))
def M8:SD:=
 (aD (df (ae 2) (fK (eK (.int 1))) gJ) (gName 2))
def J1:SD:=lE (tAnd (av (eBin cQ (ae 2) (aX aNil))) (av (eBin dv (eBin oIx (ae 2) (eK (.int 0))) (aJ (ae 0) 11)))) M8
def D8:Fun:=fn 3 2
 (au (aD (df (ae 1) (fK (eK (.int 1))) gJ) (gName 2))
 (au J1
 (aC (nq (eBin ck (ae 2) (aX aNil)) (aQ 2 G2 (ae 0) (ag (ae 2) aNil))))))
def G9:Fun:=fn 4 2
 (au (cB (aD (eBin oIx (ae 1) (eK (.int 1))) (gName 2)))
 (au (cB (aD (eBin oIx (ae 1) (eK (.int 2))) (gName 3)))
 (au (br (dg (tNot (av (aQ 2 G1 (ae 0) (ag (ae 2) aNil)))))
 (bW 14 (ag (ae 1) aNil))
 (cB sPass))
 (au (br (dg (av (aQ 2 M4 (ae 0) (ag (ae 2) (ag (ae 3) aNil)))))
 (bW 15 (ag (ae 1) aNil))
 (cB sPass))
 (au (br (dg (tNot (av (aQ 2 D8 (ae 0) (ag (ae 3) aNil)))))
 (bW 16 (ag (ae 1) aNil))
 (cB sPass))
 (au (cB (aO (V5 (i6 (aJ (ae 0) 14) (ae 2) (bA aNil)) (aX (ag (aJ (ae 0) 12) (ag (ae 3) aNil))))))
 (cB (aO (i6 (aJ (ae 0) 15) (ae 3) (aJ (ae 0) 12))))))))))
def L7:Fun:=fn 2 2
 (au (br (dg (tNot (av (C8 R4 (ag (aJ (ae 0) 6) (ag (ae 1) aNil))))))
 (bW 12 (ag (ae 1) aNil))
 (cB sPass))
 (br (dg (av (eBin ck (eBin oIx (ae 1) (eK (.int 0))) (eK (.str "lay")))))
 (aO (i5 2 K7 (ae 0) (ag (ae 1) aNil)))
 (aO (i5 2 G9 (ae 0) (ag (ae 1) aNil)))))
def N6:Fun:=fn 2 2
 (aC (l4 (kI (aJ (ae 0) 14) (ae 1) (bA aNil))))
def G5:ED:=L9 (bI (aQ 2 N6 (ae 0) (ag (ae 1) aNil))) (cw [none,none]) (gTup 2 (gCons (gName 0) (gCons (gName 1) gNil))) bp (eBin oIx (ae 1) (eK (.int (-1))))
def aM:ED:=L9 (bI (aJ (aJ (ae 0) 6) 9)) (cw [none,some 2]) (gName 0) bp (eBin dv (ae 0) (ae 1))
def E4:Fun:=fn 3 2
 (au (aD G5 (gName 2))
 (aC (fA aM)))
def J3:Fun:=fn 1 1
 (aC (nC (aJ (ae 0) 13)))
def W9:ED:=L9 (bI (aQ 2 J3 (ae 0) aNil)) (cw [none,some 0]) (gName 0) (av (aQ 2 E4 (ae 1) (ag (ae 0) aNil))) (ae 0)
def N1:Fun:=fn 1 1
 (aC W9)
def aU:ED:=L9 (bI (ae 2)) (cw [none,some 0]) (gName 0) (av (aQ 2 D8 (ae 1) (ag (ae 0) aNil))) (ae 0)
def J7:Fun:=fn 3 2
 (au (aD (C8 N3 (ag (aJ (aJ (ae 0) 6) 3) (ag (aJ (aJ (ae 0) 6) 9) (ag (ae 1) aNil)))) (gName 2))
 (aC aU))
def L8:Fun:=fn 2 2
 (au (br (av (eBin eO (ae 1) (q8 (ae 0))))
 (aC (eBin oIx (ae 0) (ae 1)))
 sPass)
 (aC (eK (.int 0))))
def E1:Fun:=fn 3 2
 (au (br (tAnd (av (eBin ju (ae 0) (eBin gK (eK (.int 10)) (eK (.int 60))))) (av (eBin ck (eBin bH (ae 0) (eK (.int 2))) (eK (.int 1)))))
 (aC (eBin fN (eBin fM (ae 0) (eBin aS (eK (.int 1)) (eBin cG (eK (.int 20)) (ae 1)))) (eK (.int 1048575))))
 sPass)
 (au (aD (eBin bH (eBin cG (eBin aS (eBin aS (ae 0) (eBin cG (eK (.int 7919)) (ae 1))) (eK (.int 1))) (eK (.int 48271))) (eK (.int 2147483647))) (gName 2))
 (au (aD (eBin bH (eBin cG (ae 2) (eBin aS (eBin bB (ae 2) (eK (.int 1009))) (eK (.int 69621)))) (eK (.int 2147483647))) (gName 2))
 (aC (eBin bH (eBin cG (ae 2) (eBin aS (eBin bB (ae 2) (eK (.int 4099))) (eK (.int 40014)))) (eK (.int 2147483647)))))))
def O2:ED:=L9 (iRng1 (ae 1)) (cw [none,some 0]) (gName 0) bp (aX (ag (C8 E1 (ag (ae 1) (ag (eBin aS (eK (.int 20)) (ae 0)) aNil))) (ag (ae 0) aNil)))
def O3:ED:=L9 (iRng1 (ae 1)) (cw [none,some 2]) (gName 0) bp (aX (ag (eBin oIx (eBin oIx (ae 1) (eBin fH (ae 0) (eK (.int 1)))) (eK (.int 1))) (ag (eBin oIx (eBin oIx (ae 1) (ae 0)) (eK (.int 1))) aNil)))
def aZ:SD:=
 (au (aD (C8 E1 (ag (ae 0) (ag (eBin aS (eBin aS (eK (.int 40)) (eBin cG (eK (.int 6)) (ae 5))) (ae 6)) aNil))) (gName 7))
 (br (tAnd (av (eBin cQ (ae 5) (ae 6))) (tOr (av (eBin dv (aX (ag (ae 5) (ag (ae 6) aNil))) (ae 3))) (av (eBin ck (eBin bH (ae 7) (eK (.int 3))) (eK (.int 0))))))
 (aO (V5 (ae 4) (aX (ag (ae 5) (ag (ae 6) aNil)))))
 sPass))
def O4:SD:=fz (iRng1 (ae 1)) (gName 6) aZ
def ba:SD:=
 O4
def O5:SD:=fz (iRng1 (ae 1)) (gName 5) ba
def M5:Fun:=fn 8 2
 (au (aD (b9 O2) (gName 2))
 (au (aD O3 (gName 3))
 (au (aD (bA aNil) (gName 4))
 (au O5
 (aC (ae 4))))))
def X8:ED:=L9 (iRng1 (ae 1)) (cw [none,some 0]) (gName 0) (av (eBin ck (eBin fN (eBin fM (ae 1) (ae 0)) (eK (.int 1))) (eK (.int 1)))) (ae 0)
def Q5:Fun:=fn 2 2
 (aC X8)
def U2:ED:=L9 (bI (ae 0)) (cw [none,none,some 4]) (gTup 2 (gCons (gName 0) (gCons (gName 1) gNil))) (tAnd (av (eBin ck (ae 0) (eBin oIx (ae 2) (eK (.int (-1)))))) (av (eBin bt (ae 1) (ae 2)))) (eBin aS (ae 2) (aX (ag (ae 1) aNil)))
def bP:SD:=
 (aD (eBin aS (ae 3) U2) (gName 3))
def U3:SD:=fz (bI (ae 1)) (gName 4) bP
def X9:SD:=
 (au (aD (eBin aS (ae 2) (ae 1)) (gName 2))
 (au (aD (bA aNil) (gName 3))
 (au U3
 (aD (ae 3) (gName 1)))))
def U4:SD:=lE (av (eBin cQ (ae 1) (bA aNil))) X9
def T6:Fun:=fn 5 2
 (au (aD (bA aNil) (gName 2))
 (au U4
 (aC (ae 2))))
def V3:ED:=L9 (bI (C8 T6 (ag (ae 0) (ag (bA (ag (aX (ag (ae 2) aNil)) aNil)) aNil)))) (cw [none,some 1]) (gName 0) (av (eBin dv (eBin oIx (ae 0) (eK (.int (-1)))) (ae 1))) (ae 0)
def G7:Fun:=fn 3 3
 (aC V3)
def D7(a:Fun):Fun:=fn 4 3
 (au (br (av (eBin ck (q8 (ae 2)) (eK (.int 1))))
 (aC (eK (.bl true)))
 sPass)
 (au (aD (df (ae 2) (fK (eK (.int 1))) gJ) (gName 3))
 (au (br (av (eBin dv (eBin oIx (ae 3) (eK (.int 0))) (ae 1)))
 (aC (C8 a (ag (ae 0) (ag (ae 1) (ag (ae 3) aNil)))))
 sPass)
 (aC (eBin eO (kI (eSGet (ae 0) (eK (.str "shown"))) (ae 3) (eSGet (ae 0) (eK (.str "turn")))) (eSGet (ae 0) (eK (.str "turn"))))))))
noncomputable def Y1:Fun:=λ_=>stuck
def o0:Fun:=D7 Y1
def o4:Fun:=D7 o0
def o5:Fun:=D7 o4
def o6:Fun:=D7 o5
def o7:Fun:=D7 o6
def R5:Fun:=D7 o7
def N7:Fun:=fn 7 4
 (au (aD (ae 1) (gTup 3 (gCons (gName 4) (gCons (gName 5) (gCons (gName 6) gNil)))))
 (au (br (tOr (av (eBin bt (eBin oIx (ae 3) (eK (.int 0))) (aX (ag (eK (.str "lay")) (ag (eK (.str "say")) aNil))))) (tOr (av (eBin cQ (q8 (ae 3)) (eBin aS (eK (.int 2)) (lG (eBin ck (eBin oIx (ae 3) (eK (.int 0))) (eK (.str "say"))))))) (av (eBin bt (eBin oIx (ae 3) (eK (.int 1))) (ae 4)))))
 (aC (eK (.str "deed")))
 sPass)
 (au (br (av (eBin ck (eBin oIx (ae 3) (eK (.int 0))) (eK (.str "lay"))))
 (aC (eBin oIx (bA (ag (eK (.str "none")) (ag (eK (.str "laid")) aNil))) (lG (dh (eBin oIx (ae 3) (eK (.int 1))) (eSGet (ae 0) (eK (.str "lays")))))))
 sPass)
 (au (br (av (eBin bt (eBin oIx (ae 3) (eK (.int 2))) (C8 G7 (ag (ae 4) (ag (ae 5) (ag (eBin oIx (eBin oIx (ae 3) (eK (.int 1))) (eK (.int 1))) aNil))))))
 (aC (eK (.str "deed")))
 sPass)
 (au (br (av (eBin kF (kI (eSGet (ae 0) (eK (.str "lays"))) (eBin oIx (ae 3) (eK (.int 1))) (eSGet (ae 0) (eK (.str "turn")))) (eSGet (ae 0) (eK (.str "turn")))))
 (aC (eK (.str "notlaid")))
 sPass)
 (au (br (av (eBin ju (eSGet (ae 0) (eK (.str "turn"))) (eBin aS (eTGet (ae 6) (eBin oIx (ae 3) (eK (.int 1)))) (q8 (eBin oIx (ae 3) (eK (.int 2)))))))
 (aC (eK (.str "late")))
 sPass)
 (au (br (tNot (av (C8 R5 (ag (ae 0) (ag (ae 2) (ag (eBin oIx (ae 3) (eK (.int 2))) aNil))))))
 (aC (eK (.str "unknown")))
 sPass)
 (aC (eK (.str "none"))))))))))
def N8:Fun:=fn 2 2
 (br (av (eBin ck (eBin oIx (ae 1) (eK (.int 0))) (eK (.str "lay"))))
 (au (cR (eSGet (ae 0) (eK (.str "lays"))) (eBin oIx (ae 1) (eK (.int 1))) (eSGet (ae 0) (eK (.str "turn"))))
 (cR (eSGet (ae 0) (eK (.str "says"))) (eBin oIx (ae 1) (eK (.int 1))) (bA aNil)))
 (au (aO (V5 (eTGet (eSGet (ae 0) (eK (.str "says"))) (eBin oIx (ae 1) (eK (.int 1)))) (aX (ag (eSGet (ae 0) (eK (.str "turn"))) (ag (eBin oIx (ae 1) (eK (.int 2))) aNil)))))
 (aO (i6 (eSGet (ae 0) (eK (.str "shown"))) (eBin oIx (ae 1) (eK (.int 2))) (eSGet (ae 0) (eK (.str "turn")))))))
def U5:ED:=L9 (bI (ae 4)) (cw [none,none]) (gTup 2 (gCons (gName 0) (gCons (gName 1) gNil))) bp (eBin oIx (ae 1) (eK (.int (-1))))
def bQ:SD:=
 (br (av (lI U5 (ae 1)))
 (aO (V5 (ae 2) (ae 3)))
 sPass)
def Y2:SD:=qg (eSGet (ae 0) (eK (.str "says"))) (gTup 2 (gCons (gName 3) (gCons (gName 4) gNil))) bQ
def T7:Fun:=fn 5 2
 (au (aD (bA aNil) (gName 2))
 (au Y2
 (aC (b9 (ae 2)))))
def J4:Fun:=fn 6 2
 (au (aD (eK (.str "none")) (gName 2))
 (au (aD (ae 1) (gName 3))
 (au (aD (eK (.bl true)) (gName 4))
 (au (kH [7,8,9,12,13,14,15,16] (aO (i5 2 L7 (ae 0) (ag (ae 1) aNil))) [(12,some 5,(aD (aX (ag (eK (.str "deed")) (ag (iF [7,8,9,12,13,14,15,16] (ae 5)) (ag (Y9 (eQ [7,8,9,12,13,14,15,16] (ae 5) 7) (de (eQ [7,8,9,12,13,14,15,16] (ae 5) 16))) aNil)))) (gTup 3 (gCons (gName 2) (gCons (gName 3) (gCons (gName 4) gNil)))))),(13,some 5,(aD (aX (ag (eK (.str "laid")) (ag (iF [7,8,9,12,13,14,15,16] (ae 5)) (ag (Y9 (eQ [7,8,9,12,13,14,15,16] (ae 5) 7) (de (eQ [7,8,9,12,13,14,15,16] (ae 5) 14))) aNil)))) (gTup 3 (gCons (gName 2) (gCons (gName 3) (gCons (gName 4) gNil)))))),(14,some 5,(aD (aX (ag (eK (.str "notlaid")) (ag (iF [7,8,9,12,13,14,15,16] (ae 5)) (ag (Y9 (eQ [7,8,9,12,13,14,15,16] (ae 5) 7) (de (eQ [7,8,9,12,13,14,15,16] (ae 5) 13))) aNil)))) (gTup 3 (gCons (gName 2) (gCons (gName 3) (gCons (gName 4) gNil)))))),(15,some 5,(aD (aX (ag (eK (.str "late")) (ag (iF [7,8,9,12,13,14,15,16] (ae 5)) (ag (Y9 (eQ [7,8,9,12,13,14,15,16] (ae 5) 7) (de (eQ [7,8,9,12,13,14,15,16] (ae 5) 14))) aNil)))) (gTup 3 (gCons (gName 2) (gCons (gName 3) (gCons (gName 4) gNil)))))),(16,some 5,(aD (aX (ag (eK (.str "unknown")) (ag (iF [7,8,9,12,13,14,15,16] (ae 5)) (ag (Y9 (eQ [7,8,9,12,13,14,15,16] (ae 5) 7) (de (eQ [7,8,9,12,13,14,15,16] (ae 5) 12))) aNil)))) (gTup 3 (gCons (gName 2) (gCons (gName 3) (gCons (gName 4) gNil))))))])
 (au (br (tOr (av (eBin cQ (ae 3) (ae 1))) (tNot (av (ae 4))))
 (aC (eK (.str "odd")))
 sPass)
 (aC (ae 2)))))))
def U6:ED:=L9 (fL (ae 1)) (cw [none,none,some 3,some 4]) (gTup 2 (gCons (gName 0) (gCons (gName 1) gNil))) bp (aX (ag (ae 1) (ag (eBin bH (C8 E1 (ag (ae 2) (ag (eBin aS (eBin aS (eK (.int 100)) (eBin cG (eK (.int 30)) (ae 3))) (ae 0)) aNil))) (eK (.int 10))) aNil)))
def Q6:Fun:=fn 9 5
 (au (aD (C8 Q5 (ag (eBin aS (eK (.int 1)) (eBin bH (C8 E1 (ag (ae 3) (ag (eBin aS (eK (.int 10)) (ae 4)) aNil))) (eBin fH (eBin gL (eK (.int 1)) (ae 2)) (eK (.int 1))))) (ag (ae 2) aNil))) (gName 5))
 (au (aD (C8 Q5 (ag (C8 E1 (ag (ae 3) (ag (eBin aS (eK (.int 12)) (ae 4)) aNil))) (ag (ae 2) aNil))) (gName 6))
 (au (aD (nF U6) (gName 7))
 (au (aD (dw [("turn",(eK (.int 1))),("lays",eTNew),("says",eTNew),("shown",eTNew)]) (gName 8))
 (aC (aX (ag (aX (ag (ae 1) (ag (ae 5) (ag (ae 7) aNil)))) (ag (ae 6) (ag (ae 8) (ag (iD 2 L6 (ag (iD 1 P1 (ag (ae 0) (ag (ae 5) (ag (ae 7) aNil)))) (ag (ae 6) aNil))) aNil))))))))))
def Q7:Fun:=fn 5 3
 (au (aD (eBin oIx (ae 0) (eBin bH (eBin bB (ae 2) (eK (.int 3))) (q8 (ae 0)))) (gName 3))
 (au (aD (C8 G7 (ag (ae 0) (ag (ae 1) (ag (eBin oIx (ae 3) (eK (.int 1))) aNil)))) (gName 4))
 (au (br (tOr (av (eBin ck (eBin bH (ae 2) (eK (.int 3))) (eK (.int 0)))) (av (eBin ck (ae 4) (bA aNil))))
 (aC (aX (ag (eK (.str "lay")) (ag (ae 3) aNil))))
 sPass)
 (aC (aX (ag (eK (.str "say")) (ag (ae 3) (ag (eBin oIx (ae 4) (eBin bH (eBin bB (ae 2) (eK (.int 100))) (q8 (ae 4)))) aNil))))))))
def S3:ED:=L9 (bI (ae 6)) (cw [none,some 4,some 3]) (gName 0) (av (C8 R5 (ag (ae 1) (ag (ae 2) (ag (ae 0) aNil))))) (ae 0)
def P3:Fun:=fn 7 2
 (au (aD (ae 0) (gTup 4 (gCons (gName 2) (gCons (gName 3) (gCons (gName 4) (gCons (gName 5) gNil))))))
 (au (aD (C8 G7 (ag (eBin oIx (ae 2) (eK (.int 0))) (ag (eBin oIx (ae 2) (eK (.int 1))) (ag (ae 1) aNil)))) (gName 6))
 (aC (eBin ck (aQ 2 J7 (ae 5) (ag (ae 1) aNil)) S3))))
def oQ:ED:=L9 (iRng1 (eK (.int 2))) (cw [none,some 4,some 3,some 2,some 1]) (gName 0) bp (C8 Q6 (ag (ae 1) (ag (ae 2) (ag (ae 3) (ag (ae 4) (ag (ae 0) aNil))))))
def j5:ED:=L9 (bI (ae 5)) (cw [none,some 7,some 2]) (gName 0) bp (C8 P3 (ag (ae 0) (ag (eBin bH (eBin bB (ae 1) (eK (.int 8))) (ae 2)) aNil)))
def oR:SD:=
 (au (aD (C8 E1 (ag (ae 1) (ag (eK (.int 3)) aNil))) (gName 7))
 (au (aD (eBin oIx (ae 5) (eBin bH (ae 7) (eK (.int 2)))) (gTup 4 (gCons (gName 8) (gCons (gName 9) (gCons (gName 10) (gCons (gName 11) gNil))))))
 (au (br (av (eBin ck (eBin bH (eBin bB (ae 7) (eK (.int 2))) (eK (.int 4))) (eK (.int 0))))
 (au (aO (aQ 2 N5 (ae 11) aNil))
 (dH (ae 10) (eK (.str "turn")) (eBin aS (eSGet (ae 10) (eK (.str "turn"))) (eK (.int 1)))))
 (au (aD (C8 Q7 (ag (ae 3) (ag (ae 6) (ag (eBin bB (ae 7) (eK (.int 8))) aNil)))) (gName 12))
 (au (aD (C8 N7 (ag (ae 10) (ag (ae 8) (ag (ae 9) (ag (ae 12) aNil))))) (gName 13))
 (au (br (av (eBin cQ (C8 J4 (ag (ae 11) (ag (ae 12) aNil))) (ae 13)))
 (aC (eK (.bl false)))
 sPass)
 (br (av (eBin ck (ae 13) (eK (.str "none"))))
 (aO (C8 N8 (ag (ae 10) (ag (ae 12) aNil))))
 sPass)))))
 (br (tNot (av (fA j5)))
 (aC (eK (.bl false)))
 sPass))))
def rW:SD:=fz (bI (df (ae 0) (fK (eK (.int 1))) (fK (eK (.int 31))))) (gName 1) oR
def oS:SD:=
 (br (tOr (av (eBin cQ (aQ 2 J3 (ae 11) aNil) (b9 (nE (eSGet (ae 10) (eK (.str "lays"))))))) (av (eBin cQ (aQ 2 N1 (ae 11) aNil) (C8 T7 (ag (ae 10) (ag (eBin oIx (ae 8) (eK (.int 1))) aNil))))))
 (aC (eK (.bl false)))
 sPass)
def rX:SD:=fz (bI (ae 5)) (gTup 4 (gCons (gName 8) (gCons (gName 9) (gCons (gName 10) (gCons (gName 11) gNil))))) oS
def oU:Fun:=fn 14 1
 (au (aD (C8 L8 (ag (ae 0) (ag (eK (.int 0)) aNil))) (gName 1))
 (au (aD (eBin aS (eK (.int 2)) (eBin bH (C8 E1 (ag (ae 1) (ag (eK (.int 0)) aNil))) (eK (.int 4)))) (gName 2))
 (au (aD (C8 M5 (ag (ae 1) (ag (ae 2) aNil))) (gName 3))
 (au (aD (iD 0 P2 (ag (ae 2) (ag (ae 3) aNil))) (gName 4))
 (au (aD oQ (gName 5))
 (au (aD (l7 (eBin aS (eBin oIx (eBin oIx (eBin oIx (ae 5) (eK (.int 0))) (eK (.int 0))) (eK (.int 1))) (eBin oIx (eBin oIx (eBin oIx (ae 5) (eK (.int 1))) (eK (.int 0))) (eK (.int 1))))) (gName 6))
 (au rW
 (au rX
 (aC (fA (bA (ag (eBin ck (aJ (ae 4) 1) (ae 3)) (ag (eBin ck (aJ (ae 4) 0) (ae 2)) aNil)))))))))))))
@[simp] theorem Lg(i:Int)(A:PHp):K9 [.int i] A=.ok (.bl true) A:=by simp[K9]
def bY(n h:Int)(A:PHp):J6 [.int n,.int h] A=.ok (.bl (decide (0<=h/\h<n))) A:=by
 by_cases a:0<=h<;>simp[J6,a]
def Hq(n:Int)(A:PHp):E9 [.int n] A=.ok (.bl (decide (2<=n/\n<=6))) A:=by
 by_cases a:2<=n<;>simp[E9,a]
def good(n:Int)(p:Int×Int):Prop:=(0<=p.1/\p.1<n)/\(0<=p.2/\p.2<n)/\p.1≠p.2
instance (n:Int) (p:Int×Int):Decidable (good n p):=by unfold good;infer_instance
def o8(n:Int)(p:Int×Int)(A:PHp):K6 [.int n,pv p] A=.ok (.bl (decide (good n p))) A:=by
 by_cases a:0<=p.1/\p.1<n<;>by_cases b:0<=p.2/\p.2<n<;>simp[K6,pv,good,atI,ixN,bJ,bY,a,b]
structure G3(n:Int)(ps:List (Int×Int)):Prop where
 lo:2<=n
 hi:n<=6
 good:∀p∈ps,good n p
 nd:ps.Nodup
 len:ps.length<64
def Hr{b:Type}(a:List b)(i:Nat):cut a none (some (i:Int))=a.take i:=by
 unfold cut V4;simp only[List.drop_zero,Nat.sub_zero];rw[if_neg (by simp)];rw[List.take_eq_take_iff];symm
def Ht(W:G3 n ps)(o:A[r]?=some (.lst (aG ps))) :
 ∃A',E5 [.int n,.ref r] A=.ok .non A'/\A<+:A':=by
 have q:Comes (L5 [some (.int n),some (.ref r),none,none] A) (λσ A'=>A<+:A') (λ_ _=>False):=by
  refine(Br (l:=aG ps) (a:=r) (by simp_all) (λi σ A'=>A<+:A'/\∃x y,σ=[some _,some _,x,y]) _ ⟨LO _,_,_,rfl⟩ ?_ ?_).mono (λ_ _ h=>h.1) (λ_ _ h=>h)
  .rintro i σ A' ⟨f,_⟩;simp[ai f o]
  .rintro i v σ A' s ⟨f,x,y,rfl⟩;have g:=ai f o;obtain⟨p,b,rfl⟩:∃p,ps[i]?=some p/\v=pv p:=by
    simp only[aG,LL]at s;cases e:ps[i]? with
    | none=>simp_all
    | some p=>simp_all
   have c:=Mm b;have u:=W.good p c;have d:p∉ps.take i:=by
    intro w;have m:=(LA.mp b).1;obtain⟨j,z,e⟩:=MX.mp w;rw[MS]at z;rw[Se]at e;have B:ps[i]=p:=(LA.mp b).2;exact Nr.mp W.nd j i _ m (by symm) (e.trans B.symm)
   have C:cut (aG ps) none (some (i:Int))=aG (ps.take i):=by rw[Hr];simp[aG]
   refine dF.nx (σ:=[some _,some _,some (.int i),some (pv p)]) (A:=A'++[.lst (aG (ps.take i))]) ?_ ⟨D0 f,_,_,rfl⟩;simp[L4,o8,u,g,C,GX,R3,rM,d]
 obtain⟨σ,A',e,h⟩:=q.end;refine⟨A',?_,h⟩;simp[E5,e]
noncomputable def l2(p:Int×Int):List Int:=[p.1,p.2]
noncomputable def gk(p q:Int×Int):Bool:=D3 (l2 p) (l2 q)
noncomputable def srt(ps:List (Int×Int)):List (Int×Int):=D9 gk ps
theorem wV{c d:Type}(f:c->d)(lt:d->d->Bool)(a:c):∀l:List c,d4 lt (f a) (l.map f)=(d4 (λx y=>lt (f x) (f y)) a l).map f
 | []=>rfl
 | b::r=>by
   have ih:=wV f lt a r;simp only[LX,d4];split
   .simp_all
   .rfl
theorem t6{c b:Type}(f:c->b)(lt:b->b->Bool):∀l:List c,D9 lt (l.map f)=(D9 (λx y=>lt (f x) (f y)) l).map f
 | []=>rfl
 | a::r=>by
   simp only[LX,D9];rw[t6 f lt r,wV]
def rY(ps:List (Int×Int)):aG ps=(ps.map l2).map λt=>PV.tup (t.map .int):=by
 simp[aG,pv,l2]
def t7(h:ps.length<64):l5 (aG ps) A=.ok (aG (srt ps)) A:=by
 rw[rY,w8 (by simp_all) (by intro t a;obtain⟨p,_,rfl⟩:=Lv.mp a;simp[l2]),t6,rY];rfl
def H9(ps:List (Int×Int)):(srt ps).Perm ps:=J2 _ _
structure be(A:PHp)(w r:Nat)(n:Int)(ps:List (Int×Int)):Prop where
 ob:A[w]?=some (.ins 0 [(0,.int n),(1,.ref r)])
 ls:A[r]?=some (.lst (aG (srt ps)))
def be.mono(h:be A w r n ps)(e:A<+:B):be B w r n ps:=⟨ai e h.ob,ai e h.ls⟩
def Hu(W:G3 n ps)(s:A<+:B)(m:A.length<=w)(c:B[w]?=some (.ins 0 []))(d:B[q]?=some (.lst (aG ps))) :
 ∃e r,P2 [.ref w,.int n,.ref q] B=.ok .non e/\A<+:e/\be e w r n ps/\w<r:=by
 obtain⟨p,u,f⟩:=Ht W d;have a:=ai f c;have g:=ai f d;have h:=C6 a;have i:q≠w:=by rintro rfl;rw[d]at c;cases c
 have j:(p.set w (.ins 0 [(0,.int n)]))[q]?=some (.lst (aG ps)):=by rw[C5 i];exact g
 have l:(p.set w _)[w]?=some (.ins 0 [(0,.int n)]):=aE a;have b:=ak (o:=PO.lst (aG (srt ps))) l;refine⟨(_++[PO.lst _]).set w _,_,?_,?_,⟨aE b,?_⟩,h⟩
 .simp[P2,Hq,W.lo,W.hi,u,a,j,b,t7 W.len]
 .exact X5 (D0 (X5 (s.trans f) m)) m
 .simp_all
def Hv(W:G3 n ps)(b:A[q]?=some (.lst (aG ps))) :
 ∃a r,P2 [.ref A.length,.int n,.ref q] (A++[.ins 0 []])=.ok .non a/\A<+:a/\be a A.length r n ps/\A.length<r:=
 Hu W (Lw _ _) (Lp _) aq (ak b)
noncomputable def M6(ps:List (Int×Int))(h:Int):List Int:=(ps.filter λp=>decide (p.1=h)).map (·.2)
def Hw(ps:List (Int×Int))(h:Int):((aG ps).filter λv=>decide (iW v=h)).map (λv=>PV.int (hX v))=(M6 ps h).map .int:=by
 simp only[aG,M6,OY,LM];rfl
def wW{b:Type}{a:List b}(h:j<a.length):atI a (j:Int)=some a[j]:=by
 unfold atI ixN;simp[h]
def wX{b:Type}(a:List b)(i:Nat):cut a (some (i:Int)) none=a.drop i:=by
 unfold cut V4;simp only;rw[if_neg (by simp)];rw[show(min (i:Int) _).toNat=min i a.length by symm];by_cases h:i<=a.length
 .rw[Nat.min_eq_left h,NI (by simp)]
 .rw[Nat.min_eq_right (by symm),SR,Qo (by symm)];simp
def oV(d:a σ A=.ok x A1)(e:b σ A1=.ok y A2)(g:f x y A2=.ok z c):eBin f a b σ A=.ok z c:=by simp_all
def rZ(h:e σ A=.ok (.bl b) A1):av e σ A=.ok b A1:=by simp_all
def wY(p q:Int×Int):gk p q=true↔p.1<q.1\/(p.1=q.1/\p.2<q.2):=by
 unfold gk l2 D3 D3;by_cases h:p.1=q.1
 .by_cases a:p.2=q.2<;>simp[h,a,D3]
 .simp[h]
def se(p q:Int×Int):gk p q=false↔¬(p.1<q.1\/(p.1=q.1/\p.2<q.2)):=by
 rw[<-wY];simp
def t8(ps:List (Int×Int)):(srt ps).Pairwise (λp q=>gk q p=false):=by
 refine T9 ?_ ?_ ps
 .intro a b h;rw[wY]at h;rw[se];symm
 .intro a b c d e;rw[se]at *;symm
def Hx(ps:List (Int×Int))(h:Int):(M6 ps h).length<=ps.length:=by
 unfold M6;rw[Lo];exact MI _ _
def wZ(b:a σ A=.ok u A1):ag a aNil σ A=.ok [u] A1:=by simp_all
def Hy(d:a σ A=.ok (.ref n) A1)(e:A1[n]?=some (.ins c fs))(h:es σ A1=.ok vs A2)(g:f (.ref n::vs) A2=.ok v b):aQ c f a es σ A=.ok v b:=by simp_all
noncomputable def S4(N:Nat):List Int:=(Mo N).map λ(k:Nat)=>(k:Int)
def mem_hands:x∈S4 N↔0<=x/\x<N:=by
 unfold S4;rw[Lv];constructor
 .grind
 .rintro⟨a,b⟩;exact⟨x.toNat,Nn.mpr (by symm),by symm⟩
def aT(N:Nat):(S4 N).length=N:=by simp[S4]
def j6(N:Nat):(S4 N).Pairwise (·< ·):=by
 unfold S4;rw[Pf];exact List.pairwise_lt_range.imp λh=>by symm
def Hz(N:Nat):(S4 N).Nodup:=(j6 N).imp λh z=>by symm
def HA(h:e σ A=.ok v A1):aC e σ A=.ok (.rt v) A1:=by simp_all
def HB:b∈M6 (srt ps) a↔(a,b)∈ps:=by
 unfold M6;rw[Lv];constructor
 .rintro⟨⟨x,y⟩,c,rfl⟩;rw[Mg]at c;obtain⟨e,d⟩:=c;simp at d;subst d;exact(H9 ps).mem_iff.mp e
 .intro h;exact⟨_,Mg.mpr ⟨(H9 ps).mem_iff.mpr h,by simp⟩,rfl⟩
def HC(x:Int)(M:List Int):dc (.int x) (M.map .int)=decide (x∈M):=by
 induction M with
 | nil=>rfl
 | cons y r ih=>
   show(bJ _ _||dc _ _)=_;rw[ih];by_cases h:y=x
   .simp[bJ,h]
   .have:x≠y:=λz=>h z.symm;simp[bJ,h,this]
def xa(ps a:List (Int×Int)):eqvs (aG ps) (aG a)=decide (ps=a):=by
 have h:=qa (aG ps) (aG a) (R3 _);have inj:aG ps=aG a↔ps=a:=⟨λz=>by
  exact List.map_inj_right (λ_ _=>wR) |>.mp z,λz=>by rw[z]⟩
 cases e:eqvs _ _ with
 | true=>exact(decide_eq_true (inj.mp (h.mp e))).symm
 | false=>simp_all
section
variable{A:PHp}{Q:PV->PHp->Prop}{E:XP}{σ:PSt}{i j:Int}{n k:Nat}{e e1 e2 e3 e4:ED}
def w_shr(h:0<=j)(q:Q (.int (i / 2 ^ j.toNat)) A):Wp (fM (.int i) (.int j)) A Q E:=C7 h q
def w_shl(h:0<=j/\j<=1000000/\i.natAbs<2 ^ 64)(q:Q (.int (i*2 ^ j.toNat)) A):Wp (gL (.int i) (.int j)) A Q E:=C7 h q
def HD(q:Q (.int (Nl i j)) A):Wp (fN (.int i) (.int j)) A Q E:=q
abbrev DT:=List (List Int×PV)
variable{m:DT}
def Z7(h:A[n]?=some (.dT m))(q:a m A):Wp (S7 n) A a E:=w_eq (by unfold S7;rw[h]) q
def HE(q:Q (.ref A.length) (A++[.dT []])):Wp (eTNew σ) A Q E:=q
def HF(h:Wp (e1 σ) A (λk b=>Wp (e2 σ) b (λx a=>∃n i m,x=.ref n/\Q1 k=some i/\a[n]?=some (.dT m)/\Q (.bl (aK m i).isSome) a) E) E):Wp (dh e1 e2 σ) A Q E:=
 B6 (af h λk b c=>B6 (af c λx a ⟨n,i,m,d,f,g,q⟩=>by subst d;rw[f];exact B6 (Z7 g q)))
def HG(h:Wp (e1 σ) A (λx b=>Wp (e2 σ) b (λk a=>∃n i m v,x=.ref n/\Q1 k=some i/\a[n]?=some (.dT m)/\aK m i=some v/\Q v a) E) E):Wp (eTGet e1 e2 σ) A Q E:=
 B6 (af h λx b c=>B6 (af c λk a ⟨n,i,m,v,d,f,g,l,q⟩=>by subst d;rw[f];exact B6 (Z7 g (by rw[l];exact q))))
def HH(h:Wp (e1 σ) A (λx A1=>∃n b,x=.ref n/\A1[n]?=some (.dT b)/\Wp (e2 σ) A1 (λk a=>∃i m,Q1 k=some i/\a[n]?=some (.dT m)/\Q ((aK m i).getD .non) a) E) E):Wp (nA e1 e2 σ) A Q E:=
 B6 (af h λx A1 c=>by
  obtain⟨n,b,d,f,g⟩:=c;subst d;exact B6 (Z7 f (B6 (af g λk a ⟨i,m,l,o,q⟩=>by rw[l];exact B6 (Z7 o q)))))
def eE(h:Wp (e1 σ) A (λx A1=>∃n b,x=.ref n/\A1[n]?=some (.dT b)/\Wp (e2 σ) A1 (λk c=>Wp (e3 σ) c (λv a=>∃i m,Q1 k=some i/\a[n]?=some (.dT m)/\Q ((aK m i).getD v) a) E) E) E):Wp (kI e1 e2 e3 σ) A Q E:=
 B6 (af h λx A1 d=>by
  obtain⟨n,b,f,g,l⟩:=d;subst f;exact B6 (Z7 g (B6 (af l λk c o=>B6 (af o λv a ⟨i,m,p,r,q⟩=>by rw[p];exact B6 (Z7 r q))))))
def HI(h:Wp (e3 σ) A (λv c=>Wp (e1 σ) c (λx d=>Wp (e2 σ) d (λk a=>∃n i m,x=.ref n/\Q1 k=some i/\a[n]?=some (.dT m)/\m.length<LIM/\b (.nx σ) (a.set n (.dT (V6 m i v)))) E) E) E):Wp (cR e1 e2 e3 σ) A b E:=
 B6 (af h λv c f=>B6 (af f λx d g=>B6 (af g λk a l=>by
  obtain⟨n,i,m,o,p,r,s,q⟩:=l;subst o;rw[p];exact B6 (Z7 r (C7 s (B6 (w_eq rfl q)))))))
def HJ(h:Wp (e σ) A (λx a=>∃n m,x=.ref n/\a[n]?=some (.dT m)/\((m.map (·.1)).Nodup/\∀p∈m,p.1∈small)/\Q (.ref a.length) (a++[.dT m])) E):Wp (nB e σ) A Q E:=
 B6 (af h λx a ⟨n,m,b,c,d,q⟩=>by subst b;exact B6 (Z7 c (C7 d q)))
def HK(q:Q (.bl (decide (x=y))) A):Wp (ck (.str x) (.str y)) A Q E:=Gs rfl rfl q
def sf(q:Q (.bl (!decide (x=y))) A):Wp (cQ (.str x) (.str y)) A Q E:=iU rfl rfl q
def ek(b:A[n]?=some (.lst (aG ps)))(c:A[k]?=some (.lst (aG a)))(q:Q (.bl (!decide (ps=a))) A):Wp (cQ (.ref n) (.ref k)) A Q E:=iV b c ⟨R3 _,R3 _⟩ (by rw[xa];exact q)
def kA(b:A[n]?=some (.lst (aG ps)))(c:A[k]?=some (.lst (aG a)))(q:Q (.bl (decide (ps=a))) A):Wp (ck (.ref n) (.ref k)) A Q E:=eD b c ⟨R3 _,R3 _⟩ (by rw[xa];exact q)
def HM(h:Wp (e σ) A (λx A1=>∃b:Bool,x=.bl b/\Q (.int (if b then 1 else 0)) A1) E):Wp (lG e σ) A Q E:=B6 (af h λx A1 ⟨b,a,q⟩=>by subst a;exact q)
def HN(h:Wp (e σ) A (λx a=>∃n l b,x=.ref n/\a[n]?=some (.lst l)/\l5 l a=.ok b a/\Q (.ref a.length) (a++[.lst b])) E):Wp (b9 e σ) A Q E:=B6 (af h λx a ⟨n,l,b,c,d,f,q⟩=>by subst c;exact B6 (R8 d (B6 (w_eq f q))))
end
def m5(h:i∉m.map (·.1)):V6 m i v=m++[(i,v)]:=by
 unfold V6;rw[if_neg];rw[List.any_eq_true];rintro⟨p,a,b⟩;exact h (Lv.mpr ⟨p,a,by simpa using b⟩)
def HQ(b:(m.map (·.1)).Nodup)(h:(i,v)∈m):aK m i=some v:=by
 induction m with
 | nil=>cases h
 | cons p r ih=>
   unfold aK;rcases Lu.mp h with z | z
   .rw[<-z,if_pos rfl]
   .have a:=Nq.mp b;have:p.1≠i:=λe=>a.1 (Lv.mpr ⟨_,z,e.symm⟩);rw[if_neg this];exact ih a.2 z
def mG{α:Type}{m:M α}{Q:α->PHp->Prop}(h:Wp m A Q NoX):Wp (dG m) A Q E:=by
 obtain⟨a,b,e,q⟩:=mB h;exact w_eq (Bw e) q
def oW(h:Wp (s σ) A Q NoX):Wp (cB s σ) A Q E:=mG h
def HR(h:Wp (t σ) A Q NoX):Wp (dg t σ) A Q E:=mG h
def HS(h:Wp (e σ) A (λv a=>E c v a) NoX):Wp (bW c (ag e aNil) σ) A Q E:=by
 refine B6 (mG (wF (af h λv a b=>wD ?_)));exact b
def sg{A:PHp}{R:Nat->DT->Prop}(h:A[n]?=some (.dT m))(q:R n m):∃a b,PV.ref n=.ref a/\A[a]?=some (.dT b)/\R a b:=⟨n,m,rfl,h,q⟩
def sh{A:PHp}{n:Nat}{R:List Int->DT->Prop}(c:Q1 k=some i)(h:A[n]?=some (.dT m))(q:R i m):∃a b,Q1 k=some a/\A[n]?=some (.dT b)/\R a b:=⟨i,m,c,h,q⟩
def si{A:PHp}{R:Nat->List Int->DT->Prop}(d:Q1 k=some i)(h:A[n]?=some (.dT m))(q:R n i m):∃a b c,PV.ref n=.ref a/\Q1 k=some b/\A[a]?=some (.dT c)/\R a b c:=⟨n,i,m,rfl,d,h,q⟩
def sj{A:PHp}{R:PV->Prop}(e:Q1 k=some i)(h:A[n]?=some (.dT m))(f:aK m i=some v)(q:R v):∃a b c d,PV.ref n=.ref a/\Q1 k=some b/\A[a]?=some (.dT c)/\aK c b=some d/\R d:=⟨n,i,m,v,rfl,e,h,f,q⟩
def gm{o:PO}(h:A.length=k):(A++[o])[k]?=some o:=by subst h;exact aq
def HU{P R:Prop}(h:c=false)(q:R):(c=true->P)/\(c=false->R):=⟨λz=>(by simp_all),λ_=>q⟩
def HV{P R:Prop}(h:c=true)(q:P):(c=true->P)/\(c=false->R):=by simp_all
def HW(h:Wp (b σ) A QF (λc v a=>c∈d/\Wp (V1 hs c v σ) a QF E)):Wp (kH d b hs σ) A QF E:=by
 unfold Wp at h ⊢;unfold kH;cases e:b σ A with
 | ok f a=>simp_all
 | ex c v a=>
   rw[e]at h;dsimp only at h ⊢;rw[J5 h.1];exact h.2
 | no=>simp_all
def j7(hs:cf c k=true)(h:Wp (b (σ.set i (some (.ref A.length)))) (A++[.exc c v]) (λf a=>QF (jv i f) a) E):Wp (V1 ((k,some i,b)::r) c v σ) A QF E:=by
 unfold V1;rw[if_pos hs];exact B6 (w_eq rfl (B6 h))
def P8(hs:cf c k=false)(h:Wp (V1 r c v σ) A QF E):Wp (V1 ((k,o,b)::r) c v σ) A QF E:=by
 cases o<;>(unfold V1;rw[if_neg (by rw[hs];simp)];exact h)
def HX(h:Wp (e σ) A (λx A1=>∃n fs,x=.ref n/\A1[n]?=some (.ins c fs)/\Wp (es σ) A1 (λd i=>Wp (f (.ref n::d)) i Q E) NoX) NoX):Wp (i5 c f e es σ) A Q E:=
 B6 (mG (af h λx A1 j=>by
  obtain⟨n,fs,l,o,m⟩:=j;subst l;exact B6 (w_eq (a:=(c,fs)) (by simp_all) (C7 rfl (B6 (mG m))))))
def xb(h:A[n]?=some (.exc c v))(f:c∈a)(q:d (c,v) A):Wp (iE n a) A d E:=by
 refine w_eq ?_ q;unfold iE;rw[h];dsimp only;rw[J5 f];rfl
def HY(h:Wp (e σ) A (λx a=>∃n c v,x=.ref n/\a[n]?=some (.exc c v)/\c∈d/\Q v a) E):Wp (iF d e σ) A Q E:=B6 (af h λx a ⟨n,c,v,f,i,j,q⟩=>by subst f;exact B6 (xb i j q))
def HZ(h:Wp (e σ) A (λx a=>∃n c v,x=.ref n/\a[n]?=some (.exc c v)/\c∈d/\Q (.bl (cf c k)) a) E):Wp (eQ d e k σ) A Q E:=B6 (af h λx a ⟨n,c,v,f,i,j,q⟩=>by subst f;exact B6 (xb i j q))
def Ia{A:PHp}{d:List Nat}{R:Nat->PV->Prop}(h:A[n]?=some (.exc c v))(j:c∈d)(q:R c v):∃f a i,PV.ref n=.ref f/\A[f]?=some (.exc a i)/\a∈d/\R a i:=⟨n,c,v,rfl,h,j,q⟩
end Ws
local macro_rules | `(tactic| walk_at "s1")=>`(tactic| first
 | with_reducible first
   | refine Ws.w_makeX ?_
   | refine Ws.w_callX ?_
   | refine Ws.HX ?_
   | refine Ws.HY ?_
   | refine Ws.HZ ?_
   | refine Ws.w_isV ?_)
local macro_rules | `(tactic| walk_at "s3")=>`(tactic| ((with_reducible apply Ws.Ia);(·walk_at "st");(·decide)))
local macro_rules | `(tactic| walk_at "s1")=>`(tactic| first
 | with_reducible first
   | refine Ws.w_isStr ?_
   | refine Ws.HG ?_
   | refine Ws.HH ?_
   | refine Ws.eE ?_
   | refine Ws.HI ?_
   | refine Ws.HF ?_
   | refine Ws.w_lenT ?_
   | refine Ws.HJ ?_
   | refine Ws.w_tclear ?_
   | refine Ws.w_tvals ?_
   | refine Ws.w_tpop2 ?_
   | refine Ws.HM ?_
   | refine Ws.w_revL ?_
   | refine Ws.HN ?_
   | refine Ws.w_max ?_
   | refine Ws.w_maxD ?_
   | refine Ws.oW ?_
   | refine Ws.HR ?_
   | refine Ws.w_iNoX ?_
   | refine Ws.w_gNoX ?_
   | refine Ws.HS ?_)
local macro_rules | `(tactic| walk_at "s2")=>`(tactic| first
 | with_reducible first
   | refine Ws.HD ?_
   | refine Ws.HE ?_
   | refine Ws.HK ?_
   | refine Ws.sf ?_
 | ((with_reducible apply Ws.kA);(·walk_at "st");(·walk_at "st"))
 | ((with_reducible apply Ws.ek);(·walk_at "st");(·walk_at "st"))
 | ((with_reducible apply Ws.w_shr);(·omega))
 | ((with_reducible apply Ws.w_shl);(·omega))
 | ((with_reducible apply Ws.w_isTyT);(·walk_at "st")))
local macro_rules | `(tactic| walk_at "s3")=>`(tactic| first
 | ((with_reducible apply Ws.sg);(·walk_at "st"))
 | ((with_reducible apply Ws.sh);(·rfl);(·walk_at "st"))
 | ((with_reducible apply Ws.si);(·rfl);(·walk_at "st"))
 | ((with_reducible apply Ws.sj);(·rfl);(·walk_at "st");(·first | assumption | rfl)))
local macro_rules | `(tactic| walk_at "pre")=>`(tactic| first
 | assumption
 | exact LO _
 | (refine Ws.D0 ?_;walk_at "pre")
 | ((refine Ws.X5 ?pp ?nn);(case nn=>walk_at "ne");(case pp=>walk_at "pre"))
 | (refine List.IsPrefix.trans (by assumption) ?_;walk_at "pre"))
local macro_rules | `(tactic| walk_at "s3")=>`(tactic| ((with_reducible refine And.intro (a:=List.IsPrefix _ _) ?h1 ?_);(case h1=>walk_at "pre")))
local macro_rules | `(tactic| walk_at "s3")=>`(tactic| ((with_reducible refine And.intro (a:=_<900) ?h1 ?_);(case h1=>((simp only[Me,Nd,Ws.putFld,Nat.reduceEqDiff,if_false]);(try omega)))))
local macro_rules | `(tactic| walk_at "ne")=>`(tactic| first
 | assumption
 | omega
 | ((simp only[Qn,LR,Me,Nd]);omega))
local macro_rules | `(tactic| walk_at "st")=>`(tactic| first
 | ((with_reducible refine Ws.gm ?_);(first | rfl | ((simp only[Qn,LR,Me,Nd]);done) | ((simp only[Qn,LR,Me,Nd]);omega)))
 | ((with_reducible apply Ws.aE);walk_at "st")
 | ((with_reducible apply Ws.ak);walk_at "st")
 | ((refine(Ws.C5 ?ne).trans ?_);(case ne=>walk_at "ne");walk_at "st"))
local macro_rules | `(tactic| walk_at "br")=>`(tactic| first
 | ((with_reducible refine Ws.HU ?_ ?_);(·first | rfl | (simp;done) | decide))
 | ((with_reducible refine Ws.HV ?_ ?_);(·first | rfl | (simp;done) | decide)))
local macro_rules | `(tactic| walk_at "gb")=>`(tactic| repeat (first | walk_at "s" | walk_at "br"))
namespace Ws
def eF(h:Wp (e1 σ) A (λx A1=>∃n f,x=.ref n/\A1[n]?=some (.dT f)/\Wp (e2 σ) A1 (λk g=>Wp (e3 σ) g (λv b=>∃i m,Q1 k=some i/\b[n]?=some (.dT m)/\
 (∀w,aK m i=some w->Q w b)/\(aK m i=none->m.length<LIM/\Q v (b.set n (.dT (V6 m i v))))) E) E) E):Wp (i6 e1 e2 e3 σ) A Q E:=
 B6 (af h λx A1 c=>by
  obtain⟨n,f,l,o,p⟩:=c;subst l;refine B6 (Z7 o (B6 (af p λk g q=>B6 (af q λv b c=>?_))));obtain⟨i,m,r,s,u,j⟩:=c;rw[r];refine B6 (Z7 s ?_);cases d:aK m i with
  | some w=>exact u w d
  | none=>exact C7 (j d).1 (B6 (w_eq (a:=()) rfl (j d).2)))
def fh(h:Wp (e σ) A (λx A1=>∃n l m,x=.ref n/\A1[n]?=some (.lst l)/\gy l=some m/\m.length<LIM/\Q (.ref A1.length) (A1++[.dT (m.foldl (λa p=>V6 a p.1 p.2) [])])) E):Wp (nF e σ) A Q E:=
 B6 (af h λx A1 b=>by
  obtain⟨n,l,m,c,d,f,g,q⟩:=b;subst c;refine B6 (hV d ?_);rw[f];exact C7 g q)
end Ws
local macro_rules | `(tactic| walk_at "s1")=>`(tactic| first
 | with_reducible refine Ws.eF ?_
 | with_reducible refine Ws.fh ?_)
namespace Ws
section
def xc{a d:Type}(f:a->d)(b:List a)(lo c:Option Int):cut (b.map f) lo c=(cut b lo c).map f:=by
 unfold cut;rw[Lo,Ur,Qm]
end
noncomputable def d3:List Int->Bool
 | a::b::r=>decide (a<b)&&d3 (b::r)
 | _=>true
noncomputable def j8(n:Int)(L:List Int):Bool:=!decide (L=[])&&(L.all λh=>decide (0<=h/\h<n))&&d3 L
theorem xf:∀L:List Int,(((d5 (L.map .int) ((L.drop 1).map .int)).map λv=>decide (iW v<hX v)).all id)=d3 L
 | []=>rfl
 | [a]=>rfl
 | a::b::r=>by
   have ih:=xf (b::r);rw[d3,<-ih];rfl
def Ib{L M:List Int}(h:v∈d5 (L.map .int) (M.map .int)):∃a b:Int,v=.tup [.int a,.int b]:=by
 induction L generalizing M with
 | nil=>cases h
 | cons a r ih=>
   cases M with
   | nil=>cases h
   | cons b s=>
     rcases Lu.mp h with z | z
     .exact⟨a,b,z⟩
     .exact ih z
def dA(f:A[l]?=some (.lst (L.map .int)))(j:L.length<=1000):Wp (U9 [.ref l]) A (λv A'=>A<+:A'/\v=.bl (d3 L)) NoX:=by
 walk_at "fn";walk_at "go";refine U1 (l:=d5 (L.map .int) ((L.drop 1).map .int)) (λe=>∃x y,e=[x,y]) (λ_=>true) (λv=>.bl (decide (iW v<hX v))) ?_;walk_at "go";have g:cut (L.map PV.int) (some 1) none=(L.drop 1).map .int:=by rw[xc];exact congrArg _ (wX L 1)
 rw[g];have d:(A++[PO.lst ((L.drop 1).map .int)])[l]?=some _:=ak f;have c:=wQ (L.map .int) ((L.drop 1).map .int);rw[Lo]at c;walk_at "go";refine⟨L.length,?_,c,aH (by symm),⟨_,_,rfl⟩,λi=>GV d aq i,?_,?_⟩
 .simp_all
 .rintro v e h ⟨x,y,rfl⟩;obtain⟨a,b,rfl⟩:=Ib h;walk_at "go";refine⟨rfl,⟨_,_,rfl⟩,?_⟩;walk_at "go";refine⟨rfl,rfl,λ_=>?_⟩;walk_at "go";exact⟨rfl,rfl⟩
 .refine⟨_,(d5 (L.map .int) ((L.drop 1).map .int)).map λv=>decide (iW v<hX v),rfl,?_,?_⟩
  .rw[aq,MQ.mpr (by simp),LM];rfl
  .rw[xf];exact⟨D0 (Lw _ _),rfl⟩
def cY(W:be A w r n ps)(f:A[l]?=some (.lst (L.map .int)))(g:L.length<=1000):Wp (P7 [.ref w,.ref l]) A (λv A'=>A<+:A'/\v=.bl (j8 n L)) NoX:=by
 walk_at "fn";walk_at "gb";refine⟨λc=>?_,λc=>?_⟩
 .walk_at "go";have:=of_decide_eq_true c;simp[j8,this]
 have d:=of_decide_eq_false c;walk_at "go";have j:=W.mono (Lw A [PO.lst []]);have m:=j.ob;have a:(A++[PO.lst []])[l]?=some _:=ak f;refine U1 (l:=L.map .int) (λe=>∃x,e=[x,some (.ref w)]) (λ_=>true) (λv=>match v with | .int h=>.bl (decide (0<=h/\h<n)) | _=>.non) ?_;walk_at "go";refine⟨L.length,by rw[aY a];simp,by simp,by simp;exact aH (by symm),⟨_,rfl⟩,λi=>R9 a i,?_,?_⟩
 .rintro v e o ⟨x,rfl⟩;obtain⟨h,s,rfl⟩:=Lv.mp o;walk_at "go";refine⟨rfl,⟨_,rfl⟩,?_⟩;walk_at "go";refine⟨rfl,rfl,λ_=>?_⟩;walk_at "go";exact w_eq (bY _ _ _) ⟨rfl,rfl⟩
 .refine⟨_,L.map λh=>decide (0<=h/\h<n),rfl,?_,?_⟩
  .rw[aq,MQ.mpr (by simp),LM,LM];rfl
  .refine⟨_,rfl,λb=>?_,λb=>?_⟩
   .walk_at "go";refine af (dA (ak a) g) λv u ⟨p,q⟩=>⟨(D0 (Lw _ _)).trans p,?_⟩;rw[q];have:(L.all λh=>decide (0<=h/\h<n))=true:=by rw[List.all_map]at b;exact b
    simp only[j8,this,d];simp
   .refine⟨D0 (Lw _ _),?_⟩;have:(L.all λh=>decide (0<=h/\h<n))=false:=by rw[List.all_map]at b;exact b
    simp only[j8,this];simp
theorem xi:∀{L:List Int},d3 L=true->L.Pairwise (·< ·)
 | [],_=>.nil
 | [a],_=>by simp
 | a::b::r,h=>by
   rw[d3,LH]at h;have ih:=xi h.2;have c:=of_decide_eq_true h.1;refine MJ.mpr ⟨λx d=>?_,ih⟩;rcases Lu.mp d with z | z
   .simp_all
   .have:=(MJ.mp ih).1 x z;symm
theorem xj:∀{L:List Int},L.Pairwise (·< ·)->d3 L=true
 | [],_=>rfl
 | [a],_=>rfl
 | a::b::r,h=>by
   rw[d3,LH];have c:=MJ.mp h;exact⟨decide_eq_true (c.1 b Lz),xj c.2⟩
theorem sm:∀{L M:List Int},L.Pairwise (·< ·)->M.Pairwise (·< ·)->(∀x,x∈L↔x∈M)->L=M
 | [],[],_,_,_=>rfl
 | [],b::s,_,_,h=>by have:=(h b).mpr Lz;cases this
 | a::r,[],_,_,h=>by have:=(h a).mp Lz;cases this
 | a::r,b::s,g,i,h=>by
   have d:=MJ.mp g;have f:=MJ.mp i;have e:a=b:=by
    have j:=(h a).mp Lz;have l:=(h b).mpr Lz;rcases Lu.mp j with z | z
    .symm
    .rcases Lu.mp l with y | y
     .exact y.symm
     .have:=f.1 a z;have:=d.1 b y;symm
   subst e;rw[sm d.2 f.2 λx=>⟨λc=>?_,λc=>?_⟩]
   .rcases Lu.mp ((h x).mp (LC _ c))with z | z
    .have:=d.1 x c;symm
    .symm
   .rcases Lu.mp ((h x).mpr (LC _ c))with z | z
    .have:=f.1 x c;symm
    .symm
def lead_iff{N:Nat}:j8 N L=true↔L=(S4 N).filter (λh=>decide (h∈L))/\L≠[]:=by
 unfold j8;constructor
 .intro h;rw[LH,LH]at h;refine⟨sm (xi h.2) ((j6 N).filter _) λx=>?_,by simpa using h.1.1⟩;have c:=LV.mp h.1.2;rw[Mg,mem_hands];exact⟨λa=>⟨of_decide_eq_true (c x a),decide_eq_true a⟩,λa=>of_decide_eq_true a.2⟩
 .rintro⟨h,b⟩;have d:L.Pairwise (·< ·):=by rw[h];exact(j6 N).filter _
  rw[LH,LH];refine⟨⟨by simpa using b,LV.mpr λx a=>?_⟩,xj d⟩;rw[h,Mg]at a;exact decide_eq_true (mem_hands.mp a.1)
def Ic(c:0<=a/\a<10)(d:0<=b/\b<10):[a,b]∈small:=by
 unfold small;rw[List.mem_flatten];refine⟨_,Lv.mpr ⟨a.toNat,Nn.mpr (by symm),rfl⟩,Lv.mpr ⟨b.toNat,Nn.mpr (by symm),?_⟩⟩;rw[Rw c.1,Rw d.1]
def t9(h:l2 p=l2 q):p=q:=by
 obtain⟨a,b⟩:=p;simp[l2]at h;simp[h]
noncomputable def cz(m:DT)(p:Int×Int):Int:=match aK m (l2 p)with
 | some (.int z)=>z
 | _=>0
noncomputable def limD(a:List (Int×Int))(f:Int×Int->Int):DT:=a.map λp=>(l2 p,PV.int (f p))
def xl(a:List (Int×Int))(f:Int×Int->Int):(limD a f).map (·.1)=a.map l2:=by unfold limD;rw[LM];rfl
def xm(h:d.Nodup):((limD d f).map (·.1)).Nodup:=by
 rw[xl];exact Sn.map _ (λa b c z=>c (t9 z)) h
def xn(h:a.Nodup)(b:p∈a):aK (limD a f) (l2 p)=some (.int (f p)):=HQ (xm h) (Lv.mpr ⟨p,b,rfl⟩)
def Ie(e:n<=6)(b:∀p∈a,good n p):∀p∈limD a f,p.1∈small:=λp c=>by
 obtain⟨q,d,rfl⟩:=Lv.mp c;have:=b q d;exact Ic ⟨this.1.1,by have:=this.1.2;symm⟩ ⟨this.2.1.1,by have:=this.2.1.2;symm⟩
def Ig(b:p∉a):V6 (limD a f) (l2 p) (.int (f p))=limD (a++[p]) f:=by
 rw[m5]
 .simp[limD]
 .rw[xl];intro z;obtain⟨q,c,e⟩:=Lv.mp z;rw[<-t9 e]at b;exact b c
structure cM(A:PHp)(P w r:Nat)(n:Int)(ps:List (Int×Int))(L:List Int)(f:Int×Int->Int)(ll dl dk:Nat):Prop where
 web:be A w r n ps
 ob:A[P]?=some (.ins 1 [(3,.ref w),(4,.ref ll),(5,.ref dl),(9,.tup (L.map .int)),(10,.ref dk)])
 ls:A[ll]?=some (.lst (L.map .int))
 ld:A[dl]?=some (.dT (limD (srt ps) f))
 lk:A[dk]?=some (.dT (limD (srt ps) f))
def cM.mono{a dl b:Nat}(h:cM A P w r n ps L f a dl b)(e:A<+:B):cM B P w r n ps L f a dl b:=
 ⟨h.web.mono e,ai e h.ob,ai e h.ls,ai e h.ld,ai e h.lk⟩
def Ii(h:0<=z)(A:PHp):T2 [.int z] A=.ok (.bl true) A:=by simp[T2,h]
def en(h:ps.Nodup):(srt ps).Nodup:=(H9 ps).nodup_iff.mpr h
def ia(W:be A w r n ps)(hd:A[d]?=some (.dT m))(D:ps.Nodup)(N:ps.length<64)(U:∀p∈ps,∃z,0<=z/\aK m (l2 p)=some (.int z))
 (O:A<+:B) (Y:A.length<=k) (hB:B[k]?=some (.dT [])) (E:P≠k)  (hP:B[P]?=some G) :
 Wp (W8 [some (.ref P),some (.ref w),some (.ref l),some (.ref d),some (.ref k),none]) B (λo a=>(∃x,o=.nx [some (.ref P),some (.ref w),some (.ref l),some (.ref d),some (.ref k),x])/\A<+:a/\a[P]?=some G/\a.length=B.length/\a[k]?=some (.dT (limD (srt ps) (cz m)))) NoX:=by
 have hs:∀p∈srt ps,p∈ps:=λp c=>(H9 ps).mem_iff.mp c;refine oO (λi C a=>(∃x,C=[some (.ref P),some (.ref w),some (.ref l),some (.ref d),some (.ref k),x])/\A<+:a/\a[P]?=some G/\a.length=B.length/\a[k]?=some (.dT (limD ((srt ps).take i) (cz m)))) ?_;have Q:=W.mono O;have a3:=Q.ob;have a4:=Q.ls;walk_at "go";refine⟨r,aG _,rfl,⟨⟨_,rfl⟩,O,hP,rfl,hB⟩,λi C a ⟨_,h,_⟩=>G8 (W.mono h).ls,?_,?_⟩
 .rintro i v C B1 q ⟨⟨x,rfl⟩,p1,f,g,b⟩;simp only[aG,LL]at q;cases c:(srt ps)[i]? with
  | none=>rw[c]at q;cases q
  | some p=>
    rw[c]at q;cases q;have s:=Mm c;have tk:(srt ps).take (i+1)=(srt ps).take i++[p]:=by rw[NA,c];rfl
    unfold W6;walk_at "go";obtain⟨z,hz,T⟩:=U p (hs p s);have H:aK m [p.1,p.2]=some _:=T;rw[H];refine w_eq (Ii hz _) ?_;walk_at "gb";have u:p∉(srt ps).take i:=by
     intro I;have J:=(LA.mp c).1;obtain⟨j,hj,e⟩:=MX.mp I;rw[MS]at hj;rw[Se]at e;have e2:=(LA.mp c).2;exact Nr.mp (en D) j i _ J (by symm) (e.trans e2.symm)
    have y:cz m p=z:=by unfold cz;rw[T]
    refine⟨?_,?_⟩
    .refine bg ?_;rw[limD,Lo,MS];have:=(H9 ps).length_eq;symm
    .refine⟨⟨_,rfl⟩,X5 p1 Y,by rw[C5 E];exact f,by simpa using g,?_⟩;rw[aE b,tk,<-Ig u,y];rfl
 .rintro C B1 ⟨⟨x,rfl⟩,p1,f,g,b⟩;rw[aG,Lo,MT]at b;exact⟨⟨x,rfl⟩,p1,f,g,b⟩
def fi(W:be A w r n ps)(f:A[l]?=some (.lst (L.map .int)))(D:L.length<=1000)(E:A[d]?=some (.dT m))(a:G3 n ps)(g:j8 n L=true)(G:∀p∈ps,∃z,0<=z/\aK m (l2 p)=some (.int z)) :
 Wp (P1 [.ref A.length,.ref w,.ref l,.ref d]) (A++[.ins 1 []]) (λv A'=>v=.non/\A<+:A'/\∃q dl s,cM A' A.length w r n ps L (cz m) q dl s/\A.length<q/\A.length<dl/\A.length<s) NoX:=by
 unfold P1;walk_at "fn";have h:A<+:A++[PO.ins 1 []]:=Lw _ _;walk_at "go";refine af (cY (W.mono h) (ai h f) D) λv b H=>?_;obtain⟨p1,I⟩:=H;subst I;have c:b[A.length]?=some (.ins 1 []):=ai p1 aq;have i:A<+:b:=h.trans p1;have e:=C6 c;rw[g];walk_at "gb";refine af (ia (l:=l) (P:=A.length) (k:=b.length) W E a.nd a.len G (D0 i) (by symm) aq (by symm) (ak c)) λo B ⟨⟨x,J⟩,u,N,j,O⟩=>?_;subst J;have y:B.length=b.length+1:=by rw[j];simp
 have Y:=W.mono u;have C:=ai u f;have Q:=C6 f;have T:((limD (srt ps) (cz m)).map (·.1)).Nodup/\∀p∈limD (srt ps) (cz m),p.1∈small:=⟨xm (en a.nd),Ie a.hi λp U=>a.good p ((H9 ps).mem_iff.mp U)⟩;walk_at "go";simp only[putFld,Nat.reduceEqDiff,if_false,Qn,LR,Me,Nd,Uz];refine⟨trivial,?pre,B.length,B.length+1,b.length,⟨W.mono ?pre,?ob,?ls,?ld,?lk⟩,?_,?_,e⟩
 case pre=>walk_at "pre"
 case ob=>walk_at "st"
 case ls=>walk_at "st"
 case ld=>walk_at "st"
 case lk=>walk_at "st"
 .symm
 .symm
def so(o:PO):A<+:A++[o]:=Lw _ _
def xo(h:c≠[]):atI (c.map PV.int) (-1)=some (.int (c.getLast h)):=by
 have a:0<c.length:=NN.mpr h;unfold atI ixN;rw[if_neg (by symm),Lo,if_pos (by symm)];show(c.map PV.int)[((-1:Int)+c.length).toNat]?=_;rw[show((-1:Int)+c.length).toNat=c.length - 1 by symm,LL,<-Ou,OB h];rfl
section
variable{A:PHp}{N:Nat}{ps:List (Int×Int)}
def iY(N:Nat)(ps:List (Int×Int))(ld c:List Int):Prop:=(∃h:c≠[],c.getLast h∈ld)/\c.Nodup/\(∀x∈c,0<=x/\x<N)/\∀(i:Nat) a b,c[i]?=some a->c[i+1]?=some b->(a,b)∈ps
def dB(h:c≠[]):¬(V4 (c.map PV.int).length 0 (some 1)=0/\V4 (c.map PV.int).length (c.map PV.int).length none=(c.map PV.int).length):=by
 have:0<c.length:=NN.mpr h;unfold V4;rw[Lo];intro z;have:=z.1;simp at this;symm
def eG(c:List PV):cut c (some 1) none=c.drop 1:=by
 have:=wX c 1;exact this
def all_map{a:Type}(f:a->Bool)(l:List a):((l.map f).all id=true)↔∀x∈l,f x=true:=by simp
theorem xp:∀(c:List Int),d5 (c.map PV.int) ((c.map PV.int).drop 1)=(c.zip (c.drop 1)).map pv
 | []=>rfl
 | [a]=>rfl
 | a::b::r=>by
   have ih:=xp (b::r);simp only[LX,List.drop_succ_cons,List.drop_zero,d5,List.zip_cons_cons,LX]at ih ⊢;exact congrArg _ ih
def mem_steps{c:List Int}:(a,b)∈c.zip (c.drop 1)↔∃i:Nat,c[i]?=some a/\c[i+1]?=some b:=by
 rw[List.mem_iff_getElem?];constructor
 .rintro⟨i,h⟩;rw[RQ]at h;exact⟨i,h.1,by rw[<-h.2,List.getElem?_drop,Nat.add_comm]⟩
 .rintro⟨i,d,e⟩;refine⟨i,?_⟩;rw[RQ];exact⟨d,by rw[List.getElem?_drop,Nat.add_comm];exact e⟩
def fj{ld c:List Int}(W:be A w r N ps)(hc:c.length<100) :
 Wp (T3 [.ref w,.tup (ld.map .int),.tup (c.map .int)]) A (λv A'=>A<+:A'/\∃b,v=.bl b/\(b=true↔iY N ps ld c)) NoX:=by
 unfold T3;have H:=W.ob;have I:=W.ls;walk_at "fn";walk_at "go";refine⟨λj=>?_,λj=>?_⟩
 .walk_at "go";refine⟨λz=>(nomatch z),λz=>?_⟩;obtain⟨⟨h,_⟩,_⟩:=z;exact absurd (of_decide_eq_true j) h
 have e:c≠[]:=of_decide_eq_false j;have n:=xo e;walk_at "go";refine⟨λf=>?_,λf=>?_⟩
 .walk_at "go";refine⟨λz=>(nomatch z),λz=>?_⟩;obtain⟨⟨h,o⟩,_⟩:=z;simp[o]at f
 have q:c.getLast e∈ld:=by simpa using f
 walk_at "go";refine⟨λg=>?_,λg=>?_⟩
 .walk_at "go";refine⟨λz=>(nomatch z),λz=>?_⟩;have:=(ux c).mp (by have:=of_decide_eq_true g;symm);exact absurd z.2.1 this
 have s:c.Nodup:=by
  by_cases z:c.Nodup
  .exact z
  .have:=(ux c).mpr z;have:=of_decide_eq_false g;symm
 walk_at "go";unfold bN;refine U1 (l:=c.map .int) (λm=>∃x,m=[x,some (.ref w)]) (λ_=>true) (λv=>.bl (match v with | .int x=>decide (0<=x/\x<N) | _=>false)) ?_;walk_at "go";refine⟨⟨_,rfl⟩,λi=>rfl,?_,?_⟩
 .rintro v m u ⟨x,rfl⟩;obtain⟨y,J,rfl⟩:=Lv.mp u;walk_at "go";refine⟨rfl,⟨_,rfl⟩,?_⟩;walk_at "go";refine⟨rfl,rfl,λ_=>?_⟩;walk_at "go";exact w_eq (bY N y A) ⟨rfl,rfl⟩
 have G:((c.map PV.int).filter λ_=>true).map (λv=>PV.bl (match v with | .int x=>decide (0<=x/\x<N) | _=>false))=(c.map λx=>decide (0<=x/\x<(N:Int))).map PV.bl:=by
  rw[MQ.mpr (by simp),LM,LM];rfl
 refine⟨_,_,rfl,by rw[aq,G],?_⟩;walk_at "go";refine⟨λd=>?_,λd=>?_⟩
 .walk_at "go";refine⟨λz=>(nomatch z),λz=>?_⟩;have:((c.map λx=>decide (0<=x/\x<(N:Int))).all id)=true:=(all_map _ _).mpr λx B=>decide_eq_true (z.2.2.1 x B);rw[this]at d;cases d
 have C:∀x∈c,0<=x/\x<(N:Int):=by
  have:((c.map λx=>decide (0<=x/\x<(N:Int))).all id)=true:=by
   cases z:((c.map λx=>decide (0<=x/\x<(N:Int))).all id)with
   | true=>rfl
   | false=>rw[z]at d;cases d
  exact λx B=>of_decide_eq_true ((all_map _ _).mp this x B)
 rw[G];generalize D:A++[PO.lst ((c.map λx=>decide (0<=x/\x<(N:Int))).map PV.bl)]=L;have p1:A<+:L:=by rw[<-D];exact so _
 have O:=ai p1 H;have Q:=ai p1 I;walk_at "go";unfold bO;refine U1 (l:=(c.zip (c.drop 1)).map pv) (λm=>∃x,m=[x,some (.ref w)]) (λ_=>true) (λv=>.bl (decide ((iW v,hX v)∈srt ps))) ?_;walk_at "go";refine⟨dB e,?_⟩;walk_at "go";refine⟨by simp,aH (by simp;symm),⟨_,rfl⟩,λi=>by rw[GU,eG,xp],?_,?_⟩
 .rintro v m u ⟨x,rfl⟩;obtain⟨y,J,rfl⟩:=Lv.mp u;walk_at "go";refine⟨rfl,⟨_,rfl⟩,?_⟩;walk_at "go";refine⟨rfl,rfl,λ_=>?_⟩;unfold pv;walk_at "go";exact⟨rfl,rfl⟩
 have T:(((c.zip (c.drop 1)).map pv).filter λ_=>true).map (λv=>PV.bl (decide ((iW v,hX v)∈srt ps)))=((c.zip (c.drop 1)).map λp=>decide (p∈srt ps)).map PV.bl:=by
  rw[MQ.mpr (by simp),LM,LM];rfl
 refine⟨_,_,rfl,by rw[aq,T],?_⟩;refine⟨p1.trans (so _),_,rfl,?_⟩;rw[all_map];constructor
 .intro h;refine⟨⟨e,q⟩,s,C,λi a b U j=>?_⟩;exact(H9 ps).mem_iff.mp (of_decide_eq_true (h (a,b) (mem_steps.mpr ⟨i,U,j⟩)))
 .rintro⟨_,_,_,h⟩ ⟨a,b⟩ E;obtain⟨i,o,Y⟩:=mem_steps.mp E;exact decide_eq_true ((H9 ps).mem_iff.mpr (h i a b o Y))
end
structure LS where
 now:Int
 lays:List ((Int×Int)×Int)
 says:List ((Int×Int)×Nat×List (Int×List Int))
 first:List (List Int×Int)
 m:Nat
structure bE where
 N:Nat
 ps:List (Int×Int)
 L:List Int
 f:Int×Int->Int
 fr:List Int
 P:Nat
 w:Nat
 r:Nat
 ll:Nat
 dl:Nat
 dk:Nat
 G:Nat
noncomputable def rowS(q:Int×List Int):PV:=.tup [.int q.1,.tup (q.2.map .int)]
noncomputable def aW(S:LS):DT:=S.lays.map λp=>(l2 p.1,PV.int p.2)
noncomputable def Y3(S:LS):DT:=S.says.map λp=>(l2 p.1,PV.ref p.2.1)
noncomputable def Z8(S:LS):DT:=S.first.map λp=>(p.1,PV.int p.2)
noncomputable def sadr(S:LS):List Nat:=S.says.map λe=>e.2.1
noncomputable def own(c:bE)(S:LS):List Nat:=c.G::(c.G+2)::(c.G+3)::(c.G+4)::sadr S
noncomputable def dom(c:bE)(S:LS):List Nat:=c.P::c.w::c.r::c.ll::c.dl::c.dk::(c.G+1)::own c S
structure bz(A:PHp)(c:bE)(S:LS):Prop where
 plan:cM A c.P c.w c.r c.N c.ps c.L c.f c.ll c.dl c.dk
 ob:A[c.G]?=some (.ins 2 [(6,.ref c.P),(7,.ref (c.G+1)),(11,.tup (c.fr.map .int)),(12,.int S.now),(13,.ref (c.G+2)),(14,.ref (c.G+3)),(15,.ref (c.G+4))])
 fl:A[c.G+1]?=some (.lst (c.fr.map .int))
 tl:A[c.G+2]?=some (.dT (aW S))
 sl:A[c.G+3]?=some (.dT (Y3 S))
 ul:A[c.G+4]?=some (.dT (Z8 S))
 rows:∀e∈S.says,A[e.2.1]?=some (.lst (e.2.2.map rowS))
 lt:c.P<c.G/\c.w<c.G/\c.r<c.G/\c.ll<c.G/\c.dl<c.G/\c.dk<c.G
 hi:∀a∈sadr S,c.G+4<a
 an:(sadr S).Nodup
 kn:(S.says.map (·.1)).Nodup
 ln:(S.lays.map (·.1)).Nodup
 lp:∀p∈S.lays.map (·.1),p∈c.ps
 pg:G3 c.N c.ps
 sz:S.m<=2000/\S.says.length<=S.m/\S.first.length<=S.m/\∀e∈S.says,e.2.2.length<=S.m
def bz.keep(h:bz A c S)(k:∀a∈dom c S,∀o,A[a]?=some o->B[a]?=some o):bz B c S:=by
 have b:∀a,a∈[c.P,c.w,c.r,c.ll,c.dl,c.dk,c.G+1,c.G,c.G+2,c.G+3,c.G+4]->a∈dom c S:=λa d=>by
  simp only[Lu,Mz,or_false]at d;simp only[dom,own,Lu];rcases d with z | z | z | z | z | z | z | z | z | z | z<;>simp[z]
 refine⟨⟨⟨k _ (b _ (by simp)) _ h.plan.web.ob,k _ (b _ (by simp)) _ h.plan.web.ls⟩,k _ (b _ (by simp)) _ h.plan.ob,k _ (b _ (by simp)) _ h.plan.ls,k _ (b _ (by simp)) _ h.plan.ld,k _ (b _ (by simp)) _ h.plan.lk⟩,k _ (b _ (by simp)) _ h.ob,k _ (b _ (by simp)) _ h.fl,k _ (b _ (by simp)) _ h.tl,k _ (b _ (by simp)) _ h.sl,k _ (b _ (by simp)) _ h.ul,λe f=>?_,h.lt,h.hi,h.an,h.kn,h.ln,h.lp,h.pg,h.sz⟩;refine k _ ?_ _ (h.rows e f);simp only[dom,own];have:_∈sadr S:=Lv.mpr ⟨e,f,rfl⟩;simp[this]
def bz.mono(h:bz A c S)(e:A<+:B):bz B c S:=h.keep λa _ o q=>ai e q
def bz.dlt(h:bz A c S):∀a∈dom c S,a<A.length:=λa b=>by
 simp only[dom,own,Lu]at b;have f:=C6 h.ul;have g:=h.lt;rcases b with z | z | z | z | z | z | z | z | z | z | z | z
 .symm
 .symm
 .symm
 .symm
 .symm
 .symm
 .symm
 .symm
 .symm
 .symm
 .symm
 .obtain⟨e,d,rfl⟩:=Lv.mp z;exact C6 (h.rows e d)
structure cK(c:bE)(S S':LS)(A A':PHp):Prop where
 len:A.length<=A'.length
 keep:∀a o,A[a]?=some o->a∉own c S->A'[a]?=some o
 new:∀a∈sadr S',a∈sadr S\/A.length<=a
def cK.pre(h:A<+:A'):cK c S S A A':=⟨h.length_le,λa o q _=>ai h q,λa h=>.inl h⟩
def cK.refl:cK c S S A A:=.pre (LO _)
def oX(h:cK c S b A A')(e:a<A.length)(d:a∉own c S):a∉own c b:=λz=>d (by
 simp only[own,Lu]at z ⊢;rcases z with z | z | z | z | z
 .simp[z]
 .simp[z]
 .simp[z]
 .simp[z]
 .rcases h.new a z with z | z
  .simp[z]
  .omega)
def cK.trans(h:cK c S e A A')(h':cK c e b A' d):cK c S b A d:=
 ⟨LW h.len h'.len,λa o q n=>h'.keep a o (h.keep a o q n) (oX h (C6 q) n),λa f=>by
  rcases h'.new a f with z | z
  .exact h.new a z
  .exact .inr (LW h.len z)⟩
section
variable{A:PHp}{c:bE}{S:LS}
def ib(H:bz A c S):Wp (N5 [.ref c.G]) A (λv d=>v=.non/\bz d c { S with now:=S.now+1 }/\cK c S { S with now:=S.now+1 } A d) NoX:=by
 have g:=H.ob;walk_at "fn";walk_at "gb";have i:=H.lt;have k:∀a o,A[a]?=some o->a≠c.G->(A.set c.G (PO.ins 2 (putFld 12 (PV.int (S.now+1)) [(6,.ref c.P),(7,.ref (c.G+1)),(11,.tup (c.fr.map .int)),(12,.int S.now),(13,.ref (c.G+2)),(14,.ref (c.G+3)),(15,.ref (c.G+4))])))[a]?=some o:=λa o q n=>(C5 n).trans q;refine⟨trivial,⟨⟨⟨k _ _ H.plan.web.ob (by symm),k _ _ H.plan.web.ls (by symm)⟩,k _ _ H.plan.ob (by symm),k _ _ H.plan.ls (by symm),k _ _ H.plan.ld (by symm),k _ _ H.plan.lk (by symm)⟩,aE g,k _ _ H.fl (by simp),k _ _ H.tl (by simp),k _ _ H.sl (by simp),k _ _ H.ul (by simp),λe f=>k _ _ (H.rows e f) ?_,H.lt,H.hi,H.an,H.kn,H.ln,H.lp,H.pg,H.sz⟩,⟨by simp,λa o q n=>k a o q (λz=>n (by rw[z];exact Lz)),λa h=>.inl h⟩⟩;have:=H.hi _ (Lv.mpr ⟨e,f,rfl⟩);symm
def xq{N:Nat}(W:be A w r N ps)(b:G3 N ps)(p:Int×Int):Wp (j4 [.ref w,pv p]) A (λv d=>v=.bl (decide (p∈ps))/\d=A) NoX:=by
 have f:=W.ob;have e:=W.ls;walk_at "fn";walk_at "gb";refine w_eq (o8 _ _ _) ⟨_,rfl,λa=>?_,λa=>?_⟩
 .walk_at "gb";refine iX e ?_;exact⟨by simp[(H9 ps).mem_iff],rfl⟩
 .refine⟨?_,rfl⟩;have:p∉ps:=λz=>by have:=b.good p z;simp[this]at a
  simp[this]
noncomputable def u5(p:Int×Int):PV:=.tup [.str "lay",pv p]
noncomputable def u6(p:Int×Int)(ch:List Int):PV:=.tup [.str "say",pv p,.tup (ch.map .int)]
def Ij(H:bz A c S)(p:Int×Int):Wp (R4 [.ref c.P,u5 p]) A (λv b=>v=.bl (decide (p∈c.ps))/\b=A) NoX:=by
 unfold R4 u5;have e:=H.plan.ob;walk_at "fn";walk_at "gb";refine af (xq H.plan.web H.pg p) λv f d=>?_;obtain⟨rfl,rfl⟩:=d;walk_at "gb";refine⟨λa=>?_,λa=>?_⟩
 .walk_at "gb";have:p∉c.ps:=by simpa using a
  simp[this]
 .walk_at "gb";have:p∈c.ps:=by simpa using a
  simp[this]
def gn(H:bz A c S)(h:ch.length<100):Wp (N4 [.ref c.P,.tup (ch.map .int)]) A (λv A'=>A<+:A'/\∃b,v=.bl b/\(b=true↔iY c.N c.ps c.L ch)) NoX:=by
 unfold N4;have e:=H.plan.ob;have q:=H.plan.web.ob;walk_at "fn";walk_at "gb";unfold T5;refine U1 (l:=ch.map .int) (λf=>∃x,f=[x,some (.ref c.P)]) (λ_=>true) (λv=>.bl (match v with | .int x=>decide (0<=x/\x<(c.N:Int)) | _=>false)) ?_;walk_at "go";refine⟨⟨_,rfl⟩,λi=>rfl,?_,?_⟩
 .rintro v f j ⟨x,rfl⟩;obtain⟨y,r,rfl⟩:=Lv.mp j;walk_at "go";refine⟨rfl,⟨_,rfl⟩,?_⟩;walk_at "go";refine⟨rfl,rfl,λ_=>?_⟩;walk_at "go";exact w_eq (bY c.N y A) ⟨rfl,rfl⟩
 have g:((ch.map PV.int).filter λ_=>true).map (λv=>PV.bl (match v with | .int x=>decide (0<=x/\x<(c.N:Int)) | _=>false))=(ch.map λx=>decide (0<=x/\x<(c.N:Int))).map PV.bl:=by
  rw[MQ.mpr (by simp),LM,LM];rfl
 refine⟨_,_,rfl,by rw[aq,g],?_⟩;walk_at "go";refine⟨λa=>?_,λa=>?_⟩
 .walk_at "gb";refine⟨λz=>(nomatch z),λz=>?_⟩;have:((ch.map λx=>decide (0<=x/\x<(c.N:Int))).all id)=true:=(all_map _ _).mpr λx m=>decide_eq_true (z.2.2.1 x m);rw[this]at a;cases a
 .rw[g];generalize d:A++[PO.lst ((ch.map λx=>decide (0<=x/\x<(c.N:Int))).map PV.bl)]=n;have p1:A<+:n:=by rw[<-d];exact so _
  have e:=ai p1 e;walk_at "gb";refine af (fj (H.plan.web.mono p1) h) λv s o=>?_;obtain⟨p,b,rfl,a⟩:=o;exact⟨p1.trans p,b,rfl,a⟩
def sr{ch:List Int}(h:ch.head?=some x):atI (ch.map PV.int) 0=some (.int x):=by
 cases ch with
 | nil=>cases h
 | cons a r=>cases h;unfold atI ixN;simp
def Il(H:bz A c S)(p:Int×Int)(l:ch.length<100):Wp (R4 [.ref c.P,u6 p ch]) A (λv A'=>A<+:A'/\∃b,v=.bl b/\(b=true↔p∈c.ps/\iY c.N c.ps c.L ch/\ch.head?=some p.2)) NoX:=by
 unfold R4 u6;have o:=H.plan.ob;walk_at "fn";walk_at "gb";refine af (xq H.plan.web H.pg p) λv q g=>?_;obtain⟨rfl,rfl⟩:=g;walk_at "gb";refine⟨λd=>?_,λd=>?_⟩
 .walk_at "gb";have:p∉c.ps:=by simpa using d
  simp[this]
 .have m:p∈c.ps:=by simpa using d
  walk_at "gb";refine af (gn H l) λv s g=>?_;obtain⟨n,b,rfl,d⟩:=g;refine⟨b,rfl,λh=>?_,λe=>?_⟩
  .have f:=d.mp h;obtain⟨x,j⟩:∃x,ch.head?=some x:=by
    obtain⟨⟨i,_⟩,_⟩:=f;cases ch with
    | nil=>exact absurd rfl i
    | cons a r=>exact⟨a,rfl⟩
   have u:=sr j;unfold pv;walk_at "gb";rw[j];simp[m,f]
  .refine⟨n,false,rfl,λz=>(nomatch z),λz=>?_⟩;rw[d.mpr z.2.1]at e;cases e
end
noncomputable def look{a b:Type}[DecidableEq a]:List (a×b)->a->Option b
 | [],_=>none
 | e::r,k=>if e.1=k then some e.2 else look r k
noncomputable def M0(S:LS)(p:Int×Int):Option Int:=look S.lays p
noncomputable def Z9(S:LS)(ch:List Int):Option Int:=look S.first ch
noncomputable def S5(S:LS)(p:Int×Int):Option (Nat×List (Int×List Int)):=look S.says p
noncomputable def rowsAt(S:LS)(p:Int×Int):List (Int×List Int):=((S5 S p).map (·.2)).getD []
theorem oY{a:Type}(f:a->PV):∀(l:List ((Int×Int)×a))(p:Int×Int),aK (l.map λe=>(l2 e.1,f e.2)) (l2 p)=(look l p).map f
 | [],_=>rfl
 | e::r,p=>by
   show(if l2 e.1=l2 p then some (f e.2) else aK (r.map _) (l2 p))=(if e.1=p then some e.2 else look r p).map f;by_cases h:e.1=p
   .rw[if_pos (by rw[h]),if_pos h];rfl
   .rw[if_neg (λz=>h (t9 z)),if_neg h];exact oY f r p
theorem xu{a:Type}(f:a->PV):∀(l:List (List Int×a))(p:List Int),aK (l.map λe=>(e.1,f e.2)) p=(look l p).map f
 | [],_=>rfl
 | e::r,p=>by
   show(if e.1=p then some (f e.2) else aK (r.map _) p)=(if e.1=p then some e.2 else look r p).map f;by_cases h:e.1=p
   .rw[if_pos h,if_pos h];rfl
   .rw[if_neg h,if_neg h];exact xu f r p
def oZ(S:LS)(p:Int×Int):aK (aW S) (l2 p)=(M0 S p).map .int:=oY _ _ _
def mH(S:LS)(ch:List Int):aK (Z8 S) ch=(Z9 S ch).map .int:=xu _ _ _
def xw(S:LS)(p:Int×Int):aK (Y3 S) (l2 p)=(S5 S p).map λe=>.ref e.1:=oY (λe:Nat×List _=>PV.ref e.1) _ _
section
variable{α β:Type}[DecidableEq α]
theorem b4:∀{l:List (α×β)}{k:α}{v:β},look l k=some v->(k,v)∈l
 | e::r,k,v,h=>by
   unfold look at h;by_cases c:e.1=k
   .rw[if_pos c]at h;cases h;rw[<-c];exact Lz
   .rw[if_neg c]at h;exact LC _ (b4 h)
theorem su:∀{l:List (α×β)}{k:α}{v:β},(l.map (·.1)).Nodup->(k,v)∈l->look l k=some v
 | e::r,k,v,b,h=>by
   have a:=Nq.mp b;unfold look;rcases Lu.mp h with z | z
   .rw[<-z,if_pos rfl]
   .rw[if_neg (λq=>a.1 (by show e.1∈_;rw[q];exact Lv.mpr ⟨_,z,rfl⟩)),su a.2 z]
theorem look_none:∀{l:List (α×β)}{k:α},look l k=none↔k∉l.map (·.1)
 | [],k=>by simp[look]
 | e::r,k=>by
   unfold look;by_cases c:e.1=k
   .rw[if_pos c];simp[c]
   .rw[if_neg c,look_none];have:k≠e.1:=λz=>c z.symm;simp[this]
def xx{l m:List (α×β)}{k:α}:look (l++m) k=(look l k).or (look m k):=by
 induction l with
 | nil=>rfl
 | cons e r ih=>
   show(if e.1=k then some e.2 else look (r++m) k)=(if e.1=k then some e.2 else look r k).or _;by_cases c:e.1=k
   .rw[if_pos c,if_pos c];rfl
   .rw[if_neg c,if_neg c,ih]
def xy{k j:α}{v:β}:look [(k,v)] j=if k=j then some v else none:=rfl
end
noncomputable def bu(S:LS)(p:Int×Int):Bool:=match M0 S p with
 | some t=>decide (t<S.now)
 | none=>false
noncomputable def mI(c:bE)(S:LS)(p:Int×Int)(ch:List Int):Bool:=decide (c.f p+ch.length<S.now)
noncomputable def u7(a ch:List Int):List Int:=(ch.drop 1).dropWhile λh=>decide (h∈a)
noncomputable def dO(S:LS)(ch:List Int):Bool:=match Z9 S ch with
 | some t=>decide (t<S.now)
 | none=>false
noncomputable def canB(c:bE)(S:LS)(ch:List Int):Bool:=decide (u7 c.fr ch=[])||dO S (u7 c.fr ch)
open Classical in
noncomputable def d6(c:bE)(S:LS)(p:Int×Int):Nat:=if p∈c.ps then(if(M0 S p).isSome=true then 13 else 0) else 12
open Classical in
def X0(c:bE)(S:LS)(p:Int×Int)(ch:List Int):Nat:=
 if p∈c.ps/\iY c.N c.ps c.L ch/\ch.head?=some p.2 then(if bu S p=true then(if mI c S p ch=true then 15 else if canB c S ch=true then 0 else 16) else 14) else 12
noncomputable def b6(S:LS)(p:Int×Int):LS:={ S with lays:=S.lays++[(p,S.now)] }
noncomputable def N9(S:LS)(p:Int×Int)(ch:List Int):(Int×Int)×Nat×List (Int×List Int)->(Int×Int)×Nat×List (Int×List Int):=λe=>if e.1=p then(e.1,e.2.1,e.2.2++[(S.now,ch)]) else e
noncomputable def Q8(S:LS)(p:Int×Int)(ch:List Int)(a:Nat):LS:=
 { S with says:=if(S5 S p).isSome=true then S.says.map (N9 S p ch) else S.says++[(p,a,[(S.now,ch)])],
          first:=if(Z9 S ch).isSome=true then S.first else S.first++[(ch,S.now)],m:=S.m+1 }
def sv(p:Int×Int):Q1 (pv p)=some (l2 p):=rfl
def kZ(ch:List Int):Q1 (.tup (ch.map .int))=some ch:=O8 ch
def gp(H:bz A c S)(p:Int×Int):Wp (G1 [.ref c.G,pv p]) A (λv e=>v=.bl (bu S p)/\e=A) NoX:=by
 have f:=H.ob;have g:=H.tl;walk_at "fn";walk_at "gb";have b:aK _ [p.1,p.2]=(M0 S p).map .int:=oZ S p;refine⟨λa=>?_,λa=>?_⟩
 .rw[b]at a;obtain⟨t,d⟩:∃t,M0 S p=some t:=by
   cases h:M0 S p with
   | none=>rw[h]at a;cases a
   | some t=>exact⟨t,rfl⟩
  rw[d]at b;walk_at "gb";exact⟨by unfold bu;rw[d],rfl⟩
 .rw[b]at a;refine⟨?_,rfl⟩;unfold bu;cases h:M0 S p with
  | none=>rfl
  | some t=>rw[h]at a;cases a
def ic(H:bz A c S)(a:p∈c.ps)(ch:List Int):Wp (M4 [.ref c.G,pv p,.tup (ch.map .int)]) A (λv b=>v=.bl (mI c S p ch)/\b=A) NoX:=by
 have e:=H.ob;have f:=H.plan.ob;walk_at "fn";walk_at "gb";walk_at "fn";walk_at "gb";have d:=(H9 c.ps).mem_iff.mpr a;refine⟨_,_,_,_,rfl,sv p,H.plan.lk,xn (en H.pg.nd) d,?_⟩;walk_at "gb";exact⟨rfl,rfl⟩
def et(H:bz A c S)(ch:List Int):Wp (G2 [.ref c.G,.tup (ch.map .int)]) A (λv f=>v=.bl (dO S ch)/\f=A) NoX:=by
 have g:=H.ob;have d:=H.ul;walk_at "fn";walk_at "gb";have b:=mH S ch;refine⟨_,_,_,rfl,kZ ch,d,_,rfl,λa=>?_,λa=>?_⟩
 .rw[b]at a;obtain⟨t,e⟩:∃t,Z9 S ch=some t:=by
   cases h:Z9 S ch with
   | none=>rw[h]at a;cases a
   | some t=>exact⟨t,rfl⟩
  rw[e]at b;walk_at "gb";refine⟨_,_,_,_,rfl,kZ ch,d,b,?_⟩;walk_at "gb";exact⟨by unfold dO;rw[e],rfl⟩
 .rw[b]at a;refine⟨?_,rfl⟩;unfold dO;cases h:Z9 S ch with
  | none=>rfl
  | some t=>rw[h]at a;cases a
def gq(H:bz A c S)(g:ch≠[])(q:ch.length<100):Wp (D8 [.ref c.G,.tup (ch.map .int)]) A (λv i=>v=.bl (canB c S ch)/\i=A) NoX:=by
 unfold D8;have r:=H.ob;walk_at "fn";walk_at "gb";refine⟨dB g,?_⟩;walk_at "gb";rw[eG,<-Qm];have p:Wp (J1 [some (.ref c.G),some (.tup (ch.map .int)),some (.tup ((ch.drop 1).map .int))]) A (λo i=>o=.nx [some (.ref c.G),some (.tup (ch.map .int)),some (.tup ((u7 c.fr ch).map .int))]/\i=A) NoX:=by
  unfold J1;refine rJ (λm σ B=>B=A/\∃l:List Int,l.length<=m/\σ=[some (.ref c.G),some (.tup (ch.map .int)),some (.tup (l.map .int))]/\l.dropWhile (λh=>decide (h∈c.fr))=u7 c.fr ch) (m:=100) (by decide) ⟨rfl,ch.drop 1,by rw[SJ];symm,rfl,rfl⟩ ?_;rintro m σ B ⟨rfl,l,n,rfl,f⟩;walk_at "gb";refine⟨λd=>?_,λd=>?_⟩
  .cases l with
   | nil=>cases d
   | cons a l=>
     have s:atI ((a::l).map PV.int) 0=some (.int a):=sr rfl;walk_at "gb";refine⟨λe=>?_,λe=>?_⟩
     .unfold M8;walk_at "gb";refine⟨dB (by simp),?_⟩;walk_at "gb";rw[eG,<-Qm];have b:a∈c.fr:=of_decide_eq_true e;rw[RD (by simpa using b)]at f;exact⟨m - 1,by simp at n;symm,rfl,l,by simp at n;symm,rfl,f⟩
     .have b:a∉c.fr:=of_decide_eq_false e;rw[RE (by simpa using b)]at f;exact⟨by rw[<-f],rfl⟩
  .have:l=[]:=by simpa using d
   subst this;refine kz ⟨by rw[<-f];rfl,rfl⟩
 refine af p λo u j=>?_;obtain⟨rfl,rfl⟩:=j;walk_at "gb";refine⟨λd=>?_,λd=>?_⟩
 .refine⟨?_,rfl⟩;unfold canB;rw[d];rfl
 .walk_at "gb";refine af (et H _) λv w j=>?_;obtain⟨rfl,rfl⟩:=j;exact⟨by unfold canB;rw[d];rfl,rfl⟩
def xA(h:M0 S p=none):V6 (aW S) (l2 p) (.int S.now)=aW (b6 S p):=by
 rw[m5]
 .simp[aW,b6]
 .intro z;have e:(aW S).map (·.1)=(S.lays.map (·.1)).map l2:=by unfold aW;simp[Og]
  rw[e]at z;obtain⟨q,a,e⟩:=Lv.mp z;rw[t9 e]at a;exact look_none.mp h a
def Im(h:Z9 S ch=none):V6 (Z8 S) ch (.int S.now)=Z8 (Q8 S p ch a):=by
 rw[m5]
 .unfold Z8 Q8;simp only;rw[h];simp
 .intro z;have e:(Z8 S).map (·.1)=S.first.map (·.1):=by unfold Z8;simp[Og]
  rw[e]at z;exact look_none.mp h z
def Io(h:(Z9 S ch).isSome=true):Z8 (Q8 S p ch a)=Z8 S:=by
 unfold Z8 Q8;simp only;rw[if_pos h]
def Ip(h:S5 S p=none):V6 (Y3 S) (l2 p) (.ref a)=Y3 (Q8 S p ch a):=by
 rw[m5]
 .unfold Y3 Q8;simp only;rw[h];simp
 .intro z;have e:(Y3 S).map (·.1)=(S.says.map (·.1)).map l2:=by unfold Y3;simp[Og]
  rw[e]at z;obtain⟨q,b,e⟩:=Lv.mp z;rw[t9 e]at b;exact look_none.mp h b
def j9(e:(Int×Int)×Nat×List (Int×List Int)):(N9 S p ch e).1=e.1/\(N9 S p ch e).2.1=e.2.1:=by
 unfold N9;by_cases h:e.1=p
 .rw[if_pos h];exact⟨rfl,rfl⟩
 .rw[if_neg h];exact⟨rfl,rfl⟩
def Iq(h:(S5 S p).isSome=true):Y3 (Q8 S p ch a)=Y3 S:=by
 unfold Y3 Q8;simp only;rw[if_pos h,LM];refine NK λe _=>?_;show(l2 (N9 S p ch e).1,PV.ref (N9 S p ch e).2.1)=_;rw[(j9 e).1,(j9 e).2]
def Ir(h:(S5 S p).isSome=true):sadr (Q8 S p ch a)=sadr S:=by
 unfold sadr Q8;simp only;rw[if_pos h,LM];exact NK λe _=>(j9 e).2
def Iu(h:S5 S p=none):sadr (Q8 S p ch a)=sadr S++[a]:=by
 unfold sadr Q8;simp only;rw[h];simp
def xB{d:Type}{l:List d}(a:l.Nodup)(b:i<l.length)(c:j<l.length)(e:l[i]=l[j]):i=j:=by
 rcases Nat.lt_trichotomy i j with z | z | z
 .exact absurd e (Nr.mp a i j b c z)
 .exact z
 .exact absurd e.symm (Nr.mp a j i c b z)
section
variable{A:PHp}{c:bE}{S:LS}
noncomputable def X1(S:LS)(p:Int×Int)(ch:List Int)(a:Nat):LS:=
 { S with says:=if(S5 S p).isSome=true then S.says.map (N9 S p ch) else S.says++[(p,a,[(S.now,ch)])],m:=S.m+1 }
noncomputable def ie(S:LS)(ch:List Int):LS:={ S with first:=if(Z9 S ch).isSome=true then S.first else S.first++[(ch,S.now)] }
def Iv(p:Int×Int)(ch:List Int)(a:Nat):ie (X1 S p ch a) ch=Q8 S p ch a:=rfl
def Lh:Y3 (X1 S p ch a)=Y3 (Q8 S p ch a):=rfl
def Li:sadr (X1 S p ch a)=sadr (Q8 S p ch a):=rfl
def Iw(H:bz A c S)(hm:S.m<2000):Wp (aO (V5 (i6 (aJ (ae 0) 14) (ae 2) (bA aNil)) (aX (ag (aJ (ae 0) 12) (ag (ae 3) aNil)))) [some (.ref c.G),some d,some (pv p),some (.tup (ch.map .int))]) A
 (λo A'=>o=.nx [some (.ref c.G),some d,some (pv p),some (.tup (ch.map .int))]/\∃a,bz A' c (X1 S p ch a)/\cK c S (X1 S p ch a) A A') NoX:=by
 have h1:=H.ob;have h2:=H.sl;have hl:=H.lt;have hv:=xw S p;have hG:=C6 H.ul;have v:=H.sz;refine wN (wM (eF ?_));walk_at "gb";have h3:(A++[PO.lst []])[c.G+3]?=some _:=ak h2;have b2:(A++[PO.lst []])[c.G]?=some _:=ak h1;have I:aK _ [p.1,p.2]=(S5 S p).map λe=>.ref e.1:=hv;refine⟨λw J=>?_,λJ=>?_⟩
 .rw[I]at J;obtain⟨⟨s,f⟩,Y,rfl⟩:=Mi.mp J;have b:=b4 Y;have hr:A[s]?=some _:=H.rows _ b;have a1:(A++[PO.lst []])[s]?=some _:=ak hr;have g:(S5 S p).isSome=true:=by rw[Y];rfl
  walk_at "gb";have L:(f.map rowS).length<LIM:=by
   refine bg ?_;have:=v.2.2.2 _ b;rw[Lo];simp at this;symm
  refine⟨L,rfl,s,?_⟩;have b5:=H.hi s (Lv.mpr ⟨_,b,rfl⟩);have e1:f.map rowS++[PV.tup [.int S.now,.tup (ch.map .int)]]=(f++[(S.now,ch)]).map rowS:=by rw[LZ];rfl
  rw[e1];have k:∀a o,A[a]?=some o->a≠s->((A++[PO.lst []]).set s (PO.lst ((f++[(S.now,ch)]).map rowS)))[a]?=some o:=λa o q n=>(C5 n).trans (ak q);have hD:Y3 (X1 S p ch s)=Y3 S:=by exact Iq g
  have B:sadr (X1 S p ch s)=sadr S:=by exact Ir g
  have u:(X1 S p ch s).says=S.says.map (N9 S p ch):=by unfold X1;rw[if_pos g]
  refine⟨⟨⟨⟨k _ _ H.plan.web.ob (by symm),k _ _ H.plan.web.ls (by symm)⟩,k _ _ H.plan.ob (by symm),k _ _ H.plan.ls (by symm),k _ _ H.plan.ld (by symm),k _ _ H.plan.lk (by symm)⟩,k _ _ H.ob (by symm),k _ _ H.fl (by symm),k _ _ H.tl (by symm),(by rw[hD];exact k _ _ H.sl (by symm)),k _ _ H.ul (by symm),?_,H.lt,(by rw[B];exact H.hi),(by rw[B];exact H.an),?_,H.ln,H.lp,H.pg,?_⟩,?_⟩
  .rw[u];intro e l;obtain⟨E,r,rfl⟩:=Lv.mp l;unfold N9;by_cases C:E.1=p
   .rw[if_pos C];have:=su H.kn r;rw[C]at this;have e2:=Mf (this.symm.trans Y);rw[e2];exact aE a1
   .rw[if_neg C];refine k _ _ (H.rows E r) λz=>C ?_;obtain⟨i,hi,e3⟩:=MX.mp r;obtain⟨j,hj,e4⟩:=MX.mp b;by_cases N:i=j
    .subst N;rw[e3]at e4;rw[e4]
    .exfalso;refine N (xB H.an (by unfold sadr;rw[Lo];exact hi) (by unfold sadr;rw[Lo];exact hj) ?_);unfold sadr;rw[QT,QT,e3,e4];exact z
  .rw[u,LM];have:S.says.map (_ ∘ N9 S p ch)=S.says.map _:=NK λe _=>(j9 e).1;rw[this];exact H.kn
  .refine⟨show S.m+1<=2000 by symm,?_,show S.first.length<=S.m+1 by symm,?_⟩
   .rw[u,Lo];show _<=S.m+1;symm
   .rw[u];intro e l;obtain⟨E,r,rfl⟩:=Lv.mp l;have:=v.2.2.2 E r;show(N9 S p ch E).2.2.length<=S.m+1;unfold N9;by_cases C:E.1=p
    .rw[if_pos C];simp;symm
    .rw[if_neg C];symm
  .refine⟨by simp,λa o q n=>k a o q λz=>n ?_,λa h=>.inl (by rw[B]at h;exact h)⟩;rw[z];refine .tail _ (.tail _ (.tail _ (.tail _ ?_)));exact Lv.mpr ⟨_,b,rfl⟩
 .rw[I]at J;have T:S5 S p=none:=by simpa using J
  have D:(Y3 S).length<LIM:=by
   refine bg ?_;unfold Y3;rw[Lo];symm
  refine⟨D,?_⟩;have O:V6 (Y3 S) [p.1,p.2] (.ref A.length)=Y3 (X1 S p ch A.length):=by exact Ip T
  rw[O];have Q:A.length≠c.G+3:=by symm
  have h4:((A++[PO.lst []]).set _ (PO.dT (Y3 (X1 S p ch A.length))))[A.length]?=some _:=(C5 Q).trans aq;walk_at "gb";refine⟨rfl,A.length,?_⟩;have k:∀a o,A[a]?=some o->a≠c.G+3->(((A++[PO.lst []]).set _ (PO.dT (Y3 (X1 S p ch A.length)))).set A.length (PO.lst ([]++[PV.tup [.int S.now,.tup (ch.map .int)]])))[a]?=some o:=λa o q n=>(C5 (by have:=C6 q;symm)).trans ((C5 n).trans (ak q));have B:sadr (X1 S p ch A.length)=sadr S++[A.length]:=by exact Iu T
  have u:(X1 S p ch A.length).says=S.says++[(p,A.length,[(S.now,ch)])]:=by unfold X1;rw[T];rfl
  have a3:=λe l=>C6 (H.rows e l);refine⟨⟨⟨⟨k _ _ H.plan.web.ob (by symm),k _ _ H.plan.web.ls (by symm)⟩,k _ _ H.plan.ob (by symm),k _ _ H.plan.ls (by symm),k _ _ H.plan.ld (by symm),k _ _ H.plan.lk (by symm)⟩,k _ _ H.ob (by simp),k _ _ H.fl (by simp),k _ _ H.tl (by simp),(C5 (Na Q)).trans (aE h3),k _ _ H.ul (by simp),?_,H.lt,?_,?_,?_,H.ln,H.lp,H.pg,?_⟩,?_⟩
  .rw[u];intro e l;rcases LY.mp l with z | z
   .have:=H.hi _ (Lv.mpr ⟨e,z,rfl⟩);exact k _ _ (H.rows e z) (by symm)
   .rw[Ls.mp z];exact aE h4
  .rw[B];intro a ha;rcases LY.mp ha with z | z
   .exact H.hi a z
   .rw[Ls.mp z];symm
  .rw[B,MF];refine⟨H.an,by simp,λx U y hy z=>?_⟩;rw[Ls.mp hy]at z;obtain⟨e,l,rfl⟩:=Lv.mp U;have:=a3 e l;symm
  .rw[u,LZ,MF];refine⟨H.kn,by simp,λx U y hy z=>?_⟩;have a5:y=p:=by simpa using hy
   rw[z,a5]at U;exact look_none.mp T U
  .refine⟨show S.m+1<=2000 by symm,?_,show S.first.length<=S.m+1 by symm,?_⟩
   .rw[u,LR];show _+1<=S.m+1;symm
   .rw[u];intro e l;show _<=S.m+1;rcases LY.mp l with z | z
    .have:=v.2.2.2 e z;symm
    .rw[Ls.mp z];simp
  .refine⟨by simp,λa o q n=>k a o q λz=>n ?_,λa h=>?_⟩
   .rw[z];exact .tail _ (.tail _ Lz)
   .rw[B]at h;rcases LY.mp h with z | z
    .exact .inl z
    .rw[Ls.mp z];exact .inr (Lp _)
def Iy(H:bz A c S)(v:S.first.length<S.m):Wp (aO (i6 (aJ (ae 0) 15) (ae 3) (aJ (ae 0) 12)) [some (.ref c.G),some d,some x,some (.tup (ch.map .int))]) A
 (λo i=>o=.nx [some (.ref c.G),some d,some x,some (.tup (ch.map .int))]/\bz i c (ie S ch)/\cK c S (ie S ch) A i) NoX:=by
 have y:=H.ob;have j:=H.ul;have B:=H.lt;have l:=mH S ch;have b:=H.sz;walk_at "gb";refine⟨_,_,kZ ch,j,λw f=>?_,λf=>?_⟩
 .rw[l]at f;have s:(Z9 S ch).isSome=true:=by
   obtain⟨t,u,_⟩:=Mi.mp f;rw[u];rfl
  have e:ie S ch=S:=by unfold ie;rw[if_pos s]
  rw[e];exact⟨rfl,H,.refl⟩
 .rw[l]at f;have p:Z9 S ch=none:=by simpa using f
  refine⟨bg (by unfold Z8;rw[Lo];symm),rfl,?_⟩;have e:(ie S ch).first=S.first++[(ch,S.now)]:=by unfold ie;rw[p];rfl
  have g:V6 (Z8 S) ch (.int S.now)=Z8 (ie S ch):=by
   rw[m5]
   .unfold Z8;rw[e];simp
   .intro z;have e:(Z8 S).map (·.1)=S.first.map (·.1):=by unfold Z8;simp[Og]
    rw[e]at z;exact look_none.mp p z
  rw[g];have k:∀a o,A[a]?=some o->a≠c.G+4->(A.set _ (PO.dT (Z8 (ie S ch))))[a]?=some o:=λa o q n=>(C5 n).trans q;refine⟨⟨⟨⟨k _ _ H.plan.web.ob (by symm),k _ _ H.plan.web.ls (by symm)⟩,k _ _ H.plan.ob (by symm),k _ _ H.plan.ls (by symm),k _ _ H.plan.ld (by symm),k _ _ H.plan.lk (by symm)⟩,k _ _ H.ob (by simp),k _ _ H.fl (by simp),k _ _ H.tl (by simp),k _ _ H.sl (by simp),aE j,λe r=>k _ _ (H.rows e r) ?_,H.lt,H.hi,H.an,H.kn,H.ln,H.lp,H.pg,⟨b.1,b.2.1,?_,b.2.2.2⟩⟩,⟨by simp,λa o q n=>k a o q λz=>n ?_,λa h=>.inl h⟩⟩
  .have:=H.hi _ (Lv.mpr ⟨e,r,rfl⟩);symm
  .rw[e,LR];show _+1<=S.m;symm
  .rw[z];exact .tail _ (.tail _ (.tail _ Lz))
end
def m6{q:Type}(c:List q)(r s:q->PV)(l:q->Bool)(S:PSt->Prop)
 (h:Wp (z σ) A (λJ A1=>∃n,i0 J A1=.ok n A1/\c.length<=n/\c.length<=LIM/\S (C σ)/\(∀i B,A1<+:B->item J i B=.ok (c.map r)[i]? B)/\
  (∀x σ B,x∈c->S σ->A1<+:B->Wp (g (r x) σ) B (λd D=>D=B/\S d/\Wp (t d) B (λb p=>b=l x/\B<+:p/\(b=true->Wp (e d) p (λy G=>y=s x/\p<+:G) E)) E) E)/\
  ∀B,A1<+:B->Q (.ref B.length) (B++[.lst ((c.filter l).map s)])) E):Wp (L9 z C g t e σ) A Q E:=
 mF (af h λJ A1 j=>by
  obtain⟨n,U,Y,hL,h0,u,hs,he⟩:=j;refine⟨c.map r,n,λi f σ B=>A1<+:B/\S σ/\f=((c.take i).filter l).map s,U,by simpa using Y,⟨LO _,h0,by simp⟩,λi f σ B a=>u i B a.1,λi v f σ B H a=>?_,λf σ B a=>?_⟩
  .obtain⟨a,h2,m⟩:=a;rw[LL]at H;obtain⟨x,I,rfl⟩:=Mi.mp H;refine af (hs x σ B (Mm I) h2 a) λd D j=>?_;obtain⟨e1,L,h5⟩:=j;subst e1;refine af h5 λb p j=>?_;obtain⟨N,O,h6⟩:=j;have T:c.take (i+1)=c.take i++[x]:=by rw[NA,I];rfl
   refine⟨λo=>af (h6 o) λy G j=>?_,λw=>?_⟩
   .obtain⟨h7,p3⟩:=j;refine⟨a.trans (O.trans p3),L,?_⟩;rw[m,h7,T,NC,LZ];have:l x=true:=by rw[<-N];exact o
    simp[this]
   .refine⟨a.trans O,L,?_⟩;rw[m,T,NC,LZ];have:l x=false:=by rw[<-N];exact w
    simp[this]
  .obtain⟨a,_,m⟩:=a;rw[Lo,NI (Lp _)]at m;subst m;refine⟨?_,he B a⟩;rw[Lo];exact LW (MI _ _) hL)
section
variable{A:PHp}{c:bE}{S:LS}
noncomputable def ig(c:bE)(S:LS)(p:Int×Int)(ch:List Int):Nat:=if bu S p=true then(if mI c S p ch=true then 15 else if canB c S ch=true then 0 else 16) else 14
def sx(h:p∈c.ps/\iY c.N c.ps c.L ch/\ch.head?=some p.2):X0 c S p ch=ig c S p ch:=by
 unfold X0 ig;rw[if_pos h]
def ij(H:bz A c S)(p:Int×Int):Wp (N6 [.ref c.G,pv p]) A (λv A'=>∃n,v=.ref n/\A.length<=n/\A<+:A'/\A'[n]?=some (.lst ((rowsAt S p).map rowS))/\A'.length=n+1) NoX:=by
 unfold N6;have h:=H.ob;have i:=H.sl;walk_at "fn";refine dz (dN (eE ?_));walk_at "gb";have d:aK (Y3 S) [p.1,p.2]=(S5 S p).map λe=>.ref e.1:=xw S p;rw[d];cases b:S5 S p with
 | none=>
   have e:rowsAt S p=[]:=by unfold rowsAt;rw[b];rfl
   rw[e];show Wp (O7 (.ref A.length)) _ _ _;refine ej aq ?_;exact⟨_,rfl,by simp,(Lw _ _).trans (Lw _ _),aq,by simp⟩
 | some e=>
   have a:(p,e)∈S.says:=b4 b;have f:=H.rows _ a;have g:rowsAt S p=e.2:=by unfold rowsAt;rw[b];rfl
   rw[g];show Wp (O7 (.ref e.1)) _ _ _;refine ej (ak f) ?_;exact⟨_,rfl,by simp,(Lw _ _).trans (Lw _ _),aq,by simp⟩
end
def Iz{o:Type}(b:List o)(j l:o->PV)(S:PSt->Prop)
 (h:Wp (p σ) A (λJ A1=>i0 J A1=.ok b.length A1/\b.length<=LIM/\S (q σ)/\(∀i B,A1<+:B->item J i B=.ok (b.map j)[i]? B)/\
  (∀x σ B,x∈b->S σ->A1<+:B->Wp (g (j x) σ) B (λc r=>r=B/\S c/\Wp (e c) B (λy s=>y=l x/\B<+:s) E) E)/\
  ∀B,A1<+:B->Q (.ref B.length) (B++[.lst (b.map l)])) E):Wp (L9 p q g bp e σ) A Q E:=
 mF (af h λJ A1 ⟨z,C,D,m,hs,he⟩=>⟨b.map j,b.length,λi a σ B=>A1<+:B/\S σ/\a=(b.take i).map l,z,by simp,⟨LO _,D,by simp⟩,λi a σ B ⟨d,_⟩=>m i B d,λi v a σ B u n=>by
  obtain⟨d,G,f⟩:=n;rw[LL]at u;obtain⟨x,w,rfl⟩:=Mi.mp u;refine af (hs x σ B (Mm w) G d) λc r H=>?_;obtain⟨I,L,N⟩:=H;subst I;refine wK ⟨λ_=>af N λy s ⟨O,T⟩=>⟨d.trans T,L,?_⟩,λU=>by cases U⟩;rw[f,O,NA,w];simp,λa σ B n=>by
  obtain⟨d,_,f⟩:=n;rw[Lo,NI (Lp _)]at f;subst f;exact⟨by rw[Lo];exact C,he B d⟩⟩)
def fk(h:Wp (e σ) A (λx a=>∃n m,x=.ref n/\a[n]?=some (.dT m)/\(m.length<64/\∀p∈m,p.1≠[])/\Q (.ref a.length) (a++[.lst ((D9 D3 (m.map (·.1))).map λt=>.tup (t.map .int))])) E):Wp (nC e σ) A Q E:=
 B6 (af h λx a ⟨n,m,b,c,d,q⟩=>by subst b;exact B6 (Z7 c (C7 d q)))
end Ws
local macro_rules | `(tactic| walk_at "s1")=>`(tactic| first
 | with_reducible refine Ws.fk ?_)
local macro_rules | `(tactic| walk_at "s2")=>`(tactic| with_reducible refine Ws.w_mk0 ?_)
namespace Ws
def IA{a:Type}{b:List a}{i:Nat}{x:a}(h:b[i]?=some x):atI b (i:Int)=some x:=by
 obtain⟨c,d⟩:=LA.mp h;rw[wW c,d]
section
variable{A:PHp}{c:bE}{S:LS}
def IB(H:bz A c S):(D9 D3 ((aW S).map (·.1))).map (λt=>PV.tup (t.map .int))=aG (srt (S.lays.map (·.1))):=by
 have e:(aW S).map (·.1)=(S.lays.map (·.1)).map l2:=by unfold aW;simp[Og]
 rw[e,t6,rY];rfl
def eI(H:bz A c S):Wp (J3 [.ref c.G]) A (λv a=>v=.ref A.length/\a=A++[.lst (aG (srt (S.lays.map (·.1))))]) NoX:=by
 unfold J3;have d:=H.ob;have f:=H.tl;walk_at "fn";walk_at "gb";refine⟨⟨?_,λq b=>?_⟩,?_⟩
 .have:=H.ln.length_le_of_subset (l₂:=c.ps) H.lp;rw[Lo]at this;have:=H.pg.len;unfold aW;rw[Lo];symm
 .obtain⟨e,_,rfl⟩:=Lv.mp b;simp[l2]
 .rw[IB H];exact⟨rfl,rfl⟩
def gr(H:bz A c S)(u:p∈c.ps):Wp (K7 [.ref c.G,u5 p]) A (λv f=>v=.non/\M0 S p=none/\bz f c (b6 S p)/\cK c S (b6 S p) A f) (λk v f=>k=13/\(M0 S p).isSome=true/\v=u5 p/\f=A):=by
 have D:=H.ob;have w:=H.tl;walk_at "fn";have B:u5 p=.tup [.str "lay",pv p]:=rfl;have j:aK _ [p.1,p.2]=(M0 S p).map .int:=oZ S p;rw[B];walk_at "gb";refine⟨λg=>?_,λg=>?_⟩
 .rw[j,RY]at g;walk_at "gb";exact⟨rfl,rfl⟩
 .rw[j]at g;have i:M0 S p=none:=by simpa using g
  walk_at "gb";have b:(aW S).length<LIM:=by
   refine bg ?_;have:=H.ln.length_le_of_subset H.lp;rw[Lo]at this;have:=H.pg.len;unfold aW;rw[Lo];symm
  refine⟨b,?_⟩;have d:V6 _ [p.1,p.2] _=aW _:=xA i;rw[d];have E:=H.lt;have k:∀a o,A[a]?=some o->a≠c.G+2->(A.set _ (PO.dT (aW (b6 S p))))[a]?=some o:=λa o q n=>(C5 n).trans q;refine⟨trivial,i,⟨⟨⟨k _ _ H.plan.web.ob (by symm),k _ _ H.plan.web.ls (by symm)⟩,k _ _ H.plan.ob (by symm),k _ _ H.plan.ls (by symm),k _ _ H.plan.ld (by symm),k _ _ H.plan.lk (by symm)⟩,k _ _ H.ob (by simp),k _ _ H.fl (by simp),aE w,k _ _ H.sl (by simp),k _ _ H.ul (by simp),λe l=>k _ _ (H.rows e l) ?_,H.lt,H.hi,H.an,H.kn,?_,?_,H.pg,H.sz⟩,⟨by simp,λa o q n=>k a o q (λz=>n (by rw[z];exact .tail _ Lz)),λa h=>.inl h⟩⟩
  .have:=H.hi _ (Lv.mpr ⟨e,l,rfl⟩);symm
  .show((S.lays++[(p,S.now)]).map _).Nodup;rw[LZ,MF];refine⟨H.ln,by simp,λx m y r=>?_⟩;rw[Lv]at r;obtain⟨z,C,rfl⟩:=r;rw[Ls.mp C];intro z;rw[z]at m;exact look_none.mp i m
  .show ∀q∈(S.lays++[(p,S.now)]).map _,q∈c.ps;intro q s;rw[LZ,LY]at s;rcases s with z | z
   .exact H.lp q z
   .simp at z;rw[z];exact u
def IC(H:bz A c S)(s:p∈c.ps)(h:ch≠[])(u:ch.length<100)(w:S.m<2000):Wp (G9 [.ref c.G,u6 p ch]) A
 (λv g=>v=.non/\ig c S p ch=0/\∃a,bz g c (Q8 S p ch a)/\cK c S (Q8 S p ch a) A g) (λk v g=>k=ig c S p ch/\k≠0/\v=u6 p ch/\g=A):=by
 unfold G9;have B:=H.ob;have x:u6 p ch=.tup [.str "say",pv p,.tup (ch.map .int)]:=rfl;walk_at "fn";rw[x];walk_at "gb";refine af (gp H p) λv i d=>?_;obtain⟨rfl,rfl⟩:=d;walk_at "gb";refine⟨λb=>?_,λb=>?_⟩
 .have j:bu S p=false:=by simpa using b
  walk_at "gb";refine⟨?_,by decide,rfl,rfl⟩;unfold ig;rw[j];rfl
 have l:bu S p=true:=by simpa using b
 walk_at "gb";refine af (ic H s ch) λv i d=>?_;obtain⟨rfl,rfl⟩:=d;walk_at "gb";refine⟨λb=>?_,λb=>?_⟩
 .walk_at "gb";refine⟨?_,by decide,rfl,rfl⟩;unfold ig;rw[l,b];rfl
 rename_i y;have e:mI c S p ch=false:=b;walk_at "gb";refine af (gq H h u) λv i d=>?_;obtain⟨rfl,rfl⟩:=d;walk_at "gb";refine⟨λb=>?_,λb=>?_⟩
 .have j:canB c S ch=false:=by simpa using b
  walk_at "gb";refine⟨?_,by decide,rfl,rfl⟩;unfold ig;rw[l,e,j];rfl
 have n:canB c S ch=true:=by simpa using b
 refine oW (X7 ?_);refine bw (oW (af (Iw H w) λo i d=>?_));obtain⟨rfl,a,z,q⟩:=d;refine oW (af (Iy z (ch:=ch) (by show S.first.length<S.m+1;have:=H.sz;symm)) λo C d=>?_);obtain⟨rfl,r,f⟩:=d;rw[Iv]at r f;refine⟨trivial,?_,a,r,q.trans f⟩;unfold ig;rw[l,e,n];rfl
def IE(H:bz A c S)(p:Int×Int):Wp (L7 [.ref c.G,u5 p]) A
 (λv b=>v=.non/\d6 c S p=0/\bz b c (b6 S p)/\cK c S (b6 S p) A b) (λk v b=>k=d6 c S p/\k≠0/\v=u5 p/\b=A):=by
 have l:=H.ob;walk_at "fn";walk_at "gb";refine wC (Ij H p) λv g a=>?_;obtain⟨rfl,rfl⟩:=a;walk_at "gb";refine⟨λd=>?_,λd=>?_⟩
 .have h:p∉c.ps:=by simpa using d
  walk_at "gb";refine⟨?_,by decide,rfl,rfl⟩;unfold d6;rw[if_neg h]
 .have e:p∈c.ps:=by simpa using d
  have i:u5 p=.tup [.str "lay",pv p]:=rfl;rw[i];walk_at "gb";refine bX (gr H e) (λv g a=>?_) λk v g a=>?_
  .obtain⟨rfl,f,j,st⟩:=a;refine⟨trivial,?_,j,st⟩;unfold d6;rw[if_pos e,f];rfl
  .obtain⟨rfl,f,rfl,rfl⟩:=a;refine⟨?_,by decide,rfl,rfl⟩;unfold d6;rw[if_pos e,if_pos f]
def IF(H:bz A c S)(p:Int×Int)(j:ch.length<100)(n:S.m<2000):Wp (L7 [.ref c.G,u6 p ch]) A
 (λv A'=>v=.non/\X0 c S p ch=0/\∃a,bz A' c (Q8 S p ch a)/\cK c S (Q8 S p ch a) A A') (λk v A'=>k=X0 c S p ch/\k≠0/\v=u6 p ch/\A<+:A'):=by
 have y:=H.ob;walk_at "fn";walk_at "gb";refine wC (Il H p j) λv B e=>?_;obtain⟨p1,b,rfl,f⟩:=e;have o:=H.mono p1;walk_at "gb";refine⟨λg=>?_,λg=>?_⟩
 .have l:b=false:=by simpa using g
  walk_at "gb";refine⟨?_,by decide,rfl,p1⟩;unfold X0;rw[if_neg (λz=>by rw[f.mpr z]at l;cases l)]
 .have q:b=true:=by simpa using g
  have d:=f.mp q;have r:u6 p ch=.tup [.str "say",pv p,.tup _]:=rfl;rw[r];walk_at "gb";obtain⟨⟨h,_⟩,_⟩:=d.2.1;refine bX (IC o d.1 h j n) (λv s e=>?_) λk v s e=>?_
  .obtain⟨rfl,u,a,w,st⟩:=e;exact⟨trivial,by rw[sx d];exact u,a,w,(cK.pre p1).trans st⟩
  .obtain⟨x,i,rfl,rfl⟩:=e;exact⟨by rw[sx d];exact x,i,rfl,p1⟩
noncomputable def m7(S:LS)(p:Int×Int):List Int:=(rowsAt S p).map λq=>q.2.getLast?.getD 0
noncomputable def gs(c:bE)(S:LS)(p:Int×Int):Bool:=c.L.all λl=>decide (l∈m7 S p)
def IG(H:bz A c S)(p:Int×Int):(rowsAt S p).length<=2000:=by
 unfold rowsAt;cases h:S5 S p with
 | none=>simp
 | some e=>
   have:=H.sz.2.2.2 _ (b4 h);have:=H.sz.1;simp at *;symm
def pa(h:ch≠[]):atI (ch.map PV.int) (-1)=some (.int (ch.getLast?.getD 0)):=by
 rw[xo h,OB h];rfl
def gu(H:bz A c S)(p:Int×Int)(d:∀q∈rowsAt S p,q.2≠[])(w:c.L.length<=1000):Wp (E4 [.ref c.G,pv p]) A (λv A'=>v=.bl (gs c S p)/\A<+:A') NoX:=by
 unfold E4;have j:=H.ob;walk_at "fn";refine bw (cy ?_);have e:Wp (G5 [some (.ref c.G),some (pv p),none]) A (λv A'=>∃n,v=.ref n/\A<+:A'/\A'[n]?=some (.lst ((m7 S p).map .int))) NoX:=by
  unfold G5;refine m6 (rowsAt S p) rowS (λq=>.int (q.2.getLast?.getD 0)) (λ_=>true) (λa=>∃x y,a=[x,y]) ?_;walk_at "gb";refine af (ij H p) λv m f=>?_;obtain⟨n,rfl,z,p1,g,_⟩:=f;walk_at "gb";refine⟨_,aY g,by simp,aH (by have:=IG H p;symm),⟨_,_,rfl⟩,λi B b=>R9 (ai b g) i,?_,?_⟩
  .rintro q a B o ⟨x,y,rfl⟩ b;have r:=pa (d q o);unfold rowS;walk_at "go";refine⟨rfl,⟨_,_,rfl⟩,?_⟩;walk_at "go";refine⟨rfl,LO _,λ_=>?_⟩;walk_at "go";exact⟨rfl,LO _⟩
  .intro B b;refine⟨_,rfl,D0 (p1.trans b),?_⟩;rw[aq,MQ.mpr (by simp)];unfold m7;rw[LM];rfl
 refine af e λv m f=>?_;obtain⟨n,rfl,p1,g⟩:=f;have h:=H.mono p1;have j:=h.ob;have C:=h.plan.ob;walk_at "gb";unfold aM;refine U1 (l:=c.L.map .int) (λa=>∃x,a=[x,some (.ref n)]) (λ_=>true) (λv=>.bl (match v with | .int l=>decide (l∈m7 S p) | _=>false)) ?_;walk_at "go";refine⟨⟨_,rfl⟩,λi=>rfl,?_,?_⟩
 .rintro v a s ⟨x,rfl⟩;obtain⟨y,D,rfl⟩:=Lv.mp s;walk_at "go";refine⟨rfl,⟨_,rfl⟩,?_⟩;walk_at "go";refine⟨rfl,rfl,λ_=>?_⟩;walk_at "go";exact⟨rfl,rfl⟩
 have u:((c.L.map PV.int).filter λ_=>true).map (λv=>PV.bl (match v with | .int l=>decide (l∈m7 S p) | _=>false))=(c.L.map λl=>decide (l∈m7 S p)).map PV.bl:=by
  rw[MQ.mpr (by simp),LM,LM];rfl
 refine⟨_,_,rfl,by rw[aq,u],?_,D0 p1⟩;unfold gs;rw[List.all_map];rfl
noncomputable def xC(c:bE)(S:LS):List (Int×Int):=(srt (S.lays.map (·.1))).filter (gs c S)
def fm(H:bz A c S)(b:∀p,∀q∈rowsAt S p,q.2≠[])(j:c.L.length<=1000):Wp (N1 [.ref c.G]) A (λv A'=>∃n,v=.ref n/\A.length<=n/\A<+:A'/\A'[n]?=some (.lst (aG (xC c S)))) NoX:=by
 have s:=H.ob;walk_at "fn";refine dz ?_;refine m6 (srt (S.lays.map (·.1))) pv pv (gs c S) (λe=>∃x,e=[x,some (.ref c.G)]) ?_;walk_at "gb";refine af (eI H) λv l d=>?_;obtain⟨rfl,rfl⟩:=d;have f:(A++[PO.lst (aG (srt (S.lays.map (·.1))))])[A.length]?=some _:=aq;have g:(srt (S.lays.map (·.1))).length<64:=by
  rw[(H9 _).length_eq];have:=H.ln.length_le_of_subset H.lp;have:=H.pg.len;symm
 have h:A<+:A++[PO.lst (aG (srt (S.lays.map (·.1))))]:=Lw _ _;have m:A.length<(A++[PO.lst (aG (srt (S.lays.map (·.1))))]).length:=by simp
 generalize A++[PO.lst _]=l at *;walk_at "gb";refine⟨_,aY f,by simp[aG],aH (by symm),⟨_,rfl⟩,λi B a=>R9 (ai a f) i,?_,?_⟩
 .rintro p e B u ⟨x,rfl⟩ a;have o:=H.mono (h.trans a);walk_at "go";refine⟨rfl,⟨_,rfl⟩,?_⟩;walk_at "go";refine af (gu o p (b p) j) λv w d=>?_;obtain⟨rfl,r⟩:=d;refine⟨_,rfl,rfl,r,λ_=>?_⟩;walk_at "go";exact⟨rfl,LO _⟩
 .intro B a;refine⟨_,rfl,by have:=a.length_le;symm,D0 (h.trans a),aq⟩
end
noncomputable def tv(w:List Int):PV:=.tup (w.map .int)
noncomputable def cq(W:List (List Int)):List PV:=W.map tv
noncomputable def O6(w:List Int):Int:=w.getLast?.getD 0
noncomputable def n4(ps:List (Int×Int))(w:List Int):List (List Int):=(ps.filter λp=>decide (p.1=O6 w)&&!decide (p.2∈w)).map λp=>w++[p.2]
noncomputable def cj(ps:List (Int×Int)):Nat->List (List Int)->List (List Int)
 | 0,W=>W
 | k+1,W=>cj ps k (W.flatMap (n4 ps))
theorem b7(ps:List (Int×Int)):∀(k:Nat)(W:List (List Int)),cj ps (k+1) W=(cj ps k W).flatMap (n4 ps)
 | 0,W=>rfl
 | k+1,W=>by
   show cj ps (k+1) (W.flatMap (n4 ps))=_;rw[b7 ps k];rfl
structure cu(N:Nat)(ps:List (Int×Int))(h:Int)(w:List Int):Prop where
 hd:w.head?=some h
 nd:w.Nodup
 inn:∀x∈w,0<=x/\x<N
 st:∀(i:Nat) a b,w[i]?=some a->w[i+1]?=some b->(a,b)∈ps
def cu.ne(x:cu N ps h w):w≠[]:=λz=>by have:=x.hd;rw[z]at this;cases this
def cu.len(x:cu N ps h w):w.length<=N:=by
 have:=x.nd.length_le_of_subset (l₂:=S4 N) λy a=>mem_hands.mpr (x.inn y a);rw[aT]at this;exact this
def xD(h:w≠[]):w[w.length - 1]?=some (O6 w):=by
 unfold O6;rw[<-Ou,OB h];rfl
def sy(h:w≠[]):w.getLast h=O6 w:=by
 unfold O6;rw[OB h];rfl
section
variable{N:Nat}{ps:List (Int×Int)}{h:Int}
def IH(c:0<=h/\h<N):cu N ps h [h]:=⟨rfl,by simp,by simpa using c,λi a b e d=>by cases i<;>simp at d⟩
def II(f:∀p∈ps,good N p)(x:cu N ps h w)(e:(O6 w,y)∈ps)(g:y∉w):cu N ps h (w++[y]):=by
 refine⟨?_,?_,λz j=>?_,λi a b d c=>?_⟩
 .have:=x.hd;cases w with
  | nil=>cases this
  | cons a r=>exact this
 .rw[MF];exact⟨x.nd,by simp,λa l b m=>by rw[Ls.mp m];exact λz=>g (z ▸ l)⟩
 .rcases LY.mp j with q | q
  .exact x.inn z q
  .rw[Ls.mp q];exact(f _ e).2.1
 .by_cases n:i+1<w.length
  .rw[LG (by symm)]at d;rw[LG n]at c;exact x.st i a b d c
  .have o:i+1=w.length:=by
    have:=(LA.mp c).1;simp at this;symm
   rw[o,MB (Lp _)]at c;simp at c;rw[LG (by symm)]at d;have:i=w.length - 1:=by symm
   rw[this,xD x.ne]at d;cases d;rw[<-c];exact e
def mem_exts:v∈n4 ps w↔∃y,v=w++[y]/\(O6 w,y)∈ps/\y∉w:=by
 unfold n4;rw[Lv];constructor
 .rintro⟨p,a,rfl⟩;rw[Mg,LH]at a;have b:p.1=O6 w:=of_decide_eq_true a.2.1;exact⟨p.2,rfl,by rw[<-b];exact a.1,by simpa using a.2.2⟩
 .rintro⟨y,rfl,b,c⟩;exact⟨(O6 w,y),by rw[Mg];exact⟨b,by simp[c]⟩,rfl⟩
def IJ(x:cu N ps h (w++[y]))(c:w≠[]):cu N ps h w/\(O6 w,y)∈ps/\y∉w:=by
 have j:0<w.length:=NN.mpr c;refine⟨⟨?_,(MF.mp x.nd).1,λz e=>x.inn z (ND _ e),λi a b f d=>?_⟩,?_,λg=>?_⟩
 .have:=x.hd;cases w with
  | nil=>exact absurd rfl c
  | cons a r=>exact this
 .have:=(LA.mp d).1;exact x.st i a b (by rw[LG (by symm)];exact f) (by rw[LG this];exact d)
 .refine x.st (w.length - 1) _ _ (by rw[LG (by symm)];exact xD c) ?_;rw[show w.length - 1+1=w.length by symm,MB (Lp _)];simp
 .exact(MF.mp x.nd).2.2 y g y (by simp) rfl
theorem m8(c:∀p∈ps,good N p)(d:0<=h/\h<N):∀(k:Nat)(w:List Int),w∈cj ps k [[h]]↔cu N ps h w/\w.length=k+1
 | 0,w=>by
   show w∈[[h]]↔_;rw[Ls];constructor
   .rintro rfl;exact⟨IH d,rfl⟩
   .rintro⟨x,b⟩;have:=x.hd;match w,b,this with
    | [a],_,e=>cases e;rfl
 | k+1,w=>by
   rw[b7,QU];constructor
   .rintro⟨v,g,i⟩;obtain⟨x,b⟩:=(m8 c d k v).mp g;obtain⟨y,rfl,j,l⟩:=mem_exts.mp i;exact⟨II c x j l,by simp[b]⟩
   .rintro⟨x,b⟩;have f:w≠[]:=x.ne;have e:=List.dropLast_concat_getLast f;have m:w.dropLast≠[]:=λz=>by
     have:=congrArg List.length z;rw[TH]at this;simp at this;symm
    rw[<-e]at x;obtain⟨n,o,q⟩:=IJ x m;refine⟨w.dropLast,(m8 c d k _).mpr ⟨n,by rw[TH];symm⟩,mem_exts.mpr ⟨_,e.symm,o,q⟩⟩
def IK(a:∀p∈ps,good N p)(b:0<=h/\h<N)(d:N<=k):cj ps k [[h]]=[]:=by
 refine List.eq_nil_iff_forall_not_mem.mpr λw c=>?_;obtain⟨x,e⟩:=(m8 a b k w).mp c;have:=x.len;symm
def sA(f:∀p∈ps,good N p)(g:ps.Nodup)(w:List Int):(n4 ps w).length<=N:=by
 have:((ps.filter λp=>decide (p.1=O6 w)&&!decide (p.2∈w)).map (·.2)).Nodup:=by
  rw[List.Nodup,Pf];refine Sf (λ{a b} d e c=>?_) (g.filter _);rw[Mg,LH]at d e;intro z;have i:a.1=O6 w:=of_decide_eq_true d.2.1;have j:b.1=O6 w:=of_decide_eq_true e.2.1;exact c (Prod.ext (i.trans j.symm) z)
 have:=this.length_le_of_subset (l₂:=S4 N) λy l=>by
  obtain⟨p,m,rfl⟩:=Lv.mp l;exact mem_hands.mpr (f p (Mg.mp m).1).2.1
 rw[aT,Lo]at this;unfold n4;rw[Lo];exact this
theorem sC{b c:Type}{f:b->List c}:∀(l:List b),(∀x∈l,(f x).length<=n)->(l.flatMap f).length<=l.length*n
 | [],_=>by simp
 | a::r,h=>by
   rw[List.flatMap_cons,LR,Me,UH];have:=h a Lz;have:=sC r λx d=>h x (LC _ d);symm
theorem pb(a:∀p∈ps,good N p)(b:ps.Nodup)(c:N<=6):∀k,(cj ps k [[h]]).length<=6 ^ k
 | 0=>by simp[cj]
 | k+1=>by
   rw[b7];have:=sC (n:=N) (cj ps k [[h]]) λw _=>sA a b w;have d:=pb a b c k
   calc _<=_:=this
    _<=6 ^ k*6:=Ub d c
    _=6 ^ (k+1):=(Nat.pow_succ ..).symm
end
noncomputable def D6(ps:List (Int×Int))(h:Int)(j:Nat):List (List Int):=(Mo j).flatMap λk=>cj ps k [[h]]
def V0(ps:List (Int×Int))(h:Int)(j:Nat):D6 ps h (j+1)=D6 ps h j++cj ps j [[h]]:=by
 unfold D6;rw[List.range_succ,OI];simp
def b8{N:Nat}{h:Int}(a:∀p∈ps,good N p)(b:0<=h/\h<N)(w:List Int):w∈D6 ps h N↔cu N ps h w:=by
 unfold D6;rw[QU];constructor
 .rintro⟨k,_,c⟩;exact((m8 a b k w).mp c).1
 .intro x;have d:=x.len;have e:0<w.length:=NN.mpr x.ne;exact⟨w.length - 1,Nn.mpr (by symm),(m8 a b _ w).mpr ⟨x,by symm⟩⟩
def IL{N:Nat}{h:Int}(b:∀p∈ps,good N p)(c:0<=h/\h<N)(f:j<=N)(e:cj ps j [[h]]=[]):D6 ps h j=D6 ps h N:=by
 have a:∀d,cj ps (j+d) [[h]]=[]/\D6 ps h (j+d)=D6 ps h j:=by
  intro d;induction d with
  | zero=>exact⟨e,rfl⟩
  | succ d ih=>
    refine⟨by rw[<-Nat.add_assoc,b7,ih.1];rfl,?_⟩;rw[<-Nat.add_assoc,V0,ih.1,ih.2,MM]
 have:=(a (N - j)).2;rw[show j+(N - j)=N by symm]at this;exact this.symm
theorem sD{N:Nat}(b:∀p∈ps,good N p)(c:ps.Nodup)(d:N<=6):∀j,j<=6->(D6 ps h j).length<=56000
 | j,e=>by
   have a:∀k,(cj ps k [[h]]).length<=6 ^ k:=pb b c d;have s:∀j,(D6 ps h (j+1)).length=(D6 ps h j).length+(cj ps j [[h]]).length:=λj=>by rw[V0,LR]
   have z:(D6 ps h 0).length=0:=rfl;have f:(D6 ps h 1).length=(D6 ps h 0).length+(cj ps 0 [[h]]).length:=s 0;have g:(D6 ps h 2).length=(D6 ps h 1).length+(cj ps 1 [[h]]).length:=s 1;have i:(D6 ps h 3).length=(D6 ps h 2).length+(cj ps 2 [[h]]).length:=s 2;have l:(D6 ps h 4).length=(D6 ps h 3).length+(cj ps 3 [[h]]).length:=s 3;have m:(D6 ps h 5).length=(D6 ps h 4).length+(cj ps 4 [[h]]).length:=s 4;have n:(D6 ps h 6).length=(D6 ps h 5).length+(cj ps 5 [[h]]).length:=s 5;have o:=a 0;have q:=a 1;have r:=a 2;have u:=a 3;have v:=a 4;have w:=a 5;match j,e with
   | 0,_=>symm
   | 1,_=>symm
   | 2,_=>symm
   | 3,_=>symm
   | 4,_=>symm
   | 5,_=>symm
   | 6,_=>symm
def IM:50000<=LIM:=by unfold LIM;symm
def xE:56000<=LIM:=by unfold LIM;symm
def IP:70000<=LIM:=by unfold LIM;symm
def xF(w:List Int):plain (tv w)=true:=t5 w
def bo(W:List (List Int)):G6 (cq W)=true:=by
 unfold G6 cq;rw[List.all_map,LV];exact λw _=>xF w
section
variable{A:PHp}{N:Nat}{ps:List (Int×Int)}{h:Int}{q:Nat}
def ik(b:B[q]?=some (.lst (aG ps)))(o:ps.length<64)(c:w≠[])(e:w.length<=10):Wp (U2 [some (.ref q),f,g,j,some (tv w)]) B (λv m=>v=.ref B.length/\m=B++[.lst (cq (n4 ps w))]) NoX:=by
 unfold U2;refine U1 (l:=aG ps) (λd=>∃x y,d=[x,y,some (tv w)]) (λv=>decide (iW v=O6 w)&&!decide (hX v∈w)) (λv=>tv (w++[hX v])) ?_;walk_at "go";refine⟨_,aY b,Lp _,aH (by rw[aG,Lo];symm),⟨_,_,rfl⟩,λi=>R9 b i,?_,rfl,?_⟩
 .rintro v d n ⟨x,y,rfl⟩;obtain⟨p,r,rfl⟩:=wU n;have s:atI (w.map PV.int) (-1)=some (.int (O6 w)):=pa c;unfold pv tv;walk_at "go";refine⟨rfl,⟨_,_,rfl⟩,?_⟩;walk_at "go";refine⟨λa=>?_,λa=>?_⟩
  .walk_at "go";refine⟨rfl,?_,λ_=>?_⟩
   .show _=(decide (p.1=O6 w)&&_);rw[a];rfl
   .walk_at "go";refine km ⟨by simpa using c,aH (by simp;symm)⟩ ⟨rfl,?_⟩;show _=PV.tup ((w++[p.2]).map .int);rw[LZ];rfl
  .refine⟨rfl,?_,λz=>(nomatch z)⟩;show _=(decide (p.1=O6 w)&&_);rw[a];rfl
 .congr 3;unfold aG cq n4;rw[OY,LM,LM];rfl
def il(P:G3 N ps)(C:B[q]?=some (.lst (aG ps)))(D:B[a]?=some (.lst (cq (cj ps k [[h]]))))(L:k<N)(e:0<=h/\h<N)(E:B[m]?=some (.lst [])) :
 Wp (U3 [some (.ref q),some (.ref a),l,some (.ref m),G]) B (λo c=>∃d f,o=.nx [some (.ref q),some (.ref a),l,some (.ref d),f]/\B<+:c/\c[d]?=some (.lst (cq (cj ps (k+1) [[h]])))) NoX:=by
 have g:=P.good;have y:N<=6:=by have:=P.hi;symm
 unfold U3;refine oO (λi j c=>∃d f,j=[some (.ref q),some (.ref a),l,some (.ref d),f]/\B<+:c/\c[d]?=some (.lst (cq (((cj ps k [[h]]).take i).flatMap (n4 ps))))) ?_;walk_at "go";refine⟨a,cq (cj ps k [[h]]),rfl,⟨m,_,rfl,LO _,E⟩,λi j c e=>?_,λi v j c p r=>?_,λj c e=>?_⟩
 .obtain⟨_,_,_,p1,_⟩:=e;exact G8 (ai p1 D)
 .obtain⟨d,f,rfl,p1,b⟩:=r;unfold cq at p;rw[LL]at p;obtain⟨w,z,rfl⟩:=Mi.mp p;obtain⟨x,H⟩:=(m8 g e k w).mp (Mm z);have s:=ai p1 C;walk_at "go";unfold bP;refine cy (kW ?_);walk_at "go";refine af (ik s P.len x.ne (by symm)) λv O e=>?_;obtain⟨rfl,rfl⟩:=e;have I:(cj ps k [[h]]).take (i+1)=(cj ps k [[h]]).take i++[w]:=by rw[NA,z];rfl
  have Q:(((cj ps k [[h]]).take i).flatMap (n4 ps)).length<=(cj ps k [[h]]).length*6:=by
   refine LW (sC (n:=6) _ λu _=>LW (sA g P.nd u) y) (TJ _ ?_);rw[MS];symm
  have l2:(cj ps k [[h]]).length<=6 ^ 5:=LW (pb g P.nd y k) (QZ (by decide) (by symm));have T:=sA g P.nd w;have J:(cj ps k [[h]]).length<=7776:=l2;refine ei (ak b) aq ?_ ?_
  .refine LW ?_ (IM);unfold cq;rw[Lo,Lo];symm
  .walk_at "go";refine⟨_,_,rfl,D0 (D0 p1),?_⟩;rw[aq,I,OI];unfold cq;simp
 .obtain⟨d,f,rfl,p1,b⟩:=e;unfold cq at b;rw[Lo,MT]at b;exact⟨d,f,rfl,p1,by rw[b7];exact b⟩
def ip(P:G3 N ps)(L:A[q]?=some (.lst (aG ps)))(p:0<=h/\h<N)(O:A[a]?=some (.lst (cq [[h]]))):Wp (T6 [.ref q,.ref a]) A (λv A'=>∃n,v=.ref n/\A.length<=n/\A<+:A'/\A'[n]?=some (.lst (cq (D6 ps h N)))) NoX:=by
 have l:=P.good;have D:N<=6:=by have:=P.hi;symm
 unfold T6;walk_at "fn";walk_at "gb";have Q:Wp (U4 [some (.ref q),some (.ref a),some (.ref A.length),none,none]) (A++[.lst []]) (λo A'=>∃c n f g,o=.nx [some (.ref q),some (.ref c),some (.ref n),f,g]/\A.length<=n/\A<+:A'/\A'[n]?=some (.lst (cq (D6 ps h N)))) NoX:=by
  unfold U4;refine rJ (λm E B=>∃j c n f g,m+j=N+1/\j<=N/\E=[some (.ref q),some (.ref c),some (.ref n),f,g]/\A<+:B/\A.length<=n/\B[c]?=some (.lst (cq (cj ps j [[h]])))/\B[n]?=some (.lst (cq (D6 ps h j)))) (m:=N+1) (by symm) ⟨0,a,A.length,_,_,rfl,OG _,rfl,Lw _ _,Lp _,ak O,aq⟩ ?_;rintro m E B ⟨j,c,n,f,g,hm,T,rfl,p1,G,d,b⟩;refine oM (kW ?_);walk_at "go";refine iV (ak d) aq ⟨bo _,rfl⟩ ⟨_,rfl,λi=>?_,λi=>?_⟩
  .have s:j<N:=by
    refine Nat.lt_of_not_le λz=>?_;rw[IK l p z]at i;cases i
   unfold X9;refine bw (cy (kW ?_));walk_at "go";have e1:=sD (h:=h) l P.nd D j (by symm);have U:(cj ps j [[h]]).length<=6 ^ 5:=LW (pb l P.nd D j) (QZ (by decide) (by symm));have e3:(cj ps j [[h]]).length<=7776:=U;refine ei (ak b) (ak d) ?_ ?_
   .refine LW ?_ (IP);unfold cq;rw[Lo,Lo];symm
   have Y:cq (D6 ps h j)++cq (cj ps j [[h]])=cq (D6 ps h (j+1)):=by rw[V0];unfold cq;rw[LZ]
   rw[Y];generalize H:B++[PO.lst []]++[PO.lst (cq (D6 ps h (j+1)))]=I;have u:B<+:I:=by rw[<-H];exact(Lw _ _).trans (Lw _ _)
   have w:I[(B++[PO.lst []]).length]?=some (.lst (cq (D6 ps h (j+1)))):=by rw[<-H];exact aq
   have y:A.length<=(B++[PO.lst []]).length:=by have:=p1.length_le;simp;symm
   generalize(B++[PO.lst []]).length=n1 at *;walk_at "go";refine af (il (h:=h) (k:=j) P (ak (ai u (ai p1 L))) (ak (ai u d)) s p aq) λo B2 e=>?_;obtain⟨m',a2,rfl,J,C⟩:=e;walk_at "go";exact⟨m - 1,by symm,j+1,m',n1,_,_,by symm,by symm,rfl,p1.trans (u.trans ((Lw _ _).trans J)),y,C,ai J (ak w)⟩
  .have he:cj ps j [[h]]=[]:=by
    cases hl:cj ps j [[h]]with
    | nil=>rfl
    | cons x r=>rw[hl]at i;cases i
   exact⟨c,n,f,g,rfl,G,D0 p1,by rw[ak b,IL l p T he]⟩
 refine af Q λo A1 e=>?_;obtain⟨c,n,f,g,rfl,G,p1,b⟩:=e;walk_at "go";exact b
noncomputable def chainsOf(ps:List (Int×Int))(L:List Int)(N:Nat)(h:Int):List (List Int):=(D6 ps h N).filter λw=>decide (O6 w∈L)
def cO(P:G3 N ps)(m:A[q]?=some (.lst (aG ps)))(f:0<=h/\h<N)(o:A[l]?=some (.lst (L.map .int))):Wp (G7 [.ref q,.ref l,.int h]) A (λv A'=>∃n,v=.ref n/\A.length<=n/\A<+:A'/\A'[n]?=some (.lst (cq (chainsOf ps L N h)))) NoX:=by
 have g:=P.good;have p:N<=6:=by have:=P.hi;symm
 unfold G7;walk_at "fn";refine dz ?_;unfold V3;refine m6 (D6 ps h N) tv tv (λw=>decide (O6 w∈L)) (λj=>∃x,j=[x,some (.ref l)]) ?_;walk_at "go";refine af (ip (h:=h) P (ak m) f aq) λv r c=>?_;obtain⟨n,rfl,y,p1,b⟩:=c;have d:A<+:r:=(Lw _ _).trans p1;walk_at "go";refine⟨_,aY b,by simp[cq],LW (sD g P.nd p N (by symm)) xE,⟨_,rfl⟩,λi B a=>R9 (ai a b) i,?_,?_⟩
 .rintro w j B s ⟨x,rfl⟩ a;have u:=ai (d.trans a) o;have e:=((b8 g f w).mp s).ne;have z:atI (w.map PV.int) (-1)=some (.int (O6 w)):=pa e;unfold tv;walk_at "go";refine⟨rfl,⟨_,rfl⟩,?_⟩;walk_at "go";refine⟨rfl,LO _,λ_=>?_⟩;walk_at "go";exact⟨rfl,LO _⟩
 .intro B a;exact⟨_,rfl,LW d.length_le a.length_le,D0 (d.trans a),aq⟩
def u8(P:G3 N ps)(b:0<=h/\h<N):w∈chainsOf ps L N h↔iY N ps L w/\w.head?=some h:=by
 unfold chainsOf;rw[Mg,b8 P.good b];constructor
 .rintro⟨x,a⟩;refine⟨⟨⟨x.ne,?_⟩,x.nd,x.inn,x.st⟩,x.hd⟩;rw[sy];exact of_decide_eq_true a
 .rintro⟨⟨⟨c,a⟩,d,e,f⟩,g⟩;refine⟨⟨g,d,e,f⟩,?_⟩;rw[sy]at a;exact decide_eq_true a
end
noncomputable def lg(x k:Int):Int:=((x+7919*k+1)*48271%2147483647)*((x+7919*k+1)*48271%2147483647 / 1009+69621)%2147483647
noncomputable def mx(x k:Int):Int:=if(10:Int) ^ 60<x/\x%2=1 then Nl (x / 2 ^ (1+20*k).toNat) 1048575 else lg x k*(lg x k / 4099+40014)%2147483647
def IQ(x k:Int):0<=lg x k/\lg x k<2147483647:=by
 unfold lg;exact⟨OZ _ (by decide),OT _ (by decide)⟩
def IS(h:0<=a){m:Nat}:0<=Nl a m/\Nl a m<=m:=by
 unfold Nl;rw[decide_eq_true h,decide_eq_true (Q2 m)];have:a.toNat&&& m<=m:=Nat.and_le_right;simp only[NL];symm
def sE(x k:Int):0<=mx x k/\mx x k<2147483647:=by
 unfold mx;split
 .rename_i h;have a:(0:Int)<=x:=UG (Int.lt_trans (by decide) h.1);have:=IS (m:=1048575) (Int.ediv_nonneg a (UG (Int.pow_pos (by decide):(0:Int)<2 ^ (1+20*k).toNat)));have e:((1048575:Nat):Int)=1048575:=rfl;rw[e]at this;symm
 .exact⟨OZ _ (by decide),OT _ (by decide)⟩
def IT(q:Q (.int ((10:Int) ^ 60)) A):Wp (gK (.int 10) (.int 60)) A Q E:=C7 (by decide) q
def IU(x:Int)(l:0<=k)(A:PHp):Wp (E1 [.int x,.int k]) A (λv f=>v=.int (mx x k)/\f=A) NoX:=by
 unfold E1;have a:¬((10:Int) ^ 60<x/\x%2=1)->∀B,Wp (au (aD (eBin bH (eBin cG (eBin aS (eBin aS (ae 0) (eBin cG (eK (.int 7919)) (ae 1))) (eK (.int 1))) (eK (.int 48271))) (eK (.int 2147483647))) (gName 2))
  (au (aD (eBin bH (eBin cG (ae 2) (eBin aS (eBin bB (ae 2) (eK (.int 1009))) (eK (.int 69621)))) (eK (.int 2147483647))) (gName 2))
  (aC (eBin bH (eBin cG (ae 2) (eBin aS (eBin bB (ae 2) (eK (.int 4099))) (eK (.int 40014)))) (eK (.int 2147483647))))) [some (.int x),some (.int k),none]) B (λo g=>o=.rt (.int (mx x k))/\g=B) NoX:=λh B=>by
  walk_at "gb";refine w_mul (.inl (by decide)) ?_;walk_at "gb";refine w_mul (.inr (by decide)) ?_;walk_at "gb";refine w_mul (.inl ?_) ?_
  .have c:=OZ ((x+7919*k+1)*48271) (by decide:(2147483647:Int)≠0);have d:=OT ((x+7919*k+1)*48271) (by decide:(0:Int)<2147483647);symm
  walk_at "gb";refine w_mul (.inl ?_) ?_
  .have:=IQ x k;unfold lg at this;symm
  walk_at "gb";refine⟨?_,rfl⟩;unfold mx;rw[if_neg h];rfl
 walk_at "fn";walk_at "gb";refine IT ?_;generalize i:(10:Int) ^ 60=T at *;walk_at "gb";refine⟨λb=>?_,λb=>?_⟩
 .have c:T<x:=by simpa using b
  walk_at "gb";refine⟨λb=>?_,λb=>?_⟩
  .have d:x%2=1:=by simpa using b
   walk_at "gb";refine w_mul (.inl (by decide)) ?_;walk_at "gb";refine⟨?_,rfl⟩;unfold mx;rw[i,if_pos ⟨c,d⟩]
  .have d:¬x%2=1:=by simpa using b
   refine X7 ?_;dsimp only;refine af (a (λz=>d z.2) A) λo j e=>?_;obtain⟨rfl,rfl⟩:=e;exact⟨rfl,rfl⟩
 .have c:¬T<x:=by simpa using b
  refine⟨λz=>absurd z (by simp),λ_=>?_⟩;refine X7 ?_;dsimp only;refine af (a (λz=>c z.1) A) λo j e=>?_;obtain⟨rfl,rfl⟩:=e;exact⟨rfl,rfl⟩
def bF(x k:Int)(A:PHp)(a:autoParam (0<=k) au11._auto_1):E1 [.int x,.int k] A=.ok (.int (mx x k)) A:=by
 obtain⟨v,b,e,rfl,rfl⟩:=mB (IU x a A);exact e
set_option maxHeartbeats 2000000 in
def IV{P w r g dl h N l:Nat}(b:cM A P w r N ps L f g dl h)(i:G3 N ps)(j:A[l]?=some (.lst (c.map .int)))(m:c.length<=1000) :
 Wp (L6 [.ref A.length,.ref P,.ref l]) (A++[.ins 2 []]) (λv A'=>v=.non/\A<+:A'/\bz A' ⟨N,ps,L,f,c,P,w,r,g,dl,h,A.length⟩ ⟨1,[],[],[],0⟩) NoX:=by
 unfold L6;have n:=C6 j;have o:=C6 b.web.ob;have p:=C6 b.web.ls;have q:=C6 b.ob;have s:=C6 b.ls;have u:=C6 b.ld;have x:=C6 b.lk;walk_at "fn";walk_at "gb";simp only[putFld,Nat.reduceEqDiff,if_false,Qn,LR,Me,Nd,Uz];refine⟨trivial,?pre,⟨b.mono (A:=A) ?pr2,?ob,?fl,?tl,?sl,?ul,λe y=>(nomatch y),⟨q,o,p,s,u,x⟩,λa d=>(nomatch d),.nil,.nil,.nil,λa d=>(nomatch d),i,by simp⟩⟩
 case pre=>walk_at "pre"
 case pr2=>walk_at "pre"
 case ob=>
  show _=some (PO.ins 2 [(6,.ref P),(7,.ref (A.length+1)),(11,.tup (c.map .int)),(12,.int 1),(13,.ref (A.length+1+1)),(14,.ref (A.length+1+1+1)),(15,.ref (A.length+1+1+1+1))]);walk_at "st"
 case fl=>walk_at "st"
 case tl=>show(_:PHp)[A.length+1+1]?=some (PO.dT []);walk_at "st"
 case sl=>show(_:PHp)[A.length+1+1+1]?=some (PO.dT []);walk_at "st"
 case ul=>show(_:PHp)[A.length+1+1+1+1]?=some (PO.dT []);walk_at "st"
noncomputable def o9:Nat->Nf
 | 12=>"deed"
 | 13=>"laid"
 | 14=>"notlaid"
 | 15=>"late"
 | _=>"unknown"
def T8(a:plain d=true):Wp (au (br (tOr (av (eBin cQ (ae 3) (ae 1))) (tNot (av (ae 4)))) (aC (eK (.str "odd"))) sPass) (aC (ae 2)) [some (.ref G),some d,some (.str w),some d,some (.bl true),none]) B (λo e=>o=.rt (.str w)/\e=B) NoX:=by
 have b:bJ d d=true:=(pZ d d a).mpr rfl;walk_at "gb";refine iU a a ?_;rw[b];walk_at "gb";exact⟨rfl,rfl⟩
def xG(f:plain d=true)(l:A[G]?=some (.ins 2 fs)){R:PHp->Prop}{RX:Nat->PHp->Prop}
 (i:Wp (L7 [.ref G,d]) A (λv g=>v=.non/\R g) (λk v g=>(k=12\/k=13\/k=14\/k=15\/k=16)/\v=d/\RX k g)) :
 Wp (J4 [.ref G,d]) A (λv g=>(v=.str "none"/\R g)\/∃k b,(k=12\/k=13\/k=14\/k=15\/k=16)/\RX k b/\b<+:g/\v=.str (o9 k)) NoX:=by
 unfold J4;walk_at "fn";walk_at "gb";refine HW ?_;walk_at "gb";refine bX i (λv b a=>?_) (λk v b a=>?_)
 .obtain⟨rfl,e⟩:=a;refine af (T8 f) λo h a=>?_;obtain⟨rfl,rfl⟩:=a;exact .inl ⟨rfl,e⟩
 .obtain⟨j,rfl,e⟩:=a;rcases j with rfl | rfl | rfl | rfl | rfl
  .refine⟨by decide,j7 rfl ?_⟩;walk_at "gb";rw[show cf 12 16=false from rfl];dsimp only[jv,List.set];refine af (T8 f) λo h a=>?_;obtain⟨rfl,rfl⟩:=a;exact .inr ⟨12,b,.inl rfl,e,Lw _ _,rfl⟩
  .refine⟨by decide,P8 rfl (j7 rfl ?_)⟩;walk_at "gb";rw[show cf 13 14=false from rfl];dsimp only[jv,List.set];refine af (T8 f) λo h a=>?_;obtain⟨rfl,rfl⟩:=a;exact .inr ⟨13,b,.inr (.inl rfl),e,Lw _ _,rfl⟩
  .refine⟨by decide,P8 rfl (P8 rfl (j7 rfl ?_))⟩;walk_at "gb";rw[show cf 14 13=false from rfl];dsimp only[jv,List.set];refine af (T8 f) λo h a=>?_;obtain⟨rfl,rfl⟩:=a;exact .inr ⟨14,b,.inr (.inr (.inl rfl)),e,Lw _ _,rfl⟩
  .refine⟨by decide,P8 rfl (P8 rfl (P8 rfl (j7 rfl ?_)))⟩;walk_at "gb";rw[show cf 15 14=false from rfl];dsimp only[jv,List.set];refine af (T8 f) λo h a=>?_;obtain⟨rfl,rfl⟩:=a;exact .inr ⟨15,b,.inr (.inr (.inr (.inl rfl))),e,Lw _ _,rfl⟩
  .refine⟨by decide,P8 rfl (P8 rfl (P8 rfl (P8 rfl (j7 rfl ?_))))⟩;walk_at "gb";rw[show cf 16 12=false from rfl];dsimp only[jv,List.set];refine af (T8 f) λo h a=>?_;obtain⟨rfl,rfl⟩:=a;exact .inr ⟨16,b,.inr (.inr (.inr (.inr rfl))),e,Lw _ _,rfl⟩
def vSay_cases(p:Int×Int)(ch:List Int):X0 c S p ch=0\/X0 c S p ch=12\/X0 c S p ch=13\/X0 c S p ch=14\/X0 c S p ch=15\/X0 c S p ch=16:=by
 unfold X0;split
 .split
  .split
   .simp
   .split<;>simp
  .simp
 .simp
def vLay_cases(p:Int×Int):d6 c S p=0\/d6 c S p=12\/d6 c S p=13:=by
 unfold d6;split
 .split<;>simp
 .simp
def IW(p:Int×Int)(ch:List Int):plain (u6 p ch)=true:=by
 show([PV.str "say",pv p,.tup (ch.map .int)].all Y8)=true;have:Y8 (.tup (ch.map .int))=true:=by
  show(ch.map PV.int).all iB=true;rw[List.all_map];simp[Og,iB]
 simp[this,pv,Y8,iB]
def IY(p:Int×Int):plain (u5 p)=true:=by
 show([PV.str "lay",pv p].all Y8)=true;simp[pv,Y8,iB]
def IZ(H:bz A c S)(p:Int×Int)(h:ch.length<100)(i:S.m<2000):Wp (J4 [.ref c.G,u6 p ch]) A
 (λv b=>(v=.str "none"/\X0 c S p ch=0/\∃a,bz b c (Q8 S p ch a)/\cK c S (Q8 S p ch a) A b)\/(v=.str (o9 (X0 c S p ch))/\X0 c S p ch≠0/\A<+:b)) NoX:=by
 refine af (xG (R:=λb=>X0 c S p ch=0/\∃a,bz b c (Q8 S p ch a)/\cK c S (Q8 S p ch a) A b) (RX:=λk b=>k=X0 c S p ch/\k≠0/\A<+:b) (IW p ch) H.ob (bX (IF H p h i) (λv b f=>?_) λk v b f=>?_)) λv b f=>?_
 .obtain⟨rfl,e,a,g,st⟩:=f;exact⟨rfl,e,a,g,st⟩
 .obtain⟨d,e,rfl,p1⟩:=f;refine⟨?_,rfl,d,e,p1⟩;rcases vSay_cases (c:=c) (S:=S) p ch with z | z | z | z | z | z
  .exact absurd (d.trans z) e
  .exact .inl (d.trans z)
  .exact .inr (.inl (d.trans z))
  .exact .inr (.inr (.inl (d.trans z)))
  .exact .inr (.inr (.inr (.inl (d.trans z))))
  .exact .inr (.inr (.inr (.inr (d.trans z))))
 .rcases f with⟨rfl,e,a,g,st⟩ | ⟨k,l,_,⟨d,e,p1⟩,j,rfl⟩
  .exact .inl ⟨rfl,e,a,g,st⟩
  .exact .inr ⟨by rw[d],by rw[<-d];exact e,p1.trans j⟩
def Ja(H:bz A c S)(p:Int×Int):Wp (J4 [.ref c.G,u5 p]) A
 (λv a=>(v=.str "none"/\d6 c S p=0/\bz a c (b6 S p)/\cK c S (b6 S p) A a)\/(v=.str (o9 (d6 c S p))/\d6 c S p≠0/\A<+:a)) NoX:=by
 refine af (xG (R:=λa=>d6 c S p=0/\bz a c (b6 S p)/\cK c S (b6 S p) A a) (RX:=λk a=>k=d6 c S p/\k≠0/\A<+:a) (IY p) H.ob (bX (IE H p) (λv a e=>?_) λk v a e=>?_)) λv a e=>?_
 .obtain⟨rfl,b,f,st⟩:=e;exact⟨rfl,b,f,st⟩
 .obtain⟨d,b,rfl,rfl⟩:=e;refine⟨?_,rfl,d,b,LO _⟩;rcases vLay_cases (c:=c) (S:=S) p with z | z | z
  .exact absurd (d.trans z) b
  .exact .inl (d.trans z)
  .exact .inr (.inl (d.trans z))
 .rcases e with⟨rfl,b,f,st⟩ | ⟨k,h,_,⟨d,b,p1⟩,g,rfl⟩
  .exact .inl ⟨rfl,b,f,st⟩
  .exact .inr ⟨by rw[d],by rw[<-d];exact b,p1.trans g⟩
def Jb(N:Nat)(i:Nat):((S4 N).map PV.int)[i]?=((Mo N).map λ(k:Nat)=>PV.int (k:Int))[i]?:=by unfold S4;rw[LM];rfl
theorem xH(f:Int×Int->PV):∀a:List (Int×Int),gy (a.map λp=>.tup [pv p,f p])=some (a.map λp=>(l2 p,f p))
 | []=>rfl
 | p::r=>by
   show(Q1 _).bind _=_;rw[xH f r];rfl
theorem xI:∀(m a:DT),(m.map (·.1)).Nodup->(∀k∈m.map (·.1),k∉a.map (·.1))->m.foldl (λa p=>V6 a p.1 p.2) a=a++m
 | [],a,_,_=>by simp
 | p::r,a,d,h=>by
   have b:=Nq.mp d;show r.foldl _ (V6 a p.1 p.2)=_;rw[m5 (h p.1 (by simp)),xI r _ b.2 λk c=>?_]
   .simp
   .rw[LZ,LY];rintro(z | z)
    .exact h k (LC _ c) z
    .have:k=p.1:=by simpa using z
     rw[this]at c;exact b.1 c
def Jc{ps:List (Int×Int)}(e:ps.Nodup)(f:Int×Int->PV):(ps.map λp=>(l2 p,f p)).foldl (λc p=>V6 c p.1 p.2) []=ps.map λp=>(l2 p,f p):=by
 rw[xI _ [] ?_ (λ_ _ z=>nomatch z)]
 .rfl
 .rw[LM];exact Sn.map _ (λa b d z=>d (t9 z)) e
def Jd(h:Wp (e σ) A (λx A1=>∃n ns,x=.ref n/\A1[n]?=some (.lst (Qz .int ns))/\(∀x∈ns,0<=x/\x<=5)/\Q (.ref A1.length) (A1++[.lst ((setL ns).map .int)])) E):Wp (l7 e σ) A Q E:=
 B6 (af h λx A1 a=>by
  obtain⟨n,ns,b,c,d,q⟩:=a;subst b;refine B6 (hV c ?_);rw[O8];exact C7 d q)
def xJ(kn:(S.says.map (·.1)).Nodup)(q:Int×Int):rowsAt (Q8 S p ch a) q=if q=p then rowsAt S q++[(S.now,ch)] else rowsAt S q:=by
 unfold rowsAt S5;by_cases c:(S5 S p).isSome=true
 .have e:(Q8 S p ch a).says=S.says.map (N9 S p ch):=by unfold Q8;simp only;rw[if_pos c]
  rw[e];have lk:∀(l:List ((Int×Int)×Nat×List (Int×List Int))),look (l.map (N9 S p ch)) q=(look l q).map λe=>if q=p then(e.1,e.2++[(S.now,ch)]) else e:=by
   intro l;induction l with
   | nil=>rfl
   | cons x r ih=>
     show(if(N9 S p ch x).1=q then some (N9 S p ch x).2 else look (r.map (N9 S p ch)) q)=(if x.1=q then some x.2 else look r q).map _;rw[(j9 x).1];by_cases d:x.1=q
     .rw[if_pos d,if_pos d];unfold N9;by_cases b:q=p
      .rw[if_pos (d.trans b),Rv,if_pos b]
      .rw[if_neg (λz=>b (d.symm.trans z)),Rv,if_neg b]
     .rw[if_neg d,if_neg d];exact ih
  rw[lk];by_cases b:q=p
  .subst b;rw[if_pos rfl];cases f:look S.says q with
   | none=>unfold S5 at c;rw[f]at c;cases c
   | some e=>simp
  .rw[if_neg b];cases look S.says q<;>simp[b]
 .have g:S5 S p=none:=by simpa using c
  have e:(Q8 S p ch a).says=S.says++[(p,a,[(S.now,ch)])]:=by unfold Q8;simp only;rw[if_neg c]
  rw[e,xx];by_cases b:q=p
  .subst b;have:look S.says q=none:=g;rw[this,if_pos rfl,xy,if_pos rfl];rfl
  .rw[if_neg b,xy,if_neg (Na b)];cases look S.says q<;>rfl
def Je{a:Type}{W:List ((Int×Int)×a)}(h:p∈W.map (·.1)):∃e,look W p=some e:=by
 cases b:look W p with
 | none=>exact absurd h (look_none.mp b)
 | some e=>exact⟨e,rfl⟩
def Jf{A:PHp}{a b:Nat}(e:A[a]?=some o)(f:A[b]?=some d)(c:o≠d):a≠b:=λz=>c (by rw[z,f]at e;exact(Mf e).symm)
theorem xK:∀{ps:List (Int×Int)},ps.Pairwise (λp q=>p.1<q.1\/(p.1=q.1/\p.2<q.2))->srt ps=ps
 | [],_=>rfl
 | p::r,h=>by
   have k:=MJ.mp h;show d4 gk p (srt r)=p::r;rw[xK k.2];cases r with
   | nil=>rfl
   | cons q r=>
     have a:=k.1 q (by simp);have:gk q p=false:=by
      unfold gk l2;simp only[D3];have b:¬q.1<p.1:=by symm
      have c:¬(q.1=p.1/\q.2<p.2):=by symm
      by_cases e:q.1=p.1<;>simp_all<;>symm
     unfold d4;rw[this];rfl
noncomputable def ordT(c:Int)(N:Nat):List (List Int):=(Mo N).map λ(k:Nat)=>[mx c (20+k),(k:Int)]
noncomputable def k8(c:Int)(N:Nat):List Int:=(D9 D3 (ordT c N)).map λt=>t.getD 1 0
def Jg(c:Int)(N:Nat):(k8 c N).Perm (S4 N):=by
 unfold k8;refine((J2 _ _).map _).trans ?_;unfold ordT S4;rw[LM];exact TX _
noncomputable def ringL(c:Int)(N:Nat):List (Int×Int):=(Mo N).map λ(k:Nat)=>((k8 c N).getD (if k=0 then N - 1 else k - 1) 0,(k8 c N).getD k 0)
def Jh:∀t∈ordT c N,t≠[]:=λt a=>by
 unfold ordT at a;obtain⟨k,_,rfl⟩:=Lv.mp a;simp
def sF(b:k<N):∃u,atI ((D9 D3 (ordT c N)).map λt=>PV.tup (t.map .int)) (k:Int)=some (.tup [.int u,.int ((k8 c N).getD k 0)]):=by
 have d:(D9 D3 (ordT c N)).length=N:=by rw[(J2 _ _).length_eq];simp[ordT]
 have a:(D9 D3 (ordT c N))[k]'(by symm)∈ordT c N:=(J2 D3 (ordT c N)).mem_iff.mp (Oa _);rw[GW (by rw[Lo];symm)];unfold k8;have e:((D9 D3 (ordT c N)).map λt=>t.getD 1 0).getD k 0=((D9 D3 (ordT c N))[k]'(by symm)).getD 1 0:=by
  simp[show k<(D9 D3 (ordT c N)).length by symm]
 rw[e,QT];generalize(D9 D3 (ordT c N))[k]'(by symm)=t at a;unfold ordT at a;obtain⟨j,_,rfl⟩:=Lv.mp a;exact⟨_,rfl⟩
def Ji(d:2<=N)(e:k<N):∃u,atI ((D9 D3 (ordT c N)).map λt=>PV.tup (t.map .int)) ((k:Int) - 1)=some (.tup [.int u,.int ((k8 c N).getD (if k=0 then N - 1 else k - 1) 0)]):=by
 have b:(D9 D3 (ordT c N)).length=N:=by rw[(J2 _ _).length_eq];simp[ordT]
 by_cases h:k=0
 .subst h;obtain⟨u,a⟩:=sF (c:=c) (N:=N) (k:=N - 1) (by symm);refine⟨u,?_⟩;rw[if_pos rfl,<-a];unfold atI ixN;rw[if_neg (by symm),if_pos (by rw[Lo];symm),if_pos (by symm),if_pos (by rw[Lo];symm)];rw[Lo,b];congr 2;symm
 .obtain⟨u,a⟩:=sF (c:=c) (N:=N) (k:=k - 1) (by symm);refine⟨u,?_⟩;rw[if_neg h,<-a];congr 1;symm
def Jj{N:Nat}(m:2<=N){h:Int}(i:0<=h/\h<N):∃g,(g,h)∈ringL c N/\good N (g,h):=by
 have b:=Jg c N;have n:(k8 c N).length=N:=by rw[b.length_eq,aT]
 have l:(k8 c N).Nodup:=b.nodup_iff.mpr (Hz N);have f:∀k (d:k<N),(k8 c N).getD k 0=(k8 c N)[k]'(by symm):=λk d=>by simp[show k<(k8 c N).length by symm]
 have g:∀k,k<N->0<=(k8 c N).getD k 0/\(k8 c N).getD k 0<N:=λk d=>by
  rw[f k d];exact mem_hands.mp (b.mem_iff.mp (Oa _))
 obtain⟨k,d,e⟩:=MX.mp (b.mem_iff.mpr (mem_hands.mpr i));have a:k<N:=by symm
 have j:(if k=0 then N - 1 else k - 1)<N:=by split<;>symm
 refine⟨(k8 c N).getD (if k=0 then N - 1 else k - 1) 0,Lv.mpr ⟨k,Nn.mpr a,by rw[f k a,e]⟩,g _ j,i,λz=>?_⟩;simp only at z;rw[f _ j,<-e]at z;have:=(SH l).mp z;split at this<;>symm
def Jk{N:Nat}(e:N<=6):Wp (O2 [some (.int c),some (.int N),none,none,none,none,none,none]) A (λv b=>v=.ref A.length/\b=A++[.lst ((ordT c N).map λt=>.tup (t.map .int))]) NoX:=by
 unfold O2;refine U1 (l:=(Mo N).map λ(k:Nat)=>PV.int (k:Int)) (λa=>∃x,a=[x,some (.int c)]) (λ_=>true) (λv=>match v with | .int k=>.tup [.int (mx c (20+k)),.int k] | _=>.non) ?_;walk_at "go";refine⟨by simp,by simp;exact aH (by symm),⟨_,rfl⟩,λi=>oP _ _,?_,rfl,?_⟩
 .rintro v a d ⟨x,rfl⟩;obtain⟨k,f,rfl⟩:=Lv.mp d;walk_at "go";refine⟨rfl,⟨_,rfl⟩,?_⟩;walk_at "go";refine⟨rfl,rfl,λ_=>?_⟩;walk_at "go";refine w_eq (bF _ _ _) ?_;walk_at "go";exact⟨rfl,rfl⟩
 .rw[MQ.mpr (by simp)];unfold ordT;simp[LM,Og]
def dP{N q:Nat}(d:2<=N)(j:N<=6)(m:A[q]?=some (.lst ((D9 D3 (ordT c N)).map λt=>.tup (t.map .int)))) :
 Wp (O3 [some (.int c),some (.int N),some (.ref q),none,none,none,none,none]) A (λv e=>v=.ref A.length/\e=A++[.lst (aG (ringL c N))]) NoX:=by
 unfold O3;refine U1 (l:=(Mo N).map λ(k:Nat)=>PV.int (k:Int)) (λb=>∃x,b=[x,some (.ref q)]) (λ_=>true) (λv=>match v with | .int k=>pv ((k8 c N).getD (if k=0 then N - 1 else k.toNat - 1) 0,(k8 c N).getD k.toNat 0) | _=>.non) ?_;walk_at "go";refine⟨by simp,by simp;exact aH (by symm),⟨_,rfl⟩,λi=>oP _ _,?_,rfl,?_⟩
 .rintro v b f ⟨x,rfl⟩;obtain⟨k,a,rfl⟩:=Lv.mp f;rw[Nn]at a;obtain⟨u,n⟩:=sF (c:=c) a;obtain⟨o,g⟩:=Ji (c:=c) d a;walk_at "go";refine⟨rfl,⟨_,rfl⟩,?_⟩;walk_at "go";refine⟨rfl,rfl,λ_=>?_⟩;walk_at "go";refine⟨rfl,?_⟩;by_cases h:k=0
  .subst h;rfl
  .have:¬(k:Int)=0:=by symm
   simp[pv,h,this]
 .rw[MQ.mpr (by simp)];unfold ringL;simp only[aG,LM];congr 3;refine NK λk a=>?_;by_cases h:k=0
  .subst h;rfl
  .have:¬(k:Int)=0:=by symm
   simp[pv,h,this]
structure PG(N:Nat)(ps:List (Int×Int)):Prop where
 good:∀p∈ps,good N p
 nd:ps.Nodup
def PG.put(h:PG N ps)(g:Ws.good N (a,b))(c:(a,b)∉ps):PG N (ps++[(a,b)]):=by
 refine⟨λp d=>?_,?_⟩
 .rcases LY.mp d with z | z
  .exact h.good p z
  .simp_all
 .rw[MF];exact⟨h.nd,by simp,λx f y i e=>c (by simp_all)⟩
def xM(ps:List (Int×Int))(p:Int×Int):aG ps++[pv p]=aG (ps++[p]):=by simp[aG]
def eJ(ps:List (Int×Int)):(aG ps).length=ps.length:=by simp[aG]
structure PD(c:Int)(N i j:Nat)(ps:List (Int×Int)):Prop extends PG N ps where
 len:ps.length<=i*N+j
 lt:∀p∈ps,p.1<i\/(p.1=i/\p.2<j)
 up:ps.Pairwise (λp q=>p.1<q.1\/(p.1=q.1/\p.2<q.2))
 has:∀p∈ringL c N,Ws.good N p->(p.1<i\/(p.1=i/\p.2<j))->p∈ps
abbrev iq(c:Int)(N o r f:Nat)(x y z:Option PV):PSt:=[some (.int c),some (.int N),some (.ref o),some (.ref r),some (.ref f),x,y,z]
def Jl(hN:N<=6)(hi:i<N)(pre:A<+:B)(hf:A.length<=f)(fr:r≠f)(hl:B[f]?=some (.lst (aG ps)))(hr:B[r]?=some (.lst (aG (ringL c N))))(D:PD c N i 0 ps)(x y:Option PV) :
 Wp (O4 (iq c N o r f (some (.int i)) x y)) B (λq E=>∃l G H,q=.nx (iq c N o r f (some (.int i)) G H)/\A<+:E/\E[f]?=some (.lst (aG l))/\E[r]?=some (.lst (aG (ringL c N)))/\PD c N (i+1) 0 l) NoX:=by
 unfold O4;refine wO (λj Q E=>∃l G H,Q=iq c N o r f (some (.int i)) G H/\A<+:E/\E[f]?=some (.lst (aG l))/\E[r]?=some (.lst (aG (ringL c N)))/\PD c N i j l) ?_;unfold iq;walk_at "go";refine⟨0,N,rfl,⟨ps,_,_,rfl,pre,hl,hr,D⟩,?_,?_⟩
 .rintro j Q L hj ⟨l,G,H,rfl,p1,s,u,d⟩;have hb:i*N<=5*6:=Ub (by symm) hN;have Y:(aG l).length<LIM:=by rw[eJ];exact bg (by have:=d.len;symm)
  have app:PD c N i j l->(i:Int)≠j->PD c N i (j+1) (l++[((i:Int),(j:Int))]):=λd m=>by
   refine⟨d.toPG.put ⟨by symm,by symm,m⟩ (λz=>by rcases d.lt _ z with h | h<;>simp at h),by have:=d.len;rw[LR];simp;symm,λp n=>?_,?_,λp n C v=>?_⟩
   .rcases LY.mp n with z | z
    .rcases d.lt p z with h | h
     .exact .inl h
     .exact .inr ⟨h.1,by have:=h.2;symm⟩
    .rw[Ls]at z;subst z;exact .inr ⟨rfl,by simp;symm⟩
   .rw[TL];refine⟨d.up,by simp,λp n q hq=>?_⟩;rw[Ls]at hq;subst hq;exact d.lt p n
   .by_cases e:p=((i:Int),(j:Int))
    .rw[e];simp
    .refine ND _ (d.has p n C ?_);obtain⟨a,b⟩:=p;simp at e v ⊢;symm
  have skip:PD c N i j l->(good N ((i:Int),(j:Int))->((i:Int),(j:Int))∉ringL c N)->PD c N i (j+1) l:=λd m=>by
   refine⟨d.toPG,by have:=d.len;symm,λp n=>?_,?_,λp n C v=>d.has p n C ?_⟩
   .rcases d.lt p n with h | h
    .exact .inl h
    .exact .inr ⟨h.1,by have:=h.2;symm⟩
   .exact d.up
   .have:p≠((i:Int),(j:Int)):=λz=>by subst z;exact m C n
    obtain⟨a,b⟩:=p;simp at this v ⊢;symm
  walk_at "go";unfold aZ;walk_at "go";refine w_mul (.inl (by symm)) ?_;walk_at "go";refine w_eq (bF _ _ _) ?_;walk_at "go";simp only[Int.zero_add];have nx:∀I w,A<+:I->I[f]?=some (.lst (aG w))->I[r]?=some (.lst (aG (ringL c N)))->PD c N i (j+1) w->∃l G H,[some (PV.int c),some (.int N),some (.ref o),some (.ref r),some (.ref f),some (.int i),some (.int j),some (.int (mx c (40+6*i+j)))]=[some (PV.int c),some (.int N),some (.ref o),some (.ref r),some (.ref f),some (.int i),G,H]/\A<+:I/\I[f]?=some (.lst (aG l))/\I[r]?=some (.lst (aG (ringL c N)))/\PD c N i (j+1) l:=λI w J O T h4=>⟨w,_,_,rfl,J,O,T,h4⟩;have U:((i:Int)≠j)->A<+:L.set f (.lst (aG l++[PV.tup [.int i,.int j]]))/\(L.set f (.lst (aG l++[PV.tup [.int i,.int j]])))[f]?=some (.lst (aG (l++[((i:Int),(j:Int))])))/\(L.set f (.lst (aG l++[PV.tup [.int i,.int j]])))[r]?=some (.lst (aG (ringL c N))):=λ_=>⟨X5 p1 hf,by rw[aE s,<-xM];rfl,by rw[C5 fr];exact u⟩;refine⟨λJ=>?_,λJ=>?_⟩
  .have m:(i:Int)≠j:=by simpa using J
   obtain⟨s1,s2,s3⟩:=U m;walk_at "go";refine⟨λO=>?_,λO=>?_⟩
   .walk_at "go";exact nx _ _ s1 s2 s3 (app d m)
   .walk_at "go";refine⟨λT=>?_,λT=>?_⟩
    .walk_at "go";exact nx _ _ s1 s2 s3 (app d m)
    .walk_at "go";exact nx _ _ p1 s u (skip d λ_=>by simpa using O)
  .walk_at "go";exact nx _ _ p1 s u (skip d λg=>absurd (by simpa using J) g.2.2)
 .rintro Q L ⟨l,G,H,rfl,p1,s,u,d⟩;refine⟨l,_,_,rfl,p1,s,u,d.toPG,by have:=d.len;rw[UH];symm,λp n=>?_,d.up,λp n C v=>d.has p n C ?_⟩
  .rcases d.lt p n with h | h
   .left;symm
   .left;symm
  .have:=C.2.1.2;have:=C.2.1.1;simp at v;symm
def Jm{N:Nat}(Y:2<=N)(w:N<=6):Wp (M5 [.int c,.int N]) A (λv A'=>A<+:A'/\∃u r,v=.ref r/\A'[r]?=some (.lst (aG u))/\G3 N u/\srt u=u/\u.length<=36/\(∀h:Int,0<=h/\h<N->∃g,(g,h)∈u)/\A.length<=r) NoX:=by
 unfold M5;walk_at "fn";walk_at "go";refine af (Jk w) λv A1 l=>?_;obtain⟨H,I⟩:=l;subst H;subst I;have hs:l5 ((ordT c N).map λt=>.tup (t.map .int)) (A++[.lst ((ordT c N).map λt=>.tup (t.map .int))])=.ok ((D9 D3 (ordT c N)).map λt=>.tup (t.map .int)) (A++[.lst ((ordT c N).map λt=>.tup (t.map .int))]):=w8 (by simp[ordT];symm) Jh;refine⟨_,_,_,rfl,aq,hs,?_⟩;have D:(A++[PO.lst ((ordT c N).map λt=>PV.tup (t.map .int))]++[.lst ((D9 D3 (ordT c N)).map λt=>.tup (t.map .int))])[(A++[PO.lst ((ordT c N).map λt=>PV.tup (t.map .int))]).length]?=some (.lst ((D9 D3 (ordT c N)).map λt=>.tup (t.map .int))):=aq;have a:A<+:A++[PO.lst ((ordT c N).map λt=>PV.tup (t.map .int))]++[.lst ((D9 D3 (ordT c N)).map λt=>.tup (t.map .int))]:=D0 (Lw _ _);generalize hB:A++[PO.lst ((ordT c N).map λt=>PV.tup (t.map .int))]++[.lst ((D9 D3 (ordT c N)).map λt=>.tup (t.map .int))]=B at D a ⊢;generalize(A++[PO.lst ((ordT c N).map λt=>PV.tup (t.map .int))]).length=o at D ⊢;clear hB hs;walk_at "go";refine af (dP Y w D) λv A1 l=>?_;obtain⟨H,I⟩:=l;subst H;subst I;walk_at "go";have J:(B++[PO.lst (aG (ringL c N))]++[.lst []])[B.length]?=some (.lst (aG (ringL c N))):=ak aq;have O:(B++[PO.lst (aG (ringL c N))]++[.lst []])[(B++[PO.lst (aG (ringL c N))]).length]?=some (.lst (aG [])):=aq;have j:A<+:B++[PO.lst (aG (ringL c N))]++[.lst []]:=D0 (D0 a);have m:A.length<=(B++[PO.lst (aG (ringL c N))]).length:=by rw[LR];have:=Bq a;symm
 have n:B.length≠(B++[PO.lst (aG (ringL c N))]).length:=by simp
 generalize B++[PO.lst (aG (ringL c N))]++[.lst []]=C at J O j ⊢;generalize(B++[PO.lst (aG (ringL c N))]).length=f at O m n ⊢;generalize B.length=r at J n ⊢;have L:Wp (O5 (iq c N o r f none none none)) C (λq s=>∃b x y z,q=.nx (iq c N o r f x y z)/\A<+:s/\s[f]?=some (.lst (aG b))/\PD c N N 0 b) NoX:=by
  unfold O5;refine wO (λi σ s=>∃b x y z,σ=iq c N o r f x y z/\A<+:s/\s[f]?=some (.lst (aG b))/\s[r]?=some (.lst (aG (ringL c N)))/\PD c N i 0 b) ?_;unfold iq;walk_at "go";refine⟨0,N,rfl,⟨[],_,_,_,rfl,j,O,J,⟨⟨by simp,by simp⟩,by simp,by simp,.nil,λp hp E h=>?_⟩⟩,?_,?_⟩
  .have:=E.1.1;have:=E.2.1.1;simp at h;symm
  .rintro i σ B1 hi ⟨b,x,y,z,rfl,p1,d,G,e⟩;walk_at "go";unfold ba;rw[show(0:Int)+i=i by symm];refine af (Jl w hi p1 m n d G e y z) λo B2 l=>?_;obtain⟨rs,x',y',ho,p2,Q,T,D2⟩:=l;subst ho;exact⟨rs,_,_,_,rfl,p2,Q,T,D2⟩
  .rintro σ B1 ⟨b,x,y,z,rfl,p1,d,G,e⟩;exact⟨b,_,_,_,rfl,p1,d,e⟩
 refine af L λq s l=>?_;obtain⟨b,x,y,z,D,p1,d,e⟩:=l;subst D;unfold iq;walk_at "go";have U:b.length<=36:=by
  have:=e.len;have:N*N<=6*6:=Ub w w;symm
 refine⟨b,f,rfl,d,⟨by symm,by symm,e.good,e.nd,by symm⟩,xK e.up,U,λh hh=>?_,m⟩;obtain⟨g,hp,E⟩:=Jj (c:=c) Y hh;exact⟨g,e.has _ hp E (.inl E.1.2)⟩
def sG(h:A[n]?=some (.dS m))(q:b m A):Wp (jw n) A b E:=w_eq (a:=m) (by unfold jw;rw[h]) q
def Jn(h:Wp (e1 σ) A (λx b=>Wp (e2 σ) b (λk a=>∃n i m v,x=.ref n/\k=.str i/\a[n]?=some (.dS m)/\r9 m i=some v/\Q v a) E) E):Wp (eSGet e1 e2 σ) A Q E:=
 B6 (af h λ_ _ c=>B6 (af c λ_ _ ⟨_,_,_,_,d,e,f,g,q⟩=>by subst d;subst e;exact B6 (sG f (by rw[g];exact q))))
def Jo(h:Wp (e3 σ) A (λv b=>Wp (e1 σ) b (λx c=>Wp (e2 σ) c (λk a=>∃n i m,x=.ref n/\k=.str i/\a[n]?=some (.dS m)/\m.length<LIM/\QF (.nx σ) (a.set n (.dS (gM m i v)))) E) E) E):Wp (dH e1 e2 e3 σ) A QF E:=
 B6 (af h λ_ _ d=>B6 (af d λ_ _ e=>B6 (af e λ_ _ ⟨_,_,_,f,g,j,l,q⟩=>by subst f;subst g;exact B6 (sG j (C7 l q)))))
theorem xN{s:SD}{m:DT}(P:Nat->PSt->PHp->Prop)(hs:∀(i:Nat) p σ B,m[i]?=some p->P i σ B->Wp (g (.tup [.tup (p.1.map .int),p.2]) σ) B (λb e=>Wp (s b) e (λo c=>∃a,o=.nx a/\P (i+1) a c) E) E) :
 ∀(k i:Nat),m.length=i+k->∀σ B,P i σ B->Wp (nG g s (m.drop i) σ) B (λd l=>P m.length d l) E
 | 0,i,f,σ,B,h=>by
   rw[List.drop_of_length_le (by symm)];exact hJ (by rw[f];exact h)
 | k+1,i,f,σ,B,h=>by
   have j:i<m.length:=by symm
   rw[Oq j];refine B6 (af (hs i m[i] σ B (LB j) h) λb e n=>B6 (af n λo c ⟨a,q,r⟩=>?_));subst q;exact xN P hs k (i+1) (by symm) a c r
def Jp(P:Nat->PSt->PHp->Prop)(h:Wp (d σ) A (λx A1=>∃n m,x=.ref n/\A1[n]?=some (.dT m)/\P 0 σ (A1.set n .hid)/\(∀σ B,P m.length σ B->B[n]?=some .hid/\QF (.nx σ) (B.set n (.dT m)))/\
 ∀(i:Nat) p σ B,m[i]?=some p->P i σ B->Wp (g (.tup [.tup (p.1.map .int),p.2]) σ) B (λc e=>Wp (s c) e (λo f=>∃b,o=.nx b/\P (i+1) b f) E) E) E):Wp (qg d g s σ) A QF E:=
 B6 (af h λx A1 j=>by
  obtain⟨n,m,l,q,r,he,hs⟩:=j;subst l;refine B6 (Z7 q (B6 (w_eq (a:=()) (A':=A1.set n .hid) rfl (B6 ?_))));refine af (xN P hs m.length 0 (by symm) σ _ r) λb B u=>?_;obtain⟨v,w⟩:=he b B u;exact B6 (w_eq (a:=()) (A':=B) (by unfold qf;rw[v]) (B6 (w_eq (a:=()) rfl w))))
def Jq(h:Wp (e1 σ) A (λx A1=>∃n ns,x=.ref n/\A1[n]?=some (.lst (Qz .int ns))/\Wp (e2 σ) A1 (λy b=>∃k a,y=.ref k/\b[k]?=some (.lst (Qz .int a))/\(ns.length<900/\a.length<900)/\Q (.bl (X6 ns a)) b) E) E):Wp (lI e1 e2 σ) A Q E:=
 B6 (af h λx A1 c=>by
  obtain⟨n,ns,d,e,f⟩:=c;subst d;refine B6 (hV e (B6 (af f λy b g=>?_)));obtain⟨k,a,i,j,l,q⟩:=g;subst i;refine B6 (hV j ?_);rw[O8,O8];exact C7 l q)
theorem pd:∀(r l:List Int),l.Nodup->(r.foldl metI l).Nodup/\∀x,x∈r.foldl metI l↔x∈l\/x∈r
 | [],l,h=>⟨h,λx=>by simp⟩
 | a::r,l,h=>by
   rw[Tq];rcases metI_cases l a with⟨b,e⟩ | ⟨b,e⟩
   .rw[e];obtain⟨c,d⟩:=pd r l h;refine⟨c,λx=>?_⟩;rw[d,Lu];exact⟨λz=>z.elim .inl λz=>.inr (.inr z),λz=>z.elim .inl λz=>z.elim (λz=>.inl (by rw[z];exact b)) .inr⟩
   .rw[e];have g:(l++[a]).Nodup:=by
     rw[MF];exact⟨h,by simp,λx i y f z=>by simp at f;exact b (by rw[<-f,<-z];exact i)⟩
    obtain⟨c,d⟩:=pd r _ g;refine⟨c,λx=>?_⟩;rw[d,LY,Ls,Lu,or_assoc]
def Jr(h:∀x∈ns,x∈b):X6 ns b=b.all λx=>decide (x∈ns):=by
 obtain⟨j,f⟩:=pd ns [] OK;obtain⟨l,g⟩:=pd b [] OK;have sub:∀x∈ns.foldl metI [],x∈b.foldl metI []:=λx c=>(g x).mpr (.inr (h x (((f x).mp c).resolve_left (by simp))));have a:(ns.all λx=>decide (x∈b))=true:=by simpa using h
 unfold X6;rw[a,Bool.and_true,Bool.eq_iff_iff,decide_eq_true_eq,LV];unfold eP;refine⟨λe x c=>?_,λq=>?_⟩
 .by_cases z:x∈ns.foldl metI []
  .simpa using((f x).mp z).resolve_left (by simp)
  .have:=List.Nodup.length_le_of_subset (Nq.mpr ⟨z,j⟩) (l₂:=b.foldl metI []) λy i=>by
    rcases Lu.mp i with rfl | i
    .exact(g y).mpr (.inr c)
    .exact sub y i
   simp at this;symm
 .have d:∀x∈b.foldl metI [],x∈ns.foldl metI []:=λx c=>(f x).mpr (.inr (by simpa using q x (((g x).mp c).resolve_left (by simp))));exact Nat.le_antisymm (j.length_le_of_subset sub) (l.length_le_of_subset d)
def sH{A:PHp}{R:PV->Prop}(h:A[n]?=some (.dS m))(e:r9 m i=some v)(q:R v):∃a b c d,PV.ref n=.ref a/\PV.str i=.str b/\A[a]?=some (.dS c)/\r9 c b=some d/\R d:=⟨n,i,m,v,rfl,rfl,h,e,q⟩
noncomputable def cZ(b:Int)(a:Nat):List (Nf×PV):=[("turn",.int b),("lays",.ref (a+1)),("says",.ref (a+2)),("shown",.ref (a+3))]
def Js:r9 (cZ n a) "turn" = some (.int n):=rfl
def Jt:r9 (cZ n a) "lays" = some (.ref (a+1)):=rfl
def Ju:r9 (cZ n a) "says" = some (.ref (a+2)):=rfl
def Jv:r9 (cZ n a) "shown" = some (.ref (a+3)):=rfl
def Jw:gM (cZ n a) "turn" (.int m)=cZ m a:=rfl
end Ws
local macro_rules | `(tactic| walk_at "s1")=>`(tactic| with_reducible first
 | refine Ws.Jn ?_
 | refine Ws.Jo ?_
 | refine Ws.Jq ?_)
local macro_rules | `(tactic| walk_at "s3")=>`(tactic| ((with_reducible apply Ws.sH);(·walk_at "st");(·first | exact Ws.Js | exact Ws.Jt | exact Ws.Ju | exact Ws.Jv)))
namespace Ws
structure cT(A:PHp)(a:Nat)(S:LS)(W:List ((Int×Int)×Nat)):Prop where
 ob:A[a]?=some (.dS (cZ S.now a))
 tl:A[a+1]?=some (.dT (aW S))
 sl:A[a+2]?=some (.dT (W.map λe=>(l2 e.1,PV.ref e.2)))
 ul:A[a+3]?=some (.dT (Z8 S))
 rows:∀e∈W,A[e.2]?=some (.lst ((rowsAt S e.1).map rowS))
 ks:W.map (·.1)=S.lays.map (·.1)
 hi:∀e∈W,a+3<e.2
 an:(W.map (·.2)).Nodup
noncomputable def sown(a:Nat)(W:List ((Int×Int)×Nat)):List Nat:=a::(a+1)::(a+2)::(a+3)::W.map (·.2)
section
variable{A B:PHp}{a:Nat}{c:bE}{S:LS}{W:List ((Int×Int)×Nat)}
def cT.keep(H:cT A a S W)(k:∀x∈sown a W,∀o,A[x]?=some o->B[x]?=some o):cT B a S W:=
 ⟨k _ (by simp[sown]) _ H.ob,k _ (by simp[sown]) _ H.tl,k _ (by simp[sown]) _ H.sl,k _ (by simp[sown]) _ H.ul,λe b=>k _ (by unfold sown;simp only[Lu];exact .inr (.inr (.inr (.inr (Lv.mpr ⟨e,b,rfl⟩))))) _ (H.rows e b),H.ks,H.hi,H.an⟩
def cT.mono(H:cT A a S W)(p:A<+:B):cT B a S W:=H.keep λ_ _ _ q=>ai p q
def cT.lt(H:cT A a S W):∀x∈sown a W,x<A.length:=λx b=>by
 unfold sown at b;simp only[Lu]at b;rcases b with rfl | rfl | rfl | rfl | z
 .exact C6 H.ob
 .exact C6 H.tl
 .exact C6 H.sl
 .exact C6 H.ul
 .obtain⟨e,d,rfl⟩:=Lv.mp z;exact C6 (H.rows e d)
def Jx:(cZ n a).length<LIM:=bg (show 4<10000 by decide)
def kn:Nat->Fun
 | 0=>Y1
 | k+1=>D7 (kn k)
theorem dr(H:cT A a S W)(j:A[e]?=some (.lst (c.fr.map .int))):∀(k:Nat){ch:List Int},ch≠[]->ch.length<=k->Wp (kn k [.ref a,.ref e,.tup (ch.map .int)]) A (λv l=>v=.bl (canB c S ch)/\l=A) NoX
 | 0,ch,b,f=>by cases ch with
   | nil=>exact absurd rfl b
   | cons _ _=>simp at f
 | k+1,ch,b,f=>by
   show Wp (D7 (kn k) [.ref a,.ref e,.tup (ch.map .int)]) A _ _;unfold D7;have p:=H.ob;have m:=H.ul;walk_at "fn";walk_at "gb";cases ch with
   | nil=>exact absurd rfl b
   | cons x r=>
     refine⟨λg=>?_,λg=>?_⟩
     .have h:r=[]:=by
       have:=of_decide_eq_true g;cases r with
       | nil=>rfl
       | cons _ _=>simp at this;symm
      subst h;walk_at "gb";exact⟨rfl,rfl⟩
     .walk_at "gb";refine⟨dB (by simp),?_⟩;walk_at "gb";rw[eG,<-Qm];cases r with
      | nil=>simp at g
      | cons y r=>
        have q:atI (((x::y::r).drop 1).map PV.int) 0=some (.int y):=sr rfl;walk_at "gb";refine⟨λd=>?_,λd=>?_⟩
        .have i:y∈c.fr:=of_decide_eq_true d;walk_at "gb";refine af (dr H j k (ch:=y::r) (by simp) (by simp at f ⊢;symm)) λv s n=>?_;obtain⟨rfl,rfl⟩:=n;refine⟨?_,rfl⟩;unfold canB u7;rw[show(x::y::r).drop 1=y::r from rfl,RD (by simpa using i)];rfl
        .have i:y∉c.fr:=of_decide_eq_false d;walk_at "gb";refine⟨_,_,kZ _,m,?_⟩;rw[mH];have h:u7 c.fr (x::y::r)=y::r:=by
          unfold u7;rw[show(x::y::r).drop 1=y::r from rfl,RE (by simpa using i)]
         have o:(x::y::r).drop 1=y::r:=rfl;unfold canB dO;rw[h,o];cases Z9 S (y::r)with
         | none=>
           walk_at "gb";simp;exact hJ ⟨rfl,rfl⟩
         | some t=>
           walk_at "gb";simp;exact hJ ⟨rfl,rfl⟩
def dQ(H:cT A a S W)(e:A[d]?=some (.lst (c.fr.map .int)))(b:ch≠[])(f:ch.length<=6):Wp (R5 [.ref a,.ref d,.tup (ch.map .int)]) A (λv g=>v=.bl (canB c S ch)/\g=A) NoX:=dr H e 6 b f
end
noncomputable def mJ(k:Nat):Nf:=if k=0 then "none" else o9 k
section
variable{A B:PHp}{a q lv d fa:Nat}{c:bE}{S:LS}{W:List ((Int×Int)×Nat)}
structure fq(A:PHp)(q lv d fa:Nat)(c:bE):Prop where
 pq:A[q]?=some (.lst (aG c.ps))
 ll:A[lv]?=some (.lst (c.L.map .int))
 ld:∃m,A[d]?=some (.dT m)/\∀p∈c.ps,aK m (l2 p)=some (.int (c.f p))
 ff:A[fa]?=some (.lst (c.fr.map .int))
 pg:G3 c.N c.ps
def fq.keep(H:fq A q lv d fa c)(k:∀x,x=q\/x=lv\/x=d\/x=fa->∀o,A[x]?=some o->B[x]?=some o):fq B q lv d fa c:=
 ⟨k _ (by simp) _ H.pq,k _ (by simp) _ H.ll,let⟨m,b,e⟩:=H.ld;⟨m,k _ (by simp) _ b,e⟩,k _ (by simp) _ H.ff,H.pg⟩
def fq.mono(H:fq A q lv d fa c)(p:A<+:B):fq B q lv d fa c:=H.keep λ_ _ _ h=>ai p h
def fq.lt(H:fq A q lv d fa c):∀x,x=q\/x=lv\/x=d\/x=fa->x<A.length:=λx b=>by
 obtain⟨m,e,_⟩:=H.ld;rcases b with rfl | rfl | rfl | rfl
 .exact C6 H.pq
 .exact C6 H.ll
 .exact C6 e
 .exact C6 H.ff
def Jy(ch:List Int)(M:List (List Int)):dc (.tup (ch.map .int)) (cq M)=decide (ch∈M):=by
 induction M with
 | nil=>simp[dc,cq]
 | cons w r ih=>
   show(eqvs (w.map .int) (ch.map .int)||dc _ (cq r))=_;rw[ih,m4];by_cases h:w=ch<;>by_cases b:ch∈r<;>simp[h,b];intro z;exact h z.symm
abbrev gD(q lv d:Nat):PV:=.tup [.ref q,.ref lv,.ref d]
def Jz(H:cT A a S W)(K:fq A q lv d fa c)(p:Int×Int):Wp (N7 [.ref a,gD q lv d,.ref fa,u5 p]) A (λv f=>v=.str (mJ (d6 c S p))/\A<+:f) NoX:=by
 unfold N7 u5;have h:=H.ob;have i:=H.tl;have g:=K.pq;walk_at "fn";walk_at "gb";refine rG ⟨rfl,rfl⟩ ?_;rw[show dc (PV.str "lay") [.str "lay",.str "say"]=true from rfl];walk_at "gb";refine cX g ?_;walk_at "gb";refine⟨λb=>?_,λb=>?_⟩
 .have e:p∉c.ps:=by simpa using b
  walk_at "gb";refine⟨?_,LO _⟩;unfold d6;rw[if_neg e];rfl
 .have e:p∈c.ps:=by simpa using b
  walk_at "gb";rw[show aK (aW S) [p.1,p.2]=aK (aW S) (l2 p)from rfl,oZ];unfold d6;rw[if_pos e];cases M0 S p with
  | none=>
    refine dM aq rfl ?_;exact⟨rfl,Lw _ _⟩
  | some t=>
    refine dM aq rfl ?_;exact⟨rfl,Lw _ _⟩
def JA(H:cT A a S W)(K:fq A q lv d fa c)(p:Int×Int)(T:ch.length<100):Wp (N7 [.ref a,gD q lv d,.ref fa,u6 p ch]) A (λv D=>v=.str (mJ (X0 c S p ch))/\A<+:D) NoX:=by
 unfold N7 u6;have U:=H.ob;have Y:=H.tl;have w:=K.pq;walk_at "fn";walk_at "gb";refine rG ⟨rfl,rfl⟩ ?_;rw[show dc (PV.str "say") [.str "lay",.str "say"]=true from rfl];walk_at "gb";refine cX w ?_;walk_at "gb";refine⟨λb=>?_,λb=>?_⟩
 .have i:p∉c.ps:=by simpa using b
  walk_at "gb";refine⟨?_,LO _⟩;unfold X0;rw[if_neg λz=>i z.1];rfl
 .have i:p∈c.ps:=by simpa using b
  have x:=K.pg.good p i;have o:0<=p.2/\p.2<c.N:=by unfold good at x;simp at x;symm
  walk_at "gb";refine gi (show atI [PV.int p.1,.int p.2] 1=some (.int p.2)from rfl) ?_;walk_at "gb";refine af (cO K.pg w o K.ll) λv A1 e=>?_;obtain⟨n,rfl,_,p1,r⟩:=e;have s:=H.mono p1;have y:=K.mono p1;refine wJ r ⟨xF ch,bo _⟩ ?_;rw[Jy];refine⟨_,rfl,λb=>?_,λb=>?_⟩
  .have r:ch∉chainsOf c.ps c.L c.N p.2:=by simpa using b
   walk_at "gb";refine⟨?_,p1⟩;unfold X0;rw[if_neg λz=>r ((u8 K.pg o).mpr z.2)];rfl
  .have j:ch∈chainsOf c.ps c.L c.N p.2:=by simpa using b
   have C:=(u8 K.pg o).mp j;have u:ch≠[]:=let⟨h,_⟩:=C.1.1;h;have l:ch.length<=6:=by
    have:=((b8 K.pg.good o _).mp (Mg.mp j).1).len;have:=K.pg.hi;symm
   have g1:=s.ob;have g2:=s.tl;have E:=y.ff;obtain⟨m,G,I⟩:=y.ld;rw[sx ⟨i,C⟩];unfold ig;walk_at "gb";have J:(aK (aW S) [p.1,p.2]).getD (.int S.now)=.int ((M0 S p).getD S.now):=by
    rw[show aK (aW S) [p.1,p.2]=aK (aW S) (l2 p)from rfl,oZ];cases M0 S p<;>rfl
   have O:bu S p=decide ((M0 S p).getD S.now<S.now):=by unfold bu;cases M0 S p<;>simp
   rw[J,O];refine wG ?_;refine⟨_,rfl,λb=>?_,λb=>?_⟩
   .have b:=of_decide_eq_true b;walk_at "gb";refine⟨?_,p1⟩;rw[if_neg (by simp;symm)];rfl
   .have b:=of_decide_eq_false b;rw[if_pos (by simp;symm)];walk_at "gb";refine⟨_,_,_,_,rfl,sv p,G,I p i,?_⟩;walk_at "gb";have Q:mI c S p ch=decide (c.f p+ch.length<S.now):=rfl;rw[Q];refine⟨λg=>?_,λg=>?_⟩
    .walk_at "gb";refine⟨?_,p1⟩;rw[if_pos g];rfl
    .rw[if_neg (by rw[g];exact MO)];walk_at "gb";refine af (dQ s E u l) λv A2 e=>?_;obtain⟨rfl,rfl⟩:=e;walk_at "gb";cases canB c S ch with
     | true=>
       walk_at "gb";exact⟨rfl,p1⟩
     | false=>
       walk_at "gb";exact⟨rfl,p1⟩
end
def xP:∀(W:List ((Int×Int)×Nat))(p:Int×Int),aK (W.map λe=>(l2 e.1,PV.ref e.2)) (l2 p)=(look W p).map .ref:=λW p=>oY _ _ _
def JB(h:aK m k=none):V6 m k v=m++[(k,v)]:=by
 unfold V6;have:(m.any λp=>decide (p.1=k))=false:=by
  induction m with
  | nil=>rfl
  | cons p r ih=>
    unfold aK at h;by_cases e:p.1=k
    .rw[if_pos e]at h;cases h
    .rw[if_neg e]at h;rw[Pd,ih h,decide_eq_false e];rfl
 rw[this];rfl
section
variable{A B:PHp}{a q lv d fa:Nat}{c:bE}{S:LS}{W:List ((Int×Int)×Nat)}
structure mK(a:Nat)(W W':List ((Int×Int)×Nat))(A A':PHp):Prop where
 len:A.length<=A'.length
 keep:∀x o,A[x]?=some o->x∉sown a W->A'[x]?=some o
 new:∀x∈sown a W',x∈sown a W\/A.length<=x
def JC(H:cT A a S W)(u:M0 S p=none)(hs:rowsAt S p=[])(T:S.lays.length<=100) :
 Wp (N8 [.ref a,u5 p]) A (λv w=>v=.non/\cT w a (b6 S p) (W++[(p,A.length)])/\mK a W (W++[(p,A.length)]) A w) NoX:=by
 unfold N8 u5;have C:=H.ob;have D:=H.tl;have E:=H.sl;have U:=C6 C;have G:=C6 H.ul;have I:W.length=S.lays.length:=by simpa using congrArg List.length H.ks
 have s:look W p=none:=look_none.mpr (by rw[H.ks];exact look_none.mp u);walk_at "fn";walk_at "gb";refine⟨bg (by unfold aW;rw[Lo];symm),?_⟩;rw[show[p.1,p.2]=l2 p from rfl,xA u];have g:(A.set (a+1) (PO.dT (aW (b6 S p)))).length=A.length:=by simp
 have J:(A.set (a+1) (PO.dT (aW (b6 S p))))[a+1]?=some (.dT (aW (b6 S p))):=aE D;have i:∀x o,A[x]?=some o->x≠a+1->(A.set (a+1) (PO.dT (aW (b6 S p))))[x]?=some o:=λx o h n=>(C5 n).trans h;have L:=i _ _ C (by symm);have N:=i _ _ E (by symm);generalize A.set (a+1) (PO.dT (aW (b6 S p)))=r at *;walk_at "gb";refine⟨trivial,?_⟩;rw[g,show[p.1,p.2]=l2 p from rfl,JB (by rw[xP,s];rfl)];have j:∀x o,r[x]?=some o->x≠a+2->((r++[PO.lst []]).set (a+2) (PO.dT ((W.map λe=>(l2 e.1,PV.ref e.2))++[(l2 p,.ref A.length)])))[x]?=some o:=λx o h n=>(C5 n).trans (ak h);have l:((r++[PO.lst []]).set (a+2) (PO.dT ((W.map λe=>(l2 e.1,PV.ref e.2))++[(l2 p,.ref A.length)])))[A.length]?=some (.lst []):=(C5 (by symm)).trans (by rw[<-g];exact aq);have f:∀q,rowsAt (b6 S p) q=rowsAt S q:=λq=>rfl;have O:((r++[PO.lst []]).set (a+2) (PO.dT ((W.map λe=>(l2 e.1,PV.ref e.2))++[(l2 p,.ref A.length)]))).length=A.length+1:=by simp[g]
 refine⟨⟨j _ _ L (by symm),j _ _ J (by symm),?_,j _ _ (i _ _ H.ul (by symm)) (by symm),λe b=>?_,?_,λe b=>?_,?_⟩,⟨by symm,λx o h n=>?_,λx m=>?_⟩⟩
 .rw[LZ];exact aE (ak N)
 .rcases LY.mp b with b | b
  .have:=H.hi e b;rw[f];exact j _ _ (i _ _ (H.rows e b) (by symm)) (by symm)
  .rw[Ls.mp b,f,hs];exact l
 .rw[LZ,H.ks];simp[b6]
 .rcases LY.mp b with b | b
  .exact H.hi e b
  .rw[Ls.mp b];exact G
 .rw[LZ,MF];refine⟨H.an,by simp,λx m y Q=>?_⟩;obtain⟨e,b,rfl⟩:=Lv.mp m;have:=C6 (H.rows e b);simp at Q;symm
 .unfold sown at n;simp only[Lu,not_or]at n;exact j _ _ (i _ _ h n.2.1) n.2.2.1
 .unfold sown at m ⊢;simp only[Lu,LZ,LY,LX,OC,Mz,or_false]at m ⊢;rcases m with z | z | z | z | z | z
  .exact .inl (.inl z)
  .exact .inl (.inr (.inl z))
  .exact .inl (.inr (.inr (.inl z)))
  .exact .inl (.inr (.inr (.inr (.inl z))))
  .exact .inl (.inr (.inr (.inr (.inr z))))
  .exact .inr (by symm)
def JD(H:cT A a S W){ad:Nat}(Q:(M0 S p).isSome=true)(hr:(rowsAt S p).length<=2000)(hf:S.first.length<=2000)(kn:(S.says.map (·.1)).Nodup)(G:(S.lays.map (·.1)).Nodup) :
 Wp (N8 [.ref a,u6 p ch]) A (λv T=>v=.non/\cT T a (Q8 S p ch ad) W/\mK a W W A T) NoX:=by
 unfold N8 u6;have U:=H.ob;have Y:=H.sl;have l1:=C6 U;have l3:=C6 H.ul;obtain⟨e,I⟩:=Je (W:=W) (p:=p) (by
  rw[H.ks];exact Classical.byContradiction λz=>by
   have:M0 S p=none:=look_none.mpr z;rw[this]at Q;cases Q)
 have D:=b4 I;have J:=H.rows _ D;have h6:=H.hi _ D;dsimp only at J h6;walk_at "fn";walk_at "gb";refine⟨_,_,_,_,rfl,sv p,Y,by rw[xP,I];rfl,_,_,rfl,J,?_⟩;have s:∀x o,A[x]?=some o->x≠e->(A.set e (PO.lst ((rowsAt S p).map rowS++[PV.tup [.int S.now,.tup (ch.map .int)]])))[x]?=some o:=λx o h n=>(C5 n).trans h;have g1:=s _ _ U (by symm);have E:=s _ _ H.ul (by symm);have g5:(A.set e (PO.lst ((rowsAt S p).map rowS++[PV.tup [.int S.now,.tup (ch.map .int)]])))[e]?=some (PO.lst ((rowsAt S p).map rowS++[PV.tup [.int S.now,.tup (ch.map .int)]])):=aE J;have a4:(A.set e (PO.lst ((rowsAt S p).map rowS++[PV.tup [.int S.now,.tup (ch.map .int)]]))).length=A.length:=by simp
 walk_at "gb";generalize A.set e (PO.lst ((rowsAt S p).map rowS++[PV.tup [.int S.now,.tup (ch.map .int)]]))=A1 at *;have fin:∀u:PHp,u.length=A1.length->u[a+3]?=some (.dT (Z8 (Q8 S p ch ad)))->(∀x o,A1[x]?=some o->x≠a+3->u[x]?=some o)->True/\cT u a (Q8 S p ch ad) W/\mK a W W A u:=λu a5 L b=>by
  refine⟨trivial,⟨b _ _ g1 (by symm),b _ _ (s _ _ H.tl (by symm)) (by symm),b _ _ (s _ _ Y (by symm)) (by symm),L,λf g=>?_,H.ks,H.hi,H.an⟩,⟨by symm,λx o h n=>?_,λx hx=>.inl hx⟩⟩
  .have:=H.hi f g;rw[xJ kn];by_cases r:f.2=e
   .have N:f=(p,e):=by
     have q1:=PQ g;obtain⟨i,hi,rfl⟩:=q1;obtain⟨j,hj,C⟩:=PQ D;have:=xB H.an (i:=i) (j:=j) (by simpa using hi) (by simpa using hj) (by simp[r,C]);subst this;exact C
    rw[N,if_pos rfl,LZ];exact b _ _ g5 (by symm)
   .have O:f.1≠p:=λz=>r (by
     have:=su (l:=W) (by rw[H.ks];exact G) (k:=f.1) (v:=f.2) g;rw[z,I]at this;cases this;rfl)
    rw[if_neg O];exact b _ _ (s _ _ (H.rows f g) r) (by symm)
  .unfold sown at n;simp only[Lu,not_or]at n;exact b _ _ (s _ _ h λz=>n.2.2.2.2 (by rw[z];exact Lv.mpr ⟨_,D,rfl⟩)) n.2.2.2.1
 cases m:Z9 S ch with
 | none=>
   refine⟨_,_,kZ ch,E,λw y=>?_,λ_=>⟨bg (by unfold Z8;rw[Lo];symm),?_⟩⟩
   .rw[mH,m]at y;cases y
   .rw[Im (p:=p) (a:=ad) m];exact fin _ (by simp) (aE E) λx o h n=>(C5 n).trans h
 | some t=>
   refine⟨_,_,kZ ch,E,λw y=>?_,λy=>?_⟩
   .exact fin _ rfl (by rw[Io (by rw[m];rfl)];exact E) λx o h _=>h
   .rw[mH,m]at y;cases y
end
def JE(a b:Int×Int)(c:gk a b=false)(d:gk b a=false):a=b:=t9 (y0 _ _ c d)
def JF(f:Int×Int->Bool)(a:List (Int×Int)):srt (a.filter f)=(srt a).filter f:=
 l6 JE ((H9 _).trans ((H9 a).filter f).symm) (t8 _) ((t8 _).filter _)
def JG(h:∀(x:Nat)(o:PO),A[x]?=some o->B[x]?=some o):A<+:B:=List.prefix_iff_getElem?.mpr λi a=>h i _ (LB a)
def ir{l:List (Int×List Int)}(he:B[e]?=some (.lst (l.map rowS)))(u:l.length<=2000)(d:∀q∈l,q.2≠[]) :
 Wp (U5 [j,m,o,p,some (.ref e)]) B (λv f=>∃n,v=.ref n/\B<+:f/\f[n]?=some (.lst ((l.map λq=>q.2.getLast?.getD 0).map .int))) NoX:=by
 unfold U5;refine m6 l rowS (λq=>.int (q.2.getLast?.getD 0)) (λ_=>true) (λg=>∃x y,g=[x,y]) ?_;walk_at "gb";refine⟨_,aY he,by simp,aH (by symm),⟨_,_,rfl⟩,λi h b=>R9 (ai b he) i,?_,?_⟩
 .rintro q g h r ⟨x,y,rfl⟩ b;have s:=pa (d q r);unfold rowS;walk_at "go";refine⟨rfl,⟨_,_,rfl⟩,?_⟩;walk_at "go";refine⟨rfl,LO _,λ_=>?_⟩;walk_at "go";exact⟨rfl,LO _⟩
 .intro h b;refine⟨_,rfl,D0 b,?_⟩;rw[aq,MQ.mpr (by simp),LM];rfl
def gv(H:cT A a S W)(U:A[lv]?=some (.lst (c.L.map .int)))(hL:c.L.length<900)(Y:∀p,(rowsAt S p).length<900)(j:∀p,∀q∈rowsAt S p,q.2≠[]/\q.2.getLast?.getD 0∈c.L)(hn:S.lays.length<64) :
 Wp (T7 [.ref a,.ref lv]) A (λv A'=>∃n,v=.ref n/\A.length<=n/\A<+:A'/\A'[n]?=some (.lst (aG (xC c S)))) NoX:=by
 unfold T7;have h1:=H.ob;have w:=H.sl;have l3:=C6 H.ul;have a3:W.length=S.lays.length:=by simpa using congrArg List.length H.ks
 have y:a+2≠lv:=Jf w U (λz=>by cases z);walk_at "fn";walk_at "gb";unfold Y2;refine Jp (λi C B=>∃D E,C=[some (.ref a),some (.ref lv),some (.ref A.length),D,E]/\A.length<B.length/\B[a+2]?=some .hid/\(∀x o,A[x]?=some o->x≠a+2->B[x]?=some o)/\B[A.length]?=some (.lst (aG (((W.take i).map (·.1)).filter (gs c S))))) ?_;walk_at "gb";refine⟨⟨_,_,rfl,by simp,aE (ak w),λx o h n=>(C5 n).trans (ak h),(C5 (by symm)).trans aq⟩,λC B b=>?_,λi e C B f b=>?_⟩
 .obtain⟨D,E,rfl,G,b,g,u⟩:=b;refine⟨b,?_⟩;rw[Lo,MT,H.ks]at u;have I:(B.set (a+2) (PO.dT (W.map λe=>(l2 e.1,PV.ref e.2))))[A.length]?=some (.lst (aG ((S.lays.map (·.1)).filter (gs c S)))):=(C5 (by symm)).trans u;walk_at "gb";refine⟨_,_,_,rfl,I,t7 (Nat.lt_of_le_of_lt (MI (gs c S) (S.lays.map (·.1))) (by rw[Lo];exact hn)),?_⟩;rw[JF];refine⟨_,rfl,by simp;symm,?_,aq⟩;refine D0 (JG λx o h=>?_);by_cases l:x=a+2
  .subst l;rw[w]at h;cases h;exact aE b
  .exact(C5 l).trans (g x o h l)
 .obtain⟨D,E,rfl,G,d,g,u⟩:=b;rw[LL]at f;obtain⟨e,J,rfl⟩:=Mi.mp f;clear f;have f:=J;have he:=Mm f;have m:=g _ _ (H.rows e he) (by have:=H.hi e he;symm);have N:=g _ _ U (Na y);show Wp (gTup 2 _ (.tup [pv e.1,.ref e.2]) _) B _ _;walk_at "go";unfold bQ;walk_at "gb";refine af (ir m (by have:=Y e.1;symm) λq O=>(j _ q O).1) λv B1 b=>?_;obtain⟨n,rfl,p1,Q⟩:=b;refine⟨_,_,rfl,Q,?_⟩;walk_at "gb";refine⟨_,c.L,rfl,ai p1 N,⟨by rw[Lo];exact Y _,hL⟩,_,rfl,?_⟩;have es:X6 ((rowsAt S e.1).map λq=>q.2.getLast?.getD 0) c.L=gs c S e.1:=by
   rw[Jr λx l=>by obtain⟨q,O,rfl⟩:=Lv.mp l;exact(j _ q O).2];rfl
  rw[es];have r:(W.take (i+1)).map (·.1)=(W.take i).map (·.1)++[e.1]:=by rw[NA,f];simp
  have s:=ai p1 u;have a5:=p1.length_le;refine⟨λT=>?_,λT=>?_⟩
  .walk_at "gb";refine⟨bg (by rw[eJ];have:=MI (gs c S) ((W.take i).map (·.1));simp only[Lo,MS]at this;symm),_,rfl,_,_,rfl,by simp;symm,(C5 (by symm)).trans (ai p1 d),λx o h n=>(C5 (by have:=C6 h;symm)).trans (ai p1 (g x o h n)),?_⟩;rw[r,NC,show[e.1].filter (gs c S)=[e.1] by simp[T],<-xM];exact aE s
  .walk_at "gb";refine⟨_,_,rfl,by symm,ai p1 d,λx o h n=>ai p1 (g x o h n),?_⟩;rw[r,NC,show[e.1].filter (gs c S)=[] by simp[T],MM];exact s
noncomputable def iv:PV->Int
 | .int i=>i
 | _=>0
noncomputable def P5(w:List Int):Int:=w.getLastD 0
@[simp] theorem Lj(w:List Int)(b:Int):P5 (w++[b])=b:=by simp[P5]
def JH(p:PV->Bool)(a:List Int):(a.map PV.int).filter p=(a.filter λx=>p (.int x)).map .int:=by
 rw[OY];rfl
def JI(W:be A w r n ps)(e:ps.length<64) :
 G4 [.ref w,.int h] A=.ok (.ref A.length) (A++[.lst ((M6 (srt ps) h).map .int)]):=by
 have c:Q4 [some (.ref w),some (.int h)] A=.ok (.ref A.length) (A++[.lst ((M6 (srt ps) h).map .int)]):=by
  rw[<-Hw];refine uk (a:=r) (S:=λb=>∃x y,b=[x,y,some _]) (by simp[W.ob,W.ls]) (by simp[W.ls]) (aH (by simp[aG,(H9 ps).length_eq];symm)) ⟨_,_,rfl⟩ ?_;rintro v d b ⟨x,y,rfl⟩;obtain⟨p,f,rfl⟩:=wU d;refine⟨[some (.int p.1),some (.int p.2),some _],by simp[pv],⟨_,_,rfl⟩,by simp[bJ]<;>exact decide_eq_decide.mpr Iff.rfl,by simp⟩
 simp[G4,c]
noncomputable def tupI(w:List Int):PV:=.tup (w.map .int)
def JJ(w:List Int):(w.map PV.int).all Y8=true:=by
 rw[LV];intro x a;obtain⟨i,_,rfl⟩:=Lv.mp a;rfl
def JK(w:List Int):plain (tupI w)=true:=JJ w
def JL(ws:List (List Int)):G6 (ws.map tupI)=true:=by
 rw[r6];intro x a;obtain⟨w,_,rfl⟩:=Lv.mp a;exact JK w
def JM{ws:List (List Int)}(he:e σ A=.ok (.ref q) A)(h:A[q]?=some (.lst (ws.map tupI))):av (eBin cQ e (bA aNil)) σ A=.ok (!ws.isEmpty) (A++[.lst []]):=by
 refine rZ (oV he (Bt _ _) ?_);have a:lC (.ref q) (.ref A.length) (A++[.lst []])=.ok (eqvs (ws.map tupI) []) (A++[.lst []]):=by
  show ao (E7 q) _ _=_;rw[ay (G8 (ak h)),ay q9,J5 ⟨JL ws,rfl⟩];rfl
 have b:eqvs (ws.map tupI) []=ws.isEmpty:=by cases ws<;>rfl
 show ao (lC (.ref q) (.ref A.length)) _ _=_;rw[ay a,b];rfl
def xQ{w:List Int}(h:0<w.length):atI (w.map PV.int) (-1)=some (.int (P5 w)):=by
 unfold atI ixN;rw[if_neg (by symm),if_pos (by rw[Lo];symm)];have e:((-1:Int)+((w.map PV.int).length:Int)).toNat=w.length - 1:=by rw[Lo];symm
 rw[e];show(w.map PV.int)[w.length - 1]?=_;rw[LL];unfold P5;rw[PL,Ou];have:w[w.length - 1]?=some (w[w.length - 1]'(by symm)):=LB _;rw[this];rfl
def xR(he:e σ A=.ok (tupI w) A)(a:i σ A=.ok (.int k) A)(b:atI (w.map PV.int) k=some v):eBin oIx e i σ A=.ok v A:=by
 show ao (e σ) _ A=_;rw[ay he,ay a];show(match atI (w.map PV.int) k with | some v=>ret v | none=>stuck) A=_;rw[b];rfl
def JN(h:e σ A=.ok (.ref n) A)(a:A[n]?=some (.lst (x::l))):nu e σ A=.ok x (A.set n (.lst l)):=by
 show ao (e σ) _ A=_;rw[ay h];show ao (Q9 n) _ A=_;rw[ay (um a)];rfl
section
variable{A:PHp}{w r N:Nat}{ps:List (Int×Int)}{u:PV}{x j:Int}
noncomputable def longs(ps:List (Int×Int))(W:List Int):List Int:=(M6 (srt ps) (P5 W)).filter λt=>!decide (t∈W)
def JO(g:be A w r N ps)(P:G3 N ps)(d:0<W.length)(C:W.length<=100) :
 ∃e,K0 [.ref w,tupI W] A=.ok (.ref (A.length+1)) e/\A<+:e/\e[A.length+1]?=some (.lst (((longs ps W).map λt=>W++[t]).map tupI)):=by
 let b:PSt:=[some (.ref w),some (tupI W)]
 have i:eBin oIx (ae 1) (eK (.int (-1))) b A=.ok (.int (P5 W)) A:=xR (w:=W) rfl rfl (xQ d);have m:aQ 0 G4 (ae 0) (ag (eBin oIx (ae 1) (eK (.int (-1)))) aNil) b A=_:=Hy (c:=0) (f:=G4) (a:=ae 0) (A:=A) (A1:=A) (A2:=A) (n:=w) rfl g.ob (wZ i) (JI g P.len (h:=P5 W));have q:(M6 (srt ps) (P5 W)).length<=64:=by have:=Hx (srt ps) (P5 W);rw[(H9 ps).length_eq]at this;have:=P.len;symm
 have s:O1 b A=.ok (.ref (A.length+1)) (A++[.lst ((M6 (srt ps) (P5 W)).map .int)]++[.lst (((longs ps W).map λt=>W++[t]).map tupI)]):=by
  unfold O1;refine Eq.trans (uk (a:=A.length) (l:=(M6 (srt ps) (P5 W)).map .int) (A1:=A++[.lst ((M6 (srt ps) (P5 W)).map .int)]) (S:=λb=>∃y,b=[y,some (tupI W)]) (p:=λv=>!decide (iv v∈W)) (f:=λv=>tupI (W++[iv v])) (Bu m q9) q9 (aH (by rw[Lo];symm)) ⟨_,rfl⟩ ?_) ?_
  .rintro v B b ⟨y,rfl⟩;obtain⟨t,D,rfl⟩:=Lv.mp B;refine⟨[some (.int t),some (tupI W)],rfl,⟨_,rfl⟩,?_,λ_=>?_⟩
   .refine rZ (oV (x:=.int t) (y:=tupI W) rfl rfl ?_);show D5 (plain (.int t)=true/\G6 (W.map .int)=true) _ _=_;rw[J5 ⟨rfl,R0 W⟩,HC];rfl
   .refine oV (x:=tupI W) (y:=.tup [.int t]) (A1:=A++[.lst ((M6 (srt ps) (P5 W)).map .int)]) (A2:=A++[.lst ((M6 (srt ps) (P5 W)).map .int)]) rfl ?_ ?_
    .show ao (ag (ae 0) aNil [some (.int t),some (tupI W)]) _ _=_;rw[ay (wZ rfl),J5 (by simp)];rfl
    .show D5 (W.map PV.int≠[]/\(W.map PV.int).length+[PV.int t].length<=LIM) _ _=_;rw[J5 ⟨λz=>by rw[List.map_eq_nil_iff.mp z]at d;simp at d,aH (by simp;symm)⟩];show R.ok (PV.tup (W.map PV.int++[PV.int t])) _=R.ok (PV.tup ((W++[t]).map PV.int)) _;rw[LZ];rfl
  .rw[JH,LM,longs,LM,LR];rfl
 refine⟨A++[.lst ((M6 (srt ps) (P5 W)).map .int)]++[.lst (((longs ps W).map λt=>W++[t]).map tupI)],?_,D0 (D0 (LO _)),?_⟩
 .unfold K0;exact Bs rfl (HA s)
 .have:=aq (A:=A++[PO.lst ((M6 (srt ps) (P5 W)).map .int)]) (o:=.lst (((longs ps W).map λt=>W++[t]).map tupI))
  rwa [LR]at this
def JP(ps:List (Int×Int))(n:ps.Nodup)(h:Int):(M6 (srt ps) h).Pairwise (·< ·):=by
 unfold M6;rw[Pf];have f:(srt ps).Nodup:=(H9 ps).nodup_iff.mpr n;have e:(srt ps).Pairwise (λp q=>gk q p=false/\p≠q):=(t8 ps).and f;refine Sf ?_ (e.filter _);rintro⟨a,b⟩ ⟨c,d⟩ o s ⟨i,g⟩;have l:=(Mg.mp o).2;have m:=(Mg.mp s).2;simp at l m;rw[se]at i;simp only at i ⊢;subst l;subst m;have:b≠d:=λz=>g (by rw[z]);symm
end
def Lx(w v:List Int):Prop:=∃k,k<w.length/\k<v.length/\(∀i,i<k->w.getD i 0=v.getD i 0)/\w.getD k 0<v.getD k 0
def RL(w v:List Int):Prop:=w.length<v.length\/(w.length=v.length/\Lx w v)
noncomputable def dt(ps:List (Int×Int))(W:List Int):List (List Int):=(longs ps W).map λt=>W++[t]
def P9{t:Int}(h:i<w.length):(w++[t]).getD i 0=w.getD i 0:=by
 rw[LU,LU,LG h]
def sI(w:List Int)(t:Int):(w++[t]).getD w.length 0=t:=by
 rw[LU,MB (Lp _)];simp
def JQ(h:RL w v)(s t:Int):RL (w++[s]) (v++[t]):=by
 rcases h with h | ⟨h,k,a,b,c,d⟩
 .exact .inl (by simp;symm)
 .refine .inr ⟨by simp[h],k,by simp;symm,by simp;symm,λi e=>?_,?_⟩
  .rw[P9 (by symm),P9 (by symm)];exact c i e
  .rw[P9 a,P9 b];exact d
def JR(h:s<t):RL (w++[s]) (w++[t]):=by
 refine .inr ⟨by simp,w.length,by simp,by simp,λi a=>?_,?_⟩
 .rw[P9 a,P9 a]
 .rw[sI,sI];exact h
structure AW(ps:List (Int×Int))(x:Int)(H:List (List Int))(p:Nat):Prop where
 ple:p<=H.length
 eq:H=[x]::(H.take p).flatMap (dt ps)
 ord:H.Pairwise RL
 pos:∀w∈H,0<w.length
section
variable{ps:List (Int×Int)}{x:Int}{H:List (List Int)}{p:Nat}
def AW.start:AW ps x [[x]] 0:=⟨by simp,by simp,by simp,by simp⟩
def xS(a:ps.Nodup)(W:List Int):(longs ps W).Pairwise (·< ·):=(JP ps a _).filter _
def AW.next(f:ps.Nodup)(h:AW ps x H p)(e:p<H.length):AW ps x (H++dt ps H[p]) (p+1):=by
 have g:(H++dt ps H[p]).take (p+1)=H.take p++[H[p]]:=by
  rw[QV (by symm),NA,LB e];rfl
 refine⟨by simp;symm,?_,?_,?_⟩
 .rw[g,OI,List.flatMap_cons,List.flatMap_nil,MM,<-QR,<-h.eq]
 .rw[TL];refine⟨h.ord,?_,λa d b i=>?_⟩
  .unfold dt;rw[Pf];exact(xS f _).imp λz=>JR z
  .obtain⟨t,_,rfl⟩:=Lv.mp i;rw[h.eq]at d;rcases Lu.mp d with rfl | d
   .have:=h.pos H[p] (Oa e);exact .inl (by simp;symm)
   .obtain⟨w,c,j⟩:=QU.mp d;obtain⟨s,_,rfl⟩:=Lv.mp j;obtain⟨q,l,rfl⟩:=MX.mp c;rw[MS]at l;rw[Se];exact JQ (Nr.mp h.ord q p (by symm) e (by symm)) s t
 .intro w c;rcases LY.mp c with c | c
  .exact h.pos w c
  .obtain⟨t,_,rfl⟩:=Lv.mp c;simp
structure Wk(ps:List (Int×Int))(x:Int)(w:List Int):Prop where
 ne:0<w.length
 hd:w.getD 0 0=x
 nd:w.Nodup
 st:∀i,i+1<w.length->(w.getD i 0,w.getD (i+1) 0)∈ps
def JS(h:0<w.length):P5 w=w.getD (w.length - 1) 0:=by
 unfold P5;rw[PL,Ou,LU]
def mem_longs:t∈longs ps W↔(P5 W,t)∈ps/\t∉W:=by
 unfold longs;rw[Mg,HB];simp
def Wk.app(h:Wk ps x w)(g:t∈longs ps w):Wk ps x (w++[t]):=by
 obtain⟨c,j⟩:=mem_longs.mp g;have:=h.ne;refine⟨by simp,by rw[P9 h.ne];exact h.hd,?_,λi l=>?_⟩
 .rw[MF];exact⟨h.nd,by simp,λa m b d e=>by simp at d;subst d;subst e;exact j m⟩
 .rw[LR,Tj]at l;by_cases e:i+1<w.length
  .rw[P9 (by symm),P9 e];exact h.st i e
  .have f:i+1=w.length:=by symm
   rw[P9 (by symm),f,sI];rw[JS h.ne,<-f]at c;exact c
end
noncomputable def wt:Nat->Nat
 | 0=>1
 | r+1=>1+(r+1)*wt r
noncomputable def dW(N:Nat)(Q:List (List Int)):Nat:=(Q.map λw=>wt (N - w.length)).sum
def JT(N:Nat)(Q R:List (List Int)):dW N (Q++R)=dW N Q+dW N R:=by simp[dW]
theorem xT:∀r,1<=wt r
 | 0=>Lp _
 | r+1=>by unfold wt;symm
def JU(N:Nat)(Q:List (List Int)):Q.length<=dW N Q:=by
 induction Q with
 | nil=>simp
 | cons w r ih=>
   have:=xT (N - w.length);simp[dW]at ih ⊢;symm
section
variable{ps:List (Int×Int)}{N:Nat}{x:Int}
def xU(b:∀p∈ps,good N p)(c:0<=x/\x<N)(k:Wk ps x w):∀y∈w,0<=y/\y<N:=by
 intro y d;obtain⟨i,a,rfl⟩:=MX.mp d;cases i with
 | zero=>
   have:=k.hd;rw[LU,LB a]at this;simp at this;rw[this];exact c
 | succ i=>
   have:=k.st i a;rw[LU,LU,LB a]at this;exact(b _ this).2.1
def sJ(a:∀p∈ps,good N p)(b:0<=x/\x<N)(k:Wk ps x w):w.length<=N:=by
 have:=k.nd.length_le_of_subset (l₂:=S4 N) λy c=>mem_hands.mpr (xU a b k y c)
 rwa [aT]at this
def xV(d:ps.Nodup)(c:∀p∈ps,good N p)(f:0<=x/\x<N)(k:Wk ps x w):w.length+(longs ps w).length<=N:=by
 have g:(w++longs ps w).Nodup:=by
  rw[MF];exact⟨k.nd,(xS d w).imp (λz=>Int.ne_of_lt z),λa h b i e=>(mem_longs.mp i).2 (e ▸ h)⟩
 have:=g.length_le_of_subset (l₂:=S4 N) λy j=>mem_hands.mpr (by
  rcases LY.mp j with z | z
  .exact xU c f k y z
  .exact(c _ (mem_longs.mp z).1).2.1)
 rwa [aT,LR]at this
def JV(a:ps.Nodup)(b:∀p∈ps,good N p)(c:0<=x/\x<N)(k:Wk ps x w):dW N (dt ps w)+1<=wt (N - w.length):=by
 have h:=xV a b c k;have e:dW N (dt ps w)=(longs ps w).length*wt (N - (w.length+1)):=by
  unfold dW dt;rw[LM];generalize longs ps w=l;induction l with
  | nil=>simp
  | cons t r ih=>simp[LX,UH]at ih ⊢;symm
 rw[e];rcases Nat.eq_zero_or_pos (longs ps w).length with z | z
 .rw[z];have:=xT (N - w.length);symm
 .obtain⟨r,d⟩:∃r,N - w.length=r+1:=⟨N - w.length - 1,by symm⟩;rw[d,show N - (w.length+1)=r by symm];show _<=1+(r+1)*wt r;have:(longs ps w).length*wt r<=(r+1)*wt r:=TJ _ (by symm);symm
end
section
variable{A:PHp}{w r q:Nat}{N:Nat}{ps:List (Int×Int)}{x:Int}{ld:List Int}
noncomputable def gw(ld:List Int)(c:List Int):Bool:=decide (P5 c∈ld)
structure FS(A B:PHp)(ps:List (Int×Int))(x:Int)(ld:List Int)(N:Nat)(H:List (List Int))(p m:Nat):Prop where
 pre:A<+:B
 aw:AW ps x H p
 wk:∀c∈H,Wk ps x c
 sk:B[A.length]?=some (.lst (((H.take p).filter (gw ld)).map tupI))
 sq:B[A.length+1]?=some (.lst ((H.drop p).map tupI))
 mm:dW N (H.drop p)=m
 sum:p+m<=326
def xW{H:List (List Int)}(h:p<H.length):H.take (p+1)=H.take p++[H[p]]:=by rw[NA,LB h];rfl
def JW{M:List Int}(d:a σ A=.ok (.int x) A)(f:b σ A=.ok (.tup (M.map .int)) A):eBin dv a b σ A=.ok (.bl (decide (x∈M))) A:=by
 refine oV d f ?_;obtain⟨v,c,e,rfl,rfl⟩:=mB (gj (x:=x) (M:=M) (A:=A) (Q:=λv c=>v=.bl (decide (x∈M))/\c=A) (E:=NoX) ⟨rfl,rfl⟩);exact e
def JX(Wb:be A w r N ps)(P:G3 N ps)(hx:0<=x/\x<N) :
 Wp (N3 [.ref w,.tup (ld.map .int),.int x]) A (λv A'=>A<+:A'/\∃(k:Nat)(H:List (List Int)),v=.ref k/\A.length<=k/\(∀c∈H,Wk ps x c)/\AW ps x H H.length/\H.length<=400/\A'[k]?=some (.lst ((H.filter (gw ld)).map tupI))) NoX:=by
 have hN:N<=6:=by have:=P.hi;symm
 have c4:wt (N - 1)<=326:=by
  have:N=0\/N=1\/N=2\/N=3\/N=4\/N=5\/N=6:=by symm
  rcases this with h | h | h | h | h | h | h<;>subst h<;>decide
 unfold N3;walk_at "fn";walk_at "go";have F0:FS A (A++[PO.lst []]++[PO.lst [PV.tup [PV.int x]]]) ps x ld N [[x]] 0 (wt (N - 1)):=by
  refine⟨D0 (D0 (LO _)),AW.start,λc g=>?_,by simp,by simp[tupI],by simp[dW],by symm⟩;rw[Ls]at g;subst g;exact⟨by simp,rfl,by simp,λi hi=>absurd hi (by simp)⟩
 have L:Wp (P4 [some (PV.ref w),some (PV.tup (ld.map .int)),some (PV.int x),some (PV.ref (List.length A)),some (PV.ref (List.length (A++[PO.lst []]))),none]) (A++[PO.lst []]++[PO.lst [PV.tup [PV.int x]]])
  (λo B=>∃H z,o=.nx [some (PV.ref w),some (PV.tup (ld.map .int)),some (PV.int x),some (PV.ref (List.length A)),some (PV.ref (List.length A+1)),z]/\FS A B ps x ld N H H.length 0) NoX:=by
  unfold P4;refine rJ (λm σ B=>∃H p z,σ=[some (PV.ref w),some (PV.tup (ld.map .int)),some (PV.int x),some (PV.ref (List.length A)),some (PV.ref (List.length A+1)),z]/\FS A B ps x ld N H p m) (m:=wt (N - 1)) (by symm) ⟨[[x]],0,none,by simp,F0⟩ ?_;rintro m σ B ⟨H,p,z,rfl,F⟩;refine w_eq (JM (q:=A.length+1) (ws:=H.drop p) rfl F.sq) ⟨λJ=>?_,λJ=>?_⟩
  .have l:p<H.length:=by
    rcases Nat.lt_or_ge p H.length with h | h
    .exact h
    .rw[Qo h]at J;simp at J
   have O:H.drop p=H[p]::H.drop (p+1):=by rw[Oq l]
   have I:=F.wk H[p] (Oa l);have d2:=sJ P.good hx I;generalize hW:H[p]=W at *;have n:(B++[PO.lst []])[A.length+1]?=some (.lst (tupI W::(H.drop (p+1)).map tupI)):=by
    have:=ak (o:=PO.lst []) F.sq;rw[O]at this;exact this
   have T:=ak (o:=PO.lst []) F.sk;have j:A<+:B++[PO.lst []]:=D0 F.pre;generalize B++[PO.lst []]=B1 at n T j;have s:A.length≠A.length+1:=by symm
   unfold T4;refine bw (cy (w_eq (JN rfl n) (E6 ?_)));have u:(B1.set (A.length+1) (.lst ((H.drop (p+1)).map tupI)))[A.length+1]?=some (.lst ((H.drop (p+1)).map tupI)):=aE n;have y:(B1.set (A.length+1) (.lst ((H.drop (p+1)).map tupI)))[A.length]?=some (.lst (((H.take p).filter (gw ld)).map tupI)):=by rw[C5 s];exact T
   have d:A<+:B1.set (A.length+1) (.lst ((H.drop (p+1)).map tupI)):=X5 j (by symm);generalize B1.set (A.length+1) (PO.lst ((H.drop (p+1)).map tupI))=B2 at u y d;have e0:((H.take p).filter (gw ld)).length<=326:=by
    have:=MI (gw ld) (H.take p);rw[MS]at this;have:=F.sum;symm
   refine bw (af (Q:=λo D=>o=.nx [some (PV.ref w),some (PV.tup (ld.map .int)),some (PV.int x),some (PV.ref (List.length A)),some (PV.ref (List.length A+1)),some (tupI W)]/\A<+:D/\D[A.length]?=some (.lst (((H.take (p+1)).filter (gw ld)).map tupI))/\D[A.length+1]?=some (.lst ((H.drop (p+1)).map tupI))) ?_ λo D ⟨ho,U,a9,Y⟩=>?_)
   .have b0:av (eBin dv (eBin oIx (ae 5) (eK (.int (-1)))) (ae 1)) [some (PV.ref w),some (PV.tup (ld.map .int)),some (PV.int x),some (PV.ref (List.length A)),some (PV.ref (List.length A+1)),some (tupI W)] B2=.ok (gw ld W) B2:=rZ (JW (xR (w:=W) rfl rfl (xQ I.ne)) rfl);refine kX (w_eq b0 ⟨λh=>?_,λh=>?_⟩)
    .walk_at "go";refine⟨rfl,X5 d (Lp _),?_,by rw[C5 s.symm];exact u⟩;rw[aE y,xW l,hW,NC,List.filter_cons,h];simp
    .refine X7 ⟨rfl,d,?_,u⟩;rw[y,xW l,hW,NC,List.filter_cons,h];simp
   subst ho;obtain⟨D',e,C,b1⟩:=JO (Wb.mono U) P I.ne (by symm);have a0:=ai C Y;have b2:=ai C a9;have e2:=JU N (H.drop (p+1));have e3:=xV P.nd P.good hx I;have a1:=F.mm;rw[O]at a1;have c0:dW N (H.drop (p+1))+wt (N - W.length)=m:=by
    rw[<-a1];simp[dW];symm
   have e4:=JV P.nd P.good hx I;have c1:=F.sum;have a2:aO (nv (ae 4) (C8 K0 (ag (ae 0) (ag (ae 5) aNil)))) [some (PV.ref w),some (PV.tup (ld.map .int)),some (PV.int x),some (PV.ref (List.length A)),some (PV.ref (List.length A+1)),some (tupI W)] D=.ok (.nx [some (PV.ref w),some (PV.tup (ld.map .int)),some (PV.int x),some (PV.ref (List.length A)),some (PV.ref (List.length A+1)),some (tupI W)]) (D'.set (A.length+1) (.lst ((H.drop (p+1)).map tupI++(dt ps W).map tupI))):=by
    have a3:((H.drop (p+1)).map tupI).length+((dt ps W).map tupI).length<=LIM:=aH (by unfold dt;simp only[Lo];symm);have E:(H.length - (p+1))+(longs ps W).length<=LIM:=by simpa[dt]using a3
    simp[Y,e,a0,b1,dt,E,LM]
   refine w_eq a2 ?_;have a4:=F.aw.next P.nd l
   rw[hW]at a4;have f:(H++dt ps W).drop (p+1)=H.drop (p+1)++dt ps W:=List.drop_append_of_le_length (by symm);have G:(H++dt ps W).take (p+1)=H.take (p+1):=QV (by symm);refine⟨dW N (H.drop (p+1))+dW N (dt ps W),by symm,H++dt ps W,p+1,_,rfl,X5 (U.trans C) (by symm),a4,λc g=>?_,?_,?_,?_,by symm⟩
   .rcases LY.mp g with g | g
    .exact F.wk c g
    .obtain⟨t,ht,rfl⟩:=Lv.mp g;exact I.app ht
   .rw[C5 s,G];exact b2
   .rw[aE a0,f,LZ]
   .rw[f,JT]
  .have l:p=H.length:=by
    have:H.drop p=[]:=by
     cases h:H.drop p with
     | nil=>rfl
     | cons a b=>rw[h]at J;simp at J
    have h1:=List.drop_eq_nil_iff.mp this;have:=F.aw.ple;symm
   subst l;have hm:m=0:=by have:=F.mm;rw[SR]at this;simpa[dW]using this.symm
   subst hm;exact⟨H,z,rfl,D0 F.pre,F.aw,F.wk,ak F.sk,ak F.sq,F.mm,F.sum⟩
 refine af L λo B zq=>?_;obtain⟨H,z,ho,F⟩:=zq;subst ho;walk_at "go";have hs:=F.sum;have hk:=F.sk;rw[MT]at hk;exact⟨F.pre,_,H,rfl,Lp _,F.wk,F.aw,by symm,hk⟩
end
def xX(w:List Int):P5 w=O6 w:=by unfold P5 O6;rw[PL]
def JY(hs:srt ps=ps)(w:List Int):dt ps w=n4 ps w:=by
 unfold dt longs n4 M6;rw[hs,xX,OY,LM,List.filter_filter];congr 1;refine List.filter_congr λp _=>?_;show(!decide (p.2∈w)&&decide (p.1=O6 w))=_;rw[Bool.and_comm]
theorem sL(ps:List (Int×Int))(x:Int):∀k,D6 ps x (k+1)=[x]::(D6 ps x k).flatMap (n4 ps)
 | 0=>rfl
 | k+1=>by
   rw[V0 ps x (k+1),sL ps x k,b7,QR,<-OI,<-V0,sL ps x k]
def JZ{N:Nat}{x:Int}(hs:srt ps=ps)(h:∀p∈ps,good N p)(i:0<=x/\x<N)(g:AW ps x H H.length)(j:∀c∈H,Wk ps x c):H=D6 ps x N:=by
 have e:=g.eq;rw[MT,show(dt ps)=n4 ps from funext λw=>JY hs w]at e;have d:∀k,∃T,H=D6 ps x k++T/\∀w∈T,k<w.length:=λk=>by
  induction k with
  | zero=>exact⟨H,rfl,λw a=>g.pos w a⟩
  | succ k ih=>
    obtain⟨T,b,f⟩:=ih;refine⟨T.flatMap (n4 ps),?_,λw a=>?_⟩
    .rw[sL,QR,<-OI,<-b];exact e
    .obtain⟨v,l,a⟩:=QU.mp a;obtain⟨y,rfl,_⟩:=mem_exts.mp a;have:=f v l;simp;symm
 obtain⟨T,b,f⟩:=d N;cases T with
 | nil=>rw[b,MM]
 | cons w T=>
   have:=f w Lz;have:=sJ h i (j w (by rw[b];simp));symm
def eu(H:bz A c S)(hs:srt c.ps=c.ps){h:Int}(e:0<=h/\h<c.N):Wp (J7 [.ref c.G,.int h]) A
 (λv A'=>A<+:A'/\∃n,v=.ref n/\A'[n]?=some (.lst (cq ((chainsOf c.ps c.L c.N h).filter λw=>canB c S w)))) NoX:=by
 unfold J7;have B:=H.ob;have C:=H.plan.ob;walk_at "fn";walk_at "gb";refine af (JX H.plan.web H.pg e) λv D a=>?_;obtain⟨p1,k,G,rfl,E,m,f,s,g⟩:=a;have u:=H.mono p1;have I:=H.pg.hi;have i:∀w∈G.filter (gw c.L),w≠[]/\w.length<=6:=λw d=>by
  have o:=m w (Mg.mp d).1;have:=sJ H.pg.good e o;exact⟨NN.mp o.ne,by symm⟩
 have l:(G.filter (gw c.L)).length<=400:=LW (MI _ _) s;have y:G.filter (gw c.L)=chainsOf c.ps c.L c.N h:=by
  rw[JZ hs H.pg.good e f m];unfold chainsOf;refine List.filter_congr λw _=>?_;unfold gw;rw[xX]
 rw[y]at i l g;generalize chainsOf c.ps c.L c.N h=W at *;refine E6 ?_;dsimp only[List.set];walk_at "gb";unfold aU;refine m6 W tupI tupI (λw=>canB c S w) (λp=>∃x,p=[x,some (.ref c.G)]) ?_;walk_at "go";refine⟨_,aY g,by rw[Lo];exact Lp _,aH (by symm),⟨_,rfl⟩,λj q b=>R9 (ai b g) j,?_,λq b=>?_⟩
 .rintro w p q d ⟨x,rfl⟩ b;have r:=u.mono b;have z:=r.ob;walk_at "go";refine⟨rfl,⟨_,rfl⟩,?_⟩;walk_at "go";refine af (gq r (i w d).1 (by have:=(i w d).2;symm)) λv J a=>?_;obtain⟨rfl,rfl⟩:=a;refine⟨_,rfl,rfl,LO _,λ_=>?_⟩;walk_at "go";exact⟨rfl,LO _⟩
 .exact⟨D0 (p1.trans b),_,rfl,aq⟩
structure bU(B:PHp)(c:bE)(S:LS)(W:List ((Int×Int)×Nat))(a q lv d fa sc:Nat)(cells:List Int)(i:Nat):Prop where
 led:bz B c S
 st:cT B a S W
 ask:fq B q lv d fa c
 cs:B[sc]?=some (.lst (cells.map .int))
 ro:∀p,∀r∈rowsAt S p,(r.2≠[]/\r.2.getLast?.getD 0∈c.L)/\r.2.length<=6/\(M0 S p).isSome=true
 ms:S.m<=i
 dj:∀x∈sown a W,x∉dom c S
 fo:∀x,x=q\/x=lv\/x=d\/x=fa\/x=sc->x∉own c S/\x∉sown a W
def m9(c:bE)(S:LS):∀a∈own c S,a∈dom c S:=λa h=>by
 unfold dom;simp only[Lu];exact .inr (.inr (.inr (.inr (.inr (.inr (.inr h))))))
def xY(H:bz A c S)(p:Int×Int):(rowsAt S p).length<=S.m:=by
 unfold rowsAt;cases h:S5 S p with
 | none=>simp
 | some e=>
   have:=H.sz.2.2.2 _ (b4 h);simp at *;symm
section
variable{B B1 B2:PHp}{c:bE}{S S':LS}{W W':List ((Int×Int)×Nat)}{a q lv d fa sc:Nat}{cells:List Int}{i:Nat}
def bU.mono(H:bU B c S W a q lv d fa sc cells i)(p:B<+:B1):bU B1 c S W a q lv d fa sc cells i:=
 ⟨H.led.mono p,H.st.mono p,H.ask.mono p,ai p H.cs,H.ro,H.ms,H.dj,H.fo⟩
def bU.next(H:bU B c S W a q lv d fa sc cells i):bU B c S W a q lv d fa sc cells (i+1):=⟨H.led,H.st,H.ask,H.cs,H.ro,Sg H.ms,H.dj,H.fo⟩
def bU.lts(H:bU B c S W a q lv d fa sc cells i):∀x,x=q\/x=lv\/x=d\/x=fa\/x=sc->x<B.length:=λx b=>by
 rcases b with h | h | h | h | h
 .exact H.ask.lt x (.inl h)
 .exact H.ask.lt x (.inr (.inl h))
 .exact H.ask.lt x (.inr (.inr (.inl h)))
 .exact H.ask.lt x (.inr (.inr (.inr h)))
 .rw[h];exact C6 H.cs
def bU.apart(H:bU B c S W a q lv d fa sc cells i)(st:cK c S S' B B1):∀x∈sown a W,x∉dom c S':=λx e z=>by
 have b:=H.dj x e;have f:=oX st (H.st.lt x e) λz=>b (m9 _ _ x z);unfold dom at z b;simp only[Lu,not_or]at z b;rcases z with z | z | z | z | z | z | z | z
 .exact b.1 z
 .exact b.2.1 z
 .exact b.2.2.1 z
 .exact b.2.2.2.1 z
 .exact b.2.2.2.2.1 z
 .exact b.2.2.2.2.2.1 z
 .exact b.2.2.2.2.2.2.1 z
 .exact f z
def bU.lst(H:bU B c S W a q lv d fa sc cells i)(st:cK c S S' B B1):cT B1 a S W:=H.st.keep λx b o h=>st.keep x o h λz=>H.dj x b (m9 _ _ x z)
structure eL(c:bE)(a:Nat)(S S':LS)(W W':List ((Int×Int)×Nat))(B B':PHp):Prop where
 len:B.length<=B'.length
 keep:∀x o,B[x]?=some o->x∉own c S->x∉sown a W->B'[x]?=some o
 foot:∀x,x∈own c S'\/x∈sown a W'->(x∈own c S\/x∈sown a W)\/B.length<=x
 rest:∀x,x∈dom c S'->x∈dom c S\/B.length<=x
def eL.pre(p:B<+:A):eL c a S S W W B A:=⟨p.length_le,λx o h _ _=>ai p h,λx h=>.inl h,λx h=>.inl h⟩
def eL.after(p:A<+:B)(h:eL c a S S' W W' B B1):eL c a S S' W W' A B1:=
 ⟨LW p.length_le h.len,λx o q n m=>h.keep x o (ai p q) n m,λx q=>(h.foot x q).imp id λz=>LW p.length_le z,λx q=>(h.rest x q).imp id λz=>LW p.length_le z⟩
def xZ(st:cK c S S' B B1)(z:x∈own c S'):x∈own c S\/B.length<=x:=by
 by_cases e:x<B.length
 .by_cases b:x∈own c S
  .exact .inl b
  .exact absurd z (oX st e b)
 .exact .inr (by symm)
def sM(st:cK c S S' B B1)(b:mK a W W' B1 B2):eL c a S S' W W' B B2:=by
 have e:=st.len;have l2:=b.len;refine⟨LW e l2,λx o h n m=>b.keep x o (st.keep x o h n) m,λx h=>?_,λx h=>?_⟩
 .rcases h with h | h
  .exact(xZ st h).imp .inl id
  .exact(b.new x h).imp .inr λz=>LW e z
 .unfold dom at h ⊢;simp only[Lu]at h ⊢;rcases h with z | z | z | z | z | z | z | z
  .exact .inl (.inl z)
  .exact .inl (.inr (.inl z))
  .exact .inl (.inr (.inr (.inl z)))
  .exact .inl (.inr (.inr (.inr (.inl z))))
  .exact .inl (.inr (.inr (.inr (.inr (.inl z)))))
  .exact .inl (.inr (.inr (.inr (.inr (.inr (.inl z))))))
  .exact .inl (.inr (.inr (.inr (.inr (.inr (.inr (.inl z)))))))
  .exact(xZ st z).imp (λz=>.inr (.inr (.inr (.inr (.inr (.inr (.inr z))))))) id
def bU.keep(H:bU B c S W a q lv d fa sc cells i)(k:∀x,x∈dom c S\/x∈sown a W\/x=q\/x=lv\/x=d\/x=fa\/x=sc->∀o,B[x]?=some o->B1[x]?=some o):bU B1 c S W a q lv d fa sc cells i:=
 ⟨H.led.keep λx b=>k x (.inl b),H.st.keep λx b=>k x (.inr (.inl b)),H.ask.keep λx b=>k x (by rcases b with h | h | h | h<;>simp[h]),k _ (by simp) _ H.cs,H.ro,H.ms,H.dj,H.fo⟩
def bU.step(H:bU B c S W a q lv d fa sc cells i)(L:bz B1 c S')(st:cK c S S' B B1)(f:cT B2 a S' W')(e:mK a W W' B1 B2)
 (g:∀p,∀r∈rowsAt S' p,(r.2≠[]/\r.2.getLast?.getD 0∈c.L)/\r.2.length<=6/\(M0 S' p).isSome=true) (j:S'.m<=i+1):bU B2 c S' W' a q lv d fa sc cells (i+1):=by
 have k:∀x,x=q\/x=lv\/x=d\/x=fa\/x=sc->∀o,B[x]?=some o->B2[x]?=some o:=λx b o h=>e.keep x o (st.keep x o h (H.fo x b).1) (H.fo x b).2;refine⟨L.keep λx b o h=>e.keep x o h λz=>H.apart st x z b,f,H.ask.keep λx b=>k x ?_,k sc (by simp) _ H.cs,g,j,λx b z=>?_,λx b=>⟨oX st (H.lts x b) (H.fo x b).1,λz=>?_⟩⟩
 .rcases b with h | h | h | h<;>simp[h]
 .rcases e.new x b with y | y
  .exact H.apart st x y z
  .have:=L.dlt x z;symm
 .rcases e.new x z with y | y
  .exact(H.fo x b).2 y
  .have:=H.lts x b;have:=st.len;symm
def Ka(H:bU B c S W a q lv d fa sc cells i)(st:cK c S { S with now:=S.now+1 } B B1):eL c a S { S with now:=S.now+1 } W W B (B1.set a (.dS (cZ (S.now+1) a))):=
 sM st ⟨by simp,λx o h n=>(C5 λz=>n (by rw[z];simp[sown])).trans h,λx e=>.inl e⟩
def bU.move(H:bU B c S W a q lv d fa sc cells i)(L:bz B1 c { S with now:=S.now+1 })(st:cK c S { S with now:=S.now+1 } B B1):bU (B1.set a (.dS (cZ (S.now+1) a))) c { S with now:=S.now+1 } W a q lv d fa sc cells (i+1):=by
 have b:=H.lst st;have m:=C6 b.ul;have g:∀x o,B1[x]?=some o->x≠a->(B1.set a (.dS (cZ (S.now+1) a)))[x]?=some o:=λx o h n=>(C5 n).trans h;refine H.step L st (W':=W) ⟨aE b.ob,g _ _ b.tl (by symm),g _ _ b.sl (by symm),g _ _ b.ul (by symm),λe j=>g _ _ (b.rows e j) (by have:=b.hi e j;symm),b.ks,b.hi,b.an⟩ ⟨by simp,λx o h n=>g x o h λz=>n (by rw[z];simp[sown]),λx l=>.inl l⟩ H.ro (Sg H.ms)
def Kb(h:X0 c S p ch=0):(p∈c.ps/\iY c.N c.ps c.L ch/\ch.head?=some p.2)/\bu S p=true:=by
 unfold X0 at h;by_cases b:p∈c.ps/\iY c.N c.ps c.L ch/\ch.head?=some p.2
 .refine⟨b,?_⟩;rw[if_pos b]at h;by_cases e:bu S p=true
  .exact e
  .rw[if_neg e]at h;cases h
 .rw[if_neg b]at h;cases h
def Kc(P:G3 c.N c.ps)(h:X0 c S p ch=0):(ch≠[]/\ch.getLast?.getD 0∈c.L)/\ch.length<=6/\(M0 S p).isSome=true:=by
 obtain⟨⟨l,g,m⟩,f⟩:=Kb h;obtain⟨b,n⟩:=g.1;have o:=P.good p l;have j:0<=p.2/\p.2<c.N:=by unfold good at o;symm
 have r:=(b8 P.good j _).mp (Mg.mp ((u8 P j).mpr ⟨g,m⟩)).1;refine⟨⟨b,?_⟩,?_,?_⟩
 .have:=sy b;unfold O6 at this;rw[<-this];exact n
 .have:=r.len;have:=P.hi;symm
 .unfold bu at f;cases e:M0 S p with
  | none=>rw[e]at f;cases f
  | some _=>rfl
def bU.lays(H:bU B c S W a q lv d fa sc cells i):S.lays.length<64:=by
 have:=H.led.ln.length_le_of_subset (l₂:=c.ps) H.led.lp;have:=H.led.pg.len;simp at *;symm
def eM(h:k≠0):mJ k=o9 k/\decide (o9 k=("none" : Nf))=false:=by
 refine⟨if_neg h,?_⟩;unfold o9;split<;>rfl
def lh(f g:bE)(h j:LS)(l m:List ((Int×Int)×Nat))(n o q b p e sc:Nat):Prop:=
 ∀x,x∈own f h\/x∈sown n l->x∉dom g j/\x∉sown o m/\¬(x=q\/x=b\/x=p\/x=e\/x=sc)
end
def bU.dlt(H:bU B c1 S1 W1 a1 q lv1 d1 fa1 sc cells i):∀x,x∈dom c1 S1\/x∈sown a1 W1\/x=q\/x=lv1\/x=d1\/x=fa1\/x=sc->x<B.length:=λx a=>by
 rcases a with h | h | h
 .exact H.led.dlt x h
 .exact H.st.lt x h
 .exact H.lts x h
def other(a:bU B c1 S1 W1 a1 q lv1 d1 fa1 sc cells j)(ch:eL c0 a0 S0 S0' W0 W0' B B1)(c:lh c0 c1 S0 S1 W0 W1 a0 a1 q lv1 d1 fa1 sc):bU B1 c1 S1 W1 a1 q lv1 d1 fa1 sc cells j/\lh c0 c1 S0' S1 W0' W1 a0 a1 q lv1 d1 fa1 sc:=by
 refine⟨a.keep λx b o h=>ch.keep x o h (λz=>?_) λz=>?_,λx b=>?_⟩
 .obtain⟨d,e,f⟩:=c x (.inl z);rcases b with h | h | h
  .exact d h
  .exact e h
  .exact f h
 .obtain⟨d,e,f⟩:=c x (.inr z);rcases b with h | h | h
  .exact d h
  .exact e h
  .exact f h
 .rcases ch.foot x b with h | h
  .exact c x h
  .refine⟨λz=>?_,λz=>?_,λz=>?_⟩
   .have:=a.dlt x (.inl z);symm
   .have:=a.dlt x (.inr (.inl z));symm
   .have:=a.dlt x (.inr (.inr z));symm
def ya(c:bU B c1 S1 W1 a1 q lv1 d1 fa1 sc cells j)(ch:eL c0 a0 S0 S0' W0 W0' B B1)(d:lh c1 c0 S1 S0 W1 W0 a1 a0 q lv0 d0 fa0 sc):lh c1 c0 S1 S0' W1 W0' a1 a0 q lv0 d0 fa0 sc:=λx a=>by
 obtain⟨b,e,f⟩:=d x a;have g:x<B.length:=c.dlt x (a.imp (m9 _ _ x) .inl);refine⟨λz=>?_,λz=>?_,f⟩
 .rcases ch.rest x z with h | h
  .exact b h
  .symm
 .rcases ch.foot x (.inr z)with h | h
  .rcases h with h | h
   .exact b (m9 _ _ x h)
   .exact e h
  .symm
inductive Dk:PV->Prop
 | lay (p:Int×Int):Dk (u5 p)
 | say (p:Int×Int) (ch:List Int) (h:ch.length<100):Dk (u6 p ch)
def yb{d:Type}{l:List d}(c:l≠[])(f:d->PV)(g:0<=x):∃w∈l,atI (l.map f) (x%((l.map f).length:Nat))=some (f w):=by
 have h:0<l.length:=NN.mpr c;obtain⟨k,e⟩:∃k:Nat,x%((l.map f).length:Nat)=k:=⟨(x%((l.map f).length:Nat)).toNat,(Rw (OZ _ (by rw[Lo];symm))).symm⟩;have a:k<l.length:=by
  have:=OT x (b:=((l.map f).length:Nat)) (by rw[Lo];symm);rw[e,Lo]at this;symm
 refine⟨l[k],Oa a,?_⟩;rw[e];exact IA (by rw[LL,LB a];rfl)
def yc{b:Type}{l:List b}(a:l≠[])(f:b->PV):(0:Int)<((l.map f).length:Nat):=by
 have c:0<l.length:=NN.mpr a;rw[Lo];symm
def Kd(H:cT A a S W)(m:A[fa]?=some (.lst (c.fr.map .int))){M:List (List Int)}(e:A[n]?=some (.lst (cq M)))(f:∀w∈M,w≠[]/\w.length<=6)(o:M.length<=56000) :
 Wp (S3 [p,r,s,some (.ref fa),some (.ref a),u,some (.ref n)]) A (λv A'=>∃k,v=.ref k/\A<+:A'/\A'[k]?=some (.lst (cq (M.filter λw=>canB c S w)))) NoX:=by
 unfold S3;refine m6 M tv tv (λw=>canB c S w) (λg=>∃x,g=[x,some (.ref a),some (.ref fa)]) ?_;walk_at "go";refine⟨_,aY e,by unfold cq;rw[Lo];exact Lp _,LW o xE,⟨_,rfl⟩,λj h b=>R9 (ai b e) j,?_,λh b=>⟨_,rfl,D0 b,aq⟩⟩;rintro w g h l ⟨x,rfl⟩ b;walk_at "go";refine⟨rfl,⟨_,rfl⟩,?_⟩;walk_at "go";refine af (dQ (H.mono b) (ai b m) (f w l).1 (f w l).2) λv z y=>?_;obtain⟨rfl,rfl⟩:=y;refine⟨_,rfl,rfl,LO _,λ_=>?_⟩;walk_at "go";exact⟨rfl,LO _⟩
def iu{N:Nat}{U:List Int}(P:G3 N ps)(u:A[q]?=some (.lst (aG ps)))(C:A[l]?=some (.lst (U.map .int)))(f:ps≠[])(L:0<=x):Wp (Q7 [.ref q,.ref l,.int x]) A (λv A'=>Dk v/\A<+:A') NoX:=by
 unfold Q7;obtain⟨p,D,m⟩:=yb f pv (x:=x / 3) (by symm);have g:=yc f pv;have E:=P.good p D;have y:0<=p.2/\p.2<N:=by unfold good at E;symm
 walk_at "fn";walk_at "gb";refine w_mod ?_ ?_
 .simpa[aG]using g
 refine dM u m ?_;walk_at "gb";refine gi (show atI [PV.int p.1,.int p.2] 1=some (.int p.2)from rfl) ?_;walk_at "gb";refine af (cO P u y C) λv G o=>?_;obtain⟨n,rfl,_,p1,z⟩:=o;have H:∀w∈chainsOf ps U N p.2,w.length<=6:=λw r=>by
  have k:=(b8 P.good y _).mp (Mg.mp r).1;have:=k.len;have:=P.hi;symm
 generalize chainsOf ps U N p.2=M at *;walk_at "gb";refine⟨λI=>?_,λI=>?_⟩
 .walk_at "gb";exact⟨.lay p,p1⟩
 .walk_at "gb";refine eD (ak z) aq ⟨bo _,rfl⟩ ?_;have J:eqvs (cq M) []=decide (M=[]):=by cases M<;>rfl
  rw[J];refine⟨_,rfl,λh=>?_,λh=>?_⟩
  .walk_at "gb";exact⟨.lay p,D0 p1⟩
  .have b:M≠[]:=of_decide_eq_false h;obtain⟨w,r,j⟩:=yb b tv (x:=x / 100) (by symm);have e:=yc b tv;have s:(G++[PO.lst []])[n]?=some (.lst (cq M)):=ak z;walk_at "gb";refine w_mod e ?_;refine dM s j ?_;walk_at "gb";exact⟨.say p w (by have:=H w r;symm),D0 p1⟩
def ft(H:bU B c S W a q lv d fa sc cells i)(hi:i<800)(T:Dk v) :
 Wp (N7 [.ref a,gD q lv d,.ref fa,v]) B (λw o=>∃k,w=.str (mJ k)/\B<+:o/\Wp (J4 [.ref c.G,v]) o (λu s=>
  (u=.str "none"/\k=0/\Wp (N8 [.ref a,v]) s (λ_ x=>∃I J,bU x c I J a q lv d fa sc cells (i+1)/\eL c a S I W J B x) NoX)\/(u=.str (o9 k)/\k≠0/\B<+:s)) NoX) NoX:=by
 have L:=H.lays;cases T with
 | lay p=>
   refine af (Jz H.st H.ask p) λw o g=>?_;obtain⟨rfl,h⟩:=g;have m:=H.mono h;refine⟨_,rfl,h,af (Ja m.led p) λu s g=>?_⟩;rcases g with⟨rfl,b,y,st⟩ | ⟨rfl,b,z⟩
   .have N:M0 S p=none:=by
     unfold d6 at b;by_cases O:p∈c.ps
     .rw[if_pos O]at b;cases e:M0 S p with
      | none=>rfl
      | some _=>rw[e]at b;cases b
     .rw[if_neg O]at b;cases b
    have f:rowsAt S p=[]:=by
     cases e:rowsAt S p with
     | nil=>rfl
     | cons r l=>
       have:=(H.ro p r (by rw[e];exact Lz)).2.2;rw[N]at this;cases this
    refine .inl ⟨rfl,b,af (JC (m.lst st) N f (by symm)) λ_ x g=>?_⟩;obtain⟨_,C,n⟩:=g;refine⟨_,_,m.step y st C n (λq r f=>?_) (Sg H.ms),(sM st n).after h⟩;obtain⟨U,Y,D⟩:=H.ro q r f;refine⟨U,Y,?_⟩;unfold M0 b6;rw[xx];unfold M0 at D;cases e:look S.lays q with
    | none=>rw[e]at D;cases D
    | some _=>rfl
   .exact .inr ⟨rfl,b,h.trans z⟩
 | say p ch Q=>
   refine af (JA H.st H.ask p Q) λw o g=>?_;obtain⟨rfl,h⟩:=g;have m:=H.mono h;have hm:=H.ms;refine⟨_,rfl,h,af (IZ m.led p Q (by symm)) λu s g=>?_⟩;rcases g with⟨rfl,b,ad,y,st⟩ | ⟨rfl,b,z⟩
   .have j:=Kc H.led.pg b;have h1:=xY H.led p;have h2:=H.led.sz.2.2.1;refine .inl ⟨rfl,b,af (JD (ad:=ad) (m.lst st) j.2.2 (by symm) (by symm) H.led.kn H.led.ln) λ_ x g=>?_⟩;obtain⟨_,C,n⟩:=g;refine⟨_,_,m.step y st C n (λq r f=>?_) (Nat.succ_le_succ hm),(sM st n).after h⟩;rw[xJ H.led.kn]at f;by_cases E:q=p
    .rw[if_pos E]at f;rcases LY.mp f with f | f
     .exact H.ro q r f
     .rw[Ls.mp f,E];exact j
    .rw[if_neg E]at f;exact H.ro q r f
   .exact .inr ⟨rfl,b,h.trans z⟩
set_option maxHeartbeats 1000000 in
def gx(H:bU B c S W a q lv d fa sc cells i)(hs:srt c.ps=c.ps){h:Int}(e:0<=h/\h<c.N):Wp (P3 [.tup [gD q lv d,.ref fa,.ref a,.ref c.G],.int h]) B (λv o=>v=.bl true/\B<+:o) NoX:=by
 unfold P3;have C:=H.led.ob;walk_at "fn";walk_at "gb";refine af (cO H.ask.pg H.ask.pq e H.ask.ll) λv D b=>?_;obtain⟨n,rfl,_,p1,p⟩:=b;have f:=H.mono p1;have r:=f.led.ob;walk_at "gb";refine af (eu f.led hs e) λv E b=>?_;obtain⟨g,m,rfl,s⟩:=b;have j:=f.mono g;have u:∀w∈chainsOf c.ps c.L c.N h,w≠[]/\w.length<=6:=λw x=>by
  have k:=(b8 H.ask.pg.good e _).mp (Mg.mp x).1;have:=k.len;have:=H.ask.pg.hi;exact⟨k.ne,by symm⟩
 have y:(chainsOf c.ps c.L c.N h).length<=56000:=LW (MI _ _) (sD H.ask.pg.good H.ask.pg.nd (by have:=H.ask.pg.hi;symm) _ (by have:=H.ask.pg.hi;symm));refine af (Kd j.st j.ask.ff (ai g p) u y) λv I b=>?_;obtain⟨k,rfl,l,z⟩:=b;refine eD (ai l s) z ⟨bo _,bo _⟩ ?_;exact⟨by rw[(qa _ _ (bo _)).mpr rfl],(p1.trans g).trans l⟩
def Ke{ns:List Int}(h:A[a]?=some (.ro (ns.map .int)))(k:Nat):L8 [.ref a,.int k] A=.ok (.int (ns.getD k 0)) A:=by
 have e:Wp (L8 [.ref a,.int k]) A (λv d=>v=.int (ns.getD k 0)/\d=A) NoX:=by
  unfold L8;walk_at "fn";walk_at "gb";refine⟨λc=>?_,λc=>?_⟩
  .have b:k<ns.length:=by simpa using c
   have f:atI (ns.map PV.int) (k:Int)=some (.int (ns.getD k 0)):=by
    rw[wW (by rw[Lo];exact b),QT];simp[b]
   walk_at "gb";exact⟨rfl,rfl⟩
  .have b:¬k<ns.length:=by simpa using c
   walk_at "gb";exact⟨by simp[b],rfl⟩
 obtain⟨v,d,e,rfl,rfl⟩:=mB e;exact e
def Kf{ps:List (Int×Int)}(a:ps.Nodup)(h:ps[i]?=some p):ps.idxOf p=i:=by
 obtain⟨b,rfl⟩:=LA.mp h;exact a.idxOf_getElem i b
noncomputable def Y4(a k:Int)(ps:List (Int×Int))(p:Int×Int):Int:=mx a (100+30*k+ps.idxOf p)%10
def ez(z:0<=k/\k<=5)(n:ps.Nodup)(l:A[q]?=some (.lst (aG ps)))(C:ps.length<=100):Wp (U6 (o::some (.ref q)::r::some (.int d)::some (.int k)::s)) A
 (λv u=>v=.ref A.length/\u=A++[.lst (ps.map λp=>.tup [pv p,.int (Y4 d k ps p)])]) NoX:=by
 unfold U6;refine mF ?_;walk_at "go";refine⟨(Mo ps.length).zipWith (λi p=>PV.tup [.int (i:Nat),pv p]) ps,ps.length,λi a f B=>B=A/\(∃x y,f=[x,y,some (.int d),some (.int k)])/\a=(ps.take i).map λp=>PV.tup [pv p,.int (Y4 d k ps p)],?_,by simp,⟨rfl,⟨_,_,rfl⟩,rfl⟩,λi a f B b=>?_,λi v a f B c b=>?_,λa f B b=>?_⟩
 .show ao (E7 q) _ A=_;rw[ay (G8 l)];simp[aG,ret]
 .obtain⟨rfl,_,_⟩:=b;show ao (E7 q) _ _=_;rw[ay (G8 l)];unfold aG;simp only[ret];congr 1;rw[LL,Tv];by_cases h:i<ps.length
  .simp[h]
  .simp[h]
 .obtain⟨rfl,⟨x,y,rfl⟩,rfl⟩:=b;rw[Tv]at c;have m:i<ps.length:=by
   by_cases h:i<ps.length
   .exact h
   .simp[h]at c
  obtain⟨p,g⟩:∃p,ps[i]?=some p:=⟨_,LB m⟩;have j:v=.tup [.int (i:Nat),pv p]:=by
   rw[g]at c;simp[m]at c;exact c.symm
  subst j;have w:ps.take (i+1)=ps.take i++[p]:=by rw[NA,g];rfl
  walk_at "go";refine w_mul (.inl (by decide)) ?_;walk_at "go";refine w_eq (bF _ _ _) ?_;walk_at "go";refine⟨rfl,⟨_,_,rfl⟩,?_⟩;rw[w,LZ];unfold Y4;simp[Kf n g]
 .obtain⟨rfl,_,rfl⟩:=b;have e:((Mo ps.length).zipWith (λi p=>PV.tup [.int (i:Nat),pv p]) ps).length=ps.length:=by simp
  rw[e,MT];exact⟨aH (by rw[Lo];symm),rfl,rfl⟩
noncomputable def bitsL(x:Int)(N:Nat):List Int:=(S4 N).filter λk=>decide (Nl (x / 2 ^ k.toNat) 1=1)
def du{N:Nat}(e:N<=6):Wp (Q5 [.int x,.int N]) A (λv b=>v=.ref A.length/\b=A++[.lst ((bitsL x N).map .int)]) NoX:=by
 unfold Q5;walk_at "fn";walk_at "go";unfold X8;refine U1 (l:=(S4 N).map .int) (λa=>∃y,a=[y,some (.int x)]) (λv=>match v with | .int k=>decide (Nl (x / 2 ^ k.toNat) 1=1) | _=>false) (λv=>v) ?_;walk_at "go";refine⟨by simp[aT],aH (by simp[aT];symm),⟨_,rfl⟩,λi=>by rw[oP,Jb],?_,rfl,?_⟩
 .rintro v a c ⟨y,rfl⟩;obtain⟨k,d,rfl⟩:=Lv.mp c;have:=mem_hands.mp d;walk_at "go";refine⟨rfl,⟨_,rfl⟩,?_⟩;walk_at "go";refine⟨rfl,rfl,λ_=>?_⟩;walk_at "go";exact⟨rfl,rfl⟩
 .congr 3;unfold bitsL;rw[OY,LM];rfl
def Kg:∀N:Nat,2<=N->N<=5->∀v:Nat,1<=v->v<=2 ^ N - 1->bitsL (v:Int) N≠[]:=by
 have a:∀N:Fin 6,∀v:Fin 32,2<=N.val->1<=v.val->v.val<=2 ^ N.val - 1->(bitsL (v.val:Int) N.val).isEmpty=false:=by decide +kernel
 intro N b c v d e z;have f:2 ^ N<=2 ^ 5:=QZ (by decide) c;have:=a ⟨N,by symm⟩ ⟨v,by symm⟩ b d e;simp only at this;rw[z]at this;cases this
def Kh(h:bitsL x N≠[]):j8 N (bitsL x N)=true/\(bitsL x N).Nodup/\(bitsL x N).length<=N:=by
 have e:(bitsL x N).Pairwise (·< ·):=(j6 N).filter _;have a:∀y∈bitsL x N,0<=y/\y<(N:Int):=λy d=>mem_hands.mp (Mg.mp d).1;have b:(bitsL x N).Nodup:=e.imp λh z=>by symm
 refine⟨lead_iff.mpr ⟨sm e ((j6 N).filter _) λy=>?_,h⟩,b,?_⟩
 .rw[Mg,mem_hands];exact⟨λc=>⟨a y c,decide_eq_true c⟩,λc=>of_decide_eq_true c.2⟩
 .have:=b.length_le_of_subset (l₂:=S4 N) λy d=>mem_hands.mpr (a y d)
  rwa [aT]at this
def Ki(q:Q (.ref A.length) (A++[.dS (cZ 1 A.length),.dT [],.dT [],.dT []])):Wp (dw [("turn",eK (.int 1)),("lays",eTNew),("says",eTNew),("shown",eTNew)] σ) A Q E:=by
 refine B6 (w_eq (a:=.ref A.length) (A':=A++[.dS []]) rfl ?_);refine B6 (w_eq (a:=([("turn",.int 1),("lays",.ref (A.length+1)),("says",.ref (A.length+2)),("shown",.ref (A.length+3))]:List (Nf×PV))) (A':=A++[.dS [],.dT [],.dT [],.dT []]) ?_ ?_)
 .simp[lH,eTNew]
 .refine B6 (sG (m:=[]) (by simp) ?_);refine B6 (w_eq (a:=()) (A':=A++[.dS (cZ 1 A.length),.dT [],.dT [],.dT []]) ?_ (hJ q));show R.ok () ((A++[PO.dS [],.dT [],.dT [],.dT []]).set A.length _)=_;rw[Tp _ _ (Lp _)];simp;rfl
abbrev LS0:LS:=⟨1,[],[],[],0⟩
set_option maxHeartbeats 1000000 in
def Kj{w q r N:Nat}(Wb:be A w r N ps)(P:G3 N ps)(hq:A[q]?=some (.lst (aG ps)))(c4:ps.length<=36)(C:2<=N/\N<=5)(hk:0<=k/\k<=5) :
 Wp (Q6 [.ref w,.ref q,.int N,.int g,.int k]) A (λv A'=>A<+:A'/\∃c T d U a,v=.tup [gD q T d,.ref U,.ref a,.ref c.G]/\(c.N=N/\c.ps=ps)/\bz A' c LS0/\cT A' a LS0 []/\fq A' q T d U c/\(c.L.length<=6/\∀x∈c.L,0<=x/\x<=5)/\(A.length<=T/\A.length<=d/\A.length<=U/\A.length<=a)/\(T<a/\d<a/\U<a/\a+4<=c.G)/\∀x∈dom c LS0,x=w\/x=r\/a+4<=x) NoX:=by
 unfold Q6;walk_at "fn";walk_at "gb";refine w_eq (bF _ _ _) ?_;walk_at "gb";have m1:=sE g (10+k);obtain⟨x,hx,o⟩:∃x:Nat,1+mx g (10+k)%(1*2 ^ (N:Int).toNat - 1)=(x:Int)/\1<=x/\x<=2 ^ N - 1:=by
  have s:N=2\/N=3\/N=4\/N=5:=by symm
  refine⟨(1+mx g (10+k)%(1*2 ^ (N:Int).toNat - 1)).toNat,?_⟩;rcases s with rfl | rfl | rfl | rfl<;>simp<;>symm
 have D:=Kg N C.1 C.2 x o.1 o.2;have l:(0:Int)<1*2 ^ (N:Int).toNat - 1:=by
  have s:N=2\/N=3\/N=4\/N=5:=by symm
  rcases s with rfl | rfl | rfl | rfl<;>decide
 refine w_mod l ?_;walk_at "gb";rw[hx];refine af (du (by symm)) λv n i=>?_;obtain⟨rfl,rfl⟩:=i;obtain⟨u,b1,a3⟩:=Kh D;have E:∀y∈bitsL (x:Int) N,0<=y/\y<=5:=λy Y=>by have:=mem_hands.mp (Mg.mp Y).1;symm
 generalize bitsL (x:Int) N=L at *;clear hx o l D m1;have q2:A<+:A++[PO.lst (L.map .int)]:=Lw _ _;have H:(A++[PO.lst (L.map .int)])[A.length]?=some (.lst (L.map .int)):=aq;have n2:A.length<(A++[PO.lst (L.map .int)]).length:=by simp
 generalize A++[PO.lst (L.map .int)]=n at *;walk_at "gb";refine w_eq (bF _ _ _) ?_;walk_at "gb";refine af (du (by symm)) λv h i=>?_;obtain⟨rfl,rfl⟩:=i;have b2:(bitsL (mx g (12+k)) N).length<=6:=LW (MI _ _) (by rw[aT];symm);generalize bitsL (mx g (12+k)) N=z at *;have q3:n<+:n++[PO.lst (z.map .int)]:=Lw _ _;have a4:(n++[PO.lst (z.map .int)])[n.length]?=some (.lst (z.map .int)):=aq;have n3:n.length<(n++[PO.lst (z.map .int)]).length:=by simp
 generalize n++[PO.lst (z.map .int)]=h at *;have p3:=q2.trans q3;walk_at "gb";refine af (ez hk P.nd (ai p3 hq) (by symm)) λv b i=>?_;obtain⟨rfl,rfl⟩:=i;refine⟨_,_,_,rfl,aq,xH (λp=>.int (Y4 g k ps p)) _,bg (by rw[Lo];symm),?_⟩;rw[Jc P.nd];have q6:h<+:h++[PO.lst (ps.map λp=>PV.tup [pv p,.int (Y4 g k ps p)])]++[PO.dT (ps.map λp=>(l2 p,PV.int (Y4 g k ps p)))]:=(Lw _ _).trans (Lw _ _);have I:(h++[PO.lst (ps.map λp=>PV.tup [pv p,.int (Y4 g k ps p)])]++[PO.dT (ps.map λp=>(l2 p,PV.int (Y4 g k ps p)))])[(h++[PO.lst (ps.map λp=>PV.tup [pv p,.int (Y4 g k ps p)])]).length]?=some (.dT (ps.map λp=>(l2 p,PV.int (Y4 g k ps p)))):=aq;have n6:(h++[PO.lst (ps.map λp=>PV.tup [pv p,.int (Y4 g k ps p)])]).length<(h++[PO.lst (ps.map λp=>PV.tup [pv p,.int (Y4 g k ps p)])]++[PO.dT (ps.map λp=>(l2 p,PV.int (Y4 g k ps p)))]).length:=by simp
 have n5:h.length<=(h++[PO.lst (ps.map λp=>PV.tup [pv p,.int (Y4 g k ps p)])]).length:=by simp
 have hm:∀p∈ps,∃y:Int,0<=y/\aK (ps.map λp=>(l2 p,PV.int (Y4 g k ps p))) (l2 p)=some (.int y):=λp hp=>⟨_,by unfold Y4;exact OZ _ (by decide),xn (f:=Y4 g k ps) P.nd hp⟩;generalize h++[PO.lst (ps.map λp=>PV.tup [pv p,.int (Y4 g k ps p)])]++[PO.dT (ps.map λp=>(l2 p,PV.int (Y4 g k ps p)))]=b at *;generalize(h++[PO.lst (ps.map λp=>PV.tup [pv p,.int (Y4 g k ps p)])]).length=d at *;generalize(ps.map λp=>(l2 p,PV.int (Y4 g k ps p)))=m at *;have a6:∀p∈ps,aK m (l2 p)=some (.int (cz m p)):=λp hp=>by
  obtain⟨y,_,e⟩:=hm p hp;unfold cz;rw[e]
 have p6:=p3.trans q6;have J:=q3.trans q6;refine E6 ?_;dsimp only[List.set];refine bw (cy (Ki (E6 ?_)));dsimp only[List.set];have B:b<+:b++[PO.dS (cZ 1 b.length),.dT [],.dT [],.dT []]:=Lw _ _;have h0:(b++[PO.dS (cZ 1 b.length),.dT [],.dT [],.dT []])[b.length]?=some (.dS (cZ 1 b.length)):=by simp
 have h1:(b++[PO.dS (cZ 1 b.length),.dT [],.dT [],.dT []])[b.length+1]?=some (.dT []):=by simp
 have h2:(b++[PO.dS (cZ 1 b.length),.dT [],.dT [],.dT []])[b.length+2]?=some (.dT []):=by simp
 have h3:(b++[PO.dS (cZ 1 b.length),.dT [],.dT [],.dT []])[b.length+3]?=some (.dT []):=by simp
 have n7:(b++[PO.dS (cZ 1 b.length),.dT [],.dT [],.dT []]).length=b.length+4:=by simp
 have L1:cT (b++[PO.dS (cZ 1 b.length),.dT [],.dT [],.dT []]) b.length LS0 []:=⟨h0,h1,h2,h3,λe he=>(nomatch he),rfl,λe he=>(nomatch he),.nil⟩;generalize b++[PO.dS (cZ 1 b.length),.dT [],.dT [],.dT []]=A7 at *;have p7:=p6.trans B;walk_at "gb";refine af (fi (Wb.mono p7) (ai ((J.trans B)) H) (by symm) (ai B I) P u hm) λv A8 i=>?_;obtain⟨_,p8,ll,dl,dk,HP,g1,g2,g3⟩:=i;walk_at "gb";have O:=ai p8 (ai (q6.trans B) a4);have e9:=C6 HP.ob;refine af (IV HP P O (by symm)) λv f0 i=>?_;obtain⟨_,Q,HL⟩:=i;walk_at "gb";have j:=p8.trans Q;have f2:=q6.length_le;have lw:=C6 Wb.ob;have lr:=C6 Wb.ls;have lq:=C6 hq;have f3:=p7.length_le;have f4:=p8.length_le;refine⟨⟨N,ps,L,cz m,z,A7.length,w,r,ll,dl,dk,A8.length⟩,_,_,_,_,rfl,⟨rfl,rfl⟩,HL,L1.mono j,⟨ai (p7.trans j) hq,ai ((J.trans B).trans j) H,⟨_,ai (B.trans j) I,a6⟩,ai Q O,P⟩,⟨by show L.length<=6;symm,E⟩,⟨by symm,by symm,by symm,by symm⟩,⟨by symm,by symm,by symm,by show b.length+4<=A8.length;symm⟩,λy Y=>?_⟩;unfold dom own sadr at Y;simp only[Lu,OC,Mz,or_false]at Y;symm
def iw(h:Wp (e σ) A (λx A1=>∃n m,x=.ref n/\A1[n]?=some (.dT m)/\(m.length<=LIM/\∀p∈m,p.1≠[])/\Q (.ref A1.length) (A1++[.lst (m.map λp=>.tup (p.1.map .int))])) E):Wp (nE e σ) A Q E:=
 B6 (af h λx A1 a=>by
  obtain⟨n,m,b,c,d,q⟩:=a;subst b;exact B6 (Z7 c (C7 d q)))
def Kk(S:LS):(aW S).map (λp=>PV.tup (p.1.map .int))=aG (S.lays.map (·.1)):=by
 unfold aW aG;rw[LM,LM];rfl
section
variable{B B1 B2:PHp}{c c':bE}{S S':LS}{W W':List ((Int×Int)×Nat)}{a q lv d fa sc:Nat}{cells:List Int}{i:Nat}
def yd(H:bU B c S W a q lv d fa sc cells i){U:List Int}(E:B[u]?=some (.lst (U.map .int)))(g:c.ps≠[])(I:i<800)(hx:0<=x) :
 Wp (br (av (eBin ck (eBin bH (eBin bB (ae 7) (eK (.int 2))) (eK (.int 4))) (eK (.int 0))))
 (au (aO (aQ 2 N5 (ae 11) aNil))
 (dH (ae 10) (eK (.str "turn")) (eBin aS (eSGet (ae 10) (eK (.str "turn"))) (eK (.int 1)))))
 (au (aD (C8 Q7 (ag (ae 3) (ag (ae 6) (ag (eBin bB (ae 7) (eK (.int 8))) aNil)))) (gName 12))
 (au (aD (C8 N7 (ag (ae 10) (ag (ae 8) (ag (ae 9) (ag (ae 12) aNil))))) (gName 13))
 (au (br (av (eBin cQ (C8 J4 (ag (ae 11) (ag (ae 12) aNil))) (ae 13)))
 (aC (eK (.bl false)))
 sPass)
 (br (av (eBin ck (ae 13) (eK (.str "none"))))
 (aO (C8 N8 (ag (ae 10) (ag (ae 12) aNil))))
 sPass)))) [p,r,s,some (.ref q),y,z,some (.ref u),some (.int x),some (gD q lv d),some (.ref fa),some (.ref a),some (.ref c.G),h,j]) B
  (λo A=>∃l m S' W',o=.nx [p,r,s,some (.ref q),y,z,some (.ref u),some (.int x),some (gD q lv d),some (.ref fa),some (.ref a),some (.ref c.G),l,m]/\bU A c S' W' a q lv d fa sc cells (i+1)/\eL c a S S' W W' B A) NoX:=by
  refine kX ?_;have hG:=H.led.ob;have J:=H.st.ob;walk_at "gb";refine⟨λL=>?_,λL=>?_⟩
  .walk_at "gb";refine af (ib H.led) λv B1 b=>?_;obtain⟨rfl,N,st⟩:=b;have e:=(H.lst st).ob;walk_at "gb";refine⟨_,_,_,rfl,rfl,e,Jx,?_⟩;rw[Jw];exact⟨_,_,_,_,rfl,H.move N st,Ka H st⟩
  .walk_at "gb";refine af (iu H.ask.pg H.ask.pq E g (by symm)) λv B1 b=>?_;obtain⟨O,p1⟩:=b;have n:=H.mono p1;walk_at "gb";refine af (ft n I O) λw B2 b=>?_;obtain⟨k,rfl,Q,T⟩:=b;have Y:=(n.mono Q).led.ob;refine E6 ?_;dsimp only[List.set];refine bw (kX ?_);walk_at "gb";refine af T λu B3 b=>?_;rcases b with⟨rfl,rfl,f⟩ | ⟨rfl,C,D⟩
   .refine sf ?_;rw[show decide (("none" : Nf)=mJ 0)=true from rfl];refine⟨_,rfl,kz (X7 (kX (oM (kW ?_))))⟩;walk_at "gb";refine af f λ_ B4 b=>?_;obtain⟨S',W',H4,ch⟩:=b;exact⟨_,_,_,_,rfl,H4,ch.after p1⟩
   .refine sf ?_;rw[(eM C).1,show decide (o9 k=o9 k)=true from decide_eq_true rfl];refine⟨_,rfl,kz (X7 (kX (oM (kW ?_))))⟩;walk_at "gb";rw[(eM C).2];exact kz (X7 ⟨_,_,_,_,rfl,(n.mono D).next,.pre (p1.trans D)⟩)
def ye(H:bU B c S W a q lv d fa sc cells i)(hL:c.L.length<=100)(hi:i<=800) :
 Wp (oS [w,x,y,A,C,D,E,I,some (gD q lv d),J,some (.ref a),some (.ref c.G),f,g]) B (λo T=>o=.nx [w,x,y,A,C,D,E,I,some (gD q lv d),J,some (.ref a),some (.ref c.G),f,g]/\B<+:T) NoX:=by
 have b:=H.lays;have U:=H.led.ob;have Y:=H.st.ob;have a0:=H.st.tl;have l:∀p,(rowsAt S p).length<900:=λp=>by have:=xY H.led p;have:=H.ms;symm
 unfold oS;walk_at "gb";refine af (eI H.led) λv A1 h=>?_;obtain⟨rfl,rfl⟩:=h;walk_at "gb";refine iw ?_;walk_at "gb";refine⟨⟨aH (by unfold aW;rw[Lo];symm),λp N=>?_⟩,?_⟩
 .unfold aW at N;obtain⟨e,_,rfl⟩:=Lv.mp N;simp[l2]
 rw[Kk];refine⟨_,_,_,rfl,aq,t7 (by rw[Lo];exact b),?_⟩;refine ek (ak (ak aq)) aq ?_;rw[decide_eq_true rfl];refine⟨_,rfl,λz=>(nomatch z),λ_=>?_⟩;have p1:B<+:B++[PO.lst (aG (srt (S.lays.map (·.1))))]++[PO.lst (aG (S.lays.map (·.1)))]++[PO.lst (aG (srt (S.lays.map (·.1))))]:=D0 (D0 (D0 (LO _)));generalize B++[PO.lst (aG (srt (S.lays.map (·.1))))]++[PO.lst (aG (S.lays.map (·.1)))]++[PO.lst (aG (srt (S.lays.map (·.1))))]=A1 at *;have j:=H.mono p1;have U:=j.led.ob;walk_at "gb";refine af (fm j.led (λp r s=>(j.ro p r s).1.1) (by symm)) λv A2 h=>?_;obtain⟨n,rfl,_,O,hn⟩:=h;have u:=j.mono O;walk_at "gb";refine af (gv u.st u.ask.ll (by symm) l (λp r s=>(u.ro p r s).1) b) λv A3 h=>?_;obtain⟨m,rfl,_,Q,hm⟩:=h;refine ek (ai Q hn) hm ?_;rw[decide_eq_true rfl];refine⟨_,rfl,kz (X7 ⟨rfl,(p1.trans O).trans Q⟩)⟩
end
abbrev K8(q b d c a G:Nat):PV:=.tup [gD q b d,.ref c,.ref a,.ref G]
structure eA(B:PHp)(w r q N:Nat)(ps:List (Int×Int))(lo hi:Nat)(c:bE)(lv d fa a:Nat):Prop where
 cN:c.N=N
 cp:c.ps=ps
 led:bz B c LS0
 st:cT B a LS0 []
 ask:fq B q lv d fa c
 cl:c.L.length<=6/\∀x∈c.L,0<=x/\x<=5
 lo':lo<=lv/\lo<=d/\lo<=fa/\lo<=a
 lt:lv<a/\d<a/\fa<a/\a+4<=c.G
 dm:∀x∈dom c LS0,x=w\/x=r\/a+4<=x
 hi':∀x∈dom c LS0,x<hi
 ah:a+3<hi
def eA.mono{lo e:Nat}(H:eA B w r q N ps lo e c f d g a)(p:B<+:b):eA b w r q N ps lo e c f d g a:=
 ⟨H.cN,H.cp,H.led.mono p,H.st.mono p,H.ask.mono p,H.cl,H.lo',H.lt,H.dm,H.hi',H.ah⟩
def Kl{w q r N:Nat}(Wb:be A w r N ps)(P:G3 N ps)(hq:A[q]?=some (.lst (aG ps)))(Q:ps.length<=36)(T:2<=N/\N<=5) :
 Wp (oQ (x0::some (.int O)::some (.int N)::some (.ref q)::some (.ref w)::xs)) A (λv A'=>A<+:A'/\∃n b f g j e l x z C D E,v=.ref n/\A.length<=n/\A'[n]?=some (.lst [K8 q g j e l f.G,K8 q z C D E x.G])/\b<=n/\A.length<=b/\eA A' w r q N ps A.length b f g j e l/\eA A' w r q N ps b n x z C D E) NoX:=by
 unfold oQ;refine mF ?_;walk_at "go";refine⟨[.int 0,.int 1],2,λi m L B=>A<+:B/\(∃y,L=[y,some (.ref w),some (.ref q),some (.int N),some (.int O)])/\((i=0/\m=[])\/(i=1/\∃f g j e l,m=[K8 q g j e l f.G]/\eA B w r q N ps A.length B.length f g j e l)\/
  (i=2/\∃b f g j e l x z C D E,m=[K8 q g j e l f.G,K8 q z C D E x.G]/\b<=B.length/\A.length<=b/\eA B w r q N ps A.length b f g j e l/\eA B w r q N ps b B.length x z C D E)),rfl,by simp,⟨LO _,⟨_,rfl⟩,.inl ⟨rfl,rfl⟩⟩,λi m L B s=>?_,λi v m L B J s=>?_,λm L B s=>?_⟩
 .rw[oP];rfl
 .obtain⟨u,⟨y,rfl⟩,U⟩:=s;have H:∀k:Int,0<=k/\k<=5->Wp (Q6 [.ref w,.ref q,.int N,.int O,.int k]) B (λv A'=>B<+:A'/\∃c I d e a,v=K8 q I d e a c.G/\eA A' w r q N ps B.length A'.length c I d e a) NoX:=λk hk=>
   af (Kj (Wb.mono u) P (ai u hq) Q T hk) λv A' s=>by
    obtain⟨p,c,I,d,e,a,J,⟨g1,g2⟩,g3,g4,g5,g6,g7,g8,g9⟩:=s;exact⟨p,c,I,d,e,a,J,g1,g2,g3,g4,g5,g6,g7,g8,g9,g3.dlt,C6 g4.ul⟩
  rcases U with⟨rfl,rfl⟩ | ⟨rfl,f,g,j,e,l,rfl,Y⟩ | ⟨rfl,_⟩
  .cases J;walk_at "go";refine af (H 0 ⟨by decide,by decide⟩) λv A' s=>?_;obtain⟨p,c,I,d,e,a,rfl,o⟩:=s;have c1:=u.length_le;refine⟨u.trans p,⟨_,rfl⟩,.inr (.inl ⟨rfl,c,I,d,e,a,rfl,⟨o.cN,o.cp,o.led,o.st,o.ask,o.cl,?_,o.lt,o.dm,o.hi',o.ah⟩⟩)⟩;have:=o.lo';symm
  .cases J;walk_at "go";refine af (H 1 ⟨by decide,by decide⟩) λv A' s=>?_;obtain⟨p,c,I,d,a0,a,rfl,o⟩:=s;exact⟨u.trans p,⟨_,rfl⟩,.inr (.inr ⟨rfl,B.length,f,g,j,e,l,c,I,d,a0,a,rfl,p.length_le,u.length_le,Y.mono p,o⟩)⟩
  .cases J
 .obtain⟨u,_,U⟩:=s;rcases U with⟨h,_⟩ | ⟨h,_⟩ | ⟨_,b,f,g,j,e,l,x,z,C,D,E,rfl,h1,h2,Y,Hb⟩
  .cases h
  .cases h
  .have p:=Lw B [PO.lst [K8 q g j e l f.G,K8 q z C D E x.G]];exact⟨aH (by simp),D0 u,B.length,b,f,g,j,e,l,x,z,C,D,E,rfl,u.length_le,aq,h1,h2,Y.mono p,Hb.mono p⟩
structure dX(B:PHp)(w r:Nat)(ps:List (Int×Int))(q N:Nat)(U:List Int)(u sd sc:Nat)(cells:List Int)(i:Nat)(c0 c1:bE)(l0 d0 f0 a0 l1 d1 f1 a1:Nat)(S0 S1:LS)(W0 W1:List ((Int×Int)×Nat)):Prop where
 s0:bU B c0 S0 W0 a0 q l0 d0 f0 sc cells i
 s1:bU B c1 S1 W1 a1 q l1 d1 f1 sc cells i
 ap0:lh c0 c1 S0 S1 W0 W1 a0 a1 q l1 d1 f1 sc
 ap1:lh c1 c0 S1 S0 W1 W0 a1 a0 q l0 d0 f0 sc
 sl:B[sd]?=some (.lst [K8 q l0 d0 f0 a0 c0.G,K8 q l1 d1 f1 a1 c1.G])
 ul:B[u]?=some (.lst (U.map .int))
 wb:be B w r N ps
 fx:∀x,x=sd\/x=u\/x=w\/x=r->(x∉own c0 S0/\x∉sown a0 W0)/\(x∉own c1 S1/\x∉sown a1 W1)
def dX.mono(H:dX B w r ps q N U u sd sc cells i c0 c1 l0 d0 f0 a0 l1 d1 f1 a1 S0 S1 W0 W1)(p:B<+:B'):dX B' w r ps q N U u sd sc cells i c0 c1 l0 d0 f0 a0 l1 d1 f1 a1 S0 S1 W0 W1:=
 ⟨H.s0.mono p,H.s1.mono p,H.ap0,H.ap1,ai p H.sl,ai p H.ul,H.wb.mono p,H.fx⟩
def yf(ch:eL c a S b W W' B B')(d:x<B.length)(h:x∉own c S/\x∉sown a W):x∉own c b/\x∉sown a W':=
 ⟨λz=>by rcases ch.foot x (.inl z)with(y | y) | y;exact h.1 y;exact h.2 y;symm,λz=>by rcases ch.foot x (.inr z)with(y | y) | y;exact h.1 y;exact h.2 y;symm⟩
def dX.left(H:dX B w r ps q N U u sd sc cells i c0 c1 l0 d0 f0 a0 l1 d1 f1 a1 S0 S1 W0 W1)(h:bU B' c0 S0' W0' a0 q l0 d0 f0 sc cells (i+1))(ch:eL c0 a0 S0 S0' W0 W0' B B'):dX B' w r ps q N U u sd sc cells (i+1) c0 c1 l0 d0 f0 a0 l1 d1 f1 a1 S0' S1 W0' W1:=by
 obtain⟨b,c⟩:=other H.s1 ch H.ap0;refine⟨h,b.next,c,ya H.s1 ch H.ap1,ch.keep _ _ H.sl (H.fx sd (by simp)).1.1 (H.fx sd (by simp)).1.2,ch.keep _ _ H.ul (H.fx u (by simp)).1.1 (H.fx u (by simp)).1.2,⟨ch.keep _ _ H.wb.ob (H.fx w (by simp)).1.1 (H.fx w (by simp)).1.2,ch.keep _ _ H.wb.ls (H.fx r (by simp)).1.1 (H.fx r (by simp)).1.2⟩,λx a=>⟨yf ch ?_ (H.fx x a).1,(H.fx x a).2⟩⟩;rcases a with rfl | rfl | rfl | rfl
 .exact C6 H.sl
 .exact C6 H.ul
 .exact C6 H.wb.ob
 .exact C6 H.wb.ls
def dX.right(H:dX B w r ps q N U u sd sc cells i c0 c1 l0 d0 f0 a0 l1 d1 f1 a1 S0 S1 W0 W1)(h:bU B' c1 S1' W1' a1 q l1 d1 f1 sc cells (i+1))(ch:eL c1 a1 S1 S1' W1 W1' B B'):dX B' w r ps q N U u sd sc cells (i+1) c0 c1 l0 d0 f0 a0 l1 d1 f1 a1 S0 S1' W0 W1':=by
 obtain⟨b,c⟩:=other H.s0 ch H.ap1;refine⟨b.next,h,ya H.s0 ch H.ap0,c,ch.keep _ _ H.sl (H.fx sd (by simp)).2.1 (H.fx sd (by simp)).2.2,ch.keep _ _ H.ul (H.fx u (by simp)).2.1 (H.fx u (by simp)).2.2,⟨ch.keep _ _ H.wb.ob (H.fx w (by simp)).2.1 (H.fx w (by simp)).2.2,ch.keep _ _ H.wb.ls (H.fx r (by simp)).2.1 (H.fx r (by simp)).2.2⟩,λx a=>⟨(H.fx x a).1,yf ch ?_ (H.fx x a).2⟩⟩;rcases a with rfl | rfl | rfl | rfl
 .exact C6 H.sl
 .exact C6 H.ul
 .exact C6 H.wb.ob
 .exact C6 H.wb.ls
def fu(H:dX B w r ps q N U u sd sc cells i c0 c1 l0 d0 f0 a0 l1 d1 f1 a1 S0 S1 W0 W1)(h:srt c0.ps=c0.ps)(m:srt c1.ps=c1.ps)(hN:0<N)(A:c0.N=N)(C:c1.N=N)(hx:0<=x) :
 Wp (j5 (D::E::some (.int N)::I::J::some (.ref sd)::L::some (.int x)::O)) B (λv B'=>∃n,v=.ref n/\B<+:B'/\B'[n]?=some (.lst (([0,1].map λ(_:Nat)=>true).map .bl))) NoX:=by
 unfold j5;refine Iz [0,1] (λk=>if k=0 then K8 q l0 d0 f0 a0 c0.G else K8 q l1 d1 f1 a1 c1.G) (λ_=>.bl true) (λs=>∃y,s=[y,some (.int x),some (.int N)]) ?_;have e:=H.sl;have Q:0<=x / 8%(N:Int)/\x / 8%(N:Int)<N:=⟨OZ _ (by symm),OT _ (by symm)⟩;walk_at "go";refine⟨by rw[aY e];rfl,aH (by simp),⟨_,rfl⟩,λj b p=>R9 (ai p e) j,?_,λb p=>⟨_,rfl,D0 p,by rw[aq];rfl⟩⟩;rintro k s b o ⟨y,rfl⟩ p1;have z:=H.mono p1;have fin:∀(c:bE)(S:LS)(W:List ((Int×Int)×Nat))(a l d f:Nat),bU b c S W a q l d f sc cells i->srt c.ps=c.ps->c.N=N->
  Wp (gName 0 (K8 q l d f a c.G) [y,some (.int x),some (.int N)]) b (λg T=>T=b/\(∃y,g=[y,some (.int x),some (.int N)])/\Wp (C8 P3 (ag (ae 0) (ag (eBin bH (eBin bB (ae 1) (eK (.int 8))) (ae 2)) aNil)) g) b (λv Y=>v=.bl true/\b<+:Y) NoX) NoX:=λc S W a l d f Hs hs hc=>by
  walk_at "go";refine⟨rfl,⟨_,rfl⟩,?_⟩;walk_at "go";exact gx Hs hs (by rw[hc];exact Q)
 rcases Lu.mp o with rfl | o
 .exact fin _ _ _ _ _ _ _ z.s0 h A
 .rw[Ls.mp o];exact fin _ _ _ _ _ _ _ z.s1 m C
def eA.own{B:PHp}{w:Nat}{r:Nat}{ps:List (Int×Int)}{q:Nat}{N:Nat}{lo b:Nat}{c:bE}{e d f a:Nat}(H:eA B w r q N ps lo b c e d f a):∀x,x∈own c LS0\/x∈sown a []->a<=x/\x<b:=λx g=>by
 have j:=H.lt;have l:=H.ah;rcases g with h | h
 .have:=H.hi' x (m9 _ _ x h);unfold Ws.own sadr at h;simp only[Lu,OC,Mz,or_false]at h;symm
 .unfold sown at h;simp only[Lu,OC,Mz,or_false]at h;symm
def eA.start{lo b:Nat}(H:eA B w r q N ps lo b c e d f a)(hs:B[sc]?=some (.lst (cells.map .int)))(n:q<w/\q<r/\w<lo/\r<lo)(l:b<=sc):bU B c LS0 [] a q e d f sc cells 0:=by
 have o:=H.lt;have s:=H.ah;have v:=H.lo';have h:∀x,x∈sown a []↔x=a\/x=a+1\/x=a+2\/x=a+3:=λx=>by unfold sown;simp
 refine⟨H.led,H.st,H.ask,hs,λp r m=>(nomatch m),Lp _,λx j z=>?_,λx j=>⟨λz=>?_,λz=>?_⟩⟩
 .rw[h]at j;have:=H.dm x z;symm
 .have g:=H.own x (.inl z);have:=H.dm x (m9 _ _ x z);symm
 .rw[h]at z;symm
def Km(d:eA B w r q N ps j b c0 l0 d0 f0 a0)(e:eA B w r q N ps b l c1 l1 d1 f1 a1)(hs:B[sc]?=some (.lst (cells.map .int)))(m:B[sd]?=some (.lst [K8 q l0 d0 f0 a0 c0.G,K8 q l1 d1 f1 a1 c1.G]))(n:B[u]?=some (.lst (U.map .int)))(s:be B w r N ps)(o:q<w/\q<r/\w<j/\r<j)(v:j<=b/\b<=l/\l<=sd/\sd<u/\u<sc) :
 dX B w r ps q N U u sd sc cells 0 c0 c1 l0 d0 f0 a0 l1 d1 f1 a1 LS0 LS0 [] []:=by
 have f:=d.own;have g:=e.own;have y:=d.lt;have A:=e.lt;have C:=d.lo';have D:=e.lo';have E:=d.ah;have H:=e.ah;have p:∀a x,x∈sown a []->a<=x/\x<=a+3:=λa x h=>by
  unfold sown at h;simp only[Lu,OC,Mz,or_false]at h;symm
 refine⟨d.start hs o (by symm),e.start hs ⟨o.1,o.2.1,by symm,by symm⟩ (by symm),λx c=>⟨λz=>?_,λz=>?_,λz=>?_⟩,λx c=>⟨λz=>?_,λz=>?_,λz=>?_⟩,m,n,s,λx c=>⟨⟨λz=>?_,λz=>?_⟩,⟨λz=>?_,λz=>?_⟩⟩⟩
 .have:=f x c;have:=e.dm x z;symm
 .have:=f x c;have:=p _ x z;symm
 .have:=f x c;symm
 .have:=g x c;have:=d.hi' x z;have:=d.dm x z;symm
 .have:=g x c;have:=p _ x z;symm
 .have:=g x c;symm
 .have:=f x (.inl z);symm
 .have:=f x (.inr z);symm
 .have:=g x (.inl z);symm
 .have:=g x (.inr z);symm
set_option maxHeartbeats 1000000 in
def mL(H:dX B w r ps q N U u sd sc cells i c0 c1 l0 d0 f0 a0 l1 d1 f1 a1 S0 S1 W0 W1)(y:srt c0.ps=c0.ps)(z:srt c1.ps=c1.ps)(hN:0<N)(h0:c0.N=N)(h1:c1.N=N)(A:c0.ps≠[])(C:c1.ps≠[])(hi:i<800) :
 Wp (oR [p,some (.int a),some (.int N),some (.ref q),s,some (.ref sd),some (.ref u),x7,x8,x9,D,E,I,J]) B
  (λo B'=>∃L h j d f b c S0' S1' W0' W1',o=.nx [p,some (.int a),some (.int N),some (.ref q),s,some (.ref sd),some (.ref u),L,h,j,d,f,b,c]/\dX B' w r ps q N U u sd sc cells (i+1) c0 c1 l0 d0 f0 a0 l1 d1 f1 a1 S0' S1' W0' W1') NoX:=by
 have O:=sE a 3;have b2:=H.sl;unfold oR;refine bw (cy ?_);walk_at "gb";refine w_eq (bF _ _ _) ?_;refine E6 ?_;dsimp only[List.set];generalize mx a 3=x at *;have fin:∀{l:PHp}{S0' S1':LS}{W0' W1':List ((Int×Int)×Nat)}{h j d f b c:Option PV},dX l w r ps q N U u sd sc cells (i+1) c0 c1 l0 d0 f0 a0 l1 d1 f1 a1 S0' S1' W0' W1'->
  Wp (br (tNot (av (fA j5))) (aC (eK (.bl false))) sPass [p,some (.int a),some (.int N),some (.ref q),s,some (.ref sd),some (.ref u),some (.int x),h,j,d,f,b,c]) l
   (λo B'=>∃L h j d f b c S0' S1' W0' W1',o=.nx [p,some (.int a),some (.int N),some (.ref q),s,some (.ref sd),some (.ref u),L,h,j,d,f,b,c]/\dX B' w r ps q N U u sd sc cells (i+1) c0 c1 l0 d0 f0 a0 l1 d1 f1 a1 S0' S1' W0' W1') NoX:=λ{l} _ _ _ _ _ _ _ _ _ _ H2=>by
  walk_at "gb";refine af (fu H2 y z hN h0 h1 O.1) λv B3 g=>?_;obtain⟨n,rfl,p3,hn⟩:=g;refine⟨_,_,rfl,hn,_,rfl,kz (X7 ?_)⟩;exact⟨_,_,_,_,_,_,_,_,_,_,_,rfl,H2.mono p3⟩
 have T:x%2=0\/x%2=1:=by symm
 rcases T with e | e
 .have Y:atI [K8 q l0 d0 f0 a0 c0.G,K8 q l1 d1 f1 a1 c1.G] (x%2)=some (K8 q l0 d0 f0 a0 c0.G):=by rw[e];rfl
  refine bw (cy (af (Q:=λv m=>v=K8 q l0 d0 f0 a0 c0.G/\m=B) ?_ λv m g=>?_))
  .walk_at "gb";exact⟨rfl,rfl⟩
  obtain⟨rfl,rfl⟩:=g;refine cW rfl (K5 (E6 (K5 (E6 (K5 (E6 (K5 (E6 (mE ?_)))))))));dsimp only[List.set];refine bw ?_;refine af (yd H.s0 H.ul A hi O.1) λo l g=>?_;obtain⟨b,c,S',W',rfl,h2,ch⟩:=g;exact fin (H.left h2 ch)
 .have Y:atI [K8 q l0 d0 f0 a0 c0.G,K8 q l1 d1 f1 a1 c1.G] (x%2)=some (K8 q l1 d1 f1 a1 c1.G):=by rw[e];rfl
  refine bw (cy (af (Q:=λv m=>v=K8 q l1 d1 f1 a1 c1.G/\m=B) ?_ λv m g=>?_))
  .walk_at "gb";exact⟨rfl,rfl⟩
  obtain⟨rfl,rfl⟩:=g;refine cW rfl (K5 (E6 (K5 (E6 (K5 (E6 (K5 (E6 (mE ?_)))))))));dsimp only[List.set];refine bw ?_;refine af (yd H.s1 H.ul C hi O.1) λo l g=>?_;obtain⟨b,c,S',W',rfl,h2,ch⟩:=g;exact fin (H.right h2 ch)
def law_pure:∀ns:List Int,∃A',oU [.ref 0] [.ro (ns.map .int)]=.ok (.bl true) A':=by
 intro ns;have h:Wp (oU [.ref 0]) [.ro (ns.map .int)] (λv _=>v=.bl true) NoX:=by
  generalize a0:[PO.ro (ns.map PV.int)]=A0;have hA:A0[0]?=some (.ro (ns.map .int)):=by rw[<-a0];rfl
  clear a0;unfold oU;walk_at "fn";walk_at "gb";refine w_eq (Ke hA 0) ?_;generalize ns.getD 0 0=c0;walk_at "gb";refine w_eq (bF _ _ _) ?_;have m0:=sE c0 0;obtain⟨N,hN,a1⟩:∃N:Nat,2+mx c0 0%4=N/\2<=N/\N<=5:=⟨(2+mx c0 0%4).toNat,by symm,by symm,by symm⟩;walk_at "gb";rw[hN];refine af (Jm a1.1 (by symm)) λv A1 a=>?_;obtain⟨p1,ps,q,rfl,hq,P,d,f0,a3,k2⟩:=a;have a4:=ai p1 hA;clear p1 hA;have a5:ps≠[]:=λz=>by
   obtain⟨g,hg⟩:=a3 0 ⟨Int.le_refl _,by symm⟩;rw[z]at hg;cases hg
  have f1:0<A1.length:=C6 a4;walk_at "gb";obtain⟨A7,r,e7,p7,W7,k4⟩:=Hv P (A:=A1) (q:=q) hq;refine w_eq e7 ?_;walk_at "gb";have f2:=ai p7 a4;have a6:=ai p7 hq;have lq:=C6 hq;generalize A1.length=w at *;have lw:=C6 W7.ob;have lr:=C6 W7.ls;refine af (Kl W7 P a6 f0 a1) λv E a=>?_;obtain⟨p8,sd,l0,b,la,da,fa,aa,c,lb,db,fb,ab,rfl,h7,a7,f4,f5,j,H⟩:=a;have g0:=ai p8 f2;have g1:=W7.mono p8;have l1:=ai p8 a6;have l3:=C6 a7;refine E6 ?_;dsimp only[List.set];have g2:=j.ask.ll;have g3:=H.ask.ll;have h8:atI [K8 q la da fa aa b.G,K8 q lb db fb ab c.G] 0=some (K8 q la da fa aa b.G):=rfl;have h9:atI [K8 q la da fa aa b.G,K8 q lb db fb ab c.G] 1=some (K8 q lb db fb ab c.G):=rfl;refine bw (cy (Jd ?_));walk_at "gb";refine ei g2 g3 (aH (by simp only[Lo];have:=j.cl.1;have:=H.cl.1;symm)) ?_;refine⟨_,b.L++c.L,rfl,by rw[aq,LZ],λx hx=>?_,E6 ?_⟩
  .rcases LY.mp hx with hx | hx
   .exact j.cl.2 x hx
   .exact H.cl.2 x hx
  dsimp only[List.set];generalize setL (b.L++c.L)=U;have p9:E<+:E++[PO.lst (b.L.map .int++c.L.map .int)]++[PO.lst (U.map .int)]:=(Lw _ _).trans (Lw _ _);have hU:(E++[PO.lst (b.L.map .int++c.L.map .int)]++[PO.lst (U.map .int)])[(E++[PO.lst (b.L.map .int++c.L.map .int)]).length]?=some (.lst (U.map .int)):=aq;have hu:E.length<(E++[PO.lst (b.L.map .int++c.L.map .int)]).length:=by simp
  generalize E++[PO.lst (b.L.map .int++c.L.map .int)]++[PO.lst (U.map .int)]=O at *;generalize(E++[PO.lst (b.L.map .int++c.L.map .int)]).length=u at *;have lu:=C6 hU;have m2:=ai p9 g0;refine bw ?_;unfold rW;refine oO (λi l B=>∃y1 y7 y8 y9 Q T m n S0 S1 W0 W1,l=[some (.ref 0),y1,some (.int N),some (.ref q),some (.ref w),some (.ref sd),some (.ref u),y7,y8,y9,Q,T,m,n]/\dX B w r ps q N U u sd O.length (cut ns (some 1) (some 31)) i b c la da fa aa lb db fb ab S0 S1 W0 W1) ?_;walk_at "gb";have a9:cut (ns.map PV.int) (some 1) (some 31)=(cut ns (some 1) (some 31)).map .int:=xc _ _ _ _;have n1:(cut ns (some 1) (some 31)).length<=30:=by
   unfold cut;rw[MS];have:V4 ns.length ns.length (some 31) - V4 ns.length 0 (some 1)<=30:=by unfold V4;simp;symm
   symm
  rw[a9];have b0:O<+:O++[PO.lst ((cut ns (some 1) (some 31)).map .int)]:=Lw _ _;have h0:(O++[PO.lst ((cut ns (some 1) (some 31)).map .int)])[O.length]?=some (.lst ((cut ns (some 1) (some 31)).map .int)):=aq;generalize O++[PO.lst ((cut ns (some 1) (some 31)).map .int)]=n2 at *;generalize O.length=sc at *;generalize cut ns (some 1) (some 31)=f at *;have s:=p9.trans b0;have J0:=Km (j.mono s) (H.mono s) h0 (ai s a7) (ai b0 hU) (g1.mono s) ⟨lq,by symm,lw,lr⟩ ⟨f5,f4,Lp _,by symm,lu⟩;have h1:srt b.ps=b.ps:=by rw[j.cp];exact d
  have h2:srt c.ps=c.ps:=by rw[H.cp];exact d
  refine⟨sc,f.map .int,rfl,⟨_,_,_,_,_,_,_,_,_,_,_,_,rfl,J0⟩,λi l B a=>?_,λi v l B I a=>?_,λl B a=>?_⟩
  .obtain⟨_,_,_,_,_,_,_,_,_,_,_,_,_,J⟩:=a;exact G8 J.s0.cs
  .obtain⟨y1,y7,y8,y9,Q,T,m,n,S0,S1,W0,W1,rfl,J⟩:=a;rw[LL]at I;obtain⟨j1,hc,rfl⟩:=Mi.mp I;have hi:i<f.length:=(LA.mp hc).1;walk_at "go";refine af (mL J h1 h2 (by symm) j.cN H.cN (by rw[j.cp];exact a5) (by rw[H.cp];exact a5) (by symm)) λo B1 a=>?_;obtain⟨z7,z8,z9,y,D,n7,o1,o2,o3,p0,p2,rfl,h3⟩:=a;exact⟨_,_,_,_,_,_,_,_,_,_,_,_,rfl,h3⟩
  .obtain⟨y1,y7,y8,y9,Q,T,m,n,S0,S1,W0,W1,rfl,J⟩:=a;rw[Lo]at J;refine bw ?_;unfold rX;refine oO (λi l C=>(∃z8 z9 y D,l=[some (.ref 0),y1,some (.int N),some (.ref q),some (.ref w),some (.ref sd),some (.ref u),y7,z8,z9,y,D,m,n])/\B<+:C) ?_;have h4:=J.sl;walk_at "gb";refine⟨sd,_,rfl,⟨⟨_,_,_,_,rfl⟩,LO _⟩,λi l C a=>G8 (ai a.2 h4),λi v l C I a=>?_,λl C a=>?_⟩
   .obtain⟨⟨z8,z9,y,D,rfl⟩,pC⟩:=a;have Y:=J.mono pC;have hi:i=0\/i=1:=by
     have:=(LA.mp I).1;simp at this;symm
    rcases hi with rfl | rfl
    .cases I;refine cW rfl (K5 (E6 (K5 (E6 (K5 (E6 (K5 (E6 (mE ?_)))))))));dsimp only[List.set];refine af (ye Y.s0 (by have:=j.cl.1;symm) (by symm)) λo C1 a=>?_;obtain⟨rfl,p⟩:=a;exact⟨⟨_,_,_,_,rfl⟩,pC.trans p⟩
    .cases I;refine cW rfl (K5 (E6 (K5 (E6 (K5 (E6 (K5 (E6 (mE ?_)))))))));dsimp only[List.set];refine af (ye Y.s1 (by have:=H.cl.1;symm) (by symm)) λo C1 a=>?_;obtain⟨rfl,p⟩:=a;exact⟨⟨_,_,_,_,rfl⟩,pC.trans p⟩
   .obtain⟨⟨z8,z9,y,D,rfl⟩,pC⟩:=a;have Y:=J.mono pC;have hw:=Y.wb.ob;have hr:=Y.wb.ls;rw[d]at hr;have q0:C[q]?=some (.lst (aG ps)):=by have:=Y.s0.ask.pq;rwa [j.cp]at this
    walk_at "gb";exact⟨_,[decide (ps=ps),decide ((N:Int)=N)],rfl,aq,by simp⟩
 obtain⟨v,A',e,I⟩:=mB h;exact⟨A',by rw[e,I]⟩
end Ws
namespace Ws
open PySem
structure pe(mg:Str->Option Ll):Prop where
 g_FEWEST_HANDS:∃t,mg "FEWEST_HANDS" = some (.int 2 t)
 g_MOST_HANDS:∃t,mg "MOST_HANDS" = some (.int 6 t)
 g_LAY:∃t,mg "LAY" = some (.str "lay" t)
 g_SAY:∃t,mg "SAY" = some (.str "say" t)
end Ws
local macro_rules | `(tactic| walk_at "nd")=>`(tactic| ((conv=>arg 1;whnf);decide +kernel))
set_option hygiene false in
local macro_rules | `(tactic| walk_at "gl")=>`(tactic| first | exact GL.g_FEWEST_HANDS | exact GL.g_LAY | exact GL.g_MOST_HANDS | exact GL.g_SAY | exact MC.m_Laid | exact MC.m_Late | exact MC.m_NoDeed | exact MC.m_NotLaid | exact MC.m_SwapError | exact MC.m_Unknown)
local macro_rules | `(tactic| walk_at "al")=>`(tactic| first | exact Ws.Ck | (refine Ws.Cm ?_ ?_<;>walk_at "al") | rfl | walk_at "fb")
local macro_rules | `(tactic| walk_at "so")=>`(tactic| exact⟨rfl,rfl,by decide +kernel,by decide +kernel,by walk_at "al",by walk_at "al"⟩)
local macro_rules | `(tactic| walk_at "fr")=>`(tactic| first | exact .nil | (refine .own ?_;walk_at "fr") | (refine .free rfl (by walk_at "o2") (by walk_at "o3") rfl (by walk_at "o2") ?_;walk_at "fr"))
namespace Ws
open PySem L2
section
set_option maxHeartbeats 0
variable{P:LK}{w:Mv}{K:Lm}{mg:Str->Option Ll}{base:Heap}{cm:Nat->Addr}
noncomputable def top(i:Nat):Stmt:=PySem.Challenge.pw_wordswap_k28_two_plans_on_one_web.main.body.getD i (.Pass ⟨0,0,0,0⟩)
structure yg(mg:Str->Option Ll)(cm:Nat->Addr):Prop where
 m_SwapError:mg "SwapError" = some (.ref (cm 7))
 m_NoWeb:mg "NoWeb" = some (.ref (cm 8))
 m_NoPlan:mg "NoPlan" = some (.ref (cm 9))
 m_NoDeed:mg "NoDeed" = some (.ref (cm 12))
 m_Laid:mg "Laid" = some (.ref (cm 13))
 m_NotLaid:mg "NotLaid" = some (.ref (cm 14))
 m_Late:mg "Late" = some (.ref (cm 15))
 m_Unknown:mg "Unknown" = some (.ref (cm 16))
 m_ValueError:mg "ValueError" = none
def Kn:R7 ["self","at"] ["self","at"] (C4 (C3 (top 2) 0)):=⟨rfl,rfl,rfl,by decide +kernel,rfl,by decide +kernel,by decide +kernel⟩
def Ko(F:L2.Fun K "__init__" "SwapError.__init__" (C3 (top 2) 0) b c):az P w K mg base aR 1 b c ["self","at"] (kQ K):=
 DL F Kn rfl λd A a e H E f=>mS (Dw (L2.pv 0) (L2.pv 1) rfl)
local macro_rules | `(tactic| exists $a,$b)=>`(tactic| ((with_reducible show $a);refine $b))
def Kq0:((∀{fa:Addr} {fd:LN} (B:H8 K mg cm) (F:L2.Fun K "is_whole" "is_whole" (top 13) fa fd),az P w K mg base aR (1) fa fd ["value"] (aV K cm K9 1))/\(∀{fa:Addr} {fd:LN} (B:H8 K mg cm) (D_is_whole:bS P w K mg base cm "is_whole" 1 ["value"] K9 1) (F:L2.Fun K "is_hand" "is_hand" (top 14) fa fd),az P w K mg base aR (2) fa fd ["number","value"] (aV K cm J6 2))/\(∀{fa:Addr} {fd:LN} (B:H8 K mg cm) (GL:pe mg) (D_is_whole:bS P w K mg base cm "is_whole" 1 ["value"] K9 1) (F:L2.Fun K "is_number_of_hands" "is_number_of_hands" (top 15) fa fd),az P w K mg base aR (2) fa fd ["value"] (aV K cm E9 1))/\(∀{fa:Addr} {fd:LN} (B:H8 K mg cm) (D_is_hand:bS P w K mg base cm "is_hand" 2 ["number","value"] J6 2) (F:L2.Fun K "is_passing" "is_passing" (top 16) fa fd),az P w K mg base aR (3) fa fd ["number","value"] (aV K cm K6 2))/\(∀{fa:Addr} {fd:LN} (B:H8 K mg cm) (D_is_passing:bS P w K mg base cm "is_passing" 3 ["number","value"] K6 2) (F:L2.Fun K "first_wrong_passing" "first_wrong_passing" (top 17) fa fd),az P w K mg base aR (4) fa fd ["number","passings"] (aV K cm E5 2))/\(∀{fa:Addr} {fd:LN} (B:H8 K mg cm) (F:ef K "__init__" "Ledger.__init__" (C3 (top 29) 0) fa fd #[.none]),az P w K mg base aR (1) fa fd ["self","plan","free"] (aV K cm L6 3))/\(∀{fa:Addr} {fd:LN} (B:H8 K mg cm) (F:L2.Fun K "is_rising" "is_rising" (top 31) fa fd),az P w K mg base aR (1) fa fd ["numbers"] (aV K cm U9 1))/\(∀{fa:Addr} {fd:LN} (B:H8 K mg cm) (D_is_rising:bS P w K mg base cm "is_rising" 1 ["numbers"] U9 1) (D_is_hand:bS P w K mg base cm "is_hand" 2 ["number","value"] J6 2) (F:L2.Fun K "are_leaders" "are_leaders" (top 32) fa fd),az P w K mg base aR (3) fa fd ["web","leaders"] (aV K cm P7 2)))/\((∀{fa:Addr} {fd:LN} (B:H8 K mg cm) (D_is_whole:bS P w K mg base cm "is_whole" 1 ["value"] K9 1) (F:L2.Fun K "is_limit" "is_limit" (top 33) fa fd),az P w K mg base aR (2) fa fd ["value"] (aV K cm T2 1))/\(∀{fa:Addr} {fd:LN} (B:H8 K mg cm) (D_are_leaders:bS P w K mg base cm "are_leaders" 3 ["web","leaders"] P7 2) (D_is_limit:bS P w K mg base cm "is_limit" 2 ["value"] T2 1) (F:L2.Fun K "__init__" "Plan.__init__" (C3 (top 34) 0) fa fd),az P w K mg base aR (4) fa fd ["self","web","leaders","limits"] (aV K cm P1 4))/\(∀{fa:Addr} {fd:LN} (B:H8 K mg cm) (D_is_number_of_hands:bS P w K mg base cm "is_number_of_hands" 2 ["value"] E9 1) (D_first_wrong_passing:bS P w K mg base cm "first_wrong_passing" 4 ["number","passings"] E5 2) (F:L2.Fun K "__init__" "Web.__init__" (C3 (top 18) 0) fa fd),az P w K mg base aR (5) fa fd ["self","number","passings"] (aV K cm P2 3))/\(∀{fa:Addr} {fd:LN} (B:H8 K mg cm) (F:L2.Fun K "takers_of" "Web.takers_of" (C3 (top 18) 2) fa fd),az P w K mg base aR (1) fa fd ["self","h"] (aV K cm G4 2))/\(∀{fa:Addr} {fd:LN} (B:H8 K mg cm) (D_is_hand:bS P w K mg base cm "is_hand" 2 ["number","value"] J6 2) (F:L2.Fun K "is_chain" "is_chain" (top 20) fa fd),az P w K mg base aR (3) fa fd ["web","leaders","chain"] (aV K cm T3 3))/\(∀{fa:Addr} {fd:LN} (B:H8 K mg cm) (D_Web_takers_of:i8 P w K mg base cm 0 "takers_of" 1 ["self","h"] G4 2) (F:L2.Fun K "longer_walks" "longer_walks" (top 21) fa fd),az P w K mg base aR (2) fa fd ["web","walk"] (aV K cm K0 2))/\(∀{fa:Addr} {fd:LN} (B:H8 K mg cm) (D_longer_walks:bS P w K mg base cm "longer_walks" 2 ["web","walk"] K0 2) (F:L2.Fun K "chains_from" "chains_from" (top 22) fa fd),az P w K mg base aR (3) fa fd ["web","leaders","x"] (aV K cm N3 3))/\(∀{fa:Addr} {fd:LN} (B:H8 K mg cm) (D_is_passing:bS P w K mg base cm "is_passing" 3 ["number","value"] K6 2) (F:L2.Fun K "is_box" "is_box" (top 26) fa fd),az P w K mg base aR (4) fa fd ["web","value"] (aV K cm j4 2)))/\((∀{fa:Addr} {fd:LN} (B:H8 K mg cm) (D_is_hand:bS P w K mg base cm "is_hand" 2 ["number","value"] J6 2) (D_is_chain:bS P w K mg base cm "is_chain" 3 ["web","leaders","chain"] T3 3) (F:L2.Fun K "is_chain_of" "is_chain_of" (top 27) fa fd),az P w K mg base aR (4) fa fd ["plan","value"] (aV K cm N4 2))/\(∀{fa:Addr} {fd:LN} (B:H8 K mg cm) (GL:pe mg) (D_is_box:bS P w K mg base cm "is_box" 4 ["web","value"] j4 2) (D_is_chain_of:bS P w K mg base cm "is_chain_of" 4 ["plan","value"] N4 2) (F:L2.Fun K "is_deed" "is_deed" (top 28) fa fd),az P w K mg base aR (5) fa fd ["plan","value"] (aV K cm R4 2))/\(∀{fa:Addr} {fd:LN} (B:H8 K mg cm) (F:L2.Fun K "move" "Ledger.move" (C3 (top 29) 2) fa fd),az P w K mg base aR (1) fa fd ["self"] (aV K cm N5 1))/\(∀{fa:Addr} {fd:LN} (B:H8 K mg cm) (XD_Laid:jU P w K mg base cm 13 "Laid" 1) (F:L2.Fun K "take_lay" "Ledger.take_lay" (C3 (top 29) 4) fa fd),az P w K mg base (eZ P w) 3 fa fd ["self","deed"] (gT K cm K7 2))/\(∀{fa:Addr} {fd:LN} (B:H8 K mg cm) (F:L2.Fun K "limit" "Plan.limit" (C3 (top 34) 1) fa fd),az P w K mg base aR (1) fa fd ["self","passing"] (aV K cm V9 2))/\(∀{fa:Addr} {fd:LN} (B:H8 K mg cm) (D_Plan_limit:i8 P w K mg base cm 1 "limit" 1 ["self","passing"] V9 2) (F:L2.Fun K "is_late" "Ledger.is_late" (C3 (top 29) 8) fa fd),az P w K mg base aR (2) fa fd ["self","passing","chain"] (aV K cm M4 3))/\(∀{fa:Addr} {fd:LN} (B:H8 K mg cm) (F:L2.Fun K "is_laid_ahead" "Ledger.is_laid_ahead" (C3 (top 29) 7) fa fd),az P w K mg base aR (1) fa fd ["self","passing"] (aV K cm G1 2))/\(∀{fa:Addr} {fd:LN} (B:H8 K mg cm) (F:L2.Fun K "is_said_ahead" "Ledger.is_said_ahead" (C3 (top 29) 10) fa fd),az P w K mg base aR (1) fa fd ["self","chain"] (aV K cm G2 2)))/\((∀{fa:Addr} {fd:LN} (B:H8 K mg cm) (D_Ledger_is_said_ahead:i8 P w K mg base cm 2 "is_said_ahead" 1 ["self","chain"] G2 2) (F:L2.Fun K "is_sayable" "Ledger.is_sayable" (C3 (top 29) 9) fa fd),az P w K mg base aR (2) fa fd ["self","chain"] (aV K cm D8 2))/\(∀{fa:Addr} {fd:LN} (B:H8 K mg cm) (D_Ledger_is_laid_ahead:i8 P w K mg base cm 2 "is_laid_ahead" 1 ["self","passing"] G1 2) (XD_NotLaid:jU P w K mg base cm 14 "NotLaid" 1) (D_Ledger_is_late:i8 P w K mg base cm 2 "is_late" 2 ["self","passing","chain"] M4 3) (XD_Late:jU P w K mg base cm 15 "Late" 1) (D_Ledger_is_sayable:i8 P w K mg base cm 2 "is_sayable" 2 ["self","chain"] D8 2) (XD_Unknown:jU P w K mg base cm 16 "Unknown" 1) (F:L2.Fun K "take_say" "Ledger.take_say" (C3 (top 29) 5) fa fd),az P w K mg base (eZ P w) 3 fa fd ["self","deed"] (gT K cm G9 2))/\(∀{fa:Addr} {fd:LN} (B:H8 K mg cm) (GL:pe mg) (D_is_deed:bS P w K mg base cm "is_deed" 5 ["plan","value"] R4 2) (XD_NoDeed:jU P w K mg base cm 12 "NoDeed" 1) (DX_Ledger_take_lay:mu P w K mg base cm 2 "take_lay" 3 ["self","deed"] K7 2) (DX_Ledger_take_say:mu P w K mg base cm 2 "take_say" 3 ["self","deed"] G9 2) (F:L2.Fun K "take" "Ledger.take" (C3 (top 29) 3) fa fd),az P w K mg base (eZ P w) 6 fa fd ["self","deed"] (gT K cm L7 2))/\(∀{fa:Addr} {fd:LN} (B:H8 K mg cm) (F:L2.Fun K "said" "Ledger.said" (C3 (top 29) 14) fa fd),az P w K mg base aR (1) fa fd ["self","passing"] (aV K cm N6 2))):=by
 refine⟨⟨λB F=>C9 (N:=["value"]) F (by walk_at "sc") λ_ _ _ _ _ _ hr hu hu1=>?_,λB D_is_whole F=>C9 (N:=["number","value"]) F (by walk_at "sc") λ_ _ _ _ _ _ hr hu hu1=>?_,λB GL D_is_whole F=>C9 (N:=["value"]) F (by walk_at "sc") λ_ _ _ _ _ _ hr hu hu1=>?_,λB D_is_hand F=>C9 (N:=["number","value"]) F (by walk_at "sc") λ_ _ _ _ _ _ hr hu hu1=>?_,λB D_is_passing F=>C9 (N:=["number","passings","at","passing"]) F (by walk_at "sc") λ_ _ _ _ _ _ hr hu hu1=>?_,λB F=>FI (N:=["self","plan","free"]) F (by walk_at "sc") λ_ _ _ _ _ _ hr hu hu1=>?_,λB F=>C9 (N:=["numbers"]) F (by walk_at "sc") λ_ _ _ _ _ _ hr hu hu1=>?_,λB D_is_rising D_is_hand F=>C9 (N:=["web","leaders"]) F (by walk_at "sc") λ_ _ _ _ _ _ hr hu hu1=>?_⟩,⟨λB D_is_whole F=>C9 (N:=["value"]) F (by walk_at "sc") λ_ _ _ _ _ _ hr hu hu1=>?_,λB D_are_leaders D_is_limit F=>C9 (N:=["self","web","leaders","limits","kept","passing"]) F (by walk_at "sc") λ_ _ _ _ _ _ hr hu hu1=>?_,λB D_is_number_of_hands D_first_wrong_passing F=>C9 (N:=["self","number","passings","wrong"]) F (by walk_at "sc") λ_ _ _ _ _ _ hr hu hu1=>?_,λB F=>C9 (N:=["self","h"]) F (by walk_at "sc") λ_ _ _ _ _ _ hr hu hu1=>?_,λB D_is_hand F=>C9 (N:=["web","leaders","chain"]) F (by walk_at "sc") λ_ _ _ _ _ _ hr hu hu1=>?_,λB D_Web_takers_of F=>C9 (N:=["web","walk"]) F (by walk_at "sc") λ_ _ _ _ _ _ hr hu hu1=>?_,λB D_longer_walks F=>C9 (N:=["web","leaders","x","chains","walks","walk"]) F (by walk_at "sc") λ_ _ _ _ _ _ hr hu hu1=>?_,λB D_is_passing F=>C9 (N:=["web","value"]) F (by walk_at "sc") λ_ _ _ _ _ _ hr hu hu1=>?_⟩,⟨λB D_is_hand D_is_chain F=>C9 (N:=["plan","value"]) F (by walk_at "sc") λ_ _ _ _ _ _ hr hu hu1=>?_,λB GL D_is_box D_is_chain_of F=>C9 (N:=["plan","value"]) F (by walk_at "sc") λ_ _ _ _ _ _ hr hu hu1=>?_,λB F=>C9 (N:=["self"]) F (by walk_at "sc") λ_ _ _ _ _ _ hr hu hu1=>?_,λB XD_Laid F=>rr (N:=["self","deed"]) F (by walk_at "sc") λ_ _ _ _ _ _ hr hu hu1=>?_,λB F=>C9 (N:=["self","passing"]) F (by walk_at "sc") λ_ _ _ _ _ _ hr hu hu1=>?_,λB D_Plan_limit F=>C9 (N:=["self","passing","chain"]) F (by walk_at "sc") λ_ _ _ _ _ _ hr hu hu1=>?_,λB F=>C9 (N:=["self","passing"]) F (by walk_at "sc") λ_ _ _ _ _ _ hr hu hu1=>?_,λB F=>C9 (N:=["self","chain"]) F (by walk_at "sc") λ_ _ _ _ _ _ hr hu hu1=>?_⟩,⟨λB D_Ledger_is_said_ahead F=>C9 (N:=["self","chain","left"]) F (by walk_at "sc") λ_ _ _ _ _ _ hr hu hu1=>?_,λB D_Ledger_is_laid_ahead XD_NotLaid D_Ledger_is_late XD_Late D_Ledger_is_sayable XD_Unknown F=>rr (N:=["self","deed","passing","chain"]) F (by walk_at "sc") λ_ _ _ _ _ _ hr hu hu1=>?_,λB GL D_is_deed XD_NoDeed DX_Ledger_take_lay DX_Ledger_take_say F=>rr (N:=["self","deed"]) F (by walk_at "sc") λ_ _ _ _ _ _ hr hu hu1=>?_,λB F=>C9 (N:=["self","passing"]) F (by walk_at "sc") λ_ _ _ _ _ _ hr hu hu1=>?_⟩⟩
 all_goals try delta L4 L5 j3 Z6 W6 W8 Q4 bN bO O1 T4 P4 T5 M8 J1 G5 aM W9 aU O2 O3 aZ O4 ba O5 X8 U2 bP U3 X9 U4 V3 U5 bQ Y2 U6 S3 oQ j5 oR rW oS rX
 all_goals conv=>arg 2;whnf
 all_goals try change eS _ _ _ _
 repeat' first
 | exists PS _ (Qw.For _ (Qx.Call (MD _ "items" _) _ _ _) _ _ _) _,FY Tw rfl ?_ ?_ ?_
 | exists Pe _ _ (LQ _ _) (ae _),oK _
 | exists Pa _ _ (_::_) (ag _ _),aP ?_ ?_
 | exists Pe _ _ (NO (Ui.int _) _ _) (eK (PV.int _)),lJ
 | exists Pa _ _ [] aNil,bq
 | exists eS _ _ (_::_) (au _ _),BN ?_ ?_
 | exists eS _ _ [_] _,jJ ?_
 | exists Ps _ _ (Qw.Return (some _) _) (aC _),lV ?_
 | exists PE _ (.ListComp _ [⟨.Tuple [.Name "low" _,.Name "high" _] _ _,_,_,_⟩] _ _) _,O9 (N:=["low","high"]) _ rfl (by walk_at "so") (by walk_at "fr") ?_ (λ_ _ _ _=>?_) (λ_ _ _ _=>?_) (λ_ _ _ _=>?_)
 | exists PE _ (.ListComp _ [⟨.Name "h" _,_,_,_⟩] _ _) _,O9 (N:=["h","web"]) _ rfl (by walk_at "so") (by walk_at "fr") ?_ (λ_ _ _ _=>?_) (λ_ _ _ _=>?_) (λ_ _ _ _=>?_)
 | exists PE _ (.ListComp _ [⟨.Tuple [.Name "giver" _,.Name "taker" _] _ _,_,_,_⟩] _ _) _,O9 (N:=["giver","taker","h"]) _ rfl (by walk_at "so") (by walk_at "fr") ?_ (λ_ _ _ _=>?_) (λ_ _ _ _=>?_) (λ_ _ _ _=>?_)
 | exists PE _ (.ListComp _ [⟨.Name "step" _,_,_,_⟩] _ _) _,O9 (N:=["step","web"]) _ rfl (by walk_at "so") (by walk_at "fr") ?_ (λ_ _ _ _=>?_) (λ_ _ _ _=>?_) (λ_ _ _ _=>?_)
 | exists PE _ (.ListComp _ [⟨.Name "taker" _,_,_,_⟩] _ _) _,O9 (N:=["taker","walk"]) _ rfl (by walk_at "so") (by walk_at "fr") ?_ (λ_ _ _ _=>?_) (λ_ _ _ _=>?_) (λ_ _ _ _=>?_)
 | exists PE _ (.ListComp _ [⟨.Name "h" _,_,_,_⟩] _ _) _,O9 (N:=["h","plan"]) _ rfl (by walk_at "so") (by walk_at "fr") ?_ (λ_ _ _ _=>?_) (λ_ _ _ _=>?_) (λ_ _ _ _=>?_)
 | exists PE _ (.ListComp _ [⟨.Tuple [.Name "turn" _,.Name "chain" _] _ _,_,_,_⟩] _ _) _,O9 (N:=["turn","chain"]) _ rfl (by walk_at "so") (by walk_at "fr") ?_ (λ_ _ _ _=>?_) (λ_ _ _ _=>?_) (λ_ _ _ _=>?_)
 | exists PE _ (.ListComp _ [⟨.Name "leader" _,_,_,_⟩] _ _) _,O9 (N:=["leader","words"]) _ rfl (by walk_at "so") (by walk_at "fr") ?_ (λ_ _ _ _=>?_) (λ_ _ _ _=>?_) (λ_ _ _ _=>?_)
 | exists PE _ (.ListComp _ [⟨.Name "passing" _,_,_,_⟩] _ _) _,O9 (N:=["passing","self"]) _ rfl (by walk_at "so") (by walk_at "fr") ?_ (λ_ _ _ _=>?_) (λ_ _ _ _=>?_) (λ_ _ _ _=>?_)
 | exists PE _ (.ListComp _ [⟨.Name "chain" _,_,_,_⟩] _ _) _,O9 (N:=["chain","self"]) _ rfl (by walk_at "so") (by walk_at "fr") ?_ (λ_ _ _ _=>?_) (λ_ _ _ _=>?_) (λ_ _ _ _=>?_)
 | exists PE _ (.ListComp _ [⟨.Name "_law_hand" _,_,_,_⟩] _ _) _,O9 (N:=["_law_hand","_law_cell"]) _ rfl (by walk_at "so") (by walk_at "fr") ?_ (λ_ _ _ _=>?_) (λ_ _ _ _=>?_) (λ_ _ _ _=>?_)
 | exists PS _ (.Assign _ (.ListComp _ [⟨.Name "_law_k" _,_,_,_⟩] _ _) _) _,uY (N:=["_law_k","_law_order"]) _ rfl (by walk_at "so") (by walk_at "fr") ?_ (λ_ _ _ _=>?_) (λ_ _ _ _=>?_) (λ_ _ _ _=>?_) (by walk_at "nd") rfl (by walk_at "o2")
 | exists PE _ (.ListComp _ [⟨.Tuple [.Name "_law_giver" _,.Name "_law_taker" _] _ _,_,_,_⟩] _ _) _,O9 (N:=["_law_giver","_law_taker","_law_way"]) _ rfl (by walk_at "so") (by walk_at "fr") ?_ (λ_ _ _ _=>?_) (λ_ _ _ _=>?_) (λ_ _ _ _=>?_)
 | exists PE _ (.ListComp _ [⟨.Name "_law_way" _,_,_,_⟩] _ _) _,O9 (N:=["_law_way","_law_leaders"]) _ rfl (by walk_at "so") (by walk_at "fr") ?_ (λ_ _ _ _=>?_) (λ_ _ _ _=>?_) (λ_ _ _ _=>?_)
 | exists PE _ (.ListComp _ [⟨.Tuple [.Name "_law_turn" _,.Name "_law_chain" _] _ _,_,_,_⟩] _ _) _,O9 (N:=["_law_turn","_law_chain"]) _ rfl (by walk_at "so") (by walk_at "fr") ?_ (λ_ _ _ _=>?_) (λ_ _ _ _=>?_) (λ_ _ _ _=>?_)
 | exists PE _ (.ListComp _ [⟨.Tuple [.Name "_law_at" _,.Name "_law_passing" _] _ _,_,_,_⟩] _ _) _,O9 (N:=["_law_at","_law_passing","_law_cell","_law_k"]) _ rfl (by walk_at "so") (by walk_at "fr") ?_ (λ_ _ _ _=>?_) (λ_ _ _ _=>?_) (λ_ _ _ _=>?_)
 | exists PE _ (.ListComp _ [⟨.Name "_law_chain" _,_,_,_⟩] _ _) _,O9 (N:=["_law_chain","_law_state","_law_free"]) _ rfl (by walk_at "so") (by walk_at "fr") ?_ (λ_ _ _ _=>?_) (λ_ _ _ _=>?_) (λ_ _ _ _=>?_)
 | exists PS _ (.Assign _ (.ListComp _ [⟨.Name "_law_k" _,_,_,_⟩] _ _) _) _,uY (N:=["_law_k","_law_web","_law_passings_here","_law_many","_law_cell"]) _ rfl (by walk_at "so") (by walk_at "fr") ?_ (λ_ _ _ _=>?_) (λ_ _ _ _=>?_) (λ_ _ _ _=>?_) (by walk_at "nd") rfl (by walk_at "o2")
 | exists PE _ (.ListComp _ [⟨.Name "_law_side_here" _,_,_,_⟩] _ _) _,O9 (N:=["_law_side_here","_law_x","_law_many"]) _ rfl (by walk_at "so") (by walk_at "fr") ?_ (λ_ _ _ _=>?_) (λ_ _ _ _=>?_) (λ_ _ _ _=>?_)
 | exists Ps _ _ (Pn [LQ _ _] _ _) (aD _ (gName _)),lX (by walk_at "nd") rfl (by walk_at "o2") ?_
 | exists Pe _ _ (Oc _ _ _) (eBin oIx _ _),r_ix ?_ ?_ (λ_ _=>rfl)
 | exists Pg _ _ _ (gName _),jG (gE (by walk_at "nd") rfl (by walk_at "o2"))
 | exists Pe _ _ ((LQ _ _).Call (_::_) [] _) (C8 _ _),uS (by assumption) (by decide) hr rfl ?_
 | exists Pe _ _ (MD _ _ _) (aJ _ _),rA _ B ?_
 | exists Pe _ _ (NO (Ui.str _) _ _) (eK (PV.str _)),iT
 | exists eS _ _ [] sPass,jI
 | exists Ps _ _ (Qw.If _ _ _ _) (br _ _ _),qk ?_ ?_ ?_
 | exists fw _ _ (ee _ _ (gCons _ _)),jH ?_ ?_
 | exists Pe _ _ (NG _ _ _ _) (eBin aS _ _),cH gO jB ?_ ?_
 | exists Pe _ _ (Qx.Tuple _ _ _) (aX _),lO ?_
 | exists L2.PI _ _ _ (EvI _ _ (bI _)),lZ ?_
 | exists Pe _ _ (Oc _ _ _) (eSGet _ _),r_sget hu1 ?_ ?_ (λ_ _=>rfl)
 | exists PT _ (Ny _ _ _) _,PW.pt ?_
 | exists Pt _ _ (RK Us.Not _ _) (tNot _),jD ?_
 | exists Pe _ _ (Qx.List _ _) (bA _),lP ?_
 | exists Pt _ _ (Md _ [_] [_] _) (av (eBin ck _ _)),cC (fV hu) iM ?_ ?_ (bL _)
 | exists Pw _ _ (Ny Rx (_::_::_) _) (tOr _ _),BG ?_ ?_
 | exists Ps _ _ (Pn [MD _ _ _] _ _) (sFld _ _ _),rB _ B ?_ ?_
 | exists Pe _ _ (NG _ _ _ _) (eBin bH _ _),cH jh jz ?_ ?_
 | exists Pw _ _ (Ny Rx [_] _) _,jE ?_
 | exists jO _ _ (fB _ _ bp),jP
 | exists Pt _ _ (Md _ [_] [_] _) (av (eBin cQ _ _)),cC (fW hu) iN ?_ ?_ (bL _)
 | exists Pe _ _ ((LQ (LP "len") _).Call [_] [] _) (q8 _),BI ?_ rfl B.b_len
 | exists Pe _ _ (NO (Ui.bool _) _ _) (eK (PV.bl _)),qh
 | exists Pg _ _ (Qx.Tuple _ _ _) (gTup _ _),lU rfl ?_
 | exists fw _ _ (ee _ _ gNil),lT
 | exists Pe _ _ (Ny QW (_::_::_) _) (Y9 _ _),iJ ?_ ?_
 | exists Pe _ _ (Ny QW [_] _) _,fU ?_
 | exists Pe _ _ ((MD _ _ _).Call (_::_) [] _) (aQ _ _ _ _),Cd (by assumption) (by decide) hr (B.cls _ (by decide)) ?_ ?_ (by decide +kernel)
 | exists Ps _ _ (Qw.Expr _ _) (aO _),jK ?_
 | exists bZ _ [_] (bC _ _ _ _),gU ?_
 | exists L2.PO _ _ (jF _ _ (fK _)),lR ?_
 | exists Pe _ _ ((LQ (LP "all") _).Call [_] [] _) (fA _),CU rfl ?_ rfl B.b_all
 | exists jO _ [_] (fB _ _ _),jQ ?_
 | exists bZ _ _ (bC _ _ _ (au _ _)),gc ?_ ?_
 | exists PS _ (Qw.For _ _ _ _ _) _,lY Tw rfl ?_ ?_ ?_
 | exists Pe _ _ (Oc _ (Qx.Slice _ _ none _) _) (df _ _ _),lS ?_ ?_ ?_
 | exists Pe _ _ (Qx.Dict [] [] _) eTNew,jZ
 | exists Pe _ _ (RK Us.USub (NO (Ui.int _) _ _) _) (eK (PV.int (-_))),mj
 | exists Pe _ _ (Md _ [_] [_] _) (eBin ck _ _),dq (fV hu) iM ?_ ?_ (bL _)
 | exists Pe _ _ (NG _ _ _ _) (eBin cG _ _),cH jg jA ?_ ?_
 | exists Pe _ _ (NG _ _ _ _) (eBin bB _ _),cH gG gN ?_ ?_
 | exists Pt _ _ (Md _ [_] [_] _) (av (eBin dv _ _)),cC (fX hu) iO ?_ ?_ (by rfl)
 | exists L2.PO _ _ (jF _ _ gJ),lQ
 | exists Pe _ _ (Oc _ _ _) (eTGet _ _),r_tget hu1 ?_ ?_ (λ_ _=>rfl)
 | exists Pt _ _ (Md _ [_] [_] _) (av (eBin bt _ _)),cC (eU hu) fY ?_ ?_ (by rfl)
 | exists PS _ _ (bC _ _ _ (br (dg _) _ _)),mr ?_ ?_ ?_
 | exists L2.PI _ _ _ (EvI _ _ (iRng1 _)),jL rfl B.b_range ?_
 | exists Pe _ _ ((MD _ (LP "append") _).Call [_] [] _) (V5 _ _),BM ?_ ?_
 | exists PS _ _ (bC _ _ _ (bW _ _)),gf gd rfl (by assumption) (by decide) hr rfl ?_
 | exists PH _ _ _ (PySem.ExceptHandler.ExceptHandler (some (LQ _ _)) (some _) (_::_) _::_) ((_,some _,_)::_),bA0 ER (by decide) rfl (by walk_at "gl") (by walk_at "nd") rfl rfl (λ_=>Ft rfl (by walk_at "nd") rfl rfl rfl (by decide) rfl rfl rfl (dy rg (dy (my eh) (dy (ki (gh eh) (kh (gh eh))) kf))) (aP iT (aP (qW ER EG (oK 5)) (aP (iJ (iS ER EG (by decide) (oK 5) rfl B.b_isinstance rfl (by walk_at "gl")) (fU (iK (iS ER EG (by decide) (oK 5) rfl B.b_isinstance rfl (by walk_at "gl"))))) bq)))) ?_
 | exists Pe _ _ (Md _ [_] [_] _) (eBin eO _ _),dq fF fR ?_ ?_ (bL _)
 | exists Ps _ _ _ sNever,gR
 | exists Ps _ _ (Pn [Oc _ _ _] _ _) (cR _ _ _),jY hu1 ?_ ?_ ?_
 | exists Pe _ _ ((LQ (LP "sorted") _).Call [_] [] _) (b9 _),Cy hu ?_ rfl B.b_sorted
 | exists Pw _ _ (Ny QW (_::_::_) _) (tAnd _ _),BF ?_ ?_
 | exists Pw _ _ (Ny QW [_] _) _,gQ ?_
 | exists Pe _ _ ((MD _ _ _).Call [] [] _) (aQ _ _ _ aNil),fZ (by assumption) (by decide) hr (B.cls _ (by decide)) ?_ (by decide +kernel)
 | exists kU _ _ _ (some _::_) (_::_) ((_,_)::_),FJ ?_ ?_ ?_
 | exists Pe _ _ ((LQ (LP "isinstance") _).Call [_,LQ _ _] [] _) (fy _ _),nV B.kit ?_ rfl B.b_isinstance rfl B.b_tuple SF
 | exists Pe _ _ ((LQ (LP "list") _).Call [_] [] _) (l4 _),BJ ?_ rfl B.b_list Qq
 | exists Pt _ _ (Md _ [_] [_] _) (av (eBin eO _ _)),cC fF fR ?_ ?_ (bL _)
 | exists Pe _ _ (Md _ [_] [_] _) (eBin dv _ _),dq (fX hu) iO ?_ ?_ (by rfl)
 | exists PS _ (Qw.While _ _ _ _) _,gS Tw ?_ ?_
 | exists Pe _ _ (LQ _ _) (eK (PV.str _)),gZ rfl (by walk_at "gl")
 | exists Pe _ _ (Md _ [SG.In] [_] _) (dh _ _),jX hu1 ?_ ?_
 | exists Pe _ _ ((MD _ (LP "setdefault") _).Call [_,_] [] _) (i6 _ _ _),Fg hu1 ?_ ?_ ?_
 | exists kP _ _ ((MD _ _ _).Call (_::_) [] _) (i5 _ _ _ _),DK (by assumption) (by decide) hr (B.cls _ (by decide)) ?_ ?_ (by decide +kernel)
 | exists Pe _ _ ((MD _ (LP "get") _).Call [_,_] [] _) (kI _ _ _),Ec hu1 ?_ ?_ ?_
 | exists Ps _ _ (Pn [_] _ _) (aD _ _),lW ?_ ?_
 | exists Pe _ _ ((LQ _ _).Call (_::_) [] _) (iD _ _ _),Ce (by assumption) (by decide) hr rfl ?_
 | exists Pe _ _ (LQ _ _) (eK (PV.int _)),jN rfl (by walk_at "gl")
 | exists L2.PI _ _ _ (EvI _ _ (fL _)),md rfl B.b_enumerate ?_
 | exists Pe _ _ ((LQ (LP "tuple") _).Call [_] [] _) (i4 _),CZ ?_ rfl B.b_tuple SF
 | exists L2.PI _ _ _ (EvI _ _ (iZip _ _)),i_zip (λ_ _=>nofun) rfl B.b_zip ?_ ?_
 | exists PS _ _ (bC _ _ _ (aO _)),gV gd ?_
 | exists Pt _ _ (Md _ [_] [_] _) (av (eBin ju _ _)),cC ix iH ?_ ?_ (bL _)
 | exists Pe _ _ (NG _ _ _ _) (eBin fN _ _),cH jl kd ?_ ?_
 | exists Pe _ _ (NG _ _ _ _) (eBin fM _ _),cH jk ka ?_ ?_
 | exists Pe _ _ (NG _ _ _ _) (eBin fH _ _),cH jf jy ?_ ?_
 | exists Pe _ _ ((LQ (LP "int") _).Call [_] [] _) (lG _),EN ?_ rfl B.b_int
 | exists Pe _ _ ((LQ (LP "isinstance") _).Call [_,LQ _ _] [] _) (fy _ _),nV B.kit ?_ rfl B.b_isinstance rfl B.b_int Tt
 | exists Pe _ _ (RK Us.Not _ _) (de _),iK ?_
 | exists Pe _ _ ((LQ (LP "isinstance") _).Call [_,LQ _ _] [] _) (fy _ _),nV B.kit ?_ rfl B.b_isinstance rfl B.b_bool PyProof.Rows.boot_bool
 | exists Pe _ _ (Md _ [_,_] [_,_] _) (cL jt eO _ _ _),eC fG fS fF fR ?_ ?_ ?_
 | exists Pe _ _ (Md _ [_,_] [_,_] _) (cL jt jt _ _ _),eC fG fS fG fS ?_ ?_ ?_
 | exists Pe _ _ (Md _ [_] [_] _) (eBin cQ _ _),dq (fW hu) iN ?_ ?_ (bL _)
 | exists Pe _ _ (NO SS _ _) (eK PV.non),lK
 | exists Pe _ _ (Qx.IfExp _ _ _ _) (nr _ _ _),qj ?_ ?_ ?_
 | exists Pt _ _ (Md _ [SG.Is] [NO SS _ _] _) (av (gI _)),jC ?_
 | exists Pe _ _ ((LQ (LP "isinstance") _).Call [_,LQ _ _] [] _) (fy _ _),nV B.kit ?_ rfl B.b_isinstance rfl B.b_list Qq
 | exists Pe _ _ (Md _ [_] [_] _) (eBin kF _ _),dq iy iI ?_ ?_ (bL _)
 | exists Pe _ _ ((MD _ (LP "get") _).Call [_] [] _) (nA _ _),Eb hu1 ?_ ?_
 | exists Pe _ _ ((LQ (LP "dict") _).Call [_] [] _) (nB _),EL ?_ rfl B.b_dict
 | exists Pt _ _ (Md _ [SG.IsNot] [NO SS _ _] _) (av (fJ _)),gP ?_
 | exists Pe _ _ ((LQ (LP "len") _).Call [(LQ (LP "set") _).Call [_] [] _] [] _) (ny _),Dr rfl ?_ rfl B.b_len rfl B.b_set
 | exists Pe _ _ ((MD _ (LP "pop") _).Call [_] [] _) (nu _),CV ?_ ?_
 | exists Pe _ _ ((MD _ (LP "extend") _).Call [_] [] _) (nv _ _),C0 ?_ ?_
 | exists Pt _ _ (Md _ [SG.In] [_] _) (av (dh _ _)),gX hu1 ?_ ?_
 | exists Pe _ _ (Md _ [_] [_] _) (eBin ju _ _),dq ix iH ?_ ?_ (bL _)
 | exists Pe _ _ (Ny Rx (_::_::_) _) (nq _ _),BH ?_ ?_
 | exists Pe _ _ (Ny Rx [_] _) _,lN ?_
 | exists Pe _ _ ((LQ (LP "sorted") _).Call [_] [] _) (nC _),EZ rfl ?_ rfl B.b_sorted
 | exists Pe _ _ (NG _ _ _ _) (eBin gK _ _),cH ji jW ?_ ?_
 | exists Pe _ _ ((LQ _ _).Call (_::_) [] _) (C8 _ _),uS (by assumption) (Lp _) hr rfl ?_
 | exists Pt _ _ (Md _ [_] [_] _) (av (eBin kF _ _)),cC iy iI ?_ ?_ (bL _)
 | exists Pt _ _ (((LQ (LP "set") _).Call [_] [] _).Compare [SG.Eq] [(LQ (LP "set") _).Call [_] [] _] _) (av (lI _ _)),Gf rfl hu1 ?_ ?_ rfl B.b_set
 | exists Ps _ _ (Qw.Try [_] (_::_) [] [] _) (kH _ _ _),Ea ⟨rfl,rfl⟩ ?_ ?_
 | exists qX _ _ (Qw.Expr _ _) (aO _),gW ?_
 | exists PH _ _ _ _ [],jV
 | exists Pe _ _ (NG _ _ _ _) (eBin gL _ _),cH jj kc ?_ ?_
 | exists Pe _ _ ((LQ (LP "dict") _).Call [_] [] _) (nF _),Fn rfl hu ?_ rfl B.b_dict
 | exists Pe _ _ (Qx.Dict _ _ _) (dw _),hF ?_
 | exists kU _ _ _ [] [] [],kl
 | exists Pe _ _ ((LQ (LP "sorted") _).Call [(LQ (LP "set") _).Call [_] [] _] [] _) (l7 _),FH rfl ?_ rfl B.b_sorted rfl B.b_set
 | exists Ps _ _ (Pn [Oc _ _ _] _ _) (dH _ _ _),kj hu1 ?_ ?_ ?_
 | exists Pe _ _ ((LQ (LP "list") _).Call [_] [] _) (nE _),Fb rfl ?_ rfl B.b_list
 | exists Pt _ _ _ (av _),jx ?_
 | exists bZ _ _ (bC _ _ _ (cB _)),jT ?_
 | exists PS _ _ (bC _ _ _ (cB _)),mq ?_
 | (fail_if_success (with_reducible show Pe _ _ _ _));change Pe _ _ _ _
 | (fail_if_success (with_reducible show Pt _ _ _ _));change Pt _ _ _ _
 | (fail_if_success (with_reducible show Pg _ _ _ _));change Pg _ _ _ _
def Kq1:((∀{fa:Addr} {fd:LN} (B:H8 K mg cm) (D_Ledger_said:i8 P w K mg base cm 2 "said" 1 ["self","passing"] N6 2) (F:L2.Fun K "has_all_words" "Ledger.has_all_words" (C3 (top 29) 11) fa fd),az P w K mg base aR (2) fa fd ["self","passing"] (aV K cm E4 2))/\(∀{fa:Addr} {fd:LN} (B:H8 K mg cm) (F:L2.Fun K "laid" "Ledger.laid" (C3 (top 29) 12) fa fd),az P w K mg base aR (1) fa fd ["self"] (aV K cm J3 1))/\(∀{fa:Addr} {fd:LN} (B:H8 K mg cm) (D_Ledger_has_all_words:i8 P w K mg base cm 2 "has_all_words" 2 ["self","passing"] E4 2) (D_Ledger_laid:i8 P w K mg base cm 2 "laid" 1 ["self"] J3 1) (F:L2.Fun K "opened" "Ledger.opened" (C3 (top 29) 13) fa fd),az P w K mg base aR (3) fa fd ["self"] (aV K cm N1 1))/\(∀{fa:Addr} {fd:LN} (B:H8 K mg cm) (D_chains_from:bS P w K mg base cm "chains_from" 3 ["web","leaders","x"] N3 3) (D_Ledger_is_sayable:i8 P w K mg base cm 2 "is_sayable" 2 ["self","chain"] D8 2) (F:L2.Fun K "can_say" "Ledger.can_say" (C3 (top 29) 15) fa fd),az P w K mg base aR (4) fa fd ["self","h"] (aV K cm J7 2))/\(∀{fa:Addr} {fd:LN} (B:H8 K mg cm) (F:L2.Fun K "_law_cell_at" "_law_cell_at" (top 36) fa fd),az P w K mg base aR (1) fa fd ["_law_script","_law_k"] (aV K cm L8 2))/\(∀{fa:Addr} {fd:LN} (B:H8 K mg cm) (F:L2.Fun K "_law_mixed" "_law_mixed" (top 38) fa fd),az P w K mg base aR (1) fa fd ["_law_cell","_law_k"] (aV K cm E1 2))/\(∀{fa:Addr} {fd:LN} (B:H8 K mg cm) (D_law_mixed:bS P w K mg base cm "_law_mixed" 1 ["_law_cell","_law_k"] E1 2) (F:L2.Fun K "_law_passings" "_law_passings" (top 39) fa fd),az P w K mg base aR (2) fa fd ["_law_cell","_law_many"] (aV K cm M5 2))/\(∀{fa:Addr} {fd:LN} (B:H8 K mg cm) (F:L2.Fun K "_law_some" "_law_some" (top 40) fa fd),az P w K mg base aR (1) fa fd ["_law_cell","_law_many"] (aV K cm Q5 2)))/\((∀{fa:Addr} {fd:LN} (B:H8 K mg cm) (F:L2.Fun K "_law_ways" "_law_ways" (top 41) fa fd),az P w K mg base aR (1) fa fd ["_law_passings_here","_law_ways_here"] (aV K cm T6 2))/\(∀{fa:Addr} {fd:LN} (B:H8 K mg cm) (D_law_ways:bS P w K mg base cm "_law_ways" 1 ["_law_passings_here","_law_ways_here"] T6 2) (F:L2.Fun K "_law_chains" "_law_chains" (top 42) fa fd),az P w K mg base aR (2) fa fd ["_law_passings_here","_law_leaders","_law_hand"] (aV K cm G7 3))/\(∀{fa:Addr} {fd:LN} {kk:Nat} {rec:Fun} (B:H8 K mg cm) (D_law_known:bS P w K mg base cm "_law_known" kk ["_law_state","_law_free","_law_chain"] rec 3) (F:L2.Fun K "_law_known" "_law_known" (top 43) fa fd),az P w K mg base aR (kk+1) fa fd ["_law_state","_law_free","_law_chain"] (aV K cm (D7 rec) 3))/\(∀{fa:Addr} {fd:LN} (B:H8 K mg cm) (D_law_chains:bS P w K mg base cm "_law_chains" 2 ["_law_passings_here","_law_leaders","_law_hand"] G7 3) (D_law_known:bS P w K mg base cm "_law_known" 7 ["_law_state","_law_free","_law_chain"] R5 3) (F:L2.Fun K "_law_due" "_law_due" (top 44) fa fd),az P w K mg base aR (8) fa fd ["_law_state","_law_web","_law_free","_law_deed_here"] (aV K cm N7 4))/\(∀{fa:Addr} {fd:LN} (B:H8 K mg cm) (F:L2.Fun K "_law_put" "_law_put" (top 45) fa fd),az P w K mg base aR (1) fa fd ["_law_state","_law_deed_here"] (aV K cm N8 2))/\(∀{fa:Addr} {fd:LN} (B:H8 K mg cm) (F:L2.Fun K "_law_open" "_law_open" (top 46) fa fd),az P w K mg base aR (1) fa fd ["_law_state","_law_leaders"] (aV K cm T7 2))/\(∀{fa:Addr} {fd:LN} (B:H8 K mg cm) (ER:mw K cm [7,8,9,12,13,14,15,16]) (EG:oE K cm [7,8,9,12,13,14,15,16]) (MC:yg mg cm) (DX_Ledger_take:mu P w K mg base cm 2 "take" 6 ["self","deed"] L7 2) (F:L2.Fun K "_law_taken" "_law_taken" (top 47) fa fd),az P w K mg base aR (7) fa fd ["_law_ledger","_law_deed_here"] (aV K cm J4 2))/\(∀{fa:Addr} {fd:LN} (B:H8 K mg cm) (D_law_some:bS P w K mg base cm "_law_some" 1 ["_law_cell","_law_many"] Q5 2) (D_law_mixed:bS P w K mg base cm "_law_mixed" 1 ["_law_cell","_law_k"] E1 2) (D_Ledger_init:me P w K mg base cm 2 "Ledger" 1 ["self","plan","free"] L6 3) (D_Plan_init:me P w K mg base cm 1 "Plan" 4 ["self","web","leaders","limits"] P1 4) (F:L2.Fun K "_law_side" "_law_side" (top 48) fa fd),az P w K mg base aR (6) fa fd ["_law_web","_law_passings_here","_law_many","_law_cell","_law_k"] (aV K cm Q6 5)))/\((∀{fa:Addr} {fd:LN} (B:H8 K mg cm) (D_law_chains:bS P w K mg base cm "_law_chains" 2 ["_law_passings_here","_law_leaders","_law_hand"] G7 3) (F:L2.Fun K "_law_deed" "_law_deed" (top 49) fa fd),az P w K mg base aR (3) fa fd ["_law_passings_here","_law_leaders","_law_x"] (aV K cm Q7 3))/\(∀{fa:Addr} {fd:LN} (B:H8 K mg cm) (D_law_chains:bS P w K mg base cm "_law_chains" 2 ["_law_passings_here","_law_leaders","_law_hand"] G7 3) (D_Ledger_can_say:i8 P w K mg base cm 2 "can_say" 4 ["self","h"] J7 2) (D_law_known:bS P w K mg base cm "_law_known" 7 ["_law_state","_law_free","_law_chain"] R5 3) (F:L2.Fun K "_law_tells" "_law_tells" (top 50) fa fd),az P w K mg base aR (8) fa fd ["_law_side_here","_law_hand"] (aV K cm P3 2))/\(∀{fa:Addr} {fd:LN} (B:H8 K mg cm) (D_law_cell_at:bS P w K mg base cm "_law_cell_at" 1 ["_law_script","_law_k"] L8 2) (D_law_mixed:bS P w K mg base cm "_law_mixed" 1 ["_law_cell","_law_k"] E1 2) (D_law_passings:bS P w K mg base cm "_law_passings" 2 ["_law_cell","_law_many"] M5 2) (D_Web_init:me P w K mg base cm 0 "Web" 5 ["self","number","passings"] P2 3) (D_law_side:bS P w K mg base cm "_law_side" 6 ["_law_web","_law_passings_here","_law_many","_law_cell","_law_k"] Q6 5) (D_Ledger_move:i8 P w K mg base cm 2 "move" 1 ["self"] N5 1) (D_law_deed:bS P w K mg base cm "_law_deed" 3 ["_law_passings_here","_law_leaders","_law_x"] Q7 3) (D_law_due:bS P w K mg base cm "_law_due" 8 ["_law_state","_law_web","_law_free","_law_deed_here"] N7 4) (D_law_taken:bS P w K mg base cm "_law_taken" 7 ["_law_ledger","_law_deed_here"] J4 2) (D_law_put:bS P w K mg base cm "_law_put" 1 ["_law_state","_law_deed_here"] N8 2) (D_law_tells:bS P w K mg base cm "_law_tells" 8 ["_law_side_here","_law_hand"] P3 2) (D_Ledger_opened:i8 P w K mg base cm 2 "opened" 3 ["self"] N1 1) (D_law_open:bS P w K mg base cm "_law_open" 1 ["_law_state","_law_leaders"] T7 2) (D_Ledger_laid:i8 P w K mg base cm 2 "laid" 1 ["self"] J3 1) (F:L2.Fun K "law" "law" (top 51) fa fd),az P w K mg base aR (9) fa fd ["_law_script"] (aV K cm oU 1))):=by
 refine⟨⟨λB D_Ledger_said F=>C9 (N:=["self","passing","words"]) F (by walk_at "sc") λ_ _ _ _ _ _ hr hu hu1=>?_,λB F=>C9 (N:=["self"]) F (by walk_at "sc") λ_ _ _ _ _ _ hr hu hu1=>?_,λB D_Ledger_has_all_words D_Ledger_laid F=>C9 (N:=["self"]) F (by walk_at "sc") λ_ _ _ _ _ _ hr hu hu1=>?_,λB D_chains_from D_Ledger_is_sayable F=>C9 (N:=["self","h","chains"]) F (by walk_at "sc") λ_ _ _ _ _ _ hr hu hu1=>?_,λB F=>C9 (N:=["_law_script","_law_k"]) F (by walk_at "sc") λ_ _ _ _ _ _ hr hu hu1=>?_,λB F=>C9 (N:=["_law_cell","_law_k","_law_number"]) F (by walk_at "sc") λ_ _ _ _ _ _ hr hu hu1=>?_,λB D_law_mixed F=>C9 (N:=["_law_cell","_law_many","_law_order","_law_ring","_law_found","_law_giver","_law_taker","_law_x"]) F (by walk_at "sc") λ_ _ _ _ _ _ hr hu hu1=>?_,λB F=>C9 (N:=["_law_cell","_law_many"]) F (by walk_at "sc") λ_ _ _ _ _ _ hr hu hu1=>?_⟩,⟨λB F=>C9 (N:=["_law_passings_here","_law_ways_here","_law_found","_law_more","_law_way"]) F (by walk_at "sc") λ_ _ _ _ _ _ hr hu hu1=>?_,λB D_law_ways F=>C9 (N:=["_law_passings_here","_law_leaders","_law_hand"]) F (by walk_at "sc") λ_ _ _ _ _ _ hr hu hu1=>?_,λB D_law_known F=>C9 (N:=["_law_state","_law_free","_law_chain","_law_rest"]) F (by walk_at "sc") λ_ _ _ _ _ _ hr hu hu1=>?_,λB D_law_chains D_law_known F=>C9 (N:=["_law_state","_law_web","_law_free","_law_deed_here","_law_passings_here","_law_leaders","_law_limits"]) F (by walk_at "sc") λ_ _ _ _ _ _ hr hu hu1=>?_,λB F=>C9 (N:=["_law_state","_law_deed_here"]) F (by walk_at "sc") λ_ _ _ _ _ _ hr hu hu1=>?_,λB F=>C9 (N:=["_law_state","_law_leaders","_law_found","_law_passing","_law_said"]) F (by walk_at "sc") λ_ _ _ _ _ _ hr hu hu1=>?_,λB ER EG MC DX_Ledger_take F=>C9 (N:=["_law_ledger","_law_deed_here","_law_word","_law_value","_law_plain","e"]) F (by walk_at "sc") λ_ _ _ _ _ _ hr hu hu1=>?_,λB D_law_some D_law_mixed D_Ledger_init D_Plan_init F=>C9 (N:=["_law_web","_law_passings_here","_law_many","_law_cell","_law_k","_law_leaders","_law_free","_law_limits","_law_state"]) F (by walk_at "sc") λ_ _ _ _ _ _ hr hu hu1=>?_⟩,⟨λB D_law_chains F=>C9 (N:=["_law_passings_here","_law_leaders","_law_x","_law_passing","_law_chains_here"]) F (by walk_at "sc") λ_ _ _ _ _ _ hr hu hu1=>?_,λB D_law_chains D_Ledger_can_say D_law_known F=>C9 (N:=["_law_side_here","_law_hand","_law_web","_law_free","_law_state","_law_ledger","_law_chains_here"]) F (by walk_at "sc") λ_ _ _ _ _ _ hr hu hu1=>?_,λB D_law_cell_at D_law_mixed D_law_passings D_Web_init D_law_side D_Ledger_move D_law_deed D_law_due D_law_taken D_law_put D_law_tells D_Ledger_opened D_law_open D_Ledger_laid F=>C9 (N:=["_law_script","_law_cell","_law_many","_law_passings_here","_law_web","_law_sides","_law_leaders","_law_x","_law_parts","_law_free","_law_state","_law_ledger","_law_deed_here","_law_due_here"]) F (by walk_at "sc") λ_ _ _ _ _ _ hr hu hu1=>?_⟩⟩
 all_goals try delta L4 L5 j3 Z6 W6 W8 Q4 bN bO O1 T4 P4 T5 M8 J1 G5 aM W9 aU O2 O3 aZ O4 ba O5 X8 U2 bP U3 X9 U4 V3 U5 bQ Y2 U6 S3 oQ j5 oR rW oS rX
 all_goals conv=>arg 2;whnf
 all_goals try change eS _ _ _ _
 repeat' first
 | exists PS _ (Qw.For _ (Qx.Call (MD _ "items" _) _ _ _) _ _ _) _,FY Tw rfl ?_ ?_ ?_
 | exists Pe _ _ (LQ _ _) (ae _),oK _
 | exists Pa _ _ (_::_) (ag _ _),aP ?_ ?_
 | exists Pe _ _ (NO (Ui.int _) _ _) (eK (PV.int _)),lJ
 | exists Pa _ _ [] aNil,bq
 | exists eS _ _ (_::_) (au _ _),BN ?_ ?_
 | exists eS _ _ [_] _,jJ ?_
 | exists Ps _ _ (Qw.Return (some _) _) (aC _),lV ?_
 | exists PE _ (.ListComp _ [⟨.Tuple [.Name "low" _,.Name "high" _] _ _,_,_,_⟩] _ _) _,O9 (N:=["low","high"]) _ rfl (by walk_at "so") (by walk_at "fr") ?_ (λ_ _ _ _=>?_) (λ_ _ _ _=>?_) (λ_ _ _ _=>?_)
 | exists PE _ (.ListComp _ [⟨.Name "h" _,_,_,_⟩] _ _) _,O9 (N:=["h","web"]) _ rfl (by walk_at "so") (by walk_at "fr") ?_ (λ_ _ _ _=>?_) (λ_ _ _ _=>?_) (λ_ _ _ _=>?_)
 | exists PE _ (.ListComp _ [⟨.Tuple [.Name "giver" _,.Name "taker" _] _ _,_,_,_⟩] _ _) _,O9 (N:=["giver","taker","h"]) _ rfl (by walk_at "so") (by walk_at "fr") ?_ (λ_ _ _ _=>?_) (λ_ _ _ _=>?_) (λ_ _ _ _=>?_)
 | exists PE _ (.ListComp _ [⟨.Name "step" _,_,_,_⟩] _ _) _,O9 (N:=["step","web"]) _ rfl (by walk_at "so") (by walk_at "fr") ?_ (λ_ _ _ _=>?_) (λ_ _ _ _=>?_) (λ_ _ _ _=>?_)
 | exists PE _ (.ListComp _ [⟨.Name "taker" _,_,_,_⟩] _ _) _,O9 (N:=["taker","walk"]) _ rfl (by walk_at "so") (by walk_at "fr") ?_ (λ_ _ _ _=>?_) (λ_ _ _ _=>?_) (λ_ _ _ _=>?_)
 | exists PE _ (.ListComp _ [⟨.Name "h" _,_,_,_⟩] _ _) _,O9 (N:=["h","plan"]) _ rfl (by walk_at "so") (by walk_at "fr") ?_ (λ_ _ _ _=>?_) (λ_ _ _ _=>?_) (λ_ _ _ _=>?_)
 | exists PE _ (.ListComp _ [⟨.Tuple [.Name "turn" _,.Name "chain" _] _ _,_,_,_⟩] _ _) _,O9 (N:=["turn","chain"]) _ rfl (by walk_at "so") (by walk_at "fr") ?_ (λ_ _ _ _=>?_) (λ_ _ _ _=>?_) (λ_ _ _ _=>?_)
 | exists PE _ (.ListComp _ [⟨.Name "leader" _,_,_,_⟩] _ _) _,O9 (N:=["leader","words"]) _ rfl (by walk_at "so") (by walk_at "fr") ?_ (λ_ _ _ _=>?_) (λ_ _ _ _=>?_) (λ_ _ _ _=>?_)
 | exists PE _ (.ListComp _ [⟨.Name "passing" _,_,_,_⟩] _ _) _,O9 (N:=["passing","self"]) _ rfl (by walk_at "so") (by walk_at "fr") ?_ (λ_ _ _ _=>?_) (λ_ _ _ _=>?_) (λ_ _ _ _=>?_)
 | exists PE _ (.ListComp _ [⟨.Name "chain" _,_,_,_⟩] _ _) _,O9 (N:=["chain","self"]) _ rfl (by walk_at "so") (by walk_at "fr") ?_ (λ_ _ _ _=>?_) (λ_ _ _ _=>?_) (λ_ _ _ _=>?_)
 | exists PE _ (.ListComp _ [⟨.Name "_law_hand" _,_,_,_⟩] _ _) _,O9 (N:=["_law_hand","_law_cell"]) _ rfl (by walk_at "so") (by walk_at "fr") ?_ (λ_ _ _ _=>?_) (λ_ _ _ _=>?_) (λ_ _ _ _=>?_)
 | exists PS _ (.Assign _ (.ListComp _ [⟨.Name "_law_k" _,_,_,_⟩] _ _) _) _,uY (N:=["_law_k","_law_order"]) _ rfl (by walk_at "so") (by walk_at "fr") ?_ (λ_ _ _ _=>?_) (λ_ _ _ _=>?_) (λ_ _ _ _=>?_) (by walk_at "nd") rfl (by walk_at "o2")
 | exists PE _ (.ListComp _ [⟨.Tuple [.Name "_law_giver" _,.Name "_law_taker" _] _ _,_,_,_⟩] _ _) _,O9 (N:=["_law_giver","_law_taker","_law_way"]) _ rfl (by walk_at "so") (by walk_at "fr") ?_ (λ_ _ _ _=>?_) (λ_ _ _ _=>?_) (λ_ _ _ _=>?_)
 | exists PE _ (.ListComp _ [⟨.Name "_law_way" _,_,_,_⟩] _ _) _,O9 (N:=["_law_way","_law_leaders"]) _ rfl (by walk_at "so") (by walk_at "fr") ?_ (λ_ _ _ _=>?_) (λ_ _ _ _=>?_) (λ_ _ _ _=>?_)
 | exists PE _ (.ListComp _ [⟨.Tuple [.Name "_law_turn" _,.Name "_law_chain" _] _ _,_,_,_⟩] _ _) _,O9 (N:=["_law_turn","_law_chain"]) _ rfl (by walk_at "so") (by walk_at "fr") ?_ (λ_ _ _ _=>?_) (λ_ _ _ _=>?_) (λ_ _ _ _=>?_)
 | exists PE _ (.ListComp _ [⟨.Tuple [.Name "_law_at" _,.Name "_law_passing" _] _ _,_,_,_⟩] _ _) _,O9 (N:=["_law_at","_law_passing","_law_cell","_law_k"]) _ rfl (by walk_at "so") (by walk_at "fr") ?_ (λ_ _ _ _=>?_) (λ_ _ _ _=>?_) (λ_ _ _ _=>?_)
 | exists PE _ (.ListComp _ [⟨.Name "_law_chain" _,_,_,_⟩] _ _) _,O9 (N:=["_law_chain","_law_state","_law_free"]) _ rfl (by walk_at "so") (by walk_at "fr") ?_ (λ_ _ _ _=>?_) (λ_ _ _ _=>?_) (λ_ _ _ _=>?_)
 | exists PS _ (.Assign _ (.ListComp _ [⟨.Name "_law_k" _,_,_,_⟩] _ _) _) _,uY (N:=["_law_k","_law_web","_law_passings_here","_law_many","_law_cell"]) _ rfl (by walk_at "so") (by walk_at "fr") ?_ (λ_ _ _ _=>?_) (λ_ _ _ _=>?_) (λ_ _ _ _=>?_) (by walk_at "nd") rfl (by walk_at "o2")
 | exists PE _ (.ListComp _ [⟨.Name "_law_side_here" _,_,_,_⟩] _ _) _,O9 (N:=["_law_side_here","_law_x","_law_many"]) _ rfl (by walk_at "so") (by walk_at "fr") ?_ (λ_ _ _ _=>?_) (λ_ _ _ _=>?_) (λ_ _ _ _=>?_)
 | exists Ps _ _ (Pn [LQ _ _] _ _) (aD _ (gName _)),lX (by walk_at "nd") rfl (by walk_at "o2") ?_
 | exists Pe _ _ (Oc _ _ _) (eBin oIx _ _),r_ix ?_ ?_ (λ_ _=>rfl)
 | exists Pg _ _ _ (gName _),jG (gE (by walk_at "nd") rfl (by walk_at "o2"))
 | exists Pe _ _ ((LQ _ _).Call (_::_) [] _) (C8 _ _),uS (by assumption) (by decide) hr rfl ?_
 | exists Pe _ _ (MD _ _ _) (aJ _ _),rA _ B ?_
 | exists Pe _ _ (NO (Ui.str _) _ _) (eK (PV.str _)),iT
 | exists eS _ _ [] sPass,jI
 | exists Ps _ _ (Qw.If _ _ _ _) (br _ _ _),qk ?_ ?_ ?_
 | exists fw _ _ (ee _ _ (gCons _ _)),jH ?_ ?_
 | exists Pe _ _ (NG _ _ _ _) (eBin aS _ _),cH gO jB ?_ ?_
 | exists Pe _ _ (Qx.Tuple _ _ _) (aX _),lO ?_
 | exists L2.PI _ _ _ (EvI _ _ (bI _)),lZ ?_
 | exists Pe _ _ (Oc _ _ _) (eSGet _ _),r_sget hu1 ?_ ?_ (λ_ _=>rfl)
 | exists PT _ (Ny _ _ _) _,PW.pt ?_
 | exists Pt _ _ (RK Us.Not _ _) (tNot _),jD ?_
 | exists Pe _ _ (Qx.List _ _) (bA _),lP ?_
 | exists Pt _ _ (Md _ [_] [_] _) (av (eBin ck _ _)),cC (fV hu) iM ?_ ?_ (bL _)
 | exists Pw _ _ (Ny Rx (_::_::_) _) (tOr _ _),BG ?_ ?_
 | exists Ps _ _ (Pn [MD _ _ _] _ _) (sFld _ _ _),rB _ B ?_ ?_
 | exists Pe _ _ (NG _ _ _ _) (eBin bH _ _),cH jh jz ?_ ?_
 | exists Pw _ _ (Ny Rx [_] _) _,jE ?_
 | exists jO _ _ (fB _ _ bp),jP
 | exists Pt _ _ (Md _ [_] [_] _) (av (eBin cQ _ _)),cC (fW hu) iN ?_ ?_ (bL _)
 | exists Pe _ _ ((LQ (LP "len") _).Call [_] [] _) (q8 _),BI ?_ rfl B.b_len
 | exists Pe _ _ (NO (Ui.bool _) _ _) (eK (PV.bl _)),qh
 | exists Pg _ _ (Qx.Tuple _ _ _) (gTup _ _),lU rfl ?_
 | exists fw _ _ (ee _ _ gNil),lT
 | exists Pe _ _ (Ny QW (_::_::_) _) (Y9 _ _),iJ ?_ ?_
 | exists Pe _ _ (Ny QW [_] _) _,fU ?_
 | exists Pe _ _ ((MD _ _ _).Call (_::_) [] _) (aQ _ _ _ _),Cd (by assumption) (by decide) hr (B.cls _ (by decide)) ?_ ?_ (by decide +kernel)
 | exists Ps _ _ (Qw.Expr _ _) (aO _),jK ?_
 | exists bZ _ [_] (bC _ _ _ _),gU ?_
 | exists L2.PO _ _ (jF _ _ (fK _)),lR ?_
 | exists Pe _ _ ((LQ (LP "all") _).Call [_] [] _) (fA _),CU rfl ?_ rfl B.b_all
 | exists jO _ [_] (fB _ _ _),jQ ?_
 | exists bZ _ _ (bC _ _ _ (au _ _)),gc ?_ ?_
 | exists PS _ (Qw.For _ _ _ _ _) _,lY Tw rfl ?_ ?_ ?_
 | exists Pe _ _ (Oc _ (Qx.Slice _ _ none _) _) (df _ _ _),lS ?_ ?_ ?_
 | exists Pe _ _ (Qx.Dict [] [] _) eTNew,jZ
 | exists Pe _ _ (RK Us.USub (NO (Ui.int _) _ _) _) (eK (PV.int (-_))),mj
 | exists Pe _ _ (Md _ [_] [_] _) (eBin ck _ _),dq (fV hu) iM ?_ ?_ (bL _)
 | exists Pe _ _ (NG _ _ _ _) (eBin cG _ _),cH jg jA ?_ ?_
 | exists Pe _ _ (NG _ _ _ _) (eBin bB _ _),cH gG gN ?_ ?_
 | exists Pt _ _ (Md _ [_] [_] _) (av (eBin dv _ _)),cC (fX hu) iO ?_ ?_ (by rfl)
 | exists L2.PO _ _ (jF _ _ gJ),lQ
 | exists Pe _ _ (Oc _ _ _) (eTGet _ _),r_tget hu1 ?_ ?_ (λ_ _=>rfl)
 | exists Pt _ _ (Md _ [_] [_] _) (av (eBin bt _ _)),cC (eU hu) fY ?_ ?_ (by rfl)
 | exists PS _ _ (bC _ _ _ (br (dg _) _ _)),mr ?_ ?_ ?_
 | exists L2.PI _ _ _ (EvI _ _ (iRng1 _)),jL rfl B.b_range ?_
 | exists Pe _ _ ((MD _ (LP "append") _).Call [_] [] _) (V5 _ _),BM ?_ ?_
 | exists PS _ _ (bC _ _ _ (bW _ _)),gf gd rfl (by assumption) (by decide) hr rfl ?_
 | exists PH _ _ _ (PySem.ExceptHandler.ExceptHandler (some (LQ _ _)) (some _) (_::_) _::_) ((_,some _,_)::_),bA0 ER (by decide) rfl (by walk_at "gl") (by walk_at "nd") rfl rfl (λ_=>Ft rfl (by walk_at "nd") rfl rfl rfl (by decide) rfl rfl rfl (dy rg (dy (my eh) (dy (ki (gh eh) (kh (gh eh))) kf))) (aP iT (aP (qW ER EG (oK 5)) (aP (iJ (iS ER EG (by decide) (oK 5) rfl B.b_isinstance rfl (by walk_at "gl")) (fU (iK (iS ER EG (by decide) (oK 5) rfl B.b_isinstance rfl (by walk_at "gl"))))) bq)))) ?_
 | exists Pe _ _ (Md _ [_] [_] _) (eBin eO _ _),dq fF fR ?_ ?_ (bL _)
 | exists Ps _ _ _ sNever,gR
 | exists Ps _ _ (Pn [Oc _ _ _] _ _) (cR _ _ _),jY hu1 ?_ ?_ ?_
 | exists Pe _ _ ((LQ (LP "sorted") _).Call [_] [] _) (b9 _),Cy hu ?_ rfl B.b_sorted
 | exists Pw _ _ (Ny QW (_::_::_) _) (tAnd _ _),BF ?_ ?_
 | exists Pw _ _ (Ny QW [_] _) _,gQ ?_
 | exists Pe _ _ ((MD _ _ _).Call [] [] _) (aQ _ _ _ aNil),fZ (by assumption) (by decide) hr (B.cls _ (by decide)) ?_ (by decide +kernel)
 | exists kU _ _ _ (some _::_) (_::_) ((_,_)::_),FJ ?_ ?_ ?_
 | exists Pe _ _ ((LQ (LP "isinstance") _).Call [_,LQ _ _] [] _) (fy _ _),nV B.kit ?_ rfl B.b_isinstance rfl B.b_tuple SF
 | exists Pe _ _ ((LQ (LP "list") _).Call [_] [] _) (l4 _),BJ ?_ rfl B.b_list Qq
 | exists Pt _ _ (Md _ [_] [_] _) (av (eBin eO _ _)),cC fF fR ?_ ?_ (bL _)
 | exists Pe _ _ (Md _ [_] [_] _) (eBin dv _ _),dq (fX hu) iO ?_ ?_ (by rfl)
 | exists PS _ (Qw.While _ _ _ _) _,gS Tw ?_ ?_
 | exists Pe _ _ (LQ _ _) (eK (PV.str _)),gZ rfl (by walk_at "gl")
 | exists Pe _ _ (Md _ [SG.In] [_] _) (dh _ _),jX hu1 ?_ ?_
 | exists Pe _ _ ((MD _ (LP "setdefault") _).Call [_,_] [] _) (i6 _ _ _),Fg hu1 ?_ ?_ ?_
 | exists kP _ _ ((MD _ _ _).Call (_::_) [] _) (i5 _ _ _ _),DK (by assumption) (by decide) hr (B.cls _ (by decide)) ?_ ?_ (by decide +kernel)
 | exists Pe _ _ ((MD _ (LP "get") _).Call [_,_] [] _) (kI _ _ _),Ec hu1 ?_ ?_ ?_
 | exists Ps _ _ (Pn [_] _ _) (aD _ _),lW ?_ ?_
 | exists Pe _ _ ((LQ _ _).Call (_::_) [] _) (iD _ _ _),Ce (by assumption) (by decide) hr rfl ?_
 | exists Pe _ _ (LQ _ _) (eK (PV.int _)),jN rfl (by walk_at "gl")
 | exists L2.PI _ _ _ (EvI _ _ (fL _)),md rfl B.b_enumerate ?_
 | exists Pe _ _ ((LQ (LP "tuple") _).Call [_] [] _) (i4 _),CZ ?_ rfl B.b_tuple SF
 | exists L2.PI _ _ _ (EvI _ _ (iZip _ _)),i_zip (λ_ _=>nofun) rfl B.b_zip ?_ ?_
 | exists PS _ _ (bC _ _ _ (aO _)),gV gd ?_
 | exists Pt _ _ (Md _ [_] [_] _) (av (eBin ju _ _)),cC ix iH ?_ ?_ (bL _)
 | exists Pe _ _ (NG _ _ _ _) (eBin fN _ _),cH jl kd ?_ ?_
 | exists Pe _ _ (NG _ _ _ _) (eBin fM _ _),cH jk ka ?_ ?_
 | exists Pe _ _ (NG _ _ _ _) (eBin fH _ _),cH jf jy ?_ ?_
 | exists Pe _ _ ((LQ (LP "int") _).Call [_] [] _) (lG _),EN ?_ rfl B.b_int
 | exists Pe _ _ ((LQ (LP "isinstance") _).Call [_,LQ _ _] [] _) (fy _ _),nV B.kit ?_ rfl B.b_isinstance rfl B.b_int Tt
 | exists Pe _ _ (RK Us.Not _ _) (de _),iK ?_
 | exists Pe _ _ ((LQ (LP "isinstance") _).Call [_,LQ _ _] [] _) (fy _ _),nV B.kit ?_ rfl B.b_isinstance rfl B.b_bool PyProof.Rows.boot_bool
 | exists Pe _ _ (Md _ [_,_] [_,_] _) (cL jt eO _ _ _),eC fG fS fF fR ?_ ?_ ?_
 | exists Pe _ _ (Md _ [_,_] [_,_] _) (cL jt jt _ _ _),eC fG fS fG fS ?_ ?_ ?_
 | exists Pe _ _ (Md _ [_] [_] _) (eBin cQ _ _),dq (fW hu) iN ?_ ?_ (bL _)
 | exists Pe _ _ (NO SS _ _) (eK PV.non),lK
 | exists Pe _ _ (Qx.IfExp _ _ _ _) (nr _ _ _),qj ?_ ?_ ?_
 | exists Pt _ _ (Md _ [SG.Is] [NO SS _ _] _) (av (gI _)),jC ?_
 | exists Pe _ _ ((LQ (LP "isinstance") _).Call [_,LQ _ _] [] _) (fy _ _),nV B.kit ?_ rfl B.b_isinstance rfl B.b_list Qq
 | exists Pe _ _ (Md _ [_] [_] _) (eBin kF _ _),dq iy iI ?_ ?_ (bL _)
 | exists Pe _ _ ((MD _ (LP "get") _).Call [_] [] _) (nA _ _),Eb hu1 ?_ ?_
 | exists Pe _ _ ((LQ (LP "dict") _).Call [_] [] _) (nB _),EL ?_ rfl B.b_dict
 | exists Pt _ _ (Md _ [SG.IsNot] [NO SS _ _] _) (av (fJ _)),gP ?_
 | exists Pe _ _ ((LQ (LP "len") _).Call [(LQ (LP "set") _).Call [_] [] _] [] _) (ny _),Dr rfl ?_ rfl B.b_len rfl B.b_set
 | exists Pe _ _ ((MD _ (LP "pop") _).Call [_] [] _) (nu _),CV ?_ ?_
 | exists Pe _ _ ((MD _ (LP "extend") _).Call [_] [] _) (nv _ _),C0 ?_ ?_
 | exists Pt _ _ (Md _ [SG.In] [_] _) (av (dh _ _)),gX hu1 ?_ ?_
 | exists Pe _ _ (Md _ [_] [_] _) (eBin ju _ _),dq ix iH ?_ ?_ (bL _)
 | exists Pe _ _ (Ny Rx (_::_::_) _) (nq _ _),BH ?_ ?_
 | exists Pe _ _ (Ny Rx [_] _) _,lN ?_
 | exists Pe _ _ ((LQ (LP "sorted") _).Call [_] [] _) (nC _),EZ rfl ?_ rfl B.b_sorted
 | exists Pe _ _ (NG _ _ _ _) (eBin gK _ _),cH ji jW ?_ ?_
 | exists Pe _ _ ((LQ _ _).Call (_::_) [] _) (C8 _ _),uS (by assumption) (Lp _) hr rfl ?_
 | exists Pt _ _ (Md _ [_] [_] _) (av (eBin kF _ _)),cC iy iI ?_ ?_ (bL _)
 | exists Pt _ _ (((LQ (LP "set") _).Call [_] [] _).Compare [SG.Eq] [(LQ (LP "set") _).Call [_] [] _] _) (av (lI _ _)),Gf rfl hu1 ?_ ?_ rfl B.b_set
 | exists Ps _ _ (Qw.Try [_] (_::_) [] [] _) (kH _ _ _),Ea ⟨rfl,rfl⟩ ?_ ?_
 | exists qX _ _ (Qw.Expr _ _) (aO _),gW ?_
 | exists PH _ _ _ _ [],jV
 | exists Pe _ _ (NG _ _ _ _) (eBin gL _ _),cH jj kc ?_ ?_
 | exists Pe _ _ ((LQ (LP "dict") _).Call [_] [] _) (nF _),Fn rfl hu ?_ rfl B.b_dict
 | exists Pe _ _ (Qx.Dict _ _ _) (dw _),hF ?_
 | exists kU _ _ _ [] [] [],kl
 | exists Pe _ _ ((LQ (LP "sorted") _).Call [(LQ (LP "set") _).Call [_] [] _] [] _) (l7 _),FH rfl ?_ rfl B.b_sorted rfl B.b_set
 | exists Ps _ _ (Pn [Oc _ _ _] _ _) (dH _ _ _),kj hu1 ?_ ?_ ?_
 | exists Pe _ _ ((LQ (LP "list") _).Call [_] [] _) (nE _),Fb rfl ?_ rfl B.b_list
 | exists Pt _ _ _ (av _),jx ?_
 | exists bZ _ _ (bC _ _ _ (cB _)),jT ?_
 | exists PS _ _ (bC _ _ _ (cB _)),mq ?_
 | (fail_if_success (with_reducible show Pe _ _ _ _));change Pe _ _ _ _
 | (fail_if_success (with_reducible show Pt _ _ _ _));change Pt _ _ _ _
 | (fail_if_success (with_reducible show Pg _ _ _ _));change Pg _ _ _ _
def Kq0_0:=@And.left _ _ (@Kq0 P w K mg base cm).1
def Kq0_1:=@And.left _ _ (@Kq0 P w K mg base cm).1.2
def Kq0_2:=@And.left _ _ (@Kq0 P w K mg base cm).1.2.2
def Kq0_3:=@And.left _ _ (@Kq0 P w K mg base cm).1.2.2.2
def Kq0_4:=@And.left _ _ (@Kq0 P w K mg base cm).1.2.2.2.2
def Kq0_5:=@And.left _ _ (@Kq0 P w K mg base cm).1.2.2.2.2.2
def Kq0_6:=@And.left _ _ (@Kq0 P w K mg base cm).1.2.2.2.2.2.2
def Kq0_7:=@And.right _ _ (@Kq0 P w K mg base cm).1.2.2.2.2.2.2
def Kq0_8:=@And.left _ _ (@Kq0 P w K mg base cm).2.1
def Kq0_9:=@And.left _ _ (@Kq0 P w K mg base cm).2.1.2
def Kq0_10:=@And.left _ _ (@Kq0 P w K mg base cm).2.1.2.2
def Kq0_11:=@And.left _ _ (@Kq0 P w K mg base cm).2.1.2.2.2
def Kq0_12:=@And.left _ _ (@Kq0 P w K mg base cm).2.1.2.2.2.2
def Kq0_13:=@And.left _ _ (@Kq0 P w K mg base cm).2.1.2.2.2.2.2
def Kq0_14:=@And.left _ _ (@Kq0 P w K mg base cm).2.1.2.2.2.2.2.2
def Kq0_15:=@And.right _ _ (@Kq0 P w K mg base cm).2.1.2.2.2.2.2.2
def Kq0_16:=@And.left _ _ (@Kq0 P w K mg base cm).2.2.1
def Kq0_17:=@And.left _ _ (@Kq0 P w K mg base cm).2.2.1.2
def Kq0_18:=@And.left _ _ (@Kq0 P w K mg base cm).2.2.1.2.2
def Kq0_19:=@And.left _ _ (@Kq0 P w K mg base cm).2.2.1.2.2.2
def Kq0_20:=@And.left _ _ (@Kq0 P w K mg base cm).2.2.1.2.2.2.2
def Kq0_21:=@And.left _ _ (@Kq0 P w K mg base cm).2.2.1.2.2.2.2.2
def Kq0_22:=@And.left _ _ (@Kq0 P w K mg base cm).2.2.1.2.2.2.2.2.2
def Kq0_23:=@And.right _ _ (@Kq0 P w K mg base cm).2.2.1.2.2.2.2.2.2
def Kq0_24:=@And.left _ _ (@Kq0 P w K mg base cm).2.2.2
def Kq0_25:=@And.left _ _ (@Kq0 P w K mg base cm).2.2.2.2
def Kq0_26:=@And.left _ _ (@Kq0 P w K mg base cm).2.2.2.2.2
def Kq0_27:=@And.right _ _ (@Kq0 P w K mg base cm).2.2.2.2.2
def Kq1_0:=@And.left _ _ (@Kq1 P w K mg base cm).1
def Kq1_1:=@And.left _ _ (@Kq1 P w K mg base cm).1.2
def Kq1_2:=@And.left _ _ (@Kq1 P w K mg base cm).1.2.2
def Kq1_3:=@And.left _ _ (@Kq1 P w K mg base cm).1.2.2.2
def Kq1_4:=@And.left _ _ (@Kq1 P w K mg base cm).1.2.2.2.2
def Kq1_5:=@And.left _ _ (@Kq1 P w K mg base cm).1.2.2.2.2.2
def Kq1_6:=@And.left _ _ (@Kq1 P w K mg base cm).1.2.2.2.2.2.2
def Kq1_7:=@And.right _ _ (@Kq1 P w K mg base cm).1.2.2.2.2.2.2
def Kq1_8:=@And.left _ _ (@Kq1 P w K mg base cm).2.1
def Kq1_9:=@And.left _ _ (@Kq1 P w K mg base cm).2.1.2
def Kq1_10:=@And.left _ _ (@Kq1 P w K mg base cm).2.1.2.2
def Kq1_11:=@And.left _ _ (@Kq1 P w K mg base cm).2.1.2.2.2
def Kq1_12:=@And.left _ _ (@Kq1 P w K mg base cm).2.1.2.2.2.2
def Kq1_13:=@And.left _ _ (@Kq1 P w K mg base cm).2.1.2.2.2.2.2
def Kq1_14:=@And.left _ _ (@Kq1 P w K mg base cm).2.1.2.2.2.2.2.2
def Kq1_15:=@And.right _ _ (@Kq1 P w K mg base cm).2.1.2.2.2.2.2.2
def Kq1_16:=@And.left _ _ (@Kq1 P w K mg base cm).2.2
def Kq1_17:=@And.left _ _ (@Kq1 P w K mg base cm).2.2.2
def Kq1_18:=@And.right _ _ (@Kq1 P w K mg base cm).2.2.2
end
end Ws
namespace Ws
open PySem PySem.W L2
def Kr{l:List Bool}(h:l.all id=true)(i:Nat)(a:l[i]?=some b):b=true:=LV.mp h b (Mm a)
def bb{c:Type}{l m:List c}(h:l=m)(i:Nat){a b:c}(d:l[i]?=some a)(e:m[i]?=some b):a=b:=by rw[h,e]at d;exact(Mf d).symm
def ja{P:Nat->Prop}(h:P a)(r:∀c∈l,P c):∀c∈a::l,P c:=λc b=>by
 rcases Lu.mp b with z | z
 .rw[z];exact h
 .exact r c z
def Ks{P:Nat->Prop}:∀c∈([]:List Nat),P c:=by simp
def cI(h:(a&&b)=true):a=true/\b=true:=QX.mp h
structure En(P:LK)(w:Mv)(K:Frag)(mg:Str->Option Ll)(base:Heap)(cm:Nat->Addr):Prop where
 ex:∃h:Heap,K.In h/\h.Ns mainGlobals mg
section
variable{P:LK}{w:Mv}{K:Frag}{mg:Str->Option Ll}{base:Heap}{cm:Nat->Addr}{n q:Str}{st:Stmt}{fa T:Addr}{fd:LN}{k ar c:Nat}{ps:List Str}{f:Fun}{oc kV doc pm cdv ct tc:Ll}{od an td:Option Addr}{osl ts:Array (Option Ll)}{items:Array Ll}{tn:Nat}
def En.of(E:En P w K mg base cm)(h:mM K n v=true):mg n=some v:=by
 obtain⟨a,X,G⟩:=E.ex;exact mg_of X G (of_decide_eq_true h)
def En.ns(E:En P w K mg base cm)(h:bK K n a=true):mg n=some (.ref a):=E.of h
def En.no(E:En P w K mg base cm)(h:pf K n=true):mg n=none:=by
 obtain⟨a,X,G⟩:=E.ex;exact mg_none_of X G (of_decide_eq_true h)
def bG(l:K.lookup fa=some ⟨oc,od,.func (fnOf n q (M7 st) (G0 st) (C4 st) .none kV doc pm an cdv ct),osl⟩)(b:(x&&bf K cdv q fa)=true):L2.Fun K n q st fa (fnOf n q (M7 st) (G0 st) (C4 st) .none kV doc pm an cdv ct):=
 AU l (cI (cI b).2).1 (cI (cI b).2).2
def Kt(l:K.lookup fa=some ⟨oc,od,.func (fnOf n q (M7 st) (G0 st) (C4 st) (.ref T) kV doc pm an cdv ct),osl⟩)(t:K.lookup T=some ⟨tc,td,.seq items tn,ts⟩)(b:(x&&bf K cdv q fa)=true):ef K n q st fa (fnOf n q (M7 st) (G0 st) (C4 st) (.ref T) kV doc pm an cdv ct) items:=
 CO l (cI (cI b).2).1 (cI (cI b).2).2 t
def yj(a:(cP K (cm c) n fa&&bf K cdv q fa)=true):iz K (cm c) n fa:=⟨of_decide_eq_true (cI (cI a).1).1,(cI (cI a).1).2,(cI (cI a).2).2⟩
def Ku(a:(cP K (cm c) "__init__" fa&&bf K cdv q fa)=true)(b:mN K (cm c)=true):L2.Mk K (cm c) fa:=⟨(cI b).1,of_decide_eq_true (cI (cI a).1).1,(cI (cI a).1).2,(cI b).2⟩
variable(E:En P w K mg base cm)
include E
theorem cx(O:az P w K mg base aR k fa fd ps (aV K cm f ar))(a:(bK K n fa&&bf K cdv q fa)=true)(b:L2.Binds K fd ps [])(e:autoParam (∀d A v g,f d A=.ok v g->d.length=ar) au4._auto_1):bS P w K mg base cm n k ps f ar:=⟨⟨_,_,O,E.ns (cI a).1,(cI (cI a).2).2,b⟩,e⟩
theorem fD(O:az P w K mg base aR k fa fd ps (aV K cm f ar))(d:(cP K (cm c) n fa&&bf K cdv q fa)=true)(b:L2.Binds K fd ps [])(e:autoParam (∀a A v g,f a A=.ok v g->a.length=ar) au4._auto_1):i8 P w K mg base cm c n k ps f ar:=⟨⟨_,_,O,yj d,b⟩,e⟩
theorem sN(O:az P w K mg base (eZ P w) k fa fd ps (gT K cm f ar))(d:(cP K (cm c) n fa&&bf K cdv q fa)=true)(b:L2.Binds K fd ps [])(e:autoParam (∀a A,f a A≠.no->a.length=ar) au12._auto_1):mu P w K mg base cm c n k ps f ar:=⟨⟨_,_,O,yj d,b⟩,e⟩
theorem sO(O:az P w K mg base aR k fa fd ps (aV K cm f ar))(e:(cP K (cm c) "__init__" fa&&bf K cdv q fa)=true)(g:mN K (cm c)=true)(i:bK K n (cm c)=true)(b:L2.Binds K fd ps [])(j:∀a A v d,f a A=.ok v d->v=.non)(l:autoParam (∀a A v d,f a A=.ok v d->a.length=ar) au4._auto_1):me P w K mg base cm c n k ps f ar:=⟨⟨_,_,O,Ku e g,E.ns i,b⟩,λa A v d h=>⟨l a A v d h,j a A v d h⟩⟩
theorem base_of(g:((Mo 7).all λc=>pj K (cm c))=true)(j:blts.all (pf K)=true):H8 K mg cm:=by
 have d:=λc d=>LV.mp g c (Nn.mpr d);have a:=λb l=>E.no (LV.mp j b l);refine⟨Cz K,λc e=>?_,λc i m e=>?_,a _ (by decide),a _ (by decide),a _ (by decide),a _ (by decide),a _ (by decide),a _ (by decide),a _ (by decide),a _ (by decide),a _ (by decide),a _ (by decide),a _ (by decide),a _ (by decide),a _ (by decide),a _ (by decide),a _ (by decide),a _ (by decide),a _ (by decide)⟩
 .have:=d c e;unfold pj at this;simp only[LH]at this;exact⟨this.1.1.1.1,this.1.1.1.2,this.1.1.2,of_decide_eq_true this.1.2⟩
 .have:=d c e;unfold pj at this;simp only[LH]at this;have h:=LV.mp this.2 i (Nn.mpr m);show findIn K _ _=some none;exact of_decide_eq_true h
omit E
def mO(K:Frag)(C:Addr):Prop:=∃e q N bs d a g sub h b i j l m o p,K.lookup C=some (excClassObj e q C N bs d a g sub h b i j l m o p "ValueError.__new__")/\U0 d=true/\a=true
theorem jb{bs b:List Ll}{sub:List Ll}(h:K.lookup C=some (excClassObj d q C N bs b true e sub g a i j l m p r "ValueError.__new__"))(o:U0 b=true):mO K C:=⟨_,_,_,_,_,_,_,_,_,_,_,_,_,_,_,_,h,o,rfl⟩
theorem yk{es:List Nat}(h:(es.all λc=>lj K (cm c) a)=true)(d:∀c∈es,mO K (cm c)):∀c∈es,XK K (cm c) a:=λc b=>by
 have:=LV.mp h c b;unfold lj cP at this;simp only[LH]at this;obtain⟨⟨⟨⟨⟨⟨⟨⟨⟨⟨e,g⟩,i⟩,j⟩,l⟩,p⟩,r⟩,s⟩,u⟩,m⟩,o⟩:=this;exact⟨d c b,of_decide_eq_true e,g,i,of_decide_eq_true j,of_decide_eq_true l⟩
theorem Kv(h:(es.all λc=>lj K (cm c) i)=true)(l:yi K cm es=true)(j:yh K=true)(m:∀c∈es,mO K (cm c)):mw K cm es/\oE K cm es:=by
 have b:∀c∈es,∀d∈es,kR K _ _=cf c d/\kitOne K _ _=some _:=λc a d o=>by
  have:=LV.mp (LV.mp l c a) d o;exact⟨of_decide_eq_true (cI this).1,of_decide_eq_true (cI this).2⟩
 refine⟨⟨λc a=>⟨i,yk h m c a⟩,λc a k e=>(b c a k e).1⟩,⟨λc a=>?_,λc a k e=>(b c a k e).2,λc a=>?_⟩⟩
 .have:=LV.mp h c a;unfold lj cP at this;simp only[LH]at this;obtain⟨⟨⟨⟨⟨⟨⟨⟨⟨⟨x,y⟩,z⟩,A⟩,B⟩,p⟩,r⟩,s⟩,u⟩,g⟩,v⟩:=this;exact⟨of_decide_eq_true p,of_decide_eq_true r,s,of_decide_eq_true u,of_decide_eq_true (cI j).1,of_decide_eq_true (cI j).2,of_decide_eq_true g⟩
 .have:=LV.mp h c a;exact of_decide_eq_true (cI this).2
theorem jc{es:List Nat}(E:En P w K mg base cm)(O:az P w K mg base aR k a fd ps (kQ K))(h:(es.all λc=>lj K (cm c) a)=true)(d:∀c∈es,mO K (cm c))(b:L2.Binds K fd ps [])(e:c∈es)(g:bK K n (cm c)=true):jU P w K mg base cm c n k:=⟨⟨_,_,_,O,yk h d c e,E.ns g,b⟩⟩
end
end Ws
namespace Ws
open PySem
def Kx(h:P2 vs A=.ok v A'):v=.non:=qJ (K2 (nX l9 nY) (K2 vk (K2 (nX l9 nY) (K2 O0 O0)))) h
def Ky(h:L6 vs A=.ok v A'):v=.non:=qJ (K2 O0 (K2 O0 (K2 O0 (K2 O0 (K2 O0 (K2 O0 O0)))))) h
def Kz(h:P1 vs A=.ok v A'):v=.non:=qJ (K2 (nX l9 nY) (K2 vk (K2 (ES (K2 (nX l9 nY) ET)) (K2 O0 (K2 O0 (K2 O0 (K2 O0 O0))))))) h
end Ws
def KA{P:List Ll->Prop}(h:P [])(a:List Ll)(e:a.length=0):P a:=by
 cases a with
 | nil=>exact h
 | cons x a=>exact absurd e (OJ _)
def yl{P:List Ll->Prop}(h:∀x,P [x])(a:List Ll)(e:a.length=1):P a:=by
 cases a with
 | nil=>exact absurd e (OJ _).symm
 | cons x a=>exact KA (P:=λa=>P (x::a)) (h x) a (RM e)
def ym{P:List Ll->Prop}(h:∀x y,P [x,y])(a:List Ll)(e:a.length=2):P a:=by
 cases a with
 | nil=>exact absurd e (OJ _).symm
 | cons x a=>exact yl (P:=λa=>P (x::a)) (h x) a (RM e)
def yn{P:List Ll->Prop}(h:∀x y z,P [x,y,z])(a:List Ll)(e:a.length=3):P a:=by
 cases a with
 | nil=>exact absurd e (OJ _).symm
 | cons x a=>exact ym (P:=λa=>P (x::a)) (h x) a (RM e)
def yo{P:List Ll->Prop}(h:∀x y z u,P [x,y,z,u])(a:List Ll)(e:a.length=4):P a:=by
 cases a with
 | nil=>exact absurd e (OJ _).symm
 | cons x a=>exact yn (P:=λa=>P (x::a)) (h x) a (RM e)
def KC{P:List Ll->Prop}(h:∀x y z u v,P [x,y,z,u,v])(a:List Ll)(e:a.length=5):P a:=by
 cases a with
 | nil=>exact absurd e (OJ _).symm
 | cons x a=>exact yo (P:=λa=>P (x::a)) (h x) a (RM e)
local macro_rules | `(tactic| walk_at "b1")=>`(tactic| exact λ_ _ _ _ _ _=>yl λ_=>rfl)
local macro_rules | `(tactic| walk_at "b2")=>`(tactic| exact λ_ _ _ _ _ _=>ym λ_ _=>rfl)
local macro_rules | `(tactic| walk_at "b3")=>`(tactic| exact λ_ _ _ _ _ _=>yn λ_ _ _=>rfl)
local macro_rules | `(tactic| walk_at "b4")=>`(tactic| exact λ_ _ _ _ _ _=>yo λ_ _ _ _=>rfl)
local macro_rules | `(tactic| walk_at "b5")=>`(tactic| exact λ_ _ _ _ _ _=>KC λ_ _ _ _ _=>rfl)
namespace Ws
open PySem PySem.W L2
set_option Elab.async false
set_option maxHeartbeats 0
def KG:∀w:Mv,(fencedOpening treeTable PySem.Challenge.pw_wordswap_k28_two_plans_on_one_web w 8446).map (λs=>(s.heap,s.gens,s.drawn,s.toks))=some (Qi w.params,#[],Uw,UN):=boot_open (by kernel_rfl) (by kernel_rfl) (λs=>by kernel_rfl)
def hdl:LeftO PySem.Challenge.pw_wordswap_k28_two_plans_on_one_web (view PySem.Challenge.pw_wordswap_k28_two_plans_on_one_web mP) sP (xt PySem.Challenge.pw_wordswap_k28_two_plans_on_one_web) (λs=>iR s.heap) (Kw PySem.Challenge.pw_wordswap_k28_two_plans_on_one_web 8446) 8446/\∀w,((bs (Kw PySem.Challenge.pw_wordswap_k28_two_plans_on_one_web 8446 w)).all id,os (Kw PySem.Challenge.pw_wordswap_k28_two_plans_on_one_web 8446 w))=(true,ov PySem.Challenge.pw_wordswap_k28_two_plans_on_one_web):=CJ (q:=λp=>view p mP) (Xt:=xt) (ob:=λK=>((bs K).all id,os K)) (va:=λp=>(true,ov p)) rfl PySem.W.Fast.te6613529449190102663 PySem.W.Fast.te10156331382660048174 PySem.W.Fast.te11892475500146522536 PySem.W.Fast.te14364793385576792824 PySem.W.Fast.te4187177175401517315 KG KH
def KI{K:Frag}(e:(bs K).all id=true/\os K=ov PySem.Challenge.pw_wordswap_k28_two_plans_on_one_web)(X:K.In h)(G:h.Ns mainGlobals mg)(hfa:mg "law" = some (.ref fa)):∃fd:LN,(∀(s:Ln)(v:Ll),UQ s fd ⟨[v],[]⟩ [("_law_script",v)])/\∀base:Heap,K.In base->base.Ns mainGlobals mg->az PySem.Challenge.rw_wordswap_k28_two_plans_on_one_web.prog w K mg base aR 9 fa fd ["_law_script"] (qK K):=by
 have b:=λi {x}=>Kr e.1 i (b:=x);have z:=hfa.symm.trans (PySem.W.mg_of X G (of_decide_eq_true (cI (b 64 rfl)).1));cases z;refine⟨fnOf "law" "law" (M7 (top 51)) (G0 (top 51)) (C4 (top 51)) .none .none .none (.str "law_wordswap_k28_two_plans_on_one_web" 753) none (.ref 538) .none,λs v=>.of_eq rfl,λbase KB _=>?_⟩;have E:En PySem.Challenge.rw_wordswap_k28_two_plans_on_one_web.prog w K mg base cmA:=⟨⟨h,X,G⟩⟩;have B:=base_of E (b 0 rfl) (b 1 rfl);have GL:pe mg:=⟨⟨_,E.of (b 13 rfl)⟩,⟨_,E.of (b 14 rfl)⟩,⟨_,E.of (b 15 rfl)⟩,⟨_,E.of (b 16 rfl)⟩⟩;have F0:=bG (st:=(C3 (top 2) 0)) (bb e.2 0 rfl rfl) (b 17 rfl);have F1:=bG (st:=(top 36)) (bb e.2 1 rfl rfl) (b 18 rfl);have F2:=bG (st:=(top 38)) (bb e.2 2 rfl rfl) (b 19 rfl);have F3:=bG (st:=(top 39)) (bb e.2 3 rfl rfl) (b 20 rfl);have F4:=bG (st:=(top 13)) (bb e.2 4 rfl rfl) (b 21 rfl);have F5:=bG (st:=(top 15)) (bb e.2 5 rfl rfl) (b 22 rfl);have F6:=bG (st:=(top 14)) (bb e.2 6 rfl rfl) (b 23 rfl);have F7:=bG (st:=(top 16)) (bb e.2 7 rfl rfl) (b 24 rfl);have F8:=bG (st:=(top 17)) (bb e.2 8 rfl rfl) (b 25 rfl);have F9:=bG (st:=(C3 (top 18) 0)) (bb e.2 9 rfl rfl) (b 26 rfl);have F10:=bG (st:=(top 40)) (bb e.2 10 rfl rfl) (b 27 rfl);have F11:=Kt (st:=(C3 (top 29) 0)) (bb e.2 11 rfl rfl) (bb e.2 12 rfl rfl) (b 28 rfl);have F12:=bG (st:=(top 31)) (bb e.2 13 rfl rfl) (b 29 rfl);have F13:=bG (st:=(top 32)) (bb e.2 14 rfl rfl) (b 30 rfl);have F14:=bG (st:=(top 33)) (bb e.2 15 rfl rfl) (b 31 rfl);have F15:=bG (st:=(C3 (top 34) 0)) (bb e.2 16 rfl rfl) (b 32 rfl);have F16:=bG (st:=(top 48)) (bb e.2 17 rfl rfl) (b 33 rfl);have F17:=bG (st:=(C3 (top 29) 2)) (bb e.2 18 rfl rfl) (b 34 rfl);have F18:=bG (st:=(top 41)) (bb e.2 19 rfl rfl) (b 35 rfl);have F19:=bG (st:=(top 42)) (bb e.2 20 rfl rfl) (b 36 rfl);have F20:=bG (st:=(top 49)) (bb e.2 21 rfl rfl) (b 37 rfl);have F21:=bG (st:=(top 43)) (bb e.2 22 rfl rfl) (b 38 rfl);have F22:=bG (st:=(top 44)) (bb e.2 23 rfl rfl) (b 39 rfl);have F23:=bG (st:=(top 26)) (bb e.2 24 rfl rfl) (b 40 rfl);have F24:=bG (st:=(top 20)) (bb e.2 25 rfl rfl) (b 41 rfl);have F25:=bG (st:=(top 27)) (bb e.2 26 rfl rfl) (b 42 rfl);have F26:=bG (st:=(top 28)) (bb e.2 27 rfl rfl) (b 43 rfl);have F27:=bG (st:=(C3 (top 29) 4)) (bb e.2 28 rfl rfl) (b 44 rfl);have F28:=bG (st:=(C3 (top 29) 7)) (bb e.2 29 rfl rfl) (b 45 rfl);have F29:=bG (st:=(C3 (top 34) 1)) (bb e.2 30 rfl rfl) (b 46 rfl);have F30:=bG (st:=(C3 (top 29) 8)) (bb e.2 31 rfl rfl) (b 47 rfl);have F31:=bG (st:=(C3 (top 29) 10)) (bb e.2 32 rfl rfl) (b 48 rfl);have F32:=bG (st:=(C3 (top 29) 9)) (bb e.2 33 rfl rfl) (b 49 rfl);have F33:=bG (st:=(C3 (top 29) 5)) (bb e.2 34 rfl rfl) (b 50 rfl);have F34:=bG (st:=(C3 (top 29) 3)) (bb e.2 35 rfl rfl) (b 51 rfl);have F35:=bG (st:=(top 47)) (bb e.2 36 rfl rfl) (b 52 rfl);have F36:=bG (st:=(top 45)) (bb e.2 37 rfl rfl) (b 53 rfl);have F37:=bG (st:=(C3 (top 18) 2)) (bb e.2 38 rfl rfl) (b 54 rfl);have F38:=bG (st:=(top 21)) (bb e.2 39 rfl rfl) (b 55 rfl);have F39:=bG (st:=(top 22)) (bb e.2 40 rfl rfl) (b 56 rfl);have F40:=bG (st:=(C3 (top 29) 15)) (bb e.2 41 rfl rfl) (b 57 rfl);have F41:=bG (st:=(top 50)) (bb e.2 42 rfl rfl) (b 58 rfl);have F42:=bG (st:=(C3 (top 29) 14)) (bb e.2 43 rfl rfl) (b 59 rfl);have F43:=bG (st:=(C3 (top 29) 11)) (bb e.2 44 rfl rfl) (b 60 rfl);have F44:=bG (st:=(C3 (top 29) 12)) (bb e.2 45 rfl rfl) (b 61 rfl);have F45:=bG (st:=(C3 (top 29) 13)) (bb e.2 46 rfl rfl) (b 62 rfl);have F46:=bG (st:=(top 46)) (bb e.2 47 rfl rfl) (b 63 rfl);have F47:=bG (st:=(top 51)) (bb e.2 48 rfl rfl) (b 64 rfl);have XO:∀c∈[7,8,9,12,13,14,15,16],mO K (cmA c):=(ja (jb (bb e.2 49 rfl rfl) rfl) (ja (jb (bb e.2 50 rfl rfl) rfl) (ja (jb (bb e.2 51 rfl rfl) rfl) (ja (jb (bb e.2 52 rfl rfl) rfl) (ja (jb (bb e.2 53 rfl rfl) rfl) (ja (jb (bb e.2 54 rfl rfl) rfl) (ja (jb (bb e.2 55 rfl rfl) rfl) (ja (jb (bb e.2 56 rfl rfl) rfl) Ks))))))));obtain⟨ER,EG⟩:=Kv (b 66 rfl) (b 67 rfl) (b 65 rfl) XO
 have MC:yg mg cmA:=⟨E.ns (b 5 rfl),E.ns (b 6 rfl),E.ns (b 7 rfl),E.ns (b 8 rfl),E.ns (b 9 rfl),E.ns (b 10 rfl),E.ns (b 11 rfl),E.ns (b 12 rfl),E.no (b 68 rfl)⟩;have OE:=Ko (P:=PySem.Challenge.rw_wordswap_k28_two_plans_on_one_web.prog) (w:=w) (base:=base) (mg:=mg) F0;have b0:=(F0.binds (ps:=["self","at"]) (by walk_at "b2"));have XD_SwapError:=jc E OE (b 66 rfl) XO b0 (c:=7) (by decide) (b 5 rfl);have XD_NoWeb:=jc E OE (b 66 rfl) XO b0 (c:=8) (by decide) (b 6 rfl);have XD_NoPlan:=jc E OE (b 66 rfl) XO b0 (c:=9) (by decide) (b 7 rfl);have XD_NoDeed:=jc E OE (b 66 rfl) XO b0 (c:=12) (by decide) (b 8 rfl);have XD_Laid:=jc E OE (b 66 rfl) XO b0 (c:=13) (by decide) (b 9 rfl);have XD_NotLaid:=jc E OE (b 66 rfl) XO b0 (c:=14) (by decide) (b 10 rfl);have XD_Late:=jc E OE (b 66 rfl) XO b0 (c:=15) (by decide) (b 11 rfl);have XD_Unknown:=jc E OE (b 66 rfl) XO b0 (c:=16) (by decide) (b 12 rfl);have D_law_cell_at:=cx E (f:=L8) (Kq1_4 B F1) (b 18 rfl) (F1.binds (by walk_at "b2"));have D_law_mixed:=cx E (f:=E1) (Kq1_5 B F2) (b 19 rfl) (F2.binds (by walk_at "b2"));have D_law_passings:=cx E (f:=M5) (Kq1_6 B D_law_mixed F3) (b 20 rfl) (F3.binds (by walk_at "b2"));have D_is_whole:=cx E (f:=K9) (Kq0_0 B F4) (b 21 rfl) (F4.binds (by walk_at "b1"));have D_is_number_of_hands:=cx E (f:=E9) (Kq0_2 B GL D_is_whole F5) (b 22 rfl) (F5.binds (by walk_at "b1"));have D_is_hand:=cx E (f:=J6) (Kq0_1 B D_is_whole F6) (b 23 rfl) (F6.binds (by walk_at "b2"));have D_is_passing:=cx E (f:=K6) (Kq0_3 B D_is_hand F7) (b 24 rfl) (F7.binds (by walk_at "b2"));have D_first_wrong_passing:=cx E (f:=E5) (Kq0_4 B D_is_passing F8) (b 25 rfl) (F8.binds (by walk_at "b2"));have D_Web_init:=sO E (f:=P2) (Kq0_10 B D_is_number_of_hands D_first_wrong_passing F9) (b 26 rfl) (b 69 rfl) (b 2 rfl) (F9.binds (by walk_at "b3")) λ_ _ _ _=>Kx;have D_law_some:=cx E (f:=Q5) (Kq1_7 B F10) (b 27 rfl) (F10.binds (by walk_at "b2"));have D_Ledger_init:=sO E (f:=L6) (Kq0_5 B F11) (b 28 rfl) (b 70 rfl) (b 3 rfl) (F11.binds 3 rfl λ_ _ _ _ _ _ _ us hl=>match us,hl with | [_,_,_],_=>⟨_,rfl,rfl⟩) λ_ _ _ _=>Ky;have D_is_rising:=cx E (f:=U9) (Kq0_6 B F12) (b 29 rfl) (F12.binds (by walk_at "b1"));have D_are_leaders:=cx E (f:=P7) (Kq0_7 B D_is_rising D_is_hand F13) (b 30 rfl) (F13.binds (by walk_at "b2"));have D_is_limit:=cx E (f:=T2) (Kq0_8 B D_is_whole F14) (b 31 rfl) (F14.binds (by walk_at "b1"));have D_Plan_init:=sO E (f:=P1) (Kq0_9 B D_are_leaders D_is_limit F15) (b 32 rfl) (b 71 rfl) (b 4 rfl) (F15.binds (by walk_at "b4")) λ_ _ _ _=>Kz;have D_law_side:=cx E (f:=Q6) (Kq1_15 B D_law_some D_law_mixed D_Ledger_init D_Plan_init F16) (b 33 rfl) (F16.binds (by walk_at "b5"));have D_Ledger_move:=fD E (f:=N5) (Kq0_18 B F17) (b 34 rfl) (F17.binds (by walk_at "b1"));have D_law_ways:=cx E (f:=T6) (Kq1_8 B F18) (b 35 rfl) (F18.binds (by walk_at "b2"));have D_law_chains:=cx E (f:=G7) (Kq1_9 B D_law_ways F19) (b 36 rfl) (F19.binds (by walk_at "b3"));have D_law_deed:=cx E (f:=Q7) (Kq1_16 B D_law_chains F20) (b 37 rfl) (F20.binds (by walk_at "b3"));have y:=(F21.binds (ps:=["_law_state","_law_free","_law_chain"]) (by walk_at "b3"))
 have D_law_known_0:=cx E (k:=1) (f:=Y1) (ar:=3) EO (b 38 rfl) y λ_ _ _ _ h=>nomatch h;have D_law_known_1:=cx E (f:=o0) (Kq1_10 B D_law_known_0 F21) (b 38 rfl) y;have D_law_known_2:=cx E (f:=o4) (Kq1_10 B D_law_known_1 F21) (b 38 rfl) y;have D_law_known_3:=cx E (f:=o5) (Kq1_10 B D_law_known_2 F21) (b 38 rfl) y;have D_law_known_4:=cx E (f:=o6) (Kq1_10 B D_law_known_3 F21) (b 38 rfl) y;have D_law_known_5:=cx E (f:=o7) (Kq1_10 B D_law_known_4 F21) (b 38 rfl) y;have D_law_known:=cx E (f:=R5) (Kq1_10 B D_law_known_5 F21) (b 38 rfl) y;have D_law_due:=cx E (f:=N7) (Kq1_11 B D_law_chains D_law_known F22) (b 39 rfl) (F22.binds (by walk_at "b4"));have D_is_box:=cx E (f:=j4) (Kq0_15 B D_is_passing F23) (b 40 rfl) (F23.binds (by walk_at "b2"));have D_is_chain:=cx E (f:=T3) (Kq0_12 B D_is_hand F24) (b 41 rfl) (F24.binds (by walk_at "b3"));have D_is_chain_of:=cx E (f:=N4) (Kq0_16 B D_is_hand D_is_chain F25) (b 42 rfl) (F25.binds (by walk_at "b2"));have D_is_deed:=cx E (f:=R4) (Kq0_17 B GL D_is_box D_is_chain_of F26) (b 43 rfl) (F26.binds (by walk_at "b2"));have DX_Ledger_take_lay:=sN E (f:=K7) (Kq0_19 B XD_Laid F27) (b 44 rfl) (F27.binds (by walk_at "b2"));have D_Ledger_is_laid_ahead:=fD E (f:=G1) (Kq0_22 B F28) (b 45 rfl) (F28.binds (by walk_at "b2"));have D_Plan_limit:=fD E (f:=V9) (Kq0_20 B F29) (b 46 rfl) (F29.binds (by walk_at "b2"));have D_Ledger_is_late:=fD E (f:=M4) (Kq0_21 B D_Plan_limit F30) (b 47 rfl) (F30.binds (by walk_at "b3"));have D_Ledger_is_said_ahead:=fD E (f:=G2) (Kq0_23 B F31) (b 48 rfl) (F31.binds (by walk_at "b2"));have D_Ledger_is_sayable:=fD E (f:=D8) (Kq0_24 B D_Ledger_is_said_ahead F32) (b 49 rfl) (F32.binds (by walk_at "b2"));have DX_Ledger_take_say:=sN E (f:=G9) (Kq0_25 B D_Ledger_is_laid_ahead XD_NotLaid D_Ledger_is_late XD_Late D_Ledger_is_sayable XD_Unknown F33) (b 50 rfl) (F33.binds (by walk_at "b2"));have DX_Ledger_take:=sN E (f:=L7) (Kq0_26 B GL D_is_deed XD_NoDeed DX_Ledger_take_lay DX_Ledger_take_say F34) (b 51 rfl) (F34.binds (by walk_at "b2"));have D_law_taken:=cx E (f:=J4) (Kq1_14 B ER EG MC DX_Ledger_take F35) (b 52 rfl) (F35.binds (by walk_at "b2"));have D_law_put:=cx E (f:=N8) (Kq1_12 B F36) (b 53 rfl) (F36.binds (by walk_at "b2"));have D_Web_takers_of:=fD E (f:=G4) (Kq0_11 B F37) (b 54 rfl) (F37.binds (by walk_at "b2"));have D_longer_walks:=cx E (f:=K0) (Kq0_13 B D_Web_takers_of F38) (b 55 rfl) (F38.binds (by walk_at "b2"));have D_chains_from:=cx E (f:=N3) (Kq0_14 B D_longer_walks F39) (b 56 rfl) (F39.binds (by walk_at "b3"));have D_Ledger_can_say:=fD E (f:=J7) (Kq1_3 B D_chains_from D_Ledger_is_sayable F40) (b 57 rfl) (F40.binds (by walk_at "b2"));have D_law_tells:=cx E (f:=P3) (Kq1_17 B D_law_chains D_Ledger_can_say D_law_known F41) (b 58 rfl) (F41.binds (by walk_at "b2"));have D_Ledger_said:=fD E (f:=N6) (Kq0_27 B F42) (b 59 rfl) (F42.binds (by walk_at "b2"));have D_Ledger_has_all_words:=fD E (f:=E4) (Kq1_0 B D_Ledger_said F43) (b 60 rfl) (F43.binds (by walk_at "b2"));have D_Ledger_laid:=fD E (f:=J3) (Kq1_1 B F44) (b 61 rfl) (F44.binds (by walk_at "b1"));have D_Ledger_opened:=fD E (f:=N1) (Kq1_2 B D_Ledger_has_all_words D_Ledger_laid F45) (b 62 rfl) (F45.binds (by walk_at "b1"));have D_law_open:=cx E (f:=T7) (Kq1_13 B F46) (b 63 rfl) (F46.binds (by walk_at "b2"));exact(Kq1_18 B D_law_cell_at D_law_mixed D_law_passings D_Web_init D_law_side D_Ledger_move D_law_deed D_law_due D_law_taken D_law_put D_law_tells D_Ledger_opened D_law_open D_Ledger_laid F47).imp λvs H Q E q=>CC law_pure vs H Q E q
end Ws
open PySem PySem.W PyProof.Rows
set_option Elab.async false
set_option maxRecDepth 100000 in
set_option maxHeartbeats 0 in
theorem PySem.Challenge.cw_wordswap_k28_two_plans_on_one_web_holds : PySem.Challenge.rw_wordswap_k28_two_plans_on_one_web.Holds := by
 w_on;refine holds_law Ws.KJ λsaid=>?_
 refine Ws.CL (l:=PySem.Challenge.rw_wordswap_k28_two_plans_on_one_web) (d:=⟨"law",L2.M7 (Ws.top 51),L2.G0 (Ws.top 51),L2.C4 (Ws.top 51),Ws.CK (Ws.top 51)⟩) Ws.hdl.1 (by kernel_rfl) (by kernel_rfl) (by kernel_rfl) (by first | rfl | kernel_rfl) (by assumption) (by decide +kernel) ⟨rfl,rfl,rfl,rfl,rfl,by decide +kernel⟩ ?hw ?hc
 case hw=>w_witness2
 case hc=>exact Ws.CM (l:=PySem.Challenge.rw_wordswap_k28_two_plans_on_one_web) (k:=9) (x:="_law_script") rfl (by kernel_rfl) ⟨rfl,by decide,by decide⟩ (λw h Y=>Y) λw mg fa h KX G hmg=>Ws.KI (Prod.mk.inj (Ws.hdl.2 w)) KX G hmg
