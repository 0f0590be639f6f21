import PyProof.Rows.All
import Wide.All
import OpenK.AllK
import Wide.FinOn
import Lean
import PyProof.EqAt
import PyProof.EqKinds
import PyProof.TupleCall
import PySem.Challenge.RW_wordswap_k26_whole_ledger
import PyProof.ExcBaseAll.ValueError
import PyProof.NsDelKeeps
import PyProof.ExcArgs
import KE.KIntText
import PyProof.StrLawsChain
import PyProof.StrWalks
import PyProof.Draws
import PyProof.EnumMake
import PyProof.Rows.CallKwBuiltin
import PyProof.ToksMono
import PyProof.StrReplace2
import PyProof.MeetsStr3
import KE.KSortTup
import KE.KLam
import KE.KMinKey
import PyProof.DictItemsLoops
import KE.KSetIn
import PyProof.AttrMissHeap
noncomputable section
open PySem renaming wpAny_bind->IE,wpAny_pure->IG,Value->II,Shared->IJ,Program->Jg,FuncData->Jh,wpAny_mono->Jv,wpAny_call_entry->JA,wpAny_field->JB,wpAny_holding->JE,wpAny_callSpecial?_slot->JF,wpAny_setField_rec->JG,Around->JI,World->JJ,wpAny_newObj_type->Ke,wpAny_dictEntries->Kg,Str->Ki,wpAny_passesOwn->Km,mem_of_lookup->Ko,wpAny_loadPart_at->Kt,Builtin->KI,wpAny_truthy_bool->KZ,wpAny_isSubtype_exc->Lb,wpAny_setState_of->Lc,wpAny_seqItems->Lg,wpAny_typeNameOfWhole_itemiter->Lk,tupleKind_room_in1->Ll,wpAny_typeNameOfWhole_keyiter->Lm,wpAny_isInstance->Lx,wpAny_Call_Name_kw->Lz,wpAny_attempt->LC,wpAny_notOrdered_dict->LF,wpAny_setField->LI,wpAny_execs_nil->LK,wpAny_dictEpoch->LN,codeAny_mono->LR,wpAny_isOneOf_itemiter->LZ,wpAny_pyIter_tuple->Ma,wpAny_pyIter_list->Mh,wpAny_call->Mz,Expr->MB,DictEntry->MF,plainObj_wpAny_Assign_Attribute->MU,wpAny_Call_method->MV,wpAny_rule->MY,CmpOp->Nc,wpAny_updateSeq_pair->Ny,codeAny_call_builtin->Nz,wpAny_standAt->ND,ExceptHandler->NF,IsItemIter->NJ,Stmt->NK,wpAny_specialOf->NM,codeAny_builtin->NP,size_of_entries->NQ,Within->Oe,wpAny_typeOf->Og,isSubtype_stop->Om,wpAny_fieldsOf->Oo,wpAny_comprehension_free->Oz,wpAny_pyIter_slot->OC,Scope->OI,sizeLine_eq->OL,wpAny_handled->OR,wpAny_onRaise->OS,UnaryOp->OZ,wpAny_execs_cons->Pd,wpAny_forIn_list->Pk,wpAny_isTrue_Compare1->Pz,PassesOwn->PB,call_meetsIn->PL,wpAny_isOneOf_keyiter->PY,wpAny_Compare1->Qh,wpAny_loadPart->Qi,wpAny_bindName->Qk,codeAny_forLoop_any->Qn,evalArgs_none->Qp,Keyword->Qq,wpAny_of_eq->Qs,wpAny_throw->Qt,wpAny_letGo->Qu,wpAt_of_wpAny->Qv,GenState->Qz,wpAny_newList->QE,call_set_list->QH,Spec->QK,Thread->QQ,IsPart->QT,OsState->QV,Result->QX,IsPair->QZ,BindsTo->Rb,NameKind->Rc,Model->Rg,Const->Rh
open PySem.Heap renaming get?_push_of_some->IF,get?_push_size->IP,lt_size->IQ,SameBut->JK,get?_update_other->JS,size_push->JW,get?_update_self->JY,size_update->Mt,get?_push_ne->MW,ExtBut->NO,get?_update_ne->Qr
open PySem.W renaming Frag->IH,kia_one->Kz,findIn->Le,keepIn->Ln,instObj->Lr,fnOf->LA,emptyDict->LL,callWith_K->Mb,SharedT->Mm,boot_heap->MJ,codeIn->Nd,methodCall_KW->Ng,plainGet->Np,plainGet_of->NL,lookIn->Oj,hasDictIn->Ov,cellsFrom_some->Pl,takerIn->PF,looks_findIn->Qe,kitOne->Qj,boot_drawn->QN,isFn->QP,boot_toks->QW,kas_rev->Rf
open List renaming length_map->IK,prefix_append->IL,mem_singleton->IS,mem_cons->IT,mem_map->IU,mem_cons_self->IV,getElem?_eq_some_iff->IW,mem_cons_of_mem->IZ,size_toArray->Ja,getElem?_append_left->Jb,map_map->Ji,getElem?_eq_getElem->Jj,prefix_refl->Jk,getElem?_map->Jm,map_cons->Jn,length_append->Jo,mem_append_right->Jr,length_cons->Js,range->Ju,mem_append->Jx,all_eq_true->Jy,map_append->JC,mem_of_getElem?->JD,getElem?_set_ne->JL,getElem?_append_right->JN,getD_eq_getElem?_getD->JO,mem_filter->JP,pairwise_cons->JQ,getElem?_eq_none->JR,not_mem_nil->JT,nodup_append->JV,filter_eq_self->JZ,length_nil->Kc,getElem?_eq_none_iff->Kf,filterMap_cons->Kl,append_nil->Kn,mem_range->Kr,nodup_cons->KA,length_take->KG,length_filter_le->KJ,contains_cons->KP,mem_append_left->KR,mem_iff_getElem->KS,getElem?_set_self->KY,map_congr_left->L3,pairwise_iff_getElem->Lf,length_pos_iff->Lu,take_of_length_le->Lw,getElem_mem->Ly,filter_append->LG,take_succ->LJ,length_set->LO,getLast?_eq_getLast->LP,take_length->LW,nodup_nil->LX,any_cons->Mi,replicate->Mo,lookup->Mw,all_cons->MI,range_succ_eq_map->MQ,ext_getElem?->MZ,reverse_cons->Na,map->Nf,map_nil->Nh,toArray->Nj,lookup_cons->Nr,any_toArray->Nt,getElem_map->Nv,Pairwise->NC,getElem_of_mem->NR,dropWhile_cons_of_pos->Oc,dropWhile_cons_of_neg->Od,drop_eq_getElem_cons->Oq,getLast?_eq_getElem?->Ot,getElem?_zip_eq_some->Ou,pairwise_map->OA,getElem?_replicate->OM,filter_cons_of_pos->OV,filter_cons_of_neg->OW,mem_singleton_self->OX,map_drop->OY,getElem_inj->Pc,length_drop->Pf,of_mem_zip->PK,set_append_right->PN,foldl_cons->PQ,filter_map->PU,nil_append->PZ,getElem?_zipWith->Q2,length_dropLast->Qg,flatMap_append->Qx,set_comm->QJ
open Nat renaming le_refl->IM,ne_of_lt->IY,lt_of_lt_of_le->Jc,le_trans->Jt,lt_succ_self->KD,ne_of_gt->KU,lt_irrefl->Ld,lt_succ_of_lt->Lp,zero_le->LU,succ_ne_zero->Mv,le_succ->Mx,succ_lt_succ->Nu,pow_le_pow_right->NA,lt_trans->Oh,le_succ_of_le->OH,le_add_right->Pj,le_of_lt->Py,le_of_eq->PJ,zero_add->PR,mul_le_mul->Ql
open PySem.Str renaming ofString->Jd
open PySem.Expr renaming Name->Je,Compare->Jp,Attribute->JM,Constant->Ka,Subscript->Kx,BoolOp->KL,BinOp->KW,UnaryOp->MP
open PySem.Value renaming ref->Jf,none->Ks,builtin->MM,int->Pu,isInt->Qm,str->Qy,bool->QM,float->QR
open False renaming elim->Jl
open Bool renaming and_eq_true->Jq,false_ne_true->Kh,false_eq_true->Md,beq_eq_decide_eq->Ni,or_true->Nk,and_eq_true_iff->Nx,false_or->QC
open Option.some renaming inj->Jw
open Option renaming map_eq_some_iff->Jz,map_some->NS,isSome_iff_exists->Ow,isSome_map->Oy
open PyProof.Rows renaming envOfC->JH,slot_tuple_getitem->JU,callWith_type1->Ls,boot_isinstance->Mc,assignInOrder_cons->MD,boot_list->MT,boot_int->Nm,IntsAre->Nq,boot_sorted->OB,AllBare->OJ,Constant_none->OK,boot_tuple->Pb,subscriptTail_builtinR->Pp,Subscript_->Qd,entry_tuple_getitem->Qo,listUpdate_at->QD,seqEpoch_at->QU,IsTup->Ra,Call_->Ri
open PySem.Obj renaming data_mapFields->JX,mapFields->KQ,isFreed_of_fields->Lj,data_mapDictKeys->Mn,cls_mapFields->MX,mapSeq->NI,isFreed_of_dict->Qw
open Sum renaming inl->Kb,inr->Px
open PySem.F renaming slot_dict_keyiterator_next->Kd,slot_tuple_iterator_next->Ku,slot_dict_itemiterator_next->KH,called_set->KO,slot_dict_get->Lh,entry_dict_get->LY,args_tuple_iterator_next_1->Me,entry_tuple_iterator_next->Mf,args_dict_keyiterator_next_1->Mr,entry_dict_keyiterator_next->My,slot_list_getattribute->MA,plainAttrs_dict->MG,slot_zip_next->MK,slot_dict_iter->MR,args_dict_itemiterator_next_1->Nb,entry_dict_itemiterator_next->Nn,slot_dict_setdefault->NG,kt_typeCall_dict_1->Oa,args_tuple_add_2->Ox,args_dict_init_2->OF,entry_tuple_add->ON,args_dict_get_2->OO,args_dict_get_3->OP,plainAttrs_list->OQ,entry_dict_init->OT,slot_tuple_add->Po,kt_called_dict->Pq,slot_dict_items_iter->Pr,type_dict_get->PM,excAttr_ValueError->Qf
open PySem.Builtin.Dict_items renaming ownsTuple->Kj
open Ne renaming symm->Kk
open PySem.Heap.SameBut renaming update->Kq
open PySem.Builtin renaming bitAnd->Kv
open PySem.SeqAt renaming EqAt->Ky,RcNeAt->Mq
open PySem.Builtin.Slice renaming slicePlaces->KC,sliceAdjust->Mp,slicePartIndex->NB,sliceApplied->NX
open PySem.Calls renaming spliced_cons->KN,callWith_builtin->Lv,spliced_nil->LM,evalArgs_plain->Ml,Name_function_global->NV,call_function_entry->Ol
open Array renaming length_toList->L0,getElem?_toList->LB,getElem?_eq_some_iff->Mj,getElem?_eq_getElem->Ms,getElem?_eq_none->MS,getD_eq_getD_getElem?->NN,perm_iff_toList_perm->NZ,append_assoc->Of
open Int renaming toNat_natCast->La,natCast_nonneg->ME,emod_nonneg->MN,emod_lt_of_pos->MO,toNat_of_nonneg->NT,fdiv_eq_ediv_of_nonneg->NW
open Classical renaming choose_spec->Li,propDecidable->LV,choose->Ph
open True renaming intro->Lo
open Function renaming comp_def->Lq
open PySem.Builtin.SmallTypes renaming nextOf->LH
open PySem.Stmt renaming Assign->LQ
open PySem.Builtin.Dict renaming showsAll->Mg,updateFrom->OU
open PySem.Const renaming none->Mu,int->Qb
open List.cons renaming injEq->MH
open PySem.Shared renaming TypeIs->ML
open PySem.Data renaming dict->Nl
open PySem.BoolOp renaming And->Nw,Or->NU
open PySem.Builtin.Frozenset renaming walkUnseen->NH,subsetOf->Ob,sizeOf->OG
open PySem.Builtin.Tuple renaming tupleItemsOf->NY
open PySem.Code renaming quiet_builtin->Oi
open PySem.PassesOwn renaming never->Qa
open Nat.succ renaming inj->Qc
open Or renaming inr->QA,inl->QY
open Prod.mk renaming injEq->QG
local macro_rules | `(tactic| walk_at "o")=>`(tactic| first | lia | omega)
namespace L2
open PySem PySem.Spec PyProof.Rows
noncomputable def C3(s:Stmt)(j:Nat):Stmt:=match s with
 | .ClassDef _ _ _ a _ _ _ _ _ _ _=>a.getD j (.Pass ⟨0,0,0,0⟩)
 | _=>.Pass ⟨0,0,0,0⟩
noncomputable def L9(s:Stmt):Arguments:=match s with
 | .FunctionDef _ a _ _ _ _ _ _ _ _=>a
 | _=>{ posonlyargs:=[],args:=[],vararg:=none,kwonlyargs:=[],kw_defaults:=[],kwarg:=none,defaults:=[] }
noncomputable def G0(s:Stmt):List Stmt:=match s with
 | .FunctionDef _ _ b _ _ _ _ _ _ _=>b
 | _=>[]
noncomputable def C2(s:Stmt):OI:=match s with
 | .FunctionDef _ _ _ _ _ _ c _ _ _=>c
 | _=>{ kind:=.function,names:=[],isGenerator:=false,isCoroutine:=false }
end L2
namespace Ws
open PySem PySem.W PyProof.Rows PySem.Calls L2
section
noncomputable def bS(c k:Nat):Bool:=decide (c=k)||decide (k=7)
noncomputable def cA(i:Nat):Str:=(["number","passings","at","web","leaders","limits","plan","free","ledger","kept_leaders","kept_limits","kept_free","now","turns_of_lays","sayings","first_turns","does","me","open_boxes"]:List Str).getD i "?"
def pS(ok:QQ->Bool)(a:Mm->QQ->Option (Mm×QQ))(n:Nat):Mm->QQ->Option Mm:=
 @Nat.rec (λ_=>Mm->QQ->Option Mm) (λ_ _=>none)
  (λ_ ih s t=>@Bool.rec (λ_=>Option Mm) (@Bool.rec (λ_=>Option Mm) none (@Option.rec _ (λ_=>Option Mm) none (λr=>ih r.1 r.2) (a s t)) (ok t)) (some s) (through t)) n
noncomputable def uo:List Obj->Nat->BT->BT
 | [],_,t=>t
 | o::r,n,t=>uo r (n+1) (t.ins n o)
def pT(w:JJ)(os:QV):Mm:=⟨uo (MJ w.params).objs.toList 0 .nil,11,(MJ w.params).life,#[],QN,QW,os⟩
noncomputable def lO(S:Mm):Frag:=(Ju S.n).filterMap λa=>(alive ((S.tree.get a).getD default)).map λo=>(a,o)
def lk{b:Type}(c:Jg->List Str->List Str->(IJ->Bool)->Bool->IJ->b)(p q:Jg)(a:List Str)(Xt:IJ->Bool)(w:JJ)(s:IJ):Bool×b:=
 (staticsOk (importedModules p.main.body) (MJ w.params) s.heap&&namesBound p s.heap&&gensDone s&&laidKept (MJ w.params) s.heap,c q a (importedModules p.main.body) Xt true s)
noncomputable def kB(K:IH)(C C':Addr):Bool:=match K.lookup C with
 | some ⟨_,_,.cls cd,_⟩=>cd.mro.contains (.ref C')
 | _=>false
noncomputable def bH(K:Frag)(n:Str)(f:Addr):Bool:=decide (nsIn K mainGlobals n=some (some (.ref f)))
noncomputable def mh(K:Frag)(n:Str):Bool:=decide (nsIn K mainGlobals n=some none)
noncomputable def mi(K:Frag)(n:Str)(v:II):Bool:=decide (nsIn K mainGlobals n=some (some v))
noncomputable def iG(K:Frag)(C:Addr)(n:Str)(v:Option II):Bool:=decide (findIn K (.ref C) n=some v)
noncomputable def cJ(K:Frag)(C:Addr)(n:Str)(f:Addr):Bool:=iG K C n (some (.ref f))&&isFn K (.ref f)
noncomputable def bj(K:Frag)(cd:II)(q:Str)(f:Addr):Bool:=codeIn K cd q&&keepIn K (.ref f)
noncomputable def nU(K:Frag)(C:Addr):Bool:=plainGet K C Str.empty&&hasDictIn K C&&plainOver K C&&iG K C "__setattr__" (some (.builtin "object.__setattr__"))&&(Ju 19).all λj=>iG K C (cA j) none
noncomputable def kJ(K:Frag)(C:Addr):Bool:=makesIn K C&&keepIn K (.ref C)
noncomputable def blts:List Str:=["len","range","list","sorted","isinstance","int","bool","tuple","enumerate","reversed","max","min","all","any","set","zip","dict"]
noncomputable def wA(K:Frag):Bool:=decide (specialIn K (.builtin "object.__class__") "__get__" = some (some (.builtin "getset_descriptor.__get__")))&&decide (takesIn K (.builtin "object.__class__")=some true)
noncomputable def kK(K:Frag)(C a:Addr):Bool:=cJ K C "__init__" a&&keepIn K (.ref C)&&iG K C "__setattr__" (some (.builtin "object.__setattr__"))&&iG K C "at" none&&iG K C "__getattribute__" (some (.builtin "BaseException.__getattribute__"))&&iG K C "__getattr__" none&&hasDictIn K C&&
 iG K C "__class__" (some (.builtin "object.__class__"))&&decide (mroIn K C (.type "object")=some true)&&decide (kitOne K (.ref C) (.type "ValueError")=some true)
noncomputable def wB(K:Frag)(a:Nat->Addr)(es:List Nat):Bool:=es.all λc=>es.all λd=>decide (kB K (a c) (a d)=bS c d)&&decide (kitOne K (.ref (a c)) (.ref (a d))=some (bS c d))
abbrev ml:List Nat:=[0,2,3,4,5,6,7,8,9,11,12,13,14,15,16,17,18,20,22,23,24,25,26,27,29,30,31,32,34,35,36,37,38,39,40,41,42,43,44,45,46,47]
abbrev rF:List Str:=[]
abbrev xt(p:Jg)(s:IJ):Bool:=xlAt (view p ml) [] s&&recOk (RowW.records PySem.Challenge.rw_wordswap_k26_whole_ledger.row.toRowW) s
noncomputable def K2(p:Jg)(i:Nat):Stmt:=p.main.body.getD i (.Pass ⟨0,0,0,0⟩)
noncomputable def cmA(i:Nat):Addr:=([227,433,374,227,227,227,227,38,51,63,227,227,75,87,99,111,123,227]:List Nat).getD i 0
abbrev bs(K:Frag):List Bool:=[(Ju 7).all λc=>nU K (cmA c),blts.all (mh K),bH K "Web" (cmA 0),bH K "Ledger" (cmA 2),bH K "Plan" (cmA 1),bH K "SwapError" (cmA 7),bH K "NoWeb" (cmA 8),bH K "NoPlan" (cmA 9),bH K "NoDeed" (cmA 12),bH K "Laid" (cmA 13),bH K "NotLaid" (cmA 14),bH K "Late" (cmA 15),bH K "Unknown" (cmA 16),mi K "FEWEST_HANDS" (.int (2) 337),mi K "MOST_HANDS" (.int (6) 339),mi K "LAY" (.str "lay" 479),mi K "SAY" (.str "say" 481),mh K "str",cJ K (cmA 7) "__init__" 35&&bj K (.ref 34) "SwapError.__init__" 35,bH K "_law_cell_at" 444&&bj K (.ref 443) "_law_cell_at" 444,bH K "_law_mixed" 456&&bj K (.ref 455) "_law_mixed" 456,bH K "_law_passings" 461&&bj K (.ref 460) "_law_passings" 461,bH K "_law_some" 466&&bj K (.ref 465) "_law_some" 466,bH K "is_rising" 383&&bj K (.ref 382) "is_rising" 383,bH K "is_whole" 132&&bj K (.ref 131) "is_whole" 132,bH K "is_hand" 139&&bj K (.ref 138) "is_hand" 139,bH K "are_leaders" 388&&bj K (.ref 387) "are_leaders" 388,bH K "is_limit" 395&&bj K (.ref 394) "is_limit" 395,cJ K (cmA 1) "__init__" 409&&bj K (.ref 408) "Plan.__init__" 409,bH K "is_number_of_hands" 146&&bj K (.ref 145) "is_number_of_hands" 146,bH K "is_passing" 153&&bj K (.ref 152) "is_passing" 153,bH K "first_wrong_passing" 160&&bj K (.ref 159) "first_wrong_passing" 160,cJ K (cmA 0) "__init__" 174&&bj K (.ref 173) "Web.__init__" 174,cJ K (cmA 2) "__init__" 270&&bj K (.ref 269) "Ledger.__init__" 270,cJ K (cmA 2) "move" 284&&bj K (.ref 283) "Ledger.move" 284,bH K "_law_ways" 471&&bj K (.ref 470) "_law_ways" 471,bH K "_law_chains" 476&&bj K (.ref 475) "_law_chains" 476,bH K "_law_known" 483&&bj K (.ref 482) "_law_known" 483,bH K "_law_deed" 514&&bj K (.ref 513) "_law_deed" 514,bH K "_law_due" 490&&bj K (.ref 489) "_law_due" 490,bH K "is_box" 243&&bj K (.ref 242) "is_box" 243,bH K "is_chain" 236&&bj K (.ref 235) "is_chain" 236,bH K "is_chain_of" 248&&bj K (.ref 247) "is_chain_of" 248,bH K "is_deed" 255&&bj K (.ref 254) "is_deed" 255,cJ K (cmA 2) "take_lay" 298&&bj K (.ref 297) "Ledger.take_lay" 298,cJ K (cmA 2) "is_laid_ahead" 319&&bj K (.ref 318) "Ledger.is_laid_ahead" 319,cJ K (cmA 1) "limit" 416&&bj K (.ref 415) "Plan.limit" 416,cJ K (cmA 2) "is_late" 326&&bj K (.ref 325) "Ledger.is_late" 326,cJ K (cmA 2) "is_said_ahead" 340&&bj K (.ref 339) "Ledger.is_said_ahead" 340,cJ K (cmA 2) "is_sayable" 333&&bj K (.ref 332) "Ledger.is_sayable" 333,cJ K (cmA 2) "take_say" 305&&bj K (.ref 304) "Ledger.take_say" 305,cJ K (cmA 2) "take" 291&&bj K (.ref 290) "Ledger.take" 291,bH K "_law_taken" 509&&bj K (.ref 508) "_law_taken" 509,bH K "_law_put" 497&&bj K (.ref 496) "_law_put" 497,bH K "_law_alike" 449&&bj K (.ref 448) "_law_alike" 449,cJ K (cmA 2) "laid" 352&&bj K (.ref 351) "Ledger.laid" 352,cJ K (cmA 2) "turn" 277&&bj K (.ref 276) "Ledger.turn" 277,bH K "_law_open" 502&&bj K (.ref 501) "_law_open" 502,cJ K (cmA 2) "said" 364&&bj K (.ref 363) "Ledger.said" 364,cJ K (cmA 2) "has_all_words" 345&&bj K (.ref 344) "Ledger.has_all_words" 345,cJ K (cmA 2) "opened" 357&&bj K (.ref 356) "Ledger.opened" 357,bH K "law" 519&&bj K (.ref 518) "law" 519,wA K,[7,8,9,12,13,14,15,16].all λc=>kK K (cmA c) 35,wB K cmA [7,8,9,12,13,14,15,16],mh K "ValueError",kJ K (cmA 0),kJ K (cmA 2),kJ K (cmA 1)]
abbrev os(K:Frag):List (Option Obj):=[K.lookup 35,K.lookup 444,K.lookup 456,K.lookup 461,K.lookup 466,K.lookup 383,K.lookup 132,K.lookup 139,K.lookup 388,K.lookup 395,K.lookup 409,K.lookup 146,K.lookup 153,K.lookup 160,K.lookup 174,K.lookup 270,K.lookup 263,K.lookup 284,K.lookup 471,K.lookup 476,K.lookup 483,K.lookup 514,K.lookup 490,K.lookup 243,K.lookup 236,K.lookup 248,K.lookup 255,K.lookup 298,K.lookup 319,K.lookup 416,K.lookup 326,K.lookup 340,K.lookup 333,K.lookup 305,K.lookup 291,K.lookup 509,K.lookup 497,K.lookup 449,K.lookup 352,K.lookup 277,K.lookup 502,K.lookup 364,K.lookup 345,K.lookup 357,K.lookup 519,K.lookup (cmA 7),K.lookup (cmA 8),K.lookup (cmA 9),K.lookup (cmA 12),K.lookup (cmA 13),K.lookup (cmA 14),K.lookup (cmA 15),K.lookup (cmA 16)]
abbrev fQ(st:Stmt)(n q:Str)(d m:II)(c:Addr):Option Obj:=some ⟨.type "function",none,.func (fnOf n q (L9 st) (G0 st) (C2 st) d .none .none m none (.ref c) .none),#[]⟩
abbrev fP(st:Stmt)(n:Str)(m:II)(c:Addr):Option Obj:=fQ st n n .none m c
abbrev xO(n:Str)(C N r:Addr)(a t:Nat):Option Obj:=some (excClassObj n n C N [(.ref 38)] [(.ref 38),(.type "ValueError"),(.type "Exception"),(.type "BaseException"),(.type "object")] true [] [] false none none (some (.ref r)) none (some (.str n a)) (some (.str n t)) (some (.bool true)) "ValueError.__new__")
abbrev HV:II:=(.str "wordswap.errors" 194)
abbrev eA:II:=(.str "law_wordswap_k26_whole_ledger" 739)
abbrev mn:II:=(.str "wordswap.plans" 658)
abbrev kL:II:=(.str "wordswap.webs" 335)
abbrev dJ:II:=(.str "wordswap.ledgers" 477)
abbrev HW:II:=(.str "wordswap.chains" 469)
abbrev ov(p:Jg):List (Option Obj):=[fQ (C3 (K2 p 2) 0) "__init__" "SwapError.__init__" .none HV 34,fP (K2 p 34) "_law_cell_at" eA 443,fP (K2 p 36) "_law_mixed" eA 455,fP (K2 p 37) "_law_passings" eA 460,fP (K2 p 38) "_law_some" eA 465,fP (K2 p 29) "is_rising" mn 382,fP (K2 p 13) "is_whole" kL 131,fP (K2 p 14) "is_hand" kL 138,fP (K2 p 30) "are_leaders" mn 387,fP (K2 p 31) "is_limit" mn 394,fQ (C3 (K2 p 32) 0) "__init__" "Plan.__init__" .none mn 408,fP (K2 p 15) "is_number_of_hands" kL 145,fP (K2 p 16) "is_passing" kL 152,fP (K2 p 17) "first_wrong_passing" kL 159,fQ (C3 (K2 p 18) 0) "__init__" "Web.__init__" .none kL 173,fQ (C3 (K2 p 27) 0) "__init__" "Ledger.__init__" (.ref 263) dJ 269,some ⟨(.type "tuple"),none,.seq #[.none] 0,#[]⟩,fQ (C3 (K2 p 27) 2) "move" "Ledger.move" .none dJ 283,fP (K2 p 39) "_law_ways" eA 470,fP (K2 p 40) "_law_chains" eA 475,fP (K2 p 41) "_law_known" eA 482,fP (K2 p 46) "_law_deed" eA 513,fP (K2 p 42) "_law_due" eA 489,fP (K2 p 24) "is_box" dJ 242,fP (K2 p 20) "is_chain" HW 235,fP (K2 p 25) "is_chain_of" dJ 247,fP (K2 p 26) "is_deed" dJ 254,fQ (C3 (K2 p 27) 4) "take_lay" "Ledger.take_lay" .none dJ 297,fQ (C3 (K2 p 27) 7) "is_laid_ahead" "Ledger.is_laid_ahead" .none dJ 318,fQ (C3 (K2 p 32) 1) "limit" "Plan.limit" .none mn 415,fQ (C3 (K2 p 27) 8) "is_late" "Ledger.is_late" .none dJ 325,fQ (C3 (K2 p 27) 10) "is_said_ahead" "Ledger.is_said_ahead" .none dJ 339,fQ (C3 (K2 p 27) 9) "is_sayable" "Ledger.is_sayable" .none dJ 332,fQ (C3 (K2 p 27) 5) "take_say" "Ledger.take_say" .none dJ 304,fQ (C3 (K2 p 27) 3) "take" "Ledger.take" .none dJ 290,fP (K2 p 45) "_law_taken" eA 508,fP (K2 p 43) "_law_put" eA 496,fP (K2 p 35) "_law_alike" eA 448,fQ (C3 (K2 p 27) 12) "laid" "Ledger.laid" .none dJ 351,fQ (C3 (K2 p 27) 1) "turn" "Ledger.turn" .none dJ 276,fP (K2 p 44) "_law_open" eA 501,fQ (C3 (K2 p 27) 14) "said" "Ledger.said" .none dJ 363,fQ (C3 (K2 p 27) 11) "has_all_words" "Ledger.has_all_words" .none dJ 344,fQ (C3 (K2 p 27) 13) "opened" "Ledger.opened" .none dJ 356,fP (K2 p 47) "law" eA 518,some (excClassObj "SwapError" "SwapError" 38 37 [(.type "ValueError")] [(.type "ValueError"),(.type "Exception"),(.type "BaseException"),(.type "object")] true [] [(.ref 51),(.ref 63),(.ref 75),(.ref 87),(.ref 99),(.ref 111),(.ref 123)] false none none (some (.ref 22)) none (some (.str "SwapError" 196)) (some (.str "SwapError" 204)) (some (.bool true)) "ValueError.__new__"),xO "NoWeb" 51 50 42 223 231,xO "NoPlan" 63 62 54 239 247,xO "NoDeed" 75 74 66 255 263,xO "Laid" 87 86 78 271 279,xO "NotLaid" 99 98 90 287 295,xO "Late" 111 110 102 303 311,xO "Unknown" 123 122 114 319 327]
set_option maxRecDepth 100000 in
set_option maxHeartbeats 0 in
def HY:∀(w:JJ)(o:QV),(pS (PySem.W.Fast.tw6613529449190102663 11 (some (.ref 6))) (PySem.W.Fast.tw10156331382660048174 (PySem.W.Fast.tw11892475500146522536 PySem.W.Fast.tw14364793385576792824) PySem.Challenge.pw_wordswap_k26_whole_ledger w) 8224 (pT w o) (topStub PySem.Challenge.pw_wordswap_k26_whole_ledger)).map (λS=>(lk PySem.W.Fast.tw4187177175401517315 PySem.Challenge.pw_wordswap_k26_whole_ledger (view PySem.Challenge.pw_wordswap_k26_whole_ledger ml) rF (xt PySem.Challenge.pw_wordswap_k26_whole_ledger) w S.abs,(bs (lO S)).all id,os (lO S)))=some ((true,openGood (view PySem.Challenge.pw_wordswap_k26_whole_ledger ml) rF),true,ov PySem.Challenge.pw_wordswap_k26_whole_ledger):=λw o=>by kernel_rfl
set_option maxRecDepth 100000 in
set_option maxHeartbeats 0 in
def Ia:PySem.W.OpenLaw.wellSaid PySem.Challenge.rw_wordswap_k26_whole_ledger=true:=by kernel_rfl
end
end Ws
section
set_option compiler.extract_closed false
set_option Elab.async false
set_option linter.all false
set_option maxRecDepth 100000
namespace L2
open PySem PySem.Spec PyProof.Rows
abbrev Key:=Sum Int Str
noncomputable def ka:Key->II->Bool
 | .inl k,v=>Qm k v
 | .inr x,v=>II.isStrOf x v
noncomputable def wJ(w:JJ):Key->Int
 | .inl k=>hashInt k
 | .inr x=>hashStr w x
theorem keyIs_shape:∀{k:Key}{v:II},ka k v=true->(∃i t,k=Kb i/\v=Pu i t)\/(∃x t,k=Px x/\v=Qy x t)
 | .inl i,v,h=>by
   obtain⟨t,e⟩:=II.isInt_shape h;exact .inl ⟨i,t,rfl,e⟩
 | .inr x,v,h=>by
   obtain⟨t,e⟩:=II.isStrOf_shape h;exact .inr ⟨x,t,rfl,e⟩
def wK(i:Int)(t:Tok):ka (.inl i) (.int i t)=true:=by simp[ka,Qm]
def wL(x:Str)(t:Tok):ka (.inr x) (.str x t)=true:=by simp[ka,II.isStrOf]
def wM(a b:Int):decide ((Kb a:Key)=Kb b)=(a == b):=by
 by_cases e:a=b
 .subst e;simp
 .have h:¬(Kb a:Key)=Kb b:=λq=>e (Kb.inj q);rw[decide_eq_false h];exact(beq_eq_false_iff_ne.mpr e).symm
def wN(a b:Str):decide ((Px a:Key)=Px b)=decide (a=b):=by simp
def wO(a:Int)(b:Str):decide ((Kb a:Key)=Px b)=false:=rfl
def wQ(a:Str)(b:Int):decide ((Px a:Key)=Kb b)=false:=rfl
noncomputable def J6(prog:Jg)(w:JJ):PySem.KeyKind prog w Key where
 is:=ka
 hash:=wJ w
 inj:=λv a b ha hb=>by
  rcases keyIs_shape ha with⟨i,t,rfl,rfl⟩ | ⟨x,t,rfl,rfl⟩
  .rcases keyIs_shape hb with⟨j,u,rfl,e⟩ | ⟨y,u,rfl,e⟩
   .injection e with e1 _;rw[e1]
   .exact nomatch e
  .rcases keyIs_shape hb with⟨j,u,rfl,e⟩ | ⟨y,u,rfl,e⟩
   .exact nomatch e
   .injection e with e1 _;rw[e1]
 byValue:=λk v h=>by
  rcases keyIs_shape h with⟨i,t,rfl,rfl⟩ | ⟨x,t,rfl,rfl⟩<;>rfl
 pyHash:=λhv h=>by
  rcases keyIs_shape hv with⟨i,t,rfl,rfl⟩ | ⟨x,t,rfl,rfl⟩
  .exact wpAny_pyHash_int h
  .exact wpAny_pyHash_str h
 eqBool:=λhu hv h=>by
  rcases keyIs_shape hu with⟨i,t,rfl,rfl⟩ | ⟨x,t,rfl,rfl⟩
  .rcases keyIs_shape hv with⟨j,u,rfl,rfl⟩ | ⟨y,u,rfl,rfl⟩
   .rw[wM]at h;exact wpAny_eqBool_int h
   .rw[wO]at h;exact Ky.int_str i t y u _ _ _ _ h
  .rcases keyIs_shape hv with⟨j,u,rfl,rfl⟩ | ⟨y,u,rfl,rfl⟩
   .rw[wQ]at h;exact Ky.str_int x t j u _ _ _ _ h
   .rw[wN]at h;exact wpAny_eqBool_str h
 «strs»:=λk x t v h=>by
  rcases keyIs_shape h with⟨i,u,rfl,e⟩ | ⟨y,u,rfl,e⟩
  .exact nomatch e
  .injection e with e1 _;subst e1;cases v<;>rfl
def wR(prog:Jg)(w:JJ)(i:Int)(t:Tok):(J6 prog w).is (.inl i) (.int i t)=true:=wK i t
def wU(prog:Jg)(w:JJ)(x:Str)(t:Tok):(J6 prog w).is (.inr x) (.str x t)=true:=wL x t
inductive V where
 | non | bl (b:Bool) | int (i:Int) | str (x:Str) | byt (b:Array UInt8) | flt (b:UInt64) | ref (a:Addr) | ty (n:String)
 deriving DecidableEq
def RelV:V->II->Prop
 | .non,u=>u=Ks
 | .bl b,u=>u=QM b
 | .int i,u=>∃t,u=Pu i t
 | .str x,u=>∃t,u=Qy x t
 | .byt b,u=>∃t,u=II.bytes b t
 | .flt b,u=>∃t,u=QR b t
 | .ref a,u=>u=Jf a
 | .ty n,u=>u=II.type n
abbrev ay:List V->List II->Prop:=Paired RelV
def ay.length(r:ay a b):a.length=b.length:=Paired.length r
theorem ay.get:∀{a:List V}{b:List II}{i:Nat}{x:V},ay a b->a[i]?=some x->∃u,b[i]?=some u/\RelV x u
 | _,_,_,_,.nil,e=>by simp at e
 | _,_,0,_,.cons r _,e=>by simp at e;subst e;exact⟨_,rfl,r⟩
 | _,_,i+1,x,.cons _ t,e=>by
   obtain⟨u,c,d⟩:=ay.get t (by simpa using e);exact⟨u,by simpa using c,d⟩
def ay.append:∀{a b:List V}{c d:List II},ay a c->ay b d->ay (a++b) (c++d):=by
 intro a b c d h s;induction h with
 | nil=>exact s
 | cons r _ ih=>exact .cons r ih
theorem ay.take:∀{a:List V}{b:List II}(n:Nat),ay a b->ay (a.take n) (b.take n)
 | _,_,0,_=>.nil
 | _,_,_+1,.nil=>.nil
 | _,_,n+1,.cons r t=>.cons r (ay.take n t)
theorem ay.drop:∀{a:List V}{b:List II}(n:Nat),ay a b->ay (a.drop n) (b.drop n)
 | _,_,0,r=>r
 | _,_,_+1,.nil=>.nil
 | _,_,n+1,.cons _ t=>ay.drop n t
def bI:Option V->Option II->Prop
 | some v,some u=>RelV v u
 | none,none=>True
 | _,_=>False
def KV{a:Type}:List (a×V)->List (a×II)->Prop:=Paired λ(p:a×V) (q:a×II)=>p.1=q.1/\RelV p.2 q.2
noncomputable def kV:Key->V
 | .inl i=>.int i
 | .inr x=>.str x
inductive HO where
 | lst (xs:List V)
 | tup (xs:List V)
 | dK (kvs:List (Key×V)) | dT (kvs:List (List Key×V))
 | set (S:Int->Bool) (n:Nat)
 | ins (C dx:Addr) (fs:List (Str×V))
 | own (x:Addr)
 | xd (fs:List (Str×V))
 | met (f x:Addr)
 | rng (lo hi:Int)
 | frz (o:Obj) (u:HO)
 | tbl (ps:Array II)
 | ext (φ:Heap->Prop)
abbrev Hp:=Addr->Option HO
noncomputable def ax(H:Hp)(a:Addr)(o:HO):Hp:=λb=>if b=a then some o else H b
def C1:ax H a o a=some o:=by unfold ax;rw[if_pos rfl]
def ah(h:b≠a):ax H a o b=H b:=by unfold ax;rw[if_neg h]
def wV:ax (ax H a o) a u=ax H a u:=by
 funext b;unfold ax;split<;>rfl
def rG{H:Hp}(h:H a=some o)(h':H b=some u)(d:o≠u):a≠b:=by
 intro e;subst e;rw[h]at h';exact d (Jw h')
def E7{H:Hp}(h:H a=some o)(h':H b=none):a≠b:=by
 intro e;subst e;rw[h]at h';cases h'
section
variable(P:Jg)(w:JJ)
def aA(H:Hp)(h:Heap)(a:Addr):HO->Prop
 | .lst d=>d.length<=sizeLine/\∃(b:List II)(n:Nat),ay d b/\h.get? a=some { cls:=.type "list",data:=.seq b.toArray n }
 | .tup d=>d.length<=sizeLine/\∃b:List II,ay d b/\Ra h a b.toArray
 | .dK c=>c.length<=sizeLine/\(a == sysModules)=false/\∃l,KV c l/\h.DictOf (J6 P w) a l
 | .dT c=>c.length<=sizeLine/\(a == sysModules)=false/\∃d:List (List Key×Addr×II),
  Paired (λ(p:List Key×V) (q:List Key×Addr×II)=>p.1=q.1/\H q.2.1=some (.tup (p.1.map kV))/\RelV p.2 q.2.2) c d/\
  ∃o m y,h.get? a=some o/\o.ExactDict/\o.data=.dict m y/\m.toList=d.map (entryOfKey (tupleKind (J6 P w)))/\(d.map (·.1)).Nodup
 | .set S n=>h.SetOf (intKind P w) a S n
 | .ins C i fs=>H i=some (.own a)/\fs.length<=1000/\i≠a/\h.get? a=some (Lr C i)/\
  ∃g,h.Ns1 i g/\(∀f,bI (fs.lookup f) (g f))/\Oe g (fs.map (·.1))
 | .own _=>∃o,h.get? a=some o
 | .xd fs=>∃g,h.Ns1 a g/\∀f,bI (fs.lookup f) (g f)
 | .rng lo z=>∃t u v,h.get? a=some { cls:=.type "range",data:=.fields #[.int lo t,.int z u,.int 1 v] }
 | .frz o u=>h.get? a=some o/\aA H h a u
 | .tbl A=>h.get? a=some { cls:=.none,data:=.fields A }
 | .met f x=>h.get? a=some (PySem.W.methodObj (.ref f) (.ref x))
 | .ext j=>j h/\(∃o,h.get? a=some o)/\∀r s:Heap,j r->(∀o,r.get? a=some o->s.get? a=some o)->j s
def bK(H:Hp)(h:Heap):Prop:=∀a o,H a=some o->aA P w H h a o
end
def aA.lt(x:aA P w H h a o):a<h.objs.size:=by
 cases o with
 | lst c=>obtain⟨_,_,_,_,e⟩:=x;exact IQ e
 | tup c=>obtain⟨_,_,_,p⟩:=x;exact p.lt
 | dK b=>obtain⟨_,_,_,_,o,_,_,e,_⟩:=x;exact IQ e
 | dT b=>obtain⟨_,_,_,_,o,_,_,e,_⟩:=x;exact IQ e
 | set S n=>obtain⟨o,_,_,_,e,_⟩:=x;exact IQ e
 | ins C d fs=>obtain⟨_,_,_,e,_⟩:=x;exact IQ e
 | own y=>obtain⟨_,e⟩:=x;exact IQ e
 | xd fs=>obtain⟨_,⟨_,_,_,e,_⟩,_⟩:=x;exact IQ e
 | rng lo g=>obtain⟨_,_,_,e⟩:=x;exact IQ e
 | frz i u=>obtain⟨e,_⟩:=x;exact IQ e
 | tbl j=>exact IQ (show h.get? a=some _ from x)
 | met f y=>exact IQ (show h.get? a=some _ from x)
 | ext l=>obtain⟨_,⟨_,e⟩,_⟩:=x;exact IQ e
def Paired.mapP{d e:Type}{F G:d->e->Prop}:∀{c:List d}{l₂:List e},Paired F c l₂->(∀a b,F a b->G a b)->Paired G c l₂:=by
 intro c l₂ h f;induction h with
 | nil=>exact .nil
 | cons r _ ih=>exact .cons (f _ _ r) ih
def aA.stay(x:aA P w H h a o)(k:∀b u,(b=a\/H b=some (.own a))->h.get? b=some u->h'.get? b=some u)
 (D:∀b,H b=some (.own a)->H' b=some (.own a)) (E:∀b m,H b=some (.tup m)->H' b=some (.tup m)):aA P w H' h' a o:=by
 induction o with
 | lst m=>obtain⟨z,l,n,r,e⟩:=x;exact⟨z,l,n,r,k _ _ (.inl rfl) e⟩
 | tup m=>obtain⟨z,l,r,g,e,c⟩:=x;exact⟨z,l,r,g,k _ _ (.inl rfl) e,c⟩
 | dK s=>obtain⟨z,y,G,r,g,i,j,e,c⟩:=x;exact⟨z,y,G,r,g,i,j,k _ _ (.inl rfl) e,c⟩
 | dT s=>
   obtain⟨z,y,m,r,g,i,j,e,c⟩:=x;exact⟨z,y,m,Paired.mapP r λp q z=>⟨z.1,E _ _ z.2.1,z.2.2⟩,g,i,j,k _ _ (.inl rfl) e,c⟩
 | set S n=>obtain⟨g,i,j,t,e,c⟩:=x;exact⟨g,i,j,t,k _ _ (.inl rfl) e,c⟩
 | ins C J fs=>
   obtain⟨d,z,ne,e,A,⟨B,i,j,I,c⟩,r⟩:=x;exact⟨D _ d,z,ne,k _ _ (.inl rfl) e,A,⟨B,i,j,k _ _ (.inr d) I,c⟩,r⟩
 | own y=>obtain⟨g,e⟩:=x;exact⟨g,k _ _ (.inl rfl) e⟩
 | xd fs=>obtain⟨A,⟨B,i,j,e,c⟩,r⟩:=x;exact⟨A,⟨B,i,j,k _ _ (.inl rfl) e,c⟩,r⟩
 | rng lo L=>obtain⟨t,u,v,e⟩:=x;exact⟨t,u,v,k _ _ (.inl rfl) e⟩
 | frz g u ih=>obtain⟨e,q⟩:=x;exact⟨k _ _ (.inl rfl) e,ih q⟩
 | tbl N=>
   have e:=x;exact k a _ (.inl rfl) e
 | met f y=>
   have e:=x;exact k a _ (.inl rfl) e
 | ext O=>obtain⟨p,⟨o,e⟩,st⟩:=x;exact⟨st _ _ p λo q=>k _ _ (.inl rfl) q,⟨o,k _ _ (.inl rfl) e⟩,st⟩
def bK.lt(x:bK P w H h)(e:H a=some o):a<h.objs.size:=(x a o e).lt
def bK.fresh(x:bK P w H h)(e:h.objs.size<=a):H a=none:=by
 cases q:H a with
 | none=>rfl
 | some u=>exact absurd (Jc (x.lt q) e) (Ld _)
def bK.kept(x:bK P w H h)(k:∀b u,h.get? b=some u->h'.get? b=some u):bK P w H h':=λa o e=>
 (x a o e).stay (λb u _ q=>k b u q) (λ_ q=>q) λ_ _ q=>q
def bK.laid(x:bK P w H h)(k:∀b u,h.get? b=some u->h'.get? b=some u)(g:h.objs.size<=a)(new:aA P w (ax H a o) h' a o):bK P w (ax H a o) h':=λb u e=>by
 have d:=x.fresh g;by_cases f:b=a
 .subst f;rw[C1]at e;cases e;exact new
 .rw[ah f]at e;exact(x b u e).stay (λc v _ q=>k c v q) (λc q=>by rw[ah (E7 q d)];exact q) λc i q=>by rw[ah (E7 q d)];exact q
def Rd(H:Hp)(a:Addr)(u:HO):Prop:=H a=some u\/∃o,H a=some (.frz o u)
def Rd.ok(r:Rd H a u)(x:bK P w H h):aA P w H h a u:=by
 rcases r with r | ⟨o,r⟩
 .exact x a u r
 .obtain⟨_,q⟩:=x a _ r;exact q
def kM:Option HO->Prop
 | some (.lst _)=>True
 | some (.dK _)=>True
 | some (.dT _)=>True
 | some (.set _ _)=>True
 | some (.ins _ _ _)=>True
 | some (.ext _)=>True
 | _=>False
def bK.write(ok:bK P w H h)(g:kM (H x))(he:e=x\/H e=some (.own x))(k:∀b u,b≠e->h.get? b=some u->h'.get? b=some u)(m:∃u,h'.get? e=some u)
 (new:aA P w (ax H x o') h' x o'):bK P w (ax H x o') h':=λb u q=>by
 have d:∀c y,H c=some (.own y)->c≠x:=λc y r z=>by subst z;rw[r]at g;exact g
 have f:∀c i,H c=some (.tup i)->c≠x:=λc i r z=>by subst z;rw[r]at g;exact g
 by_cases j:b=x
 .subst j;rw[C1]at q;cases q;exact new
 .rw[ah j]at q;by_cases a:b=e
  .have n:H b=some (.own x):=by
    rcases he with z | z
    .exact absurd (a.trans z) j
    .rw[a];exact z
   rw[q]at n;cases n;obtain⟨v,o⟩:=m;exact⟨v,by rw[a];exact o⟩
  .refine(ok b u q).stay (λc v l r=>k c v ?_ r) (λc r=>by rw[ah (d c b r)];exact r) λc i r=>by rw[ah (f c i r)];exact r
   rcases l with rfl | l
   .exact a
   .rintro rfl;rcases he with z | z
    .exact d c b l z
    .rw[l]at z;cases z;exact j rfl
structure Un(fs ex:List Addr)(H H':Hp)(h h':Heap):Prop where
 keep:∀b o,h.get? b=some o->H b=none->b∉fs->b∉ex->h'.get? b=some o
 slot:∀b o,h.get? b=some o->H b=none->b∈fs->b∉ex->∃sl,h'.get? b=some { o with slots:=sl }
 free:∀b o,h.get? b=some o->H b=none->b∉ex->H' b=none
 there:∀b o,h.get? b=some o->b∉ex->∃o',h'.get? b=some o'
 tups:∀b xs,H b=some (.tup xs)->H' b=some (.tup xs)
 frzs:∀b o u,H b=some (.frz o u)->H' b=some (.frz o u)
 tbls:∀b ps,H b=some (.tbl ps)->∃more,H' b=some (.tbl (ps++more))
def Un.any(u:Un fs ex H H1 h h1)(q:h.get? b=some ob)(n:H b=none)(c:b∉ex):∃f,h1.get? b=some { ob with slots:=f }:=by
 by_cases d:b∈fs
 .exact u.slot b ob q n d c
 .exact⟨ob.slots,u.keep b ob q n d c⟩
def Un.trans(a:Un fs ex H H1 h h1)(b:Un fs ex H1 H2 h1 h2):Un fs ex H H2 h h2 where
 keep:=λc ob q n hc hx=>b.keep c ob (a.keep c ob q n hc hx) (a.free c ob q n hx) hc hx
 slot:=λc ob q n hc hx=>by
  obtain⟨sl,e1⟩:=a.slot c ob q n hc hx;obtain⟨sl',e2⟩:=b.slot c _ e1 (a.free c ob q n hx) hc hx;exact⟨sl',e2⟩
 free:=λc ob q n hx=>by
  obtain⟨o',e1⟩:=a.there c ob q hx;exact b.free c o' e1 (a.free c ob q n hx) hx
 there:=λc ob q hx=>by
  obtain⟨o',e1⟩:=a.there c ob q hx;exact b.there c o' e1 hx
 tups:=λc xs q=>b.tups c xs (a.tups c xs q)
 frzs:=λc ob xs q=>b.frzs c ob xs (a.frzs c ob xs q)
 tbls:=λc ps q=>by
  obtain⟨m1,e1⟩:=a.tbls c ps q;obtain⟨m2,e2⟩:=b.tbls c _ e1;exact⟨m1++m2,by rw[e2,Of]⟩
def Un.kept(k:∀b u,h.get? b=some u->h'.get? b=some u):Un fs ex H H h h':=
 ⟨λb c q _ _ _=>k b c q,λb c q _ _ _=>⟨c.slots,k b c q⟩,λ_ _ _ n _=>n,λb c q _=>⟨c,k b c q⟩,λ_ _ q=>q,λ_ _ _ q=>q,λ_ d q=>⟨#[],by rw[q];simp⟩⟩
def Un.refl:Un fs ex H H h h:=Un.kept λ_ _ q=>q
def Un.laid(k:∀b u,h.get? b=some u->h'.get? b=some u)(hp:h.objs.size<=a)(hn:H a=none):Un fs ex H (ax H a o) h h' where
 keep:=λb u q _ _ _=>k b u q
 slot:=λb u q _ _ _=>⟨u.slots,k b u q⟩
 free:=λb u q n _=>by rw[ah (IY (Jc (IQ q) hp))];exact n
 there:=λb u q _=>⟨u,k b u q⟩
 tups:=λb xs q=>by rw[ah (E7 q hn)];exact q
 frzs:=λb u xs q=>by rw[ah (E7 q hn)];exact q
 tbls:=λb ps q=>⟨#[],by rw[ah (E7 q hn),q];simp⟩
def Un.write(d:kM (H x))(he:e=x\/H e=some (.own x))(k:∀b u,b≠e->h.get? b=some u->h'.get? b=some u)(f:∃u,h'.get? e=some u):Un fs ex H (ax H x o) h h':=by
 have i:∀b,H b=none->b≠x:=λb n z=>by subst z;rw[n]at d;exact d
 have j:∀b,H b=none->b≠e:=λb n z=>by
  subst z;rcases he with r | r
  .exact i b n r
  .rw[n]at r;cases r
 have g:∀b u,H b=some u->¬kM (some u)->b≠x:=λb u q l z=>by subst z;rw[q]at d;exact l d
 refine⟨λb u q n _ _=>k b u (j b n) q,λb u q n _ _=>⟨u.slots,k b u (j b n) q⟩,λb u q n _=>by rw[ah (i b n)];exact n,λb u q _=>?_,
  λb m q=>by rw[ah (g b _ q λz=>z)];exact q,λb u m q=>by rw[ah (g b _ q λz=>z)];exact q,λb p q=>⟨#[],by rw[ah (g b _ q λz=>z),q];simp⟩⟩
 by_cases c:b=e
 .subst c;exact f
 .exact⟨u,k b u c q⟩
def Un.mono(u:Un fs ex H H1 h h1)(hs:∀b∈fs,b∈fs')(f:∀b∈ex,b∈ex'):Un fs' ex' H H1 h h1:=
 ⟨λb d q n g c=>u.keep b d q n (λz=>g (hs b z)) λz=>c (f b z),λ_ _ q n _ c=>u.any q n λz=>c (f _ z),λb d q n c=>u.free b d q n λz=>c (f b z),λb d q c=>u.there b d q λz=>c (f b z),u.tups,u.frzs,u.tbls⟩
noncomputable def rH(h:Heap)(H:Hp):List Addr:=(Ju h.objs.size).filter λa=>(H a).isSome
noncomputable def kc(h:Heap)(H:Hp):Heap:=PySem.W.hideAll h (rH h H)
def wW(h:Heap)(H:Hp):(kc h H).objs.size=h.objs.size:=PySem.W.hideAll_size _ _
def wX(e:h.get? b=some o)(n:H b=none):(kc h H).get? b=some o:=
 PySem.W.hideAll_get _ e λa=>by
  have q:=(JP.mp a).2;rw[n]at q;simp at q
def wY(e:(kc h H).get? b=some o):h.get? b=some o/\H b=none:=by
 have a:=PySem.W.of_hideAll _ e;refine⟨a,?_⟩;cases q:H b with
 | none=>rfl
 | some x=>
   have c:b∈rH h H:=JP.mpr ⟨Kr.mpr (IQ a),by simp[q]⟩;have z:(kc h H).get? b=none:=PySem.W.hideAll_none _ c;rw[z]at e;cases e
structure Mod(K:IH)(mg:Str->Option II)(base:Heap):Prop where
 kin:K.In base
 glob:base.Ns mainGlobals mg
 blt:∃mb,base.Ns builtinsNs mb/\∀x:Str,x≠"__name__"->mb x=bootBuiltins x
 nolimit:base.NoLimit
structure Cx where
 prog:Jg
 w:JJ
 K:IH
 mg:Str->Option II
 base:Heap
 A:JI
 N:List Str
 s₀:IJ
 H₀:Hp
 env:Env
 outer:List Env
 stack:List Env
 ex:List Addr
 fn:Str->Bool
 calm:Bool
 pn:List (Addr×Obj)
 xe:II->IJ->Prop
noncomputable def frs(l:List Env):List Addr:=l.filterMap (·.frame)
abbrev Cx.fs(X:Cx):List Addr:=frs X.outer
def iK(a:OI)(x:Str):Prop:=a.names.lookup x=some .local\/a.names.lookup x=some .cell\/a.names.lookup x=some .free
def Loc(a:OI)(x:Str):Prop:=a.names.lookup x=some .local\/a.names.lookup x=some .cell
def rJ(a:Env)(h:Heap)(m:Str->Option II)(x:Str)(u:II):Prop:=
 (a.kindOf x=some .local/\m x=some u)\/((a.kindOf x=some .cell\/a.kindOf x=some .free)/\∃c,a.cells.lookup x=some c/\h.IsCell c (some u))
structure Cx.Ok(X:Cx):Prop where
 mod:Mod X.K X.mg X.base
 kind:X.env.scope.kind=.function
 glob:X.env.globals=mainGlobals
 blt:X.env.builtins=builtinsNs
 above:X.s₀.heap.objs.size<=X.env.locals
 inj:∀x y c,X.env.cells.lookup x=some c->X.env.cells.lookup y=some c->x=y
 has:∀x,(X.env.kindOf x=some .cell\/X.env.kindOf x=some .free)->∃c,X.env.cells.lookup x=some c
 cab:∀x c,X.fn x=true->X.env.cells.lookup x=some c->X.s₀.heap.objs.size<=c
 hd:X.calm=true->X.A.handled=none
 frames:X.A.frames=some X.stack
 stk:X.stack=X.outer\/(X.stack=X.env::X.outer/\X.env.frame=some X.env.locals)
 exf:∀b∈X.ex,b≠X.env.locals/\∀x c,X.env.cells.lookup x=some c->c≠b
 bs:∀b o,X.base.get? b=some o->X.s₀.heap.get? b=some o/\X.H₀ b=none
 bsz:X.base.objs.size<=X.s₀.heap.objs.size
 noex:∀b o,X.base.get? b=some o->b∉X.ex
 exfs:∀b∈X.ex,b∉X.fs
 funs:X.s₀.heap.FunFrames X.base X.outer
 frf:∀b∈X.fs,X.H₀ b=none
structure Inv(X:Cx)(pins:List (Addr×Obj))(σ:List (Option V))(H:Hp)(s:IJ):Prop where
 ok:X.Ok
 os:s.os=X.s₀.os
 bare:OJ s.gens
 base:Un X.fs X.ex X.H₀ H X.s₀.heap s.heap
 loc:∃m,s.heap.Ns X.env.locals m/\∀(i:Nat)(x:Str)(v:V),X.N[i]?=some x->σ[i]?=some (some v)->iK X.env.scope x->∃u,RelV v u/\rJ X.env s.heap m x u
 cell:∀x c,X.env.cells.lookup x=some c->∃v,s.heap.IsCell c v
 free:H X.env.locals=none
 freeC:∀x c,X.env.cells.lookup x=some c->H c=none
 pin:∀p∈X.pn++pins,s.heap.get? p.1=some p.2/\H p.1=none/\p.1≠X.env.locals/\p.1∉X.fs/\∀v,p.2.data≠.cell v
 hok:bK X.prog X.w H s.heap
 len:σ.length=X.N.length
def Cx.Ok.nofr{X:Cx}(ok:X.Ok)(e:X.base.get? b=some o):b∉X.fs:=λa=>by
 have:=(ok.funs.mem a).1;rw[e]at this;cases this
def Inv.bs(I:Inv X pins σ H s):∀b o,X.base.get? b=some o->s.heap.get? b=some o/\H b=none:=λb o e=>
 ⟨I.base.keep b o (I.ok.bs b o e).1 (I.ok.bs b o e).2 (I.ok.nofr e) (I.ok.noex b o e),I.base.free b o (I.ok.bs b o e).1 (I.ok.bs b o e).2 (I.ok.noex b o e)⟩
def Inv.bk(I:Inv X pins σ H s):∀b o,X.base.get? b=some o->s.heap.get? b=some o:=λb o e=>(I.bs b o e).1
def Inv.mod(I:Inv X pins σ H s):Mod X.K X.mg X.base:=I.ok.mod
def Inv.kIn(I:Inv X pins σ H s):X.K.In s.heap:=I.ok.mod.kin.keeps I.bk
def Inv.lt(I:Inv X pins σ H s):X.env.locals<s.heap.objs.size:=let⟨_,a,_⟩:=I.loc;a.lt
def Inv.sz(I:Inv X pins σ H s):X.s₀.heap.objs.size<=s.heap.objs.size:=Jt I.ok.above (Py I.lt)
def Inv.nofs(I:Inv X pins σ H s)(h:s.heap.objs.size<=a):a∉X.fs:=λb=>by
 obtain⟨_,o,c,_⟩:=I.ok.funs.mem b;exact absurd (Jc (IQ c) (Jt I.sz h)) (Ld _)
def Inv.cne(I:Inv X pins σ H s):∀x c,X.env.cells.lookup x=some c->c≠X.env.locals:=λx c e z=>by
 obtain⟨v,o,d,f⟩:=I.cell x c e;obtain⟨m,⟨g,h,i,a,b,_⟩,_⟩:=I.loc;rw[z,a]at d;cases d;rw[b]at f;cases f
def Inv.funs(I:Inv X pins σ H s):s.heap.FunFrames X.base X.outer:=by
 have all:∀(l:List Env),(∀b∈frs l,b∈X.fs)->X.s₀.heap.FunFrames X.base l->s.heap.FunFrames X.base l:=by
  intro l;induction l with
  | nil=>intro _ _;trivial
  | cons g r ih=>
    intro f h;obtain⟨i,⟨L,o,a,j,m,n⟩,p⟩:=h;have c:=f L (by unfold frs;rw[Kl,a];exact IV);obtain⟨q,e⟩:=I.base.slot L o m (I.ok.frf L c) c λz=>I.ok.exfs L z c;exact⟨i,⟨L,_,a,j,e,n⟩,ih (λb d=>f b (by unfold frs;rw[Kl,a];exact IZ _ d)) p⟩
 exact all _ (λ_ d=>d) I.ok.funs
def Inv.stack(I:Inv X pins σ H s):s.heap.FunFrames X.base X.stack:=by
 rcases I.ok.stk with e | ⟨e,a⟩
 .rw[e];exact I.funs
 .rw[e];obtain⟨m,b,_⟩:=I.loc;refine .cons (by rw[I.ok.kind];decide) a b ?_ I.funs;exact Heap.get?_none_of_le (Jt I.ok.bsz I.ok.above)
def Inv.stkSub(I:Inv X pins σ H s):∀b∈frs X.stack,b∈X.env.locals::X.fs:=λb a=>by
 rcases I.ok.stk with e | ⟨e,c⟩
 .rw[e]at a;exact IZ _ a
 .rw[e]at a;unfold frs at a;rw[Kl,c]at a;exact a
def Inv.stkFree(I:Inv X pins σ H s):∀b∈frs X.stack,H b=none:=λb a=>by
 rcases IT.mp (I.stkSub b a)with e | a
 .rw[e];exact I.free
 .obtain⟨_,o,c,_⟩:=I.ok.funs.mem a;exact I.base.free b o c (I.ok.frf b a) λz=>I.ok.exfs b z a
def Inv.step{H:Hp}{H':Hp}{s:IJ}{h':Heap}{g':Array Qz}{t':Nat}{d':Drawn}{ch:List Addr}(I:Inv X pins σ H s)
 (g:∀b∈ch,(b∈X.ex\/X.s₀.heap.objs.size<=b)/\b≠X.env.locals/\(∀x c,X.env.cells.lookup x=some c->c≠b)/\∀p∈X.pn++pins,p.1≠b)
 (keep:∀b o,b≠X.env.locals->b∉X.fs->b∉ch->s.heap.get? b=some o->H b=none->h'.get? b=some o)
 (slot:∀b o,b≠X.env.locals->b∈X.fs->b∉ch->s.heap.get? b=some o->H b=none->∃Y,h'.get? b=some { o with slots:=Y }) (f:∀b o,b∉ch->s.heap.get? b=some o->H b=none->H' b=none)
 (C:∀b o,b∉ch->s.heap.get? b=some o->∃G,h'.get? b=some G)
 (J:∀b B,H b=some (.tup B)->H' b=some (.tup B)) (L:∀b o u,H b=some (.frz o u)->H' b=some (.frz o u)) (N:∀b U,H b=some (.tbl U)->∃O,H' b=some (.tbl (U++O)))
 (ns:∀m,s.heap.Ns X.env.locals m->h'.Ns X.env.locals m) (a0:bK X.prog X.w H' h') (hg:OJ g') :
 Inv X pins σ H' { s with heap:=h',gens:=g',drawn:=d',toks:=t' }:=by
 have Q:∀b o,X.s₀.heap.get? b=some o->b≠_:=λb o e=>IY (Jc (IQ e) I.ok.above);have y:∀b o,X.s₀.heap.get? b=some o->b∉X.ex->b∉ch:=λb o e a D=>by
  rcases(g b D).1 with z | z
  .exact a z
  .exact absurd (Jc (IQ e) z) (Ld _)
 have h:∀x c,X.env.cells.lookup x=some c->∀v,s.heap.IsCell c v->h'.IsCell c v:=λx c e v hq=>by
  obtain⟨o,E,hd⟩:=hq;have j:=λz=>(g c z).2.2.1 x c e rfl;by_cases hc:c∈X.fs
  .obtain⟨Y,q⟩:=slot c o (I.cne x c e) hc j E (I.freeC x c e);exact⟨_,q,hd⟩
  .exact⟨o,keep c o (I.cne x c e) hc j E (I.freeC x c e),hd⟩
 refine⟨I.ok,I.os,hg,⟨λb o e n D a=>?_,λb o e n D a=>?_,λb o e n a=>?_,λb o e a=>?_,λb B e=>J b B (I.base.tups b B e),λb o B e=>L b o B (I.base.frzs b o B e),λb U e=>?_⟩,?_,λx c e=>?_,?_,λx c e=>?_,λp hp=>?_,a0,I.len⟩
 .exact keep b o (Q b o e) D (y b o e a) (I.base.keep b o e n D a) (I.base.free b o e n a)
 .obtain⟨Y,A⟩:=I.base.slot b o e n D a;obtain⟨a2,T⟩:=slot b _ (Q b o e) D (y b o e a) A (I.base.free b o e n a);exact⟨a2,T⟩
 .obtain⟨G,A⟩:=I.base.there b o e a;exact f b G (y b o e a) A (I.base.free b o e n a)
 .obtain⟨G,A⟩:=I.base.there b o e a;exact C b G (y b o e a) A
 .obtain⟨m1,A⟩:=I.base.tbls b U e;obtain⟨m2,T⟩:=N b _ A;exact⟨m1++m2,by rw[T,Of]⟩
 .obtain⟨m,hn,hl⟩:=I.loc;refine⟨m,ns m hn,λi x v A T e3=>?_⟩;obtain⟨u,r,l⟩:=hl i x v A T e3;refine⟨u,r,?_⟩;rcases l with l | ⟨k,c,e,z⟩
  .exact .inl l
  .exact .inr ⟨k,c,e,h x c e _ z⟩
 .obtain⟨v,z⟩:=I.cell x c e;exact⟨v,h x c e v z⟩
 .obtain⟨m,⟨o,_,_,E,_⟩,_⟩:=I.loc;exact f _ o (λz=>(g _ z).2.1 rfl) E I.free
 .obtain⟨v,o,E,hd⟩:=I.cell x c e;exact f c o (λz=>(g c z).2.2.1 x c e rfl) E (I.freeC x c e)
 .obtain⟨e,n,ne,nf,d⟩:=I.pin p hp;have j:=λz=>(g p.1 z).2.2.2 p hp rfl;exact⟨keep p.1 p.2 ne nf j e n,f p.1 p.2 j e n,ne,nf,d⟩
def Inv.un(I:Inv X pins σ H s)(u:Un X.fs [] H H' s.heap h')(c:bK X.prog X.w H' h'):Inv X pins σ H' { s with heap:=h',toks:=t' }:=by
 obtain⟨m,⟨o,v,x,j,r⟩,_⟩:=id I.loc;obtain⟨y,l⟩:=u.any j I.free (by simp);exact I.step (g':=_) (ch:=[]) nofun (λb o _ d _ e n=>u.keep b o e n d nofun) (λb o _ d _ e n=>u.slot b o e n d nofun) (λb o _ e n=>u.free b o e n nofun) (λb o _ e=>u.there b o e nofun) u.tups u.frzs u.tbls (λz p=>by
  obtain⟨A,f,g,a,q⟩:=p;rw[j]at a;cases a;exact⟨_,f,g,l,q⟩) c I.bare
def Inv.call(I:Inv X pins σ H s)(u:Un (frs X.stack) ch H H' s.heap h')(g:bK X.prog X.w H' h')(A:OJ g')
 (d:∀b∈ch,(b∈X.ex\/X.s₀.heap.objs.size<=b)/\b≠X.env.locals/\(∀x c,X.env.cells.lookup x=some c->c≠b)/\∀p∈X.pn++pins,p.1≠b) :
 Inv X pins σ H' { s with heap:=h',gens:=g',drawn:=d',toks:=t' }:=by
 obtain⟨m,⟨o,E,G,y,r⟩,_⟩:=id I.loc;obtain⟨J,h⟩:=u.any y I.free λz=>(d _ z).2.1 rfl;exact I.step d (λb o h B a e n=>u.keep b o e n (λz=>(IT.mp (I.stkSub b z)).elim h B) a) (λb o _ _ a e n=>u.any e n a) (λb o a e n=>u.free b o e n a) (λb o a e=>u.there b o e a) u.tups u.frzs u.tbls (λL C=>by
  obtain⟨N,i,j,f,D⟩:=C;rw[y]at f;cases f;exact⟨_,i,j,h,D⟩) g A
def Inv.turned(I:Inv X pins σ H s)(k:∀b o,b≠a->s.heap.get? b=some o->h'.get? b=some o)(j:H a=none)(g:a≠X.env.locals)
 (l:a∈X.ex\/X.s₀.heap.objs.size<=a) (w:∀x c,X.env.cells.lookup x=some c->c≠a) (y:∀p∈X.pn++pins,p.1≠a):Inv X pins σ H { s with heap:=h',toks:=t' }:=by
 have f:∀b u,H b=some u->b≠a:=λb u e z=>by rw[z,j]at e;cases e
 refine I.step (ch:=[a]) (λb A=>?_) (λb o _ _ d e _=>k b o (λz=>d (by simp[z])) e) (λb o _ _ d e _=>⟨o.slots,k b o (λz=>d (by simp[z])) e⟩) (λ_ _ _ _ n=>n)
  (λb o d e=>⟨o,k b o (λz=>d (by simp[z])) e⟩) (λ_ _ e=>e) (λ_ _ _ e=>e) (λb G e=>⟨#[],by rw[e];simp⟩) (λm B=>?_) (λb u e=>?_) I.bare
 .have e:b=a:=by simpa using A
  subst e;exact⟨l,g,w,y⟩
 .obtain⟨o,C,D,E,r⟩:=B;exact⟨o,C,D,k _ o (Kk g) E,r⟩
 .refine(I.hok b u e).stay (λc v d q=>k c v ?_ q) (λ_ q=>q) λ_ _ q=>q;rcases d with z | z
  .rw[z];exact f b u e
  .exact f c _ z
def Inv.tok(I:Inv X pins σ H s)(t:Nat):Inv X pins σ H { s with toks:=t }:=I.un Un.refl I.hok
def Inv.kept(I:Inv X pins σ H s)(k:∀b u,s.heap.get? b=some u->h'.get? b=some u):Inv X pins σ H { s with heap:=h',toks:=t' }:=I.un (Un.kept k) (I.hok.kept k)
def Inv.laid(I:Inv X pins σ H s)(k:∀b u,s.heap.get? b=some u->h'.get? b=some u)(c:s.heap.objs.size<=a)(new:aA X.prog X.w (ax H a o) h' a o) :
 Inv X pins σ (ax H a o) { s with heap:=h',toks:=t' }:=I.un (Un.laid k c (I.hok.fresh c)) (I.hok.laid k c new)
def Inv.write(I:Inv X pins σ H s)(c:kM (H x))(he:e=x\/H e=some (.own x))(k:∀b u,b≠e->s.heap.get? b=some u->h'.get? b=some u)(a:∃u,h'.get? e=some u)
 (new:aA X.prog X.w (ax H x o) h' x o):Inv X pins σ (ax H x o) { s with heap:=h',toks:=t' }:=I.un (Un.write c he k a) (I.hok.write c he k a new)
def Inv.pins_of(I:Inv X pins σ H s)(h:∀p∈a,s.heap.get? p.1=some p.2/\H p.1=none/\p.1≠X.env.locals/\p.1∉X.fs/\∀v,p.2.data≠.cell v):Inv X a σ H s:=
 ⟨I.ok,I.os,I.bare,I.base,I.loc,I.cell,I.free,I.freeC,λp b=>(Jx.mp b).elim (λz=>I.pin p (KR _ z)) (h p),I.hok,I.len⟩
def nV{N:List Str}(c:N.Nodup){i j:Nat}(a:N[i]?=some x)(b:N[j]?=some x):i=j:=by
 obtain⟨f,d⟩:=IW.mp a;obtain⟨g,e⟩:=IW.mp b;exact(Pc c).mp (d.trans e.symm)
def wZ(I:Inv X pins σ H s)(hN:X.N.Nodup)(Y:X.N[i]?=some x)(C:Loc X.env.scope x)(r:RelV v u)
 (h:∀s',Inv X pins (σ.set i (some v)) H s'->(∃a,JK a s.heap s'.heap/\(a=X.env.locals\/X.env.cells.lookup x=some a))->Q () s') (hf:X.fn x=true\/X.env.scope.names.lookup x=some .local:=by first | exact .inl rfl | exact .inr rfl | assumption):wpAny M A (storeName X.env x u) Q E s:=by
 obtain⟨m,hn,hl⟩:=id I.loc;have a0:(X.env.scope.kind == .class||(X.env.scope.kind == .module&&X.env.locals != X.env.globals))=false:=by rw[I.ok.kind];rfl
 have J:i<σ.length:=by rw[I.len];exact(IW.mp Y).1
 have cne:=I.cne;have g:∀{a:Addr}{h':Heap},(∃o,s.heap.get? a=some o/\H a=none)->JK a _ h'->bK _ X.w H h':=λ{a h'} ha f b ob e=>by
  obtain⟨_,_,D⟩:=ha;refine(I.hok b ob e).stay (λc w' B q=>(f.2 c ?_).trans q) (λ_ q=>q) λ_ _ q=>q;rintro rfl;rcases B with rfl | B
  .rw[D]at e;cases e
  .rw[D]at B;cases B
 rcases C with L | L
 .refine wpAny_storeName_local L hn (λh' a9 f=>?_) a0;obtain⟨oL,_,_,b0,_⟩:=id hn;refine h _ ⟨I.ok,I.os,I.bare,⟨λb o e n O C=>?_,λb o e n O C=>?_,I.base.free,λb o e C=>?_,I.base.tups,I.base.frzs,I.base.tbls⟩,⟨_,a9,λj y v' l G e3=>?_⟩,λy c e=>?_,I.free,I.freeC,λp hp=>?_,g ⟨oL,b0,I.free⟩ f,by simpa using I.len⟩ ⟨_,f,.inl rfl⟩
  .exact(f.2 b (IY (Jc (IQ e) I.ok.above))).trans (I.base.keep b o e n O C)
  .obtain⟨sl,l⟩:=I.base.slot b o e n O C;exact⟨sl,(f.2 b (IY (Jc (IQ e) I.ok.above))).trans l⟩
  .obtain⟨o',l⟩:=I.base.there b o e C;exact⟨o',(f.2 b (IY (Jc (IQ e) I.ok.above))).trans l⟩
  .by_cases T:j=i
   .subst T;rw[Y]at l;cases l;rw[KY J]at G;cases G;exact⟨u,r,.inl ⟨L,by simp⟩⟩
   .rw[JL (Kk T)]at G;obtain⟨u',r',q⟩:=hl j y v' l G e3;refine⟨u',r',?_⟩;rcases q with⟨k,e⟩ | ⟨k,c,e,z⟩
    .refine .inl ⟨k,?_⟩;have:y≠x:=λe=>T (nV hN l (e ▸ Y));simp[this,e]
    .exact .inr ⟨k,c,e,z.sameBut f (cne y c e)⟩
  .obtain⟨w',z⟩:=I.cell y c e;exact⟨w',z.sameBut f (cne y c e)⟩
  .obtain⟨e,n,ne,nf,d⟩:=I.pin p hp;exact⟨(f.2 p.1 ne).trans e,n,ne,nf,d⟩
 .have U:X.fn x=true:=by
   rcases hf with z | z
   .exact z
   .rw[z]at L;cases L
  obtain⟨c,B⟩:=I.ok.has x (.inl L);obtain⟨w',z⟩:=I.cell x c B;refine wpAny_storeName_cell I.ok.kind L B z (λh' a1 f=>?_);obtain⟨oc,a2,a3⟩:=id z;refine h { s with heap:=h' } ⟨I.ok,I.os,I.bare,⟨λb o e n O C=>?_,λb o e n O C=>?_,I.base.free,λb o e C=>?_,I.base.tups,I.base.frzs,I.base.tbls⟩,⟨m,hn.sameBut f (Kk (cne x c B)),λj y v' l G e3=>?_⟩,λy c' e=>?_,I.free,I.freeC,λp hp=>?_,g ⟨oc,a2,I.freeC x c B⟩ f,by simpa using I.len⟩ ⟨c,f,.inr B⟩
  .exact(f.2 b (IY (Jc (IQ e) (I.ok.cab x c U B)))).trans (I.base.keep b o e n O C)
  .obtain⟨sl,l⟩:=I.base.slot b o e n O C;exact⟨sl,(f.2 b (IY (Jc (IQ e) (I.ok.cab x c U B)))).trans l⟩
  .obtain⟨o',l⟩:=I.base.there b o e C;exact⟨o',(f.2 b (IY (Jc (IQ e) (I.ok.cab x c U B)))).trans l⟩
  .by_cases T:j=i
   .subst T;rw[Y]at l;cases l;rw[KY J]at G;cases G;exact⟨u,r,.inr ⟨.inl L,c,B,a1⟩⟩
   .rw[JL (Kk T)]at G;obtain⟨u',r',q⟩:=hl j y v' l G e3;refine⟨u',r',?_⟩;rcases q with q | ⟨k,c',e,z'⟩
    .exact .inl q
    .refine .inr ⟨k,c',e,z'.sameBut f ?_⟩;rintro rfl;exact T (nV hN l (I.ok.inj _ _ _ e B ▸ Y))
  .by_cases a4:c'=c
   .subst a4;exact⟨_,a1⟩
   .obtain⟨w2,z2⟩:=I.cell y c' e;exact⟨w2,z2.sameBut f a4⟩
  .obtain⟨e,n,ne,nf,d⟩:=I.pin p hp;refine⟨(f.2 p.1 ?_).trans e,n,ne,nf,d⟩;intro q;rw[q,a2]at e;have q':=Jw e;exact d w' (by rw[<-q'];exact a3)
def S3(I:Inv X pins σ H s)(b:X.N.Nodup)(c:X.N[i]?=some x)(d:Loc X.env.scope x)(r:RelV v u)
 (h:∀a,Inv X pins (σ.set i (some v)) H a->Q () a) (e:X.fn x=true\/X.env.scope.names.lookup x=some .local:=by first | exact .inl rfl | exact .inr rfl | assumption):wpAny M A (storeName X.env x u) Q E s:=
 wZ I b c d r (λa f _=>h a f) e
def Inv.call'(I:Inv X pins σ H s)(g:a.os=s.os)(u:Un (frs X.stack) ch H H' s.heap a.heap)(d:bK X.prog X.w H' a.heap)(h:OJ a.gens)
 (f:∀b∈ch,(b∈X.ex\/X.s₀.heap.objs.size<=b)/\b≠X.env.locals/\(∀x c,X.env.cells.lookup x=some c->c≠b)/\∀p∈X.pn++pins,p.1≠b):Inv X pins σ H' a:=by
 obtain⟨h',i,j,l,m⟩:=a;have e:=g;subst e;exact I.call u d h f
abbrev XK:=II->Option Addr->Hp->Prop
abbrev St:=List (Option V)
abbrev VK:=V->Hp->Prop
abbrev TE:=St->Hp->VK->Prop
abbrev TT:=St->Hp->(Bool->Hp->Prop)->Prop
abbrev TA:=St->Hp->(List V->Hp->Prop)->Prop
structure o8 where
 nx:St->Hp->Prop
 rt:VK
 bk:St->Hp->Prop:=λ_ _=>False
 ct:St->Hp->Prop:=λ_ _=>False
abbrev TS:=o8->St->Hp->Prop
inductive EP (X:Cx) (pins:List (Addr×Obj)) (σ:St) (Q:VK) (u:II) (s':IJ):Prop
 | mk (v) (H') (h0:Inv X pins σ H' s') (h1:RelV v u) (h2:Q v H'):EP X pins σ Q u s'
inductive TP (X:Cx) (pins:List (Addr×Obj)) (σ:St) (Q:Bool->Hp->Prop) (b:Bool) (s':IJ):Prop
 | mk (H') (h0:Inv X pins σ H' s') (h1:Q b H'):TP X pins σ Q b s'
inductive AP (X:Cx) (pins:List (Addr×Obj)) (σ:St) (Q:List V->Hp->Prop) (us:List II) (s':IJ):Prop
 | mk (vs) (H') (h0:Inv X pins σ H' s') (h1:ay vs us) (h2:Q vs H'):AP X pins σ Q us s'
def SP(X:Cx)(b:List (Addr×Obj))(D:o8)(f:Flow)(d:IJ):Prop:=
 match f with
 | .next=>∃a c,Inv X b a c d/\D.nx a c
 | .brk=>∃a c,Inv X b a c d/\D.bk a c
 | .cont=>∃a c,Inv X b a c d/\D.ct a c
 | .ret u=>∃v a c,Inv X b a c d/\RelV v u/\D.rt v c
def PE(X:Cx)(e:Expr)(t:TE):Prop:=
 ∀(a:List (Addr×Obj))(s:IJ)(σ:St)(H:Hp)(Q:VK),Inv X a σ H s->t σ H Q->wpAny (model X.prog X.w) X.A (eval e X.env) (EP X a σ Q) X.xe s
def PT(X:Cx)(e:Expr)(t:TT):Prop:=
 ∀(a:List (Addr×Obj))(s:IJ)(σ:St)(H:Hp)(Q:Bool->Hp->Prop),Inv X a σ H s->t σ H Q->wpAny (model X.prog X.w) X.A (isTrue e X.env (eval e X.env)) (TP X a σ Q) X.xe s
def PW(X:Cx)(e:Expr)(t:TT):Prop:=
 ∀(whole:Sem II)(a:List (Addr×Obj))(s:IJ)(σ:St)(H:Hp)(Q:Bool->Hp->Prop),Inv X a σ H s->t σ H Q->wpAny (model X.prog X.w) X.A (isTrue e X.env whole) (TP X a σ Q) X.xe s
def PW.pt(h:PW X e t):PT X e t:=h _
def PA(X:Cx)(es:List Expr)(t:TA):Prop:=
 ∀(b:Pos)(a:List (Addr×Obj))(s:IJ)(σ:St)(H:Hp)(Q:List V->Hp->Prop),Inv X a σ H s->t σ H Q->wpAny (model X.prog X.w) X.A (spliced (backTo b (starEach es X.env))) (AP X a σ Q) X.xe s
def PS(X:Cx)(st:Stmt)(t:TS):Prop:=
 ∀(a:List (Addr×Obj))(s:IJ)(σ:St)(H:Hp)(D:o8),Inv X a σ H s->t D σ H->wpAny (model X.prog X.w) X.A (exec st X.env) (SP X a D) X.xe s
def bP(X:Cx)(st:List Stmt)(t:TS):Prop:=
 ∀(a:List (Addr×Obj))(s:IJ)(σ:St)(H:Hp)(D:o8),Inv X a σ H s->t D σ H->wpAny (model X.prog X.w) X.A (execs st X.env) (SP X a D) X.xe s
def aB{b:Type}{t:Sem b}{Q c:b->IJ->Prop}{s:IJ}(h:wpAny M A t Q E s)(d:∀a s,Q a s->c a s):wpAny M A t c E s:=Jv h d λ_ _ x=>x
section
variable{X:Cx}
def fh(i:Nat):TE:=λa H Q=>∃v,a[i]?=some (some v)/\Q v H
def tC(v:V):TE:=λ_ H Q=>Q v H
def xa(o:X.N[i]?=some x)(p:iK X.env.scope x)(g:(x == ("__debug__" : Str))=false:=by decide)(j:(x == ("__classdict__" : Str))=false:=by decide):PE X (.Name x f) (fh i):=by
 intro d s q H Q I h;obtain⟨v,e,h⟩:=h;obtain⟨m,w,y⟩:=I.loc;obtain⟨u,r,l⟩:=y i x v o e p;have fin:EP X d q Q u s:=⟨v,H,I,r,h⟩;rcases l with⟨b,z⟩ | ⟨b,c,n,a⟩
 .exact wpAny_Name (wpAny_loadName_local I.ok.kind b w z fin) g
 .rcases b with b | b
  .exact wpAny_Name (wpAny_loadName_cell I.ok.kind b n a fin) g
  .exact wpAny_Name (wpAny_loadName_free I.ok.kind b n a fin j) g
def nW{i j a}:PE X (.Constant (.int i) j a) (tC (.int i)):=λ_ _ _ H _ I h=>wpAny_Constant_int ⟨.int i,H,I.tok _,⟨_,rfl⟩,h⟩
def xb{b j a}:PE X (.Constant (.bool b) j a) (tC (.bl b)):=λ_ _ _ H _ I h=>Constant_bool ⟨.bl b,H,I,rfl,h⟩
def xc{j a}:PE X (.Constant .none j a) (tC .non):=λ_ _ _ H _ I h=>OK ⟨.non,H,I,rfl,h⟩
def xf{x j a}:PE X (.Constant (.str x) j a) (tC (.str x)):=λ_ _ _ H _ I h=>Calls.Constant_str ⟨.str x,H,I.tok _,⟨_,rfl⟩,h⟩
def Gl(X:Cx)(x:Str):Prop:=X.env.kindOf x=some .globalImplicit
def o9(I:Inv X a σ H s)(c:Gl X x)(d:X.mg x=some u)(h:Q u s)
 (e:(x == ("__debug__" : Str))=false:=by decide):wpAny (model X.prog X.w) X.A (eval (.Name x b) X.env) Q E s:=
 NV I.ok.kind c (Calls.loadGlobal_global (by rw[I.ok.glob];exact I.mod.glob.keeps I.bk) d h) e
def T1(I:Inv X a σ H s)(c:Gl X x)(d:X.mg x=none)(e:bootBuiltins x=some u)(h:Q u s)
 (f:x≠"__name__":=by decide) (g:(x == ("__debug__" : Str))=false:=by decide):wpAny (model X.prog X.w) X.A (eval (.Name x b) X.env) Q E s:=by
 obtain⟨l,i,j⟩:=I.mod.blt;exact NV I.ok.kind c (Calls.loadGlobal_builtin (by rw[I.ok.glob];exact I.mod.glob.keeps I.bk) d (by rw[I.ok.blt];exact i.keeps I.bk) ((j x f).trans e) h) g
def nX(b:Gl X x)(c:X.mg x=some u)(r:RelV v u)(d:(x == ("__debug__" : Str))=false:=by decide):PE X (.Name x a) (tC v):=
 λ_ _ _ H _ I h=>o9 I b c ⟨v,H,I,r,h⟩ d
def rK(b:Gl X x)(c:X.mg x=none)(d:bootBuiltins x=some u)(r:RelV v u)(e:x≠"__name__":=by decide)(f:(x == ("__debug__" : Str))=false:=by decide):PE X (.Name x a) (tC v):=
 λ_ _ _ H _ I h=>T1 I b c d ⟨v,H,I,r,h⟩ e f
variable{a b:Expr}{ta tb:TE}{pos:Pos}
def PC(X:Cx)(f:Nc)(a b:Expr)(t:TE):Prop:=
 ∀(c:List (Addr×Obj))(s:IJ)(σ:St)(H:Hp)(Q:VK),Inv X c σ H s->t σ H Q->
  wpAny (model X.prog X.w) X.A (eval a X.env) (λv d=>wpAny (model X.prog X.w) X.A (eval b X.env) (λu e=>wpAny (model X.prog X.w) X.A (compareOp f v u) (EP X c σ Q) X.xe e) X.xe d) X.xe s
def nY(b:Expr)(h:c≠.In)(d:c≠.NotIn):behindInMarks c b=false:=by
 have e:(c == Nc.In)=false:=by cases c<;>first | rfl | exact absurd rfl h
 have f:(c == Nc.NotIn)=false:=by cases c<;>first | rfl | exact absurd rfl d
 cases b<;>simp[behindInMarks,e,f]
def xi(ta:TE):TE:=λc H Q=>ta c H λx d=>Q (.bl (decide (x=.non))) d
def xj(ta:TE):TE:=λc H Q=>ta c H λx d=>Q (.bl (!decide (x=.non))) d
def RelV.none_iff(r:RelV x v):(v == Ks)=decide (x=.non):=by
 cases x with
 | non=>cases r;rfl
 | bl _=>cases r;rfl
 | int _=>obtain⟨t,rfl⟩:=r;rfl
 | str _=>obtain⟨t,rfl⟩:=r;rfl
 | byt _=>obtain⟨t,rfl⟩:=r;rfl
 | flt _=>obtain⟨t,rfl⟩:=r;rfl
 | ref _=>cases r;rfl
 | ty _=>cases r;rfl
def rL{j c}(e:PE X a ta):PC X .Is a (.Constant .none j c) (xi ta):=by
 intro d s f H Q I h;refine aB (e d s f H _ I h) λv o g=>?_;obtain⟨x,i,l,m,n⟩:=g;exact OK (is_none_gen ⟨.bl _,i,l,by rw[m.none_iff];rfl,n⟩)
def xl{j c}(e:PE X a ta):PC X .IsNot a (.Constant .none j c) (xj ta):=by
 intro d s f H Q I h;refine aB (e d s f H _ I h) λv o g=>?_;obtain⟨x,i,l,m,n⟩:=g;exact OK (isnot_none_gen ⟨.bl _,i,l,by rw[m.none_iff];rfl,n⟩)
def tB(t:TE):TT:=λd H Q=>t d H λx e=>∃c,x=.bl c/\Q c e
def rM(h:PC X d a b t)(e:behindInMarks d b=false:=by first | exact nY _ (by decide) (by decide) | rfl):PE X (.Compare a [d] [b] pos) t:=λc s f H Q I g=>Qh (h c s f H Q I g) e
def mq(h:PC X f a b t)(g:behindInMarks f b=false:=by first | exact nY _ (by decide) (by decide) | rfl):PT X (.Compare a [f] [b] pos) (tB t):=by
 intro e s i H Q I j;refine Pz (aB (h e s i H _ I j) λv w g=>aB g λu y l=>aB l λc z m=>?_) g;obtain⟨x,n,o,p,r⟩:=m;obtain⟨d,rfl,q⟩:=r;cases p;exact KZ ⟨n,o,q⟩
def xm(h:PE X e t)(he:∀whole,isTrue e X.env whole=(do let v <-whole;standAt e.pos;holding [v] (truthy v)):=by intro _;rfl):PT X e (tB t):=by
 intro c s f H Q I g;refine isTrue_plain (aB (h c s f H _ I g) λv o i=>?_) (he _);obtain⟨x,j,l,m,n⟩:=i;obtain⟨d,rfl,q⟩:=n;cases m;exact KZ ⟨j,l,q⟩
variable{tA tB':TT}{rest:List Expr}
noncomputable def tAnd(t u:TT):TT:=λd H Q=>t d H λc e=>if c=true then u d e Q else Q false e
noncomputable def tOr(t u:TT):TT:=λd H Q=>t d H λc e=>if c=true then Q true e else u d e Q
noncomputable def tNot(t:TT):TT:=λd H Q=>t d H λc e=>Q (!c) e
def xn(f:PT X a tA):PW X (.BoolOp .And [a] pos) tA:=by
 intro i d s g H Q I h;refine isTrue_and (aB (f d s g H Q I h) λc j e=>?_);cases c with
 | true=>exact isTrue_and_nil e
 | false=>exact e
def xo(f:PT X a tA):PW X (.BoolOp .Or [a] pos) tA:=by
 intro i d s g H Q I h;refine isTrue_or (aB (f d s g H Q I h) λc j e=>?_);cases c with
 | false=>exact isTrue_or_nil e
 | true=>exact e
def xp(j:PT X a tA)(l:PW X (.BoolOp .And (b::rest) pos) tB'):PW X (.BoolOp .And (a::b::rest) pos) (tAnd tA tB'):=by
 intro m d s e H Q I h;refine isTrue_and (aB (j d s e H _ I h) λc n o=>?_);obtain⟨f,g,i⟩:=o;cases c with
 | true=>exact l m d n e f Q g i
 | false=>exact⟨f,g,i⟩
def xq(j:PT X a tA)(l:PW X (.BoolOp .Or (b::rest) pos) tB'):PW X (.BoolOp .Or (a::b::rest) pos) (tOr tA tB'):=by
 intro m d s e H Q I h;refine isTrue_or (aB (j d s e H _ I h) λc n o=>?_);obtain⟨f,g,i⟩:=o;cases c with
 | true=>exact⟨f,g,i⟩
 | false=>exact l m d n e f Q g i
def xu(e:PT X a tA):PT X (.UnaryOp .Not a pos) (tNot tA):=by
 intro d s f H Q I h;exact isTrue_not (Jv (e d s f H (λc g=>Q _ g) I h) (λ_ _ ⟨a,b,c⟩=>⟨a,b,c⟩) λ_ _ z=>z)
def xw(ta tb:TE):TE:=λd H Q=>ta d H λx e=>∃c,x=.bl c/\if c=true then tb d e Q else Q (.bl false) e
def xx(ta tb:TE):TE:=λd H Q=>ta d H λx e=>∃c,x=.bl c/\if c=true then Q (.bl true) e else tb d e Q
def xy(ta:TE):TE:=λd H Q=>ta d H λx e=>∃c,x=.bl c/\Q (.bl (!c)) e
def rN{d}(h:PE X a t):PE X (.BoolOp d [a] pos) t:=λc s e H Q I f=>BoolOp_one (h c s e H Q I f)
def xA(j:PE X a ta)(l:PE X (.BoolOp .And (b::rest) pos) tb):PE X (.BoolOp .And (a::b::rest) pos) (xw ta tb):=by
 intro d s f H Q I h;refine BoolOp_and (aB (j d s f H _ I h) λv m n=>?_);obtain⟨x,g,i,o,e⟩:=n;obtain⟨c,rfl,e⟩:=e;cases o;refine KZ ?_;cases c with
 | true=>exact l d m f g Q i e
 | false=>exact⟨.bl false,g,i,rfl,e⟩
def xB(j:PE X a ta)(l:PE X (.BoolOp .Or (b::rest) pos) tb):PE X (.BoolOp .Or (a::b::rest) pos) (xx ta tb):=by
 intro d s f H Q I h;refine BoolOp_or (aB (j d s f H _ I h) λv m n=>?_);obtain⟨x,g,i,o,e⟩:=n;obtain⟨c,rfl,e⟩:=e;cases o;refine KZ ?_;cases c with
 | false=>exact l d m f g Q i e
 | true=>exact⟨.bl true,g,i,rfl,e⟩
def xC(f:PE X a ta):PE X (.UnaryOp .Not a pos) (xy ta):=by
 intro d s g H Q I h;refine UnaryOp_ (aB (f d s g H _ I h) λv n i=>?_);obtain⟨x,j,l,m,e⟩:=i;obtain⟨c,rfl,e⟩:=e;cases m;exact not_of (KZ ⟨.bl _,j,l,rfl,e⟩)
def xD(t:TT)(ta tb:TE):TE:=λd H Q=>t d H λc e=>if c=true then ta d e Q else tb d e Q
def xE(m:PT X c tA)(n:PE X a ta)(o:PE X b tb):PE X (.IfExp c a b pos) (xD tA ta tb):=by
 intro e s f H Q I h;refine wpAny_IfExp (aB (m e s f H _ I h) λd g p=>?_);obtain⟨i,j,l⟩:=p;cases d with
 | true=>exact n e g f i Q j l
 | false=>exact o e g f i Q j l
end
def bu(K:IH)(H:Hp)(a:Addr)(c:List V):Prop:=
 Rd H a (.lst c)\/
  ∃(o:Obj)(b:Array II)(n:Nat),K.lookup a=some o/\o.cls=.type "list"/\o.dict=none/\o.data=.seq b n/\b.size<=sizeLine/\ay c b.toList
def cp(K:IH)(H:Hp)(a:Addr)(c:List V):Prop:=
 Rd H a (.tup c)\/
  ∃(o:Obj)(b:Array II)(n:Nat),K.lookup a=some o/\o.cls=.type "tuple"/\o.data=.seq b n/\b.size<=sizeLine/\ay c b.toList
noncomputable def xF:II->Option V
 | .none=>some .non
 | .bool b=>some (.bl b)
 | .int i _=>some (.int i)
 | .str x _=>some (.str x)
 | .bytes b _=>some (.byt b)
 | .float b _=>some (.flt b)
 | .ref a=>some (.ref a)
 | .type n=>some (.ty n)
 | _=>none
def RelV.abs(r:RelV x u):xF u=some x:=by
 cases x with
 | non=>cases r;rfl
 | bl _=>cases r;rfl
 | int _=>obtain⟨t,rfl⟩:=r;rfl
 | str _=>obtain⟨t,rfl⟩:=r;rfl
 | byt _=>obtain⟨t,rfl⟩:=r;rfl
 | flt _=>obtain⟨t,rfl⟩:=r;rfl
 | ref _=>cases r;rfl
 | ty _=>cases r;rfl
def RelV.inj(r:RelV x u)(q:RelV y u):x=y:=Jw (r.abs.symm.trans q.abs)
def ay.inj:∀{b a:List V}{c:List II},ay b c->ay a c->b=a:=by
 intro b a c h d;induction h generalizing a with
 | nil=>cases d;rfl
 | cons r _ ih=>
   cases d with
   | cons e f=>rw[r.inj e,ih f]
def bu.of{K:IH}(h:H a=some (.lst xs)):bu K H a xs:=.inl (.inl h)
def cp.of{K:IH}(h:H a=some (.tup xs)):cp K H a xs:=.inl (.inl h)
def Inv.list(I:Inv X pins σ H s)(h:bu X.K H a xs):∃b:List II,ay xs b/\PlainL s.heap a b.toArray/\xs.length<=sizeLine:=by
 rcases h with h | ⟨o,b,n,c,d,f,g,i,r⟩
 .obtain⟨z,b,n,r,e⟩:=h.ok I.hok;exact⟨b,r,⟨_,n,e,rfl,rfl,rfl⟩,z⟩
 .refine⟨b.toList,r,⟨o,n,I.kIn a o c,d,f,by simpa using g⟩,?_⟩;have e:=r.length;simp only[L0]at e;walk_at "o"
def Inv.tuple(I:Inv X pins σ H s)(h:cp X.K H a xs):∃b:List II,ay xs b/\Ra s.heap a b.toArray/\xs.length<=sizeLine:=by
 rcases h with h | ⟨o,b,n,c,d,f,g,r⟩
 .obtain⟨z,b,r,p⟩:=h.ok I.hok;exact⟨b,r,p,z⟩
 .refine⟨b.toList,r,⟨o,I.kIn a o c,d,n,by simpa using f⟩,?_⟩;have e:=r.length;simp only[L0]at e;walk_at "o"
def Inv.list_inj(I:Inv X pins σ H s)(h:bu X.K H a xs)(h':bu X.K H a ys):xs=ys:=by
 obtain⟨c,r,⟨o,n,e,_,_,d⟩,_⟩:=I.list h;obtain⟨b,i,⟨l,m,f,_,_,g⟩,_⟩:=I.list h';rw[e]at f;cases f;rw[d]at g;injection g with j _;have:c=b:=by simpa using congrArg Array.toList j
 subst this;exact r.inj i
def Inv.tuple_inj(I:Inv X pins σ H s)(h:cp X.K H a xs)(h':cp X.K H a ys):xs=ys:=by
 obtain⟨c,r,⟨o,e,_,n,d⟩,_⟩:=I.tuple h;obtain⟨b,i,⟨l,f,_,m,g⟩,_⟩:=I.tuple h';rw[e]at f;cases f;rw[d]at g;injection g with j _;have:c=b:=by simpa using congrArg Array.toList j
 subst this;exact r.inj i
abbrev Cx.wish(X:Cx)(E:II->IJ->Prop):Cx:={ X with xe:=E }
abbrev Cx.nox(X:Cx):Cx:=X.wish λ_ _=>False
def Cx.Ok.wish{X:Cx}(ok:X.Ok)(E:II->IJ->Prop):(X.wish E).Ok:=
 ⟨ok.mod,ok.kind,ok.glob,ok.blt,ok.above,ok.inj,ok.has,ok.cab,ok.hd,ok.frames,ok.stk,ok.exf,ok.bs,ok.bsz,ok.noex,ok.exfs,ok.funs,ok.frf⟩
def Cx.Ok.unwish{X:Cx}(ok:(X.wish E).Ok):X.Ok:=
 ⟨ok.mod,ok.kind,ok.glob,ok.blt,ok.above,ok.inj,ok.has,ok.cab,ok.hd,ok.frames,ok.stk,ok.exf,ok.bs,ok.bsz,ok.noex,ok.exfs,ok.funs,ok.frf⟩
def Inv.wish(I:Inv X pins σ H s)(E:II->IJ->Prop):Inv (X.wish E) pins σ H s:=⟨I.ok.wish E,I.os,I.bare,I.base,I.loc,I.cell,I.free,I.freeC,I.pin,I.hok,I.len⟩
def Inv.unwish(I:Inv (X.wish E) pins σ H s):Inv X pins σ H s:=⟨I.ok.unwish,I.os,I.bare,I.base,I.loc,I.cell,I.free,I.freeC,I.pin,I.hok,I.len⟩
def SP.unwish(h:SP (X.wish E) pins D f c):SP X pins D f c:=by
 cases f with
 | next=>obtain⟨a,b,I,q⟩:=h;exact⟨a,b,I.unwish,q⟩
 | brk=>obtain⟨a,b,I,q⟩:=h;exact⟨a,b,I.unwish,q⟩
 | cont=>obtain⟨a,b,I,q⟩:=h;exact⟨a,b,I.unwish,q⟩
 | ret u=>obtain⟨v,a,b,I,r,q⟩:=h;exact⟨v,a,b,I.unwish,r,q⟩
def PT.nox(h:PT X.nox e t):PT X e t:=λpins s σ H Q I a=>
 Jv (h pins s σ H Q (I.wish _) a) (λ_ _ ⟨b,c,q⟩=>⟨b,c.unwish,q⟩) λ_ _ z=>Jl z
def bP.nox{st:List Stmt}(h:bP X.nox st t):bP X st t:=λpins s σ H D I a=>
 Jv (h pins s σ H D (I.wish _) a) (λ_ _ q=>q.unwish) λ_ _ z=>Jl z
section
variable{X:Cx}{st:Stmt}{rest:List Stmt}{t u:TS}{e:Expr}{te:TE}{pos:Pos}
def tNext:TS:=λD a H=>D.nx a H
def xG(t u:TS):TS:=λD a H=>t { D with nx:=u D } a H
def xH:bP X [] tNext:=λ_ _ a H _ I h=>LK ⟨a,H,I,h⟩
def rO(c:PS X st t)(d:bP X rest u):bP X (st::rest) (xG t u):=by
 intro a s g H D I h;refine Pd (aB (c a s g H { D with nx:=u D } I h) λf i q=>?_);cases f with
 | next=>
   obtain⟨b,j,l,q⟩:=q;exact d a i b j D l q
 | ret v=>exact q
 | brk=>exact q
 | cont=>exact q
def mr(b:PS X st t):bP X [st] t:=by
 intro a s c H D I h;refine Pd (aB (b a s c H D I h) λf d q=>?_);cases f with
 | next=>exact LK q
 | ret v=>exact q
 | brk=>exact q
 | cont=>exact q
def Inv.quiet(I:Inv X a σ H s):interactive X.env=false:=by simp[interactive,I.ok.kind]
def xI(te:TE):TS:=λD a H=>te a H λ_ b=>D.nx a b
def rP(he:PE X e te)(hs:swapsWith e none pos.line X.env=pure false:=by rfl):PS X (.Expr e pos) (xI te):=by
 intro a s b H D I h;exact wpAny_Expr_any (aB (he a s b H _ I h) λv g ⟨x,c,d,i,f⟩=>⟨b,c,d,f⟩) I.quiet hs
def xJ(te:TE):TS:=λD a H=>te a H D.rt
def xK(he:PE X e te):PS X (.Return (some e) pos) (xJ te):=by
 intro a s b H D I h;exact wpAny_Return_some (aB (he a s b H _ I h) λv i ⟨x,c,d,f,g⟩=>⟨x,b,c,d,f,g⟩)
def xM(c:TT)(t u:TS):TS:=λD a H=>c a H λb d=>if b=true then t D a d else u D a d
def rQ(o:PT X c i)(p:bP X a t)(q:bP X b u):PS X (.If c a b pos) (xM i t u):=by
 intro f s g H D I h;refine wpAny_If (aB (o f s g H _ I h) λd j r=>?_);obtain⟨l,m,n⟩:=r;cases d with
 | true=>exact p f j g l D m n
 | false=>exact q f j g l D m n
def tNever:TS:=λ_ _ _=>False
def xN:PS X st tNever:=λ_ _ _ _ _ _ h=>h.elim
end
abbrev TG:=V->St->Hp->(St->Hp->Prop)->Prop
abbrev TGs:=List V->St->Hp->(St->Hp->Prop)->Prop
def PG(X:Cx)(a:Expr)(t:TG):Prop:=
 ∀(b:List (Addr×Obj))(s:IJ)(σ:St)(H:Hp)(v:V)(u:II)(Q:St->Hp->Prop),Inv X b σ H s->RelV v u->t v σ H Q->
  wpAny (model X.prog X.w) X.A (assign a X.env u) (λ_ e=>∃c d,Inv X b c d e/\Q c d) X.xe s
def eZ(X:Cx)(e:List Expr)(t:TGs):Prop:=
 ∀(a:List (Addr×Obj))(s:IJ)(σ:St)(H:Hp)(vs:List V)(c:List II)(Q:St->Hp->Prop),Inv X a σ H s->ay vs c->t vs σ H Q->
  wpAny (model X.prog X.w) X.A (assignInOrder ((assignEach e X.env).map (·.2)) c) (λ_ f=>∃b d,Inv X a b d f/\Q b d) X.xe s
section
variable{X:Cx}{pos:Pos}
noncomputable def gName(i:Nat):TG:=λv a H Q=>Q (a.set i (some v)) H
def gm(b:X.N.Nodup)(c:X.N[i]?=some x)(d:Loc X.env.scope x)(e:X.fn x=true\/X.env.scope.names.lookup x=some .local:=by first | exact .inl rfl | exact .inr rfl | assumption):PG X (.Name x pos) (gName i):=by
 intro a s g H v u Q I r h;exact wpAny_assign_Name (S3 I b c d r (λj f=>⟨_,H,f,h⟩) e)
noncomputable def gNil:TGs:=λa b H Q=>a=[]/\Q b H
noncomputable def gCons(t:TG)(u:TGs):TGs:=λb c H Q=>∃v r,b=v::r/\t v c H λa d=>u r a d Q
def xP:eZ X [] gNil:=by
 intro a s b H c d Q I r h;obtain⟨e,h⟩:=h;subst e;exact assignInOrder_nil ⟨b,H,I,h⟩
def xQ(c:PG X e t)(d:eZ X es u)
 (hs:(assignEach (e::es) X.env).map (·.2)=assign e X.env::(assignEach es X.env).map (·.2):=by rfl):eZ X (e::es) (gCons t u):=by
 intro a s f H p q Q I r h;obtain⟨v,w,g,h⟩:=h;subst g;cases r with
 | cons r i=>
   rw[hs];refine MD (aB (c a s f H _ _ _ I r h) λ_ j l=>?_);obtain⟨b,m,n,o⟩:=l;exact d a j b m _ _ Q n i o
def gTup(K:IH)(n:Nat)(t:TGs):TG:=λv c H Q=>∃a b,v=.ref a/\cp K H a b/\b.length=n/\t b c H Q
def xR(i:X.calm=true)(h:eZ X es t)
 (j:(assignEach es X.env).length=n:=by rfl) (d:(assignEach es X.env).findIdx? (·.1)=none:=by rfl):PG X (.Tuple es k pos) (gTup X.K n t):=by
 intro c s l H v u Q I r f;obtain⟨a,m,p,q,w,f⟩:=f;subst p;cases r;obtain⟨x,g,y,B⟩:=I.tuple q;refine assign_Tuple_tuple (I.ok.hd i) y (by simp[j,<-w,g.length]) d λC z=>?_;have A:=I.kept (t':=s.toks) λb o e=>z b o (IY (IQ e)) e;exact h c _ l H m _ Q A (by simpa using g) f
def nZ(b:TE)(g:TG):TS:=λD a H=>b a H λx c=>g x a c D.nx
def xS(he:PE X e c)(f:PG X b g)(hs:swapsWithSole [b] e pos.line X.env=pure false:=by rfl)(i:swappedStores [b] e X.env=pure none:=by rfl)
 (j:(assignEach [b] X.env).map (·.2)=[assign b X.env]:=by rfl):PS X (.Assign [b] e pos) (nZ c g):=by
 intro a s d H D I h;refine wpAny_Assign_stores (aB (he a s d H _ I h) λv l m=>?_) hs i;obtain⟨x,n,o,p,r⟩:=m;rw[j];exact aB (f a l d n x v _ o p r) λ_ u q=>q
def xT(d:X.N.Nodup)(f:X.N[i]?=some x)(g:Loc X.env.scope x)(he:PE X e c)(hs:swapsWith e (some (.Name x a)) pos.line X.env=pure false:=by rfl)(j:X.fn x=true\/X.env.scope.names.lookup x=some .local:=by first | exact .inl rfl | exact .inr rfl | assumption) :
 PS X (.Assign [.Name x a] e pos) (nZ c (gName i)):=by
 intro b s l H D I h;refine wpAny_Assign_Name (aB (he b s l H _ I h) λv u m=>?_) hs;obtain⟨y,n,o,p,q⟩:=m;exact S3 o d f g p (λw r=>⟨_,n,r,q⟩) j
def xU(c:TT)(h:TS):TS:=λD a H=>∃W:Nat->St->Hp->Prop,(∃m,W m a H)/\∀m a H,W m a H->
 c a H λb e=>if b=true then ∃N:St->Hp->Prop,(∀d f,N d f->∃g,g<m/\W g d f)/\h { D with nx:=N,ct:=N,bk:=D.nx } a e else D.nx a e
def xV(B:PB (model X.prog X.w) X.A X.env X.xe)(O:PT X c y)(Q:bP X g z):PS X (.While c g [] pos) (xU y z):=by
 intro a s T H D I h;obtain⟨W,⟨U,Y⟩,i⟩:=h;refine wpAny_While (codeAny_whileLoop (λn s'=>∃j C,Inv X a j C s'/\W n j C) ?_ U ⟨T,H,I,Y⟩);rintro n s1 ⟨e,E,I1,w1⟩;refine Km B (aB (O a s1 e E _ I1 (i n e E w1)) λb s2 zq=>?_);obtain⟨G,J,m⟩:=zq;cases b with
 | true=>
   obtain⟨N,L,m⟩:=m;refine Km B (aB (Q a s2 e G _ J m) λf s3 o=>?_);cases f with
   | next=>
     obtain⟨d,l,p,q⟩:=o;obtain⟨r,u,x⟩:=L d l q;exact⟨r,u,d,l,p,x⟩
   | cont=>
     obtain⟨d,l,p,q⟩:=o;obtain⟨r,u,x⟩:=L d l q;exact⟨r,u,d,l,p,x⟩
   | brk=>exact o
   | ret v=>exact o
 | false=>
   exact LK ⟨e,G,J,m⟩
end
structure It where
 go:Nat->Hp->Prop
 yld:Nat->Hp->V->Hp->Prop
 stop:Nat->Hp->Prop
def Z3(X:Cx)(a:List (Addr×Obj))(H:Hp)(b:Addr):Prop:=
 H b=none/\b≠X.env.locals/\b∉X.fs/\(b∈X.ex\/X.s₀.heap.objs.size<=b)/\(∀x c,X.env.cells.lookup x=some c->c≠b)/\∀p∈X.pn++a,p.1≠b
def Inv.fpOk(I:Inv X a σ H s)(d:s.heap.objs.size<=b)(f:H' b=none):Z3 X a H' b:=by
 refine⟨f,KU (Jc I.lt d),I.nofs d,.inr (Jt I.sz d),λx c e z=>?_,λp g z=>?_⟩
 .obtain⟨v,q⟩:=I.cell x c e;exact absurd (Jc q.lt (by rw[z];exact d)) (Ld _)
 .exact absurd (Jc (IQ (I.pin p g).1) (by rw[z];exact d)) (Ld _)
structure iL(P:Jg)(w:JJ)(K:IH)(tg:Expr)(J:It)(fp:List Addr)(it:Addr)(tn:Nat->Heap->Prop):Prop where
 mem:it∈fp
 obj:∀i h,tn i h->∀b∈fp,∃o,h.get? b=some o/\∀v,o.data≠.cell v
 keep:∀i h h',tn i h->(∀b∈fp,∀o,h.get? b=some o->h'.get? b=some o)->tn i h'
 item:∀(X:Cx),X.prog=P->X.w=w->X.K=K->X.calm=true->∀(i:Nat)(pins:List (Addr×Obj))(s:IJ)(σ:St)(H:Hp)(E:II->IJ->Prop),Inv X pins σ H s->(∀b∈fp,Z3 X pins H b)->tn i s.heap->J.go i H->
  wpAny (model P w) X.A (pyNext (.ref it)) (λr s1=>∃u,r=some u/\
   wpAny (model P w) X.A (letOwnedTupleGo tg (.ref it) u) (λ_ s2=>∃x H',Inv X pins σ H' s2/\RelV x u/\J.yld i H x H'/\tn (i+1) s2.heap/\∀b∈fp,H' b=none) E s1) E s
 done:∀(X:Cx),X.prog=P->X.w=w->X.K=K->X.calm=true->∀(i:Nat)(pins:List (Addr×Obj))(s:IJ)(σ:St)(H:Hp)(E:II->IJ->Prop),Inv X pins σ H s->(∀b∈fp,Z3 X pins H b)->tn i s.heap->J.stop i H->
  wpAny (model P w) X.A (pyNext (.ref it)) (λr s1=>r=none/\Inv X pins σ H s1) E s
 self:∀(A:JI)(i:Nat)(s:IJ)(Q:II->IJ->Prop)(E:II->IJ->Prop),tn i s.heap->Q (.ref it) s->wpAny (model P w) A (pyIter (.ref it)) Q E s
abbrev TI:=St->Hp->(It->Hp->Prop)->Prop
inductive oa (X:Cx) (pins:List (Addr×Obj)) (σ:St) (tg:Expr) (R:It->Hp->Prop) (itv:II) (s2:IJ):Prop
 | mk (it:Addr) (fp:List Addr) (tn:Nat->Heap->Prop) (J:It) (H':Hp) (h0:itv=.ref it) (h1:Inv X pins σ H' s2) (h2:iL X.prog X.w X.K tg J fp it tn) (h3:tn 0 s2.heap) (h4:(∀b∈fp,Z3 X pins H' b)) (h5:R J H'):oa X pins σ tg R itv s2
def PI(X:Cx)(b iter:Expr)(c:TI):Prop:=
 ∀(a:List (Addr×Obj))(s:IJ)(σ:St)(H:Hp)(R:It->Hp->Prop),Inv X a σ H s->c σ H R->
  wpAny (model X.prog X.w) X.A (eval iter X.env) (λv d=>wpAny (model X.prog X.w) X.A (pyIter v) (oa X a σ b R) X.xe d) X.xe s
def og(d:s.heap.get? c=some o)(e:o.cls=.type n)(f:o.data=.fields vs)
 (g:["enumerate","zip","dict_itemiterator","dict_reverseitemiterator","odict_iterator","itertools.zip_longest","itertools.pairwise"].contains n=false) (a:Q () s):wpAny M A (letOwnedTupleGo b (.ref c) u) Q E s:=by
 cases b<;>first
  | exact IG a
  | (cases u<;>first
   | exact IG a
   | (refine IE (wpAny_load d ?_)
      rw[e,f];show wpAny M A (if _=true then _ else _) Q E s;rw[if_neg (by intro h;rw[g]at h;cases h)];exact IG a))
noncomputable def mu(K:IH)(a:Addr):It:=
 ⟨λi H=>∃b x,bu K H a b/\b[i]?=some x,λi H x c=>c=H/\∀b,bu K H a b->b[i]?=some x,λi H=>∃b,bu K H a b/\b.length<=i⟩
noncomputable def mv(K:IH)(a:Addr):It:=
 ⟨λi H=>∃b x,cp K H a b/\b[i]?=some x,λi H x c=>c=H/\∀b,cp K H a b->b[i]?=some x,λi H=>∃b,cp K H a b/\b.length<=i⟩
noncomputable def mw(lo:Int)(n:Nat):It:=⟨λi _=>i<n,λi H x a=>a=H/\x=.int (lo+i),λi _=>n<=i⟩
def rR{K:IH}(a it:Addr):iL P w K tg (mu K a) [it] it (λi h=>h.IsListIter it a i) where
 mem:=by simp
 obj:=λi h st b hb=>by
  have e:b=it:=by simpa using hb
  subst e;obtain⟨o,e,c,d⟩:=st;exact⟨o,e,λv z=>by rw[d]at z;cases z⟩
 keep:=λi h h' st k=>st.at λo e=>k it (by simp) o e
 item:=by
  intro X hP hw hK hc i pins s σ H E I hf st hg;subst hP hw hK;obtain⟨xs,x,hq,hx⟩:=hg;obtain⟨its,rv,p,hz⟩:=I.list hq;obtain⟨u,hu,ru⟩:=rv.get hx;obtain⟨f0,f1,f2,f3,f4,f5⟩:=hf it (by simp);refine wpAny_pyNext_list_item st p.isList (by simpa using hu) λh' st' sb=>?_;have I1:Inv X pins σ H { s with heap:=h' }:=I.turned (λb o hb e=>(sb.2 b hb).trans e) f0 f1 f3 f4 f5;obtain⟨o,e,c,d⟩:=id st';exact⟨u,rfl,og e c d rfl ⟨x,H,I1,ru,⟨rfl,λys hy=>by rw[I.list_inj hy hq];exact hx⟩,st',λb hb=>(hf b hb).1⟩⟩
 done:=by
  intro X hP hw hK hc i pins s σ H E I hf st hg;subst hP hw hK;obtain⟨xs,hq,hx⟩:=hg;obtain⟨its,rv,p,hz⟩:=I.list hq;obtain⟨f0,f1,f2,f3,f4,f5⟩:=hf it (by simp);have hl:=rv.length;exact wpAny_pyNext_list_end (I.ok.hd hc) st p.isList (by simp;walk_at "o") λh' eb=>⟨rfl,I.turned (λb o hb e=>eb b o hb e) f0 f1 f3 f4 f5⟩
 self:=λ_ _ _ _ _ st h=>wpAny_pyIter_listiter st h
def rS{K:IH}(a it:Addr):iL P w K tg (mv K a) [it] it (λi h=>h.IsTupleIter it a i) where
 mem:=by simp
 obj:=λi h st b hb=>by
  have e:b=it:=by simpa using hb
  subst e;obtain⟨o,e,c,d⟩:=st;exact⟨o,e,λv z=>by rw[d]at z;cases z⟩
 keep:=λi h h' st k=>st.at λo e=>k it (by simp) o e
 item:=by
  intro X hP hw hK hc i pins s σ H E I hf st hg;subst hP hw hK;obtain⟨xs,x,hq,hx⟩:=hg;obtain⟨its,rv,p,hz⟩:=I.tuple hq;obtain⟨u,hu,ru⟩:=rv.get hx;obtain⟨f0,f1,f2,f3,f4,f5⟩:=hf it (by simp);refine wpAny_pyNext_tuple_item st (show s.heap.IsTuple a _ from p) (by simpa using hu) λh' st' sb=>?_;have I1:=I.turned (t':=s.toks) (λb o hb e=>(sb.2 b hb).trans e) f0 f1 f3 f4 f5;obtain⟨o,e,c,d⟩:=id st';exact⟨u,rfl,og e c d rfl ⟨x,H,I1,ru,⟨rfl,λys hy=>by rw[I.tuple_inj hy hq];exact hx⟩,st',λb hb=>(hf b hb).1⟩⟩
 done:=by
  intro X hP hw hK hc i pins s σ H E I hf st hg;subst hP hw hK;obtain⟨xs,hq,hx⟩:=hg;obtain⟨its,rv,p,hz⟩:=I.tuple hq;obtain⟨f0,f1,f2,f3,f4,f5⟩:=hf it (by simp);have hl:=rv.length;exact wpAny_pyNext_tuple_end (I.ok.hd hc) st (show s.heap.IsTuple a _ from p) (by simp;walk_at "o") λh' eb=>⟨rfl,I.turned (λb o hb e=>eb b o hb e) f0 f1 f3 f4 f5⟩
 self:=λ_ _ _ _ _ st h=>wpAny_pyIter_tupleiter st h
def xW{K:IH}(it:Addr)(lo:Int)(n:Nat):iL P w K tg (mw lo n) [it] it (λi h=>IsRangeIter h it (lo+(i:Nat)*1) ((n:Int) - (i:Nat)) 1) where
 mem:=by simp
 obj:=λi h st b hb=>by
  have e:b=it:=by simpa using hb
  subst e;exact⟨_,st,λv z=>by
   have z':=z;cases z'⟩
 keep:=λi h h' st k=>k it (by simp) _ st
 item:=by
  intro X hP hw hK hc i pins s σ H E I hf st hg;subst hP hw hK;obtain⟨f0,f1,f2,f3,f4,f5⟩:=hf it (by simp);have W:=Walks.range (prog:=X.prog) (w:=X.w) (I.ok.hd hc) it lo 1 n;refine W.item i s _ _ hg st λv h' tk hv st' kk=>?_;obtain⟨t,rfl⟩:=hv;have I1:Inv X pins σ H { s with heap:=h',toks:=tk }:=I.turned (λb o hb e=>kk b o (by simpa using hb) e) f0 f1 f3 f4 f5;refine⟨_,rfl,og st' rfl rfl rfl ⟨.int _,H,I1,⟨t,?_⟩,⟨rfl,rfl⟩,st',λb hb=>(hf b hb).1⟩⟩;rw[Int.mul_one]
 done:=by
  intro X hP hw hK hc i pins s σ H E I hf st hg;obtain⟨f0,f1,f2,f3,f4,f5⟩:=hf it (by simp);exact wpAny_pyNext_range_end (I.ok.hd hc) st (by have:n<=i:=hg;walk_at "o") λh' eb=>⟨rfl,I.turned (λb o hb e=>eb b o hb e) f0 f1 f3 f4 f5⟩
 self:=λ_ _ _ _ _ st h=>wpAny_pyIter_rangeiter st h
section
variable{X:Cx}{tg:Expr}
def xX(K:IH)(c:TE):TI:=λd H R=>c d H λx b=>∃a,x=.ref a/\(∃e,bu K b a e)/\R (mu K a) b
def xY(K:IH)(c:TE):TI:=λd H R=>c d H λx b=>∃a,x=.ref a/\(∃e,cp K b a e)/\R (mv K a) b
def Ib(i:PE X l g):PI X tg l (xX X.K g):=by
 intro c s j H R I h;refine aB (i c s j H _ I h) λv f m=>?_;obtain⟨x,n,d,r,u⟩:=m;obtain⟨a,e,⟨A,w⟩,q⟩:=u;subst e;cases r;obtain⟨y,B,p,C⟩:=d.list w;refine Mh p.isList ?_;refine⟨f.heap.objs.size,[f.heap.objs.size],_,_,n,rfl,d.kept (t':=_) λb o e=>IF _ e,rR a _,⟨_,IP _ rfl,rfl,rfl⟩,λb z=>?_,q⟩;have e:b=f.heap.objs.size:=by simpa using z
 subst e;exact d.fpOk (IM _) (d.hok.fresh (IM _))
def Ic(i:PE X l g):PI X tg l (xY X.K g):=by
 intro c s j H R I h;refine aB (i c s j H _ I h) λv d m=>?_;obtain⟨x,n,f,r,u⟩:=m;obtain⟨a,e,⟨A,w⟩,q⟩:=u;subst e;cases r;obtain⟨y,B,p,C⟩:=f.tuple w;refine Ma (show d.heap.IsTuple a _ from p) ?_;refine⟨d.heap.objs.size,[d.heap.objs.size],_,_,n,rfl,f.kept (t':=_) λb o e=>IF _ e,rS a _,⟨_,IP _ rfl,rfl,rfl⟩,λb z=>?_,q⟩;have e:b=d.heap.objs.size:=by simpa using z
 subst e;exact f.fpOk (IM _) (f.hok.fresh (IM _))
def xZ{s:IJ}{R:It->Hp->Prop}{E:II->IJ->Prop}{lo d:Int}{t u v:Tok}{i:Nat}(I:Inv X c σ H s)(j : -(2 ^ 62)<=lo)(l:lo<2 ^ 62)(m : -(2 ^ 62)<=d)(n:d<2 ^ 62)
 (q:R (mw lo (d - lo).toNat) H):wpAny (model X.prog X.w) X.A (pyIter (.ref s.heap.objs.size)) (oa X c σ tg R) E { s with heap:=s.heap.push { cls:=.type "range",data:=.fields #[.int lo t,.int d u,.int 1 v] },toks:=i }:=by
 refine wpAny_pyIter_range (IsRange.new ..) (small_one j l m n) ?_;have h:Inv X c σ H { s with heap:=s.heap.push { cls:=.type "range",data:=.fields #[.int lo t,.int d u,.int 1 v] },toks:=i }:=I.kept λb o e=>IF _ e;refine⟨(s.heap.push { cls:=.type "range",data:=.fields #[.int lo t,.int d u,.int 1 v] }).objs.size,[(s.heap.push { cls:=.type "range",data:=.fields #[.int lo t,.int d u,.int 1 v] }).objs.size],_,_,H,rfl,
  h.kept λb o e=>IF _ e,xW _ lo (d - lo).toNat,?_,λb p=>?_,q⟩
 .have r:lo+((0:Nat))*1=lo:=by simp
  have x:(((d - lo).toNat)) - ((0:Nat))=KI.Range.rangeSize lo d 1:=by rw[rangeSize_one];split<;>walk_at "o"
  rw[r,x];exact IP _ rfl
 .have e:b=(s.heap.push { cls:=.type "range",data:=.fields #[.int lo t,.int d u,.int 1 v] }).objs.size:=by simpa using p
  subst e;exact h.fpOk (IM _) (h.hok.fresh (IM _))
def iRng1(a:TA):TI:=λb H R=>a b H λc d=>∃j:Int,c=[.int j]/\-(2 ^ 62)<=j/\j<2 ^ 62/\R (mw 0 j.toNat) d
def ya(g:Gl X "range")(i:X.mg "range" = none)(l:PA X [a] f)(hs:starEach [a] X.env=[(false,eval a X.env)]:=by rfl):PI X tg (.Call (.Name "range" p) [a] [] b) (iRng1 f):=by
 intro c s m H R I h;refine Ri (T1 I g i boot_range (Ls (aB (l b c s m H _ I h) λx y n=>?_) hs rfl));obtain⟨z,A,o,u,d⟩:=n;obtain⟨j,e,d,v,q⟩:=d;subst e;cases u with
 | cons r w=>
   cases w;obtain⟨t,rfl⟩:=r;exact call_range_1 (xZ o (by simp) (by simp) d v (by simpa using q))
def yb(f:TI)(g:TG)(h:TS):TS:=λD a H=>f a H λJ j=>∃W:Nat->Nat->St->Hp->Prop,(∃m,W 0 m a j)/\∀i m a H,W i m a H->
 (J.stop i H/\D.nx a H)\/(J.go i H/\∃N:St->Hp->Prop,(∀b c,N b c->∃e,e<m/\W (i+1) e b c)/\∀x c,J.yld i H x c->g x a c λd l=>h { D with nx:=N,ct:=N,bk:=D.nx } d l)
noncomputable def kN(fp:List Addr)(h:Heap):List (Addr×Obj):=fp.filterMap λb=>(h.get? b).map λo=>(b,o)
def Q3(a:b∈fp)(e:h.get? b=some o):(b,o)∈kN fp h:=List.mem_filterMap.mpr ⟨b,a,by rw[e];rfl⟩
def yc(a:p∈kN fp h):p.1∈fp/\h.get? p.1=some p.2:=by
 obtain⟨b,c,e⟩:=List.mem_filterMap.mp a;cases q:h.get? b with
 | none=>rw[q]at e;cases e
 | some o=>
   rw[q]at e;have d:=Jw e;subst d;exact⟨c,q⟩
def Inv.pinned(I:Inv X a σ H s)(g:∀b∈fp,Z3 X a H b)(h:∀b∈fp,∃o,s.heap.get? b=some o/\∀v,o.data≠.cell v):Inv X (a++kN fp s.heap) σ H s:=
 I.pins_of λp i=>(Jx.mp i).elim (λz=>I.pin p (Jr _ z)) λz=>by
  obtain⟨c,e⟩:=yc z;obtain⟨j,l,m,_⟩:=g p.1 c;obtain⟨o,f,d⟩:=h p.1 c;rw[e]at f;cases f;exact⟨e,j,l,m,d⟩
def Inv.unpinned(I:Inv X (a++b) σ H s):Inv X a σ H s:=I.pins_of λp c=>I.pin p (Jr _ (KR _ c))
def yd(L:PB (model X.prog X.w) X.A X.env X.xe)(hc:X.calm=true)(hi:PI X tg iter wi)(hg:PG X tg g)(j:bP X B tb)
 (hs:∀x,foldedSetIterable iter X.env x=pure x:=by intro _;rfl):PS X (.For tg iter B [] a3) (yb wi g tb):=by
 intro c s σ H D I h;refine wpAny_For (aB (hi c s σ H _ I h) λv s1 h1=>aB h1 λe1 s2 h2=>?_) hs;obtain⟨it,fp,tn,J,H2,e,I2,T,a4,f2,W,⟨m0,w0⟩,O⟩:=h2;subst e;have l:∀{H':Hp},(∀b∈fp,H' b=none)->∀b∈fp,Z3 X c H' b:=λhn b j=>⟨hn b j,(f2 b j).2⟩;refine Qn (λn s'=>∃i p H',Inv X c p H' s'/\tn i s'.heap/\(∀b∈fp,H' b=none)/\W i n p H') ?_ m0 ⟨0,σ,H2,I2,a4,λb j=>(f2 b j).1,w0⟩;rintro n s3 ⟨i,q,H3,I3,Q,U,w3⟩;rcases O i n q H3 w3 with⟨Y,qn⟩ | ⟨go,N,hN,step⟩
 .refine Km L (aB (T.done X rfl rfl rfl hc i c s3 q H3 X.xe I3 (l U) Q Y) λr s4 E=>?_);obtain⟨hr,I4⟩:=E;subst hr;exact LK ⟨q,H3,I4,qn⟩
 .refine Km L (aB (T.item X rfl rfl rfl hc i c s3 q H3 X.xe I3 (l U) Q go) λr s4 E=>?_);obtain⟨u,hr,h4⟩:=E;subst hr;refine Km L (aB h4 λ_ s5 E=>?_);obtain⟨x,H5,I5,r5,y5,G,a6⟩:=E;have a7:=I5.pinned (l a6) (T.obj _ _ G);refine Km L (aB (hg _ s5 q H5 x u _ a7 r5 (step x H5 y5)) λ_ s6 E=>?_);obtain⟨a8,H6,I6,q6⟩:=E;refine Km L (aB (j _ s6 a8 H6 _ I6 q6) λf s7 C=>?_);have again:∀{a:St}{y:Hp},Inv X _ a y s7->N a y->∃m,m<n/\∃i p H',Inv X c p H' s7/\tn i _/\(∀b∈fp,H' b=none)/\W i m p H':=λ{a y} z n7=>by
   obtain⟨m',hm,w7⟩:=hN a y n7;refine⟨m',hm,i+1,a,y,z.unpinned,T.keep _ _ _ G λb j o e=>(z.pin _ (Jr _ (Jr _ (Q3 j e)))).1,λb j=>?_,w7⟩;obtain⟨o,e,d⟩:=T.obj _ _ G b j;exact(z.pin _ (Jr _ (Jr _ (Q3 j e)))).2.1
  cases f with
  | next=>obtain⟨a,y,z,n7⟩:=C;exact again z n7
  | cont=>obtain⟨a,y,z,n7⟩:=C;exact again z n7
  | brk=>obtain⟨a,y,z,C⟩:=C;exact⟨a,y,z.unpinned,C⟩
  | ret v=>obtain⟨x7,a,y,z,r7,C⟩:=C;exact⟨x7,a,y,z.unpinned,r7,C⟩
end
abbrev R2:=V->V->Hp->VK->Prop
def bQ(X:Cx)(f:II->II->Sem II)(r:R2):Prop:=
 ∀(a:List (Addr×Obj))(s:IJ)(σ:St)(H:Hp)(x y:V)(v u:II)(Q:VK),Inv X a σ H s->RelV x v->RelV y u->r x y H Q->
  wpAny (model X.prog X.w) X.A (f v u) (EP X a σ Q) X.xe s
def oi(X:Cx)(f:II->Sem II)(r:V->Hp->VK->Prop):Prop:=
 ∀(a:List (Addr×Obj))(s:IJ)(σ:St)(H:Hp)(x:V)(v:II)(Q:VK),Inv X a σ H s->RelV x v->r x H Q->
  wpAny (model X.prog X.w) X.A (f v) (EP X a σ Q) X.xe s
def aT(X:Cx)(f:II)(r:List V->Hp->VK->Prop):Prop:=
 ∀(a:List (Addr×Obj))(s:IJ)(σ:St)(H:Hp)(b:List V)(c:List II)(Q:VK),Inv X a σ H s->ay b c->r b H Q->
  wpAny (model X.prog X.w) X.A (call f c) (EP X a σ Q) X.xe s
def kO(r:R2)(b c:TE):TE:=λa H Q=>b a H λx d=>c a d λy e=>r x y e Q
def ye(r:V->Hp->VK->Prop)(a:TE):TE:=λb H Q=>a b H λx c=>r x c Q
def rI(C:Int->Int->Prop)(g:Int->Int->V):R2:=λx y H Q=>∃i j,x=.int i/\y=.int j/\C i j/\Q (g i j) H
def dM(g:Int->Int->V):R2:=λx y H Q=>∃i j,x=.int i/\y=.int j/\Q (g i j) H
def rU(g:Int->V):V->Hp->VK->Prop:=λx H Q=>∃i,x=.int i/\Q (g i) H
section
variable{X:Cx}{a b c:Expr}{ta tb tc:TE}{pos:Pos}
def oj(n:PE X a ta)(o:PE X b tb){H:Hp}{R:V->V->Hp->Prop}(I:Inv X d σ H s)
 (h:ta σ H λx l=>tb σ l λy e=>R x y e) {Q:II->IJ->Prop} {f:II->II->Sem II}
 (p:∀v u j x y e,Inv X d σ e j->RelV x v->RelV y u->R x y e->wpAny (model X.prog X.w) X.A (f v u) Q X.xe j) :
 wpAny (model X.prog X.w) X.A (eval a X.env) (λv g=>wpAny (model X.prog X.w) X.A (eval b X.env) (λu i=>wpAny (model X.prog X.w) X.A (f v u) Q X.xe i) X.xe g) X.xe s:=by
 refine aB (n d s σ H _ I h) λv q m=>?_;obtain⟨x,l,r,z,B⟩:=m;refine aB (o d q σ l _ r B) λu j m=>?_;obtain⟨y,e,C,D,E⟩:=m;exact p v u j x y e C z D E
def yf(f:bQ X (binaryOp e) r)(g:PE X a ta)(i:PE X b tb):PE X (.BinOp a e b pos) (kO r ta tb):=by
 intro d s j H Q I h;exact wpAny_BinOp (oj g i I h λv u l x y m n o p q=>f d l j m x y v u Q n o p q)
def rT(g:oi X (unaryOp e) r)(i:PE X a ta):PE X (.UnaryOp e a pos) (ye r ta):=by
 intro d s f H Q I h;exact UnaryOp_ (aB (i d s f H _ I h) λv j ⟨x,l,m,n,o⟩=>g d j f l x v Q m n o)
def kd{g:Int->Int->Int}
 (rule:∀(i j:Int)(t u:Tok)(s:IJ)(Q:II->IJ->Prop)(E:II->IJ->Prop),C i j->Q (.int (g i j) s.toks) { s with toks:=s.toks+1 }->wpAny (model X.prog X.w) X.A (f (.int i t) (.int j u)) Q E s) :
 bQ X f (rI C λi j=>.int (g i j)):=by
 intro d s o H x y v u Q I e l h;obtain⟨i,j,rfl,rfl,m,q⟩:=h;obtain⟨t,rfl⟩:=e;obtain⟨n,rfl⟩:=l;exact rule i j t n s _ _ m ⟨.int _,H,I.tok _,⟨_,rfl⟩,q⟩
def om{g:Int->Int->Int}
 (rule:∀(i j:Int)(t u:Tok)(s:IJ)(Q:II->IJ->Prop)(E:II->IJ->Prop),Q (.int (g i j) s.toks) { s with toks:=s.toks+1 }->wpAny (model X.prog X.w) X.A (f (.int i t) (.int j u)) Q E s) :
 bQ X f (dM λi j=>.int (g i j)):=by
 intro d s n H x y v u Q I e l h;obtain⟨i,j,rfl,rfl,q⟩:=h;obtain⟨t,rfl⟩:=e;obtain⟨m,rfl⟩:=l;exact rule i j t m s _ _ ⟨.int _,H,I.tok _,⟨_,rfl⟩,q⟩
def my{g:Int->Int->Bool}
 (rule:∀(i j:Int)(t u:Tok)(s:IJ)(Q:II->IJ->Prop)(E:II->IJ->Prop),Q (.bool (g i j)) s->wpAny (model X.prog X.w) X.A (f (.int i t) (.int j u)) Q E s) :
 bQ X f (dM λi j=>.bl (g i j)):=by
 intro d s n H x y v u Q I e l h;obtain⟨i,j,rfl,rfl,q⟩:=h;obtain⟨t,rfl⟩:=e;obtain⟨m,rfl⟩:=l;exact rule i j t m s _ _ ⟨.bl _,H,I,rfl,q⟩
def rV(i j:Int):Prop:=0<j/\j<1073741824
def mz(i j:Int):Prop:=0<=j/\j<=1000000/\i.natAbs<2 ^ 64
def gn(i j:Int):Prop:=(-(2 ^ 64)<i/\i<2 ^ 64)\/(-(2 ^ 64)<j/\j<2 ^ 64)
def gn.ok(h:gn i j):IntMulOk i j:=by
 rcases h with⟨d,e⟩ | ⟨d,e⟩
 .exact .of_left (intBits_le_64 d e)
 .exact .of_right (intBits_le_64 d e)
def yg(k:Nat):(0:Int)<=2 ^ k:=by
 exact ME _
def op_add:bQ X (binaryOp .Add) (dM λi j=>.int (i+j)):=om λ_ _ _ _ _ _ _ q=>add_int q
def iM:bQ X (binaryOp .Sub) (dM λi j=>.int (i - j)):=om λ_ _ _ _ _ _ _ q=>sub_int q
def iN:bQ X (binaryOp .Mult) (rI gn λi j=>.int (i*j)):=kd λ_ _ _ _ _ _ _ d q=>mul_int q d.ok
def gp:bQ X (binaryOp .FloorDiv) (rI rV λi j=>.int (i / j)):=kd λi j _ _ _ _ _ d q=>by
 have e:_<j:=d.1;have f:=d.2;exact floordiv_int (by walk_at "o") (by rw[NW i (by walk_at "o")];exact q) (.inl (PyProof.noPylong_small (by walk_at "o")))
def iO:bQ X (binaryOp .Mod) (rI (λ_ j=>0<j) λi j=>.int (i%j)):=kd λi j _ _ _ _ _ d q=>by
 exact mod_int' (by walk_at "o") (by rw[Int.fmod_eq_emod_of_nonneg i (by walk_at "o")];exact q)
def iP:bQ X (binaryOp .Pow) (rI mz λi j=>.int (i ^ j.toNat)):=kd λ_ _ _ _ _ _ _ d q=>pow_int_small d.1 d.2.1 d.2.2 q
def iQ:bQ X (binaryOp .LShift) (rI mz λi j=>.int (i*2 ^ j.toNat)):=kd λ_ _ _ _ _ _ _ d q=>lshift_int_small d.1 d.2.1 d.2.2 q
def iR:bQ X (binaryOp .RShift) (rI (λ_ j=>0<=j) λi j=>.int (i / 2 ^ j.toNat)):=kd λi j _ _ _ _ _ d q=>
 rshift_int d (by rw[NW i (yg _)];exact q)
def iS:bQ X (binaryOp .BitAnd) (dM λi j=>.int (KI.bitAnd i j)):=om λ_ _ _ _ _ _ _ q=>and_int q
def yh{g:Int->Int}
 (rule:∀(i:Int)(t:Tok)(s:IJ)(Q:II->IJ->Prop)(E:II->IJ->Prop),Q (.int (g i) s.toks) { s with toks:=s.toks+1 }->wpAny (model X.prog X.w) X.A (f (.int i t)) Q E s) :
 oi X f (rU λi=>.int (g i)):=by
 intro d s j H x v Q I e h;obtain⟨i,rfl,q⟩:=h;obtain⟨t,rfl⟩:=e;exact rule i t s _ _ ⟨.int _,H,I.tok _,⟨_,rfl⟩,q⟩
def rW:oi X (unaryOp .USub) (rU λi=>.int (-i)):=yh λ_ _ _ _ _ q=>neg_int q
def fi:bQ X (compareOp .Lt) (dM λi j=>.bl (decide (i<j))):=my λ_ _ _ _ _ _ _ q=>lt_int q
def fj:bQ X (compareOp .LtE) (dM λi j=>.bl (decide (i<=j))):=my λ_ _ _ _ _ _ _ q=>le_int q
def gZ:bQ X (compareOp .Gt) (dM λi j=>.bl (decide (j<i))):=my λ_ _ _ _ _ _ _ q=>gt_int q
def hF:bQ X (compareOp .GtE) (dM λi j=>.bl (decide (j<=i))):=my λ_ _ _ _ _ _ _ q=>ge_int q
def bQ.or(h:bQ X f r)(h':bQ X f e):bQ X f (λx y H Q=>r x y H Q\/e x y H Q):=by
 intro d s g H x y v u Q I i j q;rcases q with q | q
 .exact h d s g H x y v u Q I i j q
 .exact h' d s g H x y v u Q I i j q
def bz(b:Expr)(h:d≠.In:=by decide)(e:d≠.NotIn:=by decide):behindInMarks d b=false:=by
 have f:(d == Nc.In)=false:=by cases d<;>first | rfl | exact absurd rfl h
 have g:(d == Nc.NotIn)=false:=by cases d<;>first | rfl | exact absurd rfl e
 cases b<;>simp[behindInMarks,f,g]
def yi(f:bQ X (compareOp e) r)(g:PE X a ta)(i:PE X b tb)(j:behindInMarks e b=false):PE X (.Compare a [e] [b] pos) (kO r ta tb):=by
 intro d s l H Q I h;exact Qh (oj g i I h λv u m x y n o p w q=>f d m l n x y v u Q o p w q) j
def rX(t:TE):TT:=λd H Q=>t d H λx e=>∃k,x=.bl k/\Q k e
def yj(i:bQ X (compareOp f) r)(j:PE X a ta)(l:PE X b tb)(m:behindInMarks f b=false):PT X (.Compare a [f] [b] pos) (rX (kO r ta tb)):=by
 intro d s g H Q I h;refine Pz (aB (j d s g H _ I h) λv n ⟨x,o,p,q,w⟩=>aB (l d n g o _ p w) λu A ⟨y,B,C,D,E⟩=>
  aB (i d A g B x y v u _ C q D E) λc O ⟨z,G,J,L,k,e,N⟩=>?_) m
 subst e;cases L;exact KZ ⟨G,J,N⟩
def rY(r f:R2)(ta tb tc:TE):TE:=λd H Q=>ta d H λx g=>tb d g λy h=>r x y h λz e=>∃k,z=.bl k/\
 (if k=true then tc d e λi j=>f y i j Q else Q (.bl false) e)
def yk(w:bQ X (compareOp j) r)(l:bQ X (compareOp g) m)(A:PE X a ta)(B:PE X b tb)(C:PE X c tc)
 (D:lastMarks [j,g] [b,c]=false:=by with_unfolding_all rfl):PE X (.Compare a [j,g] [b,c] pos) (rY r m ta tb tc):=by
 intro f s i H Q I h;refine Compare_chain (aB (A f s i H _ I h) λv E ⟨x,G,J,L,N⟩=>chain_link (aB (B f E i G _ J N) λu O ⟨y,T,U,n,Y⟩=>
  aB (w f O i T x y v u _ U L n Y) λd s3 ⟨z,o,p,r3,k,e,q⟩=>?_)) D
 subst e;cases r3;refine KZ ?_;cases k with
 | false=>exact ite_ff ⟨.bl false,o,p,rfl,q⟩
 | true=>exact ite_tt (chain_last (aB (C f s3 i o _ p q) λw' s4 ⟨z',H4,I4,r4,q4⟩=>l f s4 i H4 y z' u w' Q I4 n r4 q4))
def oq:(sizeLine:Nat)<2 ^ 63:=by decide
def Z4(r:ay [x] d):∃u,d=[u]/\RelV x u:=by
 cases r with
 | cons e f=>cases f;exact⟨_,rfl,e⟩
def mB(r:ay [x,y] d):∃u e,d=[u,e]/\RelV x u/\RelV y e:=by
 cases r with
 | cons f g=>
   cases g with
   | cons h i=>cases i;exact⟨_,_,rfl,f,h⟩
end
structure dP(h:Heap)(x dx C:Addr)(mA:Str->Option II):Prop where
 obj:h.get? x=some (Lr C dx)
 ns:h.Ns1 dx mA
 ne:dx≠x
def rZ{h:Heap}(n:h.Ns1 d f):∃g,h.get? d=some g/\∀b,Oj b g=some (f b):=by
 obtain⟨o,i,u,j,l,m,_,p⟩:=n;refine⟨o,j,λb=>?_⟩;have e:=p b;unfold nsFind findBy at e;rw[<-Array.find?_toList]at e;unfold Oj;rw[l];dsimp only;split
 .rename_i y q;rw[q]at e;exact congrArg some e
 .rename_i q;rw[q]at e;have a:i.toList.any (·.refKey)=false:=by
   rw[List.any_eq_false];intro y r;obtain⟨z,t,c⟩:=m y (Array.mem_toList_iff.mp r);simp[MF.refKey,c]
  have s:¬i.toList.any (·.refKey)=true:=by rw[a];exact Kh
  rw[if_neg s];exact congrArg some e
def dP.look(I:dP h x c C d):∃b,PySem.W.InstAt h x (Lr C c) C (some b)/\∀a,Oj a b=some (d a):=
 let⟨b,e,f⟩:=rZ I.ns
 ⟨b,⟨I.obj,rfl,rfl,e⟩,f⟩
section
variable{prog:Jg}{w:JJ}{A:JI}{E:II->IJ->Prop}{s:IJ}{K:IH}{x dx C f:Addr}{mA:Str->Option II}{name:Str}{v:II}
def yl(X:K.In s.heap)(I:dP s.heap x dx C mA)(c:Np K C name=true)(d:Ov K C=true)
 (e:Le K (.ref C) name=some none) (g:mA name=some v) (b:PySem.W.handedIn v=true) (h:Q v { s with toks:=s.toks+1 }) :
 wpAny (model prog w) A (getAttr (.ref x) name a) Q E s:=by
 obtain⟨j,J,i⟩:=I.look;exact PySem.W.get_value X J (NL c).1 (PySem.W.findObj_own d e rfl (by rw[i,g])) b h
def ym(X:K.In s.heap)(I:dP s.heap x dx C mA)(a:Np K C name=true)
 (c:Le K (.ref C) name=some (some (.ref f))) (d:QP K (.ref f)=true) (e:mA name=none) (h:Q (.ref f,[.ref x]) s) :
 wpAny (model prog w) A (getMethod (.ref x) name b) Q E s:=by
 obtain⟨g,J,i⟩:=I.look;exact PySem.W.method_fn X J (NL a).1 (NL a).2 c (beq_iff_eq.mp d) (by show(Oj name g).map _=some false;rw[i,e];rfl) h
def yn(X:K.In s.heap)(I:dP s.heap x dx C mA)
 (hs:Le K (.ref C) "__setattr__" = some (some (.builtin "object.__setattr__"))) (hp:PySem.W.plainOver K C=true) (ht:PF K C name=some none) (hh:Ov K C=true)
 (hw:Oe mA ns) (hsz:ns.length<=sizeLine)
 (h:∀h',dP h' x dx C (λy=>if y=name then some v else mA y)->JK dx s.heap h'->Q () { s with heap:=h',toks:=s.toks+2 }) :
 wpAny (model prog w) A (setAttr (.ref x) name v) Q E s:=by
 obtain⟨od,J,hl⟩:=I.look;refine PySem.W.set_plain X J hs (PySem.W.osa_open X J hp ht λb=>?_);obtain⟨cd,hc,hd'⟩:=PySem.W.any_some hh;have hx:=I.obj;refine IE (IG (IE (IE (Qi hx (IE (PySem.W.Looks.here (PySem.W.looks_clsIn X hc) ?_))))));rw[hd'];refine IG (IE (IG (IE ?_)));refine wpAny_nsSet1 I.ns λh' hn2 hs2=>?_;obtain⟨oD,esD,epD,hoD,hdD,hcD⟩:=hn2.count (Oe.cons name v hw);refine IE (wpAny_lookBehind hoD (by rw[hdD];exact pastItsLine_dict (Jt hcD (by rw[Js];walk_at "o"))) ?_);exact IG (h _ ⟨(hs2.2 _ (Kk I.ne)).trans I.obj,hn2,I.ne⟩ hs2)
def yo(X:K.In s.heap)(d:PySem.W.makesIn K C=true)
 (e:Le K (.ref C) "__init__" = some (some (.ref f))) (g:PySem.W.typeIn K (.ref f)=some (.type "function"))
 (h:codeAny (model prog w) (A.under (.builtin "type.__call__" ⟨.ref C::vs,b⟩)) (.call (.ref f) ⟨.ref (s.heap.objs.size+1)::vs,b⟩) (PySem.W.InitBack (s.heap.objs.size+1) R)
  { s with heap:=(s.heap.push LL).push (Lr C s.heap.objs.size) }) :
 codeAny (model prog w) A (.call (.ref C) ⟨vs,b⟩) R s:=by
 exact PySem.W.make_core (PySem.W.makes_of X d) (Qe X e) (λa=>PySem.W.bind_fn X a g) (.inl rfl) h
end
noncomputable def W6(f:Str)(v:V):List (Str×V)->List (Str×V)
 | []=>[(f,v)]
 | (g,x)::r=>if g=f then(g,v)::r else(g,x)::W6 f v r
theorem sd(f g:Str)(v:V):∀fs:List (Str×V),(W6 f v fs).lookup g=if g=f then some v else fs.lookup g
 | []=>by
   show Mw g [(f,v)]=_;by_cases h:g=f
   .have a:(g == f)=true:=beq_iff_eq.mpr h;simp only[Mw,a,if_pos h]
   .have a:(g == f)=false:=beq_eq_false_iff_ne.mpr h;simp only[Mw,a,if_neg h]
 | (k,x)::r=>by
   have ih:=sd f g v r;rw[show W6 f v ((k,x)::r)=(if k=f then(k,v)::r else(k,x)::W6 f v r)from rfl];by_cases b:k=f
   .rw[if_pos b];by_cases h:g=k
    .have a:(g == k)=true:=beq_iff_eq.mpr h;simp only[Mw,a,if_pos (h.trans b)]
    .have a:(g == k)=false:=beq_eq_false_iff_ne.mpr h;simp only[Mw,a,if_neg (λe:g=f=>h (e.trans b.symm))]
   .rw[if_neg b];by_cases h:g=k
    .have a:(g == k)=true:=beq_iff_eq.mpr h;simp only[Mw,a,if_neg (λe:g=f=>b (h.symm.trans e))]
    .have a:(g == k)=false:=beq_eq_false_iff_ne.mpr h;simp only[Mw,a];exact ih
theorem ou(f:Str)(v:V):∀fs:List (Str×V),f∈(W6 f v fs).map (·.1)/\∀g,g∈fs.map (·.1)->g∈(W6 f v fs).map (·.1)
 | []=>⟨by simp[W6],λg h=>by simp at h⟩
 | (k,x)::r=>by
   obtain⟨b,c⟩:=ou f v r;rw[show W6 f v ((k,x)::r)=(if k=f then(k,v)::r else(k,x)::W6 f v r)from rfl];by_cases a:k=f
   .rw[if_pos a];subst a;exact⟨by simp,λg h=>by simpa using h⟩
   .rw[if_neg a];refine⟨?_,λg h=>?_⟩
    .rw[Jn];exact IZ _ b
    .rw[Jn]at h ⊢;rcases IT.mp h with e | e
     .exact IT.mpr (.inl e)
     .exact IZ _ (c g e)
theorem se(f:Str)(v:V):∀fs:List (Str×V),(W6 f v fs).length<=fs.length+1
 | []=>by simp[W6]
 | (k,x)::r=>by
   have ih:=se f v r;rw[show W6 f v ((k,x)::r)=(if k=f then(k,v)::r else(k,x)::W6 f v r)from rfl];by_cases a:k=f
   .rw[if_pos a,Js,Js];walk_at "o"
   .rw[if_neg a,Js,Js];walk_at "o"
def bI.some_of(r:bI (some v) o):∃u,o=some u/\RelV v u:=by
 cases o with
 | none=>exact(show False from r).elim
 | some u=>exact⟨u,rfl,r⟩
def bI.none_of(r:bI none o):o=none:=by
 cases o with
 | none=>rfl
 | some u=>exact(show False from r).elim
def de(r:RelV v u):PySem.W.handedIn u=true:=by
 cases v with
 | non=>cases(show u=_ from r);rfl
 | bl b=>cases(show u=QM b from r);rfl
 | int i=>obtain⟨t,e⟩:=(show ∃t,u=Pu i t from r);cases e;rfl
 | str x=>obtain⟨t,e⟩:=(show ∃t,u=Qy x t from r);cases e;rfl
 | byt b=>obtain⟨t,e⟩:=(show ∃t,u=II.bytes b t from r);cases e;rfl
 | flt b=>obtain⟨t,e⟩:=(show ∃t,u=QR b t from r);cases e;rfl
 | ref a=>cases(show u=Jf a from r);rfl
 | ty n=>cases(show u=II.type n from r);rfl
def mD(c:bK P w H h)(e:H a=some (.ins C dx fs)):∃b,dP h a dx C b/\(∀f,bI (fs.lookup f) (b f))/\Oe b (fs.map (·.1))/\fs.length<=1000/\H dx=some (.own a):=by
 obtain⟨d,z,ne,g,b,n,r,q⟩:=(show aA P w H h a _ from c a _ e);exact⟨b,⟨g,n,ne⟩,r,q,z,d⟩
structure dy(K:IH)(C:Addr):Prop where
 pg:Np K C Str.empty=true
 hd:Ov K C=true
 po:PySem.W.plainOver K C=true
 sa:Le K (.ref C) "__setattr__" = some (some (.builtin "object.__setattr__"))
def dy.get{K:IH}(c:dy K C)(f:Str):Np K C f=true:=c.pg
def bA(K:IH)(C:Addr)(f:Str):Prop:=Le K (.ref C) f=some none
def bA.taker{K:IH}(n:bA K C f):PF K C f=some none:=by
 unfold PF;rw[show Le K _ f=some none from n];rfl
structure hI(K:IH)(C:Addr)(m:Str)(f:Addr):Prop where
 at_:Le K (.ref C) m=some (some (.ref f))
 fn:QP K (.ref f)=true
 kp:Ln K (.ref f)=true
def yp(I:Inv X pins σ H s)(e:H a=some (.ins C dx fs))(c:dy X.K C)(n:bA X.K C f)(l:fs.lookup f=some v)
 (h:∀u d,Inv X pins σ H d->RelV v u->Q u d):wpAny (model X.prog X.w) A (getAttr (.ref a) f b) Q E s:=by
 obtain⟨j,O,r,_,_,_⟩:=mD I.hok e;obtain⟨u,i,g⟩:=bI.some_of (by rw[<-l];exact r f);exact yl I.kIn O (c.get f) c.hd n i (de g) (h u _ (I.tok _) g)
def m3(I:Inv X pins σ H s)(e:H a=some (.ins C dx fs))(c:dy X.K C)(k:hI X.K C m g)(l:fs.lookup m=none)
 (h:Q (.ref g,[.ref a]) s):wpAny (model X.prog X.w) A (getMethod (.ref a) m b) Q E s:=by
 obtain⟨i,O,r,_,_,_⟩:=mD I.hok e;have d:=bI.none_of (by rw[<-l];exact r m);exact ym I.kIn O (c.get m) k.at_ k.fn d h
def yq(I:Inv X pins σ H s)(e:H a=some (.ins C dx fs))(c:dy X.K C)(n:bA X.K C f)(T:fs.length<1000)(m:RelV y u)
 (h:∀i,Inv X pins σ (ax H a (.ins C dx (W6 f y fs))) i->Q () i):wpAny (model X.prog X.w) A (setAttr (.ref a) f u) Q E s:=by
 obtain⟨p,O,r,j,_,l⟩:=mD I.hok e;have x:(fs.map (·.1)).length<=sizeLine:=by rw[IK,OL];walk_at "o"
 refine yn I.kIn O c.sa c.po n.taker c.hd j x λB d D=>h _ ?_;have G:∃o,B.get? dx=some o:=let⟨o,_,_,J,_⟩:=d.ns;⟨o,J⟩;refine I.write (by rw[e];exact Lo) (.inr l) (λb q L z=>(D.2 b L).trans z) G ?_;refine⟨by rw[ah O.ne];exact l,?_,O.ne,d.obj,_,d.ns,λg=>?_,λg N=>?_⟩
 .have:=se f y fs;walk_at "o"
 .show bI _ _;rw[sd];by_cases q:g=f
  .rw[if_pos q,if_pos q];exact m
  .rw[if_neg q,if_neg q];exact r g
 .by_cases q:g=f
  .rw[q];exact(ou f y fs).1
  .refine(ou f y fs).2 g (j g λz=>N ?_);show(if g=f then some u else p g)=none;rw[if_neg q];exact z
def Inv.made(I:Inv X pins σ H s):Inv X pins σ (ax (ax H s.heap.objs.size (.own (s.heap.objs.size+1))) (s.heap.objs.size+1) (.ins C s.heap.objs.size []))
 { s with heap:=(s.heap.push LL).push (Lr C s.heap.objs.size) }:=by
 have d:(s.heap.push _).get? _=some LL:=IP _ rfl;have g:((s.heap.push LL).push (Lr C s.heap.objs.size)).get? (s.heap.objs.size+1)=some (Lr C s.heap.objs.size):=by
  have:=IP (s.heap.push LL) (o:=Lr C s.heap.objs.size) rfl
  rwa [JW]at this
 have h:(s.heap.push _).Ns _ _:=⟨LL,#[],_,d,rfl,(λe i=>absurd i (by simp)),λ_=>rfl⟩;have j:=I.laid (o:=.own (s.heap.objs.size+1)) (t':=s.toks) (λb u q=>IF _ q) (IM _) ⟨_,d⟩;refine j.laid (λb u q=>IF _ q) (PJ (JW _ _)) ?_;have ne:_≠s.heap.objs.size+1:=IY (KD _);refine⟨by rw[ah ne,C1],LU _,ne,g,λ_=>none,(Heap.Ns1.of_empty h).at λo q=>IF _ q,λ_=>Lo,λy l=>absurd rfl l⟩
def sf(g:attributeBase e f b (eval e b)=eval e b)
 (h:wpAny (model prog w) A (eval e b) (λo c=>wpAny (model prog w) A (getAttr o f true) Q E c) E s):wpAny (model prog w) A (eval (.Attribute e f d) b) Q E s:=
 Attribute_any_ h (by rw[arm_eval_Attribute,g])
def yr(K:IH)(c:TE)(f:Str):TE:=λd H Q=>c d H λx b=>∃a C e fs v,x=.ref a/\b a=some (.ins C e fs)/\dy K C/\bA K C f/\fs.lookup f=some v/\Q v b
def sFld(K:IH)(e tv:TE)(f:Str):TS:=λD b H=>tv b H λy g=>e b g λx c=>∃a C d fs,x=.ref a/\c a=some (.ins C d fs)/\dy K C/\bA K C f/\fs.length<1000/\
 D.nx b (ax c a (.ins C d (W6 f y fs)))
def yt(he:PE X e ta)(d:attributeBase e f X.env (eval e X.env)=eval e X.env):PE X (.Attribute e f pos) (yr X.K ta f):=by
 intro b s g H Q I h;refine sf d (aB (he b s g H _ I h) λu A i=>?_);obtain⟨x,j,m,p,a,C,B,fs,v,r,w,c,n,l,q⟩:=i;subst r;obtain rfl:u=Jf a:=p;exact yp m w c n l λD E y z=>⟨v,j,y,z,q⟩
def yw(g:PE X o ta)(i:PE X value tv)(hs:swapsWith value (some (.Attribute o f pos')) pos.line X.env=pure false):PS X (.Assign [.Attribute o f pos'] value pos) (sFld X.K ta tv f):=by
 intro b s d H D I h;refine MU (aB (i b s d H _ I h) λu j ⟨y,m,p,r,q⟩=>aB (g b j d m _ p q) λov J v=>?_) hs;obtain⟨x,L,w,z,a,C,N,fs,A,B,c,n,l,E⟩:=v;subst A;obtain rfl:ov=Jf a:=z;exact yq w B c n l r λO G=>⟨d,_,G,E⟩
section
variable{X:Cx}{pins:List (Addr×Obj)}{σ:St}{H:Hp}{s:IJ}{A:JI}{E:II->IJ->Prop}{Q:II->IJ->Prop}{c:II}{b:Bool}
inductive p5 (K:IH) (H:Hp):V->II->Prop where
 | non:p5 K H .non (.type "NoneType")
 | bl (x:Bool):p5 K H (.bl x) (.type "bool")
 | int (i:Int):p5 K H (.int i) (.type "int")
 | str (x:Str):p5 K H (.str x) (.type "str")
 | flt (x:UInt64):p5 K H (.flt x) (.type "float")
 | lst {a:Addr} {xs:List V} (e:H a=some (.lst xs)):p5 K H (.ref a) (.type "list")
 | frz {a:Addr} {o:Obj} {xs:List V} (e:H a=some (.frz o (.lst xs))):p5 K H (.ref a) (.type "list")
 | tup {a:Addr} {xs:List V} (e:H a=some (.tup xs)):p5 K H (.ref a) (.type "tuple")
 | dK {a:Addr} {kvs:List (Key×V)} (e:H a=some (.dK kvs)):p5 K H (.ref a) (.type "dict")
 | dT {a:Addr} {kvs:List (List Key×V)} (e:H a=some (.dT kvs)):p5 K H (.ref a) (.type "dict")
 | ins {a C dx:Addr} {fs:List (Str×V)} (e:H a=some (.ins C dx fs)) (cl:dy K C) (ha:Le K (.ref C) "__class__" = some (some (.builtin "object.__class__")))
  (hn:PySem.W.specialIn K (.builtin "object.__class__") "__get__" = some (some (.builtin "getset_descriptor.__get__"))) (htk:PySem.W.takesIn K (.builtin "object.__class__")=some true)
  (hm:PySem.W.mroIn K C (.type "object")=some true):p5 K H (.ref a) (.ref C)
def sg(I:Inv X pins σ H s)(d:RelV x u)(z:p5 X.K H x t)(e:Qj X.K t c=some b)(h:∀B,Q (.bool b) { s with toks:=B }) :
 wpAny (model X.prog X.w) A (call (.builtin "isinstance") [u,c]) Q E s:=by
 cases z with
 | non=>cases(show u=_ from d);exact Kz PySem.W.kitx_none I.kIn Lo e nofun h
 | bl y=>cases(show u=QM y from d);exact Kz PySem.W.kitx_bool I.kIn Lo e nofun h
 | int i=>obtain⟨t,q⟩:=(show ∃t,u=Pu i t from d);cases q;exact Kz PySem.W.kitx_int I.kIn Lo e nofun h
 | str y=>obtain⟨t,q⟩:=(show ∃t,u=Qy y t from d);cases q;exact Kz PySem.W.kitx_str I.kIn Lo e nofun h
 | flt y=>obtain⟨t,q⟩:=(show ∃t,u=QR y t from d);cases q;exact Kz PySem.W.kitx_float I.kIn Lo e nofun h
 | @lst a l f=>
   cases(show u=Jf a from d);obtain⟨_,_,n,_,g⟩:=(show aA _ X.w H _ a _ from I.hok a _ f);exact Kz PySem.W.kitx_list I.kIn ⟨_,g,rfl⟩ e nofun h
 | @frz a U l f=>
   cases(show u=Jf a from d);obtain⟨_,_,_,n,_,g⟩:=(show aA _ X.w H _ a _ from I.hok a _ f);exact Kz PySem.W.kitx_list I.kIn ⟨_,g,rfl⟩ e nofun h
 | @tup a l f=>
   cases(show u=Jf a from d);obtain⟨_,_,_,p⟩:=(show aA _ X.w H _ a _ from I.hok a _ f);obtain⟨o,g,j,_⟩:=p;exact Kz PySem.W.kitx_tuple I.kIn ⟨o,g,j⟩ e nofun h
 | @dK a m f=>
   cases(show u=Jf a from d);obtain⟨_,_,Y,_,p⟩:=(show aA _ X.w H _ a _ from I.hok a _ f);obtain⟨o,D,G,g,j,_⟩:=p;exact Kz PySem.W.kitx_dict I.kIn ⟨o,g,j.1⟩ e nofun h
 | @dT a m f=>
   cases(show u=Jf a from d);obtain⟨_,_,l,_,o,D,G,g,j,_⟩:=(show aA _ X.w H _ a _ from I.hok a _ f);exact Kz PySem.W.kitx_dict I.kIn ⟨o,g,j.1⟩ e nofun h
 | @ins a C dx fs f v L N r T=>
   cases(show u=Jf a from d);obtain⟨mA,O,_⟩:=mD I.hok f;obtain⟨od,J,_⟩:=O.look;exact Kz (PySem.W.kitx_own (v.get _) v.hd L N r T) I.kIn J e nofun h
end
structure aK(k:Nat)(A:JI):Prop where
 hd:A.handled=none
 dp:A.depth+3*k+5<recursionLimit
 un:A.units+16*k+200<cLine
def aK.mono(r:aK k A)(h:j<=k):aK j A:=⟨r.hd,by have:=r.dp;walk_at "o",by have:=r.un;walk_at "o"⟩
def aK.deeper(r:aK (k+1) A)(a:Env):aK k (A.deeper a):=
 ⟨r.hd,by have:=r.dp;show _+1+3*k+5<_;walk_at "o",by have:=r.un;show _+3+16*k+200<_;walk_at "o"⟩
def yx{A:JI}:(A.under (.builtin "type.__call__" ⟨.ref C::a,b⟩)).depth=A.depth+1:=rfl
def yy{A:JI}:(A.under (.builtin "type.__call__" ⟨.ref C::a,b⟩)).units=A.units+1:=rfl
def aK.make(r:aK (k+1) A)(C:Addr)(a:List II)(b:List (Str×II)):aK k (A.under (.builtin "type.__call__" ⟨.ref C::a,b⟩)):=
 ⟨r.hd,by have:=r.dp;rw[yx];walk_at "o",by have:=r.un;rw[yy];walk_at "o"⟩
def aK.depth(r:aK k A):A.depth<recursionLimit:=by have:=r.dp;walk_at "o"
def aK.units(r:aK k A):A.units+64<cLine:=by have:=r.un;walk_at "o"
def tNil:TA:=λ_ H Q=>Q [] H
def yz(b:TE)(c:TA):TA:=λa H Q=>b a H λx d=>c a d λe f=>Q (x::e) f
section
variable{X:Cx}{e:Expr}{es:List Expr}{te:TE}{t:TA}{pos:Pos}
def mE:PA X [] tNil:=λ_ _ _ _ H Q I h=>LM ⟨[],H,I,.nil,h⟩
def Y1(c:PE X e te)(d:PA X es t)(hs:starEach (e::es) X.env=(false,eval e X.env)::starEach es X.env:=by rfl):PA X (e::es) (yz te t):=by
 intro pos a s b H Q I h;rw[hs];show wpAny _ _ (spliced ((false,eval e _)::backTo pos _)) _ _ s;refine KN (aB (c a s b H _ I h) λu f g=>?_);obtain⟨x,i,j,l,m⟩:=g;exact aB (d pos a f b i _ j m) λv w ⟨n,o,p,q,r⟩=>⟨x::n,o,p,.cons l q,r⟩
def yA(t:TA):TE:=λc H Q=>t c H λa b=>a.length<=sizeLine/\∀p,b p=none->Q (.ref p) (ax b p (.tup a))
def yB(t:TA):TE:=λc H Q=>t c H λa b=>a.length<=sizeLine/\∀p,b p=none->Q (.ref p) (ax b p (.lst a))
def yC{f}(h:PA X es t):PE X (.Tuple es f pos) (yA t):=by
 intro a s g H Q I i;refine wpAny_Tuple_spliced (aB (h pos a s g H _ I i) λj m ⟨n,c,d,r,z,q⟩=>⟨by rw[<-r.length];exact z,?_⟩);have l:c _=none:=d.hok.fresh (IM _);refine⟨.ref _,ax c _ _,d.laid (λb u e=>IF _ e) (IM _) ?_,rfl,q _ l⟩;exact⟨z,j,r,⟨_,IP _ rfl,rfl,_,rfl⟩⟩
def yD(h:PA X es t):PE X (.List es pos) (yB t):=by
 intro a s f H Q I g;refine wpAny_List_spliced (aB (h pos a s f H _ I g) λi l ⟨m,c,d,r,z,q⟩=>⟨by rw[<-r.length];exact z,?_⟩);have j:c _=none:=d.hok.fresh (IM _);refine⟨.ref _,ax c _ _,d.laid (λb u e=>IF _ e) (IM _) ?_,rfl,q _ j⟩;exact⟨z,i,0,r,IP _ rfl⟩
end
abbrev Sp:=List V->Hp->VK->XK->Prop
abbrev CXT:=List Env->Hp->IJ->XK->II->IJ->Prop
structure dQ(P:Jg)(w:JJ)(K:IH)(mg:Str->Option II)(base:Heap)(A:JI)(outer:List Env)(s:IJ)(H:Hp):Prop where
 frames:A.frames=some outer
 mod:Mod K mg base
 bs:∀b o,base.get? b=some o->s.heap.get? b=some o/\H b=none
 bsz:base.objs.size<=s.heap.objs.size
 funs:s.heap.FunFrames base outer
 frf:∀b∈frs outer,H b=none
 hok:bK P w H s.heap
 bare:OJ s.gens
def CE(a:List Env)(P:Jg)(w:JJ)(H:Hp)(s:IJ)(Q:VK)(u:II)(b:IJ):Prop:=
 ∃v c,b.os=s.os/\OJ b.gens/\Un (frs a) [] H c s.heap b.heap/\bK P w c b.heap/\RelV v u/\Q v c
def CR(c:CXT)(a:List Env)(P:Jg)(w:JJ)(H:Hp)(s:IJ)(Q:VK)(E:XK)(r:QX)(b:IJ):Prop:=
 match r with
 | .ok (.ret u)=>CE a P w H s Q u b
 | .ok _=>False
 | .error e=>c a H s E e b
structure av(P:Jg)(w:JJ)(K:IH)(mg:Str->Option II)(base:Heap)(CX:CXT)(k:Nat)(f:Addr)(fd:Jh)(ps:List Str)(sp:Sp):Prop where
 len:∀vs H Q E,sp vs H Q E->vs.length=ps.length
 run:∀(A:JI)(outer:List Env)(s:IJ)(H:Hp)(args:Args)(us:List II)(vs:List V)(Q:VK)(E:XK),aK k A->dQ P w K mg base A outer s H->Rb s fd args (ps.zip us)->ay vs us->sp vs H Q E->
  codeAny (model P w) A (.call (.ref f) args) (CR CX outer P w H s Q E) s
def av.imp{K:IH}{base:Heap}{e:CXT}{k:Nat}{f:Addr}{g:Jh}{ps:List Str}{i c:Sp}(F:av P w K mg base e k f g ps i)
 (h:∀b H Q E,c b H Q E->i b H Q E):av P w K mg base e k f g ps c:=
 ⟨λb H Q E q=>F.len b H Q E (h _ _ _ _ q),λA a s H d j b Q E l m n o p=>F.run A a s H d j b Q E l m n o (h _ _ _ _ p)⟩
def dQ.make{K:IH}{base:Heap}{A:JI}{a:List Env}{s:IJ}{H:Hp}(e:dQ P w K mg base A a s H)(C:Addr)(b:List II)(c:List (Str×II)) :
 dQ P w K mg base (A.under (.builtin "type.__call__" ⟨.ref C::b,c⟩)) a s H:=⟨by first | exact e.frames | (simpa[_]using _),e.mod,e.bs,e.bsz,e.funs,e.frf,e.hok,e.bare⟩
def Inv.env0(I:Inv X pins σ H s):dQ X.prog X.w X.K X.mg X.base X.A X.stack s H:=
 ⟨I.ok.frames,I.ok.mod,I.bs,Jt I.ok.bsz I.sz,I.stack,I.stkFree,I.hok,I.bare⟩
def Inv.after(I:Inv X pins σ H s)(h:CE X.stack X.prog X.w H s Q u s'):EP X pins σ Q u s':=by
 obtain⟨v,f,os,a,un,c,r,q⟩:=h;obtain⟨i,g,d,t,e⟩:=s';obtain rfl:e=s.os:=os;exact⟨v,f,I.call un c a (λb z=>absurd z (by simp)),r,q⟩
def sh(a:Sp)(dvs:List V)(E:XK)(t:TA):TE:=λb H Q=>t b H λc d=>a (c++dvs) d Q E
def ow(C:Addr)(m:Str)(d:Sp)(dvs:List V)(E:XK)(e:TE)(t:TA):TE:=λb H Q=>e b H λx c=>∃a f fs,x=.ref a/\c a=some (.ins C f fs)/\fs.lookup m=none/\
 t b c λg h=>d (x::(g++dvs)) h Q E
def oy(C:Addr)(c:Sp)(dvs:List V)(E:XK)(t:TA):TE:=λd H Q=>t d H λe b=>∀x a,b x=none->b a=none->a≠x->
 c (.ref x::(e++dvs)) (ax (ax b a (.own x)) x (.ins C a [])) (λv f=>v=.non/\Q (.ref x) f) E
def Binds(K:IH)(c:Jh)(ps:List Str)(b:List II):Prop:=
 ∀(s:IJ)(a:List II),K.In s.heap->(a++b).length=ps.length->Rb s c ⟨a,[]⟩ (ps.zip (a++b))
def Binds.all{K:IH}(h:∀a:List II,a.length=ps.length->bindArgs b ⟨a,[]⟩=pure (ps.zip a)):Binds K b ps []:=λs a _ c=>by
 rw[Kn]at c ⊢;exact .of_eq (h a c)
def m4(c:CXT)(X:Cx)(E:XK):Prop:=∀(a:List (Addr×Obj))(σ:St)(H:Hp)(s:IJ)(e:II)(b:IJ),Inv X a σ H s->c X.stack H s E e b->X.xe e b
section
variable{X:Cx}{CX:CXT}{k:Nat}{f C:Addr}{fd:Jh}{ps:List Str}{sp:Sp}{dvs:List V}{ds:List II}{E:XK}{x m:Str}{p pos apos:Pos}{e o:Expr}{es:List Expr}{ta:TE}{t:TA}
def oz(F:av X.prog X.w X.K X.mg X.base CX k f fd ps sp)(g:aK k X.A)(i:Binds X.K fd ps ds)(j:ay dvs ds)(l:m4 CX X E)
 (I:Inv X a σ H s) (r:ay vs b) (h:sp (vs++dvs) H Q E):wpAny (model X.prog X.w) X.A (call (.ref f) b) (EP X a σ Q) X.xe s:=by
 have d:=r.append j;have n:(b++ds).length=ps.length:=by rw[<-d.length];exact F.len _ _ _ _ h
 refine Mz (LR (F.run X.A _ s H ⟨b,[]⟩ _ _ Q E g I.env0 (i s b I.kIn n) d h) λr q c=>?_);cases r with
 | error e=>exact l a σ H s e q I c
 | ok v=>
   cases v with
   | ret u=>exact I.after c
   | next=>exact Jl c
   | brk=>exact Jl c
   | cont=>exact Jl c
def yE(F:av X.prog X.w X.K X.mg X.base CX k f fd ps sp)(g:aK k X.A)(i:Gl X x)(j:X.mg x=some (.ref f))(l:Ln X.K (.ref f)=true)(n:Binds X.K fd ps ds)(u:ay dvs ds)(v:m4 CX X E)
 (y:PA X (e::es) t) (b:(x == ("__debug__" : Str))=false:=by decide) (he:starEach (e::es) X.env=(false,eval e X.env)::starEach es X.env:=by rfl) (c:(backTo pos (starEach es X.env)).any (·.1)=false:=by rfl) :
 PE X (.Call (.Name x p) (e::es) [] pos) (sh sp dvs E t):=by
 intro a s z H Q I h;refine Lz (o9 I i j ?_ b);refine Mb (h₀:=_) I.ok.mod.kin l (aB (y pos a s z H _ I h) λB D ⟨G,J,d,r,q⟩=>⟨d.kIn,?_⟩) he c;exact oz F g n u v d r q
def yF(he:PE X o ta)(c:dy X.K C)(i:hI X.K C m f)(F:av X.prog X.w X.K X.mg X.base CX k f fd ps sp)(z:aK k X.A)(B:Binds X.K fd ps ds)(D:ay dvs ds)(G:m4 CX X E)(J:PA X (e::es) t)
 (d:starEach (e::es) X.env=(false,eval e X.env)::starEach es X.env:=by rfl) (g:(backTo pos (starEach es X.env)).any (·.1)=false:=by rfl)
 (L:eval (.Call (.Attribute o m apos) (e::es) [] pos) X.env=(do
  let ov <-eval o X.env
  standAt apos.atName
  let(f,first) <-holding [ov] (getMethod ov m y)
  callWith pos f first (backTo pos (starEach (e::es) X.env)) (backToKw pos (keywordEach [] X.env))):=by rfl) :
 PE X (.Call (.Attribute o m apos) (e::es) [] pos) (ow C m sp dvs E ta t):=by
 intro b s j H Q I h;refine Ng (aB (he b s j H _ I h) λu N O=>?_) L;obtain⟨x,T,n,U,a,dx,fs,Y,ea,l,q⟩:=O;subst Y;obtain rfl:u=Jf a:=U;refine m3 n ea c i l ?_;refine Mb I.ok.mod.kin i.kp (aB (J pos b N j T _ n q) λus s2 ⟨vs,H2,v,r,q2⟩=>⟨v.kIn,?_⟩) d g;exact oz (vs:=.ref a::vs) F z B D G v (.cons rfl r) q2
def yG(he:PE X o ta)(c:dy X.K C)(g:hI X.K C m f)(F:av X.prog X.w X.K X.mg X.base CX k f fd ps sp)(j:aK k X.A)(n:Binds X.K fd ps ds)(r:ay dvs ds)(v:m4 CX X E)
 (y:eval (.Call (.Attribute o m apos) [] [] pos) X.env=(do
  let ov <-eval o X.env
  standAt apos.atName
  let(f,first) <-holding [ov] (getMethod ov m i)
  callWith pos f first (backTo pos (starEach [] X.env)) (backToKw pos (keywordEach [] X.env))):=by rfl) :
 PE X (.Call (.Attribute o m apos) [] [] pos) (ow C m sp dvs E ta tNil):=by
 intro b s z H Q I h;refine Ng (aB (he b s z H _ I h) λu L B=>?_) y;obtain⟨x,N,d,D,a,O,fs,G,J,l,q⟩:=B;subst G;obtain rfl:u=Jf a:=D;refine m3 d J c g l ?_;exact PySem.W.callWith_K0 d.kIn g.kp (oz (vs:=[.ref a]) F j n r v d (.cons rfl .nil) q)
structure Mk(K:IH)(C f:Addr):Prop where
 makes:PySem.W.makesIn K C=true
 init:Le K (.ref C) "__init__" = some (some (.ref f))
 fn:QP K (.ref f)=true
 kp:Ln K (.ref C)=true
def yH(M:Mk X.K C f)(F:av X.prog X.w X.K X.mg X.base CX k f fd ps sp)(l:aK (k+1) X.A)(n:Binds X.K fd ps ds)(q:ay dvs ds)
 (y:m4 CX X E) (I:Inv X a σ H s) (r:ay vs c)
 (h:∀x d,H x=none->H d=none->d≠x->sp (.ref x::(vs++dvs)) (ax (ax H d (.own x)) x (.ins C d [])) (λv z=>v=.non/\Q (.ref x) z) E) :
 wpAny (model X.prog X.w) X.A (call (.ref C) c) (EP X a σ Q) X.xe s:=by
 have i:=h _ _ (I.hok.fresh (Mx _)) (I.hok.fresh (IM _)) (IY (KD _));have g:=Inv.made (C:=C) I;have j:ay (V.ref (s.heap.objs.size+1)::_) _:=.cons rfl (r.append q);have B:(Jf (s.heap.objs.size+1)::c++ds).length=ps.length:=by
  have e:=j.length;rw[F.len _ _ _ _ i]at e;exact e.symm
 refine Mz (yo I.kIn M.makes M.init (beq_iff_eq.mp M.fn) (LR (F.run _ _ _ _ ⟨Jf _::c,[]⟩ _ _ _ E (l.make C c [])
  (g.env0.make C c []) (n _ _ g.kIn B) j i) λr D b=>?_))
 cases r with
 | error e=>exact y a σ _ _ e D g b
 | ok G=>
   cases G with
   | ret u=>
     obtain⟨v,J,L,N,O,T⟩:=g.after b;subst O;exact⟨N,⟨V.ref _,J,L,rfl,T⟩⟩
   | next=>exact Jl b
   | brk=>exact Jl b
   | cont=>exact Jl b
def si(M:Mk X.K C f)(F:av X.prog X.w X.K X.mg X.base CX k f fd ps sp)(g:aK (k+1) X.A)(i:Gl X x)(j:X.mg x=some (.ref C))(l:Binds X.K fd ps ds)(n:ay dvs ds)(u:m4 CX X E)
 (v:PA X (e::es) t) (b:(x == ("__debug__" : Str))=false:=by decide) (he:starEach (e::es) X.env=(false,eval e X.env)::starEach es X.env:=by rfl) (c:(backTo pos (starEach es X.env)).any (·.1)=false:=by rfl) :
 PE X (.Call (.Name x p) (e::es) [] pos) (oy C sp dvs E t):=by
 intro a s y H Q I h;refine Lz (o9 I i j ?_ b);refine Mb (h₀:=_) I.ok.mod.kin M.kp (aB (v pos a s y H _ I h) λz B ⟨D,G,d,r,q⟩=>⟨d.kIn,?_⟩) he c;exact yH M F g l n u d r q
end
structure P6(N P:List Str)(sc:OI):Prop where
 kind:sc.kind=.function
 co:sc.isCoroutine=false
 gen:sc.isGenerator=false
 nd:N.Nodup
 pre:N.take P.length=P
 par:∀x∈P,sc.names.lookup x=some .local\/sc.names.lookup x=some .cell
 nofree:∀y∈sc.names,y.2≠.free
theorem sj{kindOf:Str->Option Rc}:∀{binds:List (Str×II)}{m:Str->Option II},(∀v,(x,v)∉binds)->bindL kindOf binds m x=m x
 | [],_,_=>rfl
 | (n,v)::r,m,h=>by
   unfold bindL;rw[sj λw a=>h w (IZ _ a)];split
   .have:x≠n:=by rintro rfl;exact h v IV
    simp[this]
   .rfl
theorem sk{kindOf:Str->Option Rc}:∀{binds:List (Str×II)}{m:Str->Option II},(∀v,(x,v)∉binds)->bindC kindOf binds m x=m x
 | [],_,_=>rfl
 | (n,v)::r,m,h=>by
   unfold bindC;rw[sk λw a=>h w (IZ _ a)];split
   .rfl
   .have:x≠n:=by rintro rfl;exact h v IV
    simp[this]
theorem sm{kindOf:Str->Option Rc}:∀{P:List Str}{vs:List II}{i:Nat}{m:Str->Option II},P.Nodup->P[i]?=some x->vs[i]?=some v->kindOf x=some .local->
 bindL kindOf (P.zip vs) m x=some v
 | [],_,_,_,_,h,_,_=>by simp at h
 | _::_,[],_,_,_,_,h,_=>by simp at h
 | p::P,w::vs,0,m,c,a,b,d=>by
   simp at a b;subst a;subst b;show bindL kindOf ((p,w)::P.zip vs) m p=_;unfold bindL;rw[sj λv e=>(KA.mp c).1 (PK e).1,if_pos d];simp
 | p::P,w::vs,i+1,m,c,a,b,d=>by
   show bindL kindOf ((p,w)::P.zip vs) m x=_;unfold bindL;exact sm (i:=i) (KA.mp c).2 (by simpa using a) (by simpa using b) d
theorem so{kindOf:Str->Option Rc}:∀{P:List Str}{vs:List II}{i:Nat}{m:Str->Option II},P.Nodup->P[i]?=some x->vs[i]?=some v->kindOf x≠some .local->
 bindC kindOf (P.zip vs) m x=some v
 | [],_,_,_,_,h,_,_=>by simp at h
 | _::_,[],_,_,_,_,h,_=>by simp at h
 | p::P,w::vs,0,m,c,a,b,d=>by
   simp at a b;subst a;subst b;show bindC kindOf ((p,w)::P.zip vs) m p=_;unfold bindC;rw[sk λv e=>(KA.mp c).1 (PK e).1,if_neg d];simp
 | p::P,w::vs,i+1,m,c,a,b,d=>by
   show bindC kindOf ((p,w)::P.zip vs) m x=_;unfold bindC;exact so (i:=i) (KA.mp c).2 (by simpa using a) (by simpa using b) d
noncomputable def start(N:List Str)(vs:List V):St:=vs.map some++Mo (N.length - vs.length) none
noncomputable def p6(CX:CXT)(P:Jg)(w:JJ)(K:IH)(mg:Str->Option II)(base:Heap)(N:List Str)(qual:Str)(scope:OI)(f:Addr)(cd:II)(A:JI)(outer:List Env)(s:IJ)(H:Hp)(E:XK):Cx where
 prog:=P
 w:=w
 K:=K
 mg:=mg
 base:=base
 A:=A.deeper (envOfC qual scope s.heap.objs.size f cd)
 N:=N
 s₀:=s
 H₀:=H
 env:=envOfC qual scope s.heap.objs.size f cd
 outer:=outer
 stack:=envOfC qual scope s.heap.objs.size f cd::outer
 ex:=[]
 calm:=true
 fn:=λ_=>true
 pn:=[]
 xe:=λe s'=>wpAny (model P w) (A.deeper (envOfC qual scope s.heap.objs.size f cd)) (leaving (envOfC qual scope s.heap.objs.size f cd) e) (λ_ s''=>CX outer H s E e s'') (λe' s''=>CX outer H s E e' s'') s'
def sr{a:OI}(h:a.names.lookup x=some .cell):∃c,(cellsFrom n a.names []).lookup x=some c:=by
 have q:=Pl _ n [] (.inl h);exact Ow.mp q
def yI{K:IH}{mg:Str->Option II}{base:Heap}{N ps:List Str}{j:Str}{d:OI}{f:Addr}{cd:II}{A:JI}{g:List Env}{s L:IJ}{H:Hp}{E:XK}{I:List II}{vs:List V}
 (S:P6 N ps d) (T:A.handled=none) (m:dQ P w K mg base A g s H) (hl:vs.length=ps.length) (r:ay vs I)
 (x:InCallC s s.heap.objs.size (bindL (envOfC j d s.heap.objs.size f cd).kindOf (ps.zip I) λ_=>none) (cellsFrom (s.heap.objs.size+1) d.names []) (bindC (envOfC j d s.heap.objs.size f cd).kindOf (ps.zip I) λ_=>none) L) :
 Inv (p6 J P w K mg base N j d f cd A g s H E) [] (start N vs) H L:=by
 have U:ps.length<=N.length:=by have:=congrArg List.length S.pre;rw[KG]at this;walk_at "o"
 obtain⟨D,tk,rfl,O⟩:=x.done;have n:∀b:Addr,b∉(p6 J P w K mg base N j d f cd A g s H E).ex:=λb z=>absurd (show b∈([])from z) nofun;refine⟨⟨m.mod,S.kind,rfl,rfl,IM _,λy z c D l=>?_,λy o=>?_,λy c _ h=>?_,λ_=>T,JI.frames_deeper m.frames,.inr ⟨rfl,rfl⟩,λb z=>absurd z (n b),m.bs,m.bsz,λb _ _=>n b,λb z=>absurd z (n b),m.funs,m.frf⟩,
  rfl,m.bare,Un.kept O,⟨_,x.toInCall.ns,λi y v D l h3=>?_⟩,λy c h=>⟨_,x.cell y c h⟩,m.hok.fresh (IM _),λy c h=>?_,λp B=>absurd (show p∈([])from B) nofun,m.hok.kept O,?_⟩
 .exact name_of_addr x.apart (Ko D) (Ko l)
 .have o:=o;rcases o with o | o
  .exact sr o
  .exact absurd rfl (S.nofree _ (Ko o))
 .exact Py (x.above y c (Ko h))
 .have G:i<vs.length:=by
   unfold start at l;by_cases G:i<vs.length
   .exact G
   .rw[JN (by simpa using G)]at l;rw[OM]at l;split at l<;>cases l
  have Y:vs[i]?=some v:=by
   unfold start at l;rw[Jb (by simpa using G),Jm]at l;cases e:vs[i]? with
   | none=>rw[e]at l;cases l
   | some a=>rw[e]at l;cases l;rfl
  obtain⟨u,Q,rv⟩:=r.get Y;have B:ps[i]?=some y:=by
   rw[<-S.pre,List.getElem?_take_of_lt (by walk_at "o")];exact D
  have C:ps.Nodup:=by rw[<-S.pre];exact S.nd.sublist (List.take_sublist _ _)
  refine⟨u,rv,?_⟩;rcases S.par y (JD B)with k | k
  .exact .inl ⟨k,sm C B Q k⟩
  .obtain⟨c,e⟩:=sr k;refine .inr ⟨.inl k,c,e,?_⟩;have q:=x.cell y c e;rw[so C B Q (by show d.names.lookup y≠_;rw[k];decide)]at q;exact q
 .exact m.hok.fresh (Py (x.above y c (Ko h)))
 .unfold start;show _=N.length;rw[Jo,IK,List.length_replicate];walk_at "o"
def oA{K:IH}{mg:Str->Option II}{base:Heap}{k:Nat}{f:Addr}{name d:Str}{h:Arguments}{i:List Stmt}{a:OI}{dV kV z pm g ct oc:II}{an od:Option Addr}
 {G:Array (Option II)} {N ps:List Str} {L:Sp} (lk:K.lookup f=some ⟨oc,od,.func (LA name d h i a dV kV z pm an g ct),G⟩) (O:Nd K g d=true) (S:P6 N ps a)
 (len:∀vs H Q E,L vs H Q E->vs.length=ps.length)
 (l:∀(A:JI)(c:List Env)(s:IJ)(H:Hp)(vs:List V)(Q:VK)(E:XK),aK k (A.deeper (envOfC d a s.heap.objs.size f g))->L vs H Q E->
  ∃t,bP (p6 D P w K mg base N d a f g A c s H E) i t/\t { nx:=λ_ H'=>Q .non H',rt:=Q } (start N vs) H) :
 av P w K mg base D (k+1) f (LA name d h i a dV kV z pm an g ct) ps L:=by
 refine⟨len,λA c s H a4 us vs Q E T B hb r C=>?_⟩;have hl:=len _ _ _ _ C;have KX:K.In _:=B.mod.kin.keeps λb o e=>(B.bs b o e).1;have U:=B.mod.nolimit.keeps λb o e=>(B.bs b o e).1;have m:∀y∈ps.zip us,a.names.lookup y.1=some .local\/(a.names.lookup y.1=some .cell/\((cellsFrom (s.heap.objs.size+1) _ []).lookup y.1).isSome=true):=λ⟨n,v⟩ hy=>by
  rcases S.par n (PK hy).1 with q | q
  .exact .inl q
  .exact .inr ⟨q,Pl _ _ _ (.inl q)⟩
 refine codeAny_call_function T.depth (KX _ _ lk) rfl S.co S.gen rfl (PySem.W.codeRec_of KX O) (hb _ _ _ _ ?_);refine wpAny_newFunctionEnv_cells S.kind m λb3 he s1 x=>?_;subst he;refine⟨U.keeps x.toInCall.keep,codeAny_func ?_⟩;obtain⟨t,ht,hq⟩:=l A c s H vs Q E (T.deeper _) C;have I:Inv (p6 D P w K mg base N d a f g A c s H E) [] _ H s1:=yI S T.hd B hl r x;refine Jv (ht [] s1 _ H _ I hq) (λfl Y p=>?_) λe Y p=>p;have fin:∀{j:St}{H':Hp}{v:V}{u:II},Inv (p6 D P w K mg base N d a f g A c s H E) [] j H' Y->RelV v u->Q v H'->CE c P w H s Q u Y:=
  λ{j H' v u} J rv q=>⟨v,H',J.os,J.bare,J.base,J.hok,rv,q⟩
 cases fl with
 | ret u=>
   obtain⟨v,j,H',J,rv,q⟩:=p;exact fin J rv q
 | next=>
   obtain⟨j,H',J,q⟩:=p;exact fin (v:=V.non) J rfl q
 | brk=>
   obtain⟨_,_,_,q⟩:=p;exact Jl q
 | cont=>
   obtain⟨_,_,_,q⟩:=p;exact Jl q
section
variable{X:Cx}{x:Str}{p pos:Pos}{e:Expr}{es:List Expr}{t:TA}{id T:String}{r:List V->Hp->VK->Prop}
def oB(r:List V->Hp->VK->Prop)(t:TA):TE:=λa H Q=>t a H λb c=>r b c Q
def U2(f:aT X (.builtin id) r)(g:Gl X x)(i:X.mg x=none)(j:bootBuiltins x=some (.builtin id))(l:PA X (e::es) t)(m:x≠"__name__":=by decide)(b:(x == ("__debug__" : Str))=false:=by decide)
 (he:starEach (e::es) X.env=(false,eval e X.env)::starEach es X.env:=by rfl) (c:(backTo pos (starEach es X.env)).any (·.1)=false:=by rfl):PE X (.Call (.Name x p) (e::es) [] pos) (oB r t):=by
 intro a s d H Q I h;refine Lz (T1 I g i j ?_ m b);exact PyProof.Rows.callWith_builtin1 (aB (l pos a s d H _ I h) λn o ⟨q,u,v,w,y⟩=>f a o d u q n Q v w y) he c
def W8(f:aT X (.type T) r)(g:Gl X x)(i:X.mg x=none)(j:bootBuiltins x=some (.type T))(l:PA X (e::es) t)(m:x≠"__name__":=by decide)(b:(x == ("__debug__" : Str))=false:=by decide)
 (he:starEach (e::es) X.env=(false,eval e X.env)::starEach es X.env:=by rfl) (c:(backTo pos (starEach es X.env)).any (·.1)=false:=by rfl):PE X (.Call (.Name x p) (e::es) [] pos) (oB r t):=by
 intro a s d H Q I h;refine Lz (T1 I g i j ?_ m b);exact Ls (aB (l pos a s d H _ I h) λn o ⟨q,u,v,w,y⟩=>f a o d u q n Q v w y) he c
end
end L2
namespace HT
open PySem PyProof.Rows
section
variable{prog:Jg}{w:JJ}{A:JI}{E:II->IJ->Prop}{s:IJ}
def gq(x:Ra s.heap t vs.toArray)(y:Ra s.heap b c.toArray)(o:vs≠[])
 (z:c=[]->Q (.ref t) s) (B:c≠[]->Q (.ref s.heap.objs.size) { s with heap:=s.heap.push { cls:=.type "tuple",data:=.seq (vs++c).toArray } })
 (j:vs.length+c.length<=sizeLine):wpAny (model prog w) A (binaryOp .Add (.ref t) (.ref b)) Q E s:=by
 obtain⟨⟨cls,q,d,r⟩,h,C,n,D⟩:=id x;obtain⟨⟨u,f,data2,g⟩,a,l,v,m⟩:=id y;subst C D l m;have e:vs.toArray++c.toArray=(vs++c).toArray:=by simp
 by_cases i:c=[]
 .exact concat_meets ⟨_,h,rfl⟩ ⟨_,a,rfl⟩ noFill_tuple_add seq_tuple_add Po ON (Ox _ _)
   (tuple_addW1 t b _ _ n v q f r g (by simpa using o) (by simp[i])) ⟨h,a,z i⟩
 .refine concat_meets ⟨_,h,rfl⟩ ⟨_,a,rfl⟩ noFill_tuple_add seq_tuple_add Po ON (Ox _ _)
   (tuple_addW2 t b _ _ n v q f r g (by simpa using o) (by simpa using i) (by exact j)) ⟨h,a,?_⟩
  rw[e];exact B i
noncomputable def sIx(n d:Nat):Option Int->Nat
 | none=>d
 | some v=>if v<0 then(v+(n:Int)).toNat else min v.toNat n
def yJ(n d:Nat)(b:d<=n)(o:Option Int):sIx n d o<=n:=by
 cases o with
 | none=>exact b
 | some v=>
   show(if v<0 then(v+_).toNat else min _ n)<=n;by_cases a:v<0
   .rw[if_pos a];walk_at "o"
   .rw[if_neg a];exact Nat.min_le_right _ _
def cQ(v:Int)(n d:Nat):(if v<0 then max (v+(n:Int)) 0 else min v (n:Int))=((sIx n d (some v):Nat):Int):=by
 show _=(((if v<0 then(v+_).toNat else min _ n):Nat):Int);by_cases a:v<0
 .simp only[if_pos a];walk_at "o"
 .simp only[if_neg a];walk_at "o"
def yK(lo a:Option Int)(n:Nat):Mp lo a 1 (n:Int)=(((sIx n 0 lo:Nat):Int),((sIx n n a:Nat):Int)):=by
 have b:¬((1:Int)<0):=by walk_at "o"
 unfold Mp;refine Prod.ext ?_ ?_
 .cases lo with
  | none=>rfl
  | some v=>exact cQ v n 0
 .cases a with
  | none=>rfl
  | some v=>exact cQ v n n
def yL(i j:Nat):KC (i:Int) (j:Int) 1=j - i:=by
 unfold KC;have a:(1:Int) > 0:=by walk_at "o"
 simp only[a,if_true,Int.ediv_one];split<;>walk_at "o"
def cq(p:QT v o)(h:Q o s):wpAny (model prog w) A (NB v) Q E s:=by
 cases p with
 | none=>exact slicePart_none h
 | int i t=>exact slicePart_int h
def yM{lo c:Option Int}{Q:Int×Int×Nat->IJ->Prop}(hs:s.heap.IsSliceOf e d f .none)(g:QT d lo)(i:QT f c)
 (h:Q (((sIx n 0 lo:Nat):Int),1,sIx n n c - sIx n 0 lo) s):wpAny (model prog w) A (NX (.ref e) (pure (n:Int))) Q E s:=by
 obtain⟨os,a,j,b⟩:=id hs;refine IE (IE (JB a b (x:=d) rfl (IE (JB a b rfl (IE (JB a b rfl (IG ?_)))))));refine IE (slicePart_none ?_);refine IE (cq g (IE (cq i (IE (IG ?_)))));show wpAny _ _ (match Mp lo c 1 _ with | (lo,c)=>pure (lo,_,KC lo c 1)) _ _ s;rw[yK lo c n];show wpAny _ _ (pure _) _ _ s;rw[yL];exact IG h
def yN(a:Array II)(i k:Nat):((Ju k).filterMap λ(m:Nat)=>a[((i:Int)+(m:Int)*1).toNat]?).toArray=((a.toList.drop i).take k).toArray:=by
 have e:(λ(m:Nat)=>a[((i:Int)+(m:Int)*1).toNat]?)=λm=>a[i+m]?:=by
  funext m;have:((i:Int)+(m:Int)*1).toNat=i+m:=by walk_at "o"
  rw[this]
 rw[e];have:=pick_run a i k;rw[List.filterMap_map]at this;have b:(_ ∘ λx=>i+x)=λm=>a[i+m]?:=rfl;rw[b]at this;rw[this]
def cC{lo a:Option Int}{Q:II->IJ->Prop}(c:Ra s.heap t items)(hs:s.heap.IsSliceOf d j l .none)(o:QT j lo)(p:QT l a)
 (r:¬(sIx items.size 0 lo=0/\sIx items.size items.size a=items.size))
 (h:Q (.ref s.heap.objs.size) { s with heap:=s.heap.push { cls:=.type "tuple",data:=.seq ((items.toList.drop (sIx items.size 0 lo)).take (sIx items.size items.size a - sIx items.size 0 lo)).toArray } })
 (u:items.size<=sizeLine):wpAny (model prog w) A (getItem (.ref t) (.ref d)) Q E s:=by
 have b:sizeOk (.seq ((items.toList.drop (sIx items.size 0 lo)).take (sIx items.size items.size a - sIx items.size 0 lo)).toArray):=by
  show((items.toList.drop _).take _).toArray.size<=sizeLine;rw[Ja,KG,Pf,L0];walk_at "o"
 have x:sIx _ _ a<=items.size:=yJ _ _ (IM _) a;obtain⟨os,e,f,v⟩:=id hs;have g:s.TypeIs (.ref d) "slice":=⟨os,e,f⟩;unfold getItem
 try with_reducible refine JE ?_
 first | refine IE _ | skip
 refine IE (wpAny_sequenceKey c.typeIs rfl ?_);refine IE (JF c.typeIs JU
  (JA JU c.typeIs Qo ?_ (args_tuple_getitem _ _)))
 show wpAny _ _ (NY _>>=_) _ _ s;refine IE (tupleItemsOf_ c ?_);refine IE (Og g ?_);refine IE (yM hs o p ?_);have i:¬((((sIx items.size 0 lo):Int) == 0&&(1:Int) == 1&&(sIx items.size items.size a - sIx items.size 0 lo) == items.size)=true):=by
  intro q;rw[Jq,Jq]at q;have y:(_:Int)=0:=eq_of_beq q.1.1;have z:=eq_of_beq q.2;exact r ⟨by walk_at "o",by walk_at "o"⟩
 show wpAny _ _ (if _=true then _ else _) _ _ s;rw[if_neg i,yN];first
  | exact IE (Ke (IG ⟨_,rfl,IG h⟩) b)
  | exact IE _
  | exact IE _
  | exact IE _
end
end HT
namespace L2
open PySem PySem.Spec PyProof.Rows
abbrev TO:=St->Hp->(Option Int->Hp->Prop)->Prop
def PO(X:Cx)(e:Option Expr)(t:TO):Prop:=
 ∀(a:List (Addr×Obj))(s:IJ)(σ:St)(H:Hp)(Q:Option Int->Hp->Prop),Inv X a σ H s->t σ H Q->
  wpAny (model X.prog X.w) X.A (evalPart e X.env) (λu c=>∃o b,Inv X a σ b c/\QT u o/\Q o b) X.xe s
def tNoPart:TO:=λ_ H Q=>Q none H
def yO(t:TE):TO:=λa H Q=>t a H λx b=>∃i,x=.int i/\Q (some i) b
def Q4:∀{a:List II},ay (ns.map V.int) a->Nq a ns:=by
 induction ns with
 | nil=>intro a r;cases r;exact .nil
 | cons n ns ih=>
   intro a r;cases r with
   | cons b c=>
     obtain⟨t,e⟩:=b;subst e;exact .cons n t (ih c)
section
variable{X:Cx}{e:Expr}{te:TE}{lo hi:Option Expr}{tl th:TO}{pos p2:Pos}
def yP:PO X none tNoPart:=by
 intro a s b H Q I h;exact IG ⟨none,H,I,.none,h⟩
def yQ(h:PE X e te):PO X (some e) (yO te):=by
 intro a s b H Q I c;refine aB (h a s b H _ I c) λu m d=>?_;obtain⟨x,f,g,j,l⟩:=d;obtain⟨i,rfl,q⟩:=l;obtain⟨t,rfl⟩:=j;exact⟨some i,f,g,.int i t,q⟩
def iT(X:Cx)(r:V->Option Int->Option Int->Hp->VK->Prop):Prop:=
 ∀(a:List (Addr×Obj))(s:IJ)(σ:St)(H:Hp)(x:V)(v b c:II)(lo hi:Option Int)(d:Addr)(Q:VK),Inv X a σ H s->RelV x v->s.heap.IsSliceOf d b c .none->QT b lo->QT c hi->r x lo hi H Q->
  ∃T id,typeLookup (.type T) "__getitem__" = pure (some (.builtin id))/\s.TypeIs v T/\wpAny (model X.prog X.w) X.A (getItem v (.ref d)) (EP X a σ Q) X.xe s
def iT.or(h:iT X r)(h':iT X b):iT X (λx lo hi H Q=>r x lo hi H Q\/b x lo hi H Q):=by
 intro a s c H x v d f lo hi g Q I i j l m q;rcases q with q | q
 .exact h a s c H x v d f lo hi g Q I i j l m q
 .exact h' a s c H x v d f lo hi g Q I i j l m q
def yR(r:V->Option Int->Option Int->Hp->VK->Prop)(te:TE)(tl th:TO):TE:=λa H Q=>te a H λx b=>tl a b λl c=>th a c λu d=>r x l u d Q
def yS(o:iT X r)(he:PE X e te)(p:PO X lo tl)(w:PO X hi th):PE X (.Subscript e (.Slice lo hi none p2) pos) (yR r te tl th):=by
 intro a s c H Q I h;refine Qd (aB (he a s c H _ I h) λv y i=>?_);obtain⟨x,z,A,B,C⟩:=i;refine wpAny_Slice (aB (p a y c z _ A C) λj D ⟨l,E,G,J,L⟩=>aB (w a D c E _ G L) λm g i=>?_);obtain⟨u,n,N,O,U⟩:=i;refine IG ?_;have Y:Inv X a c n { g with heap:=g.heap.push { cls:=.type "slice",data:=.fields #[j,m,.none] } }:=N.kept λb ob q=>IF _ q;obtain⟨T,id,hT,ht,hg⟩:=o a { g with heap:=g.heap.push { cls:=.type "slice",data:=.fields #[j,m,.none] } } c n x v j m l u _ Q Y B (Heap.IsSliceOf.new ..) J O U;exact tail_any ht hT hg rfl
noncomputable def iU(a:List V)(lo hi:Option Int):List V:=(a.drop (HT.sIx a.length 0 lo)).take (HT.sIx a.length a.length hi - HT.sIx a.length 0 lo)
def su(a:List V)(lo hi:Option Int):(iU a lo hi).length<=a.length:=by
 unfold iU;rw[KG,Pf];walk_at "o"
def yT(K:IH):V->Option Int->Option Int->Hp->VK->Prop:=λx lo hi H Q=>∃a b,x=.ref a/\cp K H a b/\
 ¬(HT.sIx b.length 0 lo=0/\HT.sIx b.length b.length hi=b.length)/\∀p,H p=none->Q (.ref p) (ax H p (.tup (iU b lo hi)))
def yU:iT X (yT X.K):=by
 intro f s w H x v y z lo hi A Q I l m n o h;obtain⟨a,g,rfl,p,u,q⟩:=h;cases l;obtain⟨d,r,i,j⟩:=I.tuple p;have c:d.toArray.size=g.length:=by exact r.length.symm
 refine⟨"tuple",_,JU.lookup,i.typeIs,?_⟩;refine HT.cC i m n o (by rw[c];exact u) ?_ (by rw[c];exact j);rw[c];refine⟨.ref _,_,I.laid (λb B q=>IF _ q) (IM _) ?_,rfl,q _ (I.hok.fresh (IM _))⟩;exact⟨Jt (su g lo hi) j,_,(r.drop _).take _,Ra.new _ _⟩
def sv(K:IH):R2:=λx y H Q=>∃a b d c,x=.ref a/\y=.ref b/\cp K H a d/\cp K H b c/\d≠[]/\d.length+c.length<=sizeLine/\
 (c=[]->Q (.ref a) H)/\(c≠[]->∀p,H p=none->Q (.ref p) (ax H p (.tup (d++c))))
def ay.nil_iff(r:ay a b):b=[]↔a=[]:=by
 cases r with
 | _=>simp
def op_catT:bQ X (binaryOp .Add) (sv X.K):=by
 intro f s B H x y v u Q I j l h;obtain⟨a,b,C,D,rfl,rfl,m,n,o,g,p,r⟩:=h;cases j;cases l;obtain⟨A,d,p1,_⟩:=I.tuple m;obtain⟨i,c,p2,_⟩:=I.tuple n;refine HT.gq p1 p2 (λz=>o (d.nil_iff.mp z)) (λz=>⟨.ref a,H,I,rfl,p (c.nil_iff.mp z)⟩) (λz=>?_) (by rw[<-d.length,<-c.length];exact g);refine⟨.ref _,_,I.laid (λb E q=>IF _ q) (IM _) ?_,rfl,r (λw=>z (c.nil_iff.mpr w)) _ (I.hok.fresh (IM _))⟩;exact⟨by rw[Jo];exact g,_,d.append c,Ra.new _ _⟩
end
noncomputable def ixN(n:Nat)(i:Int):Option Nat:=if 0<=i then(if i<n then some i.toNat else none) else if -(n:Int)<=i then some (i+n).toNat else none
noncomputable def atI{a:Type}(b:List a)(i:Int):Option a:=(ixN b.length i).bind λj=>b[j]?
def yV(h:ixN n i=some j):seqIndex? i n=some j/\j<n/\-(n:Int)<=i/\i<n:=by
 unfold ixN at h;by_cases b:0<=i
 .rw[if_pos b]at h;by_cases a:i<n
  .rw[if_pos a]at h;have e:_=j:=Jw h;exact⟨by rw[seqIndex_of b a,e],by walk_at "o",by walk_at "o",a⟩
  .rw[if_neg a]at h;cases h
 .rw[if_neg b]at h;by_cases a : -(n:Int)<=i
  .rw[if_pos a]at h;have e:=Jw h;exact⟨by rw[seqIndex_neg (by walk_at "o") a,e],by walk_at "o",a,by walk_at "o"⟩
  .rw[if_neg a]at h;cases h
def sx{b:Type}{a:List b}{v:b}(h:atI a i=some v):∃j,seqIndex? i a.length=some j/\a[j]?=some v/\j<a.length/\-(a.length:Int)<=i/\i<a.length:=by
 unfold atI at h;cases e:ixN _ i with
 | none=>rw[e]at h;cases h
 | some j=>
   rw[e]at h;obtain⟨c,d,f,g⟩:=yV e;exact⟨j,c,h,d,f,g⟩
def oE(b:Expr):Prop:=∀o i,subscripted b false o i=operate [o,i] (getItem o i)
def hJ(X:Cx)(r:R2):Prop:=
 ∀(c a:Expr)(b:List (Addr×Obj))(s:IJ)(σ:St)(H:Hp)(x y:V)(v u:II)(Q:VK),Inv X b σ H s->RelV x v->RelV y u->r x y H Q->
  subscripted a false v u=operate [v,u] (getItem v u)->wpAny (model X.prog X.w) X.A (subscriptTail c a v u) (EP X b σ Q) X.xe s
def oF(X:Cx)(id:String)(r:V->List V->Hp->VK->Prop):Prop:=
 ∀(a:List (Addr×Obj))(s:IJ)(σ:St)(H:Hp)(x:V)(b:List V)(v:II)(c:List II)(Q:VK),Inv X a σ H s->RelV x v->ay b c->r x b H Q->
  wpAny (model X.prog X.w) X.A (call (.builtin id) (v::c)) (EP X a σ Q) X.xe s
section
variable{X:Cx}{a b:Expr}{ta tb:TE}{pos:Pos}
def hJ.or(h:hJ X r)(h':hJ X f):hJ X (λx y H Q=>r x y H Q\/f x y H Q):=by
 intro c d e s g H x y v u Q I i j q l;rcases q with q | q
 .exact h c d e s g H x y v u Q I i j q l
 .exact h' c d e s g H x y v u Q I i j q l
def yW(d:hJ X r)(e:PE X a ta)(f:PE X b tb)(hs:oE b):PE X (.Subscript a b pos) (kO r ta tb):=by
 intro c s g H Q I h;exact Qd (oj e f I h λv u i x y j l m n q=>d a b c i g j x y v u Q l m n q (hs _ _))
def sy(K:IH):R2:=λx y H Q=>∃p c i v,x=.ref p/\y=.int i/\bu K H p c/\atI c i=some v/\Q v H
def sA(K:IH):R2:=λx y H Q=>∃p c i v,x=.ref p/\y=.int i/\cp K H p c/\atI c i=some v/\Q v H
def ix_list:hJ X (sy X.K):=by
 intro e f c s C H x y v u Q I D E h o;obtain⟨p,U,i,z,rfl,rfl,G,J,q⟩:=h;cases D;obtain⟨t,rfl⟩:=E;obtain⟨g,r,l,Y⟩:=I.list G;obtain⟨j,d,L,h3,N,O⟩:=sx J;obtain⟨w,A,m⟩:=r.get L;have T:=r.length;have hn:=oq;have fin:EP X c C Q w s:=⟨z,H,I,m,q⟩;by_cases B:0<=i
 .have n:i.toNat=j:=by
   rw[seqIndex_of B O]at d;exact Jw d
  exact item_listR l.isList B (by walk_at "o") (by rw[n];simpa using A) fin o
 .have n:(i+(g.toArray.size)).toNat=j:=by
   rw[seqIndex_neg (by walk_at "o") N]at d;rw[Ja,<-T];exact Jw d
  exact Pp (x:=w) l.isList.typeIs slot_list_getitem.lookup
   (wpAny_getItem_list_neg l.isList (by walk_at "o") (by rw[Ja]<;>walk_at "o") (by walk_at "o") (by rw[n];simpa using A) ⟨rfl,fin⟩) o
def yX:hJ X (sA X.K):=by
 intro d e c s l H x y v u Q I m n h o;obtain⟨p,L,i,z,rfl,rfl,A,B,q⟩:=h;cases m;obtain⟨t,rfl⟩:=n;obtain⟨C,r,g,N⟩:=I.tuple A;obtain⟨j,D,E,O,T,U⟩:=sx B;obtain⟨w,G,f⟩:=r.get E;have J:=r.length;have Y:=oq;have fin:EP X c l Q w s:=⟨z,H,I,f,q⟩;exact Pp g.typeIs slot_tuple_getitem.lookup
  (getItem_tuple g (by walk_at "o") (by walk_at "o") (by rw[Ja,<-J];exact D) (by simpa using G) ⟨rfl,fin⟩) o
def yY(lo c:Option Int)(n:Nat):(sliceBounds lo c none n).1=((HT.sIx n 0 lo:Nat):Int)/\(sliceBounds lo c none n).2.1=((HT.sIx n n c:Nat):Int)/\(sliceBounds lo c none n).2.2=1:=by
 have z:∀(i:Int)(d:Nat),max 0 (min (if i<0 then i+n else i) (n:Int))=((HT.sIx n d (some i):Nat):Int):=λi d=>by
  rw[<-HT.cQ i n d];by_cases h:i<0
  .rw[if_pos h,if_pos h,Int.min_eq_left (by walk_at "o"),Int.max_comm]
  .rw[if_neg h,if_neg h];exact Int.max_eq_right (Int.le_min.mpr ⟨Int.not_lt.mp h,ME n⟩)
 refine⟨?_,?_,rfl⟩
 .cases lo with
  | none=>rfl
  | some i=>exact z i 0
 .cases c with
  | none=>rfl
  | some i=>exact z i n
def yZ(c:List II)(lo d:Option Int):slicePick c.toArray lo d none=((c.drop (HT.sIx c.length 0 lo)).take (HT.sIx c.length c.length d - HT.sIx c.length 0 lo)).toArray:=by
 obtain⟨e,f,g⟩:=yY lo d _;unfold slicePick;rw[e,f,g];simp only[sliceRange_one,pick_run]<;>rfl
def za(K:IH):V->Option Int->Option Int->Hp->VK->Prop:=λx lo d H Q=>∃a c,x=.ref a/\bu K H a c/\∀p,H p=none->Q (.ref p) (ax H p (.lst (iU c lo d)))
def sl_list:iT X (za X.K):=by
 intro d s u H x v w y lo f z Q I g i j l h;obtain⟨a,m,rfl,n,q⟩:=h;cases g;obtain⟨o,r,e,p⟩:=I.list n;have c:=r.length;refine⟨"list",_,slot_list_getitem.lookup,e.isList.typeIs,?_⟩;refine wpAny_getItem_list_slice e.isList i j l .none nofun ?_ (by rw[Ja]<;>walk_at "o");rw[yZ,<-c];refine⟨.ref _,_,I.laid (t':=_) (λb A q=>IF _ q) (IM _) ?_,rfl,q _ (I.hok.fresh (IM _))⟩;exact⟨Jt (su m lo f) p,_,0,(r.drop _).take _,IP _ rfl⟩
noncomputable def mF:V->Bool
 | .non=>true
 | .bl _=>true
 | .int _=>true
 | .str _=>true
 | _=>false
noncomputable def oG:V->V->Bool
 | .non,.non=>true
 | .bl a,.bl b=>a == b
 | .bl a,.int b=>(if a then 1 else 0) == b
 | .int a,.bl b=>a == (if b then 1 else 0)
 | .int a,.int b=>a == b
 | .str a,.str b=>a == b
 | _,_=>false
def zb(e:RelV y u)(c:RelV x v)(g:mF y=true)(f:mF x=true):Ky A s u v (oG y x):=by
 cases y with
 | non=>
   cases e;cases x with
   | non=>cases c;exact Ky.same _
   | bl b=>cases c;exact Ky.none_bool b
   | int b=>obtain⟨t,rfl⟩:=c;exact Ky.none_int b t
   | str b=>obtain⟨t,rfl⟩:=c;exact Ky.none_str b t
   | _=>exact absurd (show false=true from f) Kh
 | bl a=>
   cases e;cases x with
   | non=>cases c;exact Ky.bool_none a
   | bl b=>cases c;exact Ky.bool_bool a b
   | int b=>obtain⟨t,rfl⟩:=c;exact Ky.bool_int a b t
   | str b=>obtain⟨t,rfl⟩:=c;exact Ky.bool_str a b t
   | _=>exact absurd (show false=true from f) Kh
 | int a=>
   obtain⟨d,rfl⟩:=e;cases x with
   | non=>cases c;exact Ky.int_none a d
   | bl b=>cases c;exact Ky.int_bool a d b
   | int b=>obtain⟨t,rfl⟩:=c;exact Ky.int_int a d b t
   | str b=>obtain⟨t,rfl⟩:=c;exact Ky.int_str a d b t
   | _=>exact absurd (show false=true from f) Kh
 | str a=>
   obtain⟨d,rfl⟩:=e;cases x with
   | non=>cases c;exact Ky.str_none a d
   | bl b=>cases c;exact Ky.str_bool a d b
   | int b=>obtain⟨t,rfl⟩:=c;exact Ky.str_int a d b t
   | str b=>obtain⟨t,rfl⟩:=c;exact Ky.str_str a d b t
   | _=>exact absurd (show false=true from f) Kh
 | _=>exact absurd (show false=true from g) Kh
def zc:aT X (.builtin "len") (λj H Q=>∃p e,j=[.ref p]/\(bu X.K H p e\/cp X.K H p e)/\Q (.int e.length) H):=by
 intro l s o H j v Q I r h;obtain⟨p,e,rfl,d,q⟩:=h;obtain⟨u,rfl,m⟩:=Z4 r;cases m;have w:=oq;rcases d with d | d
 .obtain⟨f,g,i,n⟩:=I.list d;have c:=g.length;exact Calls.call_len_list i.isList (by simp only[Ja]<;>walk_at "o") ⟨.int _,H,I.tok _,⟨s.toks+1,by rw[Ja,c]⟩,q⟩
 .obtain⟨f,g,i,n⟩:=I.tuple d;have c:=g.length;exact len_tuple i (by simp only[Ja]<;>walk_at "o") ⟨.int _,H,I.tok _,⟨s.toks+1,by rw[Ja,c]⟩,q⟩
def aT.or(h:aT X f r)(h':aT X f e):aT X f (λd H Q=>r d H Q\/e d H Q):=by
 intro c s g H d i Q I j q;rcases q with q | q
 .exact h c s g H d i Q I j q
 .exact h' c s g H d i Q I j q
def zd:aT X (.type "list") (λD H Q=>∃p g,D=[.ref p]/\(bu X.K H p g\/cp X.K H p g)/\∀l,H l=none->Q (.ref l) (ax H l (.lst g))):=by
 intro i s L H D O Q I r h;obtain⟨p,g,rfl,j,q⟩:=h;obtain⟨u,rfl,N⟩:=Z4 r;cases N;have fin:∀(c:List II),ay g c->_<=sizeLine->∀(h':Heap)(d),_->
  h'.get? _=some { cls:=.type "list",dict:=none,data:=.seq _ d,slots:=#[] }->EP X i L Q _ { s with heap:=h' }:=λc f m h' d v e=>
  ⟨.ref _,_,I.laid v (IM _) (show aA _ X.w _ h' _ (.lst g)from⟨m,c,d,f,e⟩),rfl,q _ (I.hok.fresh (IM _))⟩
 rcases j with j | j
 .obtain⟨c,f,z,m⟩:=I.list j;have x:=f.length;obtain⟨o,A,B,n,C⟩:=z.isList;exact call_list_seq p (.inl rfl) A B C (λh' d v e=>fin c f m h' d v e) (by simp only[Ja]<;>walk_at "o")
 .obtain⟨c,f,z,m⟩:=I.tuple j;have x:=f.length;obtain⟨o,A,B,n,C⟩:=z;exact call_list_seq p (.inr rfl) A B C (λh' d v e=>fin c f m h' d v e) (by simp only[Ja]<;>walk_at "o")
def oH(K:IH)(T:String)(x:V)(H:Hp):Prop:=match x with
 | .str _=>T="str"
 | .int _=>T="int"
 | .ref p=>(T="list"/\∃d,bu K H p d)\/(T="tuple"/\∃o,K.lookup p=some o/\o.cls=.type "tuple"/\o.dict=none)\/
  (T="dict"/\((∃c,H p=some (.dK c))\/∃c,H p=some (.dT c)))\/(T="set"/\∃S n,H p=some (.set S n))
 | _=>False
def sC(I:Inv X g σ H s)(r:RelV x v)(h:oH X.K T x H) :
 s.TypeIs v T/\∀a,v=.ref a->∃q,s.heap.get? a=some q/\q.dict=none:=by
 cases x with
 | str z=>
   obtain⟨t,rfl⟩:=r;cases(show T="str" from h);exact⟨typeIs_str s z t,λ_ e=>nomatch e⟩
 | int i=>
   obtain⟨t,rfl⟩:=r;cases(show T="int" from h);exact⟨typeIs_int s i t,λ_ e=>nomatch e⟩
 | ref p=>
   cases r;rcases h with⟨rfl,B,w⟩ | ⟨rfl,o,d,y,j⟩ | ⟨rfl,d⟩ | ⟨rfl,S,n,d⟩
   .obtain⟨A,_,u,_⟩:=I.list w;refine⟨u.isList.typeIs,λa e=>?_⟩;cases e;obtain⟨o,n,e,c,j,_⟩:=u;exact⟨o,e,j⟩
   .refine⟨⟨o,I.kIn p o d,y⟩,λa e=>?_⟩;cases e;exact⟨o,I.kIn _ o d,j⟩
   .have z:∃o,s.heap.get? p=some o/\o.ExactDict:=by
     rcases d with⟨l,d⟩ | ⟨l,d⟩
     .obtain⟨_,_,_,_,o,_,_,e,f,_⟩:=I.hok p _ d;exact⟨o,e,f⟩
     .obtain⟨_,_,_,_,o,_,_,e,f,_⟩:=I.hok p _ d;exact⟨o,e,f⟩
    obtain⟨o,e,f⟩:=z;refine⟨⟨o,e,f.1⟩,λa m=>?_⟩;cases m;exact⟨o,e,f.2.1⟩
   .obtain⟨o,_,_,_,e,f,_⟩:=I.hok p _ d;refine⟨⟨o,e,f.1⟩,λa m=>?_⟩;cases m;exact⟨o,e,f.2.1⟩
 | _=>exact Jl h
def ze(K:IH)(T:String)(r:V->List V->Hp->VK->Prop)(d:TE):TE:=λe H Q=>d e H λx c=>oH K T x c/\r x [] c Q
def zf(K:IH)(T:String)(r:V->List V->Hp->VK->Prop)(e:TE)(t:TA):TE:=λc H Q=>e c H λx d=>oH K T x d/\t c d λf g=>r x f g Q
variable{o e:Expr}{es:List Expr}{to:TE}{t:TA}{name:Str}{apos cpos:Pos}{T id:String}{r:V->List V->Hp->VK->Prop}
def zg(j:PlainAttrs T)(slot:Slot T name id)(d:typeOf (.builtin id)=pure (.type "method_descriptor"))(l:oF X id r)(m:PE X o to)
 (hbase:attributeBase o name X.env (eval o X.env)=eval o X.env:=by rfl) (hline:(apos.endLine == cpos.line)=true:=by rfl):PE X (.Call (.Attribute o name apos) [] [] cpos) (ze X.K T r to):=by
 intro c s f H Q I h;refine wpAny_Call_method0_late hbase hline (aB (m c s f H _ I h) λv n p=>?_);obtain⟨x,q,g,i,u,w⟩:=p;obtain⟨y,z⟩:=sC g i u;exact⟨T,id,j,slot,d,y,z,Lv rfl (Qp (l c n f q x [] v [] Q g i .nil w))⟩
def zh(m:PlainAttrs T)(slot:Slot T name id)(f:typeOf (.builtin id)=pure (.type "method_descriptor"))(n:oF X id r)(p:PE X o to)(q:PA X (e::es) t)
 (hbase:attributeBase o name X.env (eval o X.env)=eval o X.env:=by rfl)
 (hfew:((backTo cpos (starEach (e::es) X.env)).all (λx=>!x.1)&&(backToKw cpos (keywordEach [] X.env)).all (λx=>x.1.isSome)
  &&decide ((e::es).length+([]:List Qq).length+(if([]:List Qq).isEmpty then 0 else 1)<30))=true:=by rfl)
 (hline:(apos.endLine == cpos.line)=true:=by rfl) (hs:starEach (e::es) X.env=(false,eval e X.env)::starEach es X.env:=by rfl) (d:(backTo cpos (starEach es X.env)).any (·.1)=false:=by rfl) :
 PE X (.Call (.Attribute o name apos) (e::es) [] cpos) (zf X.K T r to t):=by
 intro c s g H Q I h;refine wpAny_Call_method_late hbase hfew hline rfl (aB (p c s g H _ I h) λv u w=>?_);obtain⟨x,y,i,j,z,A⟩:=w;obtain⟨B,C⟩:=sC i j z;refine⟨T,id,m,slot,f,B,C,?_⟩;have l:=q cpos c u g y _ i A;rw[hs]at l ⊢;refine Lv (by show(false||(backTo cpos _).any _)=false;rw[d]<;>rfl) (Ml ?_);exact aB l λD E ⟨G,J,L,N,O⟩=>n c E g J x G v D Q L j N O
/- xs.append(e),list.index on a module's tuple .. are oF facts of 06m -/
end
def sD(X:Cx)(id:String)(r:V->List V->Hp->VK->Prop):Prop:=
 ∀(a:List (Addr×Obj))(s:IJ)(σ:St)(H:Hp)(x:V)(b:List V)(v:II)(c:List II)(Q:VK),Inv X a σ H s->RelV x v->ay b c->r x b H Q->
  wpAny (model X.prog X.w) X.A (call (.builtin id) (v::c)) (EP X a σ Q) X.xe s
def ay.one:∀{x:V}{a:List II},ay [x] a->∃u,a=[u]/\RelV x u:=by
 intro x a h;cases h with
 | cons r t=>cases t;exact⟨_,rfl,r⟩
theorem ay.zero:∀{a:List II},ay [] a->a=[]
 | _,.nil=>rfl
def Inv.lset{H:Hp}{s:IJ}{l:Addr}{xs:List V}{ys:List V}{c a:List II}{n:Nat}{f:Array II->Array II}{t':Nat}(I:Inv X pins σ H s)(i:H l=some (.lst xs))
 (e:s.heap.get? l=some { cls:=.type "list",data:=.seq c.toArray n }) (j:f c.toArray=a.toArray) (m:ay ys a) (hz:ys.length<=sizeLine) :
 Inv X pins σ (ax H l (.lst ys)) { s with heap:=s.heap.update l (NI f),toks:=t' }:=by
 have q:=PySem.IsL.update e f;rw[j]at q;refine I.write (by rw[i];exact trivial) (.inl rfl) (λr u o p=>(JS _ _ (Kk o)).trans p) ⟨_,q⟩ ?_;exact⟨hz,a,_,m,q⟩
def Inv.lnew(I:Inv X pins σ H s)(f:ay ys a)(hz:ys.length<=sizeLine) :
 Inv X pins σ (ax H s.heap.objs.size (.lst ys)) { s with heap:=s.heap.push { cls:=.type "list",data:=.seq a.toArray },toks:=t' }:=
 I.laid (λ_ _ q=>IF _ q) (IM _) ⟨hz,a,0,f,IP _ rfl⟩
def Inv.fresh(I:Inv X pins σ H s):H s.heap.objs.size=none:=I.hok.fresh (IM _)
def Inv.lstM(I:Inv X pins σ H s)(d:H l=some (.lst xs)):xs.length<=sizeLine/\∃(a:List II)(n:Nat),ay xs a/\xs.length=a.length/\s.heap.get? l=some { cls:=.type "list",data:=.seq a.toArray n }:=by
 obtain⟨z,a,n,r,e⟩:=I.hok l _ d;exact⟨z,a,n,r,r.length,e⟩
section
variable{X:Cx}
def rAppend:V->List V->Hp->VK->Prop:=λx b H Q=>∃l a y,x=.ref l/\b=[y]/\H l=some (.lst a)/\a.length<sizeLine/\Q .non (ax H l (.lst (a++[y])))
def zi:sD X "list.append" rAppend:=by
 intro a s i H x j v m Q I c d h;obtain⟨l,o,y,rfl,rfl,b,p,q⟩:=h;cases c;obtain⟨u,rfl,f⟩:=d.one;obtain⟨z,g,n,r,w,e⟩:=I.lstM b;refine call_meets F.slot_list_append ⟨_,e,rfl⟩ F.entry_list_append (F.args_list_append_2 _ _) (PySem.list_append l _ n u (by rw[Ja];walk_at "o")) ⟨e,?_⟩;refine⟨.non,_,I.lset b e (by simp) (r.append (.cons f .nil)) ?_,rfl,q⟩;rw[Jo,List.length_singleton];walk_at "o"
def rClear:V->List V->Hp->VK->Prop:=λx a H Q=>∃l b,x=.ref l/\a=[]/\H l=some (.lst b)/\Q .non (ax H l (.lst []))
def zj:sD X "list.clear" rClear:=by
 intro b s i H x j v m Q I d f h;obtain⟨l,o,rfl,rfl,c,q⟩:=h;cases d;have a:=f.zero;subst a;obtain⟨z,g,n,r,p,e⟩:=I.lstM c;refine call_meets F.slot_list_clear ⟨_,e,rfl⟩ F.entry_list_clear (F.args_list_clear_1 _) (AutoSeq1.list_clear_list_0 l _ n (by rw[Ja];walk_at "o")) ⟨e,?_⟩;exact⟨.non,_,I.lset c e rfl .nil (LU _),rfl,q⟩
def rCat:R2:=λx y H Q=>∃l b a c,x=.ref l/\y=.ref b/\H l=some (.lst a)/\H b=some (.lst c)/\a.length+c.length<=sizeLine/\∀p,H p=none->Q (.ref p) (ax H p (.lst (a++c)))
def zk:bQ X (binaryOp .Add) rCat:=by
 intro d s A H x y v u Q I f g h;obtain⟨l,b,B,C,rfl,rfl,i,j,D,q⟩:=h;cases f;cases g;obtain⟨z,c,n,r,E,e⟩:=I.lstM i;obtain⟨G,a,J,m,o,p⟩:=I.lstM j;refine PySem.P.add_list e p ?_ (by rw[Ja,Ja];walk_at "o");have w:c.toArray++a.toArray=(c++a).toArray:=by simp
 rw[w];exact⟨.ref _,_,I.lnew (r.append m) (by rw[Jo];walk_at "o"),rfl,q _ I.fresh⟩
end
end L2
namespace Att
open PySem PySem.W PySem.Calls PyProof.Rows
def zl:∀(ns:List Int)(vs:List II),WellAll P h vs (ns.map WData.int)->Nq vs ns:=by
 intro ns;induction ns with
 | nil=>
   intro vs w;cases w;exact .nil
 | cons n ns ih=>
   intro vs w;cases w with
   | cons a b=>
     cases a;exact .cons _ _ (ih _ b)
def zm{l:OpenLaw}(s:l.most=some n){args:List WData}{b:List II}
 (c:l.row.toRowW.claim.pre args=true) (j:WellAll P h b args) :
 ∃a o ns,b=[Jf a]/\args=[WData.list (ns.map WData.int)]/\h.get? a=some { cls:=.type "list",data:=.seq o.toArray }/\Nq o ns/\ns.length<=n:=by
 have m:WShape.hasAll [] args [.list .int]=true:=(pre_splitW c).1;have u:l.pre.holds [] { args:=args }=true:=(pre_splitW c).2;obtain⟨d,r,rfl,v,w⟩:=hasAllW_cons m;obtain rfl:=hasAllW_nil w;obtain⟨C,rfl,x⟩:=hasW_list v;obtain⟨ns,rfl⟩:=items_int x;have e:ns.length<=n:=by
  have g:(WTm.not (.lt (.lit (.int (n:Int))) (.len (.arg 0)))).holds [] { args:=[.list (ns.map .int)] }=true:=by
   have g:=(holds_andW u).1;rw[s]at g;exact g
  have i:=condW_of g (w_not (w_lt w_lit (w_len_list (w_arg rfl))));rw[IK]at i;refine Nat.le_of_not_lt λq=>?_;have y:(n:Int)<((ns.length)):=by walk_at "o"
  first
   | (rw[decide_eq_true y]at i;exact absurd i (by simp))
   | (simp at i)
 cases j with
 | cons z A=>
   cases A;cases z with
   | list B f=>exact⟨_,_,ns,rfl,rfl,B,zl ns _ f,e⟩
def zo(l:OpenLaw)(args:List WData):l.row.toRowW.claim.post args (.bool true) args=true:=
 postW_of
  (show WShape.has [] _ .bool=true by first | rfl | decide | simp[WShape.has])
  (show(WTm.eq .res _).value [] { args:=args,res:=some _,after:=args }=some _ from w_eq_bool (w_res rfl) w_lit) rfl
def zp{l:OpenLaw}{XP:(Str->Option II)->Heap->Prop}{B:JJ->Heap->Prop}{d:DefRec}
 (J:l.most=some n) (u:d.params.defaults=[])
 (call:∀(w:JJ)(e b:IJ)(mg v:Str->Option II)(i:Addr)(o:Obj)(x cd g:II)(a:Addr)(vs:List II)(ns:List Int),
  Ground q c [] XP w e mg v b.heap->B w b.heap->
  b.heap.get? i=some o->o.data=.func (docDef d.name d.params d.body d.scope x cd g)->b.heap.CodeRec cd d.name->mg d.name=some (.ref i)->
  b.heap.get? a=some { cls:=.type "list",data:=.seq vs.toArray }->Nq vs ns->ns.length<=n->b.gens=#[]->
  codeAny (model l.prog w) callerA (.call (.ref i) ⟨[.ref a],[]⟩) (λr s=>r=.ok (.ret (.bool true))/\OldK b.heap s.heap/\s.os=b.os/\OJ s.gens) b) :
 WalkO q c XP B l.row.toRowW d [] (λf vs=>PySem.call f vs):=by
 intro w e b mg v G Y i o x cd g L kV N O y D z Q E H as j I T A U;obtain rfl:L=.none:=Dflts.none D u;obtain rfl:kV=.none:=Dflts.noKw D;obtain⟨a,vs,ns,rfl,rfl,m,h,p⟩:=zm J j A;refine enter_call (LR (call w e b mg v i o x cd g a vs ns G Y N (fd_plain O) y z m h p Q) λr s hq=>?_);obtain⟨rfl,h2,h3,h4⟩:=hq;exact⟨.inl ⟨.bool true,.bool true,[],rfl,λ_=>rfl,.bool true,zo l _,λ_=>⟨NC.nil,λ_ hm=>(nomatch hm)⟩⟩,h2,h3,h4⟩
end Att
namespace L2
open PySem PySem.Spec PyProof.Rows
theorem oI:∀{vs:List II}{ns:List Int},Nq vs ns->ay (ns.map V.int) vs
 | _,_,.nil=>.nil
 | _,_,.cons n t h=>.cons ⟨t,rfl⟩ (oI h)
def oJ(H:Hp):Prop:=∀b,H b=none\/∃o a,H b=some (.frz o (.lst a))
def zt{K:IH}{CX:CXT}{k:Nat}{O a:Addr}{fd:Jh}{x:Str}{sp:Sp}{c:IJ}{vs:List II}{ns:List Int}
 (KX:K.In c.heap) (y:c.heap.Ns mainGlobals mg) (f:c.heap.Ns builtinsNs N) (Q:∀x:Str,x≠"__name__"->N x=bootBuiltins x) (A:c.heap.NoLimit) (hg:c.gens=#[])
 (L:c.heap.get? a=some { cls:=.type "list",data:=.seq vs.toArray }) (hi:Nq vs ns) (hl:ns.length<=sizeLine) (hr:aK k callerA)
 (F:∀g:Heap,K.In g->g.Ns mainGlobals mg->av P w K mg g CX k O fd [x] sp) (p:∀(s:IJ)(u:II),Rb s fd ⟨[u],[]⟩ [(x,u)])
 (T:∀H:Hp,oJ H->bu K H a (ns.map V.int)->sp [.ref a] H (λv _=>v=.bl true) λ_ _ _=>False)
 (U:∀H e i,CX [] H c (λ_ _ _=>False) e i->False) :
 codeAny (model P w) callerA (.call (.ref O) ⟨[.ref a],[]⟩) (λr i=>r=.ok (.ret (.bool true))/\OldK c.heap i.heap/\i.os=c.os/\OJ i.gens) c:=by
 have rv:=oI hi;have C:=hi.length;have l:∀H:Hp,oJ H->bu K H a (ns.map V.int)->bK P w H c.heap->(∀b,H b≠none->b=a)->(H a≠none->K.lookup a=none)->
  codeAny (model P w) callerA (.call (.ref O) ⟨[.ref a],[]⟩) (λr i=>r=.ok (.ret (.bool true))/\OldK c.heap i.heap/\i.os=c.os/\OJ i.gens) c:=by
  intro H hO hS D hA hK;have base_of:∀{b:Addr}{o:Obj},c.heap.get? b=some o->H b=none->(kc _ H).get? b=some o:=λe n=>wX e n;have Y:∀{b:Addr}{o:Obj}{es:Array MF}{ep:Nat},c.heap.get? b=some o->o.data=.dict es ep->H b=none:=λ{b o es ep} e d=>by
   cases q:H b with
   | none=>rfl
   | some u=>
     have e':=hA b (by rw[q];simp);subst e';rw[L]at e;cases e;have d':=d;cases d'
  have j:∀{b:Addr}{m:Str->Option II},c.heap.Ns b m->(kc _ H).Ns b m:=λ{b m} ⟨o,es,ep,e,d,r⟩=>⟨o,es,ep,base_of e (Y e d),d,r⟩;have E:=λb o e=>base_of (KX b o e) (by
   cases q:H b with
   | none=>rfl
   | some u=>
     have e':=hA b (by rw[q];simp);subst e';rw[hK (by rw[q];simp)]at e;cases e)
  have hM:Mod K mg _:=⟨E,j y,⟨N,j f,Q⟩,let⟨mc,h1,h2⟩:=A;⟨mc,j h1,h2⟩⟩;have e0:dQ P w K mg _ callerA [] c H:=⟨rfl,hM,λb o e=>wY e,PJ (wW _ _),trivial,λb f=>absurd (show b∈([])from f) nofun,D,.of_eq hg⟩;refine LR ((F _ E (j y)).run callerA [] c H ⟨[.ref a],[]⟩ [.ref a] [.ref a] _ _ hr e0 (p c _) (.cons rfl .nil) (T H hO hS)) λr i h=>?_;cases r with
  | error e=>exact(U H e i h).elim
  | ok fl=>
    cases fl with
    | next=>exact Jl h
    | brk=>exact Jl h
    | cont=>exact Jl h
    | ret u=>
      obtain⟨v,H',os,G,un,I,r',q⟩:=h;have q':=q;subst q';obtain rfl:u=QM true:=r';refine⟨rfl,OldK.of_keep λb o e=>?_,os,G⟩;cases q:H b with
      | none=>exact un.keep b o e q (by intro z;exact absurd (show b∈([])from z) nofun) nofun
      | some u=>
        rcases hO b with z | ⟨ob,xs,z⟩
        .rw[q]at z;cases z
        .have z2:=un.frzs b ob _ z;obtain⟨e1,_⟩:=D b _ z;obtain⟨e2,_⟩:=I b _ z2;rw[e]at e1;cases e1;exact e2
 cases hk:K.lookup a with
 | some o=>
   have e:=KX a o hk;rw[L]at e;cases e;refine l _ (λ_=>.inl rfl) (.inr ⟨_,_,_,hk,rfl,rfl,rfl,by rw[Ja,C];exact hl,by simpa using rv⟩) (λb u z=>by have J:=z;cases J) nofun λz=>absurd rfl z
 | none=>
   refine l (λb=>if b=a then some _ else none) (λb=>?_) (.inl (.inr ⟨{ cls:=.type "list",data:=.seq vs.toArray },if_pos rfl⟩)) (λb u z=>?_) (λb z=>?_) λ_=>hk
   .by_cases f:b=a
    .exact .inr ⟨_,_,if_pos f⟩
    .exact .inl (if_neg f)
   .by_cases f:b=a
    .have J:=(if_pos f).symm.trans z;cases J;subst f;exact⟨L,by rw[IK];exact hl,vs,_,rv,L⟩
    .have J:=(if_neg f).symm.trans z;cases J
   .by_cases f:b=a
    .exact f
    .exact absurd (if_neg f) z
abbrev aO:CXT:=λ_ _ _ _ _ _=>False
abbrev E0:XK:=λ_ _ _=>False
def kP:m4 aO X E0:=λ_ _ _ _ _ _ _ h=>h.elim
structure Fun(K:IH)(x qual:Str)(st:Stmt)(f:Addr)(fd:Jh):Prop where
 ex:∃(oc:II)(od:Option Addr)(kV doc pm:II)(an:Option Addr)(cdv ct:II)(osl:Array (Option II)),
  fd=LA x qual (L9 st) (G0 st) (C2 st) .none kV doc pm an cdv ct/\K.lookup f=some ⟨oc,od,.func fd,osl⟩/\Nd K cdv qual=true
 kp:Ln K (.ref f)=true
def Fun.ok{K:IH}{base:Heap}{x b:Str}{st:Stmt}{f:Addr}{j:Jh}{N ps:List Str}{k:Nat}{e:Sp}(F:Fun K x b st f j)(S:P6 N ps (C2 st))(len:∀vs H Q E,e vs H Q E->vs.length=ps.length)
 (d:∀(c:II)(A:JI)(a:List Env)(s:IJ)(H:Hp)(vs:List V)(Q:VK)(E:XK),aK k (A.deeper (envOfC b (C2 st) s.heap.objs.size f c))->e vs H Q E->
  ∃t,bP (p6 aO P w K mg base N b (C2 st) f c A a s H E).nox (G0 st) t/\t { nx:=λ_ l=>Q .non l,rt:=Q } (start N vs) H):av P w K mg base aO (k+1) f j ps e:=by
 obtain⟨r,u,kV,m,v,y,c,z,n,rfl,lk,g⟩:=F.ex;refine oA lk g S len λA a s H vs Q E o i=>?_;obtain⟨t,h,q⟩:=d c A a s H vs Q E o i;exact⟨t,h.nox,q⟩
def Fun.binds{K:IH}{st:Stmt}{ps:List Str}(F:Fun K x a st f i)
 (h:∀(kV b d:II)(e:Option Addr)(c ct:II)(g:List II),g.length=ps.length->bindArgs (LA x a (L9 st) (G0 st) (C2 st) .none kV b d e c ct) ⟨g,[]⟩=pure (ps.zip g)):Binds K i ps []:=by
 obtain⟨m,n,kV,b,d,e,c,ct,j,rfl,lk,l⟩:=F.ex;exact .all (h kV b d e c ct)
def zu{K:IH}{st:Stmt}{j g:Option Addr}{e:Array (Option II)}{kV d h b ct:II}(l:K.lookup f=some ⟨i,j,.func (LA x a (L9 st) (G0 st) (C2 st) .none kV d h g b ct),e⟩)
 (c:Nd K b a=true) (k:Ln K (.ref f)=true):Fun K x a st f (LA x a (L9 st) (G0 st) (C2 st) .none kV d h g b ct):=⟨⟨i,j,kV,d,h,g,b,ct,e,rfl,l,c⟩,k⟩
def pv(i:Nat)(c:X.N[i]?=some x:=by rfl)(d:iK X.env.scope x:=by first | exact QY rfl | exact QA (QY rfl) | exact QA (QA rfl))(e:(x == ("__debug__" : Str))=false:=by decide)
 (b:(x == ("__classdict__" : Str))=false:=by decide):PE X (.Name x a) (fh i):=xa c d e b
section
variable{κ:Type}[DecidableEq κ]
noncomputable def V2(a:List (κ×V))(k:κ):Option V:=(a.find? λb=>decide (b.1=k)).map (·.2)
noncomputable def P5(a:List (κ×V))(k:κ)(v:V):List (κ×V):=
 if(a.any λb=>decide (b.1=k))=true then a.map (λb=>if b.1=k then(b.1,v) else b) else a++[(k,v)]
def Z5{p:κ×V}{r:List (κ×V)}{k:κ}(e:p.1=k):V2 (p::r) k=some p.2:=by simp[V2,e]
def Z6{p:κ×V}{r:List (κ×V)}{k:κ}(e:¬p.1=k):V2 (p::r) k=V2 r k:=by simp[V2,e]
theorem q5(k:κ):∀a:List (κ×V),(a.any λb=>decide (b.1=k))=(V2 a k).isSome
 | []=>rfl
 | p::r=>by
   rw[Mi];by_cases e:p.1=k
   .simp only[Z5 e,decide_eq_true e,Bool.true_or,Option.isSome_some]
   .rw[Z6 e,decide_eq_false e,QC];exact q5 k r
def V3(a:List (κ×V))(k:κ)(v:V):(P5 a k v).length<=a.length+1:=by
 unfold P5;split
 .simp
 .simp
def bI.isSome_eq(r:bI o u):o.isSome=u.isSome:=by
 cases o with
 | none=>cases u with
   | none=>rfl
   | some _=>exact(show False from r).elim
 | some _=>cases u with
   | none=>exact(show False from r).elim
   | some _=>rfl
def bI.getD(r:bI o u)(a:RelV d d'):RelV (o.getD d) (u.getD d'):=by
 cases o with
 | none=>cases u with
   | none=>exact a
   | some _=>exact(show False from r).elim
 | some _=>cases u with
   | none=>exact(show False from r).elim
   | some _=>exact r
def KV.val{a:List (κ×V)}{vs:List (κ×II)}(r:KV a vs)(k:κ):bI (V2 a k) (valueAt vs k):=by
 induction r with
 | nil=>exact Lo
 | @cons p q i c h t ih=>
   obtain⟨f,g⟩:=h;by_cases e:p.1=k
   .have d:=f.symm.trans e;have b:valueAt (q::c) k=some q.2:=by simp[valueAt,d]
    rw[Z5 e,b];exact g
   .have d:¬q.1=k:=λz=>e (f.trans z);have b:valueAt (q::c) k=valueAt c k:=by simp[valueAt,d]
    rw[Z6 e,b];exact ih
def KV.any{a:List (κ×V)}{vs:List (κ×II)}(r:KV a vs)(k:κ):(a.any λb=>decide (b.1=k))=vs.any λb=>decide (b.1=k):=by
 induction r with
 | nil=>rfl
 | cons h t ih=>rw[Mi,Mi,ih,h.1]
def KV.repl{b:List (κ×V)}{vs:List (κ×II)}(r:KV b vs)(k:κ){y:V}{u:II}(d:RelV y u) :
 KV (b.map λa=>if a.1=k then(a.1,y) else a) (vs.map λa=>if a.1=k then(a.1,u) else a):=by
 induction r with
 | nil=>exact .nil
 | @cons p q g i h t ih=>
   rw[Jn,Jn];refine .cons ?_ ih;obtain⟨c,f⟩:=h;by_cases e:p.1=k
   .rw[if_pos e,if_pos (c.symm.trans e)];exact⟨c,d⟩
   .rw[if_neg e,if_neg (λz=>e (c.trans z))];exact⟨c,f⟩
def KV.put{a:List (κ×V)}{vs:List (κ×II)}(r:KV a vs)(k:κ){y:V}{u:II}(b:RelV y u):KV (P5 a k y) (stored vs k u):=by
 unfold P5 stored;rw[r.any k];by_cases e:(vs.any λc=>decide (c.1=k))=true
 .rw[if_pos e,if_pos e];exact r.repl k b
 .rw[if_neg e,if_neg e];exact Paired.snoc r ⟨rfl,b⟩
def KV.length{a:List (κ×V)}{vs:List (κ×II)}(r:KV a vs):a.length=vs.length:=Paired.length r
end
def iV(r:RelV (kV k) u):(J6 P w).is k u=true:=by
 cases k with
 | inl i=>obtain⟨t,e⟩:=(show ∃t,u=Pu i t from r);subst e;exact wR P w i t
 | inr x=>obtain⟨t,e⟩:=(show ∃t,u=Qy x t from r);subst e;exact wU P w x t
theorem sE:∀{a:List Key}{b:List II},ay (a.map kV) b->ItemsAre (J6 P w) a b
 | [],_,r=>by rw[Nh]at r;cases r;exact .nil
 | k::a,_,r=>by
   rw[Jn]at r;cases r with
   | cons h t=>exact .cons (iV h) (sE t)
abbrev KT(H:Hp):List (List Key×V)->List (List Key×Addr×II)->Prop:=Paired λp q=>p.1=q.1/\H q.2.1=some (.tup (p.1.map kV))/\RelV p.2 q.2.2
def KT.val(r:KT H a f)(k:List Key):bI (V2 a k) ((atKey f k).map (·.2)):=by
 induction r with
 | nil=>exact Lo
 | @cons p q j c h t ih=>
   obtain⟨g,_,i⟩:=h;by_cases e:p.1=k
   .have d:=g.symm.trans e;have b:atKey (q::c) k=some q.2:=by simp[atKey,d]
    rw[Z5 e,b];exact i
   .have d:¬q.1=k:=λz=>e (g.trans z);have b:atKey (q::c) k=atKey c k:=by simp[atKey,d]
    rw[Z6 e,b];exact ih
def KT.repl(r:KT H a d)(k:List Key)(g:RelV y u) :
 KT H (a.map λc=>if c.1=k then(c.1,y) else c) (d.map (putAt k u)):=by
 induction r with
 | nil=>exact .nil
 | @cons p q j l h t ih=>
   rw[Jn];refine .cons ?_ ih;obtain⟨b,f,i⟩:=h;unfold putAt;by_cases e:p.1=k
   .rw[if_pos e,if_pos (b.symm.trans e)];exact⟨b,f,g⟩
   .rw[if_neg e,if_neg (λz=>e (b.trans z))];exact⟨b,f,i⟩
def KT.put(r:KT H a c)(k:List Key)(f:H b=some (.tup (k.map kV)))(d:RelV y u) :
 KT H (P5 a k y) (storedH c k b u):=by
 have e:(a.any λg=>decide (g.1=k))=(atKey c k).isSome:=by
  rw[q5,(r.val k).isSome_eq,Oy]
 unfold P5 storedH;rw[e];by_cases q:(atKey c k).isSome=true
 .rw[if_pos q,if_pos q];exact r.repl k d
 .rw[if_neg q,if_neg q];exact Paired.snoc r ⟨rfl,f,d⟩
def KT.keeps(r:KT H a c)(e:∀b d,H b=some (.tup d)->H' b=some (.tup d)):KT H' a c:=
 Paired.mapP r λ_ _ z=>⟨z.1,e _ _ z.2.1,z.2.2⟩
def sF(ok:bK P w H h)(e:Rd H a u):aA P w H h a u:=e.ok ok
def iW(ok:bK P w H h)(e:Rd H a (.dK b)):b.length<=sizeLine/\(a == sysModules)=false/\∃c,KV b c/\h.DictOf (J6 P w) a c:=
 show aA P w H h a _ from sF ok e
def sG(ok:bK P w H h)(e:H a=some (.dK b)):b.length<=sizeLine/\(a == sysModules)=false/\∃c,KV b c/\h.DictOf (J6 P w) a c:=iW ok (.inl e)
def Z7(ok:bK P w H h)(e:H a=some (.tup (b.map kV))):(tupleKind (J6 P w)).is h b a:=by
 obtain⟨_,c,r,o,d,f,n,g⟩:=(show aA P w H h a _ from ok a _ e);exact⟨o,_,n,d,f,g,by simpa using sE r⟩
def iX(ok:bK P w H h)(e:Rd H a (.dT b)):b.length<=sizeLine/\(a == sysModules)=false/\
 ∃d,KT H b d/\h.DictOfH (tupleKind (J6 P w)) a d:=by
 obtain⟨z,y,d,r,o,g,i,j,n,s,u,v⟩:=(show aA P w H h a _ from sF ok e);refine⟨z,y,d,r,o,g,i,j,n,s,u,λx c=>?_,v⟩;have all:∀{l:List _}{m:List _},KT H l m->∀x∈m,(tupleKind (J6 P w)).is h x.1 x.2.1:=by
  intro l m q;induction q with
  | nil=>simp
  | @cons p q A B f t ih=>
    intro x c;rcases IT.mp c with e | c
    .subst e;exact Z7 ok (by rw[<-f.1];exact f.2.1)
    .exact ih x c
 exact all r x c
def kQ(ok:bK P w H h)(e:H a=some (.dT b)):b.length<=sizeLine/\(a == sysModules)=false/\
 ∃c,KT H b c/\h.DictOfH (tupleKind (J6 P w)) a c:=iX ok (.inl e)
def bR(H:Hp)(a:Addr)(y:V)(r:Option V):Prop:=
 (∃c k,Rd H a (.dK c)/\y=kV k/\r=V2 c k)\/∃c k b,Rd H a (.dT c)/\y=.ref b/\H b=some (.tup (k.map kV))/\r=V2 c k
def dz(H:Hp)(a:Addr)(y v:V)(H':Hp):Prop:=
 (∃c k,H a=some (.dK c)/\y=kV k/\c.length<sizeLine/\H'=ax H a (.dK (P5 c k v)))\/
 ∃c k b,H a=some (.dT c)/\y=.ref b/\H b=some (.tup (k.map kV))/\c.length<sizeLine/\H'=ax H a (.dT (P5 c k v))
theorem bR.k{k:Key}(e:H a=some (.dK b)):bR H a (kV k) (V2 b k):=.inl ⟨b,k,.inl e,rfl,rfl⟩
def bR.t{k:List Key}(e:H a=some (.dT c))(d:H b=some (.tup (k.map kV))):bR H a (.ref b) (V2 c k):=.inr ⟨c,k,b,.inl e,rfl,d,rfl⟩
theorem dz.k{k:Key}{v:V}(e:H a=some (.dK b))(c:b.length<sizeLine):dz H a (kV k) v (ax H a (.dK (P5 b k v))):=.inl ⟨b,k,e,rfl,c,rfl⟩
def dz.t{k:List Key}{v:V}(e:H a=some (.dT c))(d:H b=some (.tup (k.map kV)))(f:c.length<sizeLine) :
 dz H a (.ref b) v (ax H a (.dT (P5 c k v))):=.inr ⟨c,k,b,e,rfl,d,f,rfl⟩
def Inv.big(I:Inv X pins σ H s):sysModules<s.heap.objs.size:=by
 have h:=(I.mod.glob.keeps I.bk).lt;exact Oh (by decide) h
def zv(C:A.units+1<cLine)(I:Inv X pins σ H s)(g:bR H a y (some v))(x:RelV y u)(h:∀f B,Inv X pins σ H B->RelV v f->Q f B) :
 wpAny (model X.prog X.w) A (getItem (.ref a) u) Q E s:=by
 rcases g with⟨i,k,e,j,l⟩ | ⟨i,k,b,e,j,D,l⟩
 .subst j;obtain⟨z,G,L,c,m⟩:=iW I.hok e;obtain⟨f,n,d⟩:=bI.some_of (by rw[l];exact c.val k);exact wpAny_getItem_of (iV x) m.mapOf n (h f _ (I.tok _) d)
 .subst j;cases(show u=Jf b from x);obtain⟨z,G,N,c,m⟩:=iX I.hok e;obtain⟨f,n,d⟩:=bI.some_of (by rw[l];exact c.val k);obtain⟨p,J,q⟩:=Jz.mp n;refine wpAny_getItem_heap (Ll C) (Z7 I.hok D) m J ?_;rw[q];exact h f _ (I.tok _) d
def zw(p:A.units+1<cLine)(I:Inv X pins σ H s)(g:bR H a y o)(m:RelV y u)(h:∀n,Inv X pins σ H n->Q (.bool o.isSome) n) :
 wpAny (model X.prog X.w) A (compareOp .In u (.ref a)) Q E s:=by
 rcases g with⟨d,k,e,f,l⟩ | ⟨d,k,b,e,f,x,l⟩
 .subst f;obtain⟨z,i,B,c,j⟩:=iW I.hok e;refine wpAny_in_of (iV m) i j.mapOf ?_;rw[<-(c.val k).isSome_eq,<-l];exact h _ (I.tok _)
 .subst f;cases(show u=Jf b from m);obtain⟨z,i,C,c,j⟩:=iX I.hok e;refine wpAny_in_heap (Ll p) (Z7 I.hok x) i j ?_;have q:=(c.val k).isSome_eq;rw[Oy]at q;rw[<-q,<-l];exact h _ (I.tok _)
def mG(I:Inv X pins σ H s)(e:kM (H a))(hs:JK a s.heap h')(he:∃q,h'.get? a=some q)(new:aA X.prog X.w (ax H a ob) h' a ob) :
 Inv X pins σ (ax H a ob) { s with heap:=h',toks:=t' }:=
 I.write e (.inl rfl) (λb q f z=>(hs.2 b f).trans z) he new
def sH(z:b.length<=sizeLine)(d:(a == sysModules)=false)(c:KV b vs)(e:h'.DictOf (J6 P w) a vs) :
 aA P w H' h' a (.dK b):=⟨z,d,vs,c,e⟩
def zx(T:A.units+1<cLine)(I:Inv X pins σ H s)(g:dz H a y v H')(D:RelV y u)(G:RelV v r)(h:∀J,Inv X pins σ H' J->Q () J) :
 wpAny (model X.prog X.w) A (setItem (.ref a) u r) Q E s:=by
 rcases g with⟨d,k,e,m,l,n⟩ | ⟨d,k,b,e,m,L,l,n⟩
 .subst m n;obtain⟨z,p,U,f,x⟩:=sG I.hok e;have Y:U.length<=sizeLine:=by rw[<-f.length];exact z
  have B:(P5 d k v).length<=sizeLine:=by have:=V3 d k v;walk_at "o"
  refine wpAny_setItem_pairs (iV D) x λN i C=>h _ ?_;have he:∃q,N.get? a=some q:=let⟨q,_,_,j,_⟩:=i;⟨q,j⟩;exact mG I (by rw[e];exact Lo) C he (sH B p (f.put k G) i)
 .subst m n;cases(show u=Jf b from D);obtain⟨z,p,xs,f,x⟩:=kQ I.hok e;have Y:xs.length<=sizeLine:=by rw[<-Paired.length f];exact z
  have B:(P5 d k v).length<=sizeLine:=by have:=V3 d k v;walk_at "o"
  refine wpAny_setItem_heap (Ll T) (Z7 I.hok L) x λN i C=>h _ ?_;obtain⟨q,es,ep,j,h2,h3,h4,_,h5⟩:=i;refine mG I (by rw[e];exact Lo) C ⟨q,j⟩ ⟨B,p,_,(f.put k L G).keeps λc ys O=>?_,q,es,ep,j,h2,h3,h4,h5⟩;rw[ah (rG O e nofun)];exact O
def mH(i:Expr):Prop:=∀ov a,subscripted i false ov a=operate [ov,a] (getItem ov a)
def zy{E:II->IJ->Prop}{s:IJ}{g:Env}{b a:Expr}{m:Pos}{T id:String}{Q:II->IJ->Prop}
 (n:typeLookup (.type T) "__getitem__" = pure (some (.builtin id))) (hs:mH a)
 (h:wpAny (model prog w) A (eval b g) (λo e=>wpAny (model prog w) A (eval a g) (λi c=>c.TypeIs o T/\wpAny (model prog w) A (getItem o i) Q E c) E e) E s) :
 wpAny (model prog w) A (eval (.Subscript b a m) g) Q E s:=by
 refine Qd (Jv h (λo e j=>Jv j (λi c d=>?_) λ_ _ x=>x) λ_ _ x=>x);obtain⟨p,d⟩:=d;refine IE ?_;refine IE (NM p n ?_);have fin:wpAny (model prog w) A (subscripted a false o i) (λr f=>wpAny (model prog w) A (letTemporaryGo b o r>>=λ_=>pure r) Q E f) E c:=by
  rw[hs o i];exact wpAny_operating (Jv d (λr f l=>IE (wpAny_letTemporaryGo (IG l))) λ_ _ x=>x)
 first
  | exact IG (IE fin)
  | exact IE _
  | exact IE fin
def zA(I:Inv X c σ H s)(g:bR H a y o):s.TypeIs (.ref a) "dict":=by
 rcases g with⟨d,k,e,_,_⟩ | ⟨d,k,b,e,_,_,_⟩
 .obtain⟨_,_,h,_,f⟩:=iW I.hok e;exact f.typeIs
 .obtain⟨_,_,i,_,f⟩:=iX I.hok e;exact f.typeIs
def zB(d e:TE):TE:=λb H Q=>d b H λx f=>e b f λy c=>∃a v,x=.ref a/\bR c a y (some v)/\Q v c
def sI(d e:TE):TE:=λb H Q=>d b H λy f=>e b f λx c=>∃a o,x=.ref a/\bR c a y o/\Q (.bl o.isSome) c
def zC(d e tv:TE):TS:=λD b H=>tv b H λv f=>d b f λx g=>e b g λy h=>∃a c,x=.ref a/\dz h a y v c/\D.nx b c
def sJ(j:X.A.units+1<cLine)(l:PE X o td)(m:PE X i ty)(hs:mH i):PE X (.Subscript o i pos) (zB td ty):=by
 intro b s d H Q I h;refine zy PySem.F.slot_dict_getitem.lookup hs (aB (l b s d H _ I h) λu n ⟨x,p,q,r,w⟩=>aB (m b n d p _ q w) λJ L z=>?_);obtain⟨y,B,f,C,a,v,D,g,E⟩:=z;subst D;obtain rfl:u=Jf a:=r;exact⟨zA f g,zv j f g C λN O G c=>⟨v,B,G,c,E⟩⟩
def sL(d:X.A.units+1<cLine)(f:PE X i ty)(j:PE X o td):PC X .In i o (sI ty td):=by
 intro b s c H Q I h;refine aB (f b s c H _ I h) λE l ⟨y,m,n,p,q⟩=>aB (j b l c m _ n q) λu G r=>?_;obtain⟨x,v,w,z,a,ov,B,g,C⟩:=r;subst B;obtain rfl:u=Jf a:=z;exact zw d w g p λJ D=>⟨.bl _,v,D,rfl,C⟩
def sM(d:X.A.units+1<cLine)(f:PE X o td)(j:PE X i ty)(l:PE X value tv)(hs:swapsWith value (some (.Subscript o i pos')) pos.line X.env=pure false) :
 PS X (.Assign [.Subscript o i pos'] value pos) (zC td ty tv):=by
 intro b s c H D I h;refine wpAny_Assign_Subscript (aB (l b s c H _ I h) λr m ⟨v,n,p,q,w⟩=>aB (f b m c n _ p w) λu z ⟨x,B,C,E,G⟩=>aB (j b z c B _ C G) λY s3 J=>?_) hs;obtain⟨y,H3,L,N,a,O,Q,g,T⟩:=J;subst Q;obtain rfl:u=Jf a:=E;exact zx d L g N q λs4 U=>⟨c,O,U,T⟩
def zD(h:Heap)(b:sysModules<h.objs.size):aA P w H (h.push { cls:=.type "dict",data:=.dict #[] }) h.objs.size (.dK []):=
 ⟨LU _,beq_eq_false_iff_ne.mpr (Kk (IY b)),[],.nil,Heap.DictOf.new h⟩
def zE(h:Heap)(b:sysModules<h.objs.size):aA P w H (h.push { cls:=.type "dict",data:=.dict #[] }) h.objs.size (.dT []):=
 ⟨LU _,beq_eq_false_iff_ne.mpr (Kk (IY b)),[],.nil,_,#[],0,IP _ rfl,⟨rfl,rfl,rfl⟩,rfl,rfl,LX⟩
def tDNewT:TE:=λ_ H Q=>∀p,H p=none->Q (.ref p) (ax H p (.dT []))
def zF:PE X (.Dict [] [] pos) tDNewT:=λa s b H Q I h=>
 wpAny_Dict_empty ⟨.ref _,_,I.laid (λ_ _ q=>IF _ q) (IM _) (zE _ I.big),rfl,h _ (I.hok.fresh (IM _))⟩
def mI:List (TE×TE)->St->Hp->(List (V×V)->Hp->Prop)->Prop
 | [],_,H,Q=>Q [] H
 | (b,tv)::r,a,H,Q=>b a H λx c=>tv a c λy d=>mI r a d λe f=>Q ((x,y)::e) f
abbrev VV:List (V×V)->List (II×II)->Prop:=Paired λp q=>RelV p.1 q.1/\RelV p.2 q.2
def kR(X:Cx)(d:Pos)(c:List (Option Expr))(a:List Expr)(e:List (TE×TE)):Prop:=
 ∀(b:List (Addr×Obj))(s:IJ)(σ:St)(H:Hp)(Q:List (V×V)->Hp->Prop),Inv X b σ H s->mI e σ H Q->
  wpAny (model X.prog X.w) X.A (evalPairs (pairTrees c a X.env d)) (λh i=>∃f g,Inv X b σ g i/\VV f h/\Q f g) X.xe s
def zG:kR X a [] [] []:=λb s c H Q I h=>pairTrees_nil_walk ⟨[],H,I,.nil,h⟩
def zH(i:PE X k g)(j:PE X v tv)(l:kR X b f vs c) :
 kR X b (some k::f) (v::vs) ((g,tv)::c):=λa s d H Q I h=>
 pairTrees_cons_walk (aB (i a s d H _ I h) λu m ⟨x,n,o,p,q⟩=>aB (j a m d n _ o q) λJ r ⟨y,w,z,A,B⟩=>
  aB (l a r d w _ z B) λL N ⟨C,D,E,e,G⟩=>⟨_::C,D,E,.cons ⟨p,A⟩ e,G⟩)
noncomputable def m5(b a:List (Key×V)):List (Key×V):=a.foldl (λc d=>P5 c d.1 d.2) b
def KV.merge:∀{a:List (Key×V)}{c:List (Key×II)}{b:List (Key×V)}{vs:List (Key×II)},KV a c->KV b vs->KV (m5 b a) (merged vs c):=by
 intro a c b vs r;induction r generalizing b vs with
 | nil=>intro q;exact q
 | @cons p q f g h t ih=>
   intro d;have e:KV (P5 b p.1 p.2) (stored vs q.1 q.2):=by
    have:=d.put p.1 h.2;rw[<-h.1];exact this
   exact ih e
theorem j6:∀(b a:List (Key×V)),(m5 a b).length<=a.length+b.length
 | [],a=>by show a.length<=a.length+0;walk_at "o"
 | p::r,a=>by
   have c:=j6 r (P5 a p.1 p.2);have d:=V3 a p.1 p.2;show(m5 (P5 a p.1 p.2) r).length<=_;rw[Js];walk_at "o"
theorem sN:∀{d:List (Key×V)}{f:List (II×II)},VV (d.map λg=>(kV g.1,g.2)) f->∃e,Carries (J6 P w) f e/\KV d e
 | [],_,r=>by rw[Nh]at r;cases r;exact⟨[],Lo,.nil⟩
 | p::d,_,r=>by
   rw[Jn]at r;cases r with
   | @cons a b j bs h t=>
     obtain⟨e,c,q⟩:=sN (P:=P) (w:=w) t;obtain⟨l,i⟩:=b;exact⟨(p.1,i)::e,⟨iV h.1,rfl,c⟩,.cons ⟨rfl,h.2⟩ q⟩
def zI(b:List (TE×TE)):TE:=λe H Q=>∀p,H p=none->mI b e (ax H p (.dK [])) λf c=>c p=some (.dK [])/\∃a:List (Key×V),f=a.map (λd=>(kV d.1,d.2))/\a.length<=15/\Q (.ref p) (ax c p (.dK (m5 [] a)))
def zJ(h:kR X d a b f)(g:a.all (·.isSome)=true)(p:a.length=b.length)(r:a≠[])
 (m:a.length<=15):PE X (.Dict a b d) (zI f):=by
 intro i s u H Q I q;have v:=I.hok.fresh (IM _);have x:=I.laid (t':=s.toks) (λ_ _ q=>IF _ q) (IM _) (zD _ I.big);refine wpAny_Dict_walk (knd:=J6 _ X.w) g p r m (aB (h i _ u _ _ x (q _ v)) λws s2 y=>?_);obtain⟨ps,H2,o,n,e,j,A,lk,B⟩:=y;subst A;obtain⟨C,c,D⟩:=sN n;obtain⟨z,E,G,J,L⟩:=sG o.hok e;cases J;refine⟨C,c,L,λN l O=>⟨.ref _,_,?_,rfl,B⟩⟩;have T:(m5 [] j).length<=sizeLine:=by
  have U:=j6 j [];rw[Kc]at U;rw[OL];walk_at "o"
 have Y:∃q,N.get? _=some q:=let⟨q,_,_,hq,_⟩:=l;⟨q,hq⟩;exact mG o (by rw[e];exact Lo) O Y (sH T E (D.merge .nil) l)
structure M1(X:Cx)(o:Expr)(m:Str)(apos:Pos)(e:Expr)(cpos:Pos):Prop where
 base:attributeBase o m X.env (eval o X.env)=eval o X.env
 few:((backTo cpos (starEach [e] X.env)).all (λx=>!x.1)&&(backToKw cpos (keywordEach [] X.env)).all (λx=>x.1.isSome)
  &&decide (([e]:List Expr).length+([]:List Qq).length+(if([]:List Qq).isEmpty then 0 else 1)<30))=true
 line:(apos.endLine == cpos.line)=true
 trees:backTo cpos (starEach [e] X.env)=[(false,eval e X.env)]
structure M2(X:Cx)(o:Expr)(m:Str)(apos:Pos)(e f:Expr)(cpos:Pos):Prop where
 base:attributeBase o m X.env (eval o X.env)=eval o X.env
 few:((backTo cpos (starEach [e,f] X.env)).all (λx=>!x.1)&&(backToKw cpos (keywordEach [] X.env)).all (λx=>x.1.isSome)
  &&decide (([e,f]:List Expr).length+([]:List Qq).length+(if([]:List Qq).isEmpty then 0 else 1)<30))=true
 line:(apos.endLine == cpos.line)=true
 trees:backTo cpos (starEach [e,f] X.env)=[(false,eval e X.env),(false,eval f X.env)]
def mJ(H:Hp)(a:Addr):Prop:=(∃b,Rd H a (.dK b))\/∃b,Rd H a (.dT b)
def oK(I:Inv X f σ H s)(d:mJ H a) :
 s.TypeIs (.ref a) "dict"/\(∀b,Jf a=.ref b->∃c,s.heap.get? b=some c/\c.dict=none)/\(a == sysModules)=false:=by
 rcases d with⟨h,e⟩ | ⟨h,e⟩
 .obtain⟨_,i,m,_,g⟩:=iW I.hok e;refine⟨g.typeIs,λb q=>?_,i⟩;cases q;obtain⟨c,_,_,j,l,_⟩:=g;exact⟨c,j,l.2.1⟩
 .obtain⟨_,i,n,_,g⟩:=iX I.hok e;refine⟨g.typeIs,λb q=>?_,i⟩;cases q;obtain⟨c,_,_,j,l,_⟩:=g;exact⟨c,j,l.2.1⟩
def zK(v:A.units+1<cLine)(I:Inv X pins σ H s)(g:bR H a y o)(n:RelV y u)(h:∀p q,Inv X pins σ H q->RelV (o.getD .non) p->Q p q) :
 wpAny (model X.prog X.w) A (call (.builtin "dict.get") [.ref a,u]) Q E s:=by
 rcases g with⟨i,k,e,j,l⟩ | ⟨i,k,b,e,j,x,l⟩
 .subst j;obtain⟨z,m,C,c,f⟩:=iW I.hok e;refine PL Lh f.typeIs LY (OO _ _) (meets_dict_get _ a (iV n) m) ⟨_,f.mapOf,h _ _ (I.tok _) ?_⟩;rw[l];exact(c.val k).getD rfl
 .subst j;cases(show u=Jf b from n);obtain⟨z,m,B,c,f⟩:=iX I.hok e;refine PL Lh f.typeIs LY (OO _ _) (meetsH_dict_get _ a b m) ⟨Ll v,k,B,Z7 I.hok x,f,h _ _ (I.tok _) ?_⟩;rw[l];exact(c.val k).getD rfl
def zL(x:A.units+1<cLine)(I:Inv X pins σ H s)(g:bR H a y o)(n:RelV y u)(p:RelV d r)(h:∀q v,Inv X pins σ H v->RelV (o.getD d) q->Q q v) :
 wpAny (model X.prog X.w) A (call (.builtin "dict.get") [.ref a,u,r]) Q E s:=by
 rcases g with⟨i,k,e,j,l⟩ | ⟨i,k,b,e,j,B,l⟩
 .subst j;obtain⟨z,m,D,c,f⟩:=iW I.hok e;refine PL Lh f.typeIs LY (OP _ _ _) (meets_dict_get_default _ a (iV n) m r) ⟨_,f.mapOf,h _ _ (I.tok _) ?_⟩;rw[l];exact(c.val k).getD p
 .subst j;cases(show u=Jf b from n);obtain⟨z,m,C,c,f⟩:=iX I.hok e;refine PL Lh f.typeIs LY (OP _ _ _) (meetsH_dict_get_default _ a b m r) ⟨Ll x,k,C,Z7 I.hok B,f,h _ _ (I.tok _) ?_⟩;rw[l];exact(c.val k).getD p
def zM(e f:TE):TE:=λb H Q=>e b H λx c=>∃a,x=.ref a/\mJ c a/\f b c λy d=>∃o,bR d a y o/\Q (o.getD .non) d
def zN(e f g:TE):TE:=λb H Q=>e b H λx c=>∃a,x=.ref a/\mJ c a/\f b c λy h=>g b h λz d=>∃o,bR d a y o/\Q (o.getD z) d
def zO(l:X.A.units+1<cLine)(n:PE X o td)(he:PE X e ty)(m:M1 X o "get" apos e cpos):PE X (.Call (.Attribute o "get" apos) [e] [] cpos) (zM td ty):=by
 intro b s i H Q I h;refine MV m.base m.few m.line MG Lh PM (aB (n b s i H _ I h) λu p q=>?_);obtain⟨x,r,j,v,a,w,d,z⟩:=q;subst w;obtain rfl:u=Jf a:=v;obtain⟨B,C,_⟩:=oK j d;refine⟨B,C,?_⟩;rw[m.trees];refine Lv rfl (Ml (KN (aB (he b p i r _ j z) λN O ⟨y,D,E,G,ov,g,J⟩=>LM ?_)));exact zK l E g G λT U L c=>⟨_,D,L,c,J⟩
def zP(l:X.A.units+1<cLine)(n:PE X o td)(he:PE X e ty)(p:PE X f tx)(m:M2 X o "get" apos e f cpos):PE X (.Call (.Attribute o "get" apos) [e,f] [] cpos) (zN td ty tx):=by
 intro b s c H Q I h;refine MV m.base m.few m.line MG Lh PM (aB (n b s c H _ I h) λu q r=>?_);obtain⟨x,v,j,w,a,B,d,C⟩:=r;subst B;obtain rfl:u=Jf a:=w;obtain⟨D,E,_⟩:=oK j d;refine⟨D,E,?_⟩;rw[m.trees];refine Lv rfl (Ml (KN (aB (he b q c v _ j C) λiv G ⟨y,J,L,N,O⟩=>
  KN (aB (p b G c J _ L O) λfv s3 ⟨z,T,U,Y,ov,g,q3⟩=>LM ?_))))
 exact zL l U g N Y λw' s4 I4 i=>⟨_,T,I4,i,q3⟩
end L2
set_option maxRecDepth 100000
namespace Ws
section
inductive PV where
 | non | bl (b:Bool) | int (i:Int) | str (x:Ki) | tup (l:List PV) | ref (n:Nat)
inductive PO where
 | lst (l:List PV)
 | ro (l:List PV)
 | dI (kvs:List (Int×PV))
 | ins (c:Nat) (fs:List (Nat×PV))
   | dT (kvs:List (List Int×PV))
   | dS (kvs:List (Ki×PV))
   | hid
   | exc (c:Nat) (v:PV)
abbrev PHp:=List PO
inductive R (α:Type) where
 | ok (a:α) (A:PHp)
 | ex (c:Nat) (v:PV) (A:PHp)
 | no
abbrev M(a:Type):=PHp->R a
@[simp] noncomputable def ret{b:Type}(a:b):M b:=λA=>.ok a A
@[simp] noncomputable def stuck{a:Type}:M a:=λ_=>.no
@[simp] noncomputable def ak{d e:Type}(m:M d)(f:d->M e):M e:=λA=>match m A with
  | .ok a b=>f a b
  | .ex c v b=>.ex c v b
  | .no=>.no
def D8{a:Type}(P:Prop)(m:M a):M a:=@ite _ P (LV P) m stuck
def Q5{a:Type}{P:Prop}{m:M a}(h:P):D8 P m=m:=if_pos h
@[simp] theorem Ie{a:Type}{m:M a}:D8 True m=m:=if_pos trivial
def B9{b:Type}{P:Prop}{m:M b}{a:b}(h:D8 P m A=.ok a A'):P/\m A=.ok a A':=by
 by_cases p:P
 .rw[Q5 p]at h;exact⟨p,h⟩
 .rw[show D8 P m=stuck from if_neg p]at h;cases h
def aG{b c:Type}{m:M b}{f:b->M c}{a:b}(h:m A=.ok a A'):ak m f A=f a A':=by simp_all
inductive sO {α β:Type} (m:M α) (f:α->M β) (A A':PHp) (b:β):Prop
 | mk (a:α) (A1:PHp) (h0:m A=.ok a A1) (h1:f a A1=.ok b A'):sO m f A A' b
def B0{d g:Type}{m:M d}{f:d->M g}{b:g}(h:ak m f A=.ok b A'):sO m f A A' b:=by
 unfold ak at h;cases e:m A with
 | ok a i=>rw[e]at h;exact⟨a,i,e,h⟩
 | ex c v i=>simp_all
 | no=>simp_all
abbrev PSt:=List (Option PV)
abbrev ED:=PSt->M PV
abbrev TD:=PSt->M Bool
abbrev AD:=PSt->M (List PV)
abbrev Fun:=List PV->M PV
inductive Fl where
 | nx (σ:PSt) | rt (v:PV) | bk (σ:PSt) | ct (σ:PSt)
abbrev SD:=PSt->M Fl
abbrev GD:=PV->PSt->M PSt
@[irreducible] noncomputable def LIM:Nat:=100000
def aI(h:n<=10000):n<=LIM:=by unfold LIM;walk_at "o"
def aX(h:n<10000):n<LIM:=by unfold LIM;walk_at "o"
@[simp] theorem Ig:0<=LIM:=LU _
@[simp] theorem Ii:1<=LIM:=aI (by walk_at "o")
@[simp] theorem Ij:2<=LIM:=aI (by walk_at "o")
@[simp] theorem Il:3<=LIM:=aI (by walk_at "o")
@[simp] theorem Im:4<=LIM:=aI (by walk_at "o")
mutual
noncomputable def bJ:PV->PV->Bool
 | .non,.non=>true
 | .bl a,.bl b=>a == b
 | .int i,.int j=>decide (i=j)
 | .str x,.str y=>decide (x=y)
 | .tup l,.tup m=>eqvs l m
 | _,_=>false
noncomputable def eqvs:List PV->List PV->Bool
 | [],[]=>true
 | x::a,y::b=>bJ x y&&eqvs a b
 | _,_=>false
end
mutual
noncomputable def j4:PV->Bool
 | .non=>true
 | .int _=>true
 | .str _=>true
 | .tup l=>nices l
 | _=>false
noncomputable def nices:List PV->Bool
 | []=>true
 | x::a=>j4 x&&nices a
end
@[simp] noncomputable def Z8:PV->Bool
  | .non=>true
  | .int _=>true
  | .str _=>true
  | _=>false
noncomputable def hU:PV->Bool
 | .tup l=>l.all Z8
 | x=>Z8 x
noncomputable def Y7:PV->Bool
 | .tup l=>l.all hU
 | x=>Z8 x
noncomputable def plain:PV->Bool
 | .tup l=>l.all Y7
 | x=>Z8 x
noncomputable def G8(l:List PV):Bool:=l.all plain
@[simp] theorem Io(i:Int):plain (.int i)=true:=rfl
@[simp] theorem Ip:plain .non=true:=rfl
@[simp] noncomputable def alloc(o:PO):M PV:=λA=>.ok (.ref A.length) (A++[o])
@[simp] noncomputable def G5(n:Nat):M (List PV):=λA=>match A[n]? with
  | some (.lst l)=>.ok l A
  | some (.ro l)=>.ok l A
  | _=>.no
@[simp] noncomputable def T5(n:Nat):M (List PV):=λA=>match A[n]? with
  | some (.lst l)=>.ok l A
  | _=>.no
@[simp] noncomputable def put(n:Nat)(o:PO):M Unit:=λA=>.ok () (A.set n o)
@[simp] noncomputable def q9(n:Nat):M (Nat×List (Nat×PV)):=λA=>match A[n]? with
  | some (.ins c fs)=>.ok (c,fs) A
  | _=>.no
@[simp] noncomputable def N4(v:PV):M (List PV):=match v with
  | .ref n=>G5 n
  | .tup l=>ret l
  | _=>stuck
@[simp] noncomputable def aa(i:Nat):ED:=λa=>match a[i]? with
  | some (some v)=>ret v
  | _=>stuck
@[simp] noncomputable def eK(v:PV):ED:=λ_=>ret v
@[simp] noncomputable def aNil:AD:=λ_=>ret []
@[simp] noncomputable def ae(e:ED)(es:AD):AD:=λa=>ak (e a) λx=>ak (es a) λb=>ret (x::b)
@[simp] def aC(es:AD):ED:=λb=>ak (es b) λa=>D8 (a.length<=LIM) (ret (.tup a))
@[simp] def be(es:AD):ED:=λb=>ak (es b) λa=>D8 (a.length<=LIM) (alloc (.lst a))
abbrev OD:=PV->PV->M PV
@[simp] noncomputable def eBin(f:OD)(a b:ED):ED:=λc=>ak (a c) λx=>ak (b c) λy=>f x y
@[simp] def aS:OD
  | .int i,.int j=>ret (.int (i+j))
  | .tup l,.tup m=>D8 (l≠[]/\l.length+m.length<=LIM) (ret (.tup (l++m)))
  | .ref n,.ref k=>ak (T5 n) λl=>ak (T5 k) λm=>D8 (l.length+m.length<=LIM) (alloc (.lst (l++m)))
  | _,_=>stuck
@[simp] noncomputable def fk:OD
  | .int i,.int j=>ret (.int (i - j))
  | _,_=>stuck
@[simp] def cH:OD
  | .int i,.int j=>D8 ((-(2 ^ 64)<i/\i<2 ^ 64)\/(-(2 ^ 64)<j/\j<2 ^ 64)) (ret (.int (i*j)))
  | _,_=>stuck
@[simp] def aY:OD
  | .int i,.int j=>D8 (0<j) (ret (.int (i%j)))
  | _,_=>stuck
@[simp] def bw:OD
  | .int i,.int j=>D8 (0<j/\j<1073741824) (ret (.int (i / j)))
  | _,_=>stuck
@[simp] noncomputable def dN:OD
  | .int i,.int j=>ret (.bl (decide (i<j)))
  | _,_=>stuck
@[simp] noncomputable def iY:OD
  | .int i,.int j=>ret (.bl (decide (i<=j)))
  | _,_=>stuck
@[simp] noncomputable def iZ:OD
  | .int i,.int j=>ret (.bl (decide (j<i)))
  | _,_=>stuck
@[simp] noncomputable def kf:OD
  | .int i,.int j=>ret (.bl (decide (j<=i)))
  | _,_=>stuck
@[simp] noncomputable def sP:PV->PV->Bool
  | .bl _,.bl _=>true
  | _,_=>false
@[simp] def oM(x y:PV):M Bool:=match x,y with
  | .ref n,.ref k=>ak (G5 n) λl=>ak (G5 k) λm=>D8 (G8 l=true/\G8 m=true) (ret (eqvs l m))
  | x,y=>D8 (sP x y=true\/(plain x=true/\plain y=true)) (ret (bJ x y))
@[simp] def ck:OD:=λx y=>ak (oM x y) λb=>ret (.bl b)
@[simp] def cD:OD:=λx y=>ak (oM x y) λb=>ret (.bl (!b))
noncomputable def df(x:PV)(l:List PV):Bool:=l.any λy=>bJ y x
@[simp] def dO:OD:=λx y=>ak (N4 y) λl=>D8 (plain x=true/\G8 l=true) (ret (.bl (df x l)))
@[simp] def bq:OD:=λx y=>ak (N4 y) λl=>D8 (plain x=true/\G8 l=true) (ret (.bl (!df x l)))
@[simp] noncomputable def kh:PV->Bool
  | .non=>true
  | _=>false
@[simp] noncomputable def dA(a:ED):ED:=λb=>ak (a b) λx=>ret (.bl (kh x))
@[simp] noncomputable def cK(a:ED):ED:=λb=>ak (a b) λx=>ret (.bl (!kh x))
@[simp] noncomputable def cI(f g:OD)(a b c:ED):ED:=λd=>ak (a d) λx=>ak (b d) λy=>ak (f x y) λz=>match z with
  | .bl true=>ak (c d) λu=>g y u
  | .bl false=>ret (.bl false)
  | _=>stuck
@[simp] noncomputable def ki(v:PV):M Bool:=match v with
  | .bl b=>ret b
  | _=>stuck
@[simp] noncomputable def aq(e:ED):TD:=λa=>ak (e a) ki
@[simp] noncomputable def tAnd(a b:TD):TD:=λd=>ak (a d) λc=>if c=true then b d else ret false
@[simp] noncomputable def tOr(a b:TD):TD:=λd=>ak (a d) λc=>if c=true then ret true else b d
@[simp] noncomputable def tNot(a:TD):TD:=λb=>ak (a b) λc=>ret (!c)
@[simp] noncomputable def T7(a b:ED):ED:=λd=>ak (ak (a d) ki) λc=>if c=true then b d else ret (.bl false)
@[simp] noncomputable def mK(a b:ED):ED:=λd=>ak (ak (a d) ki) λc=>if c=true then ret (.bl true) else b d
@[simp] noncomputable def cS(a:ED):ED:=λb=>ak (ak (a b) ki) λc=>ret (.bl (!c))
@[simp] noncomputable def mL(t:TD)(a b:ED):ED:=λd=>ak (t d) λc=>if c=true then a d else b d
noncomputable def ixN(n:Nat)(i:Int):Option Nat:=if 0<=i then(if i<n then some i.toNat else none) else if -(n:Int)<=i then some (i+n).toNat else none
noncomputable def atI{a:Type}(b:List a)(i:Int):Option a:=(ixN b.length i).bind λj=>b[j]?
@[simp] noncomputable def oIx:OD:=λx y=>match y with
  | .int i=>ak (N4 x) λl=>match atI l i with
    | some v=>ret v
    | none=>stuck
  | _=>stuck
noncomputable def T6(n d:Nat):Option Int->Nat
 | none=>d
 | some v=>if v<0 then(max (v+n) 0).toNat else(min v n).toNat
noncomputable def cut{b:Type}(a:List b)(lo c:Option Int):List b:=(a.drop (T6 a.length 0 lo)).take (T6 a.length a.length c - T6 a.length 0 lo)
abbrev LD:=PSt->M (Option Int)
@[simp] noncomputable def gr:LD:=λ_=>ret none
@[simp] noncomputable def fm(e:ED):LD:=λa=>ak (e a) λx=>match x with
  | .int i=>ret (some i)
  | _=>stuck
@[simp] def cX(a:ED)(lo d:LD):ED:=λc=>ak (a c) λx=>ak (lo c) λl=>ak (d c) λh=>match x with
  | .ref n=>ak (G5 n) λb=>alloc (.lst (cut b l h))
  | .tup b=>D8 (¬(T6 b.length 0 l=0/\T6 b.length b.length h=b.length)) (ret (.tup (cut b l h)))
  | _=>stuck
@[simp] noncomputable def V7(a:ED):ED:=λb=>ak (a b) λx=>ak (N4 x) λl=>ret (.int l.length)
@[simp] noncomputable def Y2(a:ED):ED:=λb=>ak (a b) λx=>ak (N4 x) λl=>alloc (.lst l)
noncomputable def K3:List PV->Option (List Int)
 | []=>some []
 | .int i::r=>(K3 r).map (i :: ·)
 | _=>none
noncomputable def U3:List PV->Option (List (List Int))
 | []=>some []
 | .tup (x::l)::r=>match K3 (x::l),U3 r with
   | some z,some a=>some (z::a)
   | _,_=>none
 | _=>none
noncomputable def D0:List Int->List Int->Bool
 | _,[]=>false
 | [],_::_=>true
 | x::a,y::b=>if x=y then D0 a b else decide (x<y)
noncomputable def Y8{c:Type}(lt:c->c->Bool)(a:c):List c->List c
 | []=>[a]
 | b::r=>if lt b a=true then b::Y8 lt a r else a::b::r
noncomputable def D7{b:Type}(lt:b->b->Bool):List b->List b
 | []=>[]
 | a::r=>Y8 lt a (D7 lt r)
noncomputable def hV(i j:Int):Bool:=decide (i<j)
def i3(l:List PV):M (List PV):=D8 (l.length<64) (match K3 l with
    | some ns=>ret ((D7 hV ns).map .int)
    | none=>match U3 l with
      | some a=>ret ((D7 D0 a).map λt=>.tup (t.map .int))
      | none=>stuck)
@[simp] def T8(a:ED):ED:=λb=>ak (a b) λx=>match x with
  | .ref n=>ak (G5 n) λl=>ak (i3 l) λm=>alloc (.lst m)
  | _=>stuck
inductive Ty where
 | int | bool | tuple | list
@[simp] noncomputable def hW(t:Ty)(v:PV):M Bool:=match t,v with
  | .int,.int _=>ret true
  | .int,.bl _=>ret true
  | .bool,.bl _=>ret true
  | .tuple,.tup _=>ret true
  | .list,.ref n=>ak (T5 n) λ_=>ret true
  | _,.ref n=>ak (T5 n) λ_=>ret false
  | _,_=>ret false
@[simp] noncomputable def V8(a:ED)(t:Ty):ED:=λc=>ak (a c) λx=>ak (hW t x) λb=>ret (.bl b)
@[simp] noncomputable def Z9(f:Nat):List (Nat×PV)->Option PV
  | []=>none
  | (g,u)::r=>if g=f then some u else Z9 f r
@[simp] noncomputable def aH(a:ED)(f:Nat):ED:=λb=>ak (a b) λx=>match x with
  | .ref n=>ak (q9 n) λo=>match Z9 f o.2 with
    | some v=>ret v
    | none=>stuck
  | _=>stuck
@[simp] noncomputable def putFld(f:Nat)(v:PV):List (Nat×PV)->List (Nat×PV)
  | []=>[(f,v)]
  | (g,u)::r=>if g=f then(g,v)::r else(g,u)::putFld f v r
@[simp] def sFld(a:ED)(f:Nat)(e:ED):SD:=λb=>ak (e b) λv=>ak (a b) λx=>match x with
  | .ref n=>ak (q9 n) λo=>D8 (o.2.length<900) (ak (put n (.ins o.1 (putFld f v o.2))) λ_=>ret (.nx b))
  | _=>stuck
@[simp] noncomputable def C8(f:Fun)(es:AD):ED:=λa=>ak (es a) f
@[simp] noncomputable def Y9(c:Nat)(a:Fun)(es:AD):ED:=λb=>ak (es b) λd=>ak (alloc (.ins c [])) λx=>ak (a (x::d)) λ_=>ret x
@[simp] def aM(c:Nat)(f:Fun)(a:ED)(es:AD):ED:=λb=>ak (a b) λx=>match x with
  | .ref n=>ak (q9 n) λo=>D8 (o.1=c) (ak (es b) λd=>f (x::d))
  | _=>stuck
@[simp] def V4(a e:ED):ED:=λb=>ak (a b) λx=>match x with
  | .ref n=>ak (T5 n) λ_=>ak (e b) λv=>ak (T5 n) λl=>D8 (l.length<LIM) (ak (put n (.lst (l++[v]))) λ_=>ret .non)
  | _=>stuck
@[simp] noncomputable def gName(i:Nat):GD:=λv a=>ret (a.set i (some v))
abbrev GDs:=List PV->PSt->M PSt
@[simp] noncomputable def gNil:GDs:=λa b=>match a with
  | []=>ret b
  | _=>stuck
@[simp] noncomputable def gCons(g:GD)(r:GDs):GDs:=λb c=>match b with
  | v::w=>ak (g v c) λa=>r w a
  | _=>stuck
@[simp] def gTup(n:Nat)(g:GDs):GD:=λv a=>match v with
  | .tup l=>D8 (l.length=n) (g l a)
  | _=>stuck
inductive It where
 | rng (lo:Int) (n:Nat) | lst (n:Nat) | tup (l:List PV) | enm (n:Nat)
   | fix (l:List PV)
   | zip (x y:PV)
   | enk (k n:Nat)
abbrev ID:=PSt->M It
@[simp] noncomputable def bW(a:ED):ID:=λb=>ak (a b) λx=>match x with
  | .ref n=>ak (G5 n) λ_=>ret (.lst n)
  | .tup l=>ret (.tup l)
  | _=>stuck
@[simp] def iRng1(a:ED):ID:=λb=>ak (a b) λx=>match x with
  | .int j=>D8 (-(2 ^ 62)<=j/\j<2 ^ 62) (ret (.rng 0 j.toNat))
  | _=>stuck
@[simp] noncomputable def fq(a:ED):ID:=λb=>ak (a b) λx=>match x with
  | .ref n=>ak (G5 n) λ_=>ret (.enm n)
  | _=>stuck
@[simp] noncomputable def item(J:It)(i:Nat):M (Option PV):=match J with
  | .rng lo n=>ret (if i<n then some (.int (lo+i)) else none)
  | .lst a=>ak (G5 a) λl=>ret l[i]?
  | .tup l=>ret l[i]?
  | .enm a=>ak (G5 a) λl=>ret (l[i]?.map λx=>.tup [.int i,x])
  | .fix l=>ret l[i]?
  | .zip x y=>ak (N4 x) λl=>ak (N4 y) λm=>ret (match l[i]?,m[i]? with
    | some u,some v=>some (.tup [u,v])
    | _,_=>none)
  | .enk k a=>ak (G5 a) λl=>ret (l[i]?.map λx=>.tup [.int ((k+i:Nat):Int),x])
@[simp] noncomputable def b4(J:It):M Nat:=match J with
  | .rng _ n=>ret n
  | .lst a=>ak (G5 a) λl=>ret l.length
  | .tup l=>ret l.length
  | .enm a=>ak (G5 a) λl=>ret l.length
  | .fix l=>ret l.length
  | .zip x _=>ak (N4 x) λl=>ret l.length
  | .enk _ a=>ak (G5 a) λl=>ret l.length
@[simp] noncomputable def sPass:SD:=λa=>ret (.nx a)
@[simp] noncomputable def ao(a b:SD):SD:=λd=>ak (a d) λf=>match f with
  | .nx c=>b c
  | o=>ret o
@[simp] noncomputable def aU(e:ED):SD:=λa=>ak (e a) λ_=>ret (.nx a)
@[simp] noncomputable def aw(e:ED):SD:=λa=>ak (e a) λv=>ret (.rt v)
@[simp] noncomputable def aP(t:TD)(a b:SD):SD:=λd=>ak (t d) λc=>if c=true then a d else b d
@[simp] noncomputable def az(e:ED)(g:GD):SD:=λb=>ak (e b) λv=>ak (g v b) λa=>ret (.nx a)
@[simp] noncomputable def sNever:SD:=λ_=>stuck
noncomputable def oN(J:It)(g:GD)(a:SD):Nat->Nat->PSt->M Fl
 | 0,_,_=>stuck
 | f+1,i,d=>ak (item J i) λx=>match x with
   | none=>ret (.nx d)
   | some v=>ak (g v d) λc=>ak (a c) λo=>match o with
     | .nx b=>oN J g a f (i+1) b
     | .ct b=>oN J g a f (i+1) b
     | .bk b=>ret (.nx b)
     | .rt v=>ret (.rt v)
theorem oO:∃T:It->GD->SD->Nat->Nat->PSt->M Fl,(∀J g a i c,T J g a 0 i c=stuck)/\∀J g a f i c,T J g a (f+1) i c=ak (item J i) λx=>match x with
 | none=>ret (.nx c)
 | some v=>ak (g v c) λd=>ak (a d) λo=>match o with
   | .nx b=>T J g a f (i+1) b
   | .ct b=>T J g a f (i+1) b
   | .bk b=>ret (.nx b)
   | .rt v=>ret (.rt v):=⟨oN,λ_ _ _ _ _=>rfl,λ_ _ _ _ _ _=>rfl⟩
noncomputable def W9:It->GD->SD->Nat->Nat->PSt->M Fl:=Ph oO
def sQ(J:It)(g:GD)(a:SD)(i:Nat)(σ:PSt):W9 J g a 0 i σ=stuck:=(Li oO).1 J g a i σ
theorem Q6(J:It)(g:GD)(a:SD)(f i:Nat)(σ:PSt):W9 J g a (f+1) i σ=ak (item J i) λx=>match x with
 | none=>ret (.nx σ)
 | some v=>ak (g v σ) λc=>ak (a c) λo=>match o with
   | .nx b=>W9 J g a f (i+1) b
   | .ct b=>W9 J g a f (i+1) b
   | .bk b=>ret (.nx b)
   | .rt v=>ret (.rt v):=(Li oO).2 J g a f i σ
@[simp] noncomputable def ft(c:ID)(g:GD)(a:SD):SD:=λb=>ak (c b) λJ=>ak (b4 J) λn=>W9 J g a (n+1) 0 b
noncomputable def oP(t:TD)(a:SD):Nat->PSt->M Fl
 | 0,_=>stuck
 | f+1,d=>ak (t d) λc=>if c=true then ak (a d) λo=>match o with
    | .nx b=>oP t a f b
    | .ct b=>oP t a f b
    | .bk b=>ret (.nx b)
    | .rt v=>ret (.rt v)
   else ret (.nx d)
theorem oQ:∃T:TD->SD->Nat->PSt->M Fl,(∀t a d,T t a 0 d=stuck)/\∀t a f d,T t a (f+1) d=ak (t d) λc=>if c=true then ak (a d) λo=>match o with
 | .nx b=>T t a f b
 | .ct b=>T t a f b
 | .bk b=>ret (.nx b)
 | .rt v=>ret (.rt v)
 else ret (.nx d):=⟨oP,λ_ _ _=>rfl,λ_ _ _ _=>rfl⟩
noncomputable def b6:TD->SD->Nat->PSt->M Fl:=Ph oQ
def zQ(t:TD)(a:SD)(σ:PSt):b6 t a 0 σ=stuck:=(Li oQ).1 t a σ
theorem sR(t:TD)(a:SD)(f:Nat)(σ:PSt):b6 t a (f+1) σ=ak (t σ) λc=>if c=true then ak (a σ) λo=>match o with
 | .nx b=>b6 t a f b
 | .ct b=>b6 t a f b
 | .bk b=>ret (.nx b)
 | .rt v=>ret (.rt v)
 else ret (.nx σ):=(Li oQ).2 t a f σ
@[simp] noncomputable def mM(t:TD)(a:SD):SD:=λb=>b6 t a LIM b
noncomputable def cu{a:Type}(b:List (Option Nat))(σ:List (Option a)):List (Option a):=b.map λo=>match o with
 | none=>none
 | some j=>σ.getD j none
noncomputable def oR(J:It)(g:GD)(t:TD)(e:ED):Nat->Nat->PSt->M (List PV)
 | 0,_,_=>stuck
 | f+1,i,b=>ak (item J i) λx=>match x with
   | none=>ret []
   | some v=>ak (g v b) λa=>ak (t a) λc=>if c=true then ak (e a) λy=>ak (oR J g t e f (i+1) a) λd=>ret (y::d)
     else oR J g t e f (i+1) a
theorem oS:∃T:It->GD->TD->ED->Nat->Nat->PSt->M (List PV),(∀J g t e i b,T J g t e 0 i b=stuck)/\∀J g t e f i b,T J g t e (f+1) i b=ak (item J i) λx=>match x with
 | none=>ret []
 | some v=>ak (g v b) λa=>ak (t a) λc=>if c=true then ak (e a) λy=>ak (T J g t e f (i+1) a) λd=>ret (y::d)
   else T J g t e f (i+1) a:=⟨oR,λ_ _ _ _ _ _=>rfl,λ_ _ _ _ _ _ _=>rfl⟩
noncomputable def b7:It->GD->TD->ED->Nat->Nat->PSt->M (List PV):=Ph oS
def sS(J:It)(g:GD)(t:TD)(e:ED)(i:Nat)(σ:PSt):b7 J g t e 0 i σ=stuck:=(Li oS).1 J g t e i σ
theorem sT(J:It)(g:GD)(t:TD)(e:ED)(f i:Nat)(σ:PSt):b7 J g t e (f+1) i σ=ak (item J i) λx=>match x with
 | none=>ret []
 | some v=>ak (g v σ) λa=>ak (t a) λc=>if c=true then ak (e a) λy=>ak (b7 J g t e f (i+1) a) λb=>ret (y::b)
   else b7 J g t e f (i+1) a:=(Li oS).2 J g t e f i σ
@[simp] noncomputable def bf:TD:=λ_=>ret true
@[simp] def M8(c:ID)(d:PSt->PSt)(g:GD)(t:TD)(e:ED):ED:=λa=>ak (c a) λJ=>ak (b4 J) λn=>ak (b7 J g t e (n+1) 0 (d a)) λb=>D8 (b.length<=LIM) (alloc (.lst b))
@[simp] noncomputable def dflt(f:Fun)(a:List PV):Fun:=λb=>f (b++a)
@[simp] noncomputable def start(n:Nat)(vs:List PV):PSt:=vs.map some++Mo (n - vs.length) none
noncomputable def fin(o:Fl):M PV:=match o with
    | .rt v=>ret v
    | .nx _=>ret .non
    | _=>stuck
@[simp] theorem Iq(v:PV):fin (.rt v)=ret v:=rfl
@[simp] theorem Ir(σ:PSt):fin (.nx σ)=ret .non:=rfl
@[simp] def fn(n p:Nat)(a:SD):Fun:=λb=>D8 (b.length=p) (ak (a (start n b)) fin)
end
def ag{n:Nat}{o:PO}(h:A<+:B)(e:A[n]?=some o):B[n]?=some o:=by
 obtain⟨t,rfl⟩:=h;rw[Jb (IW.mp e).1];exact e
def C5{A:PHp}(e:A[n]?=some o):n<A.length:=(IW.mp e).1
def r6{o:PO}(h:A<+:B)(e:A.length<=n):A<+:B.set n o:=by
 obtain⟨t,rfl⟩:=h;rw[PN _ _ e];exact IL _ _
def D4{o:PO}(h:A<+:B):A<+:B++[o]:=h.trans (IL _ _)
def zR{A B:PHp}(h:A<+:B):A.length<=B.length:=h.length_le
def aj{o:PO}:(A++[o])[A.length]?=some o:=by simp
def ai{o p:PO}{n:Nat}(e:A[n]?=some p):(A++[o])[n]?=some p:=ag (IL _ _) e
def C6{A:PHp}(h:m≠n):(A.set n o)[m]?=A[m]?:=by
 simp[Kk h]
def aE{A:PHp}(h:A[n]?=some p):(A.set n o)[n]?=some o:=by
 simp[C5 h]
def Comes(r:R Fl)(P:PSt->PHp->Prop)(Q:PV->PHp->Prop):Prop:=
 (∃a A,r=.ok (.nx a) A/\P a A)\/∃v A,r=.ok (.rt v) A/\Q v A
def dB(r:R Fl)(P:PSt->PHp->Prop)(Q:PV->PHp->Prop):Prop:=
 (∃a A,(r=.ok (.nx a) A\/r=.ok (.ct a) A)/\P a A)\/∃v A,r=.ok (.rt v) A/\Q v A
theorem turns_inv(P:Nat->PSt->PHp->Prop)(Q:PV->PHp->Prop)
 (d:∀b A,P n b A->item J n A=.ok none A)
 (hs:∀i b A,i<n->P i b A->∃v,item J i A=.ok (some v) A/\dB (ak (g v b) a A) (P (i+1)) Q) :
 ∀k i b A,i+k=n->P i b A->Comes (W9 J g a (k+1) i b A) (P n) Q
 | 0,i,b,A,e,h=>by
   obtain rfl:i=n:=by walk_at "o"
   refine .inl ⟨b,A,?_,h⟩;rw[Q6,aG (d b A h)];rfl
 | k+1,i,b,A,e,h=>by
   obtain⟨v,p,t⟩:=hs i b A (by walk_at "o") h;have j:W9 J g a (k+1+1) i b A=ak (ak (g v b) a) (λo=>match o with
    | .nx c=>W9 J g a (k+1) (i+1) c
    | .ct c=>W9 J g a (k+1) (i+1) c
    | .bk c=>ret (.nx c)
    | .rt v=>ret (.rt v)) A:=by
    rw[Q6,aG p];show ak _ _ A=_;unfold ak;cases g v b A<;>rfl
   rw[j];rcases t with⟨c,l,f,m⟩ | ⟨u,l,f,m⟩
   .rcases f with f | f<;>(rw[aG f];exact turns_inv P Q d hs k _ c l (by walk_at "o") m)
   .rw[aG f];exact .inr ⟨u,l,rfl,m⟩
def zS(d:f σ A=.ok (.enm a) c)(P:Nat->PSt->PHp->Prop)(Q:PV->PHp->Prop)(j:P 0 σ c)
 (e:∀i σ A,P i σ A->G5 a A=.ok l A)
 (hs:∀(i:Nat) v σ A,l[i]?=some v->P i σ A->dB (ak (g (.tup [.int i,v]) σ) b A) (P (i+1)) Q):Comes (ft f g b σ A) (P l.length) Q:=by
 show Comes (ak _ _ A) _ _;rw[aG d];show Comes (ak (ak _ _) _ c) _ _;rw[aG (show ak (G5 a) _ c=.ok _ c by rw[aG (e 0 σ c j)];rfl)];refine turns_inv P Q (λσ A h=>?_) (λi σ A d h=>⟨.tup [.int i,l[i]],?_,hs i _ σ A (by simp) h⟩) _ 0 σ c (by simp) j
 .show ak _ _ A=_;rw[aG (e _ _ _ h)];simp
 .show ak _ _ A=_;rw[aG (e _ _ _ h)];simp[d]
def Comes.end(h:Comes r P λ_ _=>False):∃a A,r=.ok (.nx a) A/\P a A:=by
 rcases h with h | ⟨_,_,_,h⟩
 .walk_at "o"
 .simp_all
def dB.nx(e:r=.ok (.nx σ) A)(h:P σ A):dB r P Q:=.inl ⟨σ,A,.inl e,h⟩
def Comes.mono(h:Comes r P Q)(d:∀a A,P a A->b a A)(f:∀v A,Q v A->c v A):Comes r b c:=by
 rcases h with⟨a,A,e,h⟩ | ⟨v,A,e,h⟩
 .exact .inl ⟨a,A,e,d _ _ h⟩
 .exact .inr ⟨v,A,e,f _ _ h⟩
def K8(h:A[n]?=some (.lst l)):G5 n A=.ok l A:=by simp_all
def zT(h:A[n]?=some (.lst l)):T5 n A=.ok l A:=by simp_all
mutual
theorem sU:∀x y:PV,j4 x=true->(bJ x y=true↔x=y)
 | .non,y,_=>by cases y<;>simp[bJ]
 | .bl _,_,h=>by simp[j4]at h
 | .int i,y,_=>by cases y<;>simp[bJ]
 | .str s,y,_=>by cases y<;>simp[bJ]
 | .tup l,y,h=>by
   cases y with
   | tup m=>simp only[PV.tup.injEq];exact eqvs_nice l m (by simpa[j4]using h)
   | _=>simp[bJ]
 | .ref _,_,h=>by simp[j4]at h
theorem eqvs_nice:∀l m:List PV,nices l=true->(eqvs l m=true↔l=m)
 | [],m,_=>by cases m<;>simp[eqvs]
 | x::a,m,h=>by
   cases m with
   | nil=>simp[eqvs]
   | cons y b=>
     simp only[nices,Jq]at h;simp only[eqvs,Jq,MH];rw[sU x y h.1,eqvs_nice a b h.2]
end
theorem S4(h:∀x,f x=true->j4 x=true):∀l:List PV,l.all f=true->nices l=true
 | [],_=>rfl
 | x::a,e=>by
   rw[MI,Jq]at e;simp only[nices,Jq];exact⟨h x e.1,S4 h a e.2⟩
def kS(x:PV)(h:Z8 x=true):j4 x=true:=by cases x<;>simp_all [j4]
def sV(x:PV)(h:hU x=true):j4 x=true:=by
 cases x with
 | tup l=>exact S4 kS l h
 | _=>exact kS _ h
def sW(x:PV)(h:Y7 x=true):j4 x=true:=by
 cases x with
 | tup l=>exact S4 sV l h
 | _=>exact kS _ h
def Y3(x:PV)(h:plain x=true):j4 x=true:=by
 cases x with
 | tup l=>exact S4 sW l h
 | _=>exact kS _ h
def oU(x y:PV)(h:plain x=true):bJ x y=true↔x=y:=sU x y (Y3 x h)
def zU(l m:List PV)(h:G8 l=true):eqvs l m=true↔l=m:=eqvs_nice l m (S4 Y3 l h)
def sX(l:List PV):G8 l=true↔∀x∈l,plain x=true:=Jy
def S5(ns:List Int):G8 (ns.map .int)=true:=by
 rw[sX];intro x a;obtain⟨i,_,rfl⟩:=IU.mp a;rfl
theorem cw{c:Type}(lt:c->c->Bool)(a:c):∀l:List c,(Y8 lt a l).Perm (a::l)
 | []=>.refl _
 | b::r=>by
   unfold Y8;split
   .exact((cw lt a r).cons b).trans (.swap a b r)
   .rfl
theorem H9{b:Type}(lt:b->b->Bool):∀l:List b,(D7 lt l).Perm l
 | []=>.refl _
 | a::r=>(cw lt a _).trans ((H9 lt r).cons a)
def O7(ns:List Int):K3 (ns.map .int)=some ns:=by
 induction ns with
 | nil=>rfl
 | cons i r ih=>simp[K3,ih]
theorem sY:∀(a:List (List Int)),(∀t∈a,t≠[])->U3 (a.map λt=>PV.tup (t.map .int))=some a
 | [],_=>rfl
 | t::r,h=>by
   have ih:=sY r λu b=>h u (IZ _ b);cases t with
   | nil=>exact absurd rfl (h [] IV)
   | cons x l=>
     have e:=O7 (x::l);simp only[Jn]at e;simp only[Jn,U3,e,ih]
def r8(h:a.length<64)(b:∀t∈a,t≠[]):i3 (a.map λt=>PV.tup (t.map .int)) A=.ok ((D7 D0 a).map λt=>PV.tup (t.map .int)) A:=by
 unfold i3;rw[IK,Q5 h];cases a with
 | nil=>rfl
 | cons t r=>
   have e:K3 ((t::r).map λt=>PV.tup (t.map .int))=none:=by simp[K3]
   rw[sY _ b];rfl
theorem r9{f:Type}{lt:f->f->Bool}(d:∀a b,lt a b=true->lt b a=false)(j:∀a b c,lt b a=false->lt c b=false->lt c a=false)(a:f) :
 ∀l:List f,l.Pairwise (λx y=>lt y x=false)->(Y8 lt a l).Pairwise (λx y=>lt y x=false)
 | [],_=>by simp[Y8]
 | b::r,h=>by
   rw[JQ]at h;unfold Y8;split
   .rename_i g;rw[JQ];refine⟨λc e=>?_,r9 d j a r h.2⟩;rcases IT.mp ((cw lt a r).mem_iff.mp e)with rfl | e
    .exact d _ _ g
    .exact h.1 c e
   .rename_i g;have i:lt b a=false:=by simpa using g
    rw[JQ];refine⟨λc e=>?_,JQ.mpr h⟩;rcases IT.mp e with rfl | e
    .walk_at "o"
    .exact j a b c i (h.1 c e)
theorem R4{e:Type}{lt:e->e->Bool}(d:∀a b,lt a b=true->lt b a=false)(f:∀a b c,lt b a=false->lt c b=false->lt c a=false) :
 ∀l:List e,(D7 lt l).Pairwise (λx y=>lt y x=false)
 | []=>by simp[D7]
 | a::r=>r9 d f a _ (R4 d f r)
def zV(l:List Int):(D7 hV l).Pairwise (·<=·):=by
 refine(R4 ?_ ?_ l).imp ?_
 .intro a b h;simp[hV]at *;walk_at "o"
 .intro a b c d e;simp[hV]at *;walk_at "o"
 .intro a b h;simp[hV]at h;exact h
theorem sZ:∀{l m:List Int},l.Perm m->l.Pairwise (·<=·)->m.Pairwise (·<=·)->l=m
 | [],m,h,_,_=>(List.nil_perm.mp h).symm
 | x::l,[],h,_,_=>absurd h.length_eq (by simp)
 | x::l,y::m,h,a,b=>by
   rw[JQ]at a b;have e:x=y:=by
    have c:=h.mem_iff.mp IV;have d:=h.mem_iff.mpr IV;rcases IT.mp c with e | e
    .walk_at "o"
    .grind
   subst e;rw[sZ (List.perm_cons _ |>.mp h) a.2 b.2]
theorem i4{d:Type}{lt:d->d->Bool}(c:∀a b,lt a b=false->lt b a=false->a=b):∀{l m:List d},l.Perm m->l.Pairwise (λx y=>lt y x=false)->m.Pairwise (λx y=>lt y x=false)->l=m
 | [],m,h,_,_=>(List.nil_perm.mp h).symm
 | x::l,[],h,_,_=>absurd h.length_eq (by simp)
 | x::l,y::m,h,f,g=>by
   rw[JQ]at f g;have e:x=y:=by
    have j:=h.mem_iff.mp IV;have n:=h.mem_iff.mpr IV;rcases IT.mp j with e | e
    .walk_at "o"
    .rcases IT.mp n with i | i
     .exact i.symm
     .exact c _ _ (g.1 x e) (f.1 y i) |>.symm ▸ rfl
   subst e;rw[i4 c (List.perm_cons _ |>.mp h) f.2 g.2]
theorem oV:∀a b:List Int,D0 a b=true->D0 b a=false
 | _,[],h=>by simp[D0]at h
 | [],_::_,_=>rfl
 | x::c,y::d,h=>by
   simp only[D0]at h ⊢;by_cases e:x=y
   .subst e;simp only[if_true]at h ⊢;exact oV c d h
   .rw[if_neg e]at h;rw[if_neg (Kk e)];simp at h ⊢;walk_at "o"
theorem s8:∀a b:List Int,D0 a b=false->D0 b a=false->a=b
 | [],[],_,_=>rfl
 | [],_::_,h,_=>by simp[D0]at h
 | _::_,[],_,h=>by simp[D0]at h
 | x::d,y::f,h,c=>by
   simp only[D0]at h c;by_cases e:x=y
   .subst e;simp only[if_true]at h c;rw[s8 d f h c]
   .grind
theorem oW:∀a b c:List Int,D0 b a=false->D0 c b=false->D0 c a=false
 | [],_,_,_,_=>by simp[D0]
 | _::_,[],_,h,_=>by simp[D0]at h
 | _::_,_::_,[],_,h=>by simp[D0]at h
 | x::f,y::g,z::i,h,d=>by
   simp only[D0]at h d ⊢;by_cases e:y=x
   .subst e;simp only[if_true]at h;by_cases j:z=y
    .subst j;simp only[if_true]at d ⊢;exact oW f g i h d
    .simp_all
   .grind
def tf(a:List (List Int)):(D7 D0 a).Pairwise (λx y=>D0 y x=false):=R4 oV oW a
@[simp] noncomputable def Iu(a:ED):ED:=λb=>ak (a b) λx=>match x with
  | .ref n=>ak (T5 n) λl=>match l[l.length - 1]? with
    | some y=>ak (put n (.lst l.dropLast)) λ_=>ret y
    | none=>stuck
  | _=>stuck
@[simp] noncomputable def mN(a:ED):ED:=λb=>ak (a b) λx=>match x with
  | .ref n=>ak (T5 n) λ_=>ak (put n (.lst [])) λ_=>ret .non
  | _=>stuck
noncomputable def s9:List PV->Option (List Bool)
 | []=>some []
 | .bl b::r=>(s9 r).map (b :: ·)
 | _=>none
@[simp] noncomputable def fb(a:ED):ED:=λb=>ak (a b) λx=>match x with
  | .ref n=>ak (G5 n) λl=>match s9 l with
    | some bs=>ret (.bl (bs.all id))
    | none=>stuck
  | _=>stuck
@[simp] def b8(a:ED):ED:=λb=>ak (a b) λx=>match x with
  | .ref n=>ak (G5 n) λl=>D8 (l.length<=LIM) (ret (.tup l))
  | _=>stuck
noncomputable def metI(l:List Int)(a:Int):List Int:=if l.any (·== a)=true then l else l++[a]
noncomputable def eB(ns:List Int):Nat:=(ns.foldl metI []).length
@[simp] def t0(a:ED):ED:=λb=>ak (a b) λx=>ak (N4 x) λl=>match K3 l with
  | some ns=>D8 (ns.length<1000) (ret (.int (eB ns)))
  | none=>stuck
def metI_cases(l:List Int)(a:Int):(a∈l/\metI l a=l)\/(a∉l/\metI l a=l++[a]):=by
 unfold metI;by_cases h:a∈l
 .simp_all
 .simp_all
theorem t4:∀(r l:List Int),l.Nodup->(r.foldl metI l).length<=l.length+r.length/\((r.foldl metI l).length=l.length+r.length↔(l++r).Nodup)
 | [],l,h=>by simp[h]
 | a::r,l,h=>by
   rw[PQ];rcases metI_cases l a with⟨c,e⟩ | ⟨c,e⟩
   .rw[e];obtain⟨d,b⟩:=t4 r l h;refine⟨by simp;walk_at "o",⟨λz=>by simp at z;walk_at "o",λz=>?_⟩⟩;exact absurd rfl ((JV.mp z).2.2 a c a IV)
   .rw[e];have f:(l++[a]).Nodup:=by
     rw[JV];exact⟨h,by simp,λx j y g z=>by simp at g;exact c (by simp_all)⟩
    obtain⟨d,b⟩:=t4 r _ f;have i:l++[a]++r=l++a::r:=by simp
    rw[i]at b;simp only[Jo,Js,Kc]at d b ⊢;exact⟨by walk_at "o",⟨λz=>b.mp (by walk_at "o"),λz=>by have:=b.mpr z;walk_at "o"⟩⟩
def tj(ns:List Int):eB ns<=ns.length:=by have:=(t4 ns [] LX).1;simpa[eB]using this
def tm(ns:List Int):eB ns<ns.length↔¬ns.Nodup:=by
 have h:=(t4 ns [] LX).2;have a:=tj ns;simp only[Kc,PR]at h;unfold eB at *;constructor
 .grind
 .grind
@[simp] noncomputable def iZip(a b:ED):ID:=λc=>ak (a c) λx=>ak (b c) λy=>ak (N4 x) λ_=>ak (N4 y) λ_=>ret (.zip x y)
@[simp] noncomputable def dC(a:ED):ED:=λb=>ak (a b) λx=>match x with
  | .tup c=>ret (.tup c.reverse)
  | _=>stuck
section
noncomputable def cN{b:Type}(m:M b):M b:=λA=>match m A with
 | .ok a c=>.ok a c
 | _=>.no
def tq{b:Type}{m:M b}{a:b}(h:m A=.ok a A'):cN m A=.ok a A':=by unfold cN;rw[h]
def b9(c:Nat)(f:Fun)(a:ED)(es:AD):ED:=λb=>ak (cN (a b)) λx=>match x with
 | .ref n=>ak (q9 n) λo=>D8 (o.1=c) (ak (cN (es b)) λd=>f (x::d))
 | _=>stuck
noncomputable def cx(s:SD):SD:=λa=>cN (s a)
noncomputable def cY(t:TD):TD:=λa=>cN (t a)
noncomputable def bL(c:Nat)(es:AD):SD:=λa=>ak (cN (es a)) λb A=>match b with
 | [v]=>.ex c v A
 | _=>.no
noncomputable def ja(i:Nat):Fl->Fl
 | .nx a=>.nx (a.set i none)
 | .bk a=>.bk (a.set i none)
 | .ct a=>.ct (a.set i none)
 | .rt v=>.rt v
abbrev Hd:=Nat×Option Nat×SD
noncomputable def T2:List Hd->Nat->PV->PSt->M Fl
 | [],_,_,_=>stuck
 | (k,none,b)::r,c,v,a=>if bS c k=true then b a else T2 r c v a
 | (k,some i,b)::r,c,v,a=>if bS c k=true then ak (alloc (.exc c v)) λx=>ak (b (a.set i (some x))) λf=>ret (ja i f) else T2 r c v a
def kj(es:List Nat)(b:SD)(hs:List Hd):SD:=λd A=>match b d A with
 | .ok f a=>.ok f a
 | .ex c v a=>D8 (c∈es) (T2 hs c v d) a
 | .no=>.no
def hX(n:Nat)(es:List Nat):M (Nat×PV):=λA=>match A[n]? with
 | some (.exc c v)=>D8 (c∈es) (ret (c,v)) A
 | _=>.no
def hY(es:List Nat)(d:ED):ED:=λa=>ak (d a) λx=>match x with
 | .ref n=>ak (hX n es) λp=>ret p.2
 | _=>stuck
def eC(es:List Nat)(d:ED)(k:Nat):ED:=λa=>ak (d a) λx=>match x with
 | .ref n=>ak (hX n es) λp=>ret (.bl (bS p.1 k))
 | _=>stuck
@[simp] noncomputable def Iv(a b:ED):ED:=λc=>ak (a c) λx=>ak (b c) λy=>match x,y with
  | .int i,.int j=>ret (.int (if j > i then j else i))
  | _,_=>stuck
@[simp] def gs:OD:=λx y=>match x,y with
  | .int i,.int j=>D8 (0<=j/\j<=1000/\i.natAbs<1000) (ret (.int (i ^ j.toNat)))
  | _,_=>stuck
end
section
end
section
end
section
noncomputable def O8:PV->Option (List Int)
 | .tup l=>K3 l
 | _=>none
noncomputable def Q1(n:Nat):M (List (List Int×PV)):=λA=>match A[n]? with
 | some (.dT m)=>.ok m A
 | _=>.no
noncomputable def aD:List (List Int×PV)->List Int->Option PV
 | [],_=>none
 | p::r,k=>if p.1=k then some p.2 else aD r k
noncomputable def T9(a:List (List Int×PV))(k:List Int)(x:PV):List (List Int×PV):=
 if(a.any λp=>decide (p.1=k))=true then a.map (λp=>if p.1=k then(p.1,x) else p) else a++[(k,x)]
noncomputable def cZ(y d:ED):ED:=λa=>ak (y a) λk=>ak (d a) λx=>match O8 k,x with
 | some i,.ref n=>ak (Q1 n) λm=>ret (.bl (aD m i).isSome)
 | _,_=>stuck
def cL(d y e:ED):SD:=λa=>ak (e a) λv=>ak (d a) λx=>ak (y a) λk=>match x,O8 k with
 | .ref n,some i=>ak (Q1 n) λm=>D8 (m.length<LIM) (ak (put n (.dT (T9 m i v))) λ_=>ret (.nx a))
 | _,_=>stuck
noncomputable def eTGet(d y:ED):ED:=λa=>ak (d a) λx=>ak (y a) λk=>match x,O8 k with
 | .ref n,some i=>ak (Q1 n) λm=>match aD m i with
   | some v=>ret v
   | none=>stuck
 | _,_=>stuck
noncomputable def eTNew:ED:=λ_=>alloc (.dT [])
noncomputable def mO(d y:ED):ED:=λa=>ak (d a) λx=>match x with
 | .ref n=>ak (Q1 n) λ_=>ak (y a) λk=>match O8 k with
   | some i=>ak (Q1 n) λm=>ret ((aD m i).getD .non)
   | _=>stuck
 | _=>stuck
noncomputable def m6(d y e:ED):ED:=λa=>ak (d a) λx=>match x with
 | .ref n=>ak (Q1 n) λ_=>ak (y a) λk=>ak (e a) λv=>match O8 k with
   | some i=>ak (Q1 n) λm=>ret ((aD m i).getD v)
   | _=>stuck
 | _=>stuck
def fu:OD
 | .int i,.int j=>D8 (0<=j) (ret (.int (i / 2 ^ j.toNat)))
 | _,_=>stuck
def gu:OD
 | .int i,.int j=>D8 (0<=j/\j<=1000000/\i.natAbs<2 ^ 64) (ret (.int (i*2 ^ j.toNat)))
 | _,_=>stuck
noncomputable def fw:OD
 | .int i,.int j=>ret (.int (Kv i j))
 | _,_=>stuck
end
section
noncomputable def small:List (List Int):=((Ju 10).map λa=>(Ju 10).map λb=>[((a:Nat):Int),((b:Nat):Int)]).flatten
noncomputable def Iw(a:ED):ED:=λb=>ak (a b) λx=>match x with
 | .ref n=>ak (Q1 n) λm=>ret (.int m.length)
 | _=>stuck
def mP(a:ED):ED:=λb=>ak (a b) λx=>match x with
 | .ref n=>ak (Q1 n) λm=>D8 ((m.map (·.1)).Nodup/\∀p∈m,p.1∈small) (alloc (.dT m))
 | _=>stuck
end
section
end
section
end
section
end
section
end
section
noncomputable def kT(a:ED):ED:=λc=>ak (a c) λx=>match x with
 | .bl b=>ret (.int (if b then 1 else 0))
 | _=>stuck
noncomputable def kU(x:PV):M Bool:=match x with
 | .str _=>ret true
 | .ref n=>ak (T5 n) λ_=>ret false
 | _=>ret false
noncomputable def kW(a:ED):ED:=λc=>ak (a c) λx=>ak (kU x) λb=>ret (.bl b)
end
section
end
section
def t5(a:ED):ED:=λb=>ak (a b) λx=>match x with
 | .ref n=>ak (Q1 n) λm=>D8 (m.length<64/\∀p∈m,p.1≠[]) (alloc (.lst ((D7 D0 (m.map (·.1))).map λt=>.tup (t.map .int))))
 | _=>stuck
end
section
end
section
end
section
def kl(a:ED):ED:=λb=>ak (a b) λx=>match x with
 | .ref n=>ak (Q1 n) λm=>D8 (m.length<=LIM/\∀p∈m,p.1≠[]) (alloc (.lst (m.map λp=>.tup (p.1.map .int))))
 | _=>stuck
end
def c5(d y e:ED):ED:=λa=>ak (d a) λx=>match x with
 | .ref n=>ak (Q1 n) λ_=>ak (y a) λk=>ak (e a) λv=>match O8 k with
   | some i=>ak (Q1 n) λm=>match aD m i with
     | some w=>ret w
     | none=>D8 (m.length<LIM) (ak (put n (.dT (T9 m i v))) λ_=>ret v)
   | _=>stuck
 | _=>stuck
noncomputable def eIxX(a i:ED):ED:=λb=>ak (cN (a b)) λx=>ak (i b) λy=>cN (oIx x y)
noncomputable def kX(d:ED):ED:=λa=>ak (d a) λx=>cN (match x with | .bl b=>ret (.int (if b then 1 else 0)) | _=>stuck)
noncomputable def gg:List PV->Option (List (List Int×PV))
 | []=>some []
 | .tup [k,v]::r=>(O8 k).bind λi=>(gg r).map ((i,v) :: ·)
 | _=>none
def t6(a:ED):ED:=λc=>ak (a c) λx=>match x with
 | .ref n=>ak (T5 n) λl=>match gg l with
   | some m=>D8 (m.length<LIM) (alloc (.dT (m.foldl (λb p=>T9 b p.1 p.2) [])))
   | none=>stuck
 | _=>stuck
section
end
section
end
section
end
section
end
@[simp] noncomputable def jb(n:Nat):M (List (Ki×PV)):=λA=>match A[n]? with
  | some (.dS m)=>.ok m A
  | _=>.no
noncomputable def m7:List (Ki×PV)->Ki->Option PV
 | [],_=>none
 | p::r,k=>if p.1=k then some p.2 else m7 r k
noncomputable def gv(a:List (Ki×PV))(k:Ki)(x:PV):List (Ki×PV):=
 if(a.any λp=>decide (p.1=k))=true then a.map (λp=>if p.1=k then(p.1,x) else p) else a++[(k,x)]
@[simp] def eh(d y e:ED):SD:=λa=>ak (e a) λv=>ak (d a) λx=>ak (y a) λk=>match x,k with
  | .ref n,.str i=>ak (jb n) λm=>D8 (m.length<LIM) (ak (put n (.dS (gv m i v))) λ_=>ret (.nx a))
  | _,_=>stuck
@[simp] noncomputable def eSGet(d y:ED):ED:=λa=>ak (d a) λx=>ak (y a) λk=>match x,k with
  | .ref n,.str i=>ak (jb n) λm=>match m7 m i with
    | some v=>ret v
    | none=>stuck
  | _,_=>stuck
@[simp] noncomputable def kY:List (Ki×ED)->PSt->M (List (Ki×PV))
  | [],_=>ret []
  | p::r,a=>ak (p.2 a) λv=>ak (kY r a) λb=>ret ((p.1,v)::b)
@[simp] noncomputable def cT(ps:List (Ki×ED)):ED:=λc=>ak (alloc (.dS [])) λx=>ak (kY ps c) λa=>match x with
  | .ref n=>ak (jb n) λm=>match m with
    | []=>ak (put n (.dS (a.foldl (λb p=>gv b p.1 p.2) []))) λ_=>ret x
    | _=>stuck
  | _=>stuck
@[simp] noncomputable def oX(n:Nat):M Unit:=λA=>match A[n]? with
  | some .hid=>.ok () A
  | _=>.no
noncomputable def mQ(g:GD)(a:SD):List (List Int×PV)->PSt->M PSt
 | [],b=>ret b
 | p::r,b=>ak (g (.tup [.tup (p.1.map .int),p.2]) b) λc=>ak (a c) λo=>match o with
   | .nx d=>mQ g a r d
   | _=>stuck
noncomputable def oY(d:ED)(g:GD)(a:SD):SD:=λc=>ak (d c) λx=>match x with
 | .ref n=>ak (Q1 n) λm=>ak (put n .hid) λ_=>ak (mQ g a m c) λb=>ak (oX n) λ_=>ak (put n (.dT m)) λ_=>ret (.nx b)
 | _=>stuck
noncomputable def V5(ns a:List Int):Bool:=decide (eB ns=eB a)&&ns.all λx=>decide (x∈a)
def kZ(a b:ED):ED:=λc=>ak (a c) λx=>match x with
 | .ref n=>ak (T5 n) λl=>ak (b c) λy=>match y with
   | .ref k=>ak (T5 k) λm=>match K3 l,K3 m with
     | some ns,some d=>D8 (ns.length<900/\d.length<900) (ret (.bl (V5 ns d)))
     | _,_=>stuck
   | _=>stuck
 | _=>stuck
end Ws
namespace Ws
open PySem L2
noncomputable def zW:Expr->Bool
 | .Starred _ _=>true
 | _=>false
def D9(h:zW e=false):starEach (e::es) a=(false,eval e a)::starEach es a:=by
 cases e<;>first | rfl | cases h
mutual
inductive RV (ρ:List Addr) (H:Hp):PV->V->Prop
 | non:RV ρ H .non .non
 | bl (b:Bool):RV ρ H (.bl b) (.bl b)
 | int (i:Int):RV ρ H (.int i) (.int i)
 | str (x:Str):RV ρ H (.str x) (.str x)
 | tup {l:List PV} {a:Addr} {vs:List V} (h:H a=some (.tup vs)) (r:RVs ρ H l vs):RV ρ H (.tup l) (.ref a)
 | ref {n:Nat} {a:Addr} (h:ρ[n]?=some a):RV ρ H (.ref n) (.ref a)
inductive RVs (ρ:List Addr) (H:Hp):List PV->List V->Prop
 | nil:RVs ρ H [] []
 | cons {x:PV} {v:V} {l:List PV} {vs:List V} (h:RV ρ H x v) (r:RVs ρ H l vs):RVs ρ H (x::l) (v::vs)
end
structure au(ρ:List Addr)(H:Hp)(ρ':List Addr)(H':Hp):Prop where
 pre:ρ<+:ρ'
 tup:∀a vs,H a=some (.tup vs)->H' a=some (.tup vs)
 xd:∀a fs,H a=some (.xd fs)->H' a=some (.xd fs)
def au.refl(a:List Addr)(H:Hp):au a H a H:=⟨Jk _,λ_ _ h=>h,λ_ _ h=>h⟩
def au.trans(a:au g H d i)(b:au d i e j):au g H e j:=⟨a.pre.trans b.pre,λc f h=>b.tup c f (a.tup c f h),λc f h=>b.xd c f (a.xd c f h)⟩
def lg{n:Nat}{a:Addr}(h:c<+:b)(e:c[n]?=some a):b[n]?=some a:=by
 obtain⟨t,rfl⟩:=h;rw[Jb (IW.mp e).1];exact e
def RV.mono(e:au ρ H ρ' H')(h:RV ρ H x v):RV ρ' H' x v:=
 RV.rec (motive_1:=λx v _=>RV ρ' H' x v) (motive_2:=λl a _=>RVs ρ' H' l a) .non .bl .int .str (λh _ r=>.tup (e.tup _ _ h) r) (λh=>.ref (lg e.pre h)) .nil (λ_ _ h r=>.cons h r) h
def RVs.ind{M:List PV->List V->Prop}(n:M [] [])(c:∀{x v l vs},RV ρ H x v->RVs ρ H l vs->M l vs->M (x::l) (v::vs))(h:RVs ρ H l vs):M l vs:=
 RVs.rec (motive_1:=λ_ _ _=>True) (motive_2:=λl vs _=>M l vs) trivial (λ_=>trivial) (λ_=>trivial) (λ_=>trivial) (λ_ _ _=>trivial) (λ_=>trivial) n (λh r _ m=>c h r m) h
def RVs.mono(e:au ρ H ρ' H')(h:RVs ρ H l vs):RVs ρ' H' l vs:=RVs.ind (M:=λl vs=>RVs ρ' H' l vs) .nil (λh _ r=>.cons (RV.mono e h) r) h
def RVs.length(h:RVs ρ H l vs):l.length=vs.length:=RVs.ind (M:=λl vs=>l.length=vs.length) rfl (λ_ _ e=>congrArg (·+ 1) e) h
def RVs.get{i:Nat}(h:RVs ρ H l vs)(e:l[i]?=some x):∃v,vs[i]?=some v/\RV ρ H x v:=
 RVs.ind (M:=λl vs=>∀i:Nat,l[i]?=some x->∃v,vs[i]?=some v/\RV ρ H x v) (λ_ e=>nomatch e) (λh _ ih i e=>by
  cases i with
  | zero=>cases e;exact⟨_,rfl,h⟩
  | succ i=>exact ih i e) h i e
def RVs.get'{i:Nat}(h:RVs ρ H l vs)(e:vs[i]?=some v):∃x,l[i]?=some x/\RV ρ H x v:=
 RVs.ind (M:=λl vs=>∀i:Nat,vs[i]?=some v->∃x,l[i]?=some x/\RV ρ H x v) (λ_ e=>nomatch e) (λh _ ih i e=>by
  cases i with
  | zero=>cases e;exact⟨_,rfl,h⟩
  | succ i=>exact ih i e) h i e
def RVs.append(h:RVs ρ H l vs)(s:RVs ρ H m a):RVs ρ H (l++m) (vs++a):=RVs.ind (M:=λl vs=>RVs ρ H (l++m) (vs++a)) s (λh _ r=>.cons h r) h
theorem RVs.take:∀{l:List PV}{vs:List V}(n:Nat),RVs ρ H l vs->RVs ρ H (l.take n) (vs.take n)
 | _,_,0,_=>by simpa using .nil
 | _,_,_+1,.nil=>.nil
 | _,_,n+1,.cons h r=>.cons h (RVs.take n r)
theorem RVs.drop:∀{l:List PV}{vs:List V}(n:Nat),RVs ρ H l vs->RVs ρ H (l.drop n) (vs.drop n)
 | _,_,0,r=>r
 | _,_,_+1,.nil=>.nil
 | _,_,n+1,.cons _ r=>RVs.drop n r
def RVs.ints(ns:List Int):RVs ρ H (ns.map .int) (ns.map .int):=by
 induction ns with
 | nil=>exact .nil
 | cons i r ih=>exact .cons (.int i) ih
def Fz(K:IH)(H:Hp)(a:Addr)(c:List V):Prop:=
 (∃o,H a=some (.frz o (.lst c)))\/∃(o:Obj)(b:Array II)(n:Nat),K.lookup a=some o/\o.cls=.type "list"/\o.dict=none/\o.data=.seq b n/\b.size<=sizeLine/\ay c b.toList
def Fz.sq(h:Fz K H a b):bu K H a b:=by
 rcases h with⟨o,h⟩ | h
 .exact .inl (.inr ⟨o,h⟩)
 .exact .inr h
noncomputable def P3:PO->Bool
 | .ro _=>false
 | .hid=>false
 | _=>true
noncomputable def tu:PO->Bool
 | .ro _=>false
 | .hid=>false
 | .exc _ _=>false
 | _=>true
def zX(h:tu o=true):P3 o=true:=by cases o<;>first | rfl | cases h
structure Pairs{κ κ':Type}(f:κ->κ')(ρ:List Addr)(H:Hp)(kvs:List (κ×PV))(kv:List (κ'×V)):Prop where
 keys:kv.map (·.1)=kvs.map λp=>f p.1
 vals:RVs ρ H (kvs.map (·.2)) (kv.map (·.2))
def Pairs.mono{d a:Type}{f:d->a}{c:List (d×PV)}{kv:List (a×V)}(h:Pairs f g H c kv)(e:au g H b H'):Pairs f b H' c kv:=⟨h.keys,h.vals.mono e⟩
noncomputable def zY(i:Nat):Str:=(["Keeper.says_word_on.<locals>.<lambda>","law.<locals>.<lambda>","_law_hand.<locals>.<lambda>"]:List Str).getD i "?"
inductive tw (cm:Nat->Addr) (H:Hp) (j:Nat):Prop
 | mk (ps:Array II) (h0:H (cm (31+5*j))=some (.tbl ps)) (h1:TriplesOk ps.toList)
   (h2:∀cv,codeAmong ⟨cm (32+5*j),cm (33+5*j),0,0⟩ ps.toList=some cv->∃c o vs t,cv=.ref c/\H c=some (.frz o (.own c))/\o.data=.fields vs/\vs[1]?=some (.str (zY (cm (35+5*j))) t)):tw cm H j
def fx(a:Nat->Addr)(H:Hp):Prop:=∀j,j<a 30->tw a H j
def fx.keep(t:fx d H)(k:∀a u,H a=some u->((∃b,u=.tbl b)\/∃o c,u=.frz o (.own c))->H' a=some u):fx d H':=λj f=>by
 obtain⟨b,g,h,i⟩:=t j f;refine⟨b,k _ _ g (.inl ⟨_,rfl⟩),h,λl e=>?_⟩;obtain⟨c,o,m,t,n,p,q⟩:=i l e;exact⟨c,o,m,t,n,k _ _ p (.inr ⟨_,_,rfl⟩),q⟩
section
variable(K:IH)(cm:Nat->Addr)
def RO(f:List Addr)(H:Hp)(a:Addr):PO->Prop
 | .lst l=>∃g,H a=some (.lst g)/\RVs f H l g
 | .ro l=>∃g,Fz K H a g/\RVs f H l g
 | .dI b=>∃e,H a=some (.dK e)/\Pairs (Kb:Int->Key) f H b e
 | .ins c fs=>(c<7/\∀p∈fs,p.1<19)/\∃i e,H a=some (.ins (cm c) i e)/\Pairs cA f H fs e
 | .dS b=>∃e,H a=some (.dK e)/\Pairs (Px:Str->Key) f H b e
 | .dT b=>∃e,H a=some (.dT e)/\Pairs (Nf Kb:List Int->List Key) f H b e
 | .hid=>True
 | .exc c v=>∃o d h,H a=some (.frz o (.own a))/\o.cls=.ref (cm c)/\o.dict=some d/\(∃vs:Array II,o.data=.fields vs/\vs[2]?=some .none)/\H d=some (.xd [("at",h)])/\RV f H v h
structure aF(ρ:List Addr)(A:PHp)(H:Hp):Prop where
 tab:fx cm H
 len:ρ.length=A.length
 obj:∀(n:Nat)(o:PO)(a:Addr),A[n]?=some o->ρ[n]?=some a->RO K cm ρ H a o
 inj:∀(m n:Nat)(a:Addr)(o p:PO),ρ[m]?=some a->ρ[n]?=some a->A[m]?=some o->A[n]?=some p->P3 o=true->P3 p=true->m=n
end
section
variable{K:IH}{cm:Nat->Addr}{ρ ρ':List Addr}{H H':Hp}{A:PHp}{a p:Addr}{o:PO}{n:Nat}
def RO.keep(r:RO K cm ρ H a o)(e:au ρ H ρ' H')(b:∀u,H a=some u->H' a=some u):RO K cm ρ' H' a o:=by
 cases o with
 | lst l=>obtain⟨i,h,q⟩:=r;exact⟨i,b _ h,q.mono e⟩
 | ro l=>
   obtain⟨i,h,q⟩:=r;rcases h with⟨u,h⟩ | h
   .exact⟨i,.inl ⟨u,b _ h⟩,q.mono e⟩
   .exact⟨i,.inr h,q.mono e⟩
 | dI g=>obtain⟨f,h,q⟩:=r;exact⟨f,b _ h,q.mono e⟩
 | ins c fs=>obtain⟨j,m,f,h,q⟩:=r;exact⟨j,m,f,b _ h,q.mono e⟩
 | dS g=>obtain⟨f,h,q⟩:=r;exact⟨f,b _ h,q.mono e⟩
 | dT g=>obtain⟨f,h,q⟩:=r;exact⟨f,b _ h,q.mono e⟩
 | hid=>exact trivial
 | exc c v=>obtain⟨o,d,s,h,w,x,y,z,q⟩:=r;exact⟨o,d,s,b _ h,w,x,y,e.xd _ _ z,q.mono e⟩
def RO.some(r:RO K cm ρ H a o)(m:P3 o=true):∃u,H a=some u:=by
 cases o with
 | lst l=>obtain⟨f,h,q⟩:=r;exact⟨_,h⟩
 | ro l=>simp[P3]at m
 | dI b=>obtain⟨e,h,q⟩:=r;exact⟨_,h⟩
 | ins c fs=>obtain⟨_,g,e,h,q⟩:=r;exact⟨_,h⟩
 | dS b=>obtain⟨e,h,q⟩:=r;exact⟨_,h⟩
 | dT b=>obtain⟨e,h,q⟩:=r;exact⟨_,h⟩
 | hid=>cases m
 | exc c v=>obtain⟨o,d,i,h,q⟩:=r;exact⟨_,h⟩
def K9(c:H p=none):∀b v,H b=some v->ax H p u b=some v:=λb v h=>by
 rw[ah (E7 h c)];exact h
def au.same(b:H p=none):au ρ H ρ (ax H p u):=⟨Jk _,λa c h=>K9 b a _ h,λa c h=>K9 b a _ h⟩
def au.new(b:H p=none):au ρ H (ρ++[p]) (ax H p u):=⟨IL _ _,λa c h=>K9 b a _ h,λa c h=>K9 b a _ h⟩
def aF.grow(r:aF K cm ρ A H)(e:au ρ H ρ H')(c:∀b v,H b=some v->H' b=some v):aF K cm ρ A H':=
 ⟨r.tab.keep λa u h _=>c a u h,r.len,λn o a d f=>(r.obj n o a d f).keep e (c a),r.inj⟩
def aF.tup{vs:List V}(r:aF K cm ρ A H)(b:H p=none):aF K cm ρ A (ax H p (.tup vs)):=r.grow (au.same b) (K9 b)
def aF.alloc(r:aF K cm ρ A H)(B:H p=none)(D:RO K cm (ρ++[p]) (ax H p u) p o)(Q:P3 o=true):aF K cm (ρ++[p]) (A++[o]) (ax H p u):=by
 have e:au ρ H (ρ++[p]) (ax H p u):=au.new B;have b:∀(n:Nat)(q:PO),ρ[n]?=some p->A[n]?=some q->P3 q=true->False:=λn q d c O=>by
  obtain⟨v,J⟩:=(r.obj n q p c d).some O;rw[B]at J;cases J
 have split:∀{E:Type}{l:List E}{x y:E}{n:Nat},(l++[x])[n]?=some y->l[n]?=some y\/(n=l.length/\y=x):=λ{E l x y n} h=>by
  by_cases D:n<l.length
  .rw[Jb D]at h;exact .inl h
  .rw[JN (by walk_at "o")]at h;have:n - l.length=0:=by
    by_cases z:n - l.length=0
    .exact z
    .rw[JR (by simp;walk_at "o")]at h;cases h
   rw[this]at h;simp at h;exact .inr ⟨by walk_at "o",h.symm⟩
 refine⟨r.tab.keep λa u h _=>K9 B a u h,by simp[r.len],λn q a d c=>?_,λm n a q C d c s w L N=>?_⟩
 .rcases split d with d | ⟨rfl,rfl⟩
  .rcases split c with c | ⟨rfl,rfl⟩
   .exact(r.obj n q a d c).keep e (K9 B a)
   .rw[r.len,JR (IM _)]at d;cases d
  .rcases split c with c | ⟨_,rfl⟩
   .rw[<-r.len,JR (IM _)]at c;cases c
   .exact D
 .rcases split d with f | ⟨rfl,G⟩<;>rcases split c with g | ⟨rfl,I⟩
  .have i:A[m]?=some q:=by
    rcases split s with s | ⟨rfl,_⟩
    .exact s
    .rw[<-r.len,JR (IM _)]at f;cases f
   have j:A[n]?=some C:=by
    rcases split w with w | ⟨rfl,_⟩
    .exact w
    .rw[<-r.len,JR (IM _)]at g;cases g
   exact r.inj m n a q C f g i j L N
  .have i:A[m]?=some q:=by
    rcases split s with s | ⟨rfl,_⟩
    .exact s
    .rw[<-r.len,JR (IM _)]at f;cases f
   rw[I]at f;exact(b m q f i L).elim
  .have j:A[n]?=some C:=by
    rcases split w with w | ⟨rfl,_⟩
    .exact w
    .rw[<-r.len,JR (IM _)]at g;cases g
   rw[G]at g;exact(b n C g j N).elim
  .rfl
def au.put(r:aF K cm ρ A H)(s:ρ[n]?=some a)(x:A[n]?=some o)(m:P3 o=true):au ρ H ρ (ax H a u):=by
 have f:∀b w,H b=some w->((∃j,w=.tup j)\/∃fs,w=.xd fs)->ax H a u b=some w:=λb w h e=>by
  have ne:b≠a:=by
   rintro rfl;have q:=r.obj n o b x s;cases o with
   | lst l=>obtain⟨i,z,_⟩:=q;rw[h]at z;cases z;rcases e with⟨_,y⟩ | ⟨_,y⟩<;>cases y
   | ro l=>simp[P3]at m
   | dI g=>obtain⟨i,z,_⟩:=q;rw[h]at z;cases z;rcases e with⟨_,y⟩ | ⟨_,y⟩<;>cases y
   | ins c fs=>obtain⟨_,B,i,z,_⟩:=q;rw[h]at z;cases z;rcases e with⟨_,y⟩ | ⟨_,y⟩<;>cases y
   | dS g=>obtain⟨i,z,_⟩:=q;rw[h]at z;cases z;rcases e with⟨_,y⟩ | ⟨_,y⟩<;>cases y
   | dT g=>obtain⟨i,z,_⟩:=q;rw[h]at z;cases z;rcases e with⟨_,y⟩ | ⟨_,y⟩<;>cases y
   | hid=>cases m
   | exc c v=>obtain⟨o,d,C,z,_⟩:=q;rw[h]at z;cases z;rcases e with⟨_,y⟩ | ⟨_,y⟩<;>cases y
  rw[ah ne];exact h
 exact⟨Jk _,λb j h=>f b _ h (.inl ⟨_,rfl⟩),λb j h=>f b _ h (.inr ⟨_,rfl⟩)⟩
def aF.put(r:aF K cm ρ A H)(G:ρ[n]?=some a)(C:A[n]?=some o)(mt:tu o=true)(m':P3 J=true)(T:RO K cm ρ (ax H a u) a J):aF K cm ρ (A.set n J) (ax H a u):=by
 have m:=zX mt;have e:au ρ H ρ (ax H a u):=au.put r G C m;have U:=C5 C;refine⟨r.tab.keep λb v h E=>?_,by simp[r.len],λk q b D h=>?_,λi j b q Y e1 e2 e3 e4 m1 m2=>?_⟩
 .have ne:b≠a:=by
   rintro rfl;have q:=r.obj n o b C G;cases o with
   | lst l=>obtain⟨s,z,_⟩:=q;rw[h]at z;cases z;rcases E with⟨_,y⟩ | ⟨_,_,y⟩<;>cases y
   | ro l=>cases mt
   | dI B=>obtain⟨s,z,_⟩:=q;rw[h]at z;cases z;rcases E with⟨_,y⟩ | ⟨_,_,y⟩<;>cases y
   | ins c fs=>obtain⟨_,dx,s,z,_⟩:=q;rw[h]at z;cases z;rcases E with⟨_,y⟩ | ⟨_,_,y⟩<;>cases y
   | dS B=>obtain⟨s,z,_⟩:=q;rw[h]at z;cases z;rcases E with⟨_,y⟩ | ⟨_,_,y⟩<;>cases y
   | dT B=>obtain⟨s,z,_⟩:=q;rw[h]at z;cases z;rcases E with⟨_,y⟩ | ⟨_,_,y⟩<;>cases y
   | hid=>cases mt
   | exc c v=>cases mt
  rw[ah ne];exact h
 .by_cases g:k=n
  .subst g;rw[aE C]at D;cases D;rw[G]at h;cases h;exact T
  .rw[C6 g]at D;have L:=r.obj k q b D h;by_cases I:b=a
   .subst I;cases N:P3 q with
    | true=>exact absurd (r.inj k n b q o h G D C N m) g
    | false=>
      cases q with
      | ro l=>
        obtain⟨s,z,w⟩:=L;rcases z with⟨v,z⟩ | z
        .obtain⟨v',O⟩:=(r.obj n o b C G).some m;have:=r.obj n o b C G;rw[z]at O;cases O;cases o with
         | lst l=>obtain⟨s,f,_⟩:=this;rw[z]at f;cases f
         | ro l=>simp[P3]at m
         | dI B=>obtain⟨s,f,_⟩:=this;rw[z]at f;cases f
         | ins c fs=>obtain⟨_,dx,s,f,_⟩:=this;rw[z]at f;cases f
         | dS B=>obtain⟨s,f,_⟩:=this;rw[z]at f;cases f
         | dT B=>obtain⟨s,f,_⟩:=this;rw[z]at f;cases f
         | hid=>cases m
         | exc c v=>obtain⟨o,d,v',f,_⟩:=this;rw[z]at f;cases f
        .exact⟨s,.inr z,w.mono e⟩
      | hid=>exact trivial
      | _=>simp[P3]at N
   .exact L.keep e λv E=>by rw[ah I];exact E
 .have Q:∀(k:Nat)(x:PO),(A.set n J)[k]?=some x->P3 x=true->∃y,A[k]?=some y/\P3 y=true:=λk x D hx=>by
   by_cases g:k=n
   .subst g;exact⟨o,C,m⟩
   .rw[C6 g]at D;exact⟨x,D,hx⟩
  obtain⟨y,y1,y2⟩:=Q i q e3 m1;obtain⟨z,z1,z2⟩:=Q j Y e4 m2;exact r.inj i j b y z e1 e2 y1 z1 y2 z2
end
structure bG(ρ:List Addr)(H:Hp)(σp:PSt)(σ:L2.St):Prop where
 len:σ.length=σp.length
 get:∀(i:Nat)(p:PV),σp[i]?=some (some p)->∃v,σ[i]?=some (some v)/\RV ρ H p v
def bG.mono(h:bG c H b σ)(e:au c H a H'):bG a H' b σ:=
 ⟨h.len,λi p d=>let⟨v,f,g⟩:=h.get i p d;⟨v,f,g.mono e⟩⟩
def bG.set(h:bG d H a σ)(i:Nat)(r:RV d H x v):bG d H (a.set i (some x)) (σ.set i (some v)):=by
 refine⟨by simp[h.len],λj p b=>?_⟩;by_cases c:i=j
 .subst c;by_cases e:i<a.length
  .rw[List.getElem?_set]at b;simp[e]at b;subst b;exact⟨v,by simp[h.len,e],r⟩
  .rw[JR (by simp;walk_at "o")]at b;cases b
 .rw[JL c]at b ⊢;exact h.get j p b
section
variable(K:IH)(cm:Nat->Addr)
inductive cB (d:ED) (σ:L2.St) (H:Hp) (Q:VK):Prop
 | mk (ρ:List Addr) (A:PHp) (σp:PSt) (v:PV) (A':PHp) (h0:aF K cm ρ A H) (h1:bG ρ H σp σ) (h2:d σp A=.ok v A') (h3:∀ρ' H' v',au ρ H ρ' H'->aF K cm ρ' A' H'->RV ρ' H' v v'->Q v' H'):cB d σ H Q
inductive fc (d:TD) (σ:L2.St) (H:Hp) (Q:Bool->Hp->Prop):Prop
 | mk (ρ:List Addr) (A:PHp) (σp:PSt) (b:Bool) (A':PHp) (h0:aF K cm ρ A H) (h1:bG ρ H σp σ) (h2:d σp A=.ok b A') (h3:∀ρ' H',au ρ H ρ' H'->aF K cm ρ' A' H'->Q b H'):fc d σ H Q
inductive fy (d:AD) (σ:L2.St) (H:Hp) (Q:List V->Hp->Prop):Prop
 | mk (ρ:List Addr) (A:PHp) (σp:PSt) (vs:List PV) (A':PHp) (h0:aF K cm ρ A H) (h1:bG ρ H σp σ) (h2:d σp A=.ok vs A') (h3:∀ρ' H' vs',au ρ H ρ' H'->aF K cm ρ' A' H'->RVs ρ' H' vs vs'->Q vs' H'):fy d σ H Q
inductive km (g:GD) (v:V) (σ:L2.St) (H:Hp) (Q:L2.St->Hp->Prop):Prop
 | mk (ρ:List Addr) (A:PHp) (σp:PSt) (x:PV) (σp':PSt) (A':PHp) (h0:aF K cm ρ A H) (h1:bG ρ H σp σ) (h2:RV ρ H x v) (h3:g x σp A=.ok σp' A') (h4:∀ρ' H' σ',au ρ H ρ' H'->aF K cm ρ' A' H'->bG ρ' H' σp' σ'->Q σ' H'):km g v σ H Q
inductive dR (g:GDs) (vs:List V) (σ:L2.St) (H:Hp) (Q:L2.St->Hp->Prop):Prop
 | mk (ρ:List Addr) (A:PHp) (σp:PSt) (xs:List PV) (σp':PSt) (A':PHp) (h0:aF K cm ρ A H) (h1:bG ρ H σp σ) (h2:RVs ρ H xs vs) (h3:g xs σp A=.ok σp' A') (h4:∀ρ' H' σ',au ρ H ρ' H'->aF K cm ρ' A' H'->bG ρ' H' σp' σ'->Q σ' H'):dR g vs σ H Q
def mR(D:o8)(c:List Addr)(H:Hp):Fl->Prop
 | .nx a=>∀b,bG c H a b->D.nx b H
 | .bk a=>∀b,bG c H a b->D.bk b H
 | .ct a=>∀b,bG c H a b->D.ct b H
 | .rt v=>∀d,RV c H v d->D.rt d H
inductive gh (s:SD) (D:o8) (σ:L2.St) (H:Hp):Prop
 | mk (ρ:List Addr) (A:PHp) (σp:PSt) (f:Fl) (A':PHp) (h0:aF K cm ρ A H) (h1:bG ρ H σp σ) (h2:s σp A=.ok f A') (h3:∀ρ' H',au ρ H ρ' H'->aF K cm ρ' A' H'->mR D ρ' H' f):gh s D σ H
end
section
variable(X:Cx)(cm:Nat->Addr)
abbrev Pe(e:Expr)(d:ED):Prop:=PE X e (cB X.K cm d)
abbrev Pt(e:Expr)(d:TD):Prop:=PT X e (fc X.K cm d)
abbrev Pw(e:Expr)(d:TD):Prop:=PW X e (fc X.K cm d)
abbrev Pa(e:List Expr)(d:AD):Prop:=PA X e (fy X.K cm d)
abbrev Ps(e:Stmt)(d:SD):Prop:=PS X e (gh X.K cm d)
abbrev eD(e:List Stmt)(d:SD):Prop:=bP X e (gh X.K cm d)
abbrev Pg(e:Expr)(d:GD):Prop:=L2.PG X e (km X.K cm d)
end
section
variable{X:Cx}{cm:Nat->Addr}
def C9(h:PE X e t)(k:∀a H Q,t' a H Q->t a H Q):PE X e t':=λb s a H Q I q=>h b s a H Q I (k a H Q q)
def m8(h:PT X e t)(k:∀a H Q,t' a H Q->t a H Q):PT X e t':=λb s a H Q I q=>h b s a H Q I (k a H Q q)
def tz(h:PW X e t)(k:∀a H Q,t' a H Q->t a H Q):PW X e t':=λw b s a H Q I q=>h w b s a H Q I (k a H Q q)
def tD(h:PA X es t)(k:∀a H Q,t' a H Q->t a H Q):PA X es t':=λc b s a H Q I q=>h c b s a H Q I (k a H Q q)
def O9(h:PS X st t)(k:∀D a H,t' D a H->t D a H):PS X st t':=λb s a H D I q=>h b s a H D I (k D a H q)
def mS(h:bP X st t)(k:∀D a H,t' D a H->t D a H):bP X st t':=λb s a H D I q=>h b s a H D I (k D a H q)
def tE(h:L2.PG X e t)(k:∀v a H Q,t' v a H Q->t v a H Q):L2.PG X e t':=λb s a H v u Q I r q=>h b s a H v u Q I r (k v a H Q q)
def tF(h:eZ X es t)(k:∀v a H Q,t' v a H Q->t v a H Q):eZ X es t':=λb s a H c d Q I r q=>h b s a H c d Q I r (k c a H Q q)
def zZ(h:PE X e (fh i)):Pe X cm e (aa i):=C9 h λo H Q b=>by
 obtain⟨c,A,a,v,d,r,f,g,k⟩:=b;have:∃p,a[i]?=some (some p)/\v=p/\d=A:=by
  unfold aa at g;rcases j:a[i]? with _ | (_ | p)
  .simp_all
  .simp_all
  .simp_all
 obtain⟨p,l,rfl,rfl⟩:=this;obtain⟨u,m,n⟩:=f.get i _ l;exact⟨u,m,k c H u (au.refl _ _) r n⟩
def ko(h:PE X e (tC u))(b:∀a H,RV a H x u):Pe X cm e (eK x):=C9 h λg H Q c=>by
 obtain⟨a,A,d,v,i,r,j,f,k⟩:=c;cases f;exact k a H u (au.refl _ _) r (b a H)
def lh{j a}:Pe X cm (.Constant (.int i) j a) (eK (.int i)):=ko nW λ_ _=>.int i
def oZ{j a}:Pe X cm (.Constant (.bool b) j a) (eK (.bl b)):=ko xb λ_ _=>.bl b
def lj{j a}:Pe X cm (.Constant .none j a) (eK .non):=ko xc λ_ _=>.non
def Q0(K:IH)(cm:Nat->Addr)(f:OD)(r:R2):Prop:=∀b A H x y z d e g (Q:VK),aF K cm b A H->RV b H x e->RV b H y g->f x y A=.ok z d->
 (∀a c h,au b H a c->aF K cm a d c->RV a c z h->Q h c)->r e g H Q
def mT(B:Q0 X.K cm f r)(h:cB X.K cm (eBin f a b) σ H Q):kO r (cB X.K cm a) (cB X.K cm b) σ H Q:=by
 obtain⟨C,A,c,z,D,E,q,d,k⟩:=h;obtain⟨x,s,G,d⟩:=B0 d;obtain⟨y,u,I,d⟩:=B0 d;exact⟨C,A,c,x,s,E,q,G,λe Y J v g i=>⟨e,s,c,y,u,g,q.mono v,I,λj L N w l m=>B j u L x y z D J N Q l (i.mono w) m d λn O T U o p=>k n O T ((v.trans w).trans U) o p⟩⟩
def cE(i:bQ X (binaryOp d) r)(j:Q0 X.K cm f r)(l:Pe X cm a e)(m:Pe X cm b g):Pe X cm (.BinOp a d b c) (eBin f e g):=
 C9 (yf i l m) λn H Q h=>mT j h
def dg(i:bQ X (compareOp c) r)(j:Q0 X.K cm f r)(l:Pe X cm a e)(m:Pe X cm b g)(n:behindInMarks c b=false):Pe X cm (.Compare a [c] [b] d) (eBin f e g):=
 C9 (yi i l m n) λo H Q h=>mT j h
def i5(h:∀σ H Q,cB X.K cm d σ H Q->t σ H Q)(q:fc X.K cm (aq d) σ H Q):rX t σ H Q:=by
 obtain⟨j,A,e,b,s,l,m,a,k⟩:=q;obtain⟨x,n,o,a⟩:=B0 a;refine h σ H _ ⟨j,A,e,x,n,l,m,o,λf p u r g i=>?_⟩;cases x with
 | bl c=>
   cases a;cases i;exact⟨_,rfl,k f p r g⟩
 | _=>cases a
def cy(i:bQ X (compareOp c) r)(j:Q0 X.K cm f r)(l:Pe X cm a e)(m:Pe X cm b g)(n:behindInMarks c b=false):Pt X cm (.Compare a [c] [b] d) (aq (eBin f e g)):=
 m8 (yj i l m n) λo H Q h=>i5 (λ_ _ _=>mT j) h
def jc(h:Pe X cm e d)(he:∀whole,isTrue e X.env whole=(do let v <-whole;standAt e.pos;holding [v] (truthy v)):=by intro _;rfl):Pt X cm e (aq d):=
 m8 (xm h he) λa H Q q=>i5 (λ_ _ _ z=>z) q
def kq{g:Int->Int->PV}(h:∀x y A z a,f x y A=.ok z a->∃i j,x=.int i/\y=.int j/\C i j/\z=g i j/\a=A)(c:∀b H i j,RV b H (g i j) (g' i j))(K:IH)(cm:Nat->Addr):Q0 K cm f (rI C g'):=
 λb A H x y z a o p Q d e l m k=>by
  obtain⟨i,j,rfl,rfl,n,rfl,rfl⟩:=h _ _ _ _ _ m;cases e;cases l;exact⟨i,j,rfl,rfl,n,k b H _ (au.refl _ _) d (c _ _ _ _)⟩
def kr{g:Int->Int->PV}(h:∀x y A z a,f x y A=.ok z a->∃i j,x=.int i/\y=.int j/\z=g i j/\a=A)(c:∀b H i j,RV b H (g i j) (g' i j))(K:IH)(cm:Nat->Addr):Q0 K cm f (dM g'):=
 λb A H x y z a n o Q d e l m k=>by
  obtain⟨i,j,rfl,rfl,rfl,rfl⟩:=h _ _ _ _ _ m;cases e;cases l;exact⟨i,j,rfl,rfl,k b H _ (au.refl _ _) d (c _ _ _ _)⟩
def jd:Q0 X.K cm fk (dM λi j=>.int (i - j)):=kr (λx y A z a h=>by cases x<;>cases y<;>first | (cases h;exact⟨_,_,rfl,rfl,rfl,rfl⟩) | cases h) (λ_ _ _ _=>.int _) _ _
def fz:Q0 X.K cm dN (dM λi j=>.bl (decide (i<j))):=kr (λx y A z a h=>by cases x<;>cases y<;>first | (cases h;exact⟨_,_,rfl,rfl,rfl,rfl⟩) | cases h) (λ_ _ _ _=>.bl _) _ _
def fA:Q0 X.K cm iY (dM λi j=>.bl (decide (i<=j))):=kr (λx y A z a h=>by cases x<;>cases y<;>first | (cases h;exact⟨_,_,rfl,rfl,rfl,rfl⟩) | cases h) (λ_ _ _ _=>.bl _) _ _
def hZ:Q0 X.K cm iZ (dM λi j=>.bl (decide (j<i))):=kr (λx y A z a h=>by cases x<;>cases y<;>first | (cases h;exact⟨_,_,rfl,rfl,rfl,rfl⟩) | cases h) (λ_ _ _ _=>.bl _) _ _
def ia:Q0 X.K cm kf (dM λi j=>.bl (decide (j<=i))):=kr (λx y A z a h=>by cases x<;>cases y<;>first | (cases h;exact⟨_,_,rfl,rfl,rfl,rfl⟩) | cases h) (λ_ _ _ _=>.bl _) _ _
def je:Q0 X.K cm aY (rI (λ_ j=>0<j) λi j=>.int (i%j)):=kq (λx y A z a h=>by
 cases x<;>cases y<;>first | (obtain⟨c,h⟩:=B9 h;cases h;exact⟨_,_,rfl,rfl,c,rfl,rfl⟩) | cases h) (λ_ _ _ _=>.int _) _ _
def gw:Q0 X.K cm bw (rI rV λi j=>.int (i / j)):=kq (λx y A z a h=>by
 cases x<;>cases y<;>first | (obtain⟨c,h⟩:=B9 h;cases h;exact⟨_,_,rfl,rfl,c,rfl,rfl⟩) | cases h) (λ_ _ _ _=>.int _) _ _
def jf:Q0 X.K cm cH (rI gn λi j=>.int (i*j)):=kq (λx y A z a h=>by
 cases x<;>cases y<;>first | (obtain⟨c,h⟩:=B9 h;cases h;exact⟨_,_,rfl,rfl,c,rfl,rfl⟩) | cases h) (λ_ _ _ _=>.int _) _ _
end
def M3(i:aF K g ρ A H)(r:RV ρ H (.ref n) v)(h:G5 n A=.ok l A'):A'=A/\∃a d,v=.ref a/\bu K H a d/\RVs ρ H l d:=by
 cases r with
 | ref j=>
   unfold G5 at h;rcases b:A[n]? with _ | o
   .rw[b]at h;cases h
   .have q:=i.obj n o _ b j;cases o with
    | lst m=>rw[b]at h;cases h;obtain⟨d,e,f⟩:=q;exact⟨rfl,_,d,rfl,bu.of e,f⟩
    | ro m=>rw[b]at h;cases h;obtain⟨d,e,f⟩:=q;exact⟨rfl,_,d,rfl,e.sq,f⟩
    | dI m=>rw[b]at h;cases h
    | ins c m=>rw[b]at h;cases h
    | dS m=>rw[b]at h;cases h
    | dT m=>rw[b]at h;cases h
    | hid=>rw[b]at h;cases h
    | exc c m=>rw[b]at h;cases h
def O0(g:aF K f ρ A H)(r:RV ρ H (.ref n) v)(h:T5 n A=.ok l A'):A'=A/\A[n]?=some (.lst l)/\∃a d,v=.ref a/\ρ[n]?=some a/\H a=some (.lst d)/\RVs ρ H l d:=by
 cases r with
 | ref e=>
   unfold T5 at h;rcases b:A[n]? with _ | o
   .rw[b]at h;cases h
   .have q:=g.obj n o _ b e;cases o with
    | lst m=>rw[b]at h;cases h;obtain⟨d,i,j⟩:=q;exact⟨rfl,rfl,_,d,rfl,e,i,j⟩
    | ro m=>rw[b]at h;cases h
    | dI m=>rw[b]at h;cases h
    | ins c m=>rw[b]at h;cases h
    | dS m=>rw[b]at h;cases h
    | dT m=>rw[b]at h;cases h
    | hid=>rw[b]at h;cases h
    | exc c m=>rw[b]at h;cases h
def lq{n:Nat}(d:aF K b ρ A H)(e:A[n]?=some (.ins c fs))(f:ρ[n]?=some a):c<7:=(d.obj n _ _ e f).1.1
def t7(i:aF K f ρ A H)(r:RV ρ H (.ref n) v)(h:q9 n A=.ok o A'):A'=A/\A[n]?=some (.ins o.1 o.2)/\∃a e d,v=.ref a/\ρ[n]?=some a/\H a=some (.ins (f o.1) e d)/\Pairs cA ρ H o.2 d/\∀p∈o.2,p.1<19:=by
 cases r with
 | ref g=>
   unfold q9 at h;rcases b:A[n]? with _ | o
   .rw[b]at h;cases h
   .have q:=i.obj n o _ b g;cases o with
    | lst m=>rw[b]at h;cases h
    | ro m=>rw[b]at h;cases h
    | dI m=>rw[b]at h;cases h
    | ins c m=>rw[b]at h;cases h;obtain⟨j,e,d,s,u⟩:=q;exact⟨rfl,rfl,_,e,d,rfl,g,s,u,j.2⟩
    | dS m=>rw[b]at h;cases h
    | dT m=>rw[b]at h;cases h
    | hid=>rw[b]at h;cases h
    | exc c m=>rw[b]at h;cases h
def c6(g:aF K f ρ A H)(r:RV ρ H x v)(h:N4 x A=.ok l A'):A'=A/\∃a b,v=.ref a/\(bu K H a b\/cp K H a b)/\RVs ρ H l b:=by
 cases x with
 | ref n=>
   obtain⟨e,a,b,c,d,i⟩:=M3 g r h;exact⟨e,a,b,c,.inl d,i⟩
 | tup m=>
   cases h;cases r with
   | tup c d=>exact⟨rfl,_,_,rfl,.inr (cp.of c),d⟩
 | _=>cases h
def z4{b:Type}(a:List b)(i:Int):L2.atI a i=atI a i:=rfl
theorem RVs.at(r:RVs ρ H l a)(h:atI l i=some x):∃u,L2.atI a i=some u/\RV ρ H x u:=by
 rw[z4];unfold atI at h ⊢;rw[<-r.length];rcases e:ixN l.length i with _ | j
 .rw[e]at h;cases h
 .rw[e]at h;obtain⟨u,b,c⟩:=r.get (i:=j) h;exact⟨u,b,c⟩
def t8(n d:Nat)(o:Option Int):HT.sIx n d o=T6 n d o:=by
 cases o with
 | none=>rfl
 | some v=>
   have e:=HT.cQ v n d;show HT.sIx n d _=if v<0 then(max (v+n) 0).toNat else(min v n).toNat;by_cases h:v<0
   .rw[if_pos h]at e ⊢;walk_at "o"
   .rw[if_neg h]at e ⊢;walk_at "o"
def RVs.slc(r:RVs ρ H l a)(lo b:Option Int):RVs ρ H (cut l lo b) (iU a lo b):=by
 unfold cut iU;rw[t8,t8,<-r.length];exact(r.drop _).take _
def X0(h:n<=LIM):n<=sizeLine:=Jt h (by unfold LIM;decide)
def lr(h:n<LIM):n<sizeLine:=Jc h (by unfold LIM;decide)
section
variable{X:Cx}{cm:Nat->Addr}
def tG(K:IH):R2:=λx y H Q=>(∃i j,x=.int i/\y=.int j/\Q (.int (i+j)) H)\/(sv K x y H Q\/rCat x y H Q)
def gx:bQ X (binaryOp .Add) (tG X.K):=op_add.or (op_catT.or zk)
def jg:Q0 X.K cm aS (tG X.K):=λq A H x y z N O T Q f r s d k=>by
 cases x with
 | int i=>
   cases y with
   | int j=>cases d;cases r;cases s;exact .inl ⟨i,j,rfl,rfl,k q H _ (au.refl _ _) f (.int _)⟩
   | _=>cases d
 | tup l=>
   cases y with
   | tup m=>
     obtain⟨c,d⟩:=B9 d;cases d;cases r with
     | tup B g=>
       cases s with
       | tup E o=>
         refine .inr (.inl ⟨_,_,_,_,rfl,rfl,cp.of B,cp.of E,?_,?_,?_⟩)
         .intro e;subst e;have:=g.length;exact c.1 (List.length_eq_zero_iff.mp (by simpa using this))
         .rw[<-g.length,<-o.length];exact X0 c.2
         .refine⟨λz=>?_,λ_ p h=>?_⟩
          .subst z;cases o;refine k q H _ (au.refl _ _) f ?_;rw[Kn];exact .tup B g
          .refine k q _ _ (au.same h) (f.tup h) (.tup C1 ?_);exact(g.mono (au.same h)).append (o.mono (au.same h))
   | _=>cases d
 | ref n=>
   cases y with
   | ref m=>
     obtain⟨U,Y,G,u⟩:=B0 d;obtain⟨rfl,_,a,C,rfl,_,I,g⟩:=O0 f r G;obtain⟨l2,A2,J,v⟩:=B0 u;obtain⟨rfl,_,b,D,rfl,_,L,o⟩:=O0 f s J;obtain⟨c,w⟩:=B9 v;cases w;refine .inr (.inr ⟨a,b,C,D,rfl,rfl,I,L,?_,λp h=>?_⟩)
     .rw[<-g.length,<-o.length];exact X0 c
     .have e:au q H _ (ax H p (.lst (C++D))):=au.new h;exact k _ _ _ e (f.alloc h ⟨_,C1,(g.mono e).append (o.mono e)⟩ rfl) (.ref (by rw[<-f.len];simp))
   | _=>cases d
 | _=>cases y<;>cases d
def pa(K:IH):R2:=λx y H Q=>sy K x y H Q\/sA K x y H Q
def tH:hJ X (pa X.K):=ix_list.or yX
def tI:Q0 X.K cm oIx (pa X.K):=λg A H x y z r s v Q e n o h k=>by
 cases y with
 | int i=>
   obtain⟨l,B,p,b⟩:=B0 h;obtain⟨rfl,a,j,rfl,c,q⟩:=c6 e n p;rcases f:atI l i with _ | u
   .rw[f]at b;cases b
   .rw[f]at b;cases b;cases o;obtain⟨w,m,d⟩:=q.at f;rcases c with c | c
    .exact .inl ⟨a,j,i,w,rfl,rfl,c,m,k g H w (au.refl _ _) e d⟩
    .exact .inr ⟨a,j,i,w,rfl,rfl,c,m,k g H w (au.refl _ _) e d⟩
 | _=>cases h
def r_ix(f:Pe X cm a d)(g:Pe X cm b e)(hs:oE b):Pe X cm (.Subscript a b c) (eBin oIx d e):=
 C9 (yW tH f g hs) λi H Q h=>mT tI h
def t9(r:RV a H x v):decide (v=.non)=kh x:=by
 cases r<;>simp
def lu(l:Pe X cm a i):Pe X cm (.Compare a [.Is] [.Constant .none j b] c) (dA i):=
 C9 (rM (rL l)) λw H Q m=>by
  obtain⟨n,A,d,v,o,p,q,e,k⟩:=m;obtain⟨x,y,r,e⟩:=B0 e;cases e;exact⟨n,A,d,x,o,p,q,r,λf s z u g h=>k f s _ u g (by rw[t9 h];exact .bl _)⟩
def jh(l:Pe X cm a i):Pt X cm (.Compare a [.Is] [.Constant .none j b] c) (aq (dA i)):=
 m8 (mq (rL l)) λσ H Q q=>i5 (λσ H Q m=>by
  obtain⟨n,A,d,v,A',o,p,e,k⟩:=m;obtain⟨x,w,r,e⟩:=B0 e;cases e;exact⟨n,A,d,x,A',o,p,r,λf s y u g h=>k f s _ u g (by rw[t9 h];exact .bl _)⟩) q
def gy(l:Pe X cm a i):Pt X cm (.Compare a [.IsNot] [.Constant .none j b] c) (aq (cK i)):=
 m8 (mq (xl l)) λσ H Q q=>i5 (λσ H Q m=>by
  obtain⟨n,A,d,v,A',o,p,e,k⟩:=m;obtain⟨x,w,r,e⟩:=B0 e;cases e;exact⟨n,A,d,x,A',o,p,r,λf s y u g h=>k f s _ u g (by rw[t9 h];exact .bl _)⟩) q
def z5(hf:Q0 X.K cm f r)(hg:Q0 X.K cm g L)(h:cB X.K cm (cI f g a b c) σ H Q):rY r L (cB X.K cm a) (cB X.K cm b) (cB X.K cm c) σ H Q:=by
 obtain⟨ρ,A,e,z,A',rl,o,d,k⟩:=h;obtain⟨x,N,e1,d⟩:=B0 d;obtain⟨y,O,e2,d⟩:=B0 d;obtain⟨m,T,e3,d⟩:=B0 d;refine⟨ρ,A,e,x,N,rl,o,e1,λp H1 vx U q s=>⟨p,N,e,y,O,q,o.mono U,e2,λv H2 Y x2 w j=>hf v O H2 x y m T vx Y _ w (s.mono x2) j e3 λl H3 v3 x3 n B=>?_⟩⟩;have i:=(U.trans x2).trans x3;cases m with
 | bl t=>
   cases B;refine⟨t,rfl,?_⟩;cases t with
   | true=>
     obtain⟨u,A4,e4,d⟩:=B0 d;exact⟨l,T,e,u,A4,n,o.mono i,e4,λC H4 v4 x4 D E=>hg C A4 H4 y u z A' Y v4 Q D ((j.mono x3).mono x4) E d λG H5 v5 x5 I J=>k G H5 v5 ((i.trans x4).trans x5) I J⟩
   | false=>
     cases d;exact k l H3 _ i n (.bl false)
 | _=>cases d
def ei(p:bQ X (compareOp e) r)(q:Q0 X.K cm f r)(j:bQ X (compareOp d) l)(s:Q0 X.K cm g l)
 (u:Pe X cm a m) (v:Pe X cm b n) (w:Pe X cm c o) (x:lastMarks [e,d] [b,c]=false:=by with_unfolding_all rfl):Pe X cm (.Compare a [e,d] [b,c] i) (cI f g m n o):=
 C9 (yk p j u v w x) λy H Q h=>z5 q s h
def ji(h:Pt X cm a t):Pt X cm (.UnaryOp .Not a d) (tNot t):=m8 (xu h) λs H Q j=>by
 obtain⟨l,A,e,b,m,n,o,f,k⟩:=j;obtain⟨c,u,p,f⟩:=B0 f;cases f;exact⟨l,A,e,c,m,n,o,p,λg q r i=>k g q r i⟩
def gz(h:Pt X cm a t):Pw X cm (.BoolOp .And [a] b) t:=xn h
def jj(h:Pt X cm a t):Pw X cm (.BoolOp .Or [a] b) t:=xo h
def z6(o:Pt X cm a t)(p:Pw X cm (.BoolOp .And (b::rest) d) u):Pw X cm (.BoolOp .And (a::b::rest) d) (tAnd t u):=
 tz (xp o p) λC H Q q=>by
  obtain⟨r,A,e,z,s,v,m,h,k⟩:=q;obtain⟨c,n,w,h⟩:=B0 h;refine⟨r,A,e,c,n,v,m,w,λf x i g=>?_⟩;cases c with
  | true=>exact⟨f,n,e,z,s,g,m.mono i,h,λj y B l=>k j y (i.trans B) l⟩
  | false=>cases h;exact k f x i g
def Aa(o:Pt X cm a t)(p:Pw X cm (.BoolOp .Or (b::rest) d) u):Pw X cm (.BoolOp .Or (a::b::rest) d) (tOr t u):=
 tz (xq o p) λC H Q q=>by
  obtain⟨r,A,e,z,s,v,m,h,k⟩:=q;obtain⟨c,n,w,h⟩:=B0 h;refine⟨r,A,e,c,n,v,m,w,λf x i g=>?_⟩;cases c with
  | true=>cases h;exact k f x i g
  | false=>exact⟨f,n,e,z,s,g,m.mono i,h,λj y B l=>k j y (i.trans B) l⟩
def pb(h:ki x A=.ok c A'):x=.bl c/\A'=A:=by
 cases x with
 | bl b=>cases h;exact⟨rfl,rfl⟩
 | _=>cases h
def fB(h:Pe X cm a d):Pe X cm (.BoolOp .And [a] b) d:=rN h
def lx(h:Pe X cm a d):Pe X cm (.BoolOp .Or [a] b) d:=rN h
def ib(q:Pe X cm a d)(r:Pe X cm (.BoolOp .And (b::rest) e) u):Pe X cm (.BoolOp .And (a::b::rest) e) (T7 d u):=
 C9 (xA q r) λI H Q s=>by
  obtain⟨v,A,f,z,w,y,p,i,k⟩:=s;obtain⟨c,J,j,i⟩:=B0 i;obtain⟨x,L,B,j⟩:=B0 j;obtain⟨rfl,rfl⟩:=pb j;refine⟨v,A,f,_,_,y,p,B,λg C N l h m=>?_⟩;cases m;refine⟨c,rfl,?_⟩;cases c with
  | true=>exact⟨g,_,f,z,w,h,p.mono l,i,λn D E G o=>k n D E (l.trans G) o⟩
  | false=>cases i;exact k g C _ l h (.bl false)
def Ab(q:Pe X cm a d)(r:Pe X cm (.BoolOp .Or (b::rest) e) u):Pe X cm (.BoolOp .Or (a::b::rest) e) (mK d u):=
 C9 (xB q r) λI H Q s=>by
  obtain⟨v,A,f,z,w,y,p,i,k⟩:=s;obtain⟨c,J,j,i⟩:=B0 i;obtain⟨x,L,B,j⟩:=B0 j;obtain⟨rfl,rfl⟩:=pb j;refine⟨v,A,f,_,_,y,p,B,λg C N l h m=>?_⟩;cases m;refine⟨c,rfl,?_⟩;cases c with
  | true=>cases i;exact k g C _ l h (.bl true)
  | false=>exact⟨g,_,f,z,w,h,p.mono l,i,λn D E G o=>k n D E (l.trans G) o⟩
def ic(l:Pe X cm a d):Pe X cm (.UnaryOp .Not a b) (cS d):=
 C9 (xC l) λu H Q m=>by
  obtain⟨n,A,e,z,v,o,p,f,k⟩:=m;obtain⟨c,w,g,f⟩:=B0 f;obtain⟨x,y,q,g⟩:=B0 g;obtain⟨rfl,rfl⟩:=pb g;cases f;refine⟨n,A,e,_,_,o,p,q,λh r B s i j=>?_⟩;cases j;exact⟨c,rfl,k h r _ s i (.bl _)⟩
def pd(v:Pt X cm c t)(w:Pe X cm a d)(x:Pe X cm b u):Pe X cm (.IfExp c a b m) (mL t d u):=
 C9 (xE v w x) λE H Q y=>by
  obtain⟨B,A,e,z,s,C,n,j,k⟩:=y;obtain⟨c,o,D,j⟩:=B0 j;refine⟨B,A,e,c,o,C,n,D,λh G l i=>?_⟩;cases c with
  | true=>exact⟨h,o,e,z,s,i,n.mono l,j,λf p q r g=>k f p q (l.trans r) g⟩
  | false=>exact⟨h,o,e,z,s,i,n.mono l,j,λf p q r g=>k f p q (l.trans r) g⟩
def br:Pa X cm [] aNil:=tD mE λf H Q a=>by
 obtain⟨b,A,c,g,h,d,i,e,k⟩:=a;cases e;exact k b H [] (au.refl _ _) d .nil
def aN(h:Pe X cm e d)(r:Pa X cm es m)(hs:starEach (e::es) X.env=(false,eval e X.env)::starEach es X.env:=by exact D9 rfl):Pa X cm (e::es) (ae d m):=
 tD (Y1 h r hs) λE H Q s=>by
  obtain⟨u,A,a,G,v,w,n,b,k⟩:=s;obtain⟨x,o,y,b⟩:=B0 b;obtain⟨z,I,B,b⟩:=B0 b;cases b;exact⟨u,A,a,x,o,w,n,y,λc J L p f g=>⟨c,o,a,z,v,f,n.mono p,B,λi C D q j l=>k i C _ (p.trans q) j (.cons (g.mono q) l)⟩⟩
def ly(h:Pa X cm es m):Pe X cm (.Tuple es f g) (aC m):=
 C9 (yC h) λz H Q q=>by
  obtain⟨r,A,i,v,s,u,w,b,k⟩:=q;obtain⟨x,B,y,b⟩:=B0 b;obtain⟨c,b⟩:=B9 b;cases b;refine⟨r,A,i,x,s,u,w,y,λa n j f l d=>⟨by rw[<-d.length];exact X0 c,λp o=>?_⟩⟩;have e:au a n a (ax n p (.tup j)):=au.same o;exact k a _ _ (f.trans e) (l.tup o) (.tup C1 (d.mono e))
def lz(h:Pa X cm es l):Pe X cm (.List es f) (be l):=
 C9 (yD h) λz H Q o=>by
  obtain⟨q,A,g,v,B,r,s,a,k⟩:=o;obtain⟨u,w,x,a⟩:=B0 a;obtain⟨c,a⟩:=B9 a;cases a;refine⟨q,A,g,u,w,r,s,x,λi m j y b d=>⟨by rw[<-d.length];exact X0 c,λp n=>?_⟩⟩;have e:au i m _ (ax m p (.lst j)):=au.new n;exact k _ _ _ (y.trans e) (b.alloc n ⟨_,C1,d.mono e⟩ rfl) (.ref (by rw[<-b.len];simp))
inductive jk (K:IH) (cm:Nat->Addr) (d:LD) (σ:L2.St) (H:Hp) (Q:Option Int->Hp->Prop):Prop
 | mk (ρ:List Addr) (A:PHp) (σp:PSt) (v:Option Int) (A':PHp) (h0:aF K cm ρ A H) (h1:bG ρ H σp σ) (h2:d σp A=.ok v A') (h3:∀ρ' H',au ρ H ρ' H'->aF K cm ρ' A' H'->Q v H'):jk K cm d σ H Q
def tJ(h:L2.PO X e t)(k:∀a H Q,t' a H Q->t a H Q):L2.PO X e t':=λb s a H Q I q=>h b s a H Q I (k a H Q q)
def lA:L2.PO X none (jk X.K cm gr):=tJ yP λf H Q a=>by
 obtain⟨b,A,c,v,g,d,h,e,k⟩:=a;cases e;exact k b H (au.refl _ _) d
def lB(h:Pe X cm e d):L2.PO X (some e) (jk X.K cm (fm d)):=tJ (yQ h) λu H Q j=>by
 obtain⟨l,A,b,v,w,m,n,o,k⟩:=j;obtain⟨x,p,q,a⟩:=B0 o;refine⟨l,A,b,x,p,m,n,q,λc r y s f g=>?_⟩;cases x with
 | int i=>cases a;cases g;exact⟨i,rfl,k c r s f⟩
 | _=>cases a
def lC(he:Pe X cm e d)(hl:L2.PO X lo (jk X.K cm dl))(hu:L2.PO X J (jk X.K cm L)):Pe X cm (.Subscript e (.Slice lo J none p2) s) (cX d dl L):=
 C9 (yS (sl_list.or yU) he hl hu) λσ H Q hq=>by
  obtain⟨ρ,A,f,v,A',rl,u,ev,k⟩:=hq;obtain⟨x,N,e1,w⟩:=B0 ev;obtain⟨l,O,e2,y⟩:=B0 w;obtain⟨h,A3,e3,g⟩:=B0 y;refine⟨ρ,A,f,x,N,rl,u,e1,λz H1 v1 B C D=>⟨z,N,f,l,O,C,u.mono B,e2,λE H2 G I=>⟨E,O,f,h,A3,I,(u.mono B).mono G,e3,λm T U b=>?_⟩⟩⟩;have o:=(B.trans G).trans U;have q:=D.mono (G.trans U);cases x with
  | ref n=>
    obtain⟨xs,A4,e4,i⟩:=B0 g;obtain⟨rfl,a,Y,rfl,hs,r⟩:=M3 b q e4;cases i;refine .inl ⟨a,Y,rfl,hs,λp j=>?_⟩;have e:au m T _ (ax T p (.lst (iU Y l h))):=au.new j;exact k _ _ _ (o.trans e) (b.alloc j ⟨_,C1,(r.slc l h).mono e⟩ rfl) (.ref (by rw[<-b.len];simp))
  | tup xs=>
    obtain⟨c,i⟩:=B9 g;cases i;cases q with
    | tup ha r=>
      refine .inr ⟨_,_,rfl,cp.of ha,by rw[t8,t8,<-r.length];exact c,λp j=>?_⟩;exact k m _ _ (o.trans (au.same j)) (b.tup j) (.tup C1 ((r.slc l h).mono (au.same j)))
  | _=>cases g
def Y4(he:∀σ,e σ=ak (d σ) f)
 (y:∀b A H x z c v (Q:VK),aF X.K cm b A H->RV b H x v->f x A=.ok z c->(∀a g s,au b H a g->aF X.K cm a c g->RV a g z s->Q s g)->r [v] H Q)
    (h:cB X.K cm e σ H Q):oB r (fy X.K cm (ae d aNil)) σ H Q:=by
 obtain⟨b,A,i,z,c,B,C,u,k⟩:=h;rw[he]at u;obtain⟨x,w,D,j⟩:=B0 u;refine⟨b,A,i,[x],w,B,C,by show ak _ _ A=_;rw[aG D];rfl,λl E G I m n=>?_⟩;cases n with
 | cons J L=>
   cases L;exact y l w E x z c _ Q m J j λo N O T p q=>k o N O (I.trans T) p q
def Ac(he:Pe X cm e d)(g:Gl X "len")(i:X.mg "len" = none)(hs:starEach [e] X.env=(false,eval e X.env)::starEach [] X.env:=by exact D9 rfl):Pe X cm (.Call (.Name "len" p) [e] [] b) (V7 d):=
 C9 (U2 zc g i PySem.boot_len (aN he br hs) (he:=hs)) λu H Q h=>Y4 (λ_=>rfl) (λj A H x z A' v Q f m n k=>by
  obtain⟨l,w,o,c⟩:=B0 n;obtain⟨rfl,a,q,rfl,s,r⟩:=c6 f m o;cases c;exact⟨a,q,rfl,s,k j H _ (au.refl _ _) f (by rw[<-r.length];exact .int _)⟩) h
def Ad(he:Pe X cm e d)(j:Gl X "list")(m:X.mg "list" = none)(n:bootBuiltins "list" = some (.type "list"))(hs:starEach [e] X.env=(false,eval e X.env)::starEach [] X.env:=by exact D9 rfl):Pe X cm (.Call (.Name "list" p) [e] [] b) (Y2 d):=
 C9 (W8 zd j m n (aN he br hs) (he:=hs)) λy H Q h=>Y4 (λ_=>rfl) (λo A H x z A' v Q c q s k=>by
  obtain⟨l,B,u,f⟩:=B0 s;obtain⟨rfl,a,g,rfl,w,r⟩:=c6 c q u;cases f;refine⟨a,g,rfl,w,λp i=>?_⟩;have e:au o H _ (ax H p (.lst g)):=au.new i;exact k _ _ _ e (c.alloc i ⟨_,C1,r.mono e⟩ rfl) (.ref (by rw[<-c.len];simp))) h
theorem Pairs.look(n:∀i j,f i=f j->i<19->j<19->i=j):∀{c:List (Nat×PV)}{kv:List (Str×V)}{i:Nat}{x:PV},Pairs f m H c kv->(∀p∈c,p.1<19)->i<19->Z9 i c=some x->∃v,kv.lookup (f i)=some v/\RV m H x v
 | [],kv,i,x,h,_,_,e=>by cases e
 | (g,u)::r,kv,i,x,h,o,s,e=>by
   cases kv with
   | nil=>have:=h.keys;simp at this
   | cons p q=>
     have k:=h.keys;simp only[Jn,MH]at k;have w:=h.vals;cases w with
     | cons y A=>
       have B:=o _ IV;obtain⟨p1,C⟩:=p;by_cases d:g=i
       .subst d;simp at e;subst e;exact⟨C,by simp[show p1=f g from k.1],y⟩
       .have l:¬f i=p1:=λz=>d (n g i (by rw[z];exact k.1.symm) B s);simp only[Z9,d]at e;obtain⟨v,a,b⟩:=Pairs.look n ⟨k.2,A⟩ (λp D=>o p (IZ _ D)) s e;refine⟨v,?_,b⟩;rw[Nr,beq_eq_false_iff_ne.mpr l];exact a
end
def tK:∀i j,cA i=cA j->i<19->j<19->i=j:=by
 intro i j h b c;have a:∀i:_root_.Fin 19,∀j:_root_.Fin 19,cA i.1=cA j.1->i=j:=by decide +kernel
 exact congrArg (·.1) (a ⟨i,b⟩ ⟨j,c⟩ h)
def Ae(he:Pe X cm o d)(z:cA i=f)(B:i<19)(C:∀c,c<7->dy X.K (cm c))(D:∀c,c<7->bA X.K (cm c) f)
 (E:attributeBase o f X.env (eval o X.env)=eval o X.env:=by rfl):Pe X cm (.Attribute o f h) (aH d i):=
 C9 (yt he E) λσ H Q G=>by
  obtain⟨I,A,j,v,A',J,L,N,k⟩:=G;obtain⟨x,O,T,l⟩:=B0 N;refine⟨I,A,j,x,O,J,L,T,λm U v1 Y b p=>?_⟩;cases x with
  | ref n=>
    obtain⟨o,A2,e2,e⟩:=B0 l;obtain⟨rfl,s,a,dx,kv,rfl,g,hH,hp,hs⟩:=t7 b p e2;rcases q:Z9 i o.2 with _ | u
    .rw[q]at e;cases e
    .rw[q]at e;cases e;obtain⟨w,y,r⟩:=hp.look tK hs B q;rw[z]at y;exact⟨a,_,dx,kv,w,rfl,hH,C _ (lq b s g),D _ (lq b s g),y,k m U w Y b r⟩
  | _=>simp_all
theorem Pairs.put(m:i<19)(f:RV d H x v):∀{a:List (Nat×PV)}{kv:List (Str×V)},Pairs cA d H a kv->(∀p∈a,p.1<19)->Pairs cA d H (putFld i x a) (W6 (cA i) v kv)
 | [],kv,h,_=>by
   cases kv with
   | nil=>exact⟨rfl,.cons f .nil⟩
   | cons p q=>have:=h.keys;simp at this
 | (g,u)::r,kv,h,n=>by
   cases kv with
   | nil=>have:=h.keys;simp at this
   | cons p q=>
     have k:=h.keys;simp only[Jn,MH]at k;have s:=h.vals;cases s with
     | cons w o=>
       obtain⟨p1,j⟩:=p;have y:=n _ IV;have c:p1=cA g:=k.1;by_cases b:g=i
       .subst b;have e:W6 (cA g) v ((p1,j)::q)=(p1,v)::q:=by
         show(if p1=cA g then _ else _)=_;rw[if_pos c]
        rw[e];simp only[putFld];exact⟨by simp[c,k.2],.cons f o⟩
       .have l:¬p1=cA i:=λz=>b (tK g i (by rw[<-z];exact c.symm) y m);have e:W6 (cA i) v ((p1,j)::q)=(p1,j)::W6 (cA i) v q:=by
         show(if p1=cA i then _ else _)=_;rw[if_neg l]
        rw[e];simp only[putFld,b,if_false];have ih:=Pairs.put m f ⟨k.2,o⟩ λp A=>n p (IZ _ A);exact⟨by simp only[Jn];rw[ih.keys,c],.cons w ih.vals⟩
theorem tL(d:i<19):∀{b:List (Nat×PV)},(∀p∈b,p.1<19)->∀p∈putFld i x b,p.1<19
 | [],_,p,a=>by simp at a;subst a;exact d
 | (g,u)::r,c,p,a=>by
   unfold putFld at a;split at a
   .rcases IT.mp a with rfl | a
    .simp_all
    .exact c p (IZ _ a)
   .rcases IT.mp a with rfl | a
    .exact c _ IV
    .exact tL d (λq e=>c q (IZ _ e)) p a
def Af(ho:Pe X cm o d)(hv:Pe X cm b e)(hf:cA i=f)(T:i<19)(hc:∀c,c<7->dy X.K (cm c))(hn:∀c,c<7->bA X.K (cm c) f)
 (hs:swapsWith b (some (.Attribute o f l)) m.line X.env=pure false:=by rfl):Ps X cm (.Assign [.Attribute o f l] b m) (sFld d i e):=
 O9 (yw ho hv hs) λD σ H hq=>by
  obtain⟨ρ,A,p,fl,A',rl,v,ev,k⟩:=hq;obtain⟨y,U,e1,w⟩:=B0 ev;obtain⟨x,A2,e2,q⟩:=B0 w;refine⟨ρ,A,p,y,U,rl,v,e1,λz H1 v1 B C E=>⟨z,U,p,x,A2,C,v.mono B,e2,λj Y v2 G g I=>?_⟩⟩;cases x with
  | ref n=>
    obtain⟨o,A3,e3,J⟩:=B0 q;obtain⟨rfl,r,a,L,N,rfl,h,hH,hp,s⟩:=t7 g I e3;obtain⟨c,O⟩:=B9 J;cases O;have c3:N.length=o.2.length:=by have:=congrArg List.length hp.keys;simpa using this
    refine⟨a,cm o.1,L,N,rfl,hH,hc _ (lq g r h),hn _ (lq g r h),by walk_at "o",?_⟩;rw[<-hf];have u:au j Y j (ax Y a (.ins (cm o.1) L (W6 (cA i) v1 N))):=au.put g h r rfl;have Q:aF X.K cm j (A3.set n (.ins o.1 _)) _:=
     g.put h r rfl rfl ⟨⟨lq g r h,tL T s⟩,L,_,C1,(hp.mono u).put T ((E.mono G).mono u) s⟩
    exact k j _ ((B.trans G).trans u) Q σ (((v.mono B).mono G).mono u)
  | _=>cases q
def Ag(N:Pe X cm o d)(he:Pe X cm e u)
 (O:attributeBase o "append" X.env (eval o X.env)=eval o X.env:=by rfl) (hs:starEach [e] X.env=(false,eval e X.env)::starEach [] X.env:=by exact D9 rfl)
 (hfew:((backTo b (starEach [e] X.env)).all (λx=>!x.1)&&(backToKw b (keywordEach [] X.env)).all (λx=>x.1.isSome)&&decide ([e].length+([]:List Qq).length+(if([]:List Qq).isEmpty then 0 else 1)<30))=true:=by rfl)
 (hline:(i.endLine == b.line)=true:=by rfl):Pe X cm (.Call (.Attribute o "append" i) [e] [] b) (V4 d u):=
 C9 (zh OQ PySem.F.slot_list_append PySem.F.type_list_append zi N (aN he br hs) (hbase:=O) (hfew:=hfew) (hline:=hline) (hs:=hs)) λσ H Q T=>by
  obtain⟨U,A,j,v,A',Y,G,ev,k⟩:=T;obtain⟨x,A1,e1,m⟩:=B0 ev;refine⟨U,A,j,x,A1,Y,G,e1,λr H1 v1 I p q=>?_⟩;cases x with
  | ref n=>
    obtain⟨l0,A2,e2,s⟩:=B0 m;obtain⟨rfl,hA,a,xs,rfl,hn,hH,r0⟩:=O0 p q e2;refine⟨.inl ⟨rfl,xs,bu.of hH⟩,?_⟩;obtain⟨y,A3,e3,w⟩:=B0 s;obtain⟨l,A4,e4,z⟩:=B0 w;obtain⟨c,B⟩:=B9 z;cases B;refine⟨r,_,j,[y],A3,p,G.mono I,by show ak _ _ _=_;rw[aG e3];rfl,λC H2 b0 J f D=>?_⟩;cases D with
    | cons hv hr=>
      cases hr;obtain⟨rfl,g,a2,ys,e5,h,E,L⟩:=O0 f (q.mono J) e4;cases e5;refine⟨a,ys,_,rfl,rfl,E,by rw[<-L.length];exact lr c,?_⟩;refine k C _ _ ((I.trans J).trans (au.put f h g rfl)) (f.put h g rfl rfl ⟨_,C1,?_⟩) .non;exact(L.mono (au.put f h g rfl)).append (.cons (hv.mono (au.put f h g rfl)) .nil)
  | _=>cases m
def jl(h:L2.PG X e (L2.gName i)):Pg X cm e (gName i):=tE h λv m H Q b=>by
 obtain⟨c,A,d,x,a,n,f,g,j,l,k⟩:=b;cases l;exact k c H _ (au.refl _ _) f (g.set i j)
def lD:eZ X [] (dR X.K cm gNil):=tF xP λj l H Q c=>by
 obtain⟨d,A,e,f,a,m,g,h,i,b,k⟩:=c;cases f with
 | nil=>cases b;cases i;exact⟨rfl,k d H _ (au.refl _ _) g h⟩
 | cons y n=>cases b
def jm(s:Pg X cm e g)(u:eZ X es (dR X.K cm r))(hs:(assignEach (e::es) X.env).map (·.2)=assign e X.env::(assignEach es X.env).map (·.2):=by rfl):eZ X (e::es) (dR X.K cm (gCons g r)):=
 tF (xQ s u hs) λT U H Q v=>by
  obtain⟨w,A,c,x,a,z,B,C,D,o,k⟩:=v;cases x with
  | nil=>cases o
  | cons y E=>
    obtain⟨b,p,G,d⟩:=B0 o;cases D with
    | cons I J=>
      exact⟨_,_,rfl,w,A,c,y,b,p,B,C,I,G,λf Y L q h i=>⟨f,p,b,E,a,z,h,i,J.mono q,d,λj N l O m n=>k j N l (q.trans O) m n⟩⟩
def lE(m:X.calm=true)(h:eZ X es (dR X.K cm g))(o:(assignEach es X.env).length=n:=by rfl)(d:(assignEach es X.env).findIdx? (·.1)=none:=by rfl):Pg X cm (.Tuple es j b) (gTup n g):=
 tE (xR m h o d) λv B H Q p=>by
  obtain⟨q,A,e,x,a,s,u,w,y,i,k⟩:=p;cases x with
  | tup l=>
    obtain⟨c,f⟩:=B9 i;cases y with
    | tup z r=>exact⟨_,_,rfl,cp.of z,by rw[<-r.length];exact c,q,A,e,l,a,s,u,w,r,f,k⟩
  | _=>cases i
def gA:Ps X cm st sNever:=O9 xN λD c H ⟨d,A,a,f,e,g,h,b,k⟩=>by cases b
def jn:eD X cm [] sPass:=mS xH λD a H b=>by
 obtain⟨c,A,d,f,i,e,g,h,k⟩:=b;cases h;exact k c H (au.refl _ _) e a g
def jo(h:Ps X cm st s):eD X cm [st] s:=mr h
def Ah(p:Ps X cm st s)(q:eD X cm rest r):eD X cm (st::rest) (ao s r):=
 mS (rO p q) λD L H u=>by
  obtain⟨w,A,g,f,x,y,z,B,k⟩:=u;obtain⟨o,m,C,a⟩:=B0 B;refine⟨w,A,g,o,m,y,z,C,λb n h c=>?_⟩;cases o with
  | nx i=>exact λe d=>⟨b,m,i,f,x,c,d,a,λj E G l=>k j E (h.trans G) l⟩
  | rt v=>cases a;exact λI J=>k b n h c I J
  | _=>cases a;exact λe d=>k b n h c e d
def jq(h:Pe X cm e d)(hs:swapsWith e none a.line X.env=pure false:=by rfl):Ps X cm (.Expr e a) (aU d):=
 O9 (rP h hs) λD m H n=>by
  obtain⟨o,A,b,f,p,q,j,r,k⟩:=n;obtain⟨x,w,s,c⟩:=B0 r;cases c;exact⟨o,A,b,x,p,q,j,s,λg u y l i v=>k g u l i m (j.mono l)⟩
def lF(h:Pe X cm e d):Ps X cm (.Return (some e) a) (aw d):=
 O9 (xK h) λD w H l=>by
  obtain⟨m,A,b,f,n,o,p,q,k⟩:=l;obtain⟨x,y,r,c⟩:=B0 q;cases c;exact⟨m,A,b,x,n,o,p,r,λg s u v i j=>k g s v i u j⟩
def pe(v:Pt X cm c t)(w:eD X cm a s)(y:eD X cm b u):Ps X cm (.If c a b m) (aP t s u):=
 O9 (rQ v w y) λD I H z=>by
  obtain⟨B,A,d,f,r,C,n,E,k⟩:=z;obtain⟨x,o,G,h⟩:=B0 E;refine⟨B,A,d,x,o,C,n,G,λi J l j=>?_⟩;cases x with
  | true=>exact⟨i,o,d,f,r,j,n.mono l,h,λe p q g=>k e p (l.trans q) g⟩
  | false=>exact⟨i,o,d,f,r,j,n.mono l,h,λe p q g=>k e p (l.trans q) g⟩
def tM{X:Cx}(he:∀σ H Q,cB X.K cm d σ H Q->q σ H Q)(y:∀v σ H Q,km X.K cm g v σ H Q->r v σ H Q)(h:gh X.K cm (az d g) D σ H):nZ q r D σ H:=by
 obtain⟨z,A,a,f,B,C,s,E,k⟩:=h;obtain⟨x,u,G,b⟩:=B0 E;obtain⟨c,N,I,e⟩:=B0 b;cases e;exact he _ _ _ ⟨z,A,a,x,u,C,s,G,λi O T w j l=>y _ _ _ _ ⟨i,u,a,x,c,B,j,s.mono w,l,I,λm J n L o p=>k m J (w.trans L) o n p⟩⟩
def lG(he:Pe X cm e d)(c:Pg X cm a g)(hs:swapsWithSole [a] e b.line X.env=pure false:=by rfl)(f:swappedStores [a] e X.env=pure none:=by rfl)
 (i:(assignEach [a] X.env).map (·.2)=[assign a X.env]:=by rfl):Ps X cm (.Assign [a] e b) (az d g):=
 O9 (xS he c hs f i) λD j H h=>tM (λ_ _ _ z=>z) (λ_ _ _ _ z=>z) h
def lH(f:X.N.Nodup)(g:X.N[i]?=some x)(j:L2.Loc X.env.scope x)(he:Pe X cm e d)(hs:swapsWith e (some (.Name x a)) b.line X.env=pure false:=by rfl)
 (l:X.fn x=true\/X.env.scope.names.lookup x=some .local:=by first | exact .inl rfl | exact .inr rfl | assumption):Ps X cm (.Assign [.Name x a] e b) (az d (gName i)):=
 O9 (xT f g j he hs l) λD σ H h=>tM (λ_ _ _ z=>z) (λv σ H Q m=>by
  obtain⟨n,A,o,x,c,A',p,q,r,s,k⟩:=m;cases s;exact k n H _ (au.refl _ _) p (q.set i r)) h
inductive aQ (K:IH) (cm:Nat->Addr) (f:Fun) (n:Nat) (vs:List V) (H:Hp) (Q:VK) (_E:L2.XK):Prop
 | mk (ρ:List Addr) (A:PHp) (ps:List PV) (v:PV) (A':PHp) (h0:aF K cm ρ A H) (h1:RVs ρ H ps vs) (h2:ps.length=n) (h3:f ps A=.ok v A') (h4:∀ρ' H' v',au ρ H ρ' H'->aF K cm ρ' A' H'->RV ρ' H' v v'->Q v' H'):aQ K cm f n vs H Q _E
def bG.start0(r:RVs b H ps vs):bG b H (Ws.start N.length ps) (L2.start N vs):=by
 have d:=r.length;refine⟨by unfold Ws.start L2.start;simp[d],λi p a=>?_⟩;unfold Ws.start at a;by_cases c:i<ps.length
 .rw[Jb (by simpa using c),Jm]at a;rcases e:ps[i]? with _ | q
  .rw[e]at a;cases a
  .rw[e]at a;cases a;obtain⟨v,f,g⟩:=r.get e;refine⟨v,?_,g⟩;unfold L2.start;rw[Jb (by simp;walk_at "o"),Jm,f];rfl
 .rw[JN (by simpa using c),OM]at a;split at a<;>cases a
def Ai(F:L2.Fun K x b st f p)(S:P6 N ps (C2 st))
 (d:∀(c:II)(A:JI)(a:List Env)(j:IJ)(H:Hp)(E:L2.XK),aK k (A.deeper (JH b (C2 st) j.heap.objs.size f c))->
  bP (p6 aO P w K mg base N b (C2 st) f c A a j H E).nox (G0 st) (gh K cm s)) :
 av P w K mg base aO (k+1) f p ps (aQ K cm (fn N.length ps.length s) ps.length):=by
 refine F.ok S (λG H Q E ⟨q,A,r,v,A',y,l,z,_,_⟩=>by rw[<-l.length];exact z) λc A a j H G Q E I h=>⟨_,d c A a j H E I,?_⟩;obtain⟨q,B,r,v,B',y,l,z,J,k⟩:=h;obtain⟨_,m⟩:=B9 J;obtain⟨o,L,O,e⟩:=B0 m;refine⟨q,B,Ws.start _ r,o,L,y,bG.start0 l,O,λg C D i=>?_⟩;cases o with
 | nx T=>cases e;exact λU _=>k g C _ D i .non
 | rt u=>cases e;exact λY n=>k g C Y D i n
 | _=>cases e
section
variable{X:Cx}{cm:Nat->Addr}
def Aj(r:∀o A v b,f o A=.ok v b->o.length=n)(h:cB X.K cm (C8 f m) σ H Q):sh (aQ X.K cm f n) [] E0 (fy X.K cm m) σ H Q:=by
 obtain⟨s,A,c,v,b,u,w,x,k⟩:=h;obtain⟨p,q,y,a⟩:=B0 x;refine⟨s,A,c,p,q,u,w,y,λd G z B e g=>?_⟩;rw[Kn];exact⟨d,q,p,v,b,e,g,r _ _ _ _ a,a,λi C D E j l=>k i C D (B.trans E) j l⟩
def mU(h:fn n p s vs A=.ok v A'):vs.length=p:=(B9 h).1
def Ak(F:av X.prog X.w X.K X.mg X.base aO k b g ps (aQ X.K cm f n))(l:∀j A v m,f j A=.ok v m->j.length=n)(o:aK k X.A)(q:Gl X x)(r:X.mg x=some (.ref b))(s:Ln X.K (.ref b)=true)(u:L2.Binds X.K g ps [])
 (y:Pa X cm (e::es) i) (c:(x == ("__debug__" : Str))=false:=by decide) (he:starEach (e::es) X.env=(false,eval e X.env)::starEach es X.env:=by exact D9 rfl) (d:(backTo a (starEach es X.env)).any (·.1)=false:=by rfl) :
 Pe X cm (.Call (.Name x p) (e::es) [] a) (C8 f i):=
 C9 (yE F o q r s u .nil kP y c he d) λz H Q h=>Aj l h
def tN(hn:∀vs A v y,f vs A=.ok v y->vs.length=n)(hm:∀i,i<19->cA i≠m)(h:cB X.K cm (aM c f d Y) σ H Q) :
 ow (cm c) m (aQ X.K cm f n) [] E0 (cB X.K cm d) (fy X.K cm Y) σ H Q:=by
 obtain⟨ρ,A,b,v,y,rl,rs,ev,k⟩:=h;obtain⟨x,A1,e1,e⟩:=B0 ev;refine⟨ρ,A,b,x,A1,rl,rs,e1,λB H1 v1 x1 g r=>?_⟩;cases x with
 | ref j=>
   obtain⟨o,A2,e2,C⟩:=B0 e;obtain⟨rfl,hA,a,dx,D,rfl,c0,hH,hp,hs⟩:=t7 g r e2;obtain⟨hc,E⟩:=B9 C;obtain⟨xs,A3,e3,s⟩:=B0 E;subst hc;have G:D.lookup m=none:=by
    have I:∀(l:List (Str×V)),(∀z∈l.map (·.1),z≠m)->l.lookup m=none:=λl=>by
     induction l with
     | nil=>intro _;rfl
     | cons p q ih=>
       intro u;rw[Nr,beq_eq_false_iff_ne.mpr (λz=>u p.1 (by simp) z.symm)];exact ih λz w=>u z (by simp at w ⊢;exact .inr w)
    refine I D λz u=>?_;rw[hp.keys]at u;obtain⟨q,hq,rfl⟩:=IU.mp u;exact hm _ (hs q hq)
   refine⟨a,dx,D,rfl,hH,G,B,_,b,xs,A3,g,rs.mono x1,e3,λJ H2 e0 x2 L N=>?_⟩;rw[Kn];exact⟨J,A3,.ref j::xs,v,y,L,.cons (r.mono x2) N,hn _ _ _ _ s,s,λO H3 v3 x3 T U=>k O H3 v3 ((x1.trans x2).trans x3) T U⟩
 | _=>cases e
def Al(x:Pe X cm o d)(y:dy X.K (cm c))(z:hI X.K (cm c) m p)
 (F:av X.prog X.w X.K X.mg X.base aO k p q ps (aQ X.K cm f n)) (B:∀s A v C,f s A=.ok v C->s.length=n) (g:∀i,i<19->cA i≠m) (D:aK k X.A) (E:L2.Binds X.K q ps []) (G:Pa X cm (e::es) r)
 (j:starEach (e::es) X.env=(false,eval e X.env)::starEach es X.env:=by exact D9 rfl) (l:(backTo a (starEach es X.env)).any (·.1)=false:=by rfl)
 (I:eval (.Call (.Attribute o m b) (e::es) [] a) X.env=(do
  let ov <-eval o X.env
  standAt b.atName
  let(f,first) <-holding [ov] (getMethod ov m u)
  callWith a f first (backTo a (starEach (e::es) X.env)) (backToKw a (keywordEach [] X.env))):=by rfl) :
 Pe X cm (.Call (.Attribute o m b) (e::es) [] a) (aM c f d r):=
 C9 (yF x y z F D E .nil kP G j l I) λJ H Q h=>tN B g h
def Am(U:c<7)(Y:∀I A v i,f I A=.ok v i->I.length=n/\v=.non)(h:cB X.K cm (Y9 c f G) σ H Q):oy (cm c) (aQ X.K cm f n) [] E0 (fy X.K cm G) σ H Q:=by
 obtain⟨ρ,A,j,v,i,rl,rs,ev,k⟩:=h;obtain⟨J,l,e1,m⟩:=B0 ev;obtain⟨x,A2,e2,o⟩:=B0 m;cases e2;obtain⟨u,A3,L,p⟩:=B0 o;cases p;refine⟨ρ,A,j,J,l,rl,rs,e1,λa q a6 x1 b r x g hx d s=>?_⟩;rw[Kn];have w:au a q a (ax q g (.own x)):=au.same d;have y:=b.grow w (K9 d);have e:ax q g (.own x) x=none:=by rw[ah (Kk s)];exact hx
 have N:au a _ _ (ax _ x (.ins (cm c) g [])):=au.new e;have z:aF X.K cm _ (l++[.ins c []]) _:=y.alloc e ⟨⟨U,by simp⟩,g,[],C1,⟨rfl,.nil⟩⟩ rfl;have O:(a++[x])[l.length]?=some x:=by rw[<-b.len];simp
 obtain⟨B,rfl⟩:=Y _ _ _ _ L;refine⟨a++[x],_,.ref _::J,.non,i,z,.cons (.ref O) ((r.mono w).mono N),B,L,λC H4 v4 T D E=>?_⟩;cases E;exact⟨rfl,k C H4 _ (((x1.trans w).trans N).trans T) D (.ref (lg T.pre O))⟩
def An(m:c<7)(Mk:L2.Mk X.K (cm c) g)(F:av X.prog X.w X.K X.mg X.base aO k g i ps (aQ X.K cm f n))(o:∀l A v q,f l A=.ok v q->l.length=n/\v=.non)(r:aK (k+1) X.A)
 (s:Gl X x) (u:X.mg x=some (.ref (cm c))) (y:L2.Binds X.K i ps []) (z:Pa X cm (e::es) j) (b:(x == ("__debug__" : Str))=false:=by decide) (he:starEach (e::es) X.env=(false,eval e X.env)::starEach es X.env:=by exact D9 rfl) (d:(backTo a (starEach es X.env)).any (·.1)=false:=by rfl) :
 Pe X cm (.Call (.Name x p) (e::es) [] a) (Y9 c f j):=
 C9 (si Mk F r s u y .nil kP z b he d) λB H Q h=>Am m o h
noncomputable def pf(K:IH)(a:Addr):L2.It:=
 ⟨λi H=>∃b x,bu K H a b/\b[i]?=some x,λi H x c=>∃y p,(∀b,bu K H a b->b[i]?=some y)/\H p=none/\x=.ref p/\c=ax H p (.tup [.int i,y]),λi H=>∃b,bu K H a b/\b.length<=i⟩
noncomputable def Ao(K:IH)(k:Nat)(a:Addr):L2.It:=
 ⟨λi H=>∃b x,bu K H a b/\b[i]?=some x,λi H x c=>∃y p,(∀b,bu K H a b->b[i]?=some y)/\H p=none/\x=.ref p/\c=ax H p (.tup [.int ((k+i:Nat):Int),y]),λi H=>∃b,bu K H a b/\b.length<=i⟩
noncomputable def Ap(vs:List V):L2.It:=⟨λi _=>i<vs.length,λi H x a=>a=H/\vs[i]?=some x,λi _=>vs.length<=i⟩
def eE(k:Bool)(K:IH)(H:Hp)(a:Addr)(b:List V):Prop:=match k with
 | true=>cp K H a b
 | false=>bu K H a b
noncomputable def kindOf:PV->Bool
 | .tup _=>true
 | _=>false
noncomputable def pj(K:IH)(e f:Bool)(a b:Addr):L2.It:=
 ⟨λi H=>∃c d x y,eE e K H a c/\eE f K H b d/\c[i]?=some x/\d[i]?=some y,
  λi H v g=>∃x y p,(∀c,eE e K H a c->c[i]?=some x)/\(∀d,eE f K H b d->d[i]?=some y)/\H p=none/\v=.ref p/\g=ax H p (.tup [x,y]),
  λi H=>∃c d,eE e K H a c/\eE f K H b d/\(c.length<=i\/d.length<=i)⟩
def X1(g:aF K cm c A H)(r:RV c H x v)(h:N4 x A=.ok l A'):A'=A/\∃a b,v=.ref a/\eE (kindOf x) K H a b/\RVs c H l b:=by
 cases x with
 | ref n=>
   obtain⟨e,a,b,d,f,i⟩:=M3 g r h;exact⟨e,a,b,d,f,i⟩
 | tup m=>
   cases h;cases r with
   | tup d f=>exact⟨rfl,_,_,rfl,cp.of d,f⟩
 | _=>cases h
def ie(K:IH)(c:List Addr)(H:Hp):It->L2.It->Prop
 | .rng lo n,j=>j=mw lo n
 | .lst m,j=>∃a,c[m]?=some a/\j=mu K a
 | .tup l,j=>∃a d,H a=some (.tup d)/\RVs c H l d/\j=mv K a
 | .enm m,j=>∃a,c[m]?=some a/\j=pf K a
 | .fix l,j=>∃d,RVs c H l d/\j=Ap d
 | .zip x y,j=>∃a b,RV c H x (.ref a)/\RV c H y (.ref b)/\j=pj K (kindOf x) (kindOf y) a b
 | .enk k m,j=>∃a,c[m]?=some a/\j=Ao K k a
def ie.mono(h:ie K m H J j)(e:au m H f H'):ie K f H' J j:=by
 cases J with
 | rng lo n=>exact h
 | tup l=>obtain⟨a,g,c,d,i⟩:=h;exact⟨a,g,e.tup _ _ c,d.mono e,i⟩
 | fix l=>obtain⟨g,c,d⟩:=h;exact⟨g,c.mono e,d⟩
 | zip x y=>obtain⟨a,b,c,d,i⟩:=h;exact⟨a,b,c.mono e,d.mono e,i⟩
 | _=>obtain⟨a,c,d⟩:=h;exact⟨a,lg e.pre c,d⟩
inductive EvI (K:IH) (cm:Nat->Addr) (d:ID) (σ:L2.St) (H:Hp) (R:L2.It->Hp->Prop):Prop
 | mk (ρ:List Addr) (A:PHp) (σp:PSt) (J:It) (A':PHp) (h0:aF K cm ρ A H) (h1:bG ρ H σp σ) (h2:d σp A=.ok J A') (h3:∀ρ' H' j,au ρ H ρ' H'->aF K cm ρ' A' H'->ie K ρ' H' J j->R j H'):EvI K cm d σ H R
def pk(K:IH)(cm:Nat->Addr)(a:List Addr)(A:PHp)(H:Hp)(j:L2.It)(i:Nat):Option PV->Prop
 | none=>j.stop i H
 | some v=>j.go i H/\∀y b,j.yld i H y b->au a H a b/\aF K cm a A b/\RV a b v y
def tO(g:aF K cm L A H)(G:ie K L H J j)(e:item J i A=.ok x A') :
 A'=A/\pk K cm L A H j i x:=by
 cases J with
 | rng lo n=>
   cases e;cases G;refine⟨rfl,?_⟩;by_cases h:i<n
   .show pk K cm L A H _ i (if i<n then some (PV.int (lo+i)) else none);rw[if_pos h];refine⟨h,λy N o=>?_⟩;obtain⟨w,B⟩:=o;subst w;subst B;exact⟨au.refl _ _,g,.int _⟩
   .show pk K cm L A H _ i (if i<n then some (PV.int (lo+i)) else none);rw[if_neg h];exact Nat.le_of_not_lt h
 | fix l=>
   cases e;obtain⟨O,r,rfl⟩:=G;refine⟨rfl,?_⟩;rcases c:l[i]? with _ | v
   .show O.length<=i;rw[<-r.length];exact Kf.mp c
   .obtain⟨u,d,q⟩:=r.get c;refine⟨(IW.mp d).1,λy N ⟨C,s⟩=>?_⟩;subst C;rw[d]at s;cases s;exact⟨au.refl _ _,g,q⟩
 | zip x y=>
   obtain⟨a,b,ra,rb,rfl⟩:=G;obtain⟨l,A1,w,B⟩:=B0 e;obtain⟨rfl,a',f,h1,Q,r1⟩:=X1 g ra w;cases h1;obtain⟨m,A2,C,s⟩:=B0 B;obtain⟨rfl,b',T,I,U,r2⟩:=X1 g rb C;cases I;cases s;refine⟨rfl,?_⟩;rcases c:l[i]? with _ | u
   .exact⟨f,T,Q,U,.inl (by rw[<-r1.length];exact Kf.mp c)⟩
   .rcases hj:m[i]? with _ | v
    .exact⟨f,T,Q,U,.inr (by rw[<-r2.length];exact Kf.mp hj)⟩
    .obtain⟨u',d,ru⟩:=r1.get c;obtain⟨v',hv,q⟩:=r2.get hj;refine⟨⟨f,T,u',v',Q,U,d,hv⟩,λz N o=>?_⟩;obtain⟨x',y',p,Y,g2,g3,g4,g5⟩:=o;have Y:=Y f Q;have g2:=g2 T U;rw[d]at Y;cases Y;rw[hv]at g2;cases g2;subst g4;subst g5;exact⟨au.same g3,g.tup g3,.tup C1 (.cons (ru.mono (au.same g3)) (.cons (q.mono (au.same g3)) .nil))⟩
 | lst m=>
   obtain⟨a,D,rfl⟩:=G;obtain⟨l,A1,w,B⟩:=B0 e;obtain⟨rfl,b,f,hb,E,r⟩:=M3 g (.ref D) w;cases hb;cases B;refine⟨rfl,?_⟩;rcases c:l[i]? with _ | v
   .exact⟨f,E,by rw[<-r.length];exact Kf.mp c⟩
   .obtain⟨u,d,q⟩:=r.get c;refine⟨⟨f,u,E,d⟩,λy N o=>?_⟩;obtain⟨C,s⟩:=o;subst C;have:=s f E;rw[d]at this;cases this;exact⟨au.refl _ _,g,q⟩
 | tup l=>
   obtain⟨a,O,D,r,rfl⟩:=G;cases e;refine⟨rfl,?_⟩;rcases c:l[i]? with _ | v
   .exact⟨O,cp.of D,by rw[<-r.length];exact Kf.mp c⟩
   .obtain⟨u,d,q⟩:=r.get c;refine⟨⟨O,u,cp.of D,d⟩,λy N o=>?_⟩;obtain⟨C,s⟩:=o;subst C;have:=s O (cp.of D);rw[d]at this;cases this;exact⟨au.refl _ _,g,q⟩
 | _=>
   obtain⟨a,D,rfl⟩:=G;obtain⟨l,A1,w,B⟩:=B0 e;obtain⟨rfl,b,f,hb,E,r⟩:=M3 g (.ref D) w;cases hb;cases B;refine⟨rfl,?_⟩;rcases c:l[i]? with _ | v
   .exact⟨f,E,by rw[<-r.length];exact Kf.mp c⟩
   .obtain⟨u,d,q⟩:=r.get c;refine⟨⟨f,u,E,d⟩,λy N o=>?_⟩;obtain⟨y',p,I,h3,h4,h5⟩:=o;have I:=I f E;rw[d]at I;cases I;subst h4;subst h5;exact⟨au.same h3,g.tup h3,.tup C1 (.cons (.int _) (.cons (q.mono (au.same h3)) .nil))⟩
def pw(h:b4 J A=.ok n A'):A'=A:=by
 have b:∀a,ak (G5 a) (λl=>ret l.length) A=.ok n A'->A'=A:=λa h=>by
  obtain⟨l,f,c,e⟩:=B0 h;cases e;unfold G5 at c;rcases d:A[a]? with _ | o
  .rw[d]at c;cases c
  .cases o<;>rw[d]at c<;>cases c<;>rfl
 cases J with
 | lst m=>exact b m h
 | enm m=>exact b m h
 | enk k m=>exact b m h
 | zip x y=>
   cases x with
   | ref n=>
     exact b n h
   | tup l=>cases h;rfl
   | _=>cases h
 | _=>cases h;rfl
def lI(hp:PB (model X.prog X.w) X.A X.env X.xe)(hc:X.calm=true)(hi:L2.PI X tg iter (EvI X.K cm it))(hg:Pg X cm tg g)(hb:eD X cm C b)
 (hs:∀x,foldedSetIterable iter X.env x=pure x:=by intro _;rfl):Ps X cm (.For tg iter C [] a8) (ft it g b):=
 O9 (yd hp hc hi hg hb hs) λD σ H hq=>by
  obtain⟨ρ,A,Q,f,A',rl,rs,ev,k⟩:=hq;obtain⟨J,A1,e1,a9⟩:=B0 ev;obtain⟨n,A2,e2,b0⟩:=B0 a9;obtain rfl:=pw e2;refine⟨ρ,A,Q,J,A2,rl,rs,e1,λE H1 j x1 b1 rj=>?_⟩;refine⟨λi m G T=>∃d B a,au E H1 d T/\aF X.K cm d B T/\bG d T a G/\W9 J g b (m+1) i a B=.ok f A',⟨n,E,A2,Q,au.refl _ _,b1,rs.mono x1,b0⟩,?_⟩;rintro i m G T ⟨d,B,a,x2,U,Y,a0⟩;rw[Q6]at a0;obtain⟨x,B1,e3,a1⟩:=B0 a0;obtain⟨rfl,I⟩:=tO U (rj.mono x2) e3;cases x with
  | none=>
    cases a1;exact .inl ⟨I,k d T (x1.trans x2) U G Y⟩
  | some v=>
    refine .inr ⟨I.1,λa2 O=>∃e B3 c,au E H1 e O/\aF X.K cm e B3 O/\bG e O c a2/\W9 J g b m (i+1) c B3=.ok f A',?_,λy O hy=>?_⟩
    .rintro a2 O ⟨e,B3,c,x3,L,b3,h⟩;cases m with
     | zero=>rw[sQ]at h;cases h
     | succ m=>exact⟨m,KD _,e,B3,c,x3,L,b3,h⟩
    .obtain⟨x3,L,b5⟩:=I.2 y O hy;obtain⟨a3,B4,e4,h⟩:=B0 a1;obtain⟨o,B5,e5,p⟩:=B0 h;refine⟨d,B1,a,v,a3,B4,L,Y.mono x3,b5,e4,λc1 H4 h2 x4 c2 c3=>⟨c1,B4,a3,o,B5,c2,c3,e5,λq H5 x5 r=>?_⟩⟩;have s:=(((x2.trans x3).trans x4).trans x5);cases o with
     | nx z=>exact λN l=>⟨q,B5,z,s,r,l,p⟩
     | ct z=>exact λN l=>⟨q,B5,z,s,r,l,p⟩
     | bk z=>cases p;exact λN l=>k q H5 (x1.trans s) r N l
     | rt u=>cases p;exact λv' c4=>k q H5 (x1.trans s) r v' c4
def gB(hp:PB (model X.prog X.w) X.A X.env X.xe)(hc:Pt X cm c t)(hb:eD X cm q b):Ps X cm (.While c q [] N) (mM t b):=
 O9 (xV hp hc hb) λD σ H hq=>by
  obtain⟨O,A,Q,f,A',rl,rs,ev,k⟩:=hq;refine⟨λm s J=>∃e B a,au O H e J/\aF X.K cm e B J/\bG e J a s/\b6 t b m a B=.ok f A',⟨LIM,O,A,Q,au.refl _ _,rl,rs,ev⟩,?_⟩;rintro m s J ⟨e,B,a,x1,T,v,i⟩;cases m with
  | zero=>rw[zQ]at i;cases i
  | succ m=>
    rw[sR]at i;obtain⟨x,B1,e1,C⟩:=B0 i;refine⟨e,B,a,x,B1,T,v,e1,λE H2 L G=>?_⟩;cases x with
    | false=>
      cases C;exact k E H2 (x1.trans L) G s (v.mono L)
    | true=>
      obtain⟨o,U,e2,j⟩:=B0 C;refine⟨λI y=>∃d B3 r,au O H d y/\aF X.K cm d B3 y/\bG d y r I/\b6 t b m r B3=.ok f A',λI y h=>⟨m,KD _,h⟩,E,B1,a,o,U,G,v.mono L,e2,λd y x3 l=>?_⟩;have n:=(x1.trans L).trans x3;cases o with
      | nx p=>exact λz g=>⟨d,U,p,n,l,g,j⟩
      | ct p=>exact λz g=>⟨d,U,p,n,l,g,j⟩
      | bk p=>cases j;exact λz g=>k d y n l z g
      | rt u=>cases j;exact λv' Y=>k d y n l v' Y
def tP(h:L2.PI X c iter t)(k:∀a H R,t' a H R->t a H R):L2.PI X c iter t':=λb s a H R I q=>h b s a H R I (k a H R q)
def jr(n:Gl X "range")(o:X.mg "range" = none)(q:Pe X cm a d)(hs:starEach [a] X.env=[(false,eval a X.env)]:=by rfl):L2.PI X m (.Call (.Name "range" p) [a] [] e) (EvI X.K cm (iRng1 d)):=
 tP (ya n o (aN q br hs) hs) λI H R r=>by
  obtain⟨s,A,f,J,L,u,v,w,k⟩:=r;obtain⟨x,y,z,b⟩:=B0 w;refine⟨s,A,f,[x],y,u,v,by show ak _ _ A=_;rw[aG z];rfl,λg B C D h j=>?_⟩;cases x with
  | int i=>
    obtain⟨c,l⟩:=B9 b;cases l;cases j with
    | cons E G=>cases G;cases E;exact⟨i,rfl,c.1,c.2,k g B _ D h rfl⟩
  | _=>cases b
def Aq(K:IH)(d:TE):L2.TI:=λe H R=>d e H λx b=>(∃a,x=.ref a/\(∃c,bu K b a c)/\R (mu K a) b)\/(∃a,x=.ref a/\(∃c,cp K b a c)/\R (mv K a) b)
def Ar(w:PE X l m):L2.PI X u l (Aq X.K m):=by
 intro f s y H R I h;refine aB (w f s y H _ I h) λv d z=>?_;obtain⟨x,n,c,r,A⟩:=z;rcases A with⟨a,e,⟨B,g⟩,q⟩ | ⟨a,e,⟨B,g⟩,q⟩
 .subst e;cases r;obtain⟨i,C,p,D⟩:=c.list g;refine Mh p.isList ?_;refine⟨d.heap.objs.size,[d.heap.objs.size],_,_,n,rfl,c.kept λb o e=>IF _ e,rR a _,⟨_,IP _ rfl,rfl,rfl⟩,λb j=>?_,q⟩;have e:b=d.heap.objs.size:=by simpa using j
  subst e;exact c.fpOk (IM _) (c.hok.fresh (IM _))
 .subst e;cases r;obtain⟨i,C,p,D⟩:=c.tuple g;refine Ma (show d.heap.IsTuple a _ from p) ?_;refine⟨d.heap.objs.size,[d.heap.objs.size],_,_,n,rfl,c.kept λb o e=>IF _ e,rS a _,⟨_,IP _ rfl,rfl,rfl⟩,λb j=>?_,q⟩;have e:b=d.heap.objs.size:=by simpa using j
  subst e;exact c.fpOk (IM _) (c.hok.fresh (IM _))
def lJ(p:Pe X cm l d):L2.PI X o l (EvI X.K cm (bW d)):=tP (Ar p) λG H R q=>by
 obtain⟨s,A,g,J,I,u,v,w,k⟩:=q;obtain⟨x,y,z,b⟩:=B0 w;refine⟨s,A,g,x,y,u,v,z,λf i L j c e=>?_⟩;cases x with
 | ref n=>
   obtain⟨l,N,B,h⟩:=B0 b;obtain⟨rfl,a,C,rfl,D,r⟩:=M3 c e B;cases h;cases e with
   | ref E=>exact .inl ⟨a,rfl,⟨C,D⟩,k f i _ j c ⟨a,E,rfl⟩⟩
 | tup l=>
   cases b;cases e with
   | tup m r=>exact .inr ⟨_,rfl,⟨_,cp.of m⟩,k f i _ j c ⟨_,_,m,r,rfl⟩⟩
 | _=>cases b
end
def RV.uniq(h:RV ρ H x v)(h':RV ρ H y v)(n:j4 x=true)(g:j4 y=true):x=y:=
 RV.rec (motive_1:=λx v _=>∀y,RV ρ H y v->j4 x=true->j4 y=true->x=y) (motive_2:=λl i _=>∀m,RVs ρ H m i->nices l=true->nices m=true->l=m)
  (λ_ h _ _=>by cases h;rfl) (λ_ _ _ n _=>by cases n) (λ_ _ h _ _=>by cases h;rfl) (λ_ _ h _ _=>by cases h;rfl)
  (λj _ ih _ h b a=>by
   cases h with
   | tup c d=>
     rw[j]at c;cases c;rw[ih _ d b a]
   | ref c=>cases a) (λ_ _ _ n _=>by cases n) (λ_ h _ _=>by cases h;rfl)
  (λ_ _ e f _ h b a=>by
   cases h with
   | cons c d=>
     simp only[nices,Jq]at b a;rw[e _ c b.1 a.1,f _ d b.2 a.2]) h _ h' n g
def RVs.uniq(h:RVs ρ H l vs)(h':RVs ρ H m vs)(n:nices l=true)(c:nices m=true):l=m:=
 RVs.ind (M:=λl vs=>∀m,RVs ρ H m vs->nices l=true->nices m=true->l=m) (λ_ h _ _=>by cases h;rfl)
  (λd _ ih _ h a b=>by
   cases h with
   | cons e f=>
     simp only[nices,Jq]at a b;rw[RV.uniq d e a.1 b.1,ih _ f a.2 b.2]) h _ h' n c
theorem u5:∀{l m:List PV},l.length≠m.length->eqvs l m=false
 | [],[],h=>absurd rfl h
 | [],_::_,_=>rfl
 | _::_,[],_=>rfl
 | x::a,y::b,h=>by
   have:a.length≠b.length:=by simpa using h
   simp[eqvs,u5 this]
theorem u6:∀{l m:List PV},l.length=m.length->eqvs l m=(Ju l.length).all λj=>bJ (l.getD j .non) (m.getD j .non)
 | [],[],_=>rfl
 | [],_::_,h=>by simp at h
 | _::_,[],h=>by simp at h
 | x::a,y::b,h=>by
   have e:a.length=b.length:=by simpa using h
   rw[Js,MQ,MI,List.all_map];simp only[eqvs,u6 e];rfl
def px:eqvs l m=((Ju (min l.length m.length)).all (λj=>bJ (l.getD j .non) (m.getD j .non))&&l.length == m.length):=by
 by_cases h:l.length=m.length
 .rw[u6 h,h];simp
 .rw[u5 h,beq_eq_false_iff_ne.mpr h,Bool.and_false]
section
variable{X:Cx}{pins:List (Addr×Obj)}{σ:L2.St}{H:Hp}{s:IJ}{ρ:List Addr}{A:JI}
open PySem.SeqAt
def mV(d:RV ρ H x a)(f:RV ρ H y b)(i:Z8 x=true)(j:Z8 y=true)(g:L2.RelV a u)(h:L2.RelV b v):EqAt A s u v (bJ x y):=by
 have c:=zb (A:=A) (s:=s) g h (by cases d<;>simp_all [mF]) (by cases f<;>simp_all [mF]);have e:oG a b=bJ x y:=by
  cases d<;>cases f<;>simp_all [oG,bJ]<;>(try (exact(Ni _ _)))
 rw[<-e];exact c
def pA(I:L2.Inv X pins σ H s)(E:H a=some (.tup vs))(p:H b=some (.tup g))(q:RVs ρ H l vs)(r:RVs ρ H m g)(w:l.all f=true)(G:m.all f=true)(z:∀x,f x=true->j4 x=true)(hu:A.units<cLine)
 (ih:∀x y J L u v,RV ρ H x J->RV ρ H y L->f x=true->f y=true->L2.RelV J u->L2.RelV L v->EqAt A.in1 s u v (bJ x y)) :
 (a≠b->RcAt A s (.ref a) (.ref b) (eqvs l m))/\RcAt A s (.ref a) (.ref b) (eqvs l m)/\EqAt A s (.ref a) (.ref b) (eqvs l m):=by
 obtain⟨_,n,B,pi⟩:=I.hok a _ E;obtain⟨_,c,d,C⟩:=I.hok b _ p;have D:RcAt A s (.ref a) (.ref b) (eqvs l m):=by
  have h:=RcAt.tuples (e:=λj=>bJ (l.getD j .non) (m.getD j .non)) pi C hu (λj N O=>by
   have l1:j<vs.length:=by rw[B.length];exact N
   have l2:j<g.length:=by rw[d.length];exact O
   obtain⟨x,Q,rx⟩:=q.get' (i:=j) (v:=vs[j]) (by simp);obtain⟨y,T,ry⟩:=r.get' (i:=j) (v:=g[j]) (by simp);obtain⟨u,U,ru⟩:=B.get (i:=j) (x:=vs[j]) (by simp);obtain⟨v,Y,rv⟩:=d.get (i:=j) (x:=g[j]) (by simp);have d1:l.getD j .non=x:=by rw[JO,Q];rfl
   have d2:m.getD j .non=y:=by rw[JO,T];rfl
   have q1:n.toArray[j]=u:=by
    rw[Jj N]at U;simpa using Jw U
   have q2:c.toArray[j]=v:=by
    rw[Jj O]at Y;simpa using Jw Y
   rw[d1,d2,q1,q2];exact ih x y _ _ u v rx ry (Jy.mp w x (JD Q)) (Jy.mp G y (JD T)) ru rv)
  rw[px];have z1:n.toArray.size=l.length:=by rw[Ja,<-B.length,q.length]
  have z2:c.toArray.size=m.length:=by rw[Ja,<-d.length,r.length]
  rw[z1,z2]at h;exact h
 refine⟨λ_=>D,D,?_⟩;by_cases o:a=b
 .subst o;rw[E]at p;cases p;have e:=RVs.uniq q r (S4 z l w) (S4 z m G);subst e;rw[(eqvs_nice l l (S4 z l w)).mpr rfl];exact EqAt.same _
 .exact EqAt.of_refs o D
def O1(I:L2.Inv X pins σ H s)(w:RV ρ H x p)(z:RV ρ H y q)(c:A.units<cLine)(d:L2.RelV p u)(e:L2.RelV q v)
 (h:(∃l,x=.tup l/\Z8 y=true)\/(∃m,y=.tup m/\Z8 x=true)):EqAt A s u v (bJ x y)/\RcAt A s u v (bJ x y)/\Mq A s u v (!bJ x y):=by
 rcases h with⟨l,rfl,f⟩ | ⟨m,rfl,g⟩
 .cases w with
  | tup j r=>
    obtain⟨_,n,B,a⟩:=I.hok _ _ j;cases d;cases z with
    | non=>cases e;exact⟨EqAt.tuple_none a c,RcAt.tuple_none a c,Mq.tuple_none a c⟩
    | int i=>obtain⟨t,rfl⟩:=e;exact⟨EqAt.tuple_int _ _ a c,RcAt.tuple_int _ _ a c,Mq.tuple_int _ _ a c⟩
    | str i=>obtain⟨t,rfl⟩:=e;exact⟨EqAt.tuple_str _ _ a c,RcAt.tuple_str _ _ a c,Mq.tuple_str _ _ a c⟩
    | bl b=>simp at f
    | tup o C=>simp at f
    | ref o=>simp at f
 .cases z with
  | tup j r=>
    obtain⟨_,n,B,a⟩:=I.hok _ _ j;cases e;cases w with
    | non=>cases d;exact⟨EqAt.none_tuple a c,RcAt.none_tuple a c,Mq.none_tuple a c⟩
    | int i=>obtain⟨t,rfl⟩:=d;exact⟨EqAt.int_tuple _ _ a c,RcAt.int_tuple _ _ a c,Mq.int_tuple _ _ a c⟩
    | str i=>obtain⟨t,rfl⟩:=d;exact⟨EqAt.str_tuple _ _ a c,RcAt.str_tuple _ _ a c,Mq.str_tuple _ _ a c⟩
    | bl b=>simp at g
    | tup o C=>simp at g
    | ref o=>simp at g
def M4(A:JI)(n:Nat)(h:A.units+(n+1)<cLine):A.in1.units+n<cLine:=by
 show _+1+n<cLine;walk_at "o"
def As(I:L2.Inv X pins σ H s)(A:JI)(z:A.units+1<cLine)(x y:PV)(e f:V)(u v:II)(a:RV ρ H x e)(b:RV ρ H y f)(g:hU x=true)(h:hU y=true)(c:L2.RelV e u)(d:L2.RelV f v):EqAt A s u v (bJ x y):=by
 cases x with
 | tup l=>
   cases y with
   | tup m=>
     cases a with
     | tup i j=>
       cases b with
       | tup n o=>
         cases c;cases d;exact(pA I i n j o g h kS (by walk_at "o") (λx y e f u v a b p q r w=>mV a b p q r w)).2.2
   | _=>exact(O1 I a b (by walk_at "o") c d (.inl ⟨_,rfl,h⟩)).1
 | _=>
   cases y with
   | tup m=>exact(O1 I a b (by walk_at "o") c d (.inr ⟨_,rfl,g⟩)).1
   | _=>exact mV a b g h c d
def tQ(I:L2.Inv X pins σ H s)(A:JI)(z:A.units+2<cLine)(x y:PV)(c d:V)(u v:II)(a:RV ρ H x c)(b:RV ρ H y d)(g:Y7 x=true)(h:Y7 y=true)(e:L2.RelV c u)(f:L2.RelV d v):EqAt A s u v (bJ x y):=by
 cases x with
 | tup l=>
   cases y with
   | tup m=>
     cases a with
     | tup i j=>
       cases b with
       | tup n o=>
         cases e;cases f;exact(pA I i n j o g h sV (by walk_at "o") (λx y c d u v a b p q r w=>As I _ (M4 A 1 (by walk_at "o")) x y c d u v a b p q r w)).2.2
   | _=>exact(O1 I a b (by walk_at "o") e f (.inl ⟨_,rfl,h⟩)).1
 | _=>
   cases y with
   | tup m=>exact(O1 I a b (by walk_at "o") e f (.inr ⟨_,rfl,g⟩)).1
   | _=>exact mV a b g h e f
def pB(I:L2.Inv X pins σ H s)(A:JI)(z:A.units+3<cLine)(x y:PV)(c d:V)(u v:II)(a:RV ρ H x c)(b:RV ρ H y d)(g:plain x=true)(h:plain y=true)(e:L2.RelV c u)(f:L2.RelV d v):EqAt A s u v (bJ x y):=by
 cases x with
 | tup l=>
   cases y with
   | tup m=>
     cases a with
     | tup i j=>
       cases b with
       | tup n o=>
         cases e;cases f;exact(pA I i n j o g h sW (by walk_at "o") (λx y c d u v a b p q r w=>tQ I _ (M4 A 2 (by walk_at "o")) x y c d u v a b p q r w)).2.2
   | _=>exact(O1 I a b (by walk_at "o") e f (.inl ⟨_,rfl,h⟩)).1
 | _=>
   cases y with
   | tup m=>exact(O1 I a b (by walk_at "o") e f (.inr ⟨_,rfl,g⟩)).1
   | _=>exact mV a b g h e f
end
end Ws
namespace Ws
open PySem PySem.SeqAt L2
section
variable{X:Cx}{cm:Nat->Addr}{pins:List (Addr×Obj)}{σ:L2.St}{H:Hp}{s:IJ}{ρ:List Addr}{A:JI}
def tR(h:RV ρ H x f)(b:RV ρ H y g)(l:Z8 x=true)(c:Z8 y=true)(d:L2.RelV f u)(a:L2.RelV g v):RcAt A s u v (bJ x y)/\Mq A s u v (!bJ x y):=by
 have m:∀(i j:Int),(i == j)=decide _:=λi j=>by rw[Ni]
 have n:∀(i j:Str),(i == j)=decide _:=λi j=>by rw[Ni]
 cases h with
 | non=>
   cases d;cases b with
   | non=>cases a;exact⟨RcAt.none_none,Mq.none_none⟩
   | int i=>obtain⟨t,rfl⟩:=a;exact⟨RcAt.none_int _ _,Mq.none_int _ _⟩
   | str i=>obtain⟨t,rfl⟩:=a;exact⟨RcAt.none_str _ _,Mq.none_str _ _⟩
   | _=>simp at c
 | int i=>
   obtain⟨t,rfl⟩:=d;cases b with
   | non=>cases a;exact⟨RcAt.int_none _ _,Mq.int_none _ _⟩
   | int j=>obtain⟨e,rfl⟩:=a;exact⟨RcAt.int_int _ _ _ _,Mq.int_int _ _ _ _⟩
   | str j=>obtain⟨e,rfl⟩:=a;exact⟨RcAt.int_str _ _ _ _,Mq.int_str _ _ _ _⟩
   | _=>simp at c
 | str i=>
   obtain⟨t,rfl⟩:=d;cases b with
   | non=>cases a;exact⟨RcAt.str_none _ _,Mq.str_none _ _⟩
   | int j=>obtain⟨e,rfl⟩:=a;exact⟨RcAt.str_int _ _ _ _,Mq.str_int _ _ _ _⟩
   | str j=>obtain⟨e,rfl⟩:=a;exact⟨RcAt.str_str _ _ _ _,Mq.str_str _ _ _ _⟩
   | _=>simp at c
 | _=>simp at l
def pD(z:RVs ρ H l vs)(B:RVs ρ H m c)(h:ay vs b)(d:ay c a)(C:l.all f=true)(D:m.all f=true)
 (ih:∀x y n o u v,RV ρ H x n->RV ρ H y o->f x=true->f y=true->L2.RelV n u->L2.RelV o v->EqAt A s u v (bJ x y)) :
 ∀j (e:j<b.toArray.size) (g:j<a.toArray.size),EqAt A s b.toArray[j] a.toArray[j] (bJ (l.getD j .non) (m.getD j .non)):=λj e g=>by
 have T:j<vs.length:=by rw[h.length];exact e
 have l2:j<c.length:=by rw[d.length];exact g
 obtain⟨x,p,E⟩:=z.get' (i:=j) (v:=vs[j]) (by simp);obtain⟨y,q,G⟩:=B.get' (i:=j) (v:=c[j]) (by simp);obtain⟨u,r,I⟩:=h.get (i:=j) (x:=vs[j]) (by simp);obtain⟨v,w,J⟩:=d.get (i:=j) (x:=c[j]) (by simp);have L:l.getD j .non=x:=by rw[JO,p];rfl
 have N:m.getD j .non=y:=by rw[JO,q];rfl
 have O:b.toArray[j]=u:=by
  rw[Jj e]at r;simpa using Jw r
 have Q:a.toArray[j]=v:=by
  rw[Jj g]at w;simpa using Jw w
 rw[L,N,O,Q];exact ih x y _ _ u v E G (Jy.mp C x (JD p)) (Jy.mp D y (JD q)) I J
def jt(K:IH)(g:Bool->Bool):R2:=λd e H Q=>∃(ρ:List Addr),
 (∃x y,RV ρ H x d/\RV ρ H y e/\plain x=true/\plain y=true/\Q (.bl (g (bJ x y))) H)\/(∃b c,d=.bl b/\e=.bl c/\Q (.bl (g (b == c))) H)\/
 (∃a b l m f h,d=.ref a/\e=.ref b/\bu K H a f/\bu K H b h/\RVs ρ H l f/\RVs ρ H m h/\G8 l=true/\G8 m=true/\Q (.bl (g (eqvs l m))) H)
def tS(hr:X.A.units+64<cLine)(I:L2.Inv X pins σ H s)(o:L2.RelV w u)(p:L2.RelV z v)(h:jt X.K g w z H Q):∃b,RcAt X.A s u v b/\Mq X.A s u v (!b)/\Q (.bl (g b)) H:=by
 obtain⟨ρ,h⟩:=h;rcases h with⟨x,y,f,i,T,U,q⟩ | ⟨b,c,rfl,rfl,q⟩ | ⟨a,b,l,m,xs,ys,rfl,rfl,B,C,J,L,p1,p2,q⟩
 .refine⟨bJ x y,?_,?_,q⟩<;>
  (cases x with
  | tup l=>
    cases y with
    | tup m=>
      cases f with
      | tup ha J=>
        cases i with
        | tup hb L=>
          cases o;cases p;obtain⟨_,D,N,E⟩:=I.hok _ _ ha;obtain⟨_,n,j,e⟩:=I.hok _ _ hb;have r:D.toArray.size=l.length:=by rw[Ja,<-N.length,J.length]
          have G:n.toArray.size=m.length:=by rw[Ja,<-j.length,L.length]
          have O:=pD J L N j (show l.all Y7=true from T) (show m.all Y7=true from U) (λx y w z u v f i B C Y u2=>tQ I _ (M4 X.A 2 (by walk_at "o")) x y w z u v f i B C Y u2);first
           | (have h:=RcAt.tuples E e (by walk_at "o") O
              rw[r,G,<-px]at h;exact h)
           | (have h:=Mq.tuples E e (by walk_at "o") O
              rw[r,G,<-px]at h;exact h)
    | _=>first | exact(O1 I f i (by walk_at "o") o p (.inl ⟨_,rfl,U⟩)).2.1 | exact(O1 I f i (by walk_at "o") o p (.inl ⟨_,rfl,U⟩)).2.2
  | _=>
    cases y with
    | tup m=>first | exact(O1 I f i (by walk_at "o") o p (.inr ⟨_,rfl,T⟩)).2.1 | exact(O1 I f i (by walk_at "o") o p (.inr ⟨_,rfl,T⟩)).2.2
    | _=>first | exact(tR f i T U o p).1 | exact(tR f i T U o p).2)
 .cases o;cases p;exact⟨b == c,RcAt.bool_bool _ _,Mq.bool_bool _ _,q⟩
 .cases o;cases p;obtain⟨D,N,E,_⟩:=I.list B;obtain⟨n,j,e,_⟩:=I.list C;have r:D.toArray.size=l.length:=by rw[Ja,<-N.length,J.length]
  have G:n.toArray.size=m.length:=by rw[Ja,<-j.length,L.length]
  refine⟨eqvs l m,?_,?_,q⟩
  .by_cases d:l.length=m.length
   .have O:=pD J L N j p1 p2 (λx y w z u v f i B C Y u2=>pB I _ (M4 X.A 3 (by walk_at "o")) x y w z u v f i B C Y u2);have h:=RcAt.lists E.isList e.isList (by rw[r,G,d]) (by walk_at "o") O;rw[r,<-u6 d]at h;exact h
   .rw[u5 d];exact RcAt.lists_lengths E.isList e.isList (by rw[r,G];exact bne_iff_ne.mpr d) (by walk_at "o")
  .by_cases d:l.length=m.length
   .have O:=pD J L N j p1 p2 (λx y w z u v f i B C Y u2=>pB I _ (M4 X.A 3 (by walk_at "o")) x y w z u v f i B C Y u2);have h:=Mq.lists E.isList e.isList (by rw[r,G,d]) (by walk_at "o") O;rw[r,<-u6 d]at h;exact h
   .rw[u5 d];exact Mq.lists_lengths E.isList e.isList (by rw[r,G];exact bne_iff_ne.mpr d) (by walk_at "o")
def fC(a:X.A.units+64<cLine):bQ X (compareOp .Eq) (jt X.K id):=by
 intro pins s σ H x y v u Q I c d q;obtain⟨b,e,_,f⟩:=tS a I c d q;exact e _ _ _ _ ⟨.bl b,H,I,rfl,f⟩
def fD(a:X.A.units+64<cLine):bQ X (compareOp .NotEq) (jt X.K not):=by
 intro pins s σ H x y v u Q I c d q;obtain⟨b,_,e,f⟩:=tS a I c d q;exact e _ _ _ _ ⟨.bl _,H,I,rfl,f⟩
def mW(u:aF X.K cm ρ B H)(d:RV ρ H x j)(e:RV ρ H y o)(h:oM x y B=.ok b i)(q:Q (.bl (g b)) H):i=B/\jt X.K g j o H Q:=by
 have f:∀x y,RV ρ H x j->RV ρ H y o->D8 (sP x y=true\/(plain x=true/\plain y=true)) (ret (bJ x y)) B=.ok b i->i=B/\jt X.K g j o H Q:=λx y d e h=>by
  obtain⟨c,h⟩:=B9 h;cases h;refine⟨rfl,ρ,?_⟩;rcases c with c | c
  .cases x with
   | bl v=>
     cases y with
     | bl w=>cases d;cases e;exact .inr (.inl ⟨v,w,rfl,rfl,q⟩)
     | _=>simp at c
   | _=>simp at c
  .exact .inl ⟨x,y,d,e,c.1,c.2,q⟩
 cases x with
 | ref n=>
   cases y with
   | ref k=>
     obtain⟨l,T,z,C⟩:=B0 h;obtain⟨rfl,a,D,rfl,E,r⟩:=M3 u d z;obtain⟨m,U,G,I⟩:=B0 C;obtain⟨rfl,J,L,rfl,p,N⟩:=M3 u e G;obtain⟨c,O⟩:=B9 I;cases O;exact⟨rfl,ρ,.inr (.inr ⟨a,J,l,m,D,L,rfl,rfl,E,p,r,N,c.1,c.2,q⟩)⟩
   | _=>exact f _ _ d e h
 | _=>cases y<;>exact f _ _ d e h
def ig:Q0 X.K cm ck (jt X.K id):=λρ B H x y z j l m Q a d e h k=>by
 obtain⟨b,n,f,c⟩:=B0 h;cases c;have i:=(mW (g:=id) (Q:=λ_ _=>True) a d e f trivial).1;subst i;exact(mW a d e f (k ρ H _ (au.refl _ _) a (.bl b))).2
def ij:Q0 X.K cm cD (jt X.K not):=λρ B H x y z j l m Q a d e h k=>by
 obtain⟨b,n,f,c⟩:=B0 h;cases c;have i:=(mW (g:=not) (Q:=λ_ _=>True) a d e f trivial).1;subst i;exact(mW a d e f (k ρ H _ (au.refl _ _) a (.bl _))).2
def mX(K:IH)(b:Bool):R2:=λd e H Q=>∃(ρ:List Addr)(x:PV)(a:Addr)(l:List PV)(c:List V),RV ρ H x d/\e=.ref a/\(bu K H a c\/cp K H a c)/\RVs ρ H l c/\plain x=true/\G8 l=true/\Q (.bl (if b then !df x l else df x l)) H
def pE(ρ:List Addr)(H:Hp)(x:PV)(u:II):Bool:=@decide (∃y a,L2.RelV a u/\RV ρ H y a/\plain y=true/\bJ y x=true) (LV _)
def tT(b:L2.RelV a u)(c:RV ρ H y a)(d:plain y=true):pE ρ H x u=bJ y x:=by
 cases e:bJ y x with
 | true=>exact@decide_eq_true _ (LV _) ⟨y,a,b,c,d,e⟩
 | false=>
   refine@decide_eq_false _ (LV _) λg=>?_;obtain⟨z,l,h,i,j,f⟩:=g;have:=h.inj b;subst this;have:=RV.uniq i c (Y3 _ j) (Y3 _ d);subst this;rw[e]at f;cases f
def u7(h:RVs ρ H l b)(h':ay b c)(p:G8 l=true):c.any (pE ρ H x)=df x l:=by
 induction h' generalizing l with
 | nil=>cases h;rfl
 | cons h' _ ih=>
   cases h with
   | cons h r=>
     have a:=p;unfold G8 at a;rw[MI,Jq]at a;rw[Mi,tT h' h a.1,ih r a.2];rfl
def u8(I:L2.Inv X pins σ H s)(A:JI)(b:A.units+3<cLine)(g:RV ρ H x d)(i:plain x=true)(j:L2.RelV d v)(h:RVs ρ H l e)(h':ay e f)(p:G8 l=true):∀u∈f,EqAt A s u v (pE ρ H x u):=by
 induction h' generalizing l with
 | nil=>exact λu b=>nomatch b
 | cons h' _ ih=>
   cases h with
   | cons h r=>
     intro u c;have a:=p;unfold G8 at a;rw[MI,Jq]at a;rcases IT.mp c with rfl | c
     .rw[tT h' h a.1];exact pB I A b _ _ _ _ _ _ h g a.1 i h' j
     .exact ih r a.2 u c
def fE(p:X.A.units+64<cLine):bQ X (compareOp .In) (mX X.K false):=by
 intro pins s σ H x y v u Q I i n h;obtain⟨ρ,z,a,l,B,j,rfl,b,r,m,d,q⟩:=h;cases n;rcases b with b | b
 .obtain⟨e,c,f,o⟩:=I.list b;refine in_listAt _ f.isList (λw g=>u8 I _ (M4 X.A 3 (by walk_at "o")) j m i r c d w (by simpa using g)) ⟨.bl _,H,I,rfl,?_⟩;rw[Nt,u7 r c d];exact q
 .obtain⟨e,c,f,o⟩:=I.tuple b;refine in_tupleAt _ f (λw g=>u8 I _ (M4 X.A 3 (by walk_at "o")) j m i r c d w (by simpa using g)) ⟨.bl _,H,I,rfl,?_⟩;rw[Nt,u7 r c d];exact q
def eF(p:X.A.units+64<cLine):bQ X (compareOp .NotIn) (mX X.K true):=by
 intro pins s σ H x y v u Q I i n h;obtain⟨ρ,z,a,l,B,j,rfl,b,r,m,d,q⟩:=h;cases n;rcases b with b | b
 .obtain⟨e,c,f,o⟩:=I.list b;refine notIn_listAt _ f.isList (λw g=>u8 I _ (M4 X.A 3 (by walk_at "o")) j m i r c d w (by simpa using g)) ⟨.bl _,H,I,rfl,?_⟩;rw[Nt,u7 r c d];exact q
 .obtain⟨e,c,f,o⟩:=I.tuple b;refine notIn_tupleAt _ f (λw g=>u8 I _ (M4 X.A 3 (by walk_at "o")) j m i r c d w (by simpa using g)) ⟨.bl _,H,I,rfl,?_⟩;rw[Nt,u7 r c d];exact q
def ik:Q0 X.K cm dO (mX X.K false):=λρ B H x y z n o p Q e f g h k=>by
 obtain⟨l,q,i,b⟩:=B0 h;obtain⟨rfl,a,j,rfl,m,r⟩:=c6 e g i;obtain⟨c,d⟩:=B9 b;cases d;exact⟨ρ,x,a,l,j,f,rfl,m,r,c.1,c.2,k ρ H _ (au.refl _ _) e (.bl _)⟩
def fF:Q0 X.K cm bq (mX X.K true):=λρ B H x y z n o p Q e f g h k=>by
 obtain⟨l,q,i,b⟩:=B0 h;obtain⟨rfl,a,j,rfl,m,r⟩:=c6 e g i;obtain⟨c,d⟩:=B9 b;cases d;exact⟨ρ,x,a,l,j,f,rfl,m,r,c.1,c.2,k ρ H _ (au.refl _ _) e (.bl _)⟩
noncomputable def lK:Ty->String
 | .int=>"int"
 | .bool=>"bool"
 | .tuple=>"tuple"
 | .list=>"list"
structure mY(K:IH):Prop where
 t (a b:String) (ha:a∈["NoneType","bool","int","str","list","tuple"]) (hb:b∈["int","bool","tuple","list"]):Qj K (.type a) (.type b)=some (a == b||(a == "bool"&&b == "int"))
def Au(K:IH)(t:Ty):List V->Hp->VK->Prop:=λb H Q=>∃v a,b=[v,.ty (lK t)]/\a∈["NoneType","bool","int","str","list","tuple"]/\p5 K H v (.type a)/\Q (.bl (a == lK t||(a == "bool"&&lK t == "int"))) H
def Av(a:mY X.K)(t:Ty):aT X (.builtin "isinstance") (Au X.K t):=by
 intro pins s σ H i j Q I r h;obtain⟨v,d,rfl,e,b,q⟩:=h;obtain⟨u,w,rfl,f,c⟩:=mB r;cases c;exact sg I f b (a.t d _ e (by cases t<;>simp[lK])) λg=>⟨.bl _,H,I.tok g,rfl,q⟩
def mZ(y:mY X.K)(he:Pe X cm e d)(O:Gl X "isinstance")(T:X.mg "isinstance" = none)(B:Gl X j)(C:X.mg j=none)(D:bootBuiltins j=some (.type (lK t)))
 (hs:starEach [e,.Name j m] X.env=(false,eval e X.env)::starEach [.Name j m] X.env:=by exact D9 rfl) (E:starEach [Je j m] X.env=(false,eval (.Name j m) X.env)::starEach [] X.env:=by exact D9 rfl) (U:(backTo w (starEach [Je j m] X.env)).any (·.1)=false:=by rfl)
 (N:j≠"__name__":=by decide) (G:(j == ("__debug__" : Str))=false:=by decide) :
 Pe X cm (.Call (.Name "isinstance" p) [e,.Name j m] [] w) (V8 d t):=
 C9 (U2 (Av y t) O T Mc (Y1 he (Y1 (rK (v:=.ty _) B C D rfl N G) mE E) hs) (he:=hs)) λσ H Q Y=>by
  obtain⟨ρ,A,I,v,A',rl,rs,ev,k⟩:=Y;obtain⟨x,A1,e1,J⟩:=B0 ev;obtain⟨b,A2,o,L⟩:=B0 J;cases L;refine⟨ρ,A,I,x,A1,rl,rs,e1,λg q v1 u f h=>?_⟩;cases x with
  | non=>cases h;cases t<;>cases o<;>exact⟨_,"NoneType",rfl,by simp,.non,k g q _ u f (.bl _)⟩
  | bl c=>cases h;cases t<;>cases o<;>exact⟨_,"bool",rfl,by simp,.bl c,k g q _ u f (.bl _)⟩
  | int i=>cases h;cases t<;>cases o<;>exact⟨_,"int",rfl,by simp,.int i,k g q _ u f (.bl _)⟩
  | str z=>cases h;cases t<;>cases o<;>exact⟨_,"str",rfl,by simp,.str z,k g q _ u f (.bl _)⟩
  | tup l=>
    cases h with
    | tup ha r=>cases t<;>cases o<;>exact⟨_,"tuple",rfl,by simp,.tup ha,k g q _ u f (.bl _)⟩
  | ref n=>
    cases t<;>
    (obtain⟨l,A3,e3,e4⟩:=B0 o
     obtain⟨rfl,hA,a,xs,rfl,N,hH,r⟩:=O0 f h e3;cases e4;exact⟨_,"list",rfl,by simp,.lst hH,k g q _ u f (.bl _)⟩)
end
end Ws
namespace Ws
open PySem L2
def m9{H:Hp}{s:IJ}{h':Heap}{t':Nat}{fp:List Addr}{T:Addr}{o:HO}(I:L2.Inv X a σ H s)(i:∀b∈fp,Z3 X a H b)
 (k:∀b u,b∉fp->s.heap.get? b=some u->h'.get? b=some u) (j:s.heap.objs.size<=T) (new:aA X.prog X.w (ax H T o) h' T o):L2.Inv X a σ (ax H T o) { s with heap:=h',toks:=t' }:=by
 have f:=I.hok.fresh j;have neT:∀b u,s.heap.get? b=some u->b≠T:=λb u e=>IY (Jc (IQ e) j);have g:∀b u,H b=some u->b∉fp:=λb u e z=>by rw[(i b z).1]at e;cases e
 refine I.step (λb h=>?_) (λb u _ _ d e _=>k b u d e) (λb u _ _ d e _=>⟨u.slots,k b u d e⟩) (λb u d e n=>by rw[ah (neT b u e)];exact n) (λb u d e=>⟨u,k b u d e⟩)
  (λb x e=>by rw[ah (E7 e f)];exact e) (λb u x e=>by rw[ah (E7 e f)];exact e) (λb N e=>⟨#[],by rw[ah (E7 e f),e];simp⟩) (λm A=>?_) (λb u e=>?_) I.bare
 .obtain⟨_,B,_,C,D,E⟩:=i b h;exact⟨C,B,D,E⟩
 .obtain⟨y,G,J,L,r⟩:=A;exact⟨y,G,J,k _ y (λz=>(i _ z).2.1 rfl) L,r⟩
 .by_cases h:b=T
  .subst h;rw[C1]at e;cases e;exact new
  .rw[ah h]at e;refine(I.hok b u e).stay (λc v d q=>k c v ?_ q) (λc q=>by rw[ah (E7 q f)];exact q) λc x q=>by rw[ah (E7 q f)];exact q
   rcases d with rfl | d
   .exact g c u e
   .exact g c _ d
def pF{H:Hp}{s:IJ}{h':Heap}{t':Nat}{fp:List Addr}(I:L2.Inv X a σ H s)(g:∀b∈fp,Z3 X a H b)
 (k:∀b u,b∉fp->s.heap.get? b=some u->h'.get? b=some u):L2.Inv X a σ H { s with heap:=h',toks:=t' }:=by
 have f:∀b u,H b=some u->b∉fp:=λb u e z=>by rw[(g b z).1]at e;cases e
 refine I.step (λb o=>?_) (λb u _ _ d e _=>k b u d e) (λb u _ _ d e _=>⟨u.slots,k b u d e⟩) (λb u d e n=>n) (λb u d e=>⟨u,k b u d e⟩)
  (λb j e=>e) (λb u j e=>e) (λb E e=>⟨#[],by rw[e];simp⟩) (λm p=>?_) (λb u e=>?_) I.bare
 .obtain⟨_,w,_,x,y,A⟩:=g b o;exact⟨x,w,y,A⟩
 .obtain⟨l,B,C,D,r⟩:=p;exact⟨l,B,C,k _ l (λz=>(g _ z).2.1 rfl) D,r⟩
 .refine(I.hok b u e).stay (λc v d q=>k c v ?_ q) (λc q=>q) λc j q=>q;rcases d with rfl | d
  .exact f c u e
  .exact f c _ d
def Aw(a e it:Addr)(hei:e≠it):iL P w K (.Tuple elts x1 pos) (pf K a) [e,it] e (λi h=>(∃old,IsEnum h e it i old)/\h.IsListIter it a i) where
 mem:=by simp
 obj:=λi h st b hb=>by
  obtain⟨⟨old,he⟩,o,e1,c,d⟩:=st;rcases IT.mp hb with rfl | hb
  .exact⟨_,he,λv z=>by cases z⟩
  .have e2:b=it:=by simpa using hb
   subst e2;exact⟨o,e1,λv z=>by rw[d]at z;cases z⟩
 keep:=λi h h' st k=>by
  obtain⟨⟨old,he⟩,hit⟩:=st;exact⟨⟨old,k e (by simp) _ he⟩,hit.at λo x=>k it (by simp) o x⟩
 item:=by
  intro X hP hw hK hc i pins s σ H E I hf st hg;subst hP hw hK;obtain⟨xs,x,hq,hx⟩:=hg;obtain⟨its,rv,p,hz⟩:=I.list hq;obtain⟨u,hu,ru⟩:=rv.get hx;obtain⟨⟨old,he⟩,hit⟩:=st;have el:=IQ he;refine wpAny_pyNext_enum_item he hit p.isList (by simpa using hu) hei λh' ho hit' hT hsz hk=>?_;refine⟨.ref _,rfl,wpAny_letOwnedTupleGo_enum ho λh2 he2 hs2=>?_⟩;have sb:∀b u,b≠e->h'.get? b=some u->h2.get? b=some u:=λb u hb q=>(hs2.2 b hb).trans q;have hTe:=KU el;have I2:L2.Inv X pins σ (ax H s.heap.objs.size (.tup [.int i,x])) { s with heap:=h2,toks:=s.toks+1 }:=by
   refine m9 I hf (λb u hb q=>?_) (IM _) ?_
   .have h1:b≠e:=λz=>hb (by simp[z]);have h2:b≠it:=λz=>hb (by simp[z]);exact sb b u h1 (hk b u h1 h2 q)
   .exact⟨by show 2<=sizeLine;decide,[.int i _,u],.cons ⟨_,rfl⟩ (.cons ru .nil),_,sb _ _ hTe hT,rfl,_,rfl⟩
  refine⟨.ref _,ax H _ _,I2,rfl,⟨x,_,λys hy=>by rw[I.list_inj hy hq];exact hx,I.hok.fresh (IM _),rfl,rfl⟩,⟨⟨u,by exact_mod_cast he2⟩,hit'.at λo y=>sb it o hei.symm y⟩,λb hb=>?_⟩
  .rw[ah]
   .exact(hf b hb).1
   .rcases IT.mp hb with rfl | hb
    .exact hTe.symm
    .have e2:b=it:=by simpa using hb
     subst e2;obtain⟨_,y,_⟩:=hit;exact IY (IQ y)
 done:=by
  intro X hP hw hK hc i pins s σ H E I hf st hg;subst hP hw hK;obtain⟨xs,hq,hx⟩:=hg;obtain⟨its,rv,p,hz⟩:=I.list hq;obtain⟨⟨old,he⟩,hit⟩:=st;have hl:=rv.length;exact wpAny_pyNext_enum_end (I.ok.hd hc) he hit p.isList (by simp;walk_at "o") λh' eb=>⟨rfl,pF I hf λb u hb q=>eb b u (λz=>hb (by simp[z])) q⟩
 self:=λ_ _ _ _ _ st h=>by
  obtain⟨⟨old,he⟩,_⟩:=st;exact wpAny_pyIter_enum he h
def lL(Y:Gl X "enumerate")(hm:X.mg "enumerate" = none)(hl:Pe X cm l d)(hs:starEach [l] X.env=(false,eval l X.env)::starEach [] X.env:=by exact D9 rfl):L2.PI X (.Tuple f B g) (.Call (.Name "enumerate" p) [l] [] i) (EvI X.K cm (fq d)):=by
 intro j s σ H R I h;obtain⟨ρ,A,C,J,A',rl,rs,ev,k⟩:=h;obtain⟨x,A1,e1,o⟩:=B0 ev;refine PyProof.Rows.Call_ (T1 I Y hm PyProof.Rows.boot_enumerate (Ls (aB ((aN hl br hs) i j s σ H (λQ c=>∃a y,Q=[.ref a]/\bu X.K c a y/\R (pf X.K a) c) I ⟨ρ,A,C,[x],A1,rl,rs,by show ak _ _ A=_;rw[aG e1];rfl,λD c a9 B v E=>?_⟩) λus e zq=>?_) hs rfl))
 .cases x with
  | ref n=>
    obtain⟨m,A2,e2,G⟩:=B0 o;cases E with
    | cons T hr=>
      cases hr;obtain⟨rfl,a,y,rfl,L,r⟩:=M3 v T e2;cases G;cases T with
      | ref hn=>exact⟨a,y,rfl,L,k D c _ B v ⟨a,hn,rfl⟩⟩
  | _=>cases o
 .obtain⟨Q,c,z,r1,q1⟩:=zq;obtain⟨a,y,rfl,L,q⟩:=q1;obtain⟨u,rfl,rx⟩:=Z4 r1;cases rx;obtain⟨c2,rv,pl,hz⟩:=z.list L;refine call_enumerate_list pl.isList λh' U N c4 kp=>?_;refine wpAny_pyIter_enum U ?_;have I2:=z.kept (t':=e.toks) kp;refine⟨e.heap.objs.size+1,[e.heap.objs.size+1,e.heap.objs.size],_,_,c,rfl,I2,Aw a _ _ (Nat.succ_ne_self _),⟨⟨_,U⟩,N⟩,λb O=>?_,q⟩;have w:e.heap.objs.size<=b:=by
   rcases IT.mp O with rfl | O
   .simp
   .have:b=e.heap.objs.size:=by simpa using O
    exact PJ this.symm
  exact z.fpOk w (z.hok.fresh w)
structure bO(P:Jg)(w:JJ)(K:IH)(mg:Str->Option II)(base:Heap)(cm:Nat->Addr)(x:Str)(k:Nat)(ps:List Str)(f:Fun)(n:Nat):Prop where
 ex:∃(fa:Addr)(fd:Jh),av P w K mg base aO k fa fd ps (aQ K cm f n)/\mg x=some (.ref fa)/\Ln K (.ref fa)=true/\L2.Binds K fd ps []
 len:∀vs A v A',f vs A=.ok v A'->vs.length=n
structure j5(P:Jg)(w:JJ)(K:IH)(mg:Str->Option II)(base:Heap)(cm:Nat->Addr)(c:Nat)(m:Str)(k:Nat)(ps:List Str)(f:Fun)(n:Nat):Prop where
 ex:∃(fa:Addr)(fd:Jh),av P w K mg base aO k fa fd ps (aQ K cm f n)/\hI K (cm c) m fa/\L2.Binds K fd ps []
 len:∀vs A v A',f vs A=.ok v A'->vs.length=n
structure lM(P:Jg)(w:JJ)(K:IH)(mg:Str->Option II)(base:Heap)(cm:Nat->Addr)(c:Nat)(x:Str)(k:Nat)(ps:List Str)(f:Fun)(n:Nat):Prop where
 ex:∃(fa:Addr)(fd:Jh),av P w K mg base aO k fa fd ps (aQ K cm f n)/\L2.Mk K (cm c) fa/\mg x=some (.ref (cm c))/\L2.Binds K fd ps []
 len:∀vs A v A',f vs A=.ok v A'->vs.length=n/\v=.non
def tU(D:bO X.prog X.w X.K X.mg X.base cm x k ps f n)(i:k<=g)(j:aK g X.A)(l:Gl X x)
 (m:Pa X cm (e::es) h) (b:(x == ("__debug__" : Str))=false:=by decide) (he:starEach (e::es) X.env=(false,eval e X.env)::starEach es X.env:=by exact D9 rfl) (c:(backTo a (starEach es X.env)).any (·.1)=false:=by rfl) :
 Pe X cm (.Call (.Name x p) (e::es) [] a) (C8 f h):=by
 obtain⟨r,s,F,o,d,q⟩:=D.ex;exact Ak F D.len (j.mono i) l o d q m b he c
def Ax(D:j5 X.prog X.w X.K X.mg X.base cm c m k ps f n)(r:k<=l)(s:aK l X.A)(u:dy X.K (cm c))(v:Pe X cm o d)(x:Pa X cm (e::es) p)(g:∀i,i<19->cA i≠m)
 (h:starEach (e::es) X.env=(false,eval e X.env)::starEach es X.env:=by exact D9 rfl) (j:(backTo a (starEach es X.env)).any (·.1)=false:=by rfl)
 (y:eval (.Call (.Attribute o m b) (e::es) [] a) X.env=(do
  let ov <-eval o X.env
  standAt b.atName
  let(f,first) <-holding [ov] (getMethod ov m q)
  callWith a f first (backTo a (starEach (e::es) X.env)) (backToKw a (keywordEach [] X.env))):=by rfl) :
 Pe X cm (.Call (.Attribute o m b) (e::es) [] a) (aM c f d p):=by
 obtain⟨C,E,F,z,B⟩:=D.ex;exact Al v u z F D.len g (s.mono r) B x h j y
def Ay(D:lM X.prog X.w X.K X.mg X.base cm c x k ps f n)(i:k+1<=g)(j:aK g X.A)
 (l:Gl X x) (m:Pa X cm (e::es) h) (b:(x == ("__debug__" : Str))=false:=by decide) (he:starEach (e::es) X.env=(false,eval e X.env)::starEach es X.env:=by exact D9 rfl) (d:(backTo a (starEach es X.env)).any (·.1)=false:=by rfl) (o:c<7:=by decide) :
 Pe X cm (.Call (.Name x p) (e::es) [] a) (Y9 c f h):=by
 obtain⟨u,v,F,q,r,s⟩:=D.ex;exact An o q F D.len (j.mono i) l r s m b he d
def ju(c:Gl X x)(b:∃t,X.mg x=some (.int i t))(d:(x == ("__debug__" : Str))=false:=by decide):Pe X cm (.Name x a) (eK (.int i)):=by
 obtain⟨t,b⟩:=b;exact ko (nX c b (show L2.RelV (.int i) _ from⟨t,rfl⟩) d) λ_ _=>.int i
structure J3(K:IH)(mg:Str->Option II)(cm:Nat->Addr):Prop where
 kit:mY K
 cls:∀c,c<7->dy K (cm c)
 na:∀c i,i<19->c<7->bA K (cm c) (cA i)
 b_len:mg "len" = none
 b_range:mg "range" = none
 b_list:mg "list" = none
 b_sorted:mg "sorted" = none
 b_isinstance:mg "isinstance" = none
 b_int:mg "int" = none
 b_bool:mg "bool" = none
 b_tuple:mg "tuple" = none
 b_enumerate:mg "enumerate" = none
 b_reversed:mg "reversed" = none
 b_max:mg "max" = none
 b_min:mg "min" = none
 b_all:mg "all" = none
 b_any:mg "any" = none
 b_set:mg "set" = none
 b_zip:mg "zip" = none
 b_dict:mg "dict" = none
section
variable{prog:Jg}{w:JJ}{A:JI}{R:QX->IJ->Prop}{s:IJ}
abbrev tV(b:List Expr)(a:Env):Sem Bool:=forIn b true λc r=>if r=true then do let ok <-isTrue c a (eval c a);pure (ForInStep.yield ok) else pure (ForInStep.yield r)
def Az{q a iter:Expr}{u:List Expr}{p:OI}{G:Pos}{H y:II}{e:Env}(I:Nat->IJ->Prop)
 (z:∀n s,I n s->wpAny (model prog w) A (pyNext H) (λr b=>match r with
  | none=>R (.ok .next) b
  | some v=>wpAny (model prog w) A (letOwnedTupleGo a H v) (λ_ f=>wpAny (model prog w) A (assign a e v) (λ_ g=>
   wpAny (model prog w) A (tV u e) (λok c=>
    if ok=true then wpAny (model prog w) A (eval q e) (λx i=>
     wpAny (model prog w) A (call (.builtin "list.append") [y,x]) (λ_ j=>∃m,m<n/\I m j) (λ_ _=>False) i) (λ_ _=>False) c
    else ∃m,m<n/\I m c) (λ_ _=>False) g) (λ_ _=>False) f) (λ_ _=>False) b) (λ_ _=>False) s)
 (n:Nat) (h:I n s):codeAny (model prog w) A (.compLoop (.ListComp q [⟨a,iter,u,0⟩] p G) 0 H y e) R s:=by
 refine codeAny_loop rfl I (λn s J=>?_) n h;show wpAny _ A _ _ _ s;refine wpAny_noted ?_;rw[compTurn_list];refine IE (ND (IE (Jv (z n s J) (λr b l=>?_) λ_ _ d=>d.elim)));cases r with
 | none=>exact IG l
 | some v=>
   refine IE (Jv l (λ_ f B=>?_) λ_ _ d=>d.elim);refine IE (Jv B (λ_ g C=>IE (Jv C (λok c o=>?_) λ_ _ d=>d.elim)) λ_ _ d=>d.elim);cases ok with
   | false=>exact IG ⟨rfl,o⟩
   | true=>
     exact IE (IE (Jv o (λx i D=>IE (Jv D (λ_ j E=>IG (IG ⟨rfl,E⟩)) λ_ _ d=>d.elim)) λ_ _ d=>d.elim))
end
noncomputable def eG(X:Cx)(N:List Str)(scope:OI)(cl:List (Str×Addr))(C:Addr)(s₀:IJ)(H₀:Hp)(fp:List Addr):Cx where
 prog:=X.prog
 w:=X.w
 K:=X.K
 mg:=X.mg
 base:=X.base
 A:=X.A
 N:=N
 s₀:=s₀
 H₀:=H₀
 env:=compEnvC scope cl C X.env
 outer:=X.stack
 stack:=X.stack
 ex:=fp
 fn:=λ_=>false
 calm:=X.calm
 pn:=[]
 xe:=λ_ _=>False
inductive aZ (X:Cx) (scope:OI) (cl:List (Str×Addr)):List Str->List (Option Nat)->Prop where
 | nil:aZ X scope cl [] []
 | own {x:Str} {N:List Str} {js:List (Option Nat)} (h:aZ X scope cl N js):aZ X scope cl (x::N) (none::js)
 | free {x:Str} {j:Nat} {N:List Str} {js:List (Option Nat)} (h1:X.N[j]?=some x) (h2:X.env.kindOf x=some .cell\/X.env.kindOf x=some .free) (h3:iK X.env.scope x) (h4:cl.lookup x=X.env.cells.lookup x) (h5:(relabel scope X.env).names.lookup x=some .cell\/(relabel scope X.env).names.lookup x=some .free) (h:aZ X scope cl N js):aZ X scope cl (x::N) (some j::js)
def aZ.len(h:aZ X a c N b):b.length=N.length:=by
 induction h with
 | nil=>rfl
 | own _ ih=>exact congrArg (·+ 1) ih
 | free _ _ _ _ _ _ ih=>exact congrArg (·+ 1) ih
def aZ.get{N:List Str}{n:List (Option Nat)}{i j:Nat}{x:Str}(h:aZ X f m N n)(g:N[i]?=some x)(l:n[i]?=some (some j)):X.N[j]?=some x/\(X.env.kindOf x=some .cell\/X.env.kindOf x=some .free)/\iK X.env.scope x/\m.lookup x=X.env.cells.lookup x/\((relabel f X.env).names.lookup x=some .cell\/(relabel f X.env).names.lookup x=some .free):=by
 induction h generalizing i with
 | nil=>cases g
 | own _ ih=>
   cases i with
   | zero=>cases l
   | succ i=>exact ih g l
 | free a b c d e _ ih=>
   cases i with
   | zero=>cases g;cases l;exact⟨a,b,c,d,e⟩
   | succ i=>exact ih g l
def tW{c:Type}{σ:List (Option c)}{i:Nat}{v:c}(h:(cu b σ)[i]?=some (some v)):∃j,b[i]?=some (some j)/\σ[j]?=some (some v):=by
 unfold cu at h;rw[Jm]at h;rcases e:b[i]? with _ | (_ | j)
 .rw[e]at h;cases h
 .rw[e]at h;cases h
 .rw[e]at h;refine⟨j,rfl,?_⟩;have a:σ.getD j none=some v:=Jw h;rw[JO]at a;rcases d:σ[j]? with _ | o
  .rw[d]at a;cases a
  .rw[d]at a;exact congrArg some a
def bG.bst(h:bG b H a σ)(c:List (Option Nat)):bG b H (Ws.cu c a) (Ws.cu c σ):=by
 refine⟨by simp[Ws.cu],λi p d=>?_⟩;obtain⟨j,e,f⟩:=tW d;obtain⟨v,g,l⟩:=h.get j p f;refine⟨v,?_,l⟩;unfold Ws.cu;rw[Jm,e];show some (σ.getD j none)=_;rw[JO,g];rfl
structure lN(X:Cx)(scope:OI)(cl:List (Str×Addr)):Prop where
 kind:scope.kind=.function
 clos:closureFor scope X.env=pure cl
 nocell:∀y∈scope.names,y.2≠.cell
 names:∀y∈scope.names,y.2=.local->scope.names.lookup y.1=some .local
 sub:∀p∈cl,X.env.cells.lookup p.1=some p.2
 has:∀y∈scope.names,y.2=.free->(cl.lookup y.1).isSome=true
def AA(S:lN X a f)(h:(relabel a X.env).names.lookup x=some .cell\/(relabel a X.env).names.lookup x=some .free):∃c,f.lookup x=some c:=by
 have d:∀k,(x,k)∈(relabel a X.env).names->k=.cell\/k=.free->∃c,f.lookup x=some c:=λk j l=>by
  obtain⟨⟨n,m⟩,g,e⟩:=IU.mp j;dsimp only at e;have b:n=x/\m=.free:=by
   split at e
   .rename_i i;cases e;simp only[Jq,beq_iff_eq]at i;exact⟨rfl,i.1.1⟩
   .cases e;rcases l with rfl | rfl
    .exact absurd rfl (S.nocell _ g)
    .simp
  obtain⟨rfl,rfl⟩:=b;exact Ow.mp (S.has _ g rfl)
 rcases h with h | h
 .exact d _ (Ko h) (.inl rfl)
 .exact d _ (Ko h) (.inr rfl)
def AB(S:lN X a r)(Fr:aZ X a r N J)(I:L2.Inv X pins σ H s)(l:∀b∈fp,Z3 X pins H b)(w:∀b∈fp,b<s.heap.objs.size)
 (A:s.heap.objs.size<=C) (L:∀b u,s.heap.get? b=some u->h'.get? b=some u) (B:h'.Ns C m):L2.Inv (eG X N a r C s H fp) [] (Ws.cu J σ) H { s with heap:=h',toks:=t' }:=by
 have D:L2.Inv X pins σ H { s with heap:=h',toks:=t' }:=I.kept L;have sub:=λx c e=>S.sub (x,c) (Ko e);refine⟨⟨I.ok.mod,S.kind,I.ok.glob,I.ok.blt,A,λx y c E G=>I.ok.inj x y c (sub x c E) (sub y c G),λx O=>AA S O,λx c h=>(nomatch h),I.ok.hd,I.ok.frames,.inl rfl,λb d=>⟨IY (Jc (w b d) A),λx c e=>(l b d).2.2.2.2.1 x c (sub x c e)⟩,
  I.bs,Jt I.ok.bsz I.sz,λb o e d=>?_,λb d Q=>?_,I.stack,I.stkFree⟩,rfl,I.bare,Un.kept L,⟨m,B,λi x v E G h3=>?_⟩,λx c e=>D.cell x c (sub x c e),I.hok.fresh A,λx c e=>I.freeC x c (sub x c e),λp T=>absurd (show p∈([])from T) (by simp),D.hok,by simp[Ws.cu,Fr.len,eG]⟩
 .rcases(l b d).2.2.2.1 with z | z
  .exact I.ok.noex b o e z
  .exact absurd (Jc (IQ e) (Jt I.ok.bsz z)) (Ld _)
 .rcases IT.mp (I.stkSub b Q)with z | z
  .exact(l b d).2.1 z
  .exact(l b d).2.2.1 z
 .obtain⟨j,U,Y⟩:=tW G;obtain⟨a1,n,a3,a4,a5⟩:=Fr.get E U;obtain⟨m0,_,hl⟩:=D.loc;obtain⟨u,ru,lk⟩:=hl j x v a1 Y a3;refine⟨u,ru,?_⟩;rcases lk with⟨q,_⟩ | ⟨_,c,e1,e2⟩
  .rcases n with n | n<;>(rw[n]at q;cases q)
  .exact .inr ⟨a5,c,a4.trans e1,e2⟩
def AE{fp:List Addr}(I:L2.Inv X pins σ H s)(a:Z3 X pins H D)(new:aA X.prog X.w (ax H D o) s.heap D o):L2.Inv X pins σ (ax H D o) s:=by
 have i:=a.1;have ne:∀b u,H b=some u->b≠D:=λb u e z=>by rw[z,i]at e;cases e
 obtain⟨p,g,d,r,os⟩:=s;refine I.step (ch:=[D]) (λb f=>?_) (λb u _ _ _ e _=>e) (λb u _ _ _ e _=>⟨u.slots,e⟩) (λb u j e n=>by rw[ah (λz=>j (by simp[z]))];exact n) (λb u _ e=>⟨u,e⟩)
  (λb h e=>by rw[ah (ne b _ e)];exact e) (λb u h e=>by rw[ah (ne b _ e)];exact e) (λb x e=>⟨#[],by rw[ah (ne b _ e),e];simp⟩) (λm l=>l) (λb u e=>?_) I.bare
 .have e:b=D:=by simpa using f
  subst e;exact⟨a.2.2.2.1,a.2.1,a.2.2.2.2.1,a.2.2.2.2.2⟩
 .by_cases f:b=D
  .subst f;rw[C1]at e;cases e;exact new
  .rw[ah f]at e;exact(I.hok b u e).stay (λc v _ q=>q) (λc q=>by rw[ah (ne c _ q)];exact q) λc h q=>by rw[ah (ne c _ q)];exact q
section
variable{X:Cx}{cm:Nat->Addr}
def jv(X:Cx)(b:List Expr)(t:TT):Prop:=
 ∀(a:List (Addr×Obj))(s:IJ)(σ:L2.St)(H:Hp)(Q:Bool->Hp->Prop),L2.Inv X a σ H s->t σ H Q->wpAny (model X.prog X.w) X.A (tV b X.env) (TP X a σ Q) X.xe s
def jw:jv X [] (fc X.K cm bf):=λa s h H Q I c=>by
 obtain⟨d,A,e,b,i,f,j,g,k⟩:=c;cases g;exact wpAny_tests_nil ⟨H,I,k d H (au.refl _ _) f⟩
def jx(h:Pt X cm c t):jv X [c] (fc X.K cm t):=λa s b H Q I q=>wpAny_tests_one (h a s b H Q I q)
structure tX(C:Cx->Prop)(Z:Hp->Prop)(P:Jg)(w:JJ)(K:IH)(tg:Expr)(J:L2.It)(fp:List Addr)(it:Addr)(tn:Nat->Heap->Prop):Prop where
 obj:∀i h,tn i h->∀b∈fp,∃o,h.get? b=some o/\∀v,o.data≠.cell v
 keep:∀i h h',tn i h->(∀b∈fp,∀o,h.get? b=some o->h'.get? b=some o)->tn i h'
 item:∀(X:Cx),X.prog=P->X.w=w->X.K=K->C X->∀(i:Nat)(pins:List (Addr×Obj))(s:IJ)(σ:L2.St)(H:Hp)(E:II->IJ->Prop),L2.Inv X pins σ H s->(∀b∈fp,Z3 X pins H b)->tn i s.heap->J.go i H->
  wpAny (model P w) X.A (pyNext (.ref it)) (λr s1=>∃u,r=some u/\
   wpAny (model P w) X.A (letOwnedTupleGo tg (.ref it) u) (λ_ s2=>∃x H',L2.Inv X pins σ H' s2/\L2.RelV x u/\J.yld i H x H'/\tn (i+1) s2.heap/\∀b∈fp,H' b=none) E s1) E s
 done:∀(X:Cx),X.prog=P->X.w=w->X.K=K->C X->∀(i:Nat)(pins:List (Addr×Obj))(s:IJ)(σ:L2.St)(H:Hp)(E:II->IJ->Prop),L2.Inv X pins σ H s->(∀b∈fp,Z3 X pins H b)->tn i s.heap->J.stop i H->Z H->
  wpAny (model P w) X.A (pyNext (.ref it)) (λr s1=>r=none/\L2.Inv X pins σ H s1) E s
 self:∀(A:JI)(i:Nat)(s:IJ)(Q:II->IJ->Prop)(E:II->IJ->Prop),tn i s.heap->Q (.ref it) s->wpAny (model P w) A (pyIter (.ref it)) Q E s
def tY(T:iL P w K g J fp h l):tX (λX=>X.calm=true) (λ_=>True) P w K g J fp h l:=
 ⟨T.obj,T.keep,T.item,λX a b c d i e s m H E I f t j _=>T.done X a b c d i e s m H E I f t j,T.self⟩
def tZ
           {RR:II->Addr->QX->IJ->Prop} 
  {W:PHp->Prop} (hC:∀Y:Cx,Y.calm=X.calm->Y.A=X.A->C Y) (hz:∀{h H' B},au ρ H h H'->aF X.K cm h B H'->W B->Z H') (s4:W A) (kg:∀v σ B a0 B',g v σ B=.ok a0 B'->W B->W B') (kt:∀σ B b B',t σ B=.ok b B'->W B->W B') (ke:∀σ B v B',e σ B=.ok v B'->W B->W B') (S:lN X a cl) (Fr:aZ X a cl N js)
 (hg:∀C s0 H0 fp,L2.PG (eG X N a cl C s0 H0 fp) tg (km X.K cm g)) (ht:∀C s0 H0 fp,jv (eG X N a cl C s0 H0 fp) h9 (fc X.K cm t)) (he:∀C s0 H0 fp,PE (eG X N a cl C s0 H0 fp) h7 (cB X.K cm e))
 (I:L2.Inv X L σ H s) (T:tX C Z X.prog X.w X.K tg j fp it tn) (st:tn 0 s.heap) (hf:∀b∈fp,Z3 X L H b) (rj:ie X.K ρ H J j) (rl:aF X.K cm ρ A H) (rs:bG ρ H i2 σ)
 (ev:b7 J g t e (n+1) 0 (Ws.cu js i2) A=.ok ys A') (hy:ys.length<=LIM)
 (t1:∀D C s' m,s'.heap.Ns C m->C≠X.env.locals->(∀n2,JK C s'.heap n2->∃h H',au ρ H h H'/\aF X.K cm h (A'++[.lst ys]) H'/\h[A'.length]?=some D/\L2.Inv X L σ H' { s' with heap:=n2 }/\Z3 X L H' C)->RR (.ref D) C (.ok .next) s') :
 wpAny (model X.prog X.w) X.A (newList []) (λn3 a4=>wpAny (model X.prog X.w) X.A (newFunctionEnv a X.env.globals cl [] X.env.qual none .none (some X.env)) (λh0 n7=>
  codeAny (model X.prog X.w) X.A (.compStart (.ListComp h7 [⟨tg,iter,h9,0⟩] a l9) 0 (.ref it) n3 { h0 with scope:=relabel a X.env }) (RR n3 h0.locals) n7) E a4) E s:=by
 refine Ke (wpAny_newFunctionEnv S.nocell (by intro y hy;simp at hy) (λa5 a1 U=>?_) S.kind);dsimp only at a1 U ⊢;generalize j1:s.heap.push { cls:=.type "list",dict:=none,data:=.seq ([]:List II).toArray }=H2 at a1 U ⊢;have j2:H2.objs.size=s.heap.objs.size+1:=by rw[<-j1,JW]
 have k0:∀b∈fp,b<s.heap.objs.size:=λb d=>by
  obtain⟨o,ho,_⟩:=T.obj 0 _ st b d;exact IQ ho
 have d2:s.heap.objs.size≠H2.objs.size:=by rw[j2];exact IY (KD _)
 have Q:s.heap.objs.size<=H2.objs.size:=by rw[j2];exact Mx _
 have o2:∀b o,s.heap.get? b=some o->a5.get? b=some o:=λb o q=>U.extBut b o (by rw[j2];exact IY (Lp (IQ q))) (IF _ (j1 ▸ IF _ q));have o3:a5.PlainList s.heap.objs.size #[]:=⟨_,U.extBut _ _ d2 (IF _ (j1 ▸ IP _ rfl))⟩;generalize a9:s.heap.objs.size=D at *;generalize F1:H2.objs.size=C at *
 let Y:=eG X N a cl C s H fp
 have e0:∀b∈fp,b≠D:=λb d=>IY (k0 b d);have e2:∀b o,s.heap.get? b=some o->b<D:=λb o q=>by rw[<-a9];exact IQ q
 have nD:D∉frs X.stack:=λz=>by
  obtain⟨_,o,ho,_⟩:=I.stack.mem z;exact Ld _ (e2 _ _ ho)
 have k1:∀x c,X.env.cells.lookup x=some c->c<D:=λx c q=>by
  obtain⟨v,o,ho,_⟩:=I.cell x c q;exact e2 _ _ ho
 have h1:∀x c,cl.lookup x=some c->X.env.cells.lookup x=some c:=λx c q=>S.sub (x,c) (Ko q);have p0:∀(ps:List (Addr×Obj))(H':Hp),(∀p∈ps,∀b∈fp,p.1≠b)->(∀b∈fp,H' b=none)->∀b∈fp,Z3 Y ps H' b:=λps H' t2 hn b d=>
  ⟨hn b d,IY (Jc (k0 b d) Q),λhz=>(IT.mp (I.stkSub b hz)).elim (hf b d).2.1 (hf b d).2.2.1,.inl d,λx c q=>(hf b d).2.2.2.2.1 x c (h1 x c q),λp hp=>t2 p (by simpa[Y,eG]using hp) b d⟩
 have I0:L2.Inv Y [] (Ws.cu js σ) H { s with heap:=a5,toks:=s.toks+([]:List (Str×II)).length }:=AB S Fr I hf (λb d=>by rw[a9];exact k0 b d) (by rw[a9];exact Q) o2 a1;have p3:tn 0 a5:=T.keep 0 _ _ st λb d o q=>o2 b o q;have h3:∀a4:IJ,a4={ s with heap:=a5,toks:=s.toks+([]:List (Str×II)).length }->
  codeAny (model X.prog X.w) X.A (.compLoop (.ListComp h7 [⟨tg,iter,h9,0⟩] a l9) 0 (.ref it) (.ref D) (compEnvC a cl C X.env)) (RR (.ref D) C) a4:=by
  rintro a4 rfl;refine Az (λm s'=>∃i a0 H' h B b2 b3 a6 G f,L2.Inv Y [] a0 H' s'/\tn i s'.heap/\(∀b∈fp,H' b=none)/\au ρ H h H'/\aF X.K cm h B H'/\bG h H' b2 a0/\b7 J g t e (m+1) i b2 B=.ok b3 A'/\
   s'.heap.PlainList D (Nj f)/\H' D=none/\ay G f/\RVs h H' a6 G/\a6++b3=ys/\W B) ?_ n ⟨0,_,H,ρ,A,Ws.cu js i2,ys,[],[],[],I0,p3,λb d=>(hf b d).1,au.refl _ _,rl,rs.bst js,ev,o3,by rw[<-a9];exact I.hok.fresh (IM _),.nil,.nil,rfl,s4⟩
  rintro m s' ⟨i,a0,H',h,B,b2,b3,a6,G,f,I1,p4,u0,x1,g3,v0,p8,pl,g4,va,ra,e6,k2⟩;obtain⟨O,v1⟩:=id pl;have dD:∀v,({ cls:=.type "list",data:=.seq f.toArray O }:Obj).data≠.cell v:=λv z=>nomatch z;have I2:L2.Inv Y [(D,{ cls:=.type "list",data:=.seq f.toArray O })] a0 H' s':=I1.pins_of λp hp=>by
   have e:p=(D,{ cls:=.type "list",data:=.seq f.toArray O }):=by simpa using hp
   subst e;exact⟨v1,g4,d2,nD,dD⟩
  have f2:=p0 [(D,{ cls:=.type "list",data:=.seq f.toArray O })] H' (λp hp b d=>by
   have e:p=(D,{ cls:=.type "list",data:=.seq f.toArray O }):=by simpa using hp
   subst e;exact(e0 b d).symm) u0
  rw[sT]at p8;obtain⟨x,B1,e1,q0⟩:=B0 p8;obtain⟨rfl,k3⟩:=tO g3 (rj.mono x1) e1;cases x with
  | none=>
    cases q0;rw[Kn]at e6;subst e6;refine aB (T.done Y rfl rfl rfl (hC Y rfl rfl) i _ s' a0 H' (λ_ _=>False) I2 f2 p4 k3 (hz x1 g3 k2)) λr s1 zq=>?_;obtain⟨hr,I3⟩:=zq;subst hr;have v3:=I3.pin (D,{ cls:=.type "list",data:=.seq f.toArray O }) (by simp);obtain⟨mC,v4,_⟩:=id I3.loc;refine t1 D C s1 mC v4 (λz=>?_) λh2 sb=>?_
    .have:=I.lt;rw[<-z,a9]at this;exact absurd (Jc this Q) (Ld _)
    .have ch:∀b∈fp,(b∈X.ex\/X.s₀.heap.objs.size<=b)/\b≠X.env.locals/\(∀x c,X.env.cells.lookup x=some c->c≠b)/\∀p∈X.pn++L,p.1≠b:=λb d=>⟨(hf b d).2.2.2.1,(hf b d).2.1,(hf b d).2.2.2.2.1,(hf b d).2.2.2.2.2⟩;have IX:L2.Inv X L σ H' s1:=I.call' I3.os I3.base I3.hok I3.bare ch;have c1:∀(g5:Hp) b,D<=b->g5 b=none->Z3 X L g5 b:=λg5 b d hn=>by
      rw[<-a9]at d;exact I.fpOk (H':=g5) d hn
     have v5:L2.Inv X L σ H' { s1 with heap:=h2 }:=IX.turned (t':=s1.toks) (λb o d q=>(sb.2 b d).trans q) I3.free (c1 H' C Q I3.free).2.1 (c1 H' C Q I3.free).2.2.2.1 (c1 H' C Q I3.free).2.2.2.2.1 (c1 H' C Q I3.free).2.2.2.2.2;have f0:G.length<=sizeLine:=by rw[<-ra.length];exact X0 hy
     have v6:L2.Inv X L σ (ax H' D (.lst G)) { s1 with heap:=h2 }:=AE (fp:=fp) v5 (c1 H' D (IM _) g4) ⟨f0,f,O,va,(sb.2 D d2).trans v3.1⟩;have ex:au h H' (h++[D]) (ax H' D (.lst G)):=au.new g4;refine⟨h++[D],ax H' D (.lst G),x1.trans ex,g3.alloc g4 ⟨G,C1,ra.mono ex⟩ rfl,by rw[<-g3.len];simp,v6,c1 _ C Q ?_⟩;rw[ah (Kk d2)];exact I3.free
  | some v=>
    refine aB (T.item Y rfl rfl rfl (hC Y rfl rfl) i _ s' a0 H' (λ_ _=>False) I2 f2 p4 k3.1) λr s1 zq=>?_;obtain⟨u,hr,h4⟩:=zq;subst hr;refine aB h4 λ_ s2 zq=>?_;obtain⟨xv,H3,I3,ru,w1,g6,w2⟩:=zq;obtain⟨x2,w3,w4⟩:=k3.2 xv H3 w1;have f3:=p0 [(D,{ cls:=.type "list",data:=.seq f.toArray O })] H3 (λp hp b d=>by
     have e:p=(D,{ cls:=.type "list",data:=.seq f.toArray O }):=by simpa using hp
     subst e;exact(e0 b d).symm) w2
    have I4:=I3.pinned f3 (T.obj _ _ g6);obtain⟨c2,B4,e4,x3⟩:=B0 q0;obtain⟨b5,B5,e5,c3⟩:=B0 x3;refine aB (hg C s H fp _ s2 a0 H3 xv u (λa7 H5=>∃a8,au h H3 a8 H5/\aF X.K cm a8 B4 H5/\bG a8 H5 c2 a7) I4 ru ⟨h,B1,b2,v,c2,B4,w3,v0.mono x2,w4,e4,λa8 H5 a7 x5 k5 c4=>⟨a8,x5,k5,c4⟩⟩) λ_ s5 zq=>?_;obtain⟨a7,H5,I5,a8,x5,k5,c4⟩:=zq;refine aB (ht C s H fp _ s5 a7 H5 (λb H6=>b=b5/\∃a2,au a8 H5 a2 H6/\aF X.K cm a2 B5 H6) I5 ⟨a8,B4,c2,b5,B5,k5,c4,e5,λa2 H6 x6 g7=>⟨rfl,a2,x6,g7⟩⟩) λok s6 zq=>?_;obtain⟨H6,I6,y1,a2,x6,g7⟩:=zq;subst y1;have k6:au h H' a2 H6:=(x2.trans x5).trans x6;have f1:∀{f4:L2.St}{H7:Hp}{s7:IJ},L2.Inv Y ([(D,{ cls:=.type "list",data:=.seq f.toArray O })]++kN fp s2.heap) f4 H7 s7->(s7.heap.get? D=some { cls:=.type "list",data:=.seq f.toArray O }/\H7 D=none)/\(∀b∈fp,H7 b=none)/\(∀b∈fp,∀o,s2.heap.get? b=some o->s7.heap.get? b=some o):=λ{f4 H7 s7} I7=>by
     have p1:=I7.pin (D,{ cls:=.type "list",data:=.seq f.toArray O }) (Jr _ (KR _ (by simp)));refine⟨⟨p1.1,p1.2.1⟩,λb d=>?_,λb d o q=>?_⟩
     .obtain⟨o,q,_⟩:=T.obj _ _ g6 b d;exact(I7.pin (b,o) (Jr _ (Jr _ (Q3 d q)))).2.1
     .exact(I7.pin (b,o) (Jr _ (Jr _ (Q3 d q)))).1
    have f5:∀{ps:List (Addr×Obj)}{f4:L2.St}{H7:Hp}{s7:IJ},L2.Inv Y ps f4 H7 s7->L2.Inv Y [] f4 H7 s7:=λI7=>I7.pins_of λp hp=>absurd hp (by simp);cases ok with
    | false=>
      rw[if_neg (by simp)];rw[if_neg (by simp)]at c3;cases m with
      | zero=>rw[sS]at c3;cases c3
      | succ m=>
        obtain⟨⟨u1,u2⟩,u3,u4⟩:=f1 I6;exact⟨m,KD _,i+1,a7,H6,a2,B5,c2,b3,a6,G,f,f5 I6,T.keep _ _ _ g6 u4,u3,x1.trans k6,g7,c4.mono x6,c3,⟨O,u1⟩,u2,va,ra.mono k6,e6,kt _ _ _ _ e5 (kg _ _ _ _ _ e4 k2)⟩
    | true=>
      rw[if_pos rfl];rw[if_pos rfl]at c3;obtain⟨y,B7,e7,y6⟩:=B0 c3;obtain⟨q1,B8,e8,z2⟩:=B0 y6;cases z2;refine aB (he C s H fp _ s6 a7 H6 (λyv H7=>∃b1,au a2 H6 b1 H7/\aF X.K cm b1 B7 H7/\RV b1 H7 y yv) I6 ⟨a2,B5,c2,y,B7,g7,c4.mono x6,e7,λb1 H7 yv x7 k7 l0=>⟨b1,x7,k7,l0⟩⟩) λyu s7 zq=>?_;obtain⟨yv,H7,I7,ry,b1,x7,k7,l0⟩:=zq;obtain⟨⟨u1,u2⟩,u3,u4⟩:=f1 I7;have f0:f.length<=sizeLine:=by
       rw[<-va.length,<-ra.length];refine X0 (Jt ?_ hy);rw[<-e6,Jo];exact Pj _ _
      refine wpAny_list_append_plain (items:=f.toArray) ⟨O,u1⟩ (λh8 z3 q2=>?_) (by rw[Ja];exact f0);have I8:L2.Inv Y [] a7 H7 { s7 with heap:=h8 }:=(f5 I7).turned (t':=s7.toks) (λb o d q=>(q2.2 b d).trans q) u2 d2 (.inr (by show s.heap.objs.size<=D;rw[a9];exact IM _)) (λx c q=>IY (k1 x c (h1 x c q))) (λp hp=>absurd (show p∈([]:List (Addr×Obj))from hp) (by simp));cases m with
      | zero=>rw[sS]at e8;cases e8
      | succ m=>
        have q3:=k6.trans x7;refine⟨m,KD _,i+1,a7,H7,b1,B7,c2,q1,a6++[y],G++[yv],f++[yu],I8,T.keep _ _ _ g6 λb d o q=>(q2.2 b (e0 b d)).trans (u4 b d o q),u3,x1.trans q3,k7,(c4.mono x6).mono x7,e8,by simpa using z3,u2,va.append (.cons ry .nil),(ra.mono q3).append (.cons l0 .nil),by rw[<-e6];simp,ke _ _ _ _ e7 (kt _ _ _ _ e5 (kg _ _ _ _ _ e4 k2))⟩
 exact codeAny_compStart_list (h3 _ rfl) (T.self X.A 0 _ _ _ p3 (h3 _ rfl))
def P7(js:List (Option Nat))(hc:X.calm=true)(S:lN X a o)(Fr:aZ X a o N js)(hi:L2.PI X B iter (EvI X.K cm it))
 (hg:∀C p q f,L2.PG (eG X N a o C p q f) B (km X.K cm g)) (ht:∀C p q f,jv (eG X N a o C p q f) l (fc X.K cm t)) (he:∀C p q f,PE (eG X N a o C p q f) i (cB X.K cm e))
 (hs:∀x,foldedSetIterable iter X.env x=pure x:=by intro _;rfl):Pe X cm (.ListComp i [⟨B,iter,l,0⟩] a E) (M8 it (Ws.cu js) g t e):=by
 intro r s σ H Q I ⟨ρ,A,G,v,A',rl,rs,ev,k⟩;obtain⟨J,A1,e1,L⟩:=B0 ev;obtain⟨n,A2,e2,O⟩:=B0 L;obtain rfl:=pw e2;obtain⟨ys,A3,e3,U⟩:=B0 O;obtain⟨c,Y⟩:=B9 U;cases Y;refine Oz rfl hs S.clos S.kind S.names (Jv (hi r s σ H (λj u=>∃b,au ρ H b u/\aF X.K cm b A2 u/\ie X.K b u J j) I ⟨ρ,A,G,J,A2,rl,rs,e1,λb u j y d rj=>⟨b,y,d,rj⟩⟩) (λxv s1 h1=>Jv h1 (λd2 s2 h2=>?_) λ_ _ z=>z) λ_ _ z=>z);obtain⟨e4,f,tn,j,u,rfl,I1,T,st,hf,b,y,d,rj⟩:=h2;refine tZ (W:=λ_=>True) (λ_ h _=>h.trans hc) (λ_ _ _=>trivial) trivial (λ_ _ _ _ _ _ z=>z) (λ_ _ _ _ _ z=>z) (λ_ _ _ _ _ z=>z) S Fr hg ht he I1 (tY T) st hf rj d (rs.mono y) e3 c λD C s' m hn e8 w=>⟨m,hn,λa1 sb=>?_⟩;obtain⟨a2,H2,x2,a3,hD,I2,_⟩:=w a1 sb;exact⟨.ref D,H2,I2,rfl,k a2 H2 _ (y.trans x2) a3 (.ref hD)⟩
def ua(js:List (Option Nat))(hc:X.calm=true)(S:lN X a O)(Fr:aZ X a O N js)(hi:L2.PI X tg iter (EvI X.K cm it))
 (hg:∀C Q U G,L2.PG (eG X N a O C Q U G) tg (km X.K cm g)) (ht:∀C Q U G,jv (eG X N a O C Q U G) w (fc X.K cm t)) (he:∀C Q U G,PE (eG X N a O C Q U G) u (cB X.K cm e))
 (hN:X.N.Nodup) (a5:X.N[i]?=some y) (hy:L2.Loc X.env.scope y)
 (a6:swapsWith (.ListComp u [⟨tg,iter,w,0⟩] a L) (some (.Name y py)) f.line X.env=pure true:=by rfl)
 (a7:X.fn y=true\/X.env.scope.names.lookup y=some .local:=by first | exact .inl rfl | exact .inr rfl)
 (hs:∀x,foldedSetIterable iter X.env x=pure x:=by intro _;rfl):Ps X cm (.Assign [.Name y py] (.ListComp u [⟨tg,iter,w,0⟩] a L) f) (az (M8 it (Ws.cu js) g t e) (gName i)):=by
 intro l s σ H Dn I ⟨ρ,A,a9,fl,A',rl,rs,ev,k⟩;obtain⟨v,A0,e0,b1⟩:=B0 ev;obtain⟨g7,A9,e9,b2⟩:=B0 b1;cases e9;cases b2;obtain⟨J,A1,e1,b3⟩:=B0 e0;obtain⟨n,A2,e2,b5⟩:=B0 b3;obtain rfl:=pw e2;obtain⟨ys,A3,e3,c0⟩:=B0 b5;obtain⟨c,c1⟩:=B9 c0;cases c1;rw[exec_Assign_Name_used _ _ _ _ a6];refine IE (ND (IE ?_));refine IE (Jv (Oz rfl hs S.clos S.kind S.names (Jv (hi l s σ H (λj Y=>∃d,au ρ H d Y/\aF X.K cm d A2 Y/\ie X.K d Y J j) I ⟨ρ,A,a9,J,A2,rl,rs,e1,λd Y j x1 B rj=>⟨d,x1,B,rj⟩⟩) (λxv s1 h1=>Jv h1 (λh7 s2 h2=>?_) λ_ _ z=>z) λ_ _ z=>z)) (λ_ s' hq=>IG (IG hq)) λ_ _ z=>z);obtain⟨i1,G,tn,j,Y,rfl,I1,T,st,hf,d,x1,B,rj⟩:=h2;refine tZ (W:=λ_=>True) (λ_ h _=>h.trans hc) (λ_ _ _=>trivial) trivial (λ_ _ _ _ _ _ z=>z) (λ_ _ _ _ _ z=>z) (λ_ _ _ _ _ z=>z) S Fr hg ht he I1 (tY T) st hf rj B (rs.mono x1) e3 c λD C s' m hn k0 a1=>?_;obtain⟨c3,H2,x2,d1,hD,I2,r⟩:=a1 _ (.refl ..);obtain⟨oC,es,ep,d2,a2,rC⟩:=id hn;have I3:L2.Inv X (l++[(C,oC)]) σ H2 s':=L2.Inv.pins_of (I:=I2) λp E=>by
  rcases Jx.mp E with E | E
  .exact I2.pin p (Jr _ E)
  .have e:p=(C,oC):=by simpa using E
   subst e;exact⟨d2,r.1,r.2.1,r.2.2.1,λv z=>by rw[a2]at z;cases z⟩
 refine wpAny_assign_Name (S3 I3 hN a5 hy (show L2.RelV (.ref D) _ from rfl) (λs3 I4=>?_) a7);have pC:=I4.pin (C,oC) (by simp);refine⟨m,⟨oC,es,ep,pC.1,a2,rC⟩,λh4 sb=>?_⟩;have I5:=I4.pins_of λp E=>I4.pin p (Jr _ (KR _ E));have I6:=I5.turned (t':=s3.toks) (λb o hb q=>(sb.2 b hb).trans q) r.1 r.2.1 r.2.2.2.1 r.2.2.2.2.1 r.2.2.2.2.2;exact⟨σ.set i _,H2,I6,k c3 H2 (x1.trans x2) d1 _ (((rs.mono x1).mono x2).set i (.ref hD))⟩
end
def AF{a:Type}{P:a->Prop}:∀x∈([]:List a),P x:=by simp
def AG{b:Type}{P:b->Prop}{a:b}{l:List b}(h:P a)(r:∀x∈l,P x):∀x∈a::l,P x:=λx c=>(IT.mp c).elim (λe=>e ▸ h) (r x)
end Ws
namespace Ws
open PySem PySem.W PyProof.Rows L2
def eI{b:Type}(n:Nat)(lt:Nat->Nat->Bool):KasT b->(b->Prop)->Prop
 | .ret a,Q=>Q a
 | .ask i j k,Q=>i<n/\j<n/\eI n lt (k (lt i j)) Q
theorem X2{b c:Type}{f:b->KasT c}{Q:c->Prop}:∀{t:KasT b},eI n lt t (λa=>eI n lt (f a) Q)->eI n lt (t.bind f) Q
 | .ret _,h=>h
 | .ask _ _ k,⟨d,e,g⟩=>⟨d,e,X2 (t:=k _) g⟩
theorem ub{c:Type}{G:c->IJ->Prop}(e:∀i j C,i<n->j<n->C (lt i j) s->b i j C s):∀{t:KasT c}{Q:c->Prop},eI n lt t Q->(∀a,Q a->G a s)->t.kasWp b G s
 | .ret a,Q,h,d=>d a h
 | .ask i j k,Q,⟨f,g,l⟩,d=>e i j _ f g (ub e (t:=k _) l d)
section
variable{n:Nat}{α:Type}{key:Nat->α}{lt:Nat->Nat->Bool}
structure Ord(key:Nat->α)(lt:Nat->Nat->Bool):Prop where
 asym:∀a b,lt a b=true->lt b a=false
 tr:∀a b c,lt b a=false->lt c b=false->lt c a=false
 tot:∀a b,lt a b=false->lt b a=false->key a=key b
 cong:∀a b c d,key a=key b->key c=key d->lt a c=lt b d
structure Pm(n:Nat)(p:Array Nat):Prop where
 size:p.size=n
 perm:p.Perm (Nj (Ju n))
def Pm.bd(h:Pm n p)(b:0<n)(i:Nat):p.getD i 0<n:=by
 by_cases a:i<p.size
 .have e:p.getD i 0=p[i]:=by simp[Array.getD,a]
  rw[e];have c:p[i]∈p.toList:=by simp
  have:=(NZ.mp h.perm).mem_iff.mp c;simpa using this
 .have e:p.getD i 0=0:=by simp[Array.getD,a]
  rw[e];exact b
def u9{p q:Array Nat}(h:p[i]?=q[j]?):p.getD i 0=q.getD j 0:=by
 rw[NN,NN,h]
def Pm.rev(h:Pm n p)(i j:Nat):Pm n (Rf p i j):=⟨by unfold Rf;rw[mirror_size];exact h.size,(mirror_perm _ _ _ _).trans h.perm⟩
def pG(a:j<=p.size)(k:Nat):(Rf p i j).getD k 0=if i<=k/\k<j then p.getD (i+j - 1 - k) 0 else p.getD k 0:=by
 have e:=getElem?_mirror_all (i:=i) a k;by_cases h:i<=k/\k<j
 .rw[if_pos h]at e ⊢;exact u9 e
 .rw[if_neg h]at e ⊢;exact u9 e
def Pm.bub(h:Pm n p)(i d:Nat):Pm n (bubble p i d):=⟨by rw[bubble_size];exact h.size,(bubble_perm _ _ _).trans h.perm⟩
def uc(hs:a<p.size)(f:d<=a)(k:Nat):(bubble p a d).getD k 0=if k=a - d then p.getD a 0 else if a - d<k/\k<=a then p.getD (k - 1) 0 else p.getD k 0:=by
 have e:=getElem?_bubble hs d f k;by_cases b:k=a - d
 .rw[if_pos b]at e ⊢;exact u9 e
 .rw[if_neg b]at e ⊢;by_cases c:a - d<k/\k<=a
  .rw[if_pos c]at e ⊢;exact u9 e
  .rw[if_neg c]at e ⊢;exact u9 e
def fg(lt:Nat->Nat->Bool)(p:Array Nat)(m:Nat):Prop:=∀i j,i<=j->j<m->lt (p.getD j 0) (p.getD i 0)=false
def il(lt:Nat->Nat->Bool)(p:Array Nat)(m:Nat):Prop:=∀i j,i<=j->j<m->lt (p.getD i 0) (p.getD j 0)=false
variable(O:Ord key lt)(hn:0<n)
include O hn
theorem Ord.irr(a:Nat):lt a a=false:=by
 cases h:lt a a with
 | false=>rfl
 | true=>have:=O.asym a a h;rw[h]at this;exact this
theorem AH(h:fg lt p m)(a:m=0\/lt (p.getD m 0) (p.getD (m - 1) 0)=false):fg lt p (m+1):=λi j b d=>by
 by_cases e:j=m
 .subst e;by_cases c:i=j
  .subst c;exact O.irr hn _
  .rcases a with a | a
   .walk_at "o"
   .exact O.tr _ _ _ (h i _ (by walk_at "o") (by walk_at "o")) a
 .exact h i j b (by walk_at "o")
theorem c7(h:il lt p m)(a:m=0\/lt (p.getD (m - 1) 0) (p.getD m 0)=false):il lt p (m+1):=λi j b d=>by
 by_cases e:j=m
 .subst e;by_cases c:i=j
  .subst c;exact O.irr hn _
  .rcases a with a | a
   .walk_at "o"
   .exact O.tr _ _ _ a (h i _ (by walk_at "o") (by walk_at "o"))
 .exact h i j b (by walk_at "o")
theorem pH(i:Pm n p):∀f m,1<=m->fg lt p m->(∀e,m<=e->e<=m+f->fg lt p e->(e<m+f->lt (p.getD e 0) (p.getD (e - 1) 0)=true)->Q e)->eI n lt (kas_asc p f m) Q
 | 0,m,_,g,h=>h m (IM _) (IM _) g λz=>by walk_at "o"
 | f+1,m,l,g,h=>by
   refine⟨i.bd hn m,i.bd hn (m - 1),?_⟩;cases j:lt (p.getD m 0) (p.getD (m - 1) 0)with
   | true=>exact h m (IM _) (by walk_at "o") g λ_=>j
   | false=>
     simp only[Md,if_false];exact pH i f (m+1) (by walk_at "o") (AH O hn g (.inr j)) λe a b c d=>h e (by walk_at "o") (by walk_at "o") c λz=>d (by walk_at "o")
theorem pI(a:j<=p.size)(he:∀k,i<=k->k<j->key (p.getD k 0)=key (p.getD (j - 1) 0))(k:Nat):key ((Rf p i j).getD k 0)=key (p.getD k 0):=by
 rw[pG a];by_cases h:i<=k/\k<j
 .rw[if_pos h,he _ (by walk_at "o") (by walk_at "o"),he k h.1 h.2]
 .rw[if_neg h]
theorem pJ(h:∀k,key (p.getD k 0)=key (q.getD k 0))(b:il lt q m):il lt p m:=λi j a c=>by rw[O.cong _ _ _ _ (h i) (h j)];exact b i j a c
def pK(key:Nat->α)(p:Array Nat)(m q:Nat):Prop:=q+1<=m/\∀k,m - (q+1)<=k->k<m->key (p.getD k 0)=key (p.getD (m - 1) 0)
omit O hn in
theorem pL(h:1<=m):pK key p m 0:=⟨h,λk a b=>by rw[show k=m - 1 by walk_at "o"]⟩
theorem nc:∀f (p:Array Nat) m q,Pm n p->m+f<=n->il lt p m->pK key p m q->(∀o g r,Pm n o->m<=g->g<=m+f->il lt o g->pK key o g r->Q (o,g,r))->eI n lt (kas_desc f p m q) Q
 | 0,p,m,q,l,w,s,u,h=>h p m q l (IM _) (IM _) s u
 | f+1,p,m,q,l,w,s,u,h=>by
   refine⟨l.bd hn m,l.bd hn (m - 1),?_⟩;have A:=u.1;cases x:lt (p.getD m 0) (p.getD (m - 1) 0)with
   | true=>
     simp only[if_true];by_cases y:q > 0
     .rw[if_pos y];have z:=pI O hn (p:=p) (i:=m - (q+1)) (j:=m) (by rw[l.size];walk_at "o") u.2;refine nc f _ (m+1) 0 (l.rev _ _) (by walk_at "o") ?_ (pL (by walk_at "o")) λo g r a b c d e=>h o g r a (by walk_at "o") (by walk_at "o") d e;exact pJ O hn z (c7 O hn s (.inr (O.asym _ _ x)))
     .rw[if_neg y];exact nc f p (m+1) 0 l (by walk_at "o") (c7 O hn s (.inr (O.asym _ _ x))) (pL (by walk_at "o")) λo g r a b c d e=>h o g r a (by walk_at "o") (by walk_at "o") d e
   | false=>
     simp only[Md,if_false];refine⟨l.bd hn (m - 1),l.bd hn m,?_⟩;cases v:lt (p.getD (m - 1) 0) (p.getD m 0)with
     | true=>exact h p m q l (IM _) (by walk_at "o") s u
     | false=>
       simp only[Md,if_false];refine nc f p (m+1) (q+1) l (by walk_at "o") (c7 O hn s (.inr v)) ⟨by walk_at "o",λk B C=>?_⟩ λo g r a b c d e=>h o g r a (by walk_at "o") (by walk_at "o") d e;rw[Nat.add_sub_cancel];by_cases e:k=m
       .rw[e]
       .rw[u.2 k (by walk_at "o") (by walk_at "o")];exact O.tot _ _ v x
theorem ud{p:Array Nat}{m:Nat}(f:Pm n p)(l:1<=m)(e:m<=n)(o:il lt p m){Q:Nat×Array Nat->Prop}(h:∀d g,Pm n g->1<=d->d<=n->fg lt g d->Q (d,g)):eI n lt (kas_tail3 m n p) Q:=by
 refine X2 ?_;have q:fg lt (Rf p 0 m) m:=λi j r s=>by
  rw[pG (by rw[f.size];exact e),pG (by rw[f.size];exact e),if_pos ⟨by walk_at "o",s⟩,if_pos ⟨by walk_at "o",by walk_at "o"⟩];exact o _ _ (by walk_at "o") (by walk_at "o")
 exact pH O hn (f.rev 0 m) _ m l q λd a b c _=>h d _ (f.rev 0 m) (by walk_at "o") (by walk_at "o") c
theorem ue{p:Array Nat}{m:Nat}(j:Pm n p)(s:1<=m)(l:m<n)(o:il lt p (m+1)){Q:Nat×Array Nat->Prop}(h:∀f g,Pm n g->1<=f->f<=n->fg lt g f->Q (f,g)):eI n lt (kas_descPart m n p) Q:=by
 refine X2 (nc O hn _ p _ 0 j (by walk_at "o") o (pL (by simp)) λg f q a b c d e=>?_);by_cases i:q > 0
 .rw[if_pos i];have r:=pI O hn (by rw[a.size];walk_at "o") e.2;exact ud O hn (a.rev _ _) (by walk_at "o") (by walk_at "o") (pJ O hn r d) h
 .rw[if_neg i];exact ud O hn a (by walk_at "o") (by walk_at "o") d h
theorem AI(f:Pm n p)(A:2<=n)(h:∀q r,Pm n r->1<=q->q<=n->fg lt r q->Q (q,r)):eI n lt (kas_count n p) Q:=by
 refine X2 (pH O hn f _ 1 (IM _) (λi j l s=>by rw[show i=j by walk_at "o"];exact O.irr hn _) λm a b c d=>?_);by_cases u:(m == n)=true
 .rw[if_pos u];exact h m p f a (by walk_at "o") c
 .rw[if_neg u];have o:m<n:=by have:m≠n:=λz=>u (by simp[z]);walk_at "o"
  have e:=d (by walk_at "o");by_cases v:m > 1
  .rw[if_pos v];refine⟨f.bd hn 0,f.bd hn _,?_⟩;cases w:lt _ _ with
   | true=>exact h m p f a (by walk_at "o") c
   | false=>
     have g:∀k,0<=k->k<m->key _=key _:=λk _ x=>by
      refine O.tot _ _ ?_ (c k (m - 1) (by walk_at "o") (by walk_at "o"));exact O.tr _ _ _ w (c 0 k (by walk_at "o") x)
     have y:=pI O hn (by rw[f.size];walk_at "o") g;refine ue O hn (f.rev 0 m) a o (pJ O hn y (c7 O hn (λi j l s=>?_) (.inr (O.asym _ _ e)))) h;rw[O.cong _ _ _ _ (g i (by simp) (by walk_at "o")) (g j (by simp) s)];exact O.irr hn _
  .rw[if_neg v];have:m=1:=by walk_at "o"
   subst this;refine ue O hn f a o (c7 O hn (λi j l s=>by rw[show i=j by walk_at "o"];exact O.irr hn _) (.inr (O.asym _ _ e))) h
theorem pM(d:Pm n p)(g:fg lt p k):∀f l r,l<=r->r<=k->r - l<=f->(∀i,i<l->lt (p.getD k 0) (p.getD i 0)=false)->(∀i,r<=i->i<k->lt (p.getD k 0) (p.getD i 0)=true)->
 (∀j,j<=k->(∀i,i<j->lt (p.getD k 0) (p.getD i 0)=false)->(∀i,j<=i->i<k->lt (p.getD k 0) (p.getD i 0)=true)->Q j)->eI n lt (kas_place p k f l r) Q
 | 0,l,r,q,c,v,m,o,h=>h l (by walk_at "o") m λi a b=>o i (by walk_at "o") b
 | f+1,l,r,q,c,v,m,o,h=>by
   unfold kas_place;by_cases s:l>=r
   .rw[if_pos s];exact h l (by walk_at "o") m λi a b=>o i (by walk_at "o") b
   .rw[if_neg s];refine⟨d.bd hn k,d.bd hn _,?_⟩;cases u:lt (p.getD k 0) (p.getD ((l+r) / 2) 0)with
    | true=>
      simp only[if_true];refine pM d g f l ((l+r) / 2) (by walk_at "o") (by walk_at "o") (by walk_at "o") m (λi a b=>?_) h;cases e:lt (p.getD k 0) (p.getD i 0)with
      | true=>rfl
      | false=>
        have:=O.tr _ _ _ (g ((l+r) / 2) i a b) e;rw[u]at this;exact this.symm
    | false=>
      simp only[Md,if_false];refine pM d g f ((l+r) / 2+1) r (by walk_at "o") c (by walk_at "o") (λi a=>?_) o h;exact O.tr _ _ _ (g i ((l+r) / 2) (by walk_at "o") (by walk_at "o")) u
theorem uf:∀f (p:Array Nat) k,Pm n p->k+f=n->fg lt p k->(∀r,Pm n r->fg lt r n->Q r)->eI n lt (kas_bin f p k) Q
 | 0,p,k,e,v,d,h=>h p e (by rw[<-v];exact d)
 | f+1,p,k,e,v,d,h=>by
   refine X2 (pM O hn e d k 0 k (by walk_at "o") (by walk_at "o") (by walk_at "o") (λi a=>by walk_at "o") (λi a b=>by walk_at "o") λl z w x=>?_);refine uf f _ (k+1) (e.bub _ _) (by walk_at "o") (λi j s A=>?_) h;have g:k<p.size:=by rw[e.size];walk_at "o"
   have u:k - (k - l)=l:=by walk_at "o"
   rw[uc g (by walk_at "o"),uc g (by walk_at "o"),u];by_cases m:j=l
   .rw[if_pos m];by_cases c:i=l
    .rw[if_pos c];exact O.irr hn _
    .rw[if_neg c,if_neg (by walk_at "o")];exact w i (by walk_at "o")
   .rw[if_neg m];by_cases o:l<j/\j<=k
    .rw[if_pos o];by_cases c:i=l
     .rw[if_pos c];exact O.asym _ _ (x (j - 1) (by walk_at "o") (by walk_at "o"))
     .rw[if_neg c];by_cases q:l<i/\i<=k
      .rw[if_pos q];exact d (i - 1) (j - 1) (by walk_at "o") (by walk_at "o")
      .rw[if_neg q];exact d i (j - 1) (by walk_at "o") (by walk_at "o")
    .rw[if_neg o];have y:j<l:=by walk_at "o"
     rw[if_neg (by walk_at "o"),if_neg (by walk_at "o")];exact d i j s (by walk_at "o")
theorem AJ(g:2<=n)(h:∀e,Pm n e->fg lt e n->Q e):eI n lt (kas_sort n) Q:=by
 refine X2 (AI O hn ⟨by simp,.refl _⟩ g λm p a b c d=>?_);by_cases f:m<n
 .rw[if_pos f,Nat.max_eq_left b];exact uf O hn _ p m a (by walk_at "o") d h
 .rw[if_neg f];have:m=n:=by walk_at "o"
  subst this;exact h p a d
end
noncomputable def gi(fin:Bool):List Int->List Int->Bool
 | x::a,y::b=>if x=y then gi fin a b else decide (x<y)
 | _,_=>fin
theorem ug:∀a b:List Int,gi (decide (a.length<b.length)) a b=D0 a b
 | [],[]=>rfl
 | [],_::_=>by simp[gi,D0]
 | _::_,[]=>by simp[gi,D0]
 | x::a,y::b=>by
   simp only[gi,D0,Js,Nat.add_lt_add_iff_right];rw[ug a b]
section
variable{prog:Jg}{w:JJ}{A:JI}{E:II->IJ->Prop}{s:IJ}
def AK{fin:Bool}(i:Nat)(g:Nq vs ns)(f:Nq b d)(h:Q (gi fin ns d) s):KatLex prog w A true fin Q (vs.zip b) i s:=by
 induction g generalizing b d i with
 | nil=>simpa[gi]using kat_nil h
 | cons a t g ih=>
   cases f with
   | nil=>simpa[gi]using kat_nil h
   | cons c u f=>
     rw[List.zip_cons_cons];refine kat_cons (wpAny_eqBool_int ?_);by_cases e:a=c
     .subst e;simp only[gi,if_true]at h;rw[beq_self_eq_true];exact kat_yes (ih (i+1) f h)
     .rw[beq_eq_false_iff_ne.mpr e];simp only[gi,e,if_false]at h;refine kat_no ?_;cases j:(true&&i == 0)with
      | true=>exact oneLt_int h
      | false=>exact kat_one _ _ (lt_int h)
def ip(h:Heap)(v:II)(t:List Int):Prop:=∃a o b n,v=.ref a/\h.get? a=some o/\o.cls=.type "tuple"/\o.data=.seq b n/\Nq b.toList t/\t≠[]
theorem pN:∀{vs:List II}{b:List (List Int)}{i:Nat},Paired (ip h) vs b->i<vs.length->ip h (vs.getD i .none) (b.getD i [])
 | _,_,_,.nil,a=>by simp at a
 | _,_,0,.cons r _,_=>r
 | _,_,i+1,.cons _ t,a=>by
   have:=pN (i:=i) t (by simpa using a);simpa using this
def AL(l:Paired (ip h) vs j):∃fs,KatTups h vs fs/\fs.length=vs.length/\∀f∈fs,∃i t,f=Pu i t:=by
 induction l with
 | nil=>exact⟨[],KatTups.nil,rfl,λ_ z=>nomatch z⟩
 | cons r _ ih=>
   obtain⟨a,o,c,n,rfl,m,p,q,b,d⟩:=r;obtain⟨fs,k,u,x⟩:=ih;cases e:c.toList with
   | nil=>rw[e]at b;cases b;exact absurd rfl d
   | cons v r=>
     rw[e]at b;cases b with
     | cons i y B=>
       refine⟨.int i y::fs,KatTups.cons m p q (by rw[<-LB,e];rfl) k,by simp[u],λf g=>?_⟩;rcases IT.mp g with rfl | g
       .exact⟨_,_,rfl⟩
       .exact x f g
def AM(b:List (List Int)):Ord (λi=>b.getD i []) (λi j=>D0 (b.getD i []) (b.getD j [])):=
 ⟨λ_ _ h=>oV _ _ h,λ_ _ _ h a=>oW _ _ _ h a,λ_ _ h a=>s8 _ _ h a,λ_ _ _ _ h a=>congr (congrArg D0 h) a⟩
def U0(a:List (List Int))(n:Nat)(p:List Nat):Prop:=p.Perm (Ju n)/\(p.map λi=>a.getD i []).Pairwise (λx y=>D0 y x=false)
def c8(D:s.heap.get? a=some (seqObj "list" vs.toArray n))(ht:Paired (ip s.heap) vs u)(U:vs.length<64)
 (h:∀p,U0 u vs.length p->P (.done (.ret .none)) { s with heap:=sortedHeap s.heap a vs (Nj (p.map λi=>vs.getD i Ks)) }) :
 wpAny (model prog w) A (KI.«list.sort» ⟨[.ref a],[]⟩) P E s:=by
 rw[list_sort_plain];have ha:=IQ D;refine IE (listItems_at D rfl ?_);refine IE (QD D rfl ?_);obtain⟨Y,G⟩:∃Y,(s.heap.update a _).get? a=some (seqObj "list" #[] Y):=⟨_,get?_update_seq D (λ_=>#[])⟩;refine IE (QU G rfl ?_);refine IE (wpAny_newTuple ?_);refine IE (QE ?_);refine JE ?_;have l:(((s.heap.update a (NI λ_=>#[])).push (seqObj "tuple" vs.toArray 0)).push (seqObj "list" #[] 0)).get? a=some (seqObj "list" #[] Y):=by
  rw[MW _ _ _ (by rw[size_push',Mt];exact IY (Lp ha)),MW _ _ _ (by rw[Mt];exact IY ha)];exact G
 dsimp only;have a0:vs.toArray.size=vs.length:=by simp
 have a5:∀v t,ip s.heap v t->ip (((s.heap.update a (NI λ_=>#[])).push (seqObj "tuple" vs.toArray 0)).push (seqObj "list" #[] 0)) v t:=λv t hq=>by
  obtain⟨b,o,y,k,e,q,c,d,r⟩:=hq;have hb:b≠a:=by
   rintro rfl;rw[D]at q;cases q;exact absurd (II.type.inj (show II.type "list" = II.type "tuple" from c)) (by decide)
  exact⟨b,o,y,k,e,IF _ (IF _ (by rw[Qr _ _ _ _ hb];exact q)),c,d,r⟩
 have z:=L2.Paired.mapP ht a5;by_cases B:vs.toArray.size<2
 .rw[if_pos B,if_pos B];refine IE (IG ?_);refine IE (IG ?_);dsimp only;refine IE (QU l rfl ?_);refine IE (QD l rfl ?_ (hsz2:=by rw[Array.size_map];show(pairsOf vs).size<=_;rw[pairsOf_size,OL];walk_at "o"));simp only[bne_self_eq_false];have x:U0 u vs.length (Ju vs.length):=by
   refine⟨.refl _,?_⟩;rw[a0]at B;match hl:vs.length,B with
   | 0,_=>simp
   | 1,_=>simp
  have g:(arrOf (SortSt.mk' general' (vs.toArray.zip vs.toArray) #[] 7 none)).map (·.2)=Nj ((Ju vs.length).map λi=>vs.getD i Ks):=by
   apply Array.toList_inj.mp;show((vs.toArray.zip _).map _).toList=_;apply List.ext_getElem
   .simp
   .intro i h1 B;have H:i<vs.length:=by simpa using h1
    simp[H]
  have:=h _ x;rw[<-g]at this;exact IG this
 .rw[if_neg B,if_neg B];have I:2<=vs.length:=by walk_at "o"
  obtain⟨fs,hk,c4,a6⟩:=AL z;refine IE (kat_kind hk (by walk_at "o") (λv hv=>by
   obtain⟨i,t,rfl⟩:=a6 v hv;exact Looks.of_pure rfl) rfl ?_)
  have ev:(kas_sort vs.length).kasWp (kas_ask prog w A (tuples' (II.type "int" != II.type "tuple")) vs) (λp J=>U0 u vs.length p.toList/\J={ s with heap:=((s.heap.update a (NI λ_=>#[])).push (seqObj "tuple" vs.toArray 0)).push (seqObj "list" #[] 0) }) { s with heap:=((s.heap.update a (NI λ_=>#[])).push (seqObj "tuple" vs.toArray 0)).push (seqObj "list" #[] 0) }:=by
   refine ub (λi j C H T hC=>?_) (AJ (AM u) (by walk_at "o") I λp x L=>?_) λp x=>⟨x,rfl⟩
   .obtain⟨b,o,y,k,e,q,c,d,r,_⟩:=pN z H;obtain⟨b',o',N,k',e',q',c',d',r',_⟩:=pN z T;unfold kas_ask;rw[e,e'];refine kat_lt q d q' d' (AK 0 r r' ?_);have z1:y.size=(u.getD i []).length:=by rw[<-r.length];simp
    have z2:N.size=(u.getD j []).length:=by rw[<-r'.length];simp
    rw[z1,z2,ug];exact hC
   .refine⟨by simpa using NZ.mp x.perm,?_⟩;rw[OA,Lf];intro i j H T e7;have:=L i j (by walk_at "o") (by rw[<-x.size];simpa using T);have a7:i<p.size:=by simpa using H
    have a8:j<p.size:=by simpa using T
    simpa[a7,a8]using this
  refine IE (Jv (kat_run (Q:=λm J=>∃p:Array Nat,_=_/\arrOf m=p.map _/\failedOf m=none/\U0 u _ _/\J={ s with heap:=((s.heap.update a _).push _).push _ })
   rfl I U (λp' m J a1 a2 a3 a4=>⟨p',a1,a2,a3,a4.1,a4.2⟩) ev) ?_ λ_ _ e=>e)
  rintro⟨⟨⟩,m⟩ J ⟨p,x,a9,hf,O,rfl⟩;have g:=kat_snds rfl a9;have b3:(Nj (p.toList.map λi=>vs.getD i Ks)).size=vs.length:=by rw[Ja,IK,L0,x]
  refine IE (QU l rfl ?_);rw[g];refine IE (QD l rfl ?_ (hsz2:=by rw[OL];walk_at "o"));rw[hf];simp only[bne_self_eq_false];exact IG (h _ O)
def AN(n:s.heap.IsList l vs.toArray)(u:Paired (ip s.heap) vs j)(f:vs.length<64)
 (h:∀p,U0 j vs.length p->Q (.ref (s.heap.objs.size+1)) { s with heap:=sortedAll s.heap vs (Nj (p.map λi=>vs.getD i Ks)) }) :
 wpAny (model prog w) A (call (.builtin "sorted") [.ref l]) Q E s:=by
 refine Ol kind_sorted plain_sorted entry_sorted (args_sorted1 _) ?_;refine IE (IG ?_);refine IE (collect_list n ?_);refine IE (QE ?_);have a:((s.heap.push (seqObj "list" #[] 0)).update s.heap.objs.size (NI (·++vs.toArray))).objs.size=s.heap.objs.size+1:=by
  rw[Mt,size_push']
 have d:(((s.heap.push (seqObj "list" #[] 0)).update s.heap.objs.size (NI (·++vs.toArray))).push (seqObj "list" vs.toArray 0)).get? (s.heap.objs.size+1)=some (seqObj "list" vs.toArray 0):=by
  rw[<-a];exact IP _ rfl
 rw[a];have keep:∀b o,s.heap.get? b=some o->(((s.heap.push _).update _ _).push (seqObj "list" vs.toArray 0)).get? b=some o:=λb o q=>by
  have c:=IQ q;rw[MW _ _ _ (by rw[a];exact IY (Lp c)),Qr _ _ _ _ (IY c),MW _ _ _ (IY c)];exact q
 refine IE (JE (JA slot_list_sort ⟨_,d,rfl⟩ entry_list_sort (c8 d (L2.Paired.mapP u λv t ⟨b,o,g,k,e,q,r⟩=>⟨b,o,g,k,e,keep b o q,r⟩) f λp x=>⟨_,rfl,?_⟩) (args_list_sort _)));exact IG ⟨_,rfl,h p x⟩
end
section
variable{X:Cx}{cm:Nat->Addr}
def AO(K:IH):List V->Hp->VK->Prop:=λb H Q=>∃a ns,b=[.ref a]/\bu K H a (ns.map V.int)/\ns.length<64/\∀l,H l=none->Q (.ref l) (ax H l (.lst ((D7 hV ns).map V.int)))
def call_sortI:aT X (.builtin "sorted") (AO X.K):=by
 intro i s B H C D Q I r h;obtain⟨a,ns,rfl,m,n,q⟩:=h;obtain⟨u,rfl,p⟩:=Z4 r;cases p;obtain⟨d,v,w,E⟩:=I.list m;have j:=Q4 v;have G:=j.length;refine sorted_ints w.isList j (by walk_at "o") λf x y z A=>?_;have e:=sZ (z.trans (H9 _ _).symm) A (zV ns);subst e;obtain⟨c,g⟩:=sortedAll_at _ d f;have l:(D7 hV ns).length=_:=(H9 _ _).length_eq;refine⟨.ref _,_,I.laid (λb o e=>sortedAll_old e) (Mx _) ?_,rfl,q _ (I.hok.fresh (Mx _))⟩;refine⟨by rw[IK,OL];walk_at "o",_,c,oI y,?_⟩;exact g
def eJ(H:Hp)(x:V)(t:List Int):Prop:=∃b,x=.ref b/\H b=some (.tup (t.map V.int))/\t≠[]
def AQ(K:IH):List V->Hp->VK->Prop:=λd H Q=>∃a b c,d=[.ref a]/\bu K H a b/\Paired (eJ H) b c/\b.length<64/\∀l p,U0 c b.length p->H l=none->Q (.ref l) (ax H l (.lst (p.map λi=>b.getD i .non)))
def uh(I:L2.Inv X a σ H s)(j:ay g c)(i:Paired (eJ H) g e):Paired (ip s.heap) c e:=by
 induction j generalizing e with
 | nil=>cases i;exact .nil
 | cons r _ ih=>
   cases i with
   | cons h k=>
     refine .cons ?_ (ih k);obtain⟨b,rfl,l,f⟩:=h;cases r;obtain⟨_,d,m,o,p,q,n,u⟩:=I.hok b _ l;exact⟨b,o,d.toArray,n,rfl,p,q,u,by simpa using Q4 m,f⟩
theorem pO(r:ay b a):∀p:List Nat,(∀i∈p,i<b.length)->ay (p.map λi=>b.getD i .non) (p.map λi=>a.getD i .none)
 | [],_=>.nil
 | i::p,h=>by
   have c:=h i IV;obtain⟨u,d,e⟩:=r.get (i:=i) (x:=b[i]) (by simp[c]);refine .cons ?_ (pO r p λj f=>h j (IZ _ f));have g:b.getD i .non=b[i]:=by simp[c]
   have l:a.getD i .none=u:=by rw[JO,d];rfl
   show L2.RelV (b.getD i .non) (a.getD i .none);rw[g,l];exact e
def AR:aT X (.builtin "sorted") (AQ X.K):=by
 intro l s E H G J Q I r h;obtain⟨a,m,n,rfl,v,w,x,q⟩:=h;obtain⟨u,rfl,y⟩:=Z4 r;cases y;obtain⟨f,g,z,L⟩:=I.list v;have A:=g.length;refine AN z.isList (uh I g w) (by walk_at "o") λp B=>?_;have d:U0 n m.length p:=by rw[A];exact B
 obtain⟨c,j⟩:=sortedAll_at _ f _;have C:p.length=m.length:=by rw[d.1.length_eq];simp
 refine⟨.ref _,_,I.laid (λb o e=>sortedAll_old e) (Mx _) ?_,rfl,q _ p d (I.hok.fresh (Mx _))⟩;refine⟨by rw[IK];walk_at "o",p.map λi=>f.getD i _,c,pO g p λi D=>?_,j⟩;have:=d.1.mem_iff.mp D;simpa using this
theorem P0:∀{l:List PV}{ns:List Int},K3 l=some ns->l=ns.map .int
 | [],ns,h=>by simp[K3]at h;subst h;rfl
 | x::r,ns,h=>by
   cases x with
   | int i=>
     simp only[K3,Jz]at h;obtain⟨m,a,rfl⟩:=h;rw[P0 a];rfl
   | _=>simp[K3]at h
theorem ui:∀{l:List PV}{c:List (List Int)},U3 l=some c->l=c.map (λt=>PV.tup (t.map .int))/\∀t∈c,t≠[]
 | [],c,h=>by simp[U3]at h;subst h;simp
 | x::r,c,h=>by
   cases x with
   | tup m=>
     cases m with
     | nil=>simp[U3]at h
     | cons y i=>
       unfold U3 at h;rcases d:K3 (y::i)with _ | z
       .rw[d]at h;cases h
       .rcases e:U3 r with _ | j
        .rw[d,e]at h;cases h
        .rw[d,e]at h;cases h;obtain⟨a,b⟩:=ui e;have g:=P0 d;refine⟨by rw[a,g];rfl,λt f=>?_⟩;rcases IT.mp f with rfl | f
         .rintro rfl;simp at g
         .exact b t f
   | _=>simp[U3]at h
theorem RVs.ints_inv:∀{ns:List Int}{a:List V},RVs b H (ns.map .int) a->a=ns.map V.int
 | [],_,h=>by cases h;rfl
 | i::ns,_,h=>by cases h with | cons h r=>cases h;rw[RVs.ints_inv r];rfl
theorem uj:∀{b:List (List Int)}{c:List V},RVs e H (b.map λt=>PV.tup (t.map .int)) c->(∀t∈b,t≠[])->Paired (eJ H) c b
 | [],_,h,_=>by cases h;exact .nil
 | t::b,_,h,a=>by
   cases h with
   | cons h r=>
     cases h with
     | tup d f=>
       rw[RVs.ints_inv f]at d;exact .cons ⟨_,rfl,d,a t IV⟩ (uj r λu g=>a u (IZ _ g))
theorem pP(r:RVs b H l a):∀p:List Nat,(∀i∈p,i<l.length)->RVs b H (p.map λi=>l.getD i .non) (p.map λi=>a.getD i .non)
 | [],_=>.nil
 | i::p,h=>by
   have c:=h i IV;obtain⟨u,d,e⟩:=r.get (i:=i) (x:=l[i]) (by simp[c]);refine .cons ?_ (pP r p λj f=>h j (IZ _ f));have g:l.getD i .non=l[i]:=by simp[c]
   have m:a.getD i .non=u:=by rw[JO,d];rfl
   show RV b H (l.getD i .non) (a.getD i .non);rw[g,m];exact e
def uk{b:Type}(a:List b)(d:b){p:List Nat}(c:p.Perm (Ju a.length)):(p.map λi=>a.getD i d).Perm a:=by
 refine(c.map _).trans ?_;have:(Ju a.length).map (λi=>a.getD i d)=a:=by
  apply List.ext_getElem
  .simp
  .intro i f e;simp[e]
 rw[this]
def AS(hr:X.A.units+64<cLine)(he:Pe X cm e d)(O:Gl X "sorted")(T:X.mg "sorted" = none)(hs:starEach [e] X.env=(false,eval e X.env)::starEach [] X.env:=by exact D9 rfl):Pe X cm (.Call (.Name "sorted" p) [e] [] y) (T8 d):=
 C9 (U2 (call_sortI.or AR) O T OB (aN he br hs) (he:=hs)) λσ H Q h=>Y4 (λ_=>rfl) (λJ A H x z A' v Q g U L k=>by
  cases x with
  | ref n=>
    obtain⟨l,A1,Y,B⟩:=B0 L;obtain⟨rfl,a,C,rfl,N,r⟩:=M3 g U Y;obtain⟨m,A2,e2,j⟩:=B0 B;obtain⟨o,c⟩:=B9 e2;rcases b:K3 l with _ | ns
    .rcases E:U3 l with _ | f
     .rw[b,E]at c;cases c
     .rw[b,E]at c;cases c;cases j;obtain⟨rfl,G⟩:=ui E;have I:C.length=f.length:=by rw[<-r.length];simp
      refine .inr ⟨a,C,f,rfl,N,uj r G,by rw[<-r.length];exact o,λD p u q=>?_⟩;rw[I]at u;have es:=i4 s8 ((uk f [] u.1).trans (H9 _ _).symm) u.2 (tf f);have s:∀i∈p,i<_:=λi b=>by simpa using u.1.mem_iff.mp b
      have ep:(D7 D0 f).map (λt=>PV.tup (t.map .int))=p.map λi=>(f.map λt=>PV.tup (t.map .int)).getD i .non:=by
       rw[<-es,Ji];refine L3 λi b=>?_;have:=s i b;simp[this]
      have w:au J H _ (ax H D (.lst (p.map λi=>C.getD i .non))):=au.new q;refine k _ _ _ w (g.alloc q ⟨_,C1,?_⟩ rfl) (.ref (by rw[<-g.len];simp));rw[ep];exact(pP r p λi b=>by rw[IK];exact s i b).mono w
    .rw[b]at c;cases c;cases j;have I:=P0 b;subst I;have hx:=RVs.ints_inv r;subst hx;refine .inl ⟨a,ns,rfl,N,by simpa using o,λD q=>?_⟩;have w:au J H _ (ax H D (.lst ((D7 hV ns).map V.int))):=au.new q;exact k _ _ _ w (g.alloc q ⟨_,C1,RVs.ints _⟩ rfl) (.ref (by rw[<-g.len];simp))
  | _=>cases L) h
end
end Ws
namespace Ws
open PySem L2
def AU(K:IH):mY K:=⟨λa b c d=>by
 simp only[IT,JT,or_false]at c d;rcases c with rfl | rfl | rfl | rfl | rfl | rfl<;>rcases d with rfl | rfl | rfl | rfl<;>with_unfolding_all rfl⟩
def n0(s:SD):Prop:=∀a A v b,s a A≠.ok (.rt v) b
def J5(d:n0 a)(e:n0 b):n0 (ao a b):=λi A v j h=>by
 obtain⟨o,l,f,c⟩:=B0 h;cases o with
 | nx g=>exact e _ _ _ _ c
 | rt u=>exact d _ _ _ _ f
 | _=>cases c
def ng(e:n0 a)(f:n0 b):n0 (aP t a b):=λg A v i h=>by
 obtain⟨c,j,l,d⟩:=B0 h;cases c with
 | true=>exact e _ _ _ _ d
 | false=>exact f _ _ _ _ d
def v7:n0 sPass:=λa A v b h=>by cases h
def i6:n0 sNever:=λa A v b h=>by cases h
def um:n0 (az e g):=λc A v d h=>by
 obtain⟨x,f,i,a⟩:=B0 h;obtain⟨y,j,l,b⟩:=B0 a;cases b
def M9:n0 (sFld a f e):=λi A v j h=>by
 obtain⟨x,l,m,c⟩:=B0 h;obtain⟨y,p,q,b⟩:=B0 c;cases y with
 | ref n=>
   obtain⟨o,r,s,d⟩:=B0 b;obtain⟨_,g⟩:=B9 d;cases g
 | _=>cases b
def pQ(hs:n0 s)(h:fn n p s vs A=.ok v A'):v=.non:=by
 obtain⟨_,b⟩:=B9 h;obtain⟨o,e,c,a⟩:=B0 b;cases o with
 | nx d=>cases a;rfl
 | rt u=>exact absurd c (hs _ _ _ _)
 | _=>cases a
def pR(K:IH):Sp:=λb H Q _=>∃(a:Addr)(ns:List Int),b=[.ref a]/\bu K H a (ns.map V.int)/\ns.length<=63/\oJ H/\∀c,Q (.bl true) c
def AV(K:IH)(c:Nat->Addr):Sp:=λd H Q _=>∃(a:Addr)(ns:List Int),d=[.ref a]/\bu K H a (ns.map V.int)/\ns.length<=63/\(∀b e,H b≠some (.lst e))/\fx c H/\∀f,Q (.bl true) f
def AW(h:∀ns:List Int,∃g,f [.ref 0] [.ro (ns.map .int)]=.ok (.bl true) g)(vs:List V)(H:Hp)(Q:VK)(E:L2.XK)(q:AV K j vs H Q E):aQ K j f 1 vs H Q E:=by
 obtain⟨a,ns,rfl,c,_,l,r,k⟩:=q;obtain⟨g,e⟩:=h ns;have s:Fz K H a (ns.map V.int):=by
  rcases c with(c | c) | c
  .exact absurd c (l _ _)
  .exact .inl c
  .exact .inr c
 refine⟨[a],[.ro (ns.map .int)],[.ref 0],.bl true,g,⟨r,rfl,λn o b d i=>?_,λm n b o p d i u v z A=>?_⟩,.cons (.ref rfl) .nil,rfl,e,λw x B _ _ y=>by cases y;exact k x⟩
 .cases n with
  | zero=>simp at d i;subst d;subst i;exact⟨_,s,RVs.ints ns⟩
  | succ n=>simp at d
 .cases m with
  | zero=>cases n with
    | zero=>rfl
    | succ n=>simp at v
  | succ m=>simp at u
def AX(h:∀ns:List Int,∃e,f [.ref 0] [.ro (ns.map .int)]=.ok (.bl true) e)(vs:List V)(H:Hp)(Q:VK)(E:L2.XK)(q:pR K vs H Q E)(c:d 30=0:=by rfl):aQ K d f 1 vs H Q E:=by
 obtain⟨a,ns,rfl,g,i,l,k⟩:=q;refine AW h _ _ _ E ⟨a,ns,rfl,g,i,λb n z=>?_,λj m=>absurd m (by rw[c];exact Nat.not_lt_zero _),k⟩;rcases l b with y | ⟨o,p,y⟩<;>(rw[z]at y;cases y)
end Ws
namespace Ws
open PySem PySem.W
def AY:∀(n:Nat)(S:Mm)(t:QQ)(R:Mm),
 pS (stepOk m e) (stepT (denote f) p w) n S t=some R->topRun f p w m e n S.abs t=some R.abs:=by
 intro n;induction n with
 | zero=>intro S t R h;cases h
 | succ n ih=>
   intro S t R h;unfold topRun;have d:@Bool.rec (λ_=>Option Mm) _ _ _=some R:=h;cases a:through t with
   | true=>rw[a]at d;cases d;rfl
   | false=>
     rw[a]at d;cases b:stepOk m e t with
     | false=>rw[b]at d;cases d
     | true=>
       rw[b]at d;cases c:stepT _ p w S t with
       | none=>rw[c]at d;cases d
       | some r=>
         rw[c]at d;obtain⟨g,i⟩:=r;rw[stepT_spec c];exact ih g i R d
def AZ(w:JJ)(os:QV):(pT w os).abs=⟨MJ w.params,#[],QN,QW,os⟩:=by kernel_rfl
def A8(P:Params):((MJ P).isNs mainGlobals,(MJ P).objs.size,(MJ P).nsMap mainGlobals "__annotations__")=(true,11,some (.ref 6)):=by kernel_rfl
noncomputable def iq(h:Heap):Frag:=(Ju h.objs.size).filterMap λa=>(h.get? a).map λo=>(a,o)
theorem pU{h:Heap}:∀(l:List Nat){a:Addr}{o:Obj},(l.filterMap λa=>(h.get? a).map λo=>(a,o)).lookup a=some o->h.get? a=some o
 | [],_,_,e=>by cases e
 | b::l,a,o,e=>by
   rw[Kl]at e;cases q:h.get? b with
   | none=>rw[q]at e;exact pU l e
   | some x=>
     rw[q]at e;change ((b,x)::_).lookup a=some o at e;rw[Nr]at e;by_cases z:(a == b)=true
     .rw[z]at e;cases e;rw[beq_iff_eq.mp z];exact q
     .have c:(a == b)=false:=by simpa using z
      rw[c]at e;exact pU l e
def Ba(h:Heap):(iq h).In h:=λa o e=>pU _ e
def Bb(S:Mm):iq S.abs.heap=lO S:=by
 have g:S.abs.heap.objs.size=S.n:=absHeap_size ..;unfold iq lO;rw[g];have e:∀l:List Nat,(∀a∈l,a<S.n)->(l.filterMap λa=>(S.abs.heap.get? a).map λo=>(a,o))=l.filterMap λa=>(alive ((S.tree.get a).getD default)).map λo=>(a,o):=by
  intro l;induction l with
  | nil=>intro _;rfl
  | cons a l ih=>
    intro h;have f:S.abs.heap.get? a=alive ((S.tree.get a).getD default):=by
     show(absHeap _ S.n _).get? a=_;unfold Heap.get?;rw[absHeap_at,if_pos (h a (.head _))];cases(S.tree.get a).getD default with
     | mk c d i m=>cases i<;>rfl
    rw[Kl,Kl,f,ih λb j=>h b (.tail _ j)]
 exact e _ λa f=>Kr.mp f
noncomputable def Kw(p:Jg)(N:Nat)(w:JJ):Frag:=match openEnds treeTable p w N with
 | some s=>iq s.heap
 | none=>[]
def Bc{q:Jg->Jg}{Xt:Jg->IJ->Bool}{v:Type}{ob:Frag->v}{va:Jg->v}
    
 
 (C:p=f) (i:stepOk=ok) (j:stepT=st) (l:denote=x) (m:treeTable=y) (n:openSeen=z)
 (D:∀w:JJ,(fencedOpening treeTable p w N).map (λs=>(s.heap,s.gens,s.drawn,s.toks))=some (MJ w.params,#[],QN,QW))
 (E:∀(w:JJ)(os:QV),(pS (ok 11 (some (.ref 6))) (st (x y) f w) N (pT w os) (topStub f)).map (λS=>(lk z f (q f) a (Xt f) w S.abs,ob (lO S)))=some ((true,openGood (q f) a),va f)) :
 LeftO p (q p) a (Xt p) (λs=>iq s.heap) (Kw p N) N/\∀w,ob (Kw p N w)=va p:=by
 subst C i j l m n;have g:∀w,∃s,openEnds treeTable p w N=some s/\openSeen (q p) a (importedModules p.main.body) (Xt p) true s=openGood (q p) a/\ob (iq s.heap)=va p:=by
  intro w;obtain⟨⟨h,L,d,k,os⟩,e,A⟩:=Jz.mp (D w);simp only[QG]at A;obtain⟨rfl,rfl,rfl,rfl⟩:=A;obtain⟨S,r,c⟩:=Jz.mp (E w os);simp only[lk,QG]at c;obtain⟨⟨G,o⟩,u⟩:=c;have B:=AY N _ _ _ r;rw[AZ]at B;have b:=A8 w.params;simp only[QG]at b;obtain⟨H,I,J⟩:=b;refine⟨S.abs,?_,o,by rw[Bb];exact u⟩;unfold openEnds;rw[e];show topFrom treeTable p w N _=_;unfold topFrom;rw[H,I,J,B];show(match staticsOk _ _ _&&namesBound p _&&gensDone _&&laidKept _ _ with | true=>some _ | false=>none)=_;rw[G]
 refine⟨λw=>?_,λw=>?_⟩
 .obtain⟨s,e,o,_⟩:=g w;rw[e];unfold Kw;rw[e];exact congrArg some (Prod.ext o rfl)
 .obtain⟨s,e,_,u⟩:=g w;unfold Kw;rw[e];exact u
noncomputable def Bd:Stmt->Pos
 | .FunctionDef _ _ _ _ _ _ _ _ _ p=>p
 | _=>⟨0,0,0,0⟩
def Be{l:OpenLaw}
 (left:LeftO l.row.prog q loose (λs=>xlAt q [] s&&recOk (RowW.records l.row.toRowW) s) (λs=>iq s.heap) (Kw l.row.prog N) N)
 (hdef:defOf q l.row.name=some (d,[])) (hp:l.row.prog.theDef l.row.name=some (d.params,d.body,d.scope)) (hk:kwWritten? d.params.kwonlyargs d.params.kw_defaults=some [])
 (hwr:(!l.row.writes||l.row.records.isEmpty)=true) (k1:l.row.wellSaid=true) (ok:(chainsOk q&&opensWell l.row.prog&&(frees l.row.toRowW&&l.row.within.isEmpty))=true) (hb:l.row.prog.bare) (hw:l.row.toRowW.promised)
 (call:WalkO q loose (XL q []) (λw h=>(Kw l.row.prog N w).In h) l.row.toRowW d [] λf vs=>PySem.call f vs):l.row.Holds:=
 holds_open left (λw s e=>by rw[<-e];exact Ba _) (λw h h' x k=>x.keeps k) (λs e=>xl_of s (Nx.mp e).1) XL.keeps hdef hp hk (λs e=>recFacts_of (Nx.mp e).2) hwr k1 ok hb hw call
def p1{d e:Type}{a c:d}{b f:e}(h:(a,b)=(c,f)):a=c:=(Prod.mk.inj h).1
end Ws
namespace Ws
open PySem L2
def Bf{l:PySem.W.OpenLaw}{XP:(Str->Option II)->Heap->Prop}{K:JJ->IH}(I:l.most=some 63)(r:d.params.defaults=[])(J:aK k PySem.callerA)
 (B:∀(w:JJ)(h:Heap),A w h->(K w).In h)
 (F:∀(w:JJ)(mg:Str->Option II)(p:Addr)(h:Heap),(K w).In h->h.Ns mainGlobals mg->mg d.name=some (.ref p)->
  ∃v:Jh,(∀(s:IJ)(u:II),Rb s v ⟨[u],[]⟩ [(x,u)])/\∀c:Heap,(K w).In c->c.Ns mainGlobals mg->av l.prog w (K w) mg c aO k p v [x] (pR (K w))) :
 PySem.W.WalkO q j XP A l.row.toRowW d [] (λf C=>PySem.call f C):=by
 refine Att.zp I r λw D E mg mb p o pm cd L a C ns G Y ho hd N y n m i O=>?_;obtain⟨v,Q,U⟩:=F w mg p _ (B w _ Y) G.T.g y;exact zt (B w _ Y) G.T.g G.T.b G.T.builtins G.T.nolimit O n m (Jt i (by decide)) J U Q (λH hO hS=>⟨a,ns,rfl,hS,i,hO,λ_=>rfl⟩) λH e s' z=>z
end Ws
open PySem PySem.Spec PyProof.Rows
namespace Ws
open L2
def Bg(s:Pe X cm o d)(u:attributeBase o "clear" X.env (eval o X.env)=eval o X.env:=by rfl)
 (hline:(b.endLine == c.line)=true:=by rfl):Pe X cm (.Call (.Attribute o "clear" b) [] [] c) (mN d):=
 C9 (zg OQ PySem.F.slot_list_clear PySem.F.type_list_clear zj s (hbase:=u) (hline:=hline)) λL H Q w=>by
  obtain⟨y,A,h,v,N,z,B,C,k⟩:=w;obtain⟨x,D,E,g⟩:=B0 C;refine⟨y,A,h,x,D,z,B,E,λe l O G f i=>?_⟩;cases x with
  | ref n=>
    obtain⟨T,U,I,j⟩:=B0 g;obtain⟨rfl,m,a,p,rfl,q,r,Y⟩:=O0 f i I;refine⟨.inl ⟨rfl,p,bu.of r⟩,?_⟩;cases j;have J:au e l e (ax l a (.lst [])):=au.put f q m rfl;exact⟨a,p,rfl,rfl,r,k e _ _ (G.trans J) (f.put q m rfl rfl ⟨_,C1,.nil⟩) .non⟩
  | _=>cases g
end Ws
namespace Ws
open PySem L2
def Pairs.cons_inv{c a:Type}{f:c->a}{p:c×PV}{r:List (c×PV)}{kv:List (a×V)}(h:Pairs f ρ H (p::r) kv):∃u b,kv=(f p.1,u)::b/\RV ρ H p.2 u/\Pairs f ρ H r b:=by
 obtain⟨k,v⟩:=h;cases kv with
 | nil=>cases k
 | cons q t=>
   obtain⟨g,u⟩:=q;simp only[Jn,MH]at k;cases v with
   | cons d e=>exact⟨u,t,by rw[<-k.1],d,k.2,e⟩
def Pairs.nil_inv{b a:Type}{f:b->a}{kv:List (a×V)}(h:Pairs f ρ H [] kv):kv=[]:=by
 obtain⟨k,v⟩:=h;cases kv with
 | nil=>rfl
 | cons q t=>cases k
def Pairs.cons'{b a:Type}{f:b->a}{p:b×PV}{r:List (b×PV)}{kv:List (a×V)}(h:RV ρ H p.2 u)(t:Pairs f ρ H r kv):Pairs f ρ H (p::r) ((f p.1,u)::kv):=
 ⟨by rw[Jn,Jn,t.keys],.cons h t.vals⟩
end Ws
namespace Ws
open PySem PySem.W PyProof.Rows L2
section
variable{X:Cx}{cm:Nat->Addr}
def v8{M:Rg}(hs:starEach [e] a=(false,eval e a)::starEach [] a)(h:wpAny M A (eval e a) (λu c=>Q [u] c) E s):wpAny M A (spliced (backTo b (starEach [e] a))) Q E s:=by
 rw[hs];exact KN (aB h λu c q=>LM q)
def Bh(h:fy X.K cm aNil σ H Q):tNil σ H Q:=by
 obtain⟨a,A,b,e,f,c,g,d,k⟩:=h;cases d;exact k a H [] (au.refl _ _) c .nil
def fG(D:j5 X.prog X.w X.K X.mg X.base cm c m k ps f n)(u:k<=r)(x:aK r X.A)(y:dy X.K (cm c))(z:Pe X cm o d)(g:∀i,i<19->cA i≠m)
 (B:eval (.Call (.Attribute o m b) [] [] e) X.env=(do
  let ov <-eval o X.env
  standAt b.atName
  let(f,first) <-holding [ov] (getMethod ov m s)
  callWith e f first (backTo e (starEach [] X.env)) (backToKw e (keywordEach [] X.env))):=by rfl) :
 Pe X cm (.Call (.Attribute o m b) [] [] e) (aM c f d aNil):=by
 obtain⟨fa,fd,F,C,E⟩:=D.ex;refine C9 (yG z y C F (x.mono u) E .nil kP B) λσ H Q h=>?_;obtain⟨G,A,j,v,I,J,L,N,k⟩:=tN D.len g h;exact⟨G,A,j,v,I,J,L,N,λl O T U p q=>by
  obtain⟨a,Y,fs,h1,h2,h3,h4⟩:=k l O T U p q;exact⟨a,Y,fs,h1,h2,h3,Bh h4⟩⟩
end
structure dU(K:IH)(x qual:Str)(st:Stmt)(f:Addr)(fd:Jh)(items:Array II):Prop where
 ex:∃(T:Addr)(oc:II)(od:Option Addr)(kV doc pm:II)(an:Option Addr)(cdv ct:II)(osl:Array (Option II))(tc:II)(td:Option Addr)(tn:Nat)(ts:Array (Option II)),
  fd=LA x qual (L9 st) (G0 st) (C2 st) (.ref T) kV doc pm an cdv ct/\K.lookup f=some ⟨oc,od,.func fd,osl⟩/\Nd K cdv qual=true/\K.lookup T=some ⟨tc,td,.seq items tn,ts⟩
 kp:Ln K (.ref f)=true
section
variable{P:Jg}{w:JJ}{K:IH}{mg:Str->Option II}{base:Heap}{cm:Nat->Addr}
def dU.binds{st:Stmt}(F:dU K x a st f j items)(n:Nat)(r:n+e.length=ps.length)
 (h:∀(T:Addr)(kV b g:II)(i:Option Addr)(c ct:II)(d:List II),d.length=n->∃k,bindArgs (LA x a (L9 st) (G0 st) (C2 st) (.ref T) kV b g i c ct) ⟨d,[]⟩=(seqItems? (.ref T)>>=k)/\k (some items)=pure (ps.zip (d++e))):L2.Binds K j ps e:=by
 obtain⟨T,u,v,kV,b,g,i,c,ct,l,y,z,A,B,rfl,lk,m,lt⟩:=F.ex;intro s d X o;obtain⟨k,p,q⟩:=h T kV b g i c ct d (by rw[Jo]at o;walk_at "o");exact binds_K X rfl lt rfl p q
def Bi{st:Stmt}{kV d h b ct:II}
 (l:K.lookup f=some ⟨i,j,.func (LA x a (L9 st) (G0 st) (C2 st) (.ref T) kV d h g b ct),e⟩) (c:Nd K b a=true) (k:Ln K (.ref f)=true) (lt:K.lookup T=some ⟨m,n,.seq items o,p⟩) :
 dU K x a st f (LA x a (L9 st) (G0 st) (C2 st) (.ref T) kV d h g b ct) items:=⟨⟨T,i,j,kV,d,h,g,b,ct,e,m,n,o,p,rfl,l,c,lt⟩,k⟩
def Bj{st:Stmt}(F:dU K x b st f q items)(S:P6 N ps (C2 st))
 (d:∀(c:II)(A:JI)(a:List Env)(j:IJ)(H:Hp)(E:L2.XK),aK k (A.deeper (JH b (C2 st) j.heap.objs.size f c))->
  bP (p6 aO P w K mg base N b (C2 st) f c A a j H E).nox (G0 st) (gh K cm s)) :
 av P w K mg base aO (k+1) f q ps (aQ K cm (fn N.length ps.length s) ps.length):=by
 obtain⟨T,oc,od,kV,I,pm,an,c,ct,J,tc,td,tn,ts,rfl,lk,l,lt⟩:=F.ex;refine oA lk l S (λL H Q E ⟨r,A,y,v,A',z,m,C,_,_⟩=>by rw[<-m.length];exact C) λA a j H L Q E O h=>⟨_,(d c A a j H E O).nox,?_⟩;obtain⟨r,B,y,v,B',z,m,C,U,k⟩:=h;obtain⟨_,n⟩:=B9 U;obtain⟨o,Y,e1,e⟩:=B0 n;refine⟨r,B,Ws.start _ y,o,Y,z,bG.start0 m,e1,λg D G i=>?_⟩;cases o with
 | nx a1=>cases e;exact λa2 _=>k g D _ G i .non
 | rt u=>cases e;exact λv' p=>k g D v' G i p
 | _=>cases e
end
section
variable{X:Cx}{cm:Nat->Addr}
theorem uq:∀{bs:List Bool}{a:List II},ay (bs.map V.bl) a->∀(i:Nat)(v:II),a[i]?=some v->∃b,bs[i]?=some b/\v=.bool b
 | [],_,.nil,i,v,h=>by simp at h
 | b::bs,_,.cons r t,0,v,h=>by
   cases r;simp at h;subst h;exact⟨b,rfl,rfl⟩
 | b::bs,_,.cons r t,i+1,v,h=>uq t i v (by simpa using h)
def Bk(bs:List Bool):((Ju bs.length).all λi=>(bs[i]?).getD true)=bs.all id:=by
 induction bs with
 | nil=>rfl
 | cons b r ih=>
   rw[Js,MQ,MI,List.all_map,MI,<-ih];rfl
def Bl(K:IH):List V->Hp->VK->Prop:=λb H Q=>∃(a:Addr)(bs:List Bool),b=[.ref a]/\bu K H a (bs.map V.bl)/\Q (.bl (bs.all id)) H
def Bm(c:X.calm=true):aT X (.builtin "all") (Bl X.K):=by
 intro p s J H L N Q I r h;obtain⟨a,bs,rfl,x,q⟩:=h;obtain⟨u,rfl,y⟩:=Z4 r;cases y;obtain⟨f,w,z,O⟩:=I.list x;have d:=z.isList;have l:a<s.heap.objs.size:=by
  obtain⟨_,e,_⟩:=d;exact IQ e
 have g:f.length=bs.length:=by
  have:=w.length;simpa using this.symm
 refine call_all_walk (Mh d ⟨s.heap.objs.size,[s.heap.objs.size,a],[s.heap.objs.size],_,_,_,λi=>(bs[i]?).getD true,rfl,
  Walks.list (A:=X.A.in1) (I.ok.hd c) _ a (IY l) _,⟨⟨_,IP _ rfl,rfl,rfl⟩,d.push _⟩,?_,?_⟩)
 .intro i v B C T D m;obtain⟨b,n,rfl⟩:=uq w i v (by simpa using D);have j:C ((bs[i]?).getD true) B:=m;rw[n]at j;exact KZ j
 .intro U Y E;have n:f.toArray.size=bs.length:=by exact g
  rw[n,Bk];exact⟨.bl _,H,I.kept (λb o e=>E b o (λG=>by rw[IS.mp G]at e;exact absurd (IQ e) (Ld _)) (IF _ e)),rfl,q⟩
theorem ur:∀{l:List PV}{bs:List Bool},s9 l=some bs->l=bs.map .bl
 | [],bs,h=>by simp[s9]at h;subst h;rfl
 | x::r,bs,h=>by
   cases x with
   | bl b=>
     simp only[s9,Jz]at h;obtain⟨m,a,rfl⟩:=h;rw[ur a];rfl
   | _=>simp[s9]at h
theorem uu:∀{c:List Addr}{H:Hp}{bs:List Bool}{a:List V},RVs c H (bs.map PV.bl) a->a=bs.map V.bl
 | _,_,[],_,.nil=>rfl
 | _,_,b::bs,_,.cons h t=>by cases h;rw[uu t];rfl
def Bn(c:X.calm=true)(he:Pe X cm e d)(o:Gl X "all")(q:X.mg "all" = none)(hs:starEach [e] X.env=(false,eval e X.env)::starEach [] X.env:=by exact D9 rfl):Pe X cm (.Call (.Name "all" p) [e] [] f) (fb d):=
 C9 (U2 (Bm c) o q rfl (aN he br hs) (he:=hs)) λy H Q h=>Y4 (λ_=>rfl) (λr A H x z A' v Q i s j k=>by
  cases x with
  | ref n=>
    obtain⟨l,B,u,b⟩:=B0 j;obtain⟨rfl,a,C,rfl,w,m⟩:=M3 i s u;cases g:s9 l with
    | none=>rw[g]at b;cases b
    | some bs=>
      rw[g]at b;cases b;rw[ur g]at m;exact⟨a,bs,rfl,by rw[<-uu m];exact w,k r H _ (au.refl _ _) i (.bl _)⟩
  | _=>cases j) h
theorem c9:∀{b:List Addr}{H:Hp}{ns:List Int}{a:List V},RVs b H (ns.map PV.int) a->a=ns.map V.int
 | _,_,[],_,.nil=>rfl
 | _,_,i::ns,_,.cons h t=>by cases h;rw[c9 t];rfl
def lP:Pe X cm (.UnaryOp .USub (.Constant (.int i) j b) a) (eK (.int (-i))):=
 C9 (rT rW nW) λh H Q c=>by
  obtain⟨d,A,e,v,l,f,m,g,k⟩:=c;cases g;exact⟨i,rfl,k d H _ (au.refl _ _) f (.int _)⟩
end
end Ws
namespace Ws
open PySem PySem.W PyProof.Rows L2
section
variable{X:Cx}{cm:Nat->Addr}
def Bo(K:IH):List V->Hp->VK->Prop:=λc H Q=>∃(a:Addr)(b:List V),c=[.ref a]/\bu K H a b/\∀p,H p=none->Q (.ref p) (ax H p (.tup b))
def Bp:aT X (.type "tuple") (Bo X.K):=by
 intro d s w H x y Q I r h;obtain⟨a,j,rfl,l,q⟩:=h;obtain⟨u,rfl,m⟩:=Z4 r;cases m;obtain⟨c,f,n,g⟩:=I.list l;have p:=f.length;refine call_tuple_list n.isList (λz v=>?_) (by rw[Ja,<-p];exact g);have i:=I.kept (t':=s.toks) v;exact⟨.ref _,_,i.laid (o:=.tup j) (λb o e=>IF _ e) (IM _) ⟨g,c,f,_,IP _ rfl,rfl,_,rfl⟩,rfl,q _ (i.hok.fresh (IM _))⟩
def Bq(he:Pe X cm e d)(u:Gl X "tuple")(w:X.mg "tuple" = none)(f:bootBuiltins "tuple" = some (.type "tuple"))(hs:starEach [e] X.env=(false,eval e X.env)::starEach [] X.env:=by exact D9 rfl):Pe X cm (.Call (.Name "tuple" p) [e] [] b) (b8 d):=
 C9 (W8 Bp u w f (aN he br hs) (he:=hs)) λD H Q h=>Y4 (λ_=>rfl) (λg A H x z A' v Q m y o k=>by
  cases x with
  | ref n=>
    obtain⟨l,E,B,i⟩:=B0 o;obtain⟨rfl,a,q,rfl,C,f⟩:=M3 m y B;obtain⟨c,j⟩:=B9 i;cases j;refine⟨a,q,rfl,C,λp r=>?_⟩;have s:au g H g (ax H p (.tup q)):=au.same r;exact k g _ _ s (m.tup r) (.tup C1 (f.mono s))
  | _=>cases o) h
end
section
variable{prog:Jg}{w:JJ}{A:JI}{E:II->IJ->Prop}{s:IJ}
def Br(e:s.heap.IsTupleIter c t i)(l:s.heap.IsTuple t a)(m:a[i]?=some x)
 (n:∀f,f.IsTupleIter c t (i+1)->JK c s.heap f->Q x { s with heap:=f }):wpAny (model prog w) A (LH (.ref c)) Q E s:=by
 obtain⟨o,d,p,b⟩:=id e;obtain⟨q,g,_,r,h⟩:=l;refine IE (JF e.typeIs Ku (JA Ku e.typeIs Mf ?_ (Me _)));show wpAny _ _ (field _ 0>>=_) _ _ s;refine IE (JB d b (x:=.ref t) rfl ?_);refine IE (JB d b rfl ?_);refine IE (Lg g h ?_);simp only[La,m];refine IE (LI d b (by simp) (IG ⟨x,rfl,IG (n _ ⟨_,JY _ d (Lj (JX b _)),(MX ..).trans p,by rw[JX b];simp[rawInt]⟩ (Kq ..))⟩))
def Bs(n:A.handled=none)(d:s.heap.IsTupleIter c t i)(q:s.heap.IsTuple t b)(r:b[i]?=none)
 (u:∀f e,NO c s.heap f->(∃o,f.get? e=some o/\o.cls=.type "StopIteration")->E (.ref e) { s with heap:=f }):wpAny (model prog w) A (LH (.ref c)) Q E s:=by
 obtain⟨o,g,v,h⟩:=id d;obtain⟨y,j,_,z,l⟩:=q;refine IE (JF d.typeIs Ku (JA Ku d.typeIs Mf ?_ (Me _)));show wpAny _ _ (field _ 0>>=_) _ _ s;refine IE (JB g h (x:=.ref t) rfl ?_);refine IE (JB g h rfl ?_);refine IE (Lg j l ?_);simp only[La,r];refine IE (MY (IE (LI g h (by simp) ?_)));refine IE ?_;refine IE (m:=firstArgMember _ _) (Qs (a:=Ks) rfl ?_);refine Ke ?_ (by size_fits);refine IE (OR ?_);first | rw[show _=none from n] | rw[n]
 refine IE (IG (Qt ?_));exact u _ _ (((Kq ..).extBut.push _).push _) ⟨_,IP _ rfl,rfl⟩
def ba(k:Bool)(h:Heap)(a l:Addr)(i:Nat):Prop:=match k with
 | true=>h.IsTupleIter a l i
 | false=>h.IsListIter a l i
def SeqAt(k:Bool)(h:Heap)(l:Addr)(a:Array II):Prop:=match k with
 | true=>h.IsTuple l a
 | false=>h.IsList l a
def ba.at(x:ba k h a l i)(e:∀o,h.get? a=some o->h'.get? a=some o):ba k h' a l i:=by
 cases k with
 | true=>exact Heap.IsTupleIter.at x e
 | false=>exact Heap.IsListIter.at x e
def SeqAt.at(x:SeqAt k h l a)(e:∀o,h.get? l=some o->h'.get? l=some o):SeqAt k h' l a:=by
 cases k with
 | true=>obtain⟨o,b,c⟩:=x;exact⟨o,e o b,c⟩
 | false=>exact Heap.IsList.at x e
def ba.obj(x:ba k h a l i):∃o b,h.get? a=some o/\o.data=.fields b:=by
 cases k with
 | _=>obtain⟨o,c,_,d⟩:=x;exact⟨o,_,c,d⟩
def SeqAt.lt(x:SeqAt k h l a):l<h.objs.size:=by
 cases k with
 | _=>obtain⟨o,b,_⟩:=x;exact IQ b
def i7(d:ba k s.heap b t i)(e:SeqAt k s.heap t a)(f:a[i]?=some x)
 (g:∀c,ba k c b t (i+1)->JK b s.heap c->Q x { s with heap:=c }):wpAny (model prog w) A (LH (.ref b)) Q E s:=by
 cases k with
 | true=>exact Br d e f g
 | false=>exact wpAny_nextOf_list_item d e f g
def nh(d:A.handled=none)(f:ba k s.heap b t i)(g:SeqAt k s.heap t a)(h:a[i]?=none)
 (j:∀c e,NO b s.heap c->(∃o,c.get? e=some o/\o.cls=.type "StopIteration")->E (.ref e) { s with heap:=c }):wpAny (model prog w) A (LH (.ref b)) Q E s:=by
 cases k with
 | true=>exact Bs d f g h j
 | false=>exact wpAny_nextOf_list_end d f g h j
noncomputable def lQ(k:Bool)(l:Addr):Obj:={ cls:=.type (match k with | true=>"tuple_iterator" | false=>"list_iterator"),data:=.fields #[.ref l,.int 0 0] }
def uv(k:Bool)(h:Heap)(l:Addr):ba k (h.push (lQ k l)) h.objs.size l 0:=by
 cases k with
 | _=>exact⟨_,IP _ rfl,rfl,rfl⟩
def uw(b:SeqAt k s.heap l a)(c:Q (.ref s.heap.objs.size) { s with heap:=s.heap.push (lQ k l) }):wpAny (model prog w) A (pyIter (.ref l)) Q E s:=by
 cases k with
 | true=>exact Ma b c
 | false=>exact Mh b c
def pV(h:Heap)(z TI TO:Addr):Prop:=∃(a:II)(e:Bool),(a=.none\/∃T:Addr,a=rawInt T)/\h.get? z=some { cls:=.type "zip",dict:=none,data:=.fields #[a,.bool e,.bool false,.ref TI,.ref TO],slots:=#[] }
abbrev ni(d:II)(e:Bool)(TI TO:Addr):Obj:={ cls:=.type "zip",dict:=none,data:=.fields #[d,.bool e,.bool false,.ref TI,.ref TO],slots:=#[] }
structure eL(k1 k2:Bool)(z TI TO i1 i2 l1 l2:Addr)(i:Nat)(h:Heap):Prop where
 zr:pV h z TI TO
 ti:QZ h TI (.ref i1) (.ref i2)
 to:∃a b,QZ h TO a b
 j1:ba k1 h i1 l1 i
 j2:ba k2 h i2 l2 i
abbrev Kp(z TO a b:Addr)(h h':Heap):Prop:=∀c o,c≠z->c≠TO->c≠a->c≠b->h.get? c=some o->h'.get? c=some o
structure ZA(z TI TO i1 i2 l1 l2:Addr):Prop where
 TIz:TI≠z
 TOz:TO≠z
 i1z:i1≠z
 i2z:i2≠z
 TITO:TI≠TO
 TIi1:TI≠i1
 TIi2:TI≠i2
 TOi1:TO≠i1
 TOi2:TO≠i2
 i12:i1≠i2
 l1z:l1≠z
 l1TO:l1≠TO
 l1i1:l1≠i1
 l1i2:l1≠i2
 l2z:l2≠z
 l2TO:l2≠TO
 l2i1:l2≠i1
 l2i2:l2≠i2
def eL.keep{z TI TO c d j l2:Addr}(S:eL f g z TI TO c d j l2 i h)(k:∀b∈[z,TI,TO,c,d],∀o,h.get? b=some o->h'.get? b=some o):eL f g z TI TO c d j l2 i h':=by
 obtain⟨⟨l,m,n,p⟩,q,⟨a,b,r⟩,u,v⟩:=S;exact⟨⟨l,m,n,k z (by simp) _ p⟩,k TI (by simp) _ q,⟨a,b,k TO (by simp) _ r⟩,u.at λo e=>k c (by simp) o e,v.at λo e=>k d (by simp) o e⟩
def Bt(h:Q (s.heap.get? a) s):wpAny (model prog w) A (loadIfAlive a) Q E s:=λ_ _ _=>h
def ux{z TI TO:Addr}(hz:pV s.heap z TI TO)(h:∀b c d a,c.get? z=some (ni d a TI TO)->(b=false->∃T:Addr,d=rawInt T)->JK z s.heap c->Q b { s with heap:=c }) :
 wpAny (model prog w) A (KI.SmallTypes.ownedTupleIsFree (.ref z)) Q E s:=by
 obtain⟨d,a,j,hz⟩:=hz;rcases j with rfl | ⟨T,rfl⟩
 .exact IE (JB hz rfl rfl (IG (h true _ _ _ hz (by simp) ⟨rfl,λ_ _=>rfl⟩)))
 .refine IE (JB hz rfl rfl ?_);refine IE (Bt ?_);by_cases i:(s.heap.get? ((T:Int).toNat)).isNone=true
  .rw[if_pos i];exact IG (h true _ _ _ hz (by simp) ⟨rfl,λ_ _=>rfl⟩)
  .rw[if_neg i];refine IE (JB hz rfl (x:=.bool a) rfl ?_);cases a with
   | true=>
     exact IG (h false _ _ _ hz (λ_=>⟨T,rfl⟩) ⟨rfl,λ_ _=>rfl⟩)
   | false=>
     refine IE (JG hz (by simp) λl e f=>IG (h false l _ true e (λ_=>⟨T,rfl⟩) f))
def Bu{z TI TO i1 i2 l1 l2:Addr}{Q:II->IJ->Prop}(D:ZA z TI TO i1 i2 l1 l2)(S:eL k1 k2 z TI TO i1 i2 l1 l2 k s.heap)
 (e6:SeqAt k1 s.heap l1 xs) (e7:SeqAt k2 s.heap l2 ys) (hx:xs[k]?=some x) (hy:ys[k]?=some y)
 (hQ:∀h',eL k1 k2 z TI TO i1 i2 l1 l2 (k+1) h'->QZ h' s.heap.objs.size x y->Kp z TO i1 i2 s.heap h'->Q (.ref s.heap.objs.size) { s with heap:=h' }) :
 wpAny (model prog w) A (KI.«zip.__next__» ⟨[.ref z],[]⟩) (λfin s'=>∃v,fin=.done (.ret v)/\Q v s') E s:=by
 obtain⟨hz,a2,⟨a,b,e8⟩,h1,h2⟩:=S;obtain⟨g0,g1,_,b5⟩:=id hz;show wpAny _ _ (field _ 2>>=_) _ _ _;refine IE (JB b5 rfl (x:=.bool false) rfl ?_);refine IE (JB b5 rfl rfl ?_);refine IE (Lg a2 rfl ?_);refine IE (ux hz λfr h0 f0 f1 a3 e9 m=>?_);have a0:=m.extBut _ _ D.TOz e8;have j1:=h1.at λo e=>m.extBut _ _ D.i1z e;have j2:=h2.at λo e=>m.extBut _ _ D.i2z e;have q1:=e6.at λo e=>m.extBut _ _ D.l1z e;have q2:=e7.at λo e=>m.extBut _ _ D.l2z e;cases fr with
 | true=>
   simp only[if_true];refine IE (MY ?_);refine IE (JB a3 rfl rfl ?_);refine IE (JG a3 (by simp) λc0 p g=>?_);replace p:c0.get? z=some _:=p;refine IE ?_;simp only[List.zipIdx_cons,List.zipIdx_nil,List.forIn_cons,List.forIn_nil];refine IE (IE (OS ?_));refine IE (i7 (j1.at λo e=>g.extBut _ _ D.i1z e) (q1.at λo e=>g.extBut _ _ D.l1z e) hx λd1 q d=>IG ?_);have C:=d.extBut _ _ D.TOi1 (g.extBut _ _ D.TOz a0);refine IE (Lg C rfl ?_);refine IE (Ny C λd2 n h=>?_);replace n:QZ d2 TO x b:=n;refine IE (Qu (IG ?_));refine IE (IE (OS ?_));refine IE (i7 (j2.at λo e=>h.extBut _ _ D.TOi2.symm (d.extBut _ _ D.i12.symm (g.extBut _ _ D.i2z e))) (q2.at λo e=>h.extBut _ _ D.l2TO (d.extBut _ _ D.l2i1 (g.extBut _ _ D.l2z e))) hy λG r f=>IG ?_);have H:=f.extBut _ _ D.TOi2 n;refine IE (Lg H rfl ?_);refine IE (Ny H λl i j=>?_);replace i:QZ l TO x y:=i;refine IE (Qu (IG (IG ?_)));refine IE (Lg i rfl ?_);have a4:l.objs.size=s.heap.objs.size:=by rw[j.1,f.1,h.1,d.1,g.1,m.1]
   have J:=j.extBut _ _ D.TOz.symm (f.extBut _ _ D.i2z.symm (h.extBut _ _ D.TOz.symm (d.extBut _ _ D.i1z.symm p)));have L:Kp z TO i1 i2 _ l:=λc o I c2 c3 c4 e=>
    j.extBut _ _ c2 (f.extBut _ _ c4 (h.extBut _ _ c2 (d.extBut _ _ c3 (g.extBut _ _ I (m.extBut _ _ I e)))))
   have a8:=q.at λo e=>j.extBut _ _ D.TOi1.symm (f.extBut _ _ D.i12 (h.extBut _ _ D.TOi1.symm e));have a9:=r.at λo e=>j.extBut _ _ D.TOi2.symm e;have a1:=IQ J;show wpAny _ _ (KI.SmallTypes.ownedTupleHandOut (.ref z) (.ref l.objs.size)>>=_) _ _ _;refine IE ?_;have b0:(l.push { cls:=.type "tuple",data:=.seq #[x,y] }).get? z=some _:=IF _ J;refine IE (JG b0 (by simp) λe0 u N=>?_);replace u:e0.get? z=some (ni _ f1 TI TO):=u;refine JG u (by simp) λO B U=>?_;replace B:O.get? z=some _:=B;have up:∀c o,c≠z->l.get? c=some o->O.get? c=some o:=λc o I e=>U.extBut _ _ I (N.extBut _ _ I (IF _ e));have Y:=U.extBut _ _ (KU a1) (N.extBut _ _ (KU a1) (IP _ rfl));refine IG ⟨_,rfl,?_⟩;rw[a4]at Y ⊢;exact hQ O ⟨⟨_,_,.inr ⟨_,rfl⟩,B⟩,up _ _ D.TIz (L _ _ D.TIz D.TITO D.TIi1 D.TIi2 a2),⟨_,_,up _ _ D.TOz i⟩,a8.at λo e=>up _ o D.i1z e,a9.at λo e=>up _ o D.i2z e⟩ Y λc o I c2 c3 c4 e=>up c o I (L c o I c2 c3 c4 e)
 | false=>
   obtain⟨T,hT⟩:=e9 rfl;refine IE ?_;refine IE (IE (JE ?_));refine IE (i7 j1 q1 hx λd1 q d=>IG (IG ?_));refine IE (IE (JE ?_));refine IE (i7 (j2.at λo e=>d.extBut _ _ D.i12.symm e) (q2.at λo e=>d.extBut _ _ D.l2i1 e) hy λG r f=>IG (IG (IG ?_)));refine IE (wpAny_newTuple ?_ (by show 2<=sizeLine;decide));have a4:G.objs.size=s.heap.objs.size:=by rw[f.1,d.1,m.1]
   refine IG ⟨_,rfl,?_⟩;have hk:Kp z TO i1 i2 _ G:=λc o I c2 c3 c4 e=>f.extBut _ _ c4 (d.extBut _ _ c3 (m.extBut _ _ I e));have b1:=f.extBut _ _ D.i2z.symm (d.extBut _ _ D.i1z.symm a3);have hp:QZ _ G.objs.size x y:=IP _ rfl;rw[a4]at hp ⊢;refine hQ _ ⟨⟨_,_,.inr ⟨T,hT⟩,IF _ b1⟩,IF _ (hk _ _ D.TIz D.TITO D.TIi1 D.TIi2 a2),⟨a,b,IF _ (f.extBut _ _ D.TOi2 (d.extBut _ _ D.TOi1 a0))⟩,
    q.at λo e=>IF _ (f.extBut _ _ D.i12 e),r.at λo e=>IF _ e⟩ hp λc o I c2 c3 c4 e=>IF _ (hk c o I c2 c3 c4 e)
def Bv{z TI TO i1 i2 l1 l2:Addr}(hh:A.handled=none)(D:ZA z TI TO i1 i2 l1 l2)(S:eL k1 k2 z TI TO i1 i2 l1 l2 k s.heap)
 (b1:SeqAt k1 s.heap l1 xs) (b2:SeqAt k2 s.heap l2 ys) (B:xs[k]?=none\/ys[k]?=none)
 (hE:∀h' e,Kp z TO i1 i2 s.heap h'->(∃o,h'.get? e=some o/\o.cls=.type "StopIteration")->E (.ref e) { s with heap:=h' }) :
 wpAny (model prog w) A (KI.«zip.__next__» ⟨[.ref z],[]⟩) Q E s:=by
 obtain⟨hz,b5,⟨a,b,c0⟩,h1,h2⟩:=S;obtain⟨g0,g1,_,O⟩:=id hz;show wpAny _ _ (field _ 2>>=_) _ _ _;refine IE (JB O rfl (x:=.bool false) rfl ?_);refine IE (JB O rfl rfl ?_);refine IE (Lg b5 rfl ?_);refine IE (ux hz λfr h0 f0 f1 T f3 i=>?_);have U:=i.extBut _ _ D.TOz c0;have j1:=h1.at λo e=>i.extBut _ _ D.i1z e;have j2:=h2.at λo e=>i.extBut _ _ D.i2z e;have q1:=b1.at λo e=>i.extBut _ _ D.l1z e;have q2:=b2.at λo e=>i.extBut _ _ D.l2z e;cases fr with
 | true=>
   simp only[if_true];refine IE (MY ?_);refine IE (JB T rfl rfl ?_);refine IE (JG T (by simp) λY j f=>?_);replace j:Y.get? z=some (ni .ellipsis f1 TI TO):=j;refine IE ?_;simp only[List.zipIdx_cons,List.zipIdx_nil,List.forIn_cons,List.forIn_nil];refine IE (IE (OS ?_));cases H:xs[k]? with
   | none=>
     refine IE (nh hh (j1.at λo e=>f.extBut _ _ D.i1z e) (q1.at λo e=>f.extBut _ _ D.l1z e) H λn e d I=>?_);obtain⟨oe,m,q⟩:=I;have r:=d _ _ D.i1z.symm j;have J:e≠z:=λx=>by subst x;rw[r]at m;cases m;simp at q
     refine JG r (by simp) λC _ g=>hE C e (λc o u _ L _ x=>g.extBut _ _ u (d _ _ L (f.extBut _ _ u (i.extBut _ _ u x)))) ⟨oe,g.extBut _ _ J m,q⟩
   | some x=>
     have hy:ys[k]?=none:=by rcases B with h | h;· rw[H]at h;cases h
                             .exact h
     refine IE (i7 (j1.at λo e=>f.extBut _ _ D.i1z e) (q1.at λo e=>f.extBut _ _ D.l1z e) H λn N d=>IG ?_);have p:=d.extBut _ _ D.TOi1 (f.extBut _ _ D.TOz U);refine IE (Lg p rfl ?_);refine IE (Ny p λC a7 g=>?_);refine IE (Qu (IG ?_));refine IE (IE (OS ?_));refine IE (nh hh (j2.at λo e=>g.extBut _ _ D.TOi2.symm (d.extBut _ _ D.i12.symm (f.extBut _ _ D.i2z e))) (q2.at λo e=>g.extBut _ _ D.l2TO (d.extBut _ _ D.l2i1 (f.extBut _ _ D.l2z e))) hy λG e l I=>?_);obtain⟨oe,m,q⟩:=I;have v:=l _ _ D.i2z.symm (g.extBut _ _ D.TOz.symm (d.extBut _ _ D.i1z.symm j));have J:e≠z:=λx=>by subst x;rw[v]at m;cases m;simp at q
     refine JG v (by simp) λa0 _ y=>hE a0 e (λc o u c2 L c4 x=>y.extBut _ _ u (l _ _ c4 (g.extBut _ _ c2 (d.extBut _ _ L (f.extBut _ _ u (i.extBut _ _ u x)))))) ⟨oe,y.extBut _ _ J m,q⟩
 | false=>
   refine IE ?_;refine IE (IE (JE ?_));cases H:xs[k]? with
   | none=>exact IE (nh hh j1 q1 H λn e d I=>hE n e (λc o u _ L _ x=>d _ _ L (i.extBut _ _ u x)) I)
   | some x=>
     have hy:ys[k]?=none:=by rcases B with h | h;· rw[H]at h;cases h
                             .exact h
     refine IE (i7 j1 q1 H λn N d=>IG (IG ?_));refine IE (IE (JE ?_));exact IE (nh hh (j2.at λo e=>d.extBut _ _ D.i12.symm e) (q2.at λo e=>d.extBut _ _ D.l2i1 e) hy λG e l I=>hE G e (λc o u _ L c4 x=>l _ _ c4 (d.extBut _ _ L (i.extBut _ _ u x))) I)
def Bw{z TI TO b c d l2:Addr}(D:ZA z TI TO b c d l2)(S:eL e f z TI TO b c d l2 k s.heap)
 (g:SeqAt e s.heap d j) (i:SeqAt f s.heap l2 l) (o:j[k]?=some x) (p:l[k]?=some y)
 (q:∀a,eL e f z TI TO b c d l2 (k+1) a->QZ a s.heap.objs.size x y->Kp z TO b c s.heap a->Q (some (.ref s.heap.objs.size)) { s with heap:=a }) :
 wpAny (model prog w) A (pyNext (.ref z)) Q E s:=by
 have n:s.TypeIs (.ref z) "zip":=by obtain⟨_,_,_,h⟩:=S.zr;exact⟨_,h,rfl⟩
 refine IE (LC (JF n MK (JA MK n F.entry_zip_next (Bu D S g i o p λa r u v=>IG (q a r u v)) (F.args_zip_next_1 _))))
def Bx{z TI TO b c d l2:Addr}(r:A.handled=none)(D:ZA z TI TO b c d l2)(S:eL j l z TI TO b c d l2 k s.heap)
 (f:SeqAt j s.heap d m) (g:SeqAt l s.heap l2 n) (a:m[k]?=none\/n[k]?=none) (u:∀i,Kp z TO b c s.heap i->Q none { s with heap:=i }) :
 wpAny (model prog w) A (pyNext (.ref z)) Q E s:=by
 have q:s.TypeIs (.ref z) "zip":=by obtain⟨_,_,_,h⟩:=S.zr;exact⟨_,h,rfl⟩
 refine IE (LC (JF q MK (JA MK q F.entry_zip_next (Bv r D S f g a λi e v x=>?_) (F.args_zip_next_1 _))));obtain⟨o,y,B⟩:=x;exact IE (Lx ⟨o,y,B⟩ Om (IG (u _ v)))
def By{z TI TO h i j l2 T:Addr}(H:∀u p,g≠.List u p)(D:ZA z TI TO h i j l2)(S:eL q r z TI TO h i j l2 k s.heap)
 (v:∀f,eL q r z TI TO h i j l2 k f->JK z s.heap f->Q () { s with heap:=f }) :
 wpAny (model prog w) A (letOwnedTupleGo g (.ref z) (.ref T)) Q E s:=by
 have y:=v _ S ⟨rfl,λ_ _=>rfl⟩;cases g with
 | Tuple B O I=>
   obtain⟨⟨J,C,U,G⟩,l,⟨a,b,m⟩,L,N⟩:=S;refine IE (wpAny_load G ?_);by_cases c:(["enumerate","zip","dict_itemiterator","dict_reverseitemiterator","odict_iterator","itertools.zip_longest","itertools.pairwise"].contains "zip"&&(#[J,.bool C,.bool false,.ref TI,.ref TO])[0]? == some (rawInt T))=true
   .show wpAny _ _ (if _ then _ else _) Q E s;rw[if_pos c];refine JG G (by simp) λf n d=>v f ⟨⟨.none,C,.inl rfl,n⟩,d.extBut _ _ D.TIz l,⟨a,b,d.extBut _ _ D.TOz m⟩,L.at λo e=>d.extBut _ _ D.i1z e,N.at λo e=>d.extBut _ _ D.i2z e⟩ d
   .show wpAny _ _ (if _ then _ else _) Q E s;rw[if_neg c];exact IG y
 | List u p=>exact absurd rfl (H _ _)
 | _=>exact IG y
def uy{z TI TO:Addr}(hz:pV s.heap z TI TO)(h:Q (.ref z) s):wpAny (model prog w) A (pyIter (.ref z)) Q E s:=by
 have a:s.TypeIs (.ref z) "zip":=by obtain⟨_,_,_,h⟩:=hz;exact⟨_,h,rfl⟩
 refine OC a F.slot_zip_iter (JA F.slot_zip_iter a F.entry_zip_iter ?_ (F.args_zip_iter_1 _));exact IG ⟨_,rfl,"zip",_,a,MK.lookup,h⟩
end
def ky(I:L2.Inv X c σ H s)(h:eE k X.K H a d):∃b:List II,ay d b/\SeqAt k s.heap a b.toArray:=by
 cases k with
 | true=>obtain⟨b,r,p,_⟩:=I.tuple h;exact⟨b,r,p⟩
 | false=>obtain⟨b,r,p,_⟩:=I.list h;exact⟨b,r,p.isList⟩
def uz(I:L2.Inv X b σ H s)(h:eE k X.K H a c)(h':eE k X.K H a d):c=d:=by
 cases k with
 | true=>exact I.tuple_inj h h'
 | false=>exact I.list_inj h h'
def Bz{K:IH}(ht:∀es p,tg≠.List es p)(k1 k2:Bool)(a b z TI TO i1 i2:Addr)(D:ZA z TI TO i1 i2 a b) :
 iL P w K tg (pj K k1 k2 a b) [z,TI,TO,i1,i2] z (λi h=>eL k1 k2 z TI TO i1 i2 a b i h) where
 mem:=by simp
 obj:=λi h S c hc=>by
  obtain⟨⟨f0,f1,_,hz⟩,ti,⟨x,y,to⟩,j1,j2⟩:=S;simp only[IT,JT,or_false]at hc;rcases hc with rfl | rfl | rfl | rfl | rfl
  .exact⟨_,hz,λv z=>by cases z⟩
  .exact⟨_,ti,λv z=>by cases z⟩
  .exact⟨_,to,λv z=>by cases z⟩
  .obtain⟨o,vs,h1,h2⟩:=j1.obj;exact⟨o,h1,λv z=>by rw[h2]at z;cases z⟩
  .obtain⟨o,vs,h1,h2⟩:=j2.obj;exact⟨o,h1,λv z=>by rw[h2]at z;cases z⟩
 keep:=λi h h' S k=>S.keep k
 item:=by
  intro X hP hw hK hc i pins s σ H E I hf S hg;subst hP hw hK;obtain⟨xs,ys,x,y,hq1,hq2,hx,hy⟩:=hg;obtain⟨its1,r1,p1⟩:=ky I hq1;obtain⟨its2,r2,p2⟩:=ky I hq2;obtain⟨u,hu,ru⟩:=r1.get hx;obtain⟨v,hv,rv⟩:=r2.get hy;refine Bw D S p1 p2 (by simpa using hu) (by simpa using hv) λh' S' hT hk=>?_;refine⟨.ref _,rfl,By ht D S' λh2 S2 hs2=>?_⟩;have zlt:z<s.heap.objs.size:=by obtain⟨_,_,_,e⟩:=S.zr;exact IQ e
  have I2:L2.Inv X pins σ (ax H s.heap.objs.size (.tup [x,y])) { s with heap:=h2 }:=by
   refine m9 I hf (λb u hb q=>?_) (IM _) ?_
   .have n1:b≠z:=λe=>hb (by simp[e]);exact hs2.extBut _ _ n1 (hk b u n1 (λe=>hb (by simp[e])) (λe=>hb (by simp[e])) (λe=>hb (by simp[e])) q)
   .exact⟨by show 2<=sizeLine;decide,[u,v],.cons ru (.cons rv .nil),_,hs2.extBut _ _ (KU zlt) hT,rfl,_,rfl⟩
  refine⟨.ref _,ax H _ _,I2,rfl,⟨x,y,_,λzs hz=>by rw[uz I hz hq1];exact hx,λzs hz=>by rw[uz I hz hq2];exact hy,I.hok.fresh (IM _),rfl,rfl⟩,S2,λb hb=>?_⟩;rw[ah]
  .exact(hf b hb).1
  .intro e;subst e;have:∃o,s.heap.get? s.heap.objs.size=some o:=by
    obtain⟨⟨f0,f1,_,hz⟩,ti,⟨x,y,to⟩,j1,j2⟩:=S;simp only[IT,JT,or_false]at hb;rcases hb with e | e | e | e | e
    .rw[e];exact⟨_,hz⟩
    .rw[e];exact⟨_,ti⟩
    .rw[e];exact⟨_,to⟩
    .rw[e];obtain⟨o,vs,h1,h2⟩:=j1.obj;exact⟨o,h1⟩
    .rw[e];obtain⟨o,vs,h1,h2⟩:=j2.obj;exact⟨o,h1⟩
   obtain⟨o,ho⟩:=this;exact absurd (IQ ho) (Ld _)
 done:=by
  intro X hP hw hK hc i pins s σ H E I hf S hg;subst hP hw hK;obtain⟨xs,ys,hq1,hq2,hx⟩:=hg;obtain⟨its1,r1,p1⟩:=ky I hq1;obtain⟨its2,r2,p2⟩:=ky I hq2;have l1:=r1.length;have l2:=r2.length;refine Bx (I.ok.hd hc) D S p1 p2 ?_ λh' hk=>⟨rfl,pF I hf λb u hb q=>hk b u (λe=>hb (by simp[e])) (λe=>hb (by simp[e])) (λe=>hb (by simp[e])) (λe=>hb (by simp[e])) q⟩;rcases hx with hx | hx
  .left;simp;walk_at "o"
  .right;simp;walk_at "o"
 self:=λ_ _ _ _ _ S h=>uy S.zr h
abbrev nj(a:Bool)(h:Heap)(b:Addr):Heap:=h.push (lQ a b)
abbrev nk(a b:Bool)(h:Heap)(c l2:Addr):Heap:=(nj a h c).push (lQ b l2)
abbrev nq(a d:Bool)(h:Heap)(b l2:Addr):Heap:=(nk a d h b l2).push { cls:=.type "tuple",data:=.seq #[.ref h.objs.size,.ref (nj a h b).objs.size] }
abbrev nr(b c:Bool)(h:Heap)(d l2:Addr):Heap:=(nq b c h d l2).push { cls:=.type "tuple",data:=.seq #[.none,.none] }
abbrev kz(a b:Bool)(h:Heap)(c l2:Addr):Heap:=(nr a b h c l2).push (ni .none false (nk a b h c l2).objs.size (nq a b h c l2).objs.size)
def BA(b c:Bool)(a l2:Addr)(m n:Array II) :
 Meets (KI.«zip.__new__» ⟨[.type "zip",.ref a,.ref l2],[]⟩) (λ_ R s=>SeqAt b s.heap a m/\SeqAt c s.heap l2 n/\R (.ok (.ret (.ref (nr b c s.heap a l2).objs.size))) { s with heap:=kz b c s.heap a l2 }):=
 .of_wp λq w A R s h=>by
  obtain⟨r,g,d,u,os⟩:=s;obtain⟨f,i,h⟩:=h;have v:=sub_zip;have j:SeqAt b (IJ.heap ⟨r,g,d,u,os⟩) a m:=f;have l:SeqAt c (IJ.heap ⟨r.push (lQ b a),g,d,u,os⟩) l2 n:=i.at λo e=>IF _ e
  wp_walk using uw j,uw l
  exact⟨_,rfl,h⟩
def BB{E:II->IJ->Prop}{s:IJ}{b d:Bool}{a l2:Addr}{p q:Array II}{Q:II->IJ->Prop}(f:SeqAt b s.heap a p)(g:SeqAt d s.heap l2 q)
 (h:∀i,eL b d (s.heap.objs.size+4) (s.heap.objs.size+2) (s.heap.objs.size+3) s.heap.objs.size (s.heap.objs.size+1) a l2 0 i->(∀c o,s.heap.get? c=some o->i.get? c=some o)->Q (.ref (s.heap.objs.size+4)) { s with heap:=i }) :
 wpAny (model prog w) A (call (.type "zip") [.ref a,.ref l2]) Q E s:=by
 refine callType_new F.called_zip rfl (F.typeCall_zip_2 _ _) (F.newCall_zip_2 _ _) (λobj=>F.args_object_init_3 obj _ _) F.entry_zip_new (BA b d a l2 p q) ⟨f,g,?_⟩;have j:(nj b s.heap a).objs.size=_+1:=JW ..;have l:(nk b d s.heap a l2).objs.size=s.heap.objs.size+2:=by rw[JW,j]
 have m:(nq b d s.heap a l2).objs.size=s.heap.objs.size+3:=by rw[JW,l]
 have u:(nr b d s.heap a l2).objs.size=s.heap.objs.size+4:=by rw[JW,m]
 have n:(kz b d _ a l2).get? (nr b d s.heap a l2).objs.size=some _:=IP _ rfl;have v:(kz b d _ a l2).get? (nq b d s.heap a l2).objs.size=some _:=IF _ (IP _ rfl);have y:(kz b d _ a l2).get? (nk b d s.heap a l2).objs.size=some _:=IF _ (IF _ (IP _ rfl));have z:ba d (kz b d _ a l2) (nj b s.heap a).objs.size l2 0:=(uv d _ l2).at λo e=>IF _ (IF _ (IF _ e));have B:ba b (kz b d _ a l2) _ a 0:=(uv b s.heap a).at λo e=>IF _ (IF _ (IF _ (IF _ e)));rw[l,m,u]at n;rw[j,l]at y;rw[m]at v;rw[j]at z;rw[u];exact⟨⟨_,n,rfl⟩,h _ ⟨⟨_,_,.inl rfl,n⟩,y,⟨_,_,v⟩,B,z⟩ λc o x=>IF _ (IF _ (IF _ (IF _ (IF _ x))))⟩
def i_zip(ht:∀es p,Y≠.List es p)(hg:Gl X "zip")(hm:X.mg "zip" = none)(ha:Pe X cm a d)(hb:Pe X cm b e)
 (hs:starEach [a,b] X.env=(false,eval a X.env)::starEach [b] X.env:=by exact D9 rfl) (o:starEach [b] X.env=(false,eval b X.env)::starEach [] X.env:=by exact D9 rfl):L2.PI X Y (.Call (.Name "zip" p) [a,b] [] n) (EvI X.K cm (iZip d e)):=by
 intro u s σ H R I h;obtain⟨ρ,A,D,J,A',rl,rs,ev,k⟩:=h;obtain⟨x,A1,e1,E⟩:=B0 ev;obtain⟨y,A2,e2,G⟩:=B0 E;refine Ri (T1 I hg hm (show bootBuiltins "zip" = some _ from by rfl) (callWith_type1 (aB ((aN ha (aN hb br o) hs) n u s σ H (λvs f=>∃a B b C,vs=[.ref a,.ref b]/\eE (kindOf x) X.K f a B/\eE (kindOf y) X.K f b C/\R (pj X.K (kindOf x) (kindOf y) a b) f) I ⟨ρ,A,D,[x,y],A2,rl,rs,by show ak _ _ A=_;rw[aG e1];show ak (ak _ _) _ A1=_;rw[aG (show ak _ _ A1=.ok [y] A2 by rw[aG e2];rfl)];rfl,λL f e6 x1 g N=>?_⟩) λus i zq=>?_) hs (by rw[o];rfl)))
 .cases N with
  | cons hv hr=>
    cases hr with
    | cons v O=>
      cases O;obtain⟨l,A3,e3,Q⟩:=B0 G;obtain⟨rfl,a,B,rfl,T,r⟩:=X1 g hv e3;obtain⟨m,A4,e4,U⟩:=B0 Q;obtain⟨rfl,b,C,rfl,j,r2⟩:=X1 g v e4;cases U;exact⟨a,B,b,C,rfl,T,j,k L f _ x1 g ⟨a,b,hv,v,rfl⟩⟩
 .obtain⟨vs,f,w,r1,q1⟩:=zq;obtain⟨a,B,b,C,rfl,T,j,q⟩:=q1;cases r1 with
  | cons h1 t1=>
    cases t1 with
    | cons h2 t2=>
      cases t2;cases h1;cases h2;obtain⟨a5,r1,p1⟩:=ky w T;obtain⟨a6,r2,p2⟩:=ky w j;refine BB p1 p2 λh' S kp=>?_;refine uy S.zr ?_;have I2:=w.kept (t':=i.toks) kp;have la:=p1.lt;have lb:=p2.lt;refine⟨i.heap.objs.size+4,[i.heap.objs.size+4,i.heap.objs.size+2,i.heap.objs.size+3,_,i.heap.objs.size+1],_,_,f,rfl,I2,Bz ht _ _ a b _ _ _ _ _ ?_,S,λc hc=>?_,q⟩
      .have la:@LT.lt Nat _ a _:=la;have lb:@LT.lt Nat _ b _:=lb;constructor<;>first | exact IY (by walk_at "o") | exact KU (by simp)
      .have z:i.heap.objs.size<=c:=by
        simp only[IT,JT,or_false]at hc;rcases hc with rfl | rfl | rfl | rfl | rfl
        .simp
        .simp
        .simp
        .simp
        .simp
       exact w.fpOk z (w.hok.fresh z)
abbrev fH(a:Bool):Obj:={ cls:=.type "set",dict:=none,data:=.set #[] 0 (.fresh 0 0 a) }
set_option maxHeartbeats 3200000 in
def BC(hh:A.handled=none)(hl:s.heap.IsTuple l d)(hi:Nq d.toList ns)(N:d.size+1<scanBound)
 (h:∀(h':Heap)(O:Nat),h'.SetOf (intKind prog w) s.heap.objs.size (λU=>(firstMet (λi=>ns.getD i 0) d.size).any (·== U)) (firstMet (λi=>ns.getD i 0) d.size).length->(∀b o,b<s.heap.objs.size->s.heap.get? b=some o->h'.get? b=some o)->Q (.ref s.heap.objs.size) { s with heap:=h',toks:=O }) :
 wpAny (model prog w) A (call (.type "set") [.ref l]) Q E s:=by
 obtain⟨c,tl,b1⟩:=KO.mro;have Y:=KO.made;have b2:=KO.sub;refine Mz (codeAny_of_tree ?_);show wpAny _ _ (callAny (.type "set") _) _ _ _;refine IG ⟨Oi _ (by decide +kernel),NP PySem.F.entry_type_call ?_⟩;rw[JI.under_plain (weight_type_call_type "set" [.ref l] []) rfl];have h1:=KO.notType;have h2:=KO.canCreate;have e0:=PySem.F.typeCall_set_1 (.ref l);repeat (any_goals (first | assumption | wp_step))
 refine LR (code_set_new_1 (.ref l) (E:=E) (Q₁:=λobj m=>∃a:Bool,obj=.ref s.heap.objs.size/\m={ s with heap:=s.heap.push (fH a) }) λa=>⟨a,rfl,rfl⟩) λr m hr=>?_;cases r with
 | error e=>exact hr
 | ok fl=>
   cases fl with
   | ret obj=>
     obtain⟨a,rfl,rfl⟩:=hr;have hS:(s.heap.push (fH a)).get? s.heap.objs.size=some (fH a):=IP _ rfl;have hT:ML { s with heap:=s.heap.push (fH a) } (.ref s.heap.objs.size) "set":=⟨_,hS,rfl⟩;have e3:=KO.init.lookup;have e4:=KO.init.bind (.ref s.heap.objs.size);repeat (any_goals (first | assumption | wp_step))
     refine LR (Nz (R:=wants (λr n=>r=.none/\∃h' O,n={ s with heap:=h',toks:=O }/\
      h'.SetOf (intKind prog w) s.heap.objs.size (λU=>(firstMet (λi=>ns.getD i 0) d.size).any (·== U)) (firstMet (λi=>ns.getD i 0) d.size).length/\
      (∀b o,b<s.heap.objs.size->s.heap.get? b=some o->h'.get? b=some o)) E) KO.init.plain PySem.F.entry_set_init (check_set_init_1 hT ?_)) λy n f=>?_
     .obtain⟨ol,z,B,nl,hdl⟩:=hl;obtain⟨c0,p,a1,j⟩:=ol;simp only at B hdl;subst B;subst hdl;have C:(s.heap.push (fH a)).get? l=some { cls:=.type "tuple",dict:=p,data:=.seq d nl,slots:=j }:=IF _ z;have c2:=PySem.F.sub_tuple_set;have c3:=PySem.F.sub_tuple_frozenset;have e6:(II.type "tuple" == II.type "dict")=false:=by decide
      have G:(s.heap.push (fH a)).IsTuple l d:=⟨_,C,rfl,nl,rfl⟩;unfold KI.«set.__init__» noKeywords KI.Frozenset.updateFrom;generalize a3:pyIter=PI
      wp_walk
      subst a3;refine Ma G ?_;refine IE (wpAny_runValue ?_);have H:l<s.heap.objs.size:=IQ z;have a4:A.in1.in1.in1.handled=none:=by simp[hh]
      have I:l≠(s.heap.push (fH a)).objs.size:=by
       rw[JW];exact IY (Lp H)
      have a5:s.heap.objs.size∉[(s.heap.push (fH a)).objs.size,l]:=by
       rw[JW];simp only[IT,IS,JT,or_false,not_or];exact⟨IY (KD _),KU H⟩
      have J:∀(i:Nat)(v:II),d[i]?=some v->∃t,v=.int ((λi=>ns.getD i 0) i) t:=λi v hv=>Nq.int_at hi i v (by rw[LB];exact hv);refine codeAny_set_update_loopS ((Walks.tuple a4 _ l I d).toS) s.heap.objs.size a5 (λi=>ns.getD i 0) J N (d.size - 0) 0 _ (by walk_at "o") (LU _)
       ⟨⟨_,IP _ rfl,rfl,rfl⟩,(G.push _)⟩ ?hS0 ?hR
      case hS0=>
       have L:((s.heap.push (fH a)).push { cls:=.type "tuple_iterator",data:=.fields #[.ref l,.int 0 0] }).get? s.heap.objs.size=some (fH a):=IF _ hS;exact SetOf_congr ((setObjOf_fresh (knd:=intKind prog w) a).setOf L (by unfold scanBound;walk_at "o")) (λ_=>rfl) rfl
      case hR=>
       intro s' T q;obtain⟨h',g',d',a6,a7⟩:=s';have eg:g'=s.gens:=T.gens;have ed:d'=s.drawn:=T.drawn;have eo:a7=s.os:=T.os;subst eg;subst ed;subst eo;show wpAny _ _ _ _ _ _;refine IG ?_;show wpAny _ _ (PySem.ret Ks) _ _ _;refine IG ⟨rfl,h',a6,rfl,q,λb o N e=>?_⟩;have a8:b≠s.heap.objs.size:=IY N;have a9:b≠(s.heap.push (fH a)).objs.size:=by
        rw[JW];exact IY (Lp N)
       exact T.heap b o (by simp only[IT,IS,JT,or_false,not_or];exact⟨a8,a9⟩) (IF _ (IF _ e))
     .cases y with
      | error e=>exact f
      | ok u=>
        cases u with
        | ret r=>
          obtain⟨rfl,h',O,rfl,q,b0⟩:=f;repeat (any_goals (first | assumption | wp_step))
          exact h _ _ q b0
        | _=>exact f.elim
   | _=>exact hr.elim
def pW(ns:List Int):(firstMet (λi=>ns.getD i 0) ns.length).length=eB ns:=by
 unfold firstMet eB;have e:(Ju ns.length).map (λi=>ns.getD i 0)=ns:=by
  refine MZ λk=>?_;rw[Jm];by_cases a:k<ns.length
  .simp[a]
  .simp[a]
 rw[e];rfl
def BD{d:ED}{p1 T q1 U:Pos}(j:X.calm=true)(he:Pe X cm e d)(Y:Gl X "len")(a0:X.mg "len" = none)(a1:Gl X "set")(a2:X.mg "set" = none)
 (C:starEach [e] X.env=(false,eval e X.env)::starEach [] X.env:=by exact D9 rfl)
 (D:starEach [.Call (.Name "set" T) [e] [] U] X.env=(false,eval (.Call (.Name "set" T) [e] [] U) X.env)::starEach [] X.env:=by rfl) :
 Pe X cm (.Call (.Name "len" p1) [.Call (.Name "set" T) [e] [] U] [] q1) (t0 d):=by
 intro r s σ H Q I h;obtain⟨ρ,A,a3,v,A',rl,rs,ev,k⟩:=h;obtain⟨x,A1,e1,a4⟩:=B0 ev;refine Ri (T1 I Y a0 PySem.boot_len (callWith_builtin1 (v8 D ?_) D rfl));refine Ri (T1 I a1 a2 (show bootBuiltins "set" = some _ from by rfl) (callWith_type1 (v8 C ?_) C rfl));refine aB (he r s σ H (λv z=>∃(a:Addr)(ns:List Int),v=.ref a/\eE (kindOf x) X.K z a (ns.map V.int)/\ns.length<1000/\Q (.int (eB ns)) z) I ⟨ρ,A,a3,x,A1,rl,rs,e1,λa5 z v1 x1 E a6=>?_⟩) λu G zq=>?_
 .obtain⟨l,A2,e2,m⟩:=B0 a4;obtain⟨rfl,a,xs,rfl,hH,r0⟩:=X1 E a6 e2;cases p:K3 l with
  | none=>rw[p]at m;cases m
  | some ns=>
    rw[p]at m;obtain⟨c,a7⟩:=B9 m;cases a7;rw[P0 p]at r0;exact⟨a,ns,rfl,by rw[<-c9 r0];exact hH,c,k a5 z _ x1 E (.int _)⟩
 .obtain⟨w1,z,J,r1,a,ns,ew,O,L,q⟩:=zq;subst ew;obtain rfl:u=Jf a:=r1;have fin:∀(y)(B:Nat)(n:Nat),n=ns.length->y.SetOf (intKind X.prog X.w) G.heap.objs.size (λk'=>(firstMet (λi=>ns.getD i 0) n).any (·== k')) (firstMet (λi=>ns.getD i 0) n).length->
   (∀b o,b<G.heap.objs.size->G.heap.get? b=some o->y.get? b=some o)->wpAny (model X.prog X.w) X.A (call (.builtin "len") [.ref G.heap.objs.size]) (EP X r σ Q) X.xe { G with heap:=y,toks:=B }:=by
   intro y B n hn f g;subst hn;obtain⟨o,es,ep,t,ho,hex,hd,_,_,_,hf,a9⟩:=f;have hn:es.size=eB ns:=by rw[a9];exact pW ns
   have g0:=tj ns;refine call_len_set ho hex hd hf (by walk_at "o") ?_;rw[hn];exact⟨.int _,z,J.kept (λb ob e=>g b ob (IQ e) e),⟨_,rfl⟩,q⟩
  cases hk:kindOf x with
  | true=>
    rw[hk]at O;obtain⟨b0,ri,pl,hz⟩:=J.tuple O;have p:=Q4 ri;have N:=p.length;refine BC (J.ok.hd j) pl (by simpa using p) (by rw[Ja,N];exact Jc (Nu L) (by decide)) λy B f g=>fin y B _ (by rw[Ja,N]) f g
  | false=>
    rw[hk]at O;obtain⟨b0,ri,pl,hz⟩:=J.list O;have p:=Q4 ri;have N:=p.length;refine QH (J.ok.hd j) pl.isList (by simpa using p) (by rw[Ja,N];exact Jc (Nu L) (by decide)) λy B f g=>fin y B _ (by rw[Ja,N]) f g
def BE(b:Array II):((Ju b.size).filterMap λ(k:Nat)=>b[(((b.size:Int) - 1)+(k:Int)*(-1)).toNat]?).toArray=b.toList.reverse.toArray:=by
 have c:∀(l:List II),((Ju l.length).filterMap λ(k:Nat)=>l[(((l.length) - 1)+(k:Int)*(-1)).toNat]?)=l.reverse:=by
  intro l;have e:(Ju l.length).filterMap (λ(k:Nat)=>l[(((l.length) - 1)+(k:Int)*(-1)).toNat]?)=(Ju l.length).filterMap (λk=>l.reverse[k]?):=by
   have g:∀(r:List Nat),(∀k∈r,k<l.length)->r.filterMap (λ(k:Nat)=>l[(((l.length) - 1)+(k:Int)*(-1)).toNat]?)=r.filterMap (λk=>l.reverse[k]?):=by
    intro r;induction r with
    | nil=>intro _;rfl
    | cons a r ih=>
      intro f;have h:=f a IV;rw[Kl,Kl,List.getElem?_reverse h,show(_+(a:Int)*_).toNat=l.length - 1 - a by walk_at "o",ih λk d=>f k (IZ _ d)]
   exact g _ λk d=>Kr.mp d
  rw[e];have i:∀(m:List II)(n:Nat),n=m.length->(Ju n).filterMap (λk=>m[k]?)=m:=by
   intro m n j;subst j;induction m with
   | nil=>rfl
   | cons a r ih=>
     rw[Js,MQ,Kl];simp only[List.getElem?_cons_zero,List.filterMap_map];congr 1
  exact i _ _ (by simp)
 have:=c b.toList;simp only[L0,LB]at this;rw[this]
def BF(h:Q (some (-1)) s):wpAny (model prog w) A (NB (.int (-1) a)) Q E s:=HT.cq (.int _ a) h
def BG{E:II->IJ->Prop}{s:IJ}{c:Addr}{n d:Nat}{Q:Int×Int×Nat->IJ->Prop}(hs:s.heap.IsSliceOf c .none .none (.int (-1) d))(h:Q ((n:Int) - 1,-1,n) s):wpAny (model prog w) A (NX (.ref c) (pure (n:Int))) Q E s:=by
 obtain⟨os,a,e,b⟩:=id hs;refine IE (IE (JB a b (x:=.none) rfl (IE (JB a b (x:=.none) rfl (IE (JB a b rfl (IG ?_)))))));refine IE (BF ?_);have f:KC ((n:Int) - 1) (-1) (-1)=n:=by
  unfold KC;rw[if_neg (by decide)];by_cases z:((n:Int) - 1) > -1
  .rw[if_pos z];simp
  .rw[if_neg z];simp;walk_at "o"
 show wpAny _ _ (pure ((_ - 1,_,KC (_ - 1) (-1) (-1)))) _ _ s;rw[f];exact IG h
def BH(b:Ra s.heap t items)(hs:s.heap.IsSliceOf c .none .none (.int (-1) l))
 (h:Q (.ref s.heap.objs.size) { s with heap:=s.heap.push { cls:=.type "tuple",data:=.seq items.toList.reverse.toArray } }) (d:items.size<=sizeLine):wpAny (model prog w) A (getItem (.ref t) (.ref c)) Q E s:=by
 obtain⟨os,e,f,m⟩:=id hs;have g:s.TypeIs (.ref c) "slice":=⟨os,e,f⟩;unfold getItem
 try with_reducible refine JE ?_
 first | refine IE _ | skip
 refine IE (wpAny_sequenceKey b.typeIs rfl ?_);refine IE (JF b.typeIs JU (JA JU b.typeIs Qo ?_ (args_tuple_getitem _ _)));show wpAny _ _ (NY _>>=_) _ _ s;refine IE (tupleItemsOf_ b ?_);refine IE (Og g ?_);refine IE (BG hs ?_);show wpAny _ _ (if _=true then _ else _) _ _ s;rw[if_neg (by simp),BE];have a:sizeOk (.seq items.toList.reverse.toArray):=by
  show _<=sizeLine;simpa using d
 exact IE (Ke (IG ⟨_,rfl,IG h⟩) a)
theorem uA:∀{l:List PV}{vs:List V},RVs a H l vs->RVs a H l.reverse vs.reverse
 | _,_,.nil=>.nil
 | _,_,.cons h r=>by
   rw[Na,Na];exact(uA r).append (.cons h .nil)
theorem uB:∀{a:List V}{b:List II},ay a b->ay a.reverse b.reverse
 | _,_,.nil=>.nil
 | _,_,.cons h r=>by
   rw[Na,Na];exact(uB r).append (.cons h .nil)
def jy(he:Pe X cm e d):Pe X cm (.Subscript e (.Slice none none (some (.UnaryOp .USub (.Constant (.int 1) j p3) p4)) p2) w) (dC d):=by
 intro c s y H Q I h;obtain⟨ρ,A,z,v,A',rl,rs,ev,k⟩:=h;obtain⟨x,A1,e1,i⟩:=B0 ev;refine Qd (aB (he c s y H (λY f=>∃(a:Addr)(vs:List V),Y=.ref a/\f a=some (.tup vs)/\∀p,f p=none->Q (.ref p) (ax f p (.tup vs.reverse))) I ⟨ρ,A,z,x,A1,rl,rs,e1,λB f Y x1 C D=>?_⟩) λu s1 E=>?_)
 .cases x with
  | tup l=>
    cases i;cases D with
    | tup G r=>exact⟨_,_,rfl,G,λp J=>k B _ _ (x1.trans (au.same J)) (C.tup J) (.tup C1 (uA (r.mono (au.same J))))⟩
  | _=>cases i
 .obtain⟨w1,f,I1,r1,a,vs,ew,G,q⟩:=E;subst ew;cases r1;refine wpAny_Slice ?_;rw[evalPart_none];refine IG (IG ?_);rw[evalPart_some];refine aB ((rT (X:=X) rW nW) c s1 y f (λv2 L=>v2=.int (-1)/\L=f) I1 ⟨1,rfl,rfl,rfl⟩) λu2 g E=>?_;obtain⟨w2,L,I2,r2,e2,e3⟩:=E;subst e2;subst e3;obtain⟨N,rfl⟩:=r2;have O:L2.Inv X c y L { g with heap:=g.heap.push { cls:=.type "slice",data:=.fields #[.none,.none,.int (-1) N] } }:=I2.kept (t':=g.toks) λb ob q=>IF _ q;obtain⟨U,r,ht,hz⟩:=O.tuple (cp.of G);have hs:(g.heap.push { cls:=.type "slice",data:=.fields #[.none,.none,.int (-1) N] }).IsSliceOf g.heap.objs.size .none .none (.int (-1) N):=Heap.IsSliceOf.new ..;have n:U.toArray.size=vs.length:=by rw[Ja];exact r.length.symm
  refine PyProof.Rows.tail_any (T:="tuple") (ops:=[.ref a,.ref g.heap.objs.size]) ht.typeIs JU.lookup (BH ht hs ?_ (by rw[n];exact hz)) (by with_unfolding_all rfl);refine⟨.ref _,_,O.laid (t':=g.toks) (o:=.tup vs.reverse) (λb ob q=>IF _ q) (IM _) ?_,rfl,q _ (O.hok.fresh (IM _))⟩;exact⟨by rw[List.length_reverse];exact hz,_,uB r,Ra.new _ _⟩
end Ws
namespace Ws
open PySem PySem.W PyProof.Rows PySem.Calls
structure nu(h:Heap)(C:Addr)(newId:String):Prop where
 obj:∃nm q N bs bm hdct sn sub ab col dd k0 k1 k2 k3 k5,h.get? C=some (excClassObj nm q C N bs bm hdct sn sub ab col dd k0 k1 k2 k3 k5 newId)/\bm.contains (.type "ValueError")=true/\bm.contains (.type "BaseException")=true/\bm.contains (.type "AttributeError")=false/\bm.contains (.type "NameError")=false
abbrev jz(C t:Addr):Obj:={ cls:=.ref C,data:=.fields #[.ref t,.none,.none,.none,.bool false,.none] }
section
variable{prog:Jg}{w:JJ}{A:JI}{R:QX->IJ->Prop}{h:Heap}{g:Array Qz}{d:Drawn}{t:Nat}{os:QV}{C fI:Addr}{rest:List II}
def VEF:ExcBaseFacts "ValueError" "ValueError.__new__" "ValueError.__init__" [.type "ValueError",.type "Exception",.type "BaseException",.type "object"]:=PySem.F.excBase_ValueError
def BI(Y:nu h C "ValueError.__new__")(r:R (.ok (.ret (.ref (h.objs.size+1)))) ⟨(h.push { cls:=.type "tuple",data:=.seq rest.toArray }).push (jz C h.objs.size),g,d,t,os⟩)(c:rest.length<=sizeLine) :
 codeAny (model prog w) A (.call (.builtin "ValueError.__new__") ⟨.ref C::rest,[]⟩) R ⟨h,g,d,t,os⟩:=by
 obtain⟨y,q,N,bs,e,o,z,sub,B,s,D,E,G,H,I,J,a,u,L,v,x⟩:=Y.obj;have b:(Jf C::e).contains (.type "ValueError")=true:=by rw[KP,u,Nk]
 have f:(Jf C::e).contains (.type "AttributeError")=false:=by rw[KP,v];rfl
 have i:(Jf C::e).contains (.type "NameError")=false:=by rw[KP,x];rfl
 have j:=VEF.noStar;refine codeAny_call_builtin_code (Oi _ VEF.quiet) ?_;simp only[checkBuiltinCall,VEF.newKind,VEF.newSplit,VEF.newRow];repeat (first | refine Kt a ?_ | (refine Lb a ?_;rw[b]) | refine wpAny_staticBase_exc a ?_ | refine wpAny_madeBy_exc a ?_ | simp only[bne_self_eq_false,Md,if_false] | wp_step)
 have l:=VEF.ends;refine codeAny_builtinAt VEF.entry ?_;unfold KI.«BaseException.__new__»;refine PySem.wpAt_bind ?_;show PySem.wpAt _ _ _ (stack>>=_) _ _ _;refine PySem.wpAt_bind (PySem.wpAt_stack λp m=>Qv ?_)
 wp_walk
 refine Qv ?_;rw[VEF.owner];repeat (first | with_reducible refine wpAny_madeHere_exc VEF.canon a ?_ | with_reducible refine Kt a ?_ | (with_reducible refine Lb a ?_;first | rw[b] | rw[f] | rw[i]) | wp_step)
 show R _ _;rw[JW];exact r
def BJ(Y:nu h C "ValueError.__new__")(s:Looks (model prog w) h (typeLookup (.ref C) "__init__") (some (.ref fI)))(u:∀a,Looks (model prog w) h (bindSpecial (.ref fI) a) (.ref fI,[a]))(f:rest.length<=sizeLine)
 (x:codeAny (model prog w) (A.under (.builtin "type.__call__" ⟨.ref C::rest,[]⟩)) (.call (.ref fI) ⟨.ref (h.objs.size+1)::rest,[]⟩) (InitBack (h.objs.size+1) R) ⟨(h.push { cls:=.type "tuple",data:=.seq rest.toArray }).push (jz C h.objs.size),g,d,t,os⟩) :
 codeAny (model prog w) A (.call (.ref C) ⟨rest,[]⟩) R ⟨h,g,d,t,os⟩:=by
 have y:=Y;obtain⟨H,q,N,bs,B,p,I,sub,J,D,L,O,Q,T,U,k5,j,c1,c2,c3,c4⟩:=Y.obj;have f1:=tc_lookup;have f2:=tc_bind (.ref C);have hT:(⟨h,g,d,t,os⟩:IJ).TypeIs (.ref C) "type":=⟨_,j,rfl⟩;refine codeAny_of_tree ?_;show wpAny _ _ (callAny (.ref C) _) _ _ _;repeat (any_goals (first | assumption | with_reducible refine Kt j ?_ | wp_step))
 refine⟨rfl,?_⟩;refine codeAny_call_builtin_at (Oi _ (by decide +kernel)) entry_typeCall (wpAny_check_type_call_sub j ?_);repeat (first | with_reducible refine Kt j ?_ | with_reducible refine wpAny_madeBy_exc j ?_ | with_reducible refine Mz ?_ | wp_step)
 refine BI (rest:=rest) y ?_ f;show wpAny _ _ _ _ _ _;have m:∀b o,h.get? b=some o->((h.push { cls:=.type "tuple",data:=.seq rest.toArray }).push (jz C h.objs.size)).get? b=some o:=λb o e=>IF _ (IF _ e);have i:=m _ _ j;have l:((h.push { cls:=.type "tuple",data:=.seq rest.toArray }).push (jz C h.objs.size)).get? (h.objs.size+1)=some (jz C h.objs.size):=by heap_get
 have n:(Jf C::B).contains (.ref C)=true:=by simp
 unfold isInstance;repeat (first | with_reducible refine Kt l ?_ | (with_reducible refine Lb i ?_;rw[n]) | wp_step)
 have E:=s.keeps m;have G:=(u (.ref (h.objs.size+1))).keeps m;show wpAny _ _ (typeLookup (.ref C) "__init__") _ _ _;refine E.here ?_;refine JE (IE (G.here ?_));refine IE (Mz ?_);refine LR x λr s' z=>?_;rcases r with e | (v | _ | _ | _)<;>first | exact z | exact z.elim | skip
 obtain⟨rfl,z⟩:=z;exact IG (IG z)
end
end Ws
namespace Ws
open PySem PySem.W PyProof.Rows PySem.Calls Builtin Builtin.ObjectAttr
noncomputable def lR:List II:=[.type "ValueError",.type "Exception",.type "BaseException",.type "object"]
noncomputable def R5:List II->Bool
 | .ref _::r=>R5 r
 | l=>l == lR
def BK(a:II):refuseLoop a "__setattr__" lR=pure ():=rfl
theorem uC(a:II):∀{l:List II},R5 l=true->refuseLoop a "__setattr__" l=pure ()
 | .ref c::r,e=>by rw[refuseLoop_ref];exact uC a (by cases r<;>exact e)
 | [],e=>by cases e
 | .type n::r,e=>by rw[show II.type n::r=lR from beq_iff_eq.mp e];exact BK a
 | .none::r,e=>by cases e
 | .bool _::r,e=>by cases e
 | .int _ _::r,e=>by cases e
 | .str _ _::r,e=>by cases e
 | .bytes _ _::r,e=>by cases e
 | .float _ _::r,e=>by cases e
 | .builtin _::r,e=>by cases e
 | .ellipsis::r,e=>by cases e
 | .notImplemented::r,e=>by cases e
theorem uD:∀{l:List II},R5 l=true->l.contains (.type "object")=true
 | .ref c::r,e=>by rw[KP,uD (l:=r) (by cases r<;>exact e),Nk]
 | [],e=>by cases e
 | .type n::r,e=>by rw[show II.type n::r=lR from beq_iff_eq.mp e];rfl
 | .none::r,e=>by cases e
 | .bool _::r,e=>by cases e
 | .int _ _::r,e=>by cases e
 | .str _ _::r,e=>by cases e
 | .bytes _ _::r,e=>by cases e
 | .float _ _::r,e=>by cases e
 | .builtin _::r,e=>by cases e
 | .ellipsis::r,e=>by cases e
 | .notImplemented::r,e=>by cases e
def BL{R:QX->IJ->Prop}{s:IJ}{K:Frag}{x:Addr}{C:Addr}{ox:Obj}{cd:ClassData}{name:Str}{v:II}{Y:Tok}(X:K.In s.heap)(I:InstAt s.heap x ox C none)(J:clsIn K C=some cd)(H:R5 cd.mro=true)(hh:cd.hasDict=true)(ht:findIn K (.ref C) name=some none){vs:Array II}(d:ox.data=.fields vs)(f:ox.dict=none)
 (h:∀i,i.get? x=some { ox with dict:=some s.heap.objs.size }->i.Ns1 s.heap.objs.size (λy=>if y=name then some v else none)->(∀b o,b≠x->s.heap.get? b=some o->i.get? b=some o)->R (.ok (.ret .none)) { s with heap:=i,toks:=s.toks+1 }) :
 codeAny (model prog w) A (.call (.builtin "object.__setattr__") ⟨[.ref x,.str name Y,v],[]⟩) R s:=by
 have l:=PySem.F.store_object;have ne:cd.mro.isEmpty=false:=by cases q:cd.mro with
  | nil=>rw[q]at H;cases H
  | cons _ _=>rfl
 have sub:Looks (model prog w) _ (isInstance _ _) true:=I.type.andThen (looks_mroIn X (by unfold mroIn;rw[J,Option.bind_some,if_neg (by rw[ne];decide),uD H]));refine Nz l.slot.plain l.entry (@check_slot _ _ _ s "object.__setattr__" "object" "__setattr__" _ [.str name Y,v] [] _ l.kind l.split sub (l.args _ _ v) ?_);have hm:Looks (model prog w) _ (mroOf (.ref C)) _:=(looks_clsIn X J).andThen .now;rw[osa_eq,refuse_eq];refine IE (IE (I.type.here (IE (hm.here ?_))));rw[uC _ H];refine IG (IE (I.type.here (IE ((Qe X ht).here (IE (IG ?_))))));obtain⟨L,m,hn,_⟩:=I;obtain⟨oc,a5,a6,n⟩:=ox;dsimp only at m d f;subst m d f;refine IE (IG (IE (IE (Qi L (IE ((looks_clsIn X J).here ?_))))));rw[hh];refine IE (wpAny_alloc ?_);have p:(s.heap.push { cls:=II.type "dict",data:=Nl #[] }).get? x=some { cls:=.ref C,data:=.fields vs,slots:=n }:=IF _ L;have g:=IQ L;refine IE (wpAny_update p ?_);refine IG ?_;have N:(s.heap.push { cls:=II.type "dict",data:=Nl #[] }).get? _=some { cls:=II.type "dict",data:=Nl #[] }:=IP _ rfl;have r:((s.heap.push { cls:=II.type "dict",data:=Nl #[] }).update x λo=>{ cls:=o.cls,dict:=some s.heap.objs.size,data:=o.data,slots:=o.slots }).get? s.heap.objs.size=some { cls:=II.type "dict",data:=Nl #[] }:=by
  rw[JS _ _ (IY g)];exact N
 have u:((s.heap.push { cls:=II.type "dict",data:=Nl #[] }).update x λo=>{ cls:=o.cls,dict:=some s.heap.objs.size,data:=o.data,slots:=o.slots }).get? x=some { cls:=.ref C,dict:=some s.heap.objs.size,data:=.fields vs,slots:=n }:=by
  rw[JY _ p rfl]
 have B:((s.heap.push { cls:=II.type "dict",data:=Nl #[] }).update x λo=>{ cls:=_,dict:=some _,data:=_,slots:=_ }).Ns1 _ _:=⟨_,#[],_,r,rfl,(λe he=>absurd he (by simp)),NC.nil,λ_=>rfl⟩;have kp:∀b o,b≠x->s.heap.get? b=some o->((s.heap.push { cls:=II.type "dict",data:=Nl #[] }).update x λo=>{ cls:=o.cls,dict:=some s.heap.objs.size,data:=o.data,slots:=o.slots }).get? b=some o:=λb o O e=>by
  rw[JS _ _ (Kk O)];exact IF _ e
 generalize(s.heap.push { cls:=II.type "dict",data:=Nl #[] }).update x _=h2 at r u B kp;refine IE (IG (IE ?_));refine wpAny_nsSet1 (s:={ s with heap:=h2 }) B λi D G=>?_;obtain⟨oD,a9,b0,Q,T,U⟩:=D.count (Oe.cons name v (ns:=[]) (λ_ z=>absurd rfl z));refine IE (wpAny_lookBehind Q (by rw[T];exact pastItsLine_dict (Jt U (by simp))) ?_);refine IG (h _ ((G.2 _ (IY g)).trans u) D λb o O e=>?_);exact(G.2 _ (IY (IQ e))).trans (kp b o O e)
end Ws
namespace Ws
open PySem PySem.W PyProof.Rows PySem.Calls L2
noncomputable def uE:Option Addr->II
 | none=>.none
 | some T=>.ref T
inductive nv (C:Addr) (d tb:Option Addr) (e:Addr) (h:Heap):Prop
 | mk (oe) (vs) (h0:h.get? e=some oe) (h1:oe.cls=.ref C) (h2:oe.dict=d) (h3:oe.data=.fields vs) (h4:vs[1]?=some (uE tb)) (h5:vs[2]?=some .none):nv C d tb e h
noncomputable def XO(C:Addr)(d a:Option Addr)(e:Addr):HO:=.ext (nv C d a e)
inductive pX (T:Addr) (fl:II) (h:Heap):Prop
 | mk (oT) (ts) (h0:h.get? T=some oT) (h1:oT.data=.fields ts) (h2:ts[3]?=some fl):pX T fl h
noncomputable def TO(T:Addr)(a:II):HO:=.ext (pX T a)
def pY(x:nv C d a e h):aA P w H h e (XO C d a e):=by
 obtain⟨b,p,c,q⟩:=id x;refine⟨x,⟨b,c⟩,λr s y k=>?_⟩;obtain⟨o,f,g,i,j,l,m,n⟩:=y;exact⟨o,f,k _ g,i,j,l,m,n⟩
def pZ(x:pX T a h):aA P w H h T (TO T a):=by
 obtain⟨b,i,c,j⟩:=id x;refine⟨x,⟨b,c⟩,λl m y k=>?_⟩;obtain⟨o,d,e,f,g⟩:=y;exact⟨o,d,k _ e,f,g⟩
def ny(I:L2.Inv X a σ H s)(h:H e=some (XO C d b e)):nv C d b e s.heap:=(I.hok e _ h).1
structure XK(K:IH)(C fI:Addr):Prop where
 obj:∃nm q N bs bm hdct sn sub ab col dd k0 k1 k2 k3 k5,K.lookup C=some (excClassObj nm q C N bs bm hdct sn sub ab col dd k0 k1 k2 k3 k5 "ValueError.__new__")/\R5 bm=true/\hdct=true
 init:findIn K (.ref C) "__init__" = some (some (.ref fI))
 fn:isFn K (.ref fI)=true
 kp:keepIn K (.ref C)=true
 sa:findIn K (.ref C) "__setattr__" = some (some (.builtin "object.__setattr__"))
 na:findIn K (.ref C) "at" = some none
theorem nz:∀{l:List II},R5 l=true->l.contains (.type "ValueError")=true/\l.contains (.type "BaseException")=true/\l.contains (.type "AttributeError")=false/\l.contains (.type "NameError")=false
 | .ref c::r,e=>by
   obtain⟨a,b,d,f⟩:=nz (l:=r) (by cases r<;>exact e);refine⟨?_,?_,?_,?_⟩<;>rw[KP]<;>first | rw[a] | rw[b] | rw[d] | rw[f]
   .exact Nk _
   .exact Nk _
   .rfl
   .rfl
 | [],e=>by cases e
 | .type n::r,e=>by rw[show II.type n::r=lR from beq_iff_eq.mp e];exact⟨rfl,rfl,rfl,rfl⟩
 | .none::r,e=>by cases e
 | .bool _::r,e=>by cases e
 | .int _ _::r,e=>by cases e
 | .str _ _::r,e=>by cases e
 | .bytes _ _::r,e=>by cases e
 | .float _ _::r,e=>by cases e
 | .builtin _::r,e=>by cases e
 | .ellipsis::r,e=>by cases e
 | .notImplemented::r,e=>by cases e
def XK.cls{K:IH}(x:XK K C c)(X:K.In h):nu h C "ValueError.__new__":=by
 obtain⟨d,q,N,bs,e,a,f,sub,g,b,i,j,l,m,n,o,p,r,_⟩:=x.obj;exact⟨d,q,N,bs,e,a,f,sub,g,b,i,j,l,m,n,o,X _ _ p,nz r⟩
def XK.cd{K:IH}(x:XK K C b):∃cd,clsIn K C=some cd/\R5 cd.mro=true/\cd.hasDict=true:=by
 obtain⟨g,q,N,bs,h,a,i,sub,j,c,l,m,n,o,p,r,d,e,f⟩:=x.obj;refine⟨_,by unfold clsIn;rw[d],?_,f⟩;exact e
def v9(ch:List Addr)(ok:bK P w H h)(r:∀b∈ch,∃d,H b=some (.ext d))(m:∀b∈fs,H b=none)
 (k:∀b u,b∉ch->b∉fs->h.get? b=some u->h'.get? b=some u) (j:∀b u,b∈fs->h.get? b=some u->∃j,h'.get? b=some { u with slots:=j })
 (C:∀b∈ch,∃o,h'.get? b=some o) (f:∀b u,b∉ch->H b=some u->H' b=some u) (x:∀b,b<h.objs.size->H b=none->H' b=none)
 (new:∀b u,b∈ch\/h.objs.size<=b->H' b=some u->aA P w H' h' b u):Un fs [] H H' h h'/\bK P w H' h':=by
 have p:∀b,H b=none->b∉ch:=λb n z=>by obtain⟨d,e⟩:=r b z;rw[n]at e;cases e
 have i:∀b u,H b=some u->b∉fs:=λb u e z=>by rw[m b z]at e;cases e
 have nx:∀b u,H b=some u->(∀d,u≠.ext d)->b∉ch:=λb u e q z=>by obtain⟨d,y⟩:=r b z;rw[e]at y;exact q d (Jw y)
 refine⟨⟨λb o e n a _=>k b o (p b n) a e,λb o e n a _=>j b o a e,λb o e n _=>x b (IQ e) n,λb o e _=>?_,λb D e=>f b _ (nx b _ e (by intro d q;cases q)) e,λb o u e=>f b _ (nx b _ e (by simp)) e,λb G e=>⟨#[],by rw[f b _ (nx b _ e (by simp)) e];simp⟩⟩,λb u e=>?_⟩
 .by_cases a:b∈ch
  .exact C b a
  .by_cases A:b∈fs
   .obtain⟨s,q⟩:=j b o A e;exact⟨_,q⟩
   .exact⟨o,k b o a A e⟩
 .by_cases a:b∈ch
  .exact new b u (.inl a) e
  .by_cases E:h.objs.size<=b
   .exact new b u (.inr E) e
   .rcases l:H b with _ | v
    .rw[x b (by walk_at "o") l]at e;cases e
    .have B:=f b v a l;rw[e]at B;cases B;refine(ok b u l).stay (λc o g q=>k c o ?_ ?_ q) (λc q=>f c _ (nx c _ q (by simp)) q) λc D q=>f c _ (nx c _ q (by intro d z;cases z)) q
     .rcases g with rfl | g
      .exact a
      .exact nx c _ g (by simp)
     .rcases g with rfl | g
      .exact i _ _ l
      .exact i _ _ g
section
variable{X:Cx}{o value:Expr}{pos pos':Pos}{to tv:TE}
def uF(K:IH)(to tv:TE):TS:=λD a H=>tv a H λy c=>to a c λx b=>∃e C f,x=.ref e/\b e=some (XO C none none e)/\XK K C f/\∀d,b d=none->d≠e->D.nx a (ax (ax b e (XO C (some d) none e)) d (.xd [("at",y)]))
def BM(O:PE X o to)(Q:PE X value tv)(hs:swapsWith value (some (.Attribute o "at" pos')) pos.line X.env=pure false):PS X (.Assign [.Attribute o "at" pos'] value pos) (uF X.K to tv):=by
 intro d s l H D I h;refine MU (aB (Q d s l H _ I h) λu T ⟨y,U,Y,ry,q⟩=>aB (O d T l U _ Y q) λov B zq=>?_) hs;obtain⟨x,H2,g,rx,e,C,fI,ex,m,n,q2⟩:=zq;subst ex;obtain rfl:ov=Jf e:=rx;obtain⟨oe,vs,E,G,L,p,h5,h6⟩:=ny g m;obtain⟨cd,c1,c2,c3⟩:=n.cd;have J:InstAt _ e oe C none:=⟨E,G,by unfold notCls;rw[p],by rw[L];trivial⟩;refine set_plain g.kIn J n.sa (BL g.kIn J c1 c2 c3 n.na p L λh' N g2 g3=>?_);have j:=g.hok.fresh (IM _);have r:=KU (IQ E);refine⟨l,_,?_,q2 _ j r⟩;have w:=ry;obtain⟨u1,u2⟩:=v9 (fs:=[]) (H':=ax (ax H2 e (XO C (some B.heap.objs.size) none e)) _ (.xd [("at",y)])) [e] g.hok (λb a=>by
  rw[IS.mp a];exact⟨_,m⟩) (λ_ z=>nomatch z) (λb o a _ q=>g3 b o (λz=>a (by simp[z])) q) (λ_ _ z=>nomatch z) (λb a=>by rw[IS.mp a];exact⟨_,N⟩)
  (λb v a q=>by rw[ah (E7 q j),ah (λz=>a (by simp[z]))];exact q)
  (λb a q=>by rw[ah (IY a),ah (λz=>by rw[z,m]at q;cases q)];exact q)
  (λb v a q=>by
   by_cases i:b=B.heap.objs.size
   .rw[i,C1]at q;cases q;rw[i];refine⟨_,g2,λf=>?_⟩;by_cases A:f="at"
    .subst A;exact w
    .have:=beq_eq_false_iff_ne.mpr A;simp[Mw,A,this,bI]
   .rw[ah i]at q;by_cases c:b=e
    .rw[c,C1]at q;cases q;rw[c];exact pY ⟨_,vs,N,G,rfl,p,h5,h6⟩
    .rw[ah c]at q;rcases a with a | a
     .exact absurd (IS.mp a) c
     .rw[g.hok.fresh a]at q;cases q)
 exact g.un (u1.mono (λ_ z=>nomatch z) λ_ z=>z) u2
end
def BN(f:Array II->Array II)(o:Obj):(KQ f o).dict=o.dict:=by
 obtain⟨c,d,a,b⟩:=o;cases a<;>rfl
inductive S6 (fl:II) (H:Hp) (e C:Addr) (v:V):Prop
 | mk (d) (tb) (h0:H e=some (XO C (some d) tb e)) (h1:H d=some (.xd [("at",v)])) (h2:∀T,tb=some T->H T=some (TO T fl)/\T≠e):S6 fl H e C v
def bX(H H':Hp):Prop:=∀b u,H b=some u->(∀a,u≠.ext a)->H' b=some u
def bX.refl(H:Hp):bX H H:=λ_ _ e _=>e
def bX.trans(a:bX H d)(b:bX d f):bX H f:=λc u e n=>b c u (a c u e n) n
section
variable{M:Rg}{A:JI}{E:II->IJ->Prop}{s:IJ}{P:Jg}{w:JJ}
def uG
 (H:A.frames=some (g::c)) (hl:s.heap.FunFrames base (g::c)) (hf:g.frame=some L)
 (he:s.heap.get? e=some G) (I:G.data=.fields vs) (J:1<vs.size)
 (h:∀z T oT ts,(∀b o,b≠e->b∉frs (g::c)->s.heap.get? b=some o->z.get? b=some o)->(∀b o,b≠e->b∈frs (g::c)->s.heap.get? b=some o->∃N,z.get? b=some { o with slots:=N })->
  s.heap.objs.size<=T->z.get? e=some (KQ (·.setIfInBounds 1 (Jf T)) G)->z.get? T=some oT->oT.data=.fields ts->ts[3]?=some (rawInt L)->Q () { s with heap:=z }) :
 wpAny M A (do let a <-frameOf g;let p <-entryPlaceOf L j;let b <-EntryCells.newEntry i a .none (rawInt L) .none p;setField (.ref e) 1 b) Q E s:=by
 have B:e∉(g::c).filterMap _:=λhm=>by
  obtain⟨_,o,D,O⟩:=hl.mem hm;rw[he]at D;injection D with D;subst D;exact O vs I
 refine IE (wpAny_frameOf_fun H hl hf λd f=>?_);refine IE (wpAny_entryPlaceOf λp U=>?_);refine IE (Ke ?_ (U.sizeOk5 _ _ _ _ _));have l:=(f.2.1 e B).trans he;have m:=IF { cls:=.type "traceback",dict:=none,data:=.fields ([i,.ref L,.none,rawInt L,.none]++(if p.isEmpty then Mo 6 Ks else p)).toArray } l;have Y:=KU (IQ l);have v:=JX I (·.setIfInBounds 1 (Jf d.objs.size));have x:=JY _ m (Lj v);have y:=(JS (d.push { cls:=.type "traceback",dict:=none,data:=.fields ([i,.ref L,.none,rawInt L,.none]++(if p.isEmpty then Mo 6 Ks else p)).toArray })
  (KQ (·.setIfInBounds 1 (Jf d.objs.size))) (Kk Y)).trans (IP d rfl)
 have keep:∀b o,b≠e->d.get? b=some o->
  ((d.push { cls:=.type "traceback",dict:=none,data:=.fields ([i,.ref L,.none,rawInt L,.none]++(if p.isEmpty then Mo 6 Ks else p)).toArray }).update e (KQ (·.setIfInBounds 1 (Jf d.objs.size)))).get? b=some o:=
  λb o n C=>by
   rw[JS _ _ (Kk n)];exact IF _ C
 refine LI m I J (h _ _ _ _ (λb o n a0 C=>keep b o n ((f.2.1 b a0).trans C)) (λb o n _ C=>?_) (by rw[f.1];exact IM _) x y rfl rfl);obtain⟨N,q⟩:=f.2.2 b o C;exact⟨N,keep b _ n q⟩
def qa(ok:bK P w H s.heap)(f:S6 L H e C v)
 (h:∀p H',Un [] [] H H' s.heap p->bK P w H' p->S6 .none H' e C v->bX H H'->Q () { s with heap:=p }):wpAny M A (setFlight (.ref e) none) Q E s:=by
 obtain⟨d,N,r,m,O⟩:=f;obtain⟨oe,vs,B,g2,g3,D,G,g6⟩:=(ok e _ r).1;cases N with
 | none=>
   refine IE (JB B D G ?_);exact IG (h _ H Un.refl ok ⟨d,none,r,m,λT z=>nomatch z⟩ (bX.refl H))
 | some T=>
   obtain⟨l,I⟩:=O T rfl;obtain⟨oT,ts,J,x,U⟩:=(ok T _ l).1;have g:=(Mj.mp U).1;refine IE (JB B D G ?_);have j:∀b,b≠T->(s.heap.update T (KQ (·.setIfInBounds 3 ((none:Option Addr).elim Ks λf=>rawInt f)))).get? b=s.heap.get? b:=λb a=>JS _ _ (Kk a);have i:=JY (KQ (·.setIfInBounds 3 ((none:Option Addr).elim Ks λf=>rawInt f))) J (Lj (JX x _));obtain⟨Y,u2⟩:=v9 (fs:=[]) (H':=ax H T (TO T .none)) [T] ok
    (λb a=>by rw[IS.mp a];exact⟨_,l⟩) (λ_ z=>nomatch z) (λb o a _ q=>(j b (λz=>a (by simp[z]))).trans q) (λ_ _ z=>nomatch z) (λb a=>by rw[IS.mp a];exact⟨_,i⟩)
    (λb u a q=>by rw[ah (λz=>a (by simp[z]))];exact q) (λb _ q=>by rw[ah (λz=>by rw[z,l]at q;cases q)];exact q)
    (λb u a q=>by
     by_cases c:b=T
     .rw[c,C1]at q;cases q;rw[c];exact pZ ⟨_,_,i,JX x _,by simp[g]⟩
     .rw[ah c]at q;rcases a with a | a
      .exact absurd (IS.mp a) c
      .rw[ok.fresh a]at q;cases q)
   refine LI J x g (h _ _ Y u2 ⟨d,some T,by rw[ah (Kk I)];exact r,by rw[ah (λz=>by rw[z,l]at m;cases m)];exact m,λT' z=>?_⟩ λb u q n=>?_)
   .cases z;exact⟨C1,I⟩
   .rw[ah (λz=>by rw[z,l]at q;exact n _ (Jw q).symm)];exact q
def uH(U:A.frames=some (i::c))(hl:s.heap.FunFrames base (i::c))(hf:i.frame=some L)
 (B:∀b∈frs (i::c),H b=none) (ok:bK P w H s.heap) (f:S6 .none H e C v)
 (h:∀h' H',Un (frs (i::c)) [] H H' s.heap h'->bK P w H' h'->S6 (rawInt L) H' e C v->bX H H'->Q () { s with heap:=h' }):wpAny M A (noteFrame (.ref e) i) Q E s:=by
 obtain⟨d,tb,p,f2,f3⟩:=f;obtain⟨oe,vs,g1,g2,g3,g4,g5,g6⟩:=(ok e _ p).1;have D:=(Mj.mp g5).1;unfold noteFrame;simp only[hf];refine IE (JB g1 g4 g5 ?_);have fin:∀(ch:List Addr)(h0 h':Heap)(T:Addr)(O:Obj)(G:Array II),(∀b∈ch,∃φ,H b=some (.ext φ))->e∈ch->(∀b∈ch,b≠e->∃o,h'.get? b=some o/\∀u,H b=some u->aA P w (ax (ax H e (XO C (some d) (some T) e)) T (TO T (rawInt L))) h' b u)->
  (∀b o,b∉ch->b∉frs (i::c)->s.heap.get? b=some o->h'.get? b=some o)->(∀b o,b∈frs (i::c)->s.heap.get? b=some o->∃sl,h'.get? b=some { o with slots:=sl })->
  s.heap.objs.size<=T->h'.get? e=some (KQ (·.setIfInBounds 1 (Jf T)) oe)->h'.get? T=some O->O.data=.fields G->G[3]?=some (rawInt L)->Q () { s with heap:=h' }:=by
  intro ch h0 h' T O G hx b1 a0 hk hs hT he b2 b3 b5;have m:=ok.fresh hT;have a1:T≠e:=λz=>by rw[z,p]at m;cases m
  obtain⟨u1,u2⟩:=v9 (H':=ax (ax H e (XO C _ (some T) e)) T (TO T _)) ch ok hx B hk hs
   (λb a=>by
    by_cases j:b=e
    .rw[j];exact⟨_,he⟩
    .obtain⟨o,q,_⟩:=a0 b a j;exact⟨o,q⟩)
   (λb u a q=>by rw[ah (E7 q m),ah (λz=>a (by rw[z];exact b1))];exact q)
   (λb a q=>by rw[ah (IY (Jc a hT)),ah (λz=>by rw[z,p]at q;cases q)];exact q)
   (λb u a q=>by
    by_cases I:b=T
    .rw[I,C1]at q;cases q;rw[I];exact pZ ⟨_,_,b2,b3,b5⟩
    .rw[ah I]at q;by_cases j:b=e
     .rw[j,C1]at q;cases q;rw[j];exact pY ⟨_,_,he,(MX _ _).trans g2,(BN _ _).trans g3,JX g4 _,by simp[D,uE],by rw[Array.getElem?_setIfInBounds_ne (by simp)];exact g6⟩
     .rw[ah j]at q;rcases a with a | a
      .obtain⟨o,_,r⟩:=a0 b a j;exact r u q
      .rw[ok.fresh a]at q;cases q)
  refine h h' _ u1 u2 ⟨d,some T,by rw[ah (Kk a1)];exact C1,?_,λT' z=>?_⟩ λb u q n=>?_
  .rw[ah (E7 f2 m),ah (λz=>by rw[z,p]at f2;cases f2)];exact f2
  .cases z;exact⟨C1,a1⟩
  .rw[ah (E7 q m),ah (λz=>by rw[z,p]at q;exact n _ (Jw q).symm)];exact q
 have fe:e∉frs _:=λz=>by rw[B e z]at p;cases p
 cases tb with
 | none=>
   refine uG U hl hf g1 g4 D λh' T O G k1 k2 k3 k4 k5 k6 k7=>fin [e] s.heap h' T O G (λb a=>by rw[IS.mp a];exact⟨_,p⟩) (by simp) (λb a z=>absurd (IS.mp a) z) (λb o a J q=>k1 b o (λz=>a (by simp[z])) J q) (λb o a q=>k2 b o (λz=>fe (by rw[<-z];exact a)) a q) k3 k4 k5 k6 k7
 | some x=>
   obtain⟨f4,f5⟩:=f3 x rfl;obtain⟨O,G,t1,t2,t3⟩:=(ok x _ f4).1;have y:=(Mj.mp t3).1;have fT:x∉frs _:=λz=>by rw[B x z]at f4;cases f4
   refine IE (JB t1 t2 t3 ?_);refine IE (LI t1 t2 y ?_);have g:∀b,b≠x->(s.heap.update x (KQ (·.setIfInBounds 3 Ks))).get? b=s.heap.get? b:=λb a=>JS _ _ (Kk a);have a4:=JY (KQ (·.setIfInBounds 3 Ks)) t1 (Lj (JX t2 _));have l:∀b o,s.heap.get? b=some o->(∀vs,o.data≠.fields vs)->b≠x:=λb o a N q=>by
    rw[q,t1]at a;injection a with a;subst a;exact N G t2
   refine uG U (hl.of_keeps λb o a N=>⟨o,(g b (l b o a N)).trans a,rfl⟩) hf ((g e (Kk f5)).trans g1) g4 D λh' T d2 e0 k1 k2 k3 k4 k5 k6 k7=>fin [e,x] s.heap h' T d2 e0 (λb a=>?_) (by simp) (λb a z=>?_) (λb o a J q=>?_) (λb o a q=>?_) ?_ k4 k5 k6 k7
   .rcases IT.mp a with rfl | a
    .exact⟨_,p⟩
    .rw[IS.mp a];exact⟨_,f4⟩
   .obtain rfl:b=x:=by
     rcases IT.mp a with a | a
     .exact absurd a z
     .exact IS.mp a
    have q:=k1 b _ z fT a4;refine⟨_,q,λu hu=>?_⟩;rw[f4]at hu;cases hu;exact pZ ⟨_,_,q,JX t2 _,by simp[y]⟩
   .exact k1 b o (λz=>a (by simp[z])) J ((g b (λz=>a (by simp[z]))).trans q)
   .exact k2 b o (λz=>fe (by rw[<-z];exact a)) a ((g b (λz=>fT (by rw[<-z];exact a))).trans q)
   .have:=k3;rw[Mt]at this;exact this
def BO(g:A.frames=some (c::a))(m:s.heap.FunFrames base (c::a))(n:c.frame=some L)
 (i:∀b∈frs (c::a),H b=none) (ok:bK P w H s.heap) (f:S6 .none H e C v)
 (h:∀j d,Un (frs (c::a)) [] H d s.heap j->bK P w d j->S6 .none d e C v->bX H d->Q () { s with heap:=j }):wpAny M A (leaving c (.ref e)) Q E s:=by
 refine IE (uH g m n i ok f λI J o p q r=>?_);exact qa p q λu x y B D G=>h u x (o.trans (y.mono nofun λ_ z=>z)) B D (r.trans G)
end
section
variable(K:IH)(cm:Nat->Addr)
def cM(f:List Addr)(H:Hp)(c:Nat)(v:PV)(A':PHp)(g:Addr->Hp->Prop):Prop:=∀b d a e,au f H b d->aF K cm b A' d->RV b d v e->S6 .none d a (cm c) e->g a d
def dc(e:List Addr)(H:Hp)(g:Addr->Hp->Prop)(Q:VK):R PV->Prop
 | .ok v d=>∀a b f,au e H a b->aF K cm a d b->RV a b v f->Q f b
 | .ex c v d=>cM K cm e H c v d g
 | .no=>False
inductive nA (XQ:Addr->Hp->Prop) (d:ED) (σ:L2.St) (H:Hp) (Q:VK):Prop
 | mk (ρ:List Addr) (A:PHp) (σp:PSt) (h0:aF K cm ρ A H) (h1:bG ρ H σp σ) (h2:dc K cm ρ H XQ Q (d σp A)):nA XQ d σ H Q
inductive gC (f:Fun) (n:Nat) (vs:List V) (H:Hp) (Q:VK) (E:L2.XK):Prop
 | mk (ρ:List Addr) (A:PHp) (ps:List PV) (h0:aF K cm ρ A H) (h1:RVs ρ H ps vs) (h2:ps.length=n) (h3:dc K cm ρ H (λa H'=>E (.ref a) none H') Q (f ps A)):gC f n vs H Q E
def cO(e:List Addr)(H:Hp)(g:Addr->Hp->Prop)(D:o8):R Fl->Prop
 | .ok f b=>∀a d,au e H a d->aF K cm a b d->mR D a d f
 | .ex c v b=>cM K cm e H c v b g
 | .no=>False
inductive bt (XE:Addr->Hp->Prop) (s:SD) (D:o8) (σ:L2.St) (H:Hp):Prop
 | mk (ρ:List Addr) (A:PHp) (σp:PSt) (h0:aF K cm ρ A H) (h1:bG ρ H σp σ) (h2:cO K cm ρ H XE D (s σp A)):bt XE s D σ H
end
section
variable{K:IH}{cm:Nat->Addr}{ρ ρ1:List Addr}{H H1:Hp}{XQ:Addr->Hp->Prop}{Q:VK}{D:o8}
def cM.ext(h:cM K cm ρ H c v A' XQ)(x:au ρ H ρ1 H1):cM K cm ρ1 H1 c v A' XQ:=λb d a e y r g f=>h b d a e (x.trans y) r g f
def dc.ext(h:dc K cm ρ H XQ Q r)(x:au ρ H ρ1 H1):dc K cm ρ1 H1 XQ Q r:=by
 cases r with
 | ok v b=>exact λa d e y f g=>h a d e (x.trans y) f g
 | ex c v b=>exact cM.ext h x
 | no=>exact h
def cO.ext(h:cO K cm ρ H XQ D r)(x:au ρ H ρ1 H1):cO K cm ρ1 H1 XQ D r:=by
 cases r with
 | ok v b=>exact λa d y e=>h a d (x.trans y) e
 | ex c v b=>exact cM.ext h x
 | no=>exact h
def bX.ext(c:bX H H'):au ρ H ρ H':=⟨Jk _,λa b h=>c a _ h (by simp),λa b h=>c a _ h (by simp)⟩
def BP(r:RO K cm ρ H a o)(c:bX H H'):RO K cm ρ H' a o:=by
 have e:au ρ H ρ H':=c.ext;cases o with
 | lst l=>obtain⟨i,h,q⟩:=r;exact⟨i,c _ _ h (by intro b z;cases z),q.mono e⟩
 | ro l=>
   obtain⟨i,h,q⟩:=r;rcases h with⟨u,h⟩ | h
   .exact⟨i,.inl ⟨u,c _ _ h (by intro b z;cases z)⟩,q.mono e⟩
   .exact⟨i,.inr h,q.mono e⟩
 | dI g=>obtain⟨f,h,q⟩:=r;exact⟨f,c _ _ h (by intro b z;cases z),q.mono e⟩
 | ins j fs=>obtain⟨m,n,f,h,q⟩:=r;exact⟨m,n,f,c _ _ h (by intro b z;cases z),q.mono e⟩
 | dS g=>obtain⟨f,h,q⟩:=r;exact⟨f,c _ _ h (by intro b z;cases z),q.mono e⟩
 | dT g=>obtain⟨f,h,q⟩:=r;exact⟨f,c _ _ h (by intro b z;cases z),q.mono e⟩
 | hid=>exact trivial
 | exc j v=>obtain⟨o,d,p,h,s,w,x,y,q⟩:=r;exact⟨o,d,p,c _ _ h (by intro b z;cases z),s,w,x,c _ _ y (by intro b z;cases z),q.mono e⟩
def aF.calm(r:aF K cm ρ A H)(c:bX H H'):aF K cm ρ A H':=⟨r.tab.keep (λa u h b=>c a u h λf z=>by rw[z]at b;rcases b with⟨_,y⟩ | ⟨_,_,y⟩<;>cases y),r.len,λn o a d e=>BP (r.obj n o a d e) c,r.inj⟩
end
def eN(P:Jg)(w:JJ):CXT:=λb H s E e c=>∃a C v d,e=.ref a/\c.os=s.os/\OJ c.gens/\Un (frs b) [] H d s.heap c.heap/\bK P w d c.heap/\S6 .none d a C v/\E (.ref a) none d
inductive ir (X:Cx) (pins:List (Addr×Obj)) (σ:L2.St) (XQ:Addr->Hp->Prop) (e:II) (s':IJ):Prop
 | mk (a) (C) (v) (H') (h0:e=.ref a) (h1:L2.Inv X pins σ H' s') (h2:S6 .none H' a C v) (h3:XQ a H'):ir X pins σ XQ e s'
def PEx(X:Cx)(c:Nat->Addr)(e:Expr)(d:ED):Prop:=
 ∀(a:List (Addr×Obj))(s:IJ)(σ:L2.St)(H:Hp)(Q:VK)(b:Addr->Hp->Prop),L2.Inv X a σ H s->nA X.K c b d σ H Q->wpAny (model X.prog X.w) X.A (eval e X.env) (EP X a σ Q) (ir X a σ b) s
def BQ(I:L2.Inv X pins σ H s)(h:eN X.prog X.w X.stack H s E e s'):ir X pins σ (λa i=>E (.ref a) none i) e s':=by
 obtain⟨a,C,v,i,rfl,os,c,un,j,f,q⟩:=h;obtain⟨m,g,d,t,l⟩:=s';obtain rfl:l=s.os:=os;exact⟨a,C,v,i,rfl,I.call un j c (λb z=>absurd z (by simp)),f,q⟩
def BR(F:av X.prog X.w X.K X.mg X.base (eN X.prog X.w) k f g ps i)(j:aK k X.A)(l:L2.Binds X.K g ps [])
 (I:L2.Inv X pins σ H s) (r:ay vs b) (h:i vs H Q E):wpAny (model X.prog X.w) X.A (call (.ref f) b) (EP X pins σ Q) (ir X pins σ λa m=>E (.ref a) none m) s:=by
 have n:b.length=ps.length:=by rw[<-r.length];exact F.len _ _ _ _ h
 have c:=l s b I.kIn (by rw[Kn];exact n);rw[Kn]at c;refine Mz (LR (F.run X.A _ s H ⟨b,[]⟩ b vs Q E j I.env0 c r h) λr s' d=>?_);cases r with
 | error e=>exact BQ I d
 | ok o=>
   cases o with
   | ret u=>exact I.after d
   | next=>exact Jl d
   | brk=>exact Jl d
   | cont=>exact Jl d
def BU(h:ir X pins σ (λa c=>∃b,Jf a=.ref b/\d b c) e s'):ir X pins σ d e s':=by
 obtain⟨a,C,v,c,f,I,g,b,i,j⟩:=h;cases i;exact⟨a,C,v,c,f,I,g,j⟩
def BV(ho:PE X.nox o (cB X.K cm d))(hc:dy X.K (cm c))(hm:hI X.K (cm c) m fa)
 (F:av X.prog X.w X.K X.mg X.base (eN X.prog X.w) k fa fd ps (gC X.K cm f n)) (hn:∀vs A,f vs A≠.no->vs.length=n) (c0:∀i,i<19->cA i≠m) (hr:aK k X.A) (hb:L2.Binds X.K fd ps []) (ha:PA X.nox (e::es) (fy X.K cm ds))
 (c1:starEach (e::es) X.env=(false,eval e X.env)::starEach es X.env:=by exact D9 rfl) (c2:(backTo B (starEach es X.env)).any (·.1)=false:=by rfl)
 (ht:eval (.Call (.Attribute o m D) (e::es) [] B) X.env=(do
  let ov <-eval o X.env
  standAt D.atName
  let(f,first) <-holding [ov] (getMethod ov m pl)
  callWith B f first (backTo B (starEach (e::es) X.env)) (backToKw B (keywordEach [] X.env))):=by rfl) :
 PEx X cm (.Call (.Attribute o m D) (e::es) [] B) (b9 c f d ds):=by
 intro T s σ H Q XQ I ⟨ρ,A,G,rl,rs,g⟩;unfold b9 ak cN at g;rcases hd:d G A with⟨x,A1⟩ | ⟨c',v,A1⟩ | _
 case ex=>rw[hd]at g;exact Jl g
 case no=>rw[hd]at g;exact Jl g
 rw[hd]at g;refine Ng (Jv (ho T s σ H (λv1 U=>∃y,au ρ H y U/\aF X.K cm y A1 U/\RV y U x v1) (I.wish _) ⟨ρ,A,G,x,A1,rl,rs,hd,λy U v1 x1 L N=>⟨y,x1,L,N⟩⟩) (λu s1 zq=>?_) λ_ _ z=>Jl z) ht;obtain⟨x',U,I1,rx,y,x1,L,N⟩:=zq;cases x with
 | ref j=>
   rcases hi:q9 j A1 with⟨ob,A2⟩ | ⟨c',v,A2⟩ | _
   case ex=>simp only[ak]at g;unfold q9 at hi;split at hi<;>cases hi
   case no=>simp only[ak]at g;rw[hi]at g;exact Jl g
   obtain⟨rfl,hA,a,dx,kv,rfl,g7,hH,hp,hs⟩:=t7 L N hi;have J:dc X.K cm ρ H XQ Q (ak (q9 j) (λo=>D8 (o.1=c) (ak (cN (ds G)) λvs=>f (.ref j::vs))) A2):=g;rw[aG hi]at J;have h:=J;clear g J;by_cases Y:ob.1=c
   case neg=>rw[show D8 _ _=stuck from if_neg Y]at h;exact Jl h
   rw[Q5 Y]at h;subst Y;have c4:kv.lookup m=none:=by
    have d1:∀(l:List (Str×V)),(∀z∈l.map (·.1),z≠m)->l.lookup m=none:=λl=>by
     induction l with
     | nil=>simp
     | cons p q ih=>
       intro hz;rw[Nr,beq_eq_false_iff_ne.mpr (λz=>hz p.1 (by simp) z.symm)];exact ih λz a5=>hz z (by simp at a5 ⊢;exact .inr a5)
    refine d1 kv λz hz=>?_;rw[hp.keys]at hz;obtain⟨q,hq,rfl⟩:=IU.mp hz;exact c0 _ (hs q hq)
   obtain rfl:u=Jf a:=rx;refine m3 I1.unwish hH hc hm c4 ?_;unfold ak cN at h;rcases O:ds G A2 with⟨xs,A3⟩ | ⟨c',v,A3⟩ | _
   case ex=>rw[O]at h;exact Jl h
   case no=>rw[O]at h;exact Jl h
   rw[O]at h;have g:dc X.K cm ρ H XQ Q (f _ A3):=h;refine Mb I.ok.mod.kin hm.kp (Jv (ha B T s1 σ U (λa6 H2=>∃C,au y U C H2/\aF X.K cm C A3 H2/\RVs C H2 xs a6) I1 ⟨y,A2,G,xs,A3,L,rs.mono x1,O,λC H2 a6 x2 a1 a2=>⟨C,x2,a1,a2⟩⟩) (λus s2 ⟨vs,H2,I2,r,C,x2,a1,a2⟩=>⟨I2.kIn,?_⟩) λ_ _ z=>Jl z) c1 c2;refine Jv (BR (vs:=.ref a::vs) (E:=λe _ H'=>∃b,e=.ref b/\XQ b H') F hr hb I2.unwish (.cons rfl r) ⟨C,A3,.ref j::xs,a1,.cons (N.mono x2) a2,hn _ A3 (λz=>by rw[z]at g;exact g),?_⟩) (λ_ _ z=>z) λ_ _ z=>BU z;have o2:=(g.ext x1).ext x2;revert o2;cases f _ A3 with
   | ok v A'=>exact λz=>z
   | ex c v A'=>simp
   | no=>exact λz=>z
 | _=>exact Jl g
def nB(X:Cx)(c:Addr->Hp->Prop):Prop:=∀(b:List (Addr×Obj))(σ:L2.St)(H:Hp)(s:IJ)(a C:Addr)(v:V),L2.Inv X b σ H s->S6 .none H a C v->c a H->X.xe (.ref a) s
def noX_inv{c:Type}{m:M c}{r:R c}(h:cN m A=r):(∃a b,m A=.ok a b/\r=.ok a b)\/r=.no:=by
 unfold cN at h;rcases d:m A with⟨a,b⟩ | _ | _<;>rw[d]at h
 .exact .inl ⟨a,b,rfl,h.symm⟩
 .exact .inr h.symm
 .exact .inr h.symm
def BW{st:Stmt}(h:PS X.nox st t):PS X st t:=λa s b H D I c=>
 Jv (h a s b H D (I.wish _) c) (λ_ _ q=>q.unwish) λ_ _ z=>Jl z
def lS{st:Stmt}(h:PS X.nox st (gh X.K cm s)):PS X st (bt X.K cm XE (cx s)):=O9 (BW h) λD j H c=>by
 obtain⟨a,A,b,d,g,o⟩:=c;rcases noX_inv rfl with⟨f,i,e,q⟩ | q
 .have o:cO X.K cm a H XE D (cN _ A):=o;rw[q]at o;exact⟨a,A,b,f,i,d,g,e,o⟩
 .have o:cO X.K cm a H XE D (cN _ A):=o;rw[q]at o;exact Jl o
def jA{st:List Stmt}(h:bP X.nox st (gh X.K cm s)):bP X st (bt X.K cm XE (cx s)):=mS (bP.nox h) λD j H c=>by
 obtain⟨a,A,b,d,g,o⟩:=c;rcases noX_inv rfl with⟨f,i,e,q⟩ | q
 .have o:cO X.K cm a H XE D (cN _ A):=o;rw[q]at o;exact⟨a,A,b,f,i,d,g,e,o⟩
 .have o:cO X.K cm a H XE D (cN _ A):=o;rw[q]at o;exact Jl o
def gD{st:Stmt}(h:PS X st (bt X.K cm XE s)):bP X [st] (bt X.K cm XE s):=mr h
def fJ{st:Stmt}(m:PS X st (bt X.K cm XE s))(n:bP X rest (bt X.K cm XE r)):bP X (st::rest) (bt X.K cm XE (ao s r)):=
 mS (rO m n) λD B H p=>by
  obtain⟨q,A,e,u,w,o⟩:=p;refine⟨q,A,e,u,w,?_⟩;unfold ao ak at o;rcases x:s e A with⟨f,j⟩ | ⟨c,v,j⟩ | _<;>rw[x]at o
  .intro a l h b;cases f with
   | nx i=>exact λg d=>⟨a,j,i,b,d,cO.ext o h⟩
   | rt v=>exact λy z=>o a l h b y z
   | _=>exact λg d=>o a l h b g d
  .exact o
  .exact o
def lT(l:PT X.nox c (fc X.K cm t))(m:bP X a (bt X.K cm XE s))(n:bP X b (bt X.K cm XE u)):PS X (.If c a b h) (bt X.K cm XE (aP (cY t) s u)):=
 O9 (rQ (PT.nox l) m n) λD y H p=>by
  obtain⟨r,A,d,v,i,o⟩:=p;unfold aP cY ak at o;rcases noX_inv rfl with⟨x,j,w,q⟩ | q<;>rw[q]at o
  .refine⟨r,A,d,x,j,v,i,w,λe z g f=>?_⟩;cases x with
   | true=>exact⟨e,j,d,f,i.mono g,cO.ext o g⟩
   | false=>exact⟨e,j,d,f,i.mono g,cO.ext o g⟩
  .exact Jl o
def BX(i:nB X XE)(h:PEx X cm e d):PE X e (nA X.K cm XE d):=λb s g H Q I ⟨j,A,c,l,m,o⟩=>
 Jv (h b s g H Q XE I ⟨j,A,c,l,m,o⟩) (λ_ _ z=>z) λw n ⟨a,C,v,p,r,u,f,q⟩=>by subst r;exact i b g p n a C v u f q
def gE(m:nB X XE)(h:PEx X cm e d)(hs:swapsWith e none a.line X.env=pure false:=by rfl):PS X (.Expr e a) (bt X.K cm XE (aU d)):=
 O9 (rP (BX m h) hs) λD n H p=>by
  obtain⟨q,A,b,r,j,o⟩:=p;refine⟨q,A,b,r,j,?_⟩;unfold aU ak at o;rcases hs:d b A with⟨f,s⟩ | ⟨c,v,s⟩ | _<;>rw[hs]at o
  .exact λg u x l i w=>o g u l i n (j.mono l)
  .exact o
  .exact o
def BY(a:Un fs [] p H i h)(b:Un (L::fs) [] H H' h h')(r:i.objs.size<=L):Un fs [] p H' i h':=by
 have ne:∀b o,i.get? b=some o->b≠L:=λb o e=>IY (Jc (IQ e) r);refine⟨λc o e n g d=>?_,λc o e n g d=>?_,λc o e n d=>?_,λc o e d=>?_,λc q e=>b.tups c q (a.tups c q e),λc o u e=>b.frzs c o u (a.frzs c o u e),λc s e=>?_⟩
 .exact b.keep c o (a.keep c o e n g d) (a.free c o e n d) (λz=>(IT.mp z).elim (ne c o e) g) d
 .obtain⟨x,f⟩:=a.slot c o e n g d;obtain⟨j,l⟩:=b.slot c _ f (a.free c o e n d) (IZ _ g) d;exact⟨j,l⟩
 .obtain⟨m,f⟩:=a.there c o e d;exact b.free c m f (a.free c o e n d) d
 .obtain⟨m,f⟩:=a.there c o e d;exact b.there c m f d
 .obtain⟨v,f⟩:=a.tbls c s e;obtain⟨w,l⟩:=b.tbls c _ f;exact⟨v++w,by rw[l,Of]⟩
def nC(E:L2.XK)(a:Addr)(H':Hp):Prop:=∃C v,S6 .none H' a C v/\∀b,bX H' b->S6 .none b a C v->E (.ref a) none b
def fK{K:IH}:nB (p6 (eN P w) P w K mg base N e b f h A d l m E) (nC E):=by
 intro i o H s a p r I _ ⟨C,v,n,q⟩;refine BO (P:=P) (w:=w) I.ok.frames I.stack rfl I.stkFree I.hok n λx j u ok g c=>?_;refine⟨a,C,v,j,rfl,I.os,I.bare,?_,ok,g,q j c g⟩;exact BY I.base (u.mono I.stkSub λ_ z=>z) (IM _)
def BZ{K:IH}(h:dc K cm z H (λa f=>E (.ref a) none f) Q (fn n p s i B)) :
 cO K cm z H (nC E) { nx:=λ_ f=>Q .non f,rt:=Q } (s (Ws.start n i) B):=by
 unfold fn at h;by_cases A:i.length=p
 case neg=>rw[show D8 _ _=stuck from if_neg A]at h;exact Jl h
 rw[Q5 A]at h;unfold ak at h;rcases C:s _ B with⟨o,D⟩ | ⟨c,v,D⟩ | _<;>rw[C]at h
 .cases o with
  | nx G=>exact λb j l d I _=>h b j _ l d .non
  | rt u=>exact λb j l d g m=>h b j g l d m
  | _=>exact Jl h
 .exact λq f a g x J L r=>⟨cm c,g,r,λy calm e=>h q y a g (x.trans calm.ext) (J.calm calm) (L.mono calm.ext) e⟩
 .exact h
def Ca{K:IH}{st:Stmt}(F:L2.Fun K x b st f j)(S:P6 N ps (C2 st))
 (d:∀(c:II)(A:JI)(a:List Env)(e:IJ)(H:Hp)(E:L2.XK),aK k (A.deeper (JH b (C2 st) e.heap.objs.size f c))->
  bP (p6 (eN P w) P w K mg base N b (C2 st) f c A a e H E) (G0 st) (bt K cm (nC E) s)) :
 av P w K mg base (eN P w) (k+1) f j ps (gC K cm (fn N.length ps.length s) ps.length):=by
 obtain⟨y,z,kV,q,C,D,c,G,r,rfl,lk,g⟩:=F.ex;refine oA lk g S (λu H Q E ⟨l,A,m,n,i,p,_⟩=>by rw[<-i.length];exact p) λA a e H u Q E v h=>⟨_,d c A a e H E v,?_⟩;obtain⟨l,B,m,n,i,p,o⟩:=h;exact⟨l,B,Ws.start _ m,n,bG.start0 i,BZ o⟩
def Cb(h:fn n p s vs A≠.no):vs.length=p:=by
 by_cases a:vs.length=p
 .exact a
 .exfalso;apply h;show D8 _ _ A=_;rw[show D8 _ _=stuck from if_neg a];rfl
structure lU(P:Jg)(w:JJ)(K:IH)(mg:Str->Option II)(base:Heap)(cm:Nat->Addr)(c:Nat)(m:Str)(k:Nat)(ps:List Str)(f:Fun)(n:Nat):Prop where
 ex:∃(fa:Addr)(fd:Jh),av P w K mg base (eN P w) k fa fd ps (gC K cm f n)/\hI K (cm c) m fa/\L2.Binds K fd ps []
 len:∀vs A,f vs A≠.no->vs.length=n
def Cc(D:lU X.prog X.w X.K X.mg X.base cm c m k ps f n)(r:k<=l)(s:aK l X.A)(u:dy X.K (cm c))(v:PE X.nox o (cB X.K cm d))(x:PA X.nox (e::es) (fy X.K cm p))(g:∀i,i<19->cA i≠m)
 (h:starEach (e::es) X.env=(false,eval e X.env)::starEach es X.env:=by exact D9 rfl) (j:(backTo a (starEach es X.env)).any (·.1)=false:=by rfl)
 (y:eval (.Call (.Attribute o m b) (e::es) [] a) X.env=(do
  let ov <-eval o X.env
  standAt b.atName
  let(f,first) <-holding [ov] (getMethod ov m q)
  callWith a f first (backTo a (starEach (e::es) X.env)) (backToKw a (keywordEach [] X.env))):=by rfl) :
 PEx X cm (.Call (.Attribute o m b) (e::es) [] a) (b9 c f d p):=by
 obtain⟨C,E,F,z,B⟩:=D.ex;exact BV v u z F D.len g (s.mono r) B x h j y
def kA(K:IH):Sp:=λa H Q _=>∃e C b v,a=[.ref e,v]/\H e=some (XO C none none e)/\XK K C b/\∀d,H d=none->d≠e->Q .non (ax (ax H e (XO C (some d) none e)) d (.xd [("at",v)]))
def Cd{K:IH}{base:Heap}{x b:Str}{st:Stmt}{f:Addr}{j:Jh}{k:Nat}{N:List Str}(F:L2.Fun K x b st f j)(S:P6 N N (C2 st))(m:N.length=2)
 (g:∀(c:II)(A:JI)(a:List Env)(i:IJ)(H:Hp)(E:L2.XK),aK k (A.deeper (JH b (C2 st) i.heap.objs.size f c))->
  bP (p6 aO P w K mg base N b (C2 st) f c A a i H E).nox (G0 st) (uF K (fh 0) (fh 1))) :
 av P w K mg base aO (k+1) f j N (kA K):=by
 refine F.ok S (λn H Q E ⟨e,C,l,v,h,_⟩=>by rw[h,m];rfl) λc A a i H n Q E o h=>⟨_,g c A a i H E o,?_⟩;obtain⟨e,C,l,v,rfl,p,q,r⟩:=h;have s:(L2.start N [V.ref e,v])[0]?=some (some (V.ref e)):=by unfold L2.start;simp
 have u:(L2.start N [V.ref e,v])[1]?=some (some v):=by unfold L2.start;simp
 exact⟨v,u,.ref e,s,e,C,l,rfl,p,q,λd y z=>r d y z⟩
def Ce(m:XK X.K C n)(F:av X.prog X.w X.K X.mg X.base aO k n z ps (kA X.K))(G:aK (k+1) X.A)(J:L2.Binds X.K z ps [])
 (I:L2.Inv X pins σ H s) (r:L2.RelV v u) (h:∀e d,H e=none->H d=none->d≠e->Q (.ref e) (ax (ax H e (XO C (some d) none e)) d (.xd [("at",v)]))) :
 wpAny (model X.prog X.w) X.A (call (.ref C) [u]) (EP X pins σ Q) E s:=by
 have L:∀b o,s.heap.get? b=some o->(s.heap.push { cls:=.type "tuple",data:=.seq [u].toArray }).get? b=some o:=λb o e=>IF _ e;have N:((s.heap.push { cls:=.type "tuple",data:=.seq [u].toArray }).push (jz C s.heap.objs.size)).get? (s.heap.objs.size+1)=some (jz C s.heap.objs.size):=by heap_get
 have O:=I.kept (t':=s.toks) L;have p:=O.laid (a:=s.heap.objs.size+1) (o:=XO C none none _) (t':=s.toks) (λb o q=>IF _ q) (PJ (JW _ _))
  (pY ⟨_,_,N,rfl,rfl,rfl,rfl,rfl⟩)
 have x:=I.hok.fresh (Mx _);have i:kA X.K [.ref _,v] _ (λw T=>w=.non/\Q _ T) E0:=
  ⟨s.heap.objs.size+1,C,n,v,rfl,C1,m,λd B j=>⟨rfl,by
   rw[wV];exact h _ d x (by rw[ah j]at B;exact B) j⟩⟩
 have D:ay [V.ref _,v] [Jf (s.heap.objs.size+1),u]:=.cons rfl (.cons r .nil);have U:[Jf (s.heap.objs.size+1),u].length=ps.length:=by
  have e:=D.length;rw[F.len _ _ _ _ i]at e;exact e.symm
 have y:=J _ [Jf _,u] p.kIn (by exact U);obtain⟨hh,g,d,t,os⟩:=s;refine Mz (BJ (m.cls I.kIn) (Qe I.kIn m.init) (λl=>PySem.W.bind_fn I.kIn l (beq_iff_eq.mp m.fn)) (by simp[sizeLine]) (LR (F.run _ _ _ _ ⟨[Jf _,u],[]⟩ _ _ _ _ (G.make C [u] [])
  (p.env0.make C [u] []) y D i) λr s' c=>?_))
 cases r with
 | error e=>exact Jl c
 | ok Y=>
   cases Y with
   | ret u=>
     obtain⟨v,H',I3,rv,ev,q3⟩:=p.after c;subst ev;exact⟨rv,⟨V.ref _,H',I3,rfl,q3⟩⟩
   | next=>exact Jl c
   | brk=>exact Jl c
   | cont=>exact Jl c
def Cf{M:Rg}(r:A.handled=none)
 (h:wpAny M A x (λv a=>∃e i j,v=.ref e/\nu a.heap C "ValueError.__new__"/\a.heap.get? e=some i/\i.cls=.ref C/\i.data=.fields j/\j[1]?=some .none/\E (.ref e) a) E s) :
 wpAny M A (raiseStmt env (some x) none) Q E s:=by
 unfold raiseStmt;refine IE (Jv h (λv a c=>?_) λ_ _ x=>x);obtain⟨e,i,j,rfl,u,m,f,n,w,y⟩:=c;obtain⟨D,q,N,bs,z,o,G,sub,H,B,I,J,L,O,T,U,p,_,b,_⟩:=u.obj;have l:(Jf C::z).contains (.type "BaseException")=true:=by rw[KP,b,Nk]
 obtain⟨Y,g,d,tk,os⟩:=a;repeat (first | (with_reducible refine Kt m ?_;first | rw[f] | rw[n]) | with_reducible refine Kt p ?_ | (with_reducible refine Lb p ?_;rw[l]) | with_reducible refine JB m n w ?_ | wp_step)
 exact wpAny_raiseNew_none r y
structure jB(P:Jg)(w:JJ)(K:IH)(mg:Str->Option II)(base:Heap)(cm:Nat->Addr)(c:Nat)(x:Str)(k:Nat):Prop where
 ex:∃(fI:Addr)(fd:Jh)(ps:List Str),av P w K mg base aO k fI fd ps (kA K)/\XK K (cm c) fI/\mg x=some (.ref (cm c))/\L2.Binds K fd ps []
def Cg(he:H e=none)(b:H d=none)(a:d≠e):S6 .none (ax (ax H e (XO C (some d) none e)) d (.xd [("at",v)])) e C v:=
 ⟨d,none,by rw[ah (Kk a),C1],C1,λT z=>nomatch z⟩
def fL(hx:nB X XE)(hc:X.calm=true)(D:jB X.prog X.w X.K X.mg X.base cm c x k)(hk:k+1<=k')(hr:aK k' X.A)(hg:Gl X x)
 (ha:PA X.nox [e] (fy X.K cm ds)) (B:(x == ("__debug__" : Str))=false:=by decide) (he:starEach [e] X.env=(false,eval e X.env)::starEach [] X.env:=by exact D9 rfl) (E:(backTo f (starEach [] X.env)).any (·.1)=false:=by rfl) :
 PS X (.Raise (some (.Call (.Name x np) [e] [] f)) none y) (bt X.K cm XE (bL c ds)):=by
 intro h s σ H D' I ⟨ρ,A,G,rl,rs,o⟩;obtain⟨fI,fd,ps,F,J,hm,hb⟩:=D.ex;rw[arm_exec_Raise];refine IE (ND (Cf (C:=cm c) (I.ok.hd hc) (IE (Jv ?_ (λv s3 l=>IE (ND (IG l))) λ_ _ x=>x))));unfold bL ak at o;rcases noX_inv rfl with⟨L,A1,e1,q⟩ | q<;>rw[q]at o
 case inr=>exact Jl o
 refine Lz (o9 I hg hm ?_ B);refine Mb I.ok.mod.kin J.kp (Jv (ha f h s σ H (λm g=>∃b,au ρ H b g/\aF X.K cm b A1 g/\RVs b g L m) (I.wish _) ⟨ρ,A,G,L,A1,rl,rs,e1,λb g v1 N i j=>⟨b,N,i,j⟩⟩) (λus s1 ⟨m,g,I1,r,b,N,i,j⟩=>⟨I1.kIn,?_⟩) λ_ _ z=>Jl z) he E;rcases L with _ | ⟨v,_ | ⟨w',t⟩⟩
 .exact Jl o
 .cases j with
  | cons rv rn=>
    rename_i u t';cases rn;cases r with
    | cons r1 r2=>
      rename_i u' t';cases r2;refine Jv (Ce (Q:=λz H2=>∃a d,z=.ref a/\g a=none/\g d=none/\d≠a/\H2=ax (ax g a (XO _ (some d) none a)) d _) J F (hr.mono hk) hb I1.unwish r1 λa d O n l=>⟨a,d,rfl,O,n,l,rfl⟩) (λz s2 zq=>?_) λ_ _ z=>z;obtain⟨z',H2,T,rz,a,d,O,n,l,U,h5⟩:=zq;subst O;obtain rfl:z=Jf a:=rz;subst h5;have fl:S6 .none _ a (cm c) u:=Cg n l U;have p:ax g a (XO (cm c) (some d) none a) d=none:=by rw[ah U];exact l
      have Y:au b g b (ax g a (XO (cm c) (some d) none a)):=au.same n;have g2:au b _ b (ax _ d (.xd [("at",u)])):=au.same p;have a1:=(i.grow Y (K9 n)).grow g2 (K9 p);obtain⟨oe,ws,y1,y2,y3,y4,y5,y6⟩:=ny T (by rw[ah (Kk U),C1]);exact⟨a,oe,ws,rfl,J.cls T.kIn,y1,y2,y4,y5,hx h σ _ s2 a _ u T fl (o b _ a u ((N.trans Y).trans g2) a1 ((rv.mono Y).mono g2) fl)⟩
 .exact Jl o
def uI{K:IH}(x:XK K C o):∃d q N bs c a e sub f b g h i j l m,K.lookup C=some (excClassObj d q C N bs c a e sub f b g h i j l m "ValueError.__new__")/\R5 c=true/\(Jf C::c).contains (.ref C')=kB K C C':=by
 obtain⟨d,q,N,bs,c,a,e,sub,f,b,g,h,i,j,l,m,n,p,_⟩:=x.obj;refine⟨d,q,N,bs,c,a,e,sub,f,b,g,h,i,j,l,m,n,p,?_⟩;unfold kB;rw[n]
def Ci{M:Rg}{K:IH}(b:K.In s.heap)(x:XK K C y)(z:XK K C' i)(he:s.heap.get? e=some r)(c:r.cls=.ref C)(j:Q (kB K C C') s):wpAny M A (excMatches (.ref e) (.ref C')) Q E s:=by
 obtain⟨nm,q,N,bs,B,u,sn,sub,ab,D,dd,k0,k1,k2,k3,k5,G,ho,H⟩:=uI (C':=C') x;obtain⟨I,q',N',J,l,m,L,v,O,w,T,U,Y,a0,a1,a2,n,o,_⟩:=uI (C':=C') z;have hC:=b _ _ G;have h:=b _ _ n;have a:=(nz o).2.1;have p:(Jf C'::l).contains (.type "BaseException")=true:=by rw[KP,a,Nk]
 have f:=tc_notTuple;rw[<-H]at j;obtain⟨hp,g,d,t,os⟩:=s;unfold excMatches;repeat (first | (with_reducible refine Kt he ?_;rw[c]) | with_reducible refine Kt h ?_ | (with_reducible refine Lb h ?_;rw[p]) | with_reducible refine Lb hC ?_ | wp_step)
 cases hb:(Jf C::B).contains (.ref C')<;>(rw[hb]at j;wp_walk;exact j)
abbrev lV(X:Cx)(a:Addr):Cx:={ X with A:=X.A.mark (some (.ref a)),calm:=false,xe:=λ_ _=>False }
def uJ(I:L2.Inv X pins σ H s)(a:Addr):L2.Inv (lV X a) pins σ H s:=
 ⟨⟨I.ok.mod,I.ok.kind,I.ok.glob,I.ok.blt,I.ok.above,I.ok.inj,I.ok.has,I.ok.cab,(λz=>by cases z),I.ok.frames,I.ok.stk,I.ok.exf,I.ok.bs,I.ok.bsz,I.ok.noex,I.ok.exfs,I.ok.funs,I.ok.frf⟩,I.os,I.bare,I.base,I.loc,I.cell,I.free,I.freeC,I.pin,I.hok,I.len⟩
def Cj(O:X.Ok)(I:L2.Inv (lV X a) pins σ H s):L2.Inv X pins σ H s:=⟨O,I.os,I.bare,I.base,I.loc,I.cell,I.free,I.freeC,I.pin,I.hok,I.len⟩
def Ck(I:L2.Inv X pins σ H s)(J:X.N.Nodup)(C:X.N[i]?=some x)
 (L:∀(j:Nat)(y:Str)(v:V),X.N[j]?=some y->σ[j]?=some (some v)->iK X.env.scope y->∃u,L2.RelV v u/\rJ X.env s.heap m y u)
 (w:h'.Ns X.env.locals (λy=>if y=x then v else m y)) (hs:JK X.env.locals s.heap h'):L2.Inv X pins (σ.set i none) H { s with heap:=h',toks:=t' }:=by
 obtain⟨m0,⟨oL,_,_,O,_⟩,_⟩:=id I.loc;have g:i<σ.length:=by rw[I.len];exact(IW.mp C).1
 refine⟨I.ok,I.os,I.bare,⟨λb o e n A h=>?_,λb o e n A h=>?_,I.base.free,λb o e h=>?_,I.base.tups,I.base.frzs,I.base.tbls⟩,⟨_,w,λj y Q f l T=>?_⟩,λy c e=>?_,I.free,I.freeC,λp U=>?_,λb Y e=>?_,by simpa using I.len⟩
 .exact(hs.2 b (IY (Jc (IQ e) I.ok.above))).trans (I.base.keep b o e n A h)
 .obtain⟨sl,f⟩:=I.base.slot b o e n A h;exact⟨sl,(hs.2 b (IY (Jc (IQ e) I.ok.above))).trans f⟩
 .obtain⟨o',f⟩:=I.base.there b o e h;exact⟨o',(hs.2 b (IY (Jc (IQ e) I.ok.above))).trans f⟩
 .by_cases B:j=i
  .subst B;rw[KY g]at l;cases l
  .rw[JL (Kk B)]at l;obtain⟨u',r',q⟩:=L j y Q f l T;refine⟨u',r',?_⟩;rcases q with⟨k,e⟩ | ⟨k,c,e,z⟩
   .refine .inl ⟨k,?_⟩;have:y≠x:=λe=>B (nV J f (e ▸ C));simp[this,e]
   .exact .inr ⟨k,c,e,z.sameBut hs (I.cne y c e)⟩
 .obtain⟨G,z⟩:=I.cell y c e;exact⟨G,z.sameBut hs (I.cne y c e)⟩
 .obtain⟨e,n,ne,nf,d⟩:=I.pin p U;exact⟨(hs.2 p.1 ne).trans e,n,ne,nf,d⟩
 .refine(I.hok b Y e).stay (λc G r q=>(hs.2 c ?_).trans q) (λ_ q=>q) λ_ _ q=>q;rintro rfl;rcases r with rfl | r
  .rw[I.free]at e;cases e
  .rw[I.free]at r;cases r
def qb(h:bG d H b σ)(i:Nat):bG d H (b.set i none) (σ.set i none):=by
 refine⟨by simp[h.len],λj p a=>?_⟩;by_cases c:i=j
 .subst c;rw[List.getElem?_set]at a;split at a
  .split at a<;>cases a
  .rename_i z;exact absurd rfl z
 .rw[JL c]at a ⊢;exact h.get j p a
structure lW(K:IH)(cm:Nat->Addr)(es:List Nat):Prop where
 xk:∀c∈es,∃fI,XK K (cm c) fI
 sub:∀c∈es,∀k∈es,kB K (cm c) (cm k)=bS c k
def Cm{K:IH}(r:RO K cm ρ H a o)(m:P3 o=true)(e:H a=some (.ext g)):False:=by
 cases o with
 | lst l=>obtain⟨i,h,q⟩:=r;rw[e]at h;cases h
 | ro l=>cases m
 | dI b=>obtain⟨f,h,q⟩:=r;rw[e]at h;cases h
 | ins c fs=>obtain⟨_,j,f,h,q⟩:=r;rw[e]at h;cases h
 | dS b=>obtain⟨f,h,q⟩:=r;rw[e]at h;cases h
 | dT b=>obtain⟨f,h,q⟩:=r;rw[e]at h;cases h
 | hid=>cases m
 | exc c v=>obtain⟨o,d,n,h,q⟩:=r;rw[e]at h;cases h
def uK(e:H a=some (.ext c)):bX H (ax H a u):=λb v q n=>by
 rw[ah (λz=>by rw[z,e]at q;exact n c (Jw q).symm)];exact q
def Cn{K:IH}(r:aF K cm ρ A H)(e:H a=some (.ext E))(G:RO K cm (ρ++[a]) (ax H a u) a o):aF K cm (ρ++[a]) (A++[o]) (ax H a u):=by
 have C:=r.calm (uK (u:=u) e);have I:au ρ (ax H a u) (ρ++[a]) (ax H a u):=⟨IL _ _,λ_ _ h=>h,λ_ _ h=>h⟩;refine⟨C.tab,by simp[r.len],λn p b c f=>?_,λm n b p q c f i v w x=>?_⟩
 .by_cases g:n<A.length
  .rw[Jb g]at c;rw[Jb (by rw[r.len];exact g)]at f;exact(C.obj n p b c f).keep I λ_ z=>z
  .have:n=A.length:=by
    have:=(IW.mp c).1;simp at this;walk_at "o"
   subst this;rw[JN (IM _)]at c;rw[<-r.len,JN (IM _)]at f;simp at c f;subst c;subst f;exact G
 .have j:∀(m:Nat)(p:PO),(ρ++[a])[m]?=some b->(A++[o])[m]?=some p->P3 p=true->m<A.length\/(m=A.length/\b=a):=λm p c i w=>by
   by_cases g:m<A.length
   .exact .inl g
   .have:m=A.length:=by
     have:=(IW.mp i).1;simp at this;walk_at "o"
    subst this;rw[<-r.len,JN (IM _)]at c;simp at c;exact .inr ⟨rfl,c.symm⟩
  have l:∀(m:Nat)(p:PO),m<A.length->(ρ++[a])[m]?=some b->(A++[o])[m]?=some p->P3 p=true->b≠a:=λm p g y D J z=>by
   rw[Jb g]at D;rw[Jb (by rw[r.len];exact g)]at y;rw[z]at y;exact Cm (r.obj m p _ D y) J e
  rcases j m p c i w with s | ⟨s,L⟩<;>rcases j n q f v x with d | ⟨d,B⟩
  .rw[Jb s]at i;rw[Jb (by rw[r.len];exact s)]at c;rw[Jb d]at v;rw[Jb (by rw[r.len];exact d)]at f;exact r.inj m n b p q c f i v w x
  .exact absurd B (l m p s c i w)
  .exact absurd L (l n q d f v x)
  .rw[s,d]
section
variable{X:Cx}{cm:Nat->Addr}
def PH(X:Cx)(cm:Nat->Addr)(es:List Nat)(hs:List NF)(j:List Hd):Prop:=
 ∀(b:List (Addr×Obj))(s:IJ)(σ:L2.St)(H:Hp)(D:o8)(E:II->IJ->Prop)(a:Addr)(c:Nat)(i:V)(g:List Addr)(A:PHp)(e:PSt)(v:PV)(f:Fl)(A':PHp),L2.Inv X b σ H s->S6 .none H a (cm c) i->c∈es->
  aF X.K cm g A H->bG g H e σ->RV g H v i->T2 j c v e A=.ok f A'->(∀d h,au g H d h->aF X.K cm d A' h->mR D d h f)->wpAny (model X.prog X.w) X.A (handleBy (.ref a) X.env hs) (SP X b D) E s
def jC:PH X cm es hs []:=by
 intro b s g H D E a c h i A d v f j I l m n o p e k;cases e
end
structure XG(K:IH)(C:Addr):Prop where
 ga:findIn K (.ref C) "__getattribute__" = some (some (.builtin "BaseException.__getattribute__"))
 gt:findIn K (.ref C) "__getattr__" = some none
 hd:hasDictIn K C=true
 cl:findIn K (.ref C) "__class__" = some (some (.builtin "object.__class__"))
 cg:specialIn K (.builtin "object.__class__") "__get__" = some (some (.builtin "getset_descriptor.__get__"))
 ct:takesIn K (.builtin "object.__class__")=some true
 mo:mroIn K C (.type "object")=some true
def Co{K:IH}{os:QV}{M:Rg}(c:K.In h)(i:XK K C fI)(I:InstAt h x ox C (some od))(j:Q () ⟨h,g,d,t,os⟩):wpAny M A (checkBuiltinCall "BaseException.__getattribute__" ⟨[.ref x,a],[]⟩) Q E ⟨h,g,d,t,os⟩:=by
 have l:builtinKind "BaseException.__getattribute__" = some .slot:=by decide +kernel
 have b:splitId "BaseException.__getattribute__" = some ("BaseException","__getattribute__"):=by decide +kernel
 obtain⟨v,q,N,bs,m,f,y,sub,z,n,B,D,G,H,J,L,o,p,_⟩:=i.obj;have r:=c _ _ o;have s:=I.at_;have u:=I.cls;have e:(Jf C::m).contains (.type "BaseException")=true:=by rw[KP,(nz p).2.1];rfl
 have O:=F.args_bexc_ga (.ref x) a;simp only[checkBuiltinCall,l,b];refine IE ?_
 .unfold isInstance;repeat (first | (with_reducible refine Kt s ?_;rw[u]) | (with_reducible refine Lb r ?_;rw[e]) | wp_step)
  exact j
def Cp{K:IH}{os:QV}(a:K.In h)(I:InstAt h x ox C (some od))(c:findObj K C (some od) name=some (.value v))(e:Q (.done (.ret v)) ⟨h,g,d,t,os⟩) :
 wpAny (model prog w) A (KI.«object.__getattribute__» ⟨[.ref x,.str name b],[]⟩) Q E ⟨h,g,d,t,os⟩:=by
 have f:=I.type (M:=model prog w);have i:=looks_find (M:=model prog w) a I c;refine IE (IG ?_);refine IE (IG ?_);refine IE (f.at (IE (i.at ?_)));exact IG e
def Cq{K:IH}{os:QV}{v b c:II}(a:K.In h)(I:InstAt h x ox C (some od))(i:findObj K C (some od) name=some (.bind b c))(j:wpAny (model prog w) A (call b [c,.ref x,.ref C]) (λv e=>Q (.done (.ret v)) e) E ⟨h,g,d,t,os⟩) :
 wpAny (model prog w) A (KI.«object.__getattribute__» ⟨[.ref x,.str name f],[]⟩) Q E ⟨h,g,d,t,os⟩:=by
 have l:=I.type (M:=model prog w);have m:=looks_find (M:=model prog w) a I i;refine IE (IG ?_);refine IE (IG ?_);refine IE (l.at (IE (m.at ?_)));exact IE (JE (Jv j (λv e z=>IG z) λ_ _ z=>z))
def uL{K:IH}{os:QV}{fill a:Bool}(b:K.In h)(i:XK K C fI)(f:XG K C)(I:InstAt h x ox C (some od))(j:handedIn v=true)
 (l:∀(A:JI)(E:II->IJ->Prop)(R:Fin->IJ->Prop),R (.done (.ret v)) ⟨h,g,d,t,os⟩->wpAny (model prog w) A (KI.«object.__getattribute__» ⟨[.ref x,.str name e],[]⟩) R E ⟨h,g,d,t,os⟩)
 (m:Q v ⟨h,g,d,t,os⟩):wpAny (model prog w) A (getAttrBy (.ref x) (.str name e) fill a) Q E ⟨h,g,d,t,os⟩:=by
 have n:=I.type (M:=model prog w);have o:=Qe (M:=model prog w) b f.ga;have L2:=Qe (M:=model prog w) b f.gt;have r:=Qf.ga.bind (.ref x);have c:(a&&onTheHeap (MM "BaseException.__getattribute__"))=false:=by cases a<;>rfl
 have p:(MM "BaseException.__getattribute__" == MM "object.__getattribute__")=false:=by decide +kernel
 have q:(onTheHeap (Jf C)&&MM "BaseException.__getattribute__" == MM "object.__getattribute__")=false:=by rfl
 refine JE (IE (n.at (IE (o.at ?_))));unfold getAttrByItsOwn hookBefore;refine IE (L2.at (IE (LC (JE ?_))));unfold callGetattribute boundAndCalled;rw[c];refine IE (IG (Mz (Nz Qf.ga.plain F.entry_bexc_ga (Co b i I (l _ _ _ ?_)))));show wpAny _ _ (handedOut v) _ _ _;rw[handedOut_of j];exact IG m
def Cr{K:IH}{os:QV}(b:K.In h)(c:XK K C fI)(e:XG K C)(I:InstAt h x ox C (some od))(f:findObj K C (some od) name=some (.value v))(i:handedIn v=true)(j:Q v ⟨h,g,d,t+1,os⟩) :
 wpAny (model prog w) A (getAttr (.ref x) name a) Q E ⟨h,g,d,t,os⟩:=by
 exact uL b c e I i (λA E R l=>Cp b I f l) j
def Cs{K:IH}{os:QV}(a:K.In h)(c:XK K C fI)(b:XG K C)(I:InstAt h x ox C (some od))(e:Q (some (.ref C)) ⟨h,g,d,t+1,os⟩) :
 wpAny (model prog w) A (getAttr? (.ref x) "__class__") Q E ⟨h,g,d,t,os⟩:=by
 have f:findObj K C (some od) "__class__" = some _:=findObj_data (by obtain⟨cd,i,_⟩:=any_some b.hd;rw[i];rfl) b.cl b.cg b.ct;refine IE (wpAny_mkText (IE (LC ?_)));exact uL a c b I rfl (λA E R j=>Cq (v:=.ref C) a I f (Mz (class_get a I b.mo j))) (IG e)
def Ct{K:IH}(xk:XK K C fI)(xg:XG K C):KitX K (.ref x) (.ref C) (λh=>InstAt h x ox C (some od)) where
 ty:=λ_ _ _ I=>I.type
 it:=λ_ _ X _=>by
  obtain⟨cdD,hcD,_⟩:=any_some xg.hd;unfold clsIn at hcD;split at hcD
  .rename_i c' d' cd' sl' ho;intro A' Q' E' s' k q;exact IE (Qi (k _ _ (X _ _ ho)) (IG q))
  .cases hcD
 ne:=λh tp dd its n sl X htp=>by
  obtain⟨cdD,hcD,_⟩:=any_some xg.hd;refine Bool.eq_false_iff.mpr λq=>?_;have e:=Jf.inj (beq_iff_eq.mp q);subst e;unfold clsIn at hcD;split at hcD
  .rename_i c' d' cd' sl' ho;have z:=(X _ _ ho).symm.trans htp;cases z
  .cases hcD
 ca:=λ{_ _ _ _ _ s} X I k=>by exact Cs X xk xg I k
structure nE(K:IH)(cm:Nat->Addr)(es:List Nat):Prop where
 xg:∀c∈es,XG K (cm c)
 kit:∀c∈es,∀k∈es,kitOne K (.ref (cm c)) (.ref (cm k))=some (bS c k)
 kitV:∀c∈es,kitOne K (.ref (cm c)) (.type "ValueError")=some true
def uM(I:L2.Inv X pins σ H s)(h:H a=some (.frz o (.own a)))(e:o.cls=.ref C)(f:o.dict=some d)(g:o.data=.fields vs)(i:H d=some (.xd [("at",c)])) :
 ∃b u,InstAt s.heap a o C (some b)/\lookIn "at" b=some (some u)/\L2.RelV c u:=by
 obtain⟨j,_⟩:=(show aA _ X.w H _ a _ from I.hok a _ h);obtain⟨v,l,m⟩:=(show aA _ X.w H _ d _ from I.hok d _ i);obtain⟨b,n,p⟩:=rZ l;obtain⟨u,q,r⟩:=bI.some_of (by have:=m "at";simpa using this);exact⟨b,u,⟨j,e,by unfold notCls;rw[g],by rw[f];exact n⟩,by rw[p,q],r⟩
def uN{K:IH}(j:aF K cm g A H)(l:RV g H (.ref n) v)(e:hX n es A=.ok p A'):A'=A/\p.1∈es/\∃a o d b i,v=.ref a/\H a=some (.frz o (.own a))/\o.cls=.ref (cm p.1)/\o.dict=some d/\o.data=.fields i/\H d=some (.xd [("at",b)])/\RV g H p.2 b:=by
 unfold hX at e;rcases f:A[n]? with _ | o
 .rw[f]at e;cases e
 .cases o with
  | exc c x=>
    rw[f]at e;obtain⟨m,e⟩:=B9 e;cases e;cases l with
    | ref h=>
      obtain⟨o,d,b,q,r,u,⟨i,w,_⟩,y,z⟩:=j.obj n _ _ f h;exact⟨rfl,m,_,o,d,b,i,rfl,q,r,u,w,y,z⟩
  | _=>rw[f]at e;cases e
def qc(G:lW X.K cm es)(L:nE X.K cm es)(N:Pe X cm o d)(O:attributeBase o "at" X.env (eval o X.env)=eval o X.env:=by rfl):Pe X cm (.Attribute o "at" i) (hY es d):=by
 intro g s T H Q I ⟨r,A,j,v,A',U,Y,ev,k⟩;obtain⟨x,w,e1,h⟩:=B0 ev;cases x with
 | ref n=>
   obtain⟨p,A2,e2,l⟩:=B0 h;cases l;refine sf O (aB (N g s T H (λy e=>∃b,au r H b e/\aF X.K cm b w e/\RV b e _ y) I ⟨r,A,j,.ref n,w,U,Y,e1,λb e y m c f=>⟨b,m,c,f⟩⟩) λu s1 zq=>?_);obtain⟨x',e,q,rx,b,m,c,f⟩:=zq;obtain⟨rfl,z,a,o,d,B,vs,rfl,h1,h2,h3,h4,h5,h6⟩:=uN c f e2;obtain rfl:u=Jf a:=rx;obtain⟨od,u,J,hl,C⟩:=uM q h1 h2 h3 h4 h5;obtain⟨fI,D⟩:=G.xk _ z;have E:=L.xg _ z;refine Cr q.kIn D E J (findObj_own E.hd D.na rfl hl) (de C) ?_;exact⟨B,e,q.tok _,C,k b e B m c h6⟩
 | _=>cases h
def iu(Er:lW X.K cm es)(Eg:nE X.K cm es)(hk:k∈es)(he:Pe X cm e d)(hg:Gl X "isinstance")(hm:X.mg "isinstance" = none)(y:Gl X b)(z:X.mg b=some (.ref (cm k)))
 (hs:starEach [e,.Name b f] X.env=(false,eval e X.env)::starEach [.Name b f] X.env:=by exact D9 rfl) (B:starEach [Je b f] X.env=(false,eval (.Name b f) X.env)::starEach [] X.env:=by exact D9 rfl) (b1:(backTo g (starEach [Je b f] X.env)).any (·.1)=false:=by rfl)
 (C:(b == ("__debug__" : Str))=false:=by decide) :
 Pe X cm (.Call (.Name "isinstance" p) [e,.Name b f] [] g) (eC es d k):=by
 have call:aT X (.builtin "isinstance") (λD H Q=>∃a o E m c ws,D=[.ref a,.ref (cm k)]/\c∈es/\H a=some (.frz o (.own a))/\o.cls=.ref (cm c)/\o.dict=some E/\o.data=.fields ws/\H E=some (.xd [("at",m)])/\Q (.bl (bS c k)) H):=by
  intro a5 s σ H xs us Q I r h;obtain⟨a,o,E,m,c,ws,rfl,i,G,L,N,O,T,q⟩:=h;obtain⟨u,w,rfl,ru,U⟩:=mB r;obtain rfl:u=Jf a:=ru;obtain rfl:w=Jf _:=U;obtain⟨od,u,J,hl,ru⟩:=uM I G L N O T;obtain⟨fI,xk⟩:=Er.xk _ i;exact kia_one (Ct xk (Eg.xg _ i)) I.kIn J (Eg.kit c i k hk) nofun λtk=>⟨.bl _,H,I.tok tk,rfl,q⟩
 refine C9 (U2 call hg hm Mc (Y1 he (Y1 (nX (v:=.ref _) y z rfl C) mE B) hs) (he:=hs)) λσ H Q zq=>?_;obtain⟨ρ,A,Y,v,A',rl,rs,ev,kk⟩:=zq;obtain⟨x,A1,e1,j⟩:=B0 ev;refine⟨ρ,A,Y,x,A1,rl,rs,e1,λa0 H1 v1 x1 l a1=>?_⟩;cases x with
 | ref n=>
   obtain⟨p,A2,e2,a2⟩:=B0 j;cases a2;obtain⟨rfl,i,a,o,d,m,D,rfl,G,L,N,O,T,h6⟩:=uN l a1 e2;exact⟨a,o,d,m,p.1,D,rfl,i,G,L,N,O,T,kk a0 H1 _ x1 l (.bl _)⟩
 | _=>cases j
def qd(X:Cx)(c:Nat->Addr)(st:Stmt)(d:SD):Prop:=
 ∀(a:List (Addr×Obj))(s:IJ)(σ:L2.St)(H:Hp)(D:o8)(b:Addr->Hp->Prop),L2.Inv X a σ H s->bt X.K c b d D σ H->wpAny (model X.prog X.w) X.A (exec st X.env) (SP X a D) (ir X a σ b) s
def jD(r:X.N.Nodup)(u:X.N[i]?=some x)(w:L2.Loc X.env.scope x)(he:PEx X cm e d)(hs:swapsWith e (some (.Name x a)) b.line X.env=pure false:=by rfl)
 (B:X.fn x=true\/X.env.scope.names.lookup x=some .local:=by first | exact .inl rfl | exact .inr rfl | assumption):qd X cm (.Assign [.Name x a] e b) (az d (gName i)):=by
 intro g s C H D E I ⟨G,A,h,J,p,o⟩;refine wpAny_Assign_Name (Jv (he g s C H _ E I ⟨G,A,h,J,p,?_⟩) (λv Y ⟨y,j,L,O,Q⟩=>S3 L r u w O (λs2 T=>⟨_,j,T,Q⟩) B) λ_ _ z=>z) hs;unfold az ak at o;rcases hs:d h A with⟨f,U⟩ | ⟨c,v,U⟩ | _<;>rw[hs]at o
 .exact λl j v1 q m n=>o l j q m _ ((p.mono q).set i n)
 .exact o
 .exact o
def Cu{st:Stmt}(i:X.stack=X.env::X.outer/\X.env.frame=some X.env.locals)(hb:qd X cm st b)(hh:PH X cm es (h₀::hs) J) :
 Ps X cm (.Try [st] (h₀::hs) [] [] G) (kj es b J):=by
 intro g s T H D I ⟨U,A,e,f,Y,rl,rs,h,k⟩;refine wpAny_Try_except (Pd (Jv (hb g s T H D (λa r=>∃c v d j o,au U H d r/\aF X.K cm d j r/\RV d r v o/\S6 .none r a (cm c) o/\c∈es/\T2 J c v e j=.ok f Y) I ⟨U,A,e,rl,rs,?_⟩) (λu y q=>?_) λh y zq=>?_))
 .unfold kj at h;rcases L:b e A with⟨f1,j⟩ | ⟨c,v,j⟩ | _<;>rw[L]at h
  .cases h;exact k
  .obtain⟨N,h⟩:=B9 h;exact λl H' a o B m n u=>⟨c,v,l,j,o,B,m,n,u,N,h⟩
  .cases h
 .cases u with
  | next=>exact LK (LK q)
  | _=>exact q
 .obtain⟨a,C,v0,r,h1,p,_,c,v,d,j,o,B,m,n,u,N,O⟩:=zq;subst h1;have w:=p.ok.frames;have hl:=p.stack;have x:=p.stkFree;rw[i.1]at w hl x;refine uH w hl i.2 x p.hok u λh2 H2 u2 o2 f2 c2=>?_;have I2:=p.call (t':=y.toks) (d':=y.drawn) (ch:=[]) (by rw[i.1];exact u2) o2 p.bare (λb z=>absurd z nofun);refine qa o2 f2 λh3 H3 u3 o3 f3 c3=>?_;have I3:=I2.un (t':=y.toks) (u3.mono nofun λ_ z=>z) o3;have E:=c2.trans c3;exact hh g _ T H3 D X.xe a c o d j e v f Y I3 f3 N (m.calm E) ((rs.mono B).mono E.ext) (n.mono E.ext) O λl H' x' Q=>k l H' ((B.trans E.ext).trans x') Q
end Ws
namespace Ws
open PySem L2
def jE{X:Cx}:Q0 X.K cm gs (rI mz λi j=>.int (i ^ j.toNat)):=kq (λx y A z a h=>by
 cases x<;>cases y<;>first | (obtain⟨c,h⟩:=B9 h;cases h;exact⟨_,_,rfl,rfl,⟨c.1,by walk_at "o"⟩,rfl,rfl⟩) | cases h) (λ_ _ _ _=>.int _) _ _
end Ws
namespace Ws
open PySem L2
def uO{i j:List Int}(h:i.map (Kb:Int->Key)=j.map Kb):i=j:=(List.map_inj_right λ_ _ z=>Kb.inj z).mp h
section
variable{ρ:List Addr}{H:Hp}{K:IH}{A:PHp}{n:Nat}{v:V}
abbrev PT2(ρ:List Addr)(H:Hp)(m:List (List Int×PV))(kv:List (List Key×V)):Prop:=Pairs (Nf Kb:List Int->List Key) ρ H m kv
def PT2.len(h:PT2 ρ H m kv):m.length=kv.length:=by
 have:=congrArg List.length h.keys;simpa using this.symm
theorem PT2.val:∀{m:List (List Int×PV)}{kv:List (List Key×V)}(i:List Int),PT2 ρ H m kv->(aD m i=none/\V2 kv (i.map Kb)=none)\/∃x u,aD m i=some x/\V2 kv (i.map Kb)=some u/\RV ρ H x u
 | [],kv,i,h=>by obtain rfl:=h.nil_inv;exact .inl ⟨rfl,rfl⟩
 | p::r,kv,i,h=>by
   obtain⟨u,a,rfl,b,t⟩:=h.cons_inv;unfold aD;by_cases e:p.1=i
   .rw[if_pos e,Z5 (by rw[e])];exact .inr ⟨_,_,rfl,rfl,b⟩
   .rw[if_neg e,Z6 (λz=>e (uO z))];exact PT2.val i t
def PT2.some_eq(i:List Int)(h:PT2 ρ H m kv):(V2 kv (i.map Kb)).isSome=(aD m i).isSome:=by
 rcases PT2.val i h with⟨a,b⟩ | ⟨x,u,a,b,_⟩<;>rw[a,b]<;>rfl
theorem uP(i:List Int):∀m:List (List Int×PV),(m.any λp=>decide (p.1=i))=(aD m i).isSome
 | []=>rfl
 | p::r=>by
   unfold aD;rw[Mi];by_cases e:p.1=i
   .rw[if_pos e,decide_eq_true e];rfl
   .rw[if_neg e,decide_eq_false e,QC];exact uP i r
theorem PT2.repl(a:RV ρ H x u)(i:List Int):∀{m:List (List Int×PV)}{kv:List (List Key×V)},PT2 ρ H m kv->PT2 ρ H (m.map λp=>if p.1=i then(p.1,x) else p) (kv.map λp=>if p.1=(i.map Kb) then(p.1,u) else p)
 | [],kv,h=>by obtain rfl:=h.nil_inv;exact⟨rfl,.nil⟩
 | p::r,kv,h=>by
   obtain⟨w,b,rfl,c,t⟩:=h.cons_inv;have ih:=PT2.repl a i t;rw[Jn,Jn];by_cases e:p.1=i
   .rw[if_pos e,if_pos (by rw[e])];exact Pairs.cons' a ih
   .rw[if_neg e,if_neg (λz=>e (uO z))];exact Pairs.cons' c ih
theorem PT2.snoc(a:RV ρ H x u)(i:List Int):∀{m:List (List Int×PV)}{kv:List (List Key×V)},PT2 ρ H m kv->PT2 ρ H (m++[(i,x)]) (kv++[(i.map Kb,u)])
 | [],kv,h=>by obtain rfl:=h.nil_inv;exact Pairs.cons' a ⟨rfl,.nil⟩
 | p::r,kv,h=>by
   obtain⟨w,b,rfl,c,t⟩:=h.cons_inv;exact Pairs.cons' c (PT2.snoc a i t)
def PT2.put(b:RV ρ H x u)(i:List Int)(h:PT2 ρ H m kv):PT2 ρ H (T9 m i x) (P5 kv (i.map Kb) u):=by
 unfold T9 P5;have e:(kv.any λp=>decide (p.1=(i.map Kb)))=(m.any λp=>decide (p.1=i)):=by
  rw[uP,q5];exact h.some_eq i
 rw[e];by_cases a:(m.any λp=>decide (p.1=i))=true
 .rw[if_pos a,if_pos a];exact h.repl b i
 .rw[if_neg a,if_neg a];exact h.snoc b i
def L4(f:aF K e ρ A H)(r:RV ρ H (.ref n) v)(h:Q1 n A=.ok m A'):A'=A/\A[n]?=some (.dT m)/\∃a c,v=.ref a/\ρ[n]?=some a/\H a=some (.dT c)/\PT2 ρ H m c:=by
 cases r with
 | ref d=>
   unfold Q1 at h;rcases b:A[n]? with _ | o
   .rw[b]at h;cases h
   .have q:=f.obj n o _ b d;cases o with
    | dT m=>rw[b]at h;cases h;obtain⟨g,i,j⟩:=q;exact⟨rfl,rfl,_,g,rfl,d,i,j⟩
    | _=>rw[b]at h;cases h
end
def U4(h:O8 a=some j)(r:RV d H a v):∃b,v=.ref b/\H b=some (.tup ((j.map Kb).map L2.kV)):=by
 cases a with
 | tup l=>
   cases r with
   | tup e c=>
     rw[P0 h]at c;have:=c9 c;refine⟨_,rfl,?_⟩;rw[e,this];congr 2;simp[L2.kV]
 | _=>cases h
def uQ{X:Cx}(h:cB X.K cm (cZ y d) σ H Q):sI (cB X.K cm y) (cB X.K cm d) σ H Q:=by
 obtain⟨D,A,e,v,A',E,u,G,k⟩:=h;obtain⟨w,z,I,i⟩:=B0 G;obtain⟨x,J,L,c⟩:=B0 i;refine⟨D,A,e,w,z,E,u,I,λl H1 v1 B o p=>⟨l,z,e,x,J,o,u.mono B,L,λq N v2 C f r=>?_⟩⟩;rcases g:O8 w with _ | j<;>rw[g]at c
 .cases c
 cases x with
 | ref n=>
   obtain⟨m,A3,O,s⟩:=B0 c;obtain⟨rfl,hA,a,kv,rfl,hn,T,U⟩:=L4 f r O;cases s;obtain⟨b,rfl,Y⟩:=U4 g (p.mono C);refine⟨a,_,rfl,bR.t T Y,?_⟩;rw[U.some_eq j];exact k q N _ (B.trans C) f (.bl _)
 | _=>cases c
def jF(b:X.A.units+1<cLine)(c:Pe X cm i y)(e:Pe X cm o d)(f:behindInMarks .In o=false:=by rfl):Pe X cm (.Compare i [.In] [o] a) (cZ y d):=
 C9 (rM (sL b c e) f) λg H Q h=>uQ h
def gF(b:X.A.units+1<cLine)(c:Pe X cm i y)(e:Pe X cm o d)(f:behindInMarks .In o=false:=by rfl):Pt X cm (.Compare i [.In] [o] a) (aq (cZ y d)):=
 m8 (mq (sL b c e) f) λg H Q h=>i5 (λ_ _ _=>uQ) h
def jG(hu:X.A.units+1<cLine)(ho:Pe X cm o d)(hi:Pe X cm i y)(hv:Pe X cm g e)(hs:swapsWith g (some (.Subscript o i p)) s.line X.env=pure false:=by rfl) :
 Ps X cm (.Assign [.Subscript o i p] g s) (cL d y e):=
 O9 (sM hu ho hi hv hs) λD σ H hq=>by
  obtain⟨ρ,A,q,f,A',rl,v,ev,k⟩:=hq;obtain⟨w,A1,e1,G⟩:=B0 ev;obtain⟨x,A2,e2,I⟩:=B0 G;obtain⟨kx,A3,e3,h⟩:=B0 I;refine⟨ρ,A,q,w,A1,rl,v,e1,λJ H1 v1 z L N=>⟨J,A1,q,x,A2,L,v.mono z,e2,λO H2 v2 B Q T=>⟨O,A2,q,kx,A3,Q,(v.mono z).mono B,e3,λl H3 v3 C r U=>?_⟩⟩⟩;rcases u:O8 kx with _ | j<;>rw[u]at h
  .cases x<;>cases h
  cases x with
  | ref n=>
    obtain⟨m,A4,e4,Y⟩:=B0 h;obtain⟨rfl,hA,a,kv,rfl,hn,hH,hp⟩:=L4 r (T.mono C) e4;obtain⟨c,a0⟩:=B9 Y;cases a0;obtain⟨b,rfl,hb⟩:=U4 u U;refine⟨a,_,rfl,dz.t hH hb (by rw[<-hp.len];exact lr c),?_⟩;have E:au l H3 l (ax H3 a (.dT (P5 kv (j.map Kb) v1))):=au.put r hn hA rfl;have a1:aF X.K cm l (A4.set n (.dT _)) _:=
     r.put hn hA rfl rfl ⟨_,C1,PT2.put ((((N.mono B).mono C)).mono E) j (hp.mono E)⟩
    exact k l _ (((z.trans B).trans C).trans E) a1 σ ((((v.mono z).mono B).mono C).mono E)
  | _=>cases h
def r_tget(N:X.A.units+1<cLine)(O:Pe X cm o d)(T:Pe X cm i y)(hs:mH i):Pe X cm (.Subscript o i l) (eTGet d y):=
 C9 (sJ N O T hs) λσ H Q U=>by
  obtain⟨Y,A,f,v,A',rl,D,ev,k⟩:=U;obtain⟨x,E,e1,p⟩:=B0 ev;obtain⟨G,A2,e2,c⟩:=B0 p;refine⟨Y,A,f,x,E,rl,D,e1,λq H1 v1 I r s=>⟨q,E,f,G,A2,r,D.mono I,e2,λw H2 v2 J g B=>?_⟩⟩;rcases h:O8 G with _ | j<;>rw[h]at c
  .cases x<;>cases c
  cases x with
  | ref n=>
    obtain⟨m,A3,e3,e⟩:=B0 c;obtain⟨rfl,hA,a,kv,rfl,hn,hH,hp⟩:=L4 g (s.mono J) e3;obtain⟨b,rfl,hb⟩:=U4 h B;rcases hp.val j with⟨C,L⟩ | ⟨z,u,C,L,ru⟩
    .rw[C]at e;cases e
    .rw[C]at e;cases e;exact⟨a,u,rfl,by rw[<-L];exact bR.t hH hb,k w H2 _ (I.trans J) g ru⟩
  | _=>cases c
def jH:Pe X cm (.Dict [] [] a) eTNew:=
 C9 zF λh H Q ⟨d,A,e,v,i,b,j,f,k⟩ p c=>by
  cases f;have g:au d H _ (ax H p (.dT [])):=au.new c;exact k _ _ _ g (b.alloc c ⟨_,C1,⟨rfl,.nil⟩⟩ rfl) (.ref (by rw[<-b.len];simp))
def Cv(Y:X.A.units+1<cLine)(ho:Pe X cm o d)(he:Pe X cm e y)(m:M1 X o "get" c e f:=by exact⟨rfl,rfl,rfl,rfl⟩):Pe X cm (.Call (.Attribute o "get" c) [e] [] f) (mO d y):=
 C9 (zO Y ho he m) λσ H Q hq=>by
  obtain⟨ρ,A,i,v,A',rl,O,ev,k⟩:=hq;obtain⟨x,A1,e1,l⟩:=B0 ev;refine⟨ρ,A,i,x,A1,rl,O,e1,λz H1 v1 B p r=>?_⟩;cases x with
  | ref n=>
    obtain⟨m0,A2,e2,C⟩:=B0 l;obtain⟨rfl,hA,a,kv,rfl,hn,hH,hp⟩:=L4 p r e2;refine⟨a,rfl,.inr ⟨kv,.inl hH⟩,?_⟩;obtain⟨T,A3,e3,g⟩:=B0 C;refine⟨z,_,i,T,A3,p,O.mono B,e3,λs U v2 D h E=>?_⟩;rcases w:O8 T with _ | j<;>rw[w]at g
    .cases g
    obtain⟨m1,A5,e5,G⟩:=B0 g;obtain⟨rfl,b5,a2,c0,e6,c2,I,J⟩:=L4 h (r.mono D) e5;cases e6;cases G;obtain⟨b,rfl,hb⟩:=U4 w E;refine⟨_,bR.t I hb,?_⟩;rcases J.val j with⟨L,N⟩ | ⟨q,u,L,N,ru⟩
    .rw[L]at k;rw[N];exact k s U _ (B.trans D) h .non
    .rw[L]at k;rw[N];exact k s U _ (B.trans D) h ru
  | _=>cases l
def Cw(hu:X.A.units+1<cLine)(ho:Pe X cm o d)(he:Pe X cm e y)(hf:Pe X cm f z)(m:M2 X o "get" c e f g:=by exact⟨rfl,rfl,rfl,rfl⟩):Pe X cm (.Call (.Attribute o "get" c) [e,f] [] g) (m6 d y z):=
 C9 (zP hu ho he hf m) λσ H Q hq=>by
  obtain⟨ρ,A,h,v,A',rl,I,ev,k⟩:=hq;obtain⟨x,A1,e1,p⟩:=B0 ev;refine⟨ρ,A,h,x,A1,rl,I,e1,λJ H1 v1 D r s=>?_⟩;cases x with
  | ref n=>
    obtain⟨m0,A2,e2,L⟩:=B0 p;obtain⟨rfl,hA,a,kv,rfl,hn,hH,hp⟩:=L4 r s e2;refine⟨a,rfl,.inr ⟨kv,.inl hH⟩,?_⟩;obtain⟨kx,A3,e3,N⟩:=B0 L;obtain⟨w,A4,e4,i⟩:=B0 N;refine⟨J,_,h,kx,A3,r,I.mono D,e3,λO H2 v2 E T U=>⟨O,A3,h,w,A4,T,(I.mono D).mono E,e4,λB H3 v3 G l Y=>?_⟩⟩;rcases C:O8 kx with _ | j<;>rw[C]at i
    .cases i
    obtain⟨m1,A5,e5,a0⟩:=B0 i;obtain⟨rfl,e9,a2,f0,e6,f2,a1,a3⟩:=L4 l ((s.mono E).mono G) e5;cases e6;cases a0;obtain⟨b,rfl,hb⟩:=U4 C (U.mono G);refine⟨_,bR.t a1 hb,?_⟩;rcases a3.val j with⟨h1,h2⟩ | ⟨q,u,h1,h2,ru⟩
    .rw[h1]at k;rw[h2];exact k B H3 _ ((D.trans E).trans G) l Y
    .rw[h1]at k;rw[h2];exact k B H3 _ ((D.trans E).trans G) l ru
  | _=>cases p
end Ws
namespace Ws
open PySem PySem.W PyProof.Rows L2
def jI{X:Cx}:Q0 X.K cm fu (rI (λ_ j=>0<=j) λi j=>.int (i / 2 ^ j.toNat)):=kq (λx y A z a h=>by
 cases x<;>cases y<;>first | (obtain⟨c,h⟩:=B9 h;cases h;exact⟨_,_,rfl,rfl,c,rfl,rfl⟩) | cases h) (λ_ _ _ _=>.int _) _ _
def jJ{X:Cx}:Q0 X.K cm gu (rI mz λi j=>.int (i*2 ^ j.toNat)):=kq (λx y A z a h=>by
 cases x<;>cases y<;>first | (obtain⟨c,h⟩:=B9 h;cases h;exact⟨_,_,rfl,rfl,c,rfl,rfl⟩) | cases h) (λ_ _ _ _=>.int _) _ _
def jK{X:Cx}:Q0 X.K cm fw (dM λi j=>.int (KI.bitAnd i j)):=kr (λx y A z a h=>by
 cases x<;>cases y<;>first | (cases h;exact⟨_,_,rfl,rfl,rfl,rfl⟩) | cases h) (λ_ _ _ _=>.int _) _ _
end Ws
namespace Ws
open PySem PySem.W PyProof.Rows L2
def eO:typeLookup (.type "list") "keys" = pure none:=rfl
def Cy
 (q:s.heap.get? a=some o) (r:o.cls=.type "list") (b:o.data=.seq p k) (u:o.dict=none) (f:typeLookup (.type "list") name=pure none) (i:(["__module__","__name__","__qualname__","__doc__","__annotations__"]:List Str).contains name=false) (B:A.handled=none)
 (h:∀m v e,Heap.NewExcOf s.heap m e "AttributeError"->Q none { s with heap:=m,toks:=v }) (n:name.length+100<=sizeLine:=by size_fits) :
 wpAny (model prog w) A (getAttr? (.ref a) name) Q E s:=by
 obtain⟨c,C,D,G⟩:=o;simp only at r b u;subst r b u;obtain⟨H,g,d,v,os⟩:=s;have z:∀j,(⟨H,g,d,j,os⟩:IJ).TypeIs (.ref a) "list":=λ_=>⟨_,q,rfl⟩;have I:=sub_AttributeError;have J:=MA.lookup;have L:=MA.bind (.ref a);have N:=am_list_getattr_none;unfold getAttr? getAttrBy? getAttrBy;repeat (any_goals (first | assumption | exact z _ | ((with_reducible show wpAny _ _ (call (MM "list.__getattribute__") _ _) _ _ _);refine call_meets MA (z _) am_entry_list_getattribute (F.args_list_getattribute_2 _ _) (meets_getattribute_miss_list a p k G name _ f i n) ⟨q,B,λm j e l=>?_⟩) | wp_step))
 obtain⟨O,T,U⟩:=l.there;show wpAny _ _ (getattributeRaised _ _ _ _ _ _ _) _ _ _;unfold getattributeRaised;repeat (any_goals (first | assumption | wp_step))
 exact h _ _ _ l.of
def uR:entryFor table "dict.update.loop" = some KI.«dict.update.loop»:=entryFor_of_tree rfl
def uS:plainId "dict.update.loop" = true:=by decide +kernel
def Cz{c a:Type}{m:Type->Type}[Monad m][LawfulMonad m](d:Array c)(b:a)(f:c->a->m (ForInStep a)):forIn d b f=forIn d.toList b f:=by simp
section
variable{prog:Jg}{w:JJ}{A:JI}{E:II->IJ->Prop}{s:IJ}
def CA(l:s.heap.get? d=some o)(m:o.data=.dict es ep)
 (n:∀e∈es.toList,∃a,e.key=.ref a/\s.TypeIs (.ref a) "tuple") (p:∀e∈es.toList,(es.filter (·.hash == e.hash)).size<=1) (h:Q es s):wpAny (model prog w) A (KI.Dict.entriesForEmpty j d) Q E s:=by
 refine IE (Kg l m ?_);refine IE ?_;rw[Cz];refine Pk _ (λc _ g=>g=s/\∀e∈c,e∈_) _ ?_ ?_ _ _ ⟨rfl,λe f=>f⟩
 .rintro e c b g ⟨rfl,i⟩;have f:=i e IV;obtain⟨a,q,r⟩:=n e f;refine IE ?_;rw[q];refine IE (NM r PySem.F.slot_tuple_eq.lookup (IG ?_));rw[if_pos (by decide),if_neg (by have:=p e f;walk_at "o")];exact IG ⟨rfl,λx u=>i x (IZ _ u)⟩
 .rintro b g ⟨rfl,_⟩;exact IG h
abbrev TK(prog:Jg)(w:JJ):HeapKind prog w (List Key):=tupleKind (J6 prog w)
def CB(L:(o == sysModules)=false)(ho:s.heap.DictOfH (TK prog w) o m)(a6:m.length<=sizeLine)
 (v:∀x∈m,(m.filter λy=>(TK prog w).hash y.1 == (TK prog w).hash x.1).length<=1)
 (h:∀N,N.DictOfH (TK prog w) s.heap.objs.size m->JK s.heap.objs.size (s.heap.push { cls:=.type "dict",data:=.dict #[] }) N->Q (.ref s.heap.objs.size) { s with heap:=N }) :
 wpAny (model prog w) A (call (.type "dict") [.ref o]) Q E s:=by
 obtain⟨oo,j,ep,z,hc,g,d,hk,hn⟩:=id ho;have B:=NQ d;refine callType_codes (Q₁:=λobj l=>obj=.ref _/\l={ s with heap:=s.heap.push { cls:=.type "dict",data:=.dict #[] } }) Pq (Oa _) OT (kt_code_dict_new _ ⟨rfl,rfl⟩) ?_;rintro obj l ⟨rfl,rfl⟩;have i:(s.heap.push { cls:=.type "dict",data:=.dict #[] }).get? _=some { cls:=.type "dict",data:=.dict #[] }:=IP _ rfl;have C:ML { s with heap:=s.heap.push { cls:=.type "dict",data:=.dict #[] } } (.ref _) "dict":=⟨_,i,rfl⟩;have c:(s.heap.push { cls:=.type "dict",data:=.dict #[] }).get? o=some oo:=IF _ z;have p:ML { s with heap:=s.heap.push { cls:=.type "dict",data:=.dict #[] } } (.ref o) "dict":=⟨_,c,hc.1⟩;have O:s.heap.objs.size≠o:=λe=>absurd (IQ z) (by rw[e];exact Ld _);refine⟨C,OF _ _,?_⟩;refine IE ?_;refine IE (LF C ?_);refine IG ?_;show wpAny _ _ (OU "dict.__init__" _ _ [] .none) _ _ _;refine IE (Og p ?_);refine IE ?_;refine IE ?_;refine IE (Lx p isSubtype_dict_dict ?_);refine IE (NM p MR.lookup (IG ?_));refine IE (IG ?_);unfold KI.Dict.mergeDict;rw[if_neg (by simpa using O)];unfold Mg;rw[if_neg (by rw[L];exact Kh)];refine IE (IG ?_);refine IE (Kg c g ?_);cases q:m with
 | nil=>
   subst q;have D:j=#[]:=Array.toList_inj.mp (by rw[d];rfl);subst D;rw[if_neg (by simp)];refine IE (LN c g ?_);refine IE (Kg c g ?_);refine IE ?_;rw[Std.Legacy.Range.forIn_eq_forIn_range'];refine IG ?_;refine IG ?_;refine IE (IG (IG ⟨rfl,h _ ?_ (JK.refl _ _)⟩));exact⟨_,_,_,i,⟨rfl,rfl,rfl⟩,rfl,rfl,λx r=>by simp at r,LX⟩
 | cons T xr=>
   have U:T∈m:=by rw[q];exact IV
   have u:∀e∈j.toList,∃a,e.key=.ref a/\ML { s with heap:=s.heap.push { cls:=.type "dict",data:=.dict #[] } } (.ref a) "tuple":=by
    intro e J;rw[d]at J;obtain⟨x,r,rfl⟩:=IU.mp J;obtain⟨Y,G,n,h1,h2,_⟩:=hk x r;exact⟨x.2.1,rfl,Y,IF _ h1,h2⟩
   have H:(decide (j.size<=8)&&j.all λe=>(keyPart e.key).isSome)=false:=by
    rw[Bool.and_eq_false_iff];refine .inr ?_;rw[<-Array.all_toList,List.all_eq_false];refine⟨entryOfKey _ T,by rw[d];exact IU.mpr ⟨T,U,rfl⟩,?_⟩;simp[entryOfKey,keyPart]
   rw[H];refine IE (Kg i rfl ?_);refine IE (CA c g u (λe J=>?_) ?_)
   .have I:=J;rw[d]at I;obtain⟨x,r,rfl⟩:=IU.mp I;have:=v x r;rw[<-L0,Array.toList_filter,d,PU,IK];exact this
   .have a2:j.isEmpty=false:=by
     cases hh:j.isEmpty with
     | false=>rfl
     | true=>
       have:j.size=0:=by simpa using hh
       rw[B,q]at this;simp at this
    rw[a2];refine IE (wpAny_updateDictKeysTo i rfl ?_ (by walk_at "o"));refine IG ?_;refine IE (IG (IG ⟨rfl,h _ ?_ (Kq ..)⟩));have a3:Obj.ExactDict { cls:=.type "dict",data:=.dict #[] }:=⟨rfl,rfl,rfl⟩;refine⟨_,j,_,JY _ i (Qw (Mn rfl _)),a3.mapDictKeys _,Mn rfl _,d,λx r=>?_,hn⟩;refine(TK prog w).keeps (?_) i rfl (Kq ..);obtain⟨Y,G,n,h1,h2⟩:=hk x r;exact⟨Y,G,n,IF _ h1,h2⟩
end
noncomputable def hashK(k:List Int):Int:=reduceHash (KI.Tuple.tupleHashOf (k.map hashInt))
def CC(P:Jg)(w:JJ)(k:List Int):(TK P w).hash (k.map Kb)=hashK k:=by
 show reduceHash _=_;rw[Ji];rfl
def CD:(small.map hashK).Nodup:=by decide +kernel
def CF(c:a∈small)(d:b∈small)(h:hashK a=hashK b):a=b:=by
 obtain⟨i,e,rfl⟩:=KS.mp c;obtain⟨j,f,rfl⟩:=KS.mp d;have:=(Pc (h₀:=by simpa using e) (h₁:=by simpa using f) CD).mp (by simpa using h);subst this;rfl
def CG{d:List (List Int)}(hs:∀k∈d,k∈small):∀{c:List (List Key×Addr×II)},c.map (·.1)=d.map (Nf Kb)->d.Nodup->∀x∈c,(c.filter λy=>(TK P w).hash y.1 == (TK P w).hash x.1).length<=1:=by
 intro c m o x r;have f:(c.map λy=>(TK P w).hash y.1).Nodup:=by
  have e:(c.map λy=>(TK P w).hash y.1)=d.map hashK:=by
   have:(c.map λy=>(TK P w).hash y.1)=(c.map (·.1)).map (TK P w).hash:=by rw[Ji];rfl
   rw[this,m,Ji];exact L3 λk _=>CC P w k
  rw[e];have g:∀l:List _,(∀k∈l,k∈small)->l.Nodup->(l.map hashK).Nodup:=by
   intro l;induction l with
   | nil=>intro _ _;simp
   | cons a l ih=>
     intro h n;rw[KA]at n;rw[Jn,KA];refine⟨λz=>?_,ih (λk p=>h k (IZ _ p)) n.2⟩;obtain⟨b,j,e⟩:=IU.mp z;exact n.1 (CF (h b (IZ _ j)) (h a IV) e ▸ j)
  exact g d hs o
 have i:∀(l:List (List _×Addr×II))(v:Int),(l.map λy=>(TK P w).hash y.1).Nodup->(l.filter λy=>(TK P w).hash y.1 == v).length<=1:=by
  intro l v;induction l with
  | nil=>intro _;simp
  | cons a l ih=>
    intro n;rw[Jn,KA]at n;by_cases e:(TK P w).hash a.1=v
    .have:l.filter (λy=>(TK P w).hash y.1 == v)=[]:=by
      rw[List.filter_eq_nil_iff];intro y q z;exact n.1 (IU.mpr ⟨y,q,by rw[eq_of_beq z,e]⟩)
     rw[OV (by simpa using e),this];simp
    .rw[OW (by simpa using e)];exact ih n.2
 exact i c _ f
def CH(r:KT H a b):a.map (·.1)=b.map (·.1):=by
 induction r with
 | nil=>rfl
 | cons h _ ih=>rw[Jn,Jn,ih,h.1]
def CI:aT X (.type "dict") (λi H Q=>∃(a:Addr)(d:List (List Key×V))(j:List (List Int)),i=[.ref a]/\H a=some (.dT d)/\d.map (·.1)=j.map (Nf Kb)/\j.Nodup/\(∀k∈j,k∈small)/\∀l,H l=none->Q (.ref l) (ax H l (.dT d))):=by
 intro w s σ H i us Q I r h;obtain⟨a,d,j,rfl,y,m,A,n,q⟩:=h;obtain⟨u,rfl,B⟩:=Z4 r;cases B;obtain⟨z,C,i,f,D⟩:=kQ I.hok y;have E:=Paired.length f;refine CB C D (by rw[<-E];exact z) (CG n (by rw[<-CH f];exact m) A) λh' p G=>?_;obtain⟨J,L,N,O,T,U,Y,_,h5⟩:=p;have g:=I.hok.fresh (IM _);refine⟨.ref _,_,I.laid (o:=.dT d) (λb o x=>(G.2 b (IY (IQ x))).trans (IF _ x)) (IM _) ⟨z,beq_eq_false_iff_ne.mpr (Kk (IY I.big)),i,KT.keeps f (λc ys v=>?_),J,L,N,O,T,U,Y,h5⟩,rfl,q _ g⟩;rw[ah (λe=>by rw[e,g]at v;cases v)];exact v
def CJ(he:Pe X cm e d)(s:Gl X "dict")(u:X.mg "dict" = none)(hs:starEach [e] X.env=(false,eval e X.env)::starEach [] X.env:=by exact D9 rfl):Pe X cm (.Call (.Name "dict" p) [e] [] f) (mP d):=
 C9 (W8 CI s u (show bootBuiltins "dict" = some _ from by rfl) (aN he br hs) (he:=hs)) λG H Q h=>Y4 (λ_=>rfl) (λw A H x z A' v Q g y l k=>by
  cases x with
  | ref n=>
    obtain⟨m,I,B,i⟩:=B0 l;obtain⟨rfl,J,a,o,rfl,L,C,b⟩:=L4 g y B;obtain⟨c,j⟩:=B9 i;cases j;refine⟨a,o,m.map _,rfl,C,by rw[b.keys,Ji];rfl,c.1,λk E=>?_,λD q=>?_⟩
    .obtain⟨p,b,rfl⟩:=IU.mp E;exact c.2 p b
    .have r:au w H _ (ax H D (.dT o)):=au.new q;exact k _ _ _ r (g.alloc q ⟨_,C1,b.mono r⟩ rfl) (.ref (by rw[<-g.len];simp))
  | _=>cases l) h
def gj(h:Heap)(d:Addr)(es:Array MF)(ep:Nat):Prop:=∃o,h.get? d=some o/\o.ExactDict/\o.data=.dict es ep
def gj.at(x:gj h d es ep)(k:∀o,h.get? d=some o->h'.get? d=some o):gj h' d es ep:=let⟨o,a,r⟩:=x;⟨o,k o a,r⟩
end Ws
namespace Ws
open PySem PySem.W PyProof.Rows L2
def iw{j a}:Pe X cm (.Constant (.str x) j a) (eK (.str x)):=ko xf λ_ _=>.str x
def CK:aT X (.type "int") (λa H Q=>∃b,a=[.bl b]/\Q (.int (if b then 1 else 0)) H):=by
 intro c s e H a f Q I r h;obtain⟨b,rfl,q⟩:=h;obtain⟨u,rfl,d⟩:=Z4 r;cases d;exact call_int_bool ⟨.int _,H,I.tok _,⟨_,rfl⟩,q⟩
def CL(he:Pe X cm e d)(f:Gl X "int")(g:X.mg "int" = none)(hs:starEach [e] X.env=(false,eval e X.env)::starEach [] X.env:=by exact D9 rfl):Pe X cm (.Call (.Name "int" p) [e] [] a) (kT d):=
 C9 (W8 CK f g Nm (aN he br hs) (he:=hs)) λm H Q h=>Y4 (λ_=>rfl) (λi A H x z n v Q j l c k=>by
  cases x with
  | bl b=>cases c;cases l;exact⟨b,rfl,k i H _ (au.refl _ _) j (.int _)⟩
  | _=>cases c) h
def CM(K:IH)(a:String)(b:a∈["NoneType","bool","int","str","list","tuple"]):Qj K (.type a) (.type "str")=some (a == "str"):=by
 simp only[IT,JT,or_false]at b;rcases b with rfl | rfl | rfl | rfl | rfl | rfl<;>with_unfolding_all rfl
def CN:aT X (.builtin "isinstance") (λe H Q=>∃v a,e=[v,.ty "str"]/\a∈["NoneType","bool","int","str","list","tuple"]/\p5 X.K H v (.type a)/\Q (.bl (a == "str")) H):=by
 intro d s j H l m Q I r h;obtain⟨v,a,rfl,f,b,q⟩:=h;obtain⟨u,w,rfl,g,c⟩:=mB r;cases c;exact sg I g b (CM X.K a f) λi=>⟨.bl _,H,I.tok i,rfl,q⟩
def CO(he:Pe X cm e d)(E:Gl X "isinstance")(G:X.mg "isinstance" = none)(u:Gl X "str")(w:X.mg "str" = none)
 (hs:starEach [e,.Name "str" j] X.env=(false,eval e X.env)::starEach [.Name "str" j] X.env:=by exact D9 rfl) (y:starEach [Je "str" j] X.env=(false,eval (.Name "str" j) X.env)::starEach [] X.env:=by exact D9 rfl) (I:(backTo s (starEach [Je "str" j] X.env)).any (·.1)=false:=by rfl) :
 Pe X cm (.Call (.Name "isinstance" p) [e,.Name "str" j] [] s) (kW d):=
 C9 (U2 CN E G Mc (Y1 he (Y1 (rK (v:=.ty "str") u w (show bootBuiltins "str" = some _ from by rfl) rfl (by decide) rfl) mE y) hs) (he:=hs)) λσ H Q J=>by
  obtain⟨L,A,B,v,A',N,O,T,k⟩:=J;obtain⟨x,U,Y,C⟩:=B0 T;obtain⟨b,A2,m,D⟩:=B0 C;cases D;refine⟨L,A,B,x,U,N,O,Y,λg o v1 q f h=>?_⟩;cases x with
  | non=>cases h;cases m;exact⟨_,"NoneType",rfl,by simp,.non,k g o _ q f (.bl _)⟩
  | bl c=>cases h;cases m;exact⟨_,"bool",rfl,by simp,.bl c,k g o _ q f (.bl _)⟩
  | int i=>cases h;cases m;exact⟨_,"int",rfl,by simp,.int i,k g o _ q f (.bl _)⟩
  | str z=>cases h;cases m;exact⟨_,"str",rfl,by simp,.str z,k g o _ q f (.bl _)⟩
  | tup l=>
    cases h with
    | tup ha r=>cases m;exact⟨_,"tuple",rfl,by simp,.tup ha,k g o _ q f (.bl _)⟩
  | ref n=>
    obtain⟨l,A3,e3,e4⟩:=B0 m;obtain⟨rfl,hA,a,xs,rfl,hn,hH,r⟩:=O0 f h e3;cases e4;exact⟨_,"list",rfl,by simp,.lst hH,k g o _ q f (.bl _)⟩
def uT{K:IH}{base:Heap}{d:Nat->Addr}{k n:Nat}{e:Addr}{f:Jh}{ps:List Str}:av P w K mg base aO k e f ps (aQ K d (λ_=>stuck) n):=
 ⟨λg H Q E ⟨h,A,i,v,j,_,_,_,a,_⟩=>(nomatch a),λA b s H c l g Q E m o p q ⟨h,B,i,v,j,_,_,_,a,_⟩=>(nomatch a)⟩
theorem qe(c:n0 b):∀(f i:Nat)(σ:PSt)(A:PHp)(v:PV)(A':PHp),W9 J g b f i σ A≠.ok (.rt v) A'
 | 0,i,σ,A,v,A',h=>by rw[sQ]at h;cases h
 | f+1,i,σ,A,v,A',h=>by
   rw[Q6]at h;obtain⟨x,l,m,h⟩:=B0 h;cases x with
   | none=>cases h
   | some y=>
     obtain⟨e,n,p,h⟩:=B0 h;obtain⟨o,d,j,h⟩:=B0 h;cases o with
     | nx a=>exact qe c f (i+1) a d v A' h
     | ct a=>exact qe c f (i+1) a d v A' h
     | bk a=>cases h
     | rt z=>exact c _ _ _ _ j
def CP(c:n0 b):n0 (ft a g b):=λd A v e h=>by
 obtain⟨J,f,i,h⟩:=B0 h;obtain⟨n,j,l,h⟩:=B0 h;exact qe c _ _ _ _ _ _ h
def CQ:n0 (cL d y e):=λf A v g h=>by
 obtain⟨j,l,o,h⟩:=B0 h;obtain⟨b,p,q,h⟩:=B0 h;obtain⟨c,r,s,h⟩:=B0 h;cases b with
 | ref n=>
   cases a:O8 c with
   | none=>rw[a]at h;cases h
   | some i=>
     rw[a]at h;obtain⟨m,u,w,h⟩:=B0 h;obtain⟨_,h⟩:=B9 h;cases h
 | _=>cases h
def gj.type{s:IJ}(a:gj s.heap d es ep):s.TypeIs (.ref d) "dict":=let⟨o,b,c,_⟩:=a;⟨o,b,c.1⟩
def CS(lo:(d == sysModules)=false)(c:gj s.heap d es ep)
 (h:Q (.ref s.heap.objs.size) { s with heap:=s.heap.push { cls:=.type "dict_keyiterator",data:=.fields #[.ref d,.int 0 0,.int es.size 0,.int ep 0] } }):wpAny (model prog w) A (pyIter (.ref d)) Q E s:=by
 have b:=c.type;obtain⟨o,g,i,a⟩:=id c;refine OC b MR (JA MR b PySem.F.entry_dict_iter ?_ (PySem.F.args_dict_iter_1 _));refine IE ?_;refine IE (LF b (show wpAny _ _ _ _ _ s from IG ?_));refine(show wpAny _ _ (Mg d>>=_) _ _ s from ?_);unfold Mg;rw[if_neg (by rw[lo];simp)];refine IE (IG (IE (Kg g a (IE (LN g a ?_)))));refine IE (Ke (IG ⟨_,rfl,"dict_keyiterator",_,⟨_,IP _ rfl,rfl⟩,Kd.lookup,?_⟩));simpa[rawInt]using h
def CT(a:s.heap.IsKeyIter c d i es.size ep)(n:gj s.heap d es ep)(h:i<es.size)
 (p:∀j,j.IsKeyIter c d (i+1) es.size ep->JK c s.heap j->Q (some es[i].key) { s with heap:=j }):wpAny (model prog w) A (pyNext (.ref c)) Q E s:=by
 obtain⟨o,l,q,g⟩:=id a;obtain⟨u,e,r,f⟩:=id n;have own:Kj "dict_keyiterator" = false:=by decide
 refine IE (LC (JF a.typeIs Kd
  (JA Kd a.typeIs My ?_ (Mr _))))
 refine IE (IG (IE (IE ?_)));first | refine IE (Lm a.typeIs (IG ?_)) | refine IE _
 refine IE (Oo l g ?_);show wpAny _ _ (if _=true then _ else _) _ _ s;refine IE (IG (IE (Kg e f ?_)));rw[if_neg (by simp)];refine IE (IG (IE (LN e f ?_)));rw[if_neg (by simp)];refine IG ?_;simp only[if_false,La,Ms h];refine IE ?_;first | refine IE (Lm a.typeIs (IG ?_)) | refine IE _
 refine IE (PY a.typeIs ?_);show wpAny _ _ (setField _ 1 _>>=_) _ _ s;refine IE (LI l g (by simp) ?_);have b:(s.heap.update c (KQ (·.setIfInBounds 1 (rawInt ((i:Int)+1))))).IsKeyIter c d (i+1) es.size ep:=
  ⟨_,JY _ l (Lj (JX g _)),(MX ..).trans q,by rw[JX g];simp[rawInt]⟩
 refine IE (JE ?_);refine IE (PY b.typeIs ?_);exact IG (IG ⟨_,rfl,IG (p _ b (Kq ..))⟩)
def CU(l:A.handled=none)(b:s.heap.IsKeyIter f d es.size es.size ep)(n:gj s.heap d es ep)
 (p:∀g,NO f s.heap g->Q none { s with heap:=g }):wpAny (model prog w) A (pyNext (.ref f)) Q E s:=by
 obtain⟨o,i,r,j⟩:=id b;obtain⟨u,c,q,e⟩:=id n;have own:Kj "dict_keyiterator" = false:=by decide
 refine IE (LC (JF b.typeIs Kd
  (JA Kd b.typeIs My ?_ (Mr _))))
 refine IE (IG (IE (IE ?_)));first | refine IE (Lm b.typeIs (IG ?_)) | refine IE _
 refine IE (Oo i j ?_);show wpAny _ _ (if _=true then _ else _) _ _ s;refine IE (IG (IE (Kg c e ?_)));rw[if_neg (by simp)];refine IE (IG (IE (LN c e ?_)));rw[if_neg (by simp)];refine IG ?_;simp only[if_false,La,MS (IM es.size)];refine IE ?_;first | refine IE (Lm b.typeIs (IG ?_)) | refine IE _
 show wpAny _ _ (setField _ 0 .none>>=_) _ _ s;refine IE (LI i j (by simp) ?_);refine IE ?_;refine IE (m:=firstArgMember _ _) (Qs (a:=Ks) rfl ?_);refine Ke ?_ (by size_fits);refine IE (OR ?_);rw[show _=none from l];refine IE (IG (Qt ?_));refine IE (Lx ⟨_,IP _ rfl,rfl⟩ Om ?_);exact IG (p _ (((Kq ..).extBut.push _).push _))
def CV(hh:A.handled=none)(I:Addr)(hne:d≠I):Walks prog w A I [I,d] [I] es.size (λi v=>(es[i]?).map (·.key)=some v) (λi h=>h.IsKeyIter I d i es.size ep/\gj h d es ep) where
 sub:=λb hb=>by simp at hb;simp[hb]
 frame:=λ_ _ _ st hk=>⟨st.1.at λo e=>hk I (by simp) o e,st.2.at λo e=>hk d (by simp) o e⟩
 item:=λi s Q E hi st hQ=>by
  refine CT st.1 st.2 hi λh' hit' hs'=>?_;exact hQ _ h' _ (by rw[Ms hi];rfl) ⟨hit',st.2.at λo e=>hs'.extBut d o hne e⟩ λb o hb e=>hs'.extBut b o (λh=>hb (by simp[h])) e
 done:=λs Q E st hQ=>CU hh st.1 st.2 λh' he'=>hQ h' _ λb o hb e=>he' b o (λh=>hb (by simp[h])) e
 self:=λ_ _ _ _ st hQ=>wpAny_pyIter_keyiter st.1 hQ
def uU(lo:(d == sysModules)=false):KdlSrc prog w "dict" d d es.size (λi v=>(es[i]?).map (·.key)=some v) (λh=>gj h d es ep) where
 type:=λ_ hm=>hm.type
 there:=λ_ hm=>⟨let⟨_,ho,_⟩:=hm;IQ ho,let⟨_,ho,_⟩:=hm;IQ ho⟩
 keep:=λ_ _ hm hk=>hm.at λo e=>hk d (.inl rfl) o e
 notList:=by decide
 notTuple:=by decide
 hint:=λ_ _ _ _ hm hq=>kdl_hint_dict hm.type hq
 iter:=λ_ _ hh hm=>⟨_,_,(λ_ _ hq=>CS lo hm hq),CV hh _ (IY (let⟨_,ho,_⟩:=hm;IQ ho)),⟨⟨_,IP _ rfl,rfl,rfl⟩,hm.at λo e=>IF _ e⟩⟩
section
variable{X:Cx}{cm:Nat->Addr}
def rSortDT:List V->Hp->VK->Prop:=λe H Q=>∃(a:Addr)(b:List (List Key×V))(c:List (List Int)),e=[.ref a]/\H a=some (.dT b)/\b.map (·.1)=c.map (Nf (Kb:Int->Key))/\(∀t∈c,t≠[])/\c.length<64/\
 ∀(l:Addr)(p:List Nat)(d:List V),Paired (eJ H) d c->U0 c d.length p->H l=none->Q (.ref l) (ax H l (.lst (p.map λi=>d.getD i .non)))
def uV:∀{b:List (List Key×V)}{d:List (List Key×Addr×II)}{a:List (List Int)},KT H b d->b.map (·.1)=a.map (Nf (Kb:Int->Key))->(∀t∈a,t≠[])->Paired (eJ H) (d.map λq=>V.ref q.2.1) a:=by
 intro b d a r;induction r generalizing a with
 | nil=>
   intro e _;cases a with
   | nil=>exact .nil
   | cons t a=>cases e
 | @cons p q _ _ h _ ih=>
   intro e c;cases a with
   | nil=>cases e
   | cons t a=>
     rw[Jn]at e;injection e with f g;refine .cons ⟨_,rfl,?_,c t IV⟩ (ih g λu i=>c u (IZ _ i));rw[h.2.1,f,Ji];rfl
def CW(w:X.calm=true):aT X (.builtin "sorted") rSortDT:=by
 intro a7 s σ H B us Q I r h;obtain⟨a,J,L,rfl,hH,f,N,b5,q⟩:=h;obtain⟨u,rfl,rx⟩:=Z4 r;cases rx;obtain⟨z,hd,B,x,dd⟩:=kQ I.hok hH;obtain⟨oo,es,ep,O,hc,C,y,T,U⟩:=id dd;have g:=NQ y;have Y:=Paired.length x;have l:J.length=L.length:=by
  have:=congrArg List.length f;simpa using this
 have hT:=uV x f N;refine Ol kind_sorted plain_sorted entry_sorted (args_sorted1 _) ?_;refine IE (IG ?_);refine IE (kdu_collect (uU hd) (I.ok.hd w) ⟨oo,O,hc,C⟩ (by rw[g,<-Y];exact z) λh' tk d hk n=>?_);have m:d.toList=B.map λq=>Jf q.2.1:=by
  refine MZ λj=>?_;rw[LB];cases hj:d[j]? with
  | none=>
    have D:d.size<=j:=by simpa using hj
    rw[n.1,g]at D;rw[JR (by simpa using D)]
  | some v=>
    have D:(es[j]?).map _=some v:=n.2 j v hj;rw[entry_at y j,Option.map_map]at D;rw[Jm];exact D.symm
 have E:d.toList.length=L.length:=by rw[m,IK,<-Y,l]
 have I1:=I.kept (t':=tk) hk;have hv:ay (B.map λq=>V.ref q.2.1) d.toList:=by
  rw[m];clear m E hT y Y x dd g T U;induction B with
  | nil=>exact .nil
  | cons q r ih=>exact .cons rfl ih
 refine IE (QE ?_ (by walk_at "o"));have A:(h'.push _).get? _=some (seqObj "list" d.toList.toArray 0):=IP _ rfl;have a2:=uh I1 hv hT;refine IE (JE (JA slot_list_sort ⟨_,A,rfl⟩ entry_list_sort (c8 A (L2.Paired.mapP a2 λv t ⟨b,o,a3,k,e,q,r⟩=>⟨b,o,a3,k,e,IF _ q,r⟩) (by walk_at "o") λp hp=>⟨_,rfl,?_⟩) (args_list_sort _)));refine IG ⟨_,rfl,?_⟩;have a4:(B.map λq=>V.ref q.2.1).length=d.toList.length:=by rw[m];simp
 have G:U0 L (B.map λq=>V.ref q.2.1).length p:=by rw[a4];exact hp
 obtain⟨c,a5⟩:=sortedHeap_at A;have a6:p.length=d.toList.length:=by rw[hp.1.length_eq];simp
 refine⟨.ref _,_,I1.laid (λb o e2=>?_) (IM _) ?_,rfl,q _ p _ hT G (I1.hok.fresh (IM _))⟩
 .have l:=IQ e2;rw[sortedHeap_old (IY l) (by rw[size_push'];exact Lp l)];exact IF _ e2
 .refine⟨by rw[IK,a6];walk_at "o",p.map λi=>d.toList.getD i _,c,pO hv p λi hi=>?_,a5⟩;have:=G.1.mem_iff.mp hi;simpa using this
def CY(c:X.calm=true)(he:Pe X cm e d)(N:Gl X "sorted")(O:X.mg "sorted" = none)(hs:starEach [e] X.env=(false,eval e X.env)::starEach [] X.env:=by exact D9 rfl):Pe X cm (.Call (.Name "sorted" p) [e] [] o) (t5 d):=
 C9 (U2 (CW c) N O OB (aN he br hs) (he:=hs)) λσ H Q h=>Y4 (λ_=>rfl) (λC A H x z A' v Q r T E k=>by
  cases x with
  | ref n=>
    obtain⟨m,A1,U,s⟩:=B0 E;obtain⟨rfl,hA,a,Y,rfl,hn,hH,hp⟩:=L4 r T U;obtain⟨⟨u,w⟩,y⟩:=B9 s;cases y;refine⟨a,Y,m.map _,rfl,hH,by rw[hp.keys,Ji];rfl,λt ht=>?_,by simpa using u,λD p G B hs I=>?_⟩
    .obtain⟨q,hq,rfl⟩:=IU.mp ht;exact w q hq
    generalize m.map _=g at B hs k;have j:=Paired.length B;rw[j]at hs;have J:=i4 s8 ((uk g [] hs.1).trans (H9 _ _).symm) hs.2 (tf g);have f:∀i∈p,i<_:=λi l=>by simpa using hs.1.mem_iff.mp l
    have hr:RVs C H (g.map λt=>PV.tup (t.map .int)) G:=by
     clear hs J f j k;induction B with
     | nil=>exact .nil
     | cons h _ ih=>
       obtain⟨b,rfl,hb,_⟩:=h;exact .cons (.tup hb (RVs.ints _)) ih
    have ep:(D7 D0 g).map (λt=>PV.tup (t.map .int))=p.map λi=>(g.map λt=>PV.tup (t.map .int)).getD i .non:=by
     rw[<-J,Ji];refine L3 λi l=>?_;have:=f i l;simp[this]
    have L:au C H _ (ax H D (.lst (p.map λi=>G.getD i .non))):=au.new I;refine k _ _ _ L (r.alloc I ⟨_,C1,?_⟩ rfl) (.ref (by rw[<-r.len];simp));rw[ep];exact(pP hr p λi l=>by rw[IK];exact f i l).mono L
  | _=>cases E) h
end
end Ws
namespace Ws
open PySem PySem.W PyProof.Rows PySem.Builtin PySem.Builtin.Str L2
def gG(c:Gl X x)(b:∃t,X.mg x=some (.str z t))(d:(x == ("__debug__" : Str))=false:=by decide):Pe X cm (.Name x a) (eK (.str z)):=by
 obtain⟨t,b⟩:=b;exact ko (nX c b (show L2.RelV (.str z) _ from⟨t,rfl⟩) d) λ_ _=>.str z
end Ws
namespace Ws
open PySem PySem.W PyProof.Rows PySem.SeqAt L2
open MeetsSeq MeetsSeq2 MeetsSeq3 SeqRoads2
section
variable{X:Cx}{cm:Nat->Addr}{pins:List (Addr×Obj)}{σ:L2.St}{H:Hp}{s:IJ}
def rKeysDT:List V->Hp->VK->Prop:=λe H Q=>∃(a:Addr)(b:List (List Key×V))(c:List (List Int)),e=[.ref a]/\H a=some (.dT b)/\b.map (·.1)=c.map (Nf (Kb:Int->Key))/\(∀t∈c,t≠[])/\
 ∀(l:Addr)(d:List V),Paired (eJ H) d c->H l=none->Q (.ref l) (ax H l (.lst d))
def CZ(f:X.calm=true):aT X (.type "list") rKeysDT:=by
 intro pins s σ H w us Q I r h;obtain⟨a,J,ts,rfl,L,g,x,q⟩:=h;obtain⟨u,rfl,N⟩:=Z4 r;cases N;obtain⟨z,O,w,i,D⟩:=kQ I.hok L;obtain⟨T,U,ep,y,Y,m,l,A,B⟩:=id D;have b:=NQ l;have C:=Paired.length i;have E:=uV i g x;refine kdl_call (uU O) (I.ok.hd f) ⟨T,y,Y,m⟩ (by rw[b,<-C];exact z) λh' tk d c hk hD e=>?_;have n:d.toList=w.map λq=>Jf q.2.1:=by
  refine MZ λj=>?_;rw[LB];cases G:d[j]? with
  | none=>
    have p:d.size<=j:=by simpa using G
    rw[e.1,b]at p;rw[JR (by simpa using p)]
  | some v=>
    have p:(U[j]?).map _=some v:=e.2 j v G;rw[entry_at l j,Option.map_map]at p;rw[Jm];exact p.symm
 have hv:ay (w.map λq=>V.ref q.2.1) d.toList:=by
  rw[n];clear n E l C i D b A B;induction w with
  | nil=>exact .nil
  | cons q r ih=>exact .cons rfl ih
 refine⟨.ref _,_,I.laid (o:=.lst _) hk (IM _) ⟨by rw[IK,<-C];exact z,_,c,hv,?_⟩,rfl,q _ _ E (I.hok.fresh (IM _))⟩;exact hD
def C0(c:X.calm=true)(he:Pe X cm e d)(E:Gl X "list")(G:X.mg "list" = none)(hs:starEach [e] X.env=(false,eval e X.env)::starEach [] X.env:=by exact D9 rfl):Pe X cm (.Call (.Name "list" p) [e] [] f) (kl d):=
 C9 (W8 (CZ c) E G MT (aN he br hs) (he:=hs)) λσ H Q h=>Y4 (λ_=>rfl) (λo A H x z A' v Q g I r k=>by
  cases x with
  | ref n=>
    obtain⟨m,A1,J,i⟩:=B0 r;obtain⟨rfl,hA,a,L,rfl,hn,N,O⟩:=L4 g I J;obtain⟨⟨T,j⟩,l⟩:=B9 i;cases l;refine⟨a,L,m.map _,rfl,N,by rw[O.keys,Ji];rfl,λt U=>?_,λD u w y=>?_⟩
    .obtain⟨q,Y,rfl⟩:=IU.mp U;exact j q Y
    have B:RVs o H ((m.map (·.1)).map λt=>PV.tup (t.map .int)) u:=by
     generalize m.map _=ts at w;induction w with
     | nil=>exact .nil
     | cons h _ ih=>
       obtain⟨b,rfl,hb,_⟩:=h;exact .cons (.tup hb (RVs.ints _)) ih
    rw[Ji]at B;have C:au o H _ (ax H D (.lst u)):=au.new y;exact k _ _ _ C (g.alloc y ⟨_,C1,B.mono C⟩ rfl) (.ref (by rw[<-g.len];simp))
  | _=>cases r) h
end
end Ws
namespace Ws
open PySem PySem.W PyProof.Rows L2
section
variable{prog:Jg}{w:JJ}{K:Type}[DecidableEq K]{knd:HeapKind prog w K}{A:JI}{E:II->IJ->Prop}{s:IJ}
def Dc{d a:Addr}{e:List (K×Addr×II)}{k:K}{v:II}{Q:II->IJ->Prop}(G:knd.room A)(b:knd.is s.heap k a)(L:s.heap.DictOfH knd d e)(z:e.length<=sizeLine)
 (f:∀p,atKey e k=some p->Q p.2 { s with toks:=s.toks+knd.draws k })
 (g:atKey e k=none->∀B,B.DictOfH knd d (storedH e k a v)->JK d s.heap B->Q v { s with heap:=B,toks:=s.toks+knd.draws k }) :
 wpAny (model prog w) A (dictSetDefault d (.ref a) v) Q E s:=by
 obtain⟨o,N,O,m,T,i,c,q,C⟩:=L;have r:=NQ c;refine JE ?_;refine IE (knd.pyHash G b ?_);refine IE (wpAny_dictFind_heap G b m i c q C (λh=>?_) λj p u=>?_)
 .have I:=atKey_none_of_get h;have l:storedH e k a v=e++[(k,a,v)]:=by
   unfold storedH;rw[I];rfl
  refine IE (MY ?_);refine IE (wpAny_updateDictKeys (hz:=by rw[r];exact z) m i (IG (g I _ ⟨_,_,O+1,JY _ m (Qw (Mn i _)),
   T.mapDictKeys _,Mn i _,?_,λx n=>?_,?_⟩ (Kq ..))))
  .rw[l,JC,<-c,Array.toList_push];rfl
  .rw[l]at n;rcases Jx.mp n with n | n
   .exact knd.keeps (q x n) m i (Kq ..)
   .cases IS.mp n;exact knd.keeps b m i (Kq ..)
  .rw[l,JC];refine JV.mpr ⟨C,by simp,?_⟩;intro a1 U b1 J Y;rw[Jn,Nh,IS]at J;obtain⟨y,hy,ey⟩:=IU.mp U;obtain⟨j,u⟩:=List.getElem?_of_mem hy;refine h j y.2 ?_;rw[u,show k=y.1 from J.symm.trans (Y.symm.trans ey.symm)]
 .refine IE (Kg m i ?_);have D:N[j]?=some (entryOfKey knd (k,p)):=by rw[entry_at c j,u];rfl
  rw[D];exact IE (MY (IG (f p (atKey_of_get C u))))
def Dd{d a:Addr}{e:List (K×Addr×II)}{k:K}{dflt:II}{Q:II->IJ->Prop}(n:(d == sysModules)=false)(o:knd.room A.in1)(f:knd.is s.heap k a)(j:s.heap.DictOfH knd d e)(h:e.length<=sizeLine)
 (b:∀p,atKey e k=some p->∀i,Q p.2 { s with toks:=i })
 (c:atKey e k=none->∀g i,g.DictOfH knd d (storedH e k a dflt)->JK d s.heap g->Q dflt { s with heap:=g,toks:=i }) :
 wpAny (model prog w) A (call (.builtin "dict.setdefault") [.ref d,.ref a,dflt]) Q E s:=by
 have m:=j.typeIs;refine JA NG m PySem.F.entry_dict_setdefault ?_ (PySem.F.args_dict_setdefault_3 _ _ _);refine IE ?_;refine IE (LF m ?_);refine IG ?_;show wpAny _ _ (if _=true then _ else _) _ _ s;rw[if_neg (by rw[n];exact Kh)];refine IE (Dc o f j h (λp q=>?_) λr g u v=>?_)
 .exact IG ⟨_,rfl,b p q _⟩
 .exact IG ⟨_,rfl,c r g _ u v⟩
end
section
variable{X:Cx}{cm:Nat->Addr}{o e f:Expr}{apos cpos:Pos}{td ty tx:TE}
def De(td ty tx:TE):TE:=λg H Q=>td g H λx h=>∃a,x=.ref a/\mJ h a/\ty g h λy i=>tx g i λz d=>∃c k b,d a=some (.dT c)/\y=.ref b/\d b=some (.tup (k.map L2.kV))/\
 (∀v,V2 c k=some v->Q v d)/\(V2 c k=none->c.length<sizeLine/\Q z (ax d a (.dT (P5 c k z))))
def Df(U:X.A.units+1<cLine)(Y:PE X o td)(he:PE X e ty)(hf:PE X f tx)(m:M2 X o "setdefault" apos e f cpos):PE X (.Call (.Attribute o "setdefault" apos) [e,f] [] cpos) (De td ty tx):=by
 intro g s q H Q I h;refine MV m.base m.few m.line MG NG PySem.F.type_dict_setdefault (aB (Y g s q H _ I h) λu s1 zq=>?_);obtain⟨x,H1,D,rx,a,ex,d,q1⟩:=zq;subst ex;obtain rfl:u=Jf a:=rx;obtain⟨t1,t2,_⟩:=oK D d;refine⟨t1,t2,?_⟩;rw[m.trees];refine Lv rfl (Ml (KN (aB (he g s1 q H1 _ D q1) λiv s2 ⟨y,H2,I2,ry,q2⟩=>
  KN (aB (hf g s2 q H2 _ I2 q2) λfv s3 ⟨z,H3,n,E,i,k,b,r,ey,G,q3,J⟩=>LM ?_))))
 subst ey;cases(show iv=Jf b from ry);obtain⟨zz,L,xs,j,dd⟩:=kQ n.hok r;have hl:=Paired.length j;refine Dd (knd:=TK _ X.w) L (Ll U) (Z7 n.hok G) dd (by rw[<-hl];exact zz) (λp hp tk=>?_) λh0 h' tk B hs=>?_
 .have:=j.val k;rw[hp]at this;cases l:V2 i k with
  | none=>rw[l]at this;exact this.elim
  | some v=>rw[l]at this;exact⟨v,H3,n.kept (λ_ _ e=>e),this,q3 v l⟩
 .have:=j.val k;rw[h0]at this;cases l:V2 i k with
  | some v=>rw[l]at this;exact this.elim
  | none=>
    have e3:=(J l).1;have C:(P5 i k z).length<=sizeLine:=by have:=V3 i k z;walk_at "o"
    obtain⟨N,es,ep,O,h2,h3,h4,_,h5⟩:=B;refine⟨z,_,mG (ob:=.dT _) n (by rw[r];exact Lo) hs ⟨N,O⟩ ⟨C,L,_,KT.keeps (j.put k G E) (λc ys T=>?_),N,es,ep,O,h2,h3,h4,h5⟩,E,(J l).2⟩;rw[ah (rG T r nofun)];exact T
def Dg(hu:X.A.units+1<cLine)(ho:Pe X cm o d)(he:Pe X cm e y)(hf:Pe X cm f x)(m:M2 X o "setdefault" apos e f cpos:=by exact⟨rfl,rfl,rfl,rfl⟩):Pe X cm (.Call (.Attribute o "setdefault" apos) [e,f] [] cpos) (c5 d y x):=
 C9 (Df hu ho he hf m) λσ H Q hq=>by
  obtain⟨ρ,A,p,v,A',rl,rs,ev,k⟩:=hq;obtain⟨xv,A1,e1,B⟩:=B0 ev;refine⟨ρ,A,p,xv,A1,rl,rs,e1,λa1 H1 v1 O C D=>?_⟩;cases xv with
  | ref n=>
    obtain⟨m0,A2,e2,a2⟩:=B0 B;obtain⟨rfl,hA,a,kv,rfl,hn,hH,hp⟩:=L4 C D e2;obtain⟨kx,A3,e3,a4⟩:=B0 a2;obtain⟨z,A4,e4,q⟩:=B0 a4;refine⟨a,rfl,.inr ⟨kv,.inl hH⟩,a1,_,p,kx,A3,C,rs.mono O,e3,λa5 H2 v2 T a6 a7=>⟨a5,A3,p,z,A4,a6,(rs.mono O).mono T,e4,λg H3 v3 U h E=>?_⟩⟩;rcases G:O8 kx with _ | j<;>rw[G]at q
    .cases q
    obtain⟨mm,A5,e5,i⟩:=B0 q;obtain⟨rfl,I,a3,J,e6,L,a8,l⟩:=L4 h ((D.mono T).mono U) e5;cases e6;obtain⟨b,rfl,hb⟩:=U4 G (a7.mono U);refine⟨J,j.map _,b,a8,rfl,hb,λw r=>?_,λr=>?_⟩
    .rcases PT2.val j l with⟨N,s⟩ | ⟨w',u,N,s,g3⟩
     .rw[s]at r;cases r
     .rw[s]at r;cases r;rw[N]at i;cases i;exact k g _ _ ((O.trans T).trans U) h g3
    .rcases PT2.val j l with⟨N,s⟩ | ⟨w',u,N,s,g3⟩
     .rw[N]at i;obtain⟨c,a9⟩:=B9 i;cases a9;have Y:au g H3 g (ax H3 a (.dT (P5 J (j.map Kb) v3))):=au.put h L I rfl;exact⟨by rw[<-l.len];exact lr c,k g _ _ (((O.trans T).trans U).trans Y) (h.put L I rfl rfl ⟨_,C1,PT2.put (E.mono Y) j (l.mono Y)⟩) (E.mono Y)⟩
     .rw[s]at r;cases r
  | _=>cases B
end
end Ws
namespace Ws
open PySem PySem.W PyProof.Rows PySem.Calls L2
def jL(h:PEx X cm a d):PEx X cm (.Compare a [.IsNot] [.Constant .none j pos'] pos) (cK d):=by
 intro e s n H Q q I ⟨r,A,f,u,w,o⟩;refine Qh (Jv (h e s n H (λx g=>Q (.bl (!decide (x=.non))) g) q I ⟨r,A,f,u,w,?_⟩) (λv L y=>?_) λ_ _ z=>z) (nY _ (by decide) (by decide))
 .unfold cK ak at o;rcases B:d f A with⟨x,C⟩ | ⟨c,v,C⟩ | _<;>rw[B]at o
  .intro i g N D l m;have:=t9 m;rw[this];exact o i g _ D l (.bl _)
  .exact o
  .exact o
 .obtain⟨x,g,E,G,J⟩:=y;exact OK (isnot_none_gen ⟨.bl _,g,E,by rw[G.none_iff];rfl,J⟩)
def x_ix(ha:PE X.nox a (cB X.K cm da))(hb:PEx X cm b db)(hs:oE b):PEx X cm (.Subscript a b pos) (eIxX da db):=by
 intro e s h H Q i I ⟨C,A,f,rl,rs,o⟩;unfold eIxX ak at o;rcases g:da f A with⟨x,l⟩ | ⟨c,v,l⟩ | _
 .rw[tq g]at o;have o:dc X.K cm C H i Q (ak _ _ l):=o;unfold ak at o;refine Qd (Jv (ha e s h H (λD w=>nA X.K cm i db h w λE m=>pa X.K D E m Q) (I.wish _) ⟨C,A,f,x,l,rl,rs,g,λG w v1 J L N=>⟨G,l,f,L,rs.mono J,?_⟩⟩)
   (λv s1 ⟨D,w,I1,r1,q1⟩=>Jv (hb e s1 h w _ i I1.unwish q1) (λu s2 ⟨E,m,I2,r2,q2⟩=>?_) λ_ _ z=>z) λ_ _ z=>Jl z)
  .rcases O:db f l with⟨y,B⟩ | ⟨c,v,B⟩ | _<;>rw[O]at o
   .have o:dc X.K cm C H i Q (cN _ B):=o;intro T m v2 x2 U Y;unfold cN at o;rcases n:oIx x y B with⟨z,A3⟩ | ⟨c,v,A3⟩ | _<;>rw[n]at o
    .exact tI T B m x y z A3 v1 v2 Q U (N.mono x2) Y n λa0 H3 v3 x3 a1 a2=>o a0 H3 v3 ((J.trans x2).trans x3) a1 a2
    .exact Jl o
    .exact Jl o
   .exact cM.ext o J
   .exact Jl o
  .have:=tH (X:=X.wish (ir X e h i)) a b e s2 h m D E v u Q (I2.wish _) r1 r2 q2 (hs _ _);exact Jv this (λ_ _ ⟨v,H',I',r,q⟩=>⟨v,H',I'.unwish,r,q⟩) λ_ _ z=>z
 .unfold cN at o;rw[g]at o;exact Jl o
 .unfold cN at o;rw[g]at o;exact Jl o
def Dh(h:PEx X cm a d)(n:Gl X "int")(r:X.mg "int" = none)(hs:starEach [a] X.env=(false,eval a X.env)::starEach [] X.env:=by exact D9 rfl):PEx X cm (.Call (.Name "int" p) [a] [] pos) (kX d):=by
 intro e s w H Q y I ⟨B,A,f,C,D,o⟩;refine Lz (T1 I n r Nm ?_ (by decide) rfl);refine Ls ?_ hs rfl;rw[hs];refine KN (Jv (h e s w H (λx g=>∃b,x=.bl b/\Q (.int (if b then 1 else 0)) g) y I ⟨B,A,f,C,D,?_⟩) (λu U E=>?_) λ_ _ z=>z)
 .unfold kX ak cN at o;rcases G:d f A with⟨x,J⟩ | ⟨c,v,J⟩ | _<;>rw[G]at o
  .intro i g Y L l m;cases x with
   | bl b=>cases m;exact⟨b,rfl,o i g _ L l (.int _)⟩
   | _=>exact Jl o
  .exact o
  .exact o
 .obtain⟨x,g,N,O,T⟩:=E;obtain⟨b,rfl,q⟩:=T;refine LM ?_;cases O;exact call_int_bool ⟨.int _,g,N.tok _,⟨_,rfl⟩,q⟩
end Ws
namespace Ws
open PySem PySem.W PyProof.Rows L2
noncomputable def foldH{K:Type}[DecidableEq K](b:List (K×Addr×II)):List (K×Addr×II):=b.foldl (λa p=>storedH a p.1 p.2.1 p.2.2) []
def Di{K:Type}[DecidableEq K](a:List (K×Addr×II))(p:K×Addr×II):foldH (a++[p])=storedH (foldH a) p.1 p.2.1 p.2.2:=by
 unfold foldH;rw[List.foldl_append];rfl
def Dj{K:Type}[DecidableEq K](b:List (K×Addr×II))(k:K)(a:Addr)(v:II):(storedH b k a v).length<=b.length+1:=by
 unfold storedH;split<;>simp
def uW{K:Type}[DecidableEq K](b:List (K×Addr×II)):(foldH b).length<=b.length:=by
 have c:∀(l a:List (K×Addr×II)),(l.foldl (λa p=>storedH a p.1 p.2.1 p.2.2) a).length<=a.length+l.length:=by
  intro l;induction l with
  | nil=>simp
  | cons p l ih=>
    intro a;have d:=ih (storedH a p.1 p.2.1 p.2.2);have e:=Dj a p.1 p.2.1 p.2.2;simp only[PQ,Js];walk_at "o"
 simpa[foldH]using c b []
def Dl{K:Type}[DecidableEq K](d:List (K×Addr×II)):∀x∈foldH d,∃q∈d,x.1=q.1/\x.2.1=q.2.1:=by
 have f:∀(l a:List (K×Addr×II)),∀x∈l.foldl (λa p=>storedH a p.1 p.2.1 p.2.2) a,(∃q∈a,x.1=q.1/\x.2.1=q.2.1)\/∃q∈l,x.1=q.1/\x.2.1=q.2.1:=by
  intro l;induction l with
  | nil=>intro a x c;exact .inl ⟨x,c,rfl,rfl⟩
  | cons p l ih=>
    intro a x c;rcases ih _ x c with⟨q,b,e⟩ | ⟨q,b,e⟩
    .have b:q∈storedH a p.1 _ _:=b;unfold storedH at b;split at b
     .obtain⟨i,g,rfl⟩:=IU.mp b;refine .inl ⟨i,g,?_⟩;unfold putAt at e;split at e<;>exact e
     .rcases Jx.mp b with z | z
      .exact .inl ⟨q,z,e⟩
      .cases IS.mp z;exact .inr ⟨p,IV,e⟩
    .exact .inr ⟨q,IZ _ b,e⟩
 intro x c;rcases f d [] x c with⟨q,b,_⟩ | h
 .cases b
 .exact h
def w5(c:(TK P w).is h k a)(d:∀o,h.get? a=some o->h'.get? a=some o):(TK P w).is h' k a:=by
 obtain⟨e,b,n,f,g⟩:=c;exact⟨e,b,n,d _ f,g⟩
def Y5{h h':Heap}{a:List (List Key×Addr×II)}(b:h.DictOfH (TK P w) D a)(c:∀o,h.get? D=some o->h'.get? D=some o)(d:∀x∈a,(TK P w).is h' x.1 x.2.1):h'.DictOfH (TK P w) D a:=by
 obtain⟨o,e,f,g,i,j,l,_,m⟩:=b;exact⟨o,e,f,c _ g,i,j,l,d,m⟩
def uX{a:List (List Key×Addr×II)}(c:∀j (b:j<a.length),(TK P w).is h a[j].1 a[j].2.1)(i:Nat):∀x∈foldH (a.take i),(TK P w).is h x.1 x.2.1:=by
 intro x d;obtain⟨q,e,f,g⟩:=Dl _ x d;obtain⟨j,b,rfl⟩:=NR (List.mem_of_mem_take e);rw[f,g];exact c j b
def Dm{R:QX->IJ->Prop}{I D:Addr}{fp y:List Addr}{G:Array Qz->Array Qz->Prop}{P:Nat->II->Prop}{St:Nat->IJ->Prop}{a:List (List Key×Addr×II)}
 (W:WalksS prog w A.in1 I fp y G a.length P St) (z:D∉fp) (res:II) (B:Nat->Addr) (Y:∀i v,P i v->v=.ref (B i)) (C:∀i,i<a.length->B i≠D/\B i∉y) (u:∀i (hi:i<a.length),a[i].2.1≠D/\a[i].2.1∉y) (hu:(TK prog w).room A.in1) (hz:a.length<=sizeLine) :
 ∀(k i:Nat)(s:IJ),a.length - i=k->i<=a.length->St i s->s.heap.DictOfH (TK prog w) D (foldH (a.take i))->
  (∀j (d:j<a.length),s.heap.IsTuple (B j) #[.ref a[j].2.1,a[j].2.2]/\(TK prog w).is s.heap a[j].1 a[j].2.1)->
  (∀l,Moved (D::y) G s l->l.heap.DictOfH (TK prog w) D (foldH a)->R (.ok (.ret res)) l)->
  codeAny (model prog w) A (.builtin "dict.update.loop" ⟨[.ref D,.ref I,rawInt i,res],[]⟩) R s:=by
 have H:=λh=>z (W.sub _ h);have p:∀b∈y,b∈D::y:=λb J=>IZ _ J;intro k;induction k with
 | zero=>
   intro i s hk hi x U g hR;have a1:i=a.length:=by walk_at "o"
   subst a1;rw[LW]at U;refine NP uR ?_;refine IE (W.done s _ _ x λl q=>?_);refine IG (hR l (q.mono p) ?_);refine Y5 U (λo f=>q.heap D o H f) ?_;have:=uX (i:=a.length) λj d=>w5 (g j d).2 λo f=>q.heap _ o (u j d).2 f;rw[LW]at this;exact this
 | succ k ih=>
   intro i s hk hi x U g hR;have m:i<a.length:=by walk_at "o"
   refine NP uR ?_;refine IE (W.item i s _ _ m x λv l hP L q=>?_);obtain rfl:=Y i v hP;have c:∀j _,l.heap.IsTuple (B j) #[.ref a[j].2.1,a[j].2.2]/\(TK prog w).is l.heap a[j].1 a[j].2.1:=by
    intro j d;obtain⟨⟨o,f,r⟩,h2⟩:=g j d;exact⟨⟨o,q.heap _ o (C j d).2 f,r⟩,w5 h2 λo f=>q.heap _ o (u j d).2 f⟩
   have a3:=Y5 U (λo f=>q.heap D o H f) (uX (i:=i) λj d=>(c j d).2);obtain⟨⟨ot,N,a4,nt,a5⟩,O⟩:=c i m;have hT:l.TypeIs (.ref _) "tuple":=⟨ot,N,a4⟩;refine IE (JE ?_);refine IE (wpAny_tryCatch ?_);refine IE (Og hT ?_);refine IE (Lg N a5 ?_);refine IG ?_;refine JE ?_;refine wpAny_dictSet_heap hu O a3 (λh' a6 n=>?_) (by have:=uW (a.take i);have:(a.take i).length<=a.length:=(by rw[KG];walk_at "o");walk_at "o");have a7:a.take (i+1)=a.take i++[a[i]]:=by rw[LJ,Jj m];rfl
   have hc:((i:Int)+1)=((i+1)):=by push_cast;rfl
   refine IG ⟨plainId_quiet uS _,ih (i+1) _ (by walk_at "o") m (W.frame _ l _ _ L (Pj _ _) λb J o e=>?_) (by rw[a7,Di];exact a6) (λj d=>?_) λa8 Q T=>?_⟩
   .rw[n.2 b (λh:b=D=>z (by rw[<-h];exact J))];exact e
   .obtain⟨⟨o,f,r⟩,h2⟩:=c j d;exact⟨⟨o,by rw[n.2 _ (C j d).1];exact f,r⟩,w5 h2 λo f=>by rw[n.2 _ (u j d).1];exact f⟩
   .refine hR a8 (Moved.trans W.gtrans ((q.mono p).then_heap (Pj _ _) λb o J e=>?_) Q) T;rw[n.2 b (λh:b=D=>J (by rw[h];exact IV))];exact e
def Dp(hh:A.handled=none)(hu:(TK prog w).room A.in1.in1)(hl:PlainL s.heap l items)(tp:Nat->Addr)(J:items.size=c.length)(hz:c.length<=sizeLine)
 (u:∀j (hj:j<c.length),items[j]?=some (.ref (tp j))/\s.heap.IsTuple (tp j) #[.ref c[j].2.1,c[j].2.2]/\(TK prog w).is s.heap c[j].1 c[j].2.1)
 (h:∀L tk,L.DictOfH (TK prog w) s.heap.objs.size (foldH c)->(∀b o,s.heap.get? b=some o->L.get? b=some o)->Q (.ref s.heap.objs.size) { s with heap:=L,toks:=tk }) :
 wpAny (model prog w) A (call (.type "dict") [.ref l]) Q E s:=by
 refine callType_codes (Q₁:=λobj B=>obj=.ref _/\B={ s with heap:=s.heap.push { cls:=.type "dict",data:=.dict #[] } }) Pq (Oa _) OT (kt_code_dict_new _ ⟨rfl,rfl⟩) ?_;rintro obj B ⟨rfl,rfl⟩;have d:(s.heap.push { cls:=.type "dict",data:=.dict #[] }).DictOfH (TK prog w) _ []:=⟨_,#[],0,IP _ rfl,⟨rfl,rfl,rfl⟩,rfl,rfl,λx N=>(nomatch N),LX⟩;obtain⟨ol,n,O,G,a2,m⟩:=id hl;have p:(s.heap.push { cls:=.type "dict",data:=.dict #[] }).get? l=some _:=IF _ O;have hT:ML { s with heap:=s.heap.push { cls:=.type "dict",data:=.dict #[] } } (.ref l) "list":=⟨_,p,G⟩;refine⟨d.typeIs,OF _ _,?_⟩;refine IE ?_;refine IE (LF d.typeIs ?_);refine IG ?_;show wpAny _ _ (OU "dict.__init__" _ _ [] .none) _ _ _;refine IE (Og hT ?_);refine IE (Cy p G m a2 eO rfl (by simpa using hh) λI c2 e1 ne=>?_);refine IE (MY ?_);have T:I.IsList l items:=⟨_,ne.keeps _ _ p,G,n,m⟩;refine IE (Mh T ?_);have a:s.heap.objs.size<I.objs.size:=by
  obtain⟨o,_,_,q,_⟩:=d;exact IQ (ne.keeps _ _ q)
 have H:I.DictOfH (TK prog w) s.heap.objs.size (foldH (c.take 0)):=by
  exact Y5 d (λo q=>ne.keeps _ _ q) λx N=>nomatch N
 have U:=IQ O;have Y:=IY (Oh U a);have WW:=(Walks.list (prog:=prog) (w:=w) (A:=A.in1.in1) (by simpa using hh) _ l Y items).toS;rw[J]at WW;have a3:s.heap.objs.size∉[I.objs.size,l]:=by
  simp only[IT,JT,or_false,not_or];exact⟨IY a,KU U⟩
 have C:∀i,i<c.length->tp i<s.heap.objs.size:=by
  intro i f;obtain⟨_,⟨o,q,_⟩,_⟩:=u i f;exact IQ q
 have D:∀i (f:i<c.length),c[i].2.1<s.heap.objs.size:=by
  intro i f;obtain⟨_,_,ot,c3,n,I,h2⟩:=u i f;exact IQ I
 refine IG ⟨plainId_quiet uS _,Dm WW a3 .none tp (λi v hv=>?_) (λi f=>⟨IY (C i f),?_⟩) (λi f=>⟨IY (D i f),?_⟩) hu hz c.length 0 _ rfl (LU _)
  ⟨⟨_,IP _ rfl,rfl,rfl⟩,T.push _⟩ ?_ (λj hj=>?_) λs' hm hD=>?_⟩
 .have f:i<c.length:=by
   rcases Nat.lt_or_ge i _ with z | z
   .rw[<-J];exact z
   .rw[MS z]at hv;cases hv
  have:=(u i f).1;rw[hv]at this;exact Jw this
 .rw[IS];exact IY (Oh (C i f) a)
 .rw[IS];exact IY (Oh (D i f) a)
 .exact Y5 H (λo q=>IF _ q) λx N=>nomatch N
 .obtain⟨_,⟨o,q,r⟩,h2⟩:=u j hj;exact⟨⟨o,IF _ (ne.keeps _ _ (IF _ q)),r⟩,w5 h2 λo q=>IF _ (ne.keeps _ _ (IF _ q))⟩
 .obtain⟨L,g',d',a5,a6⟩:=s';have eg:g'=s.gens:=hm.gens;have ed:d'=s.drawn:=hm.drawn;have eo:a6=s.os:=hm.os;subst eg;subst ed;subst eo;refine⟨rfl,h L a5 hD λb o e=>?_⟩;have hb:=IQ e;refine hm.heap b o ?_ (IF _ (ne.keeps _ _ (IF _ e)));simp only[IT,JT,or_false,not_or];exact⟨IY hb,IY (Oh hb a)⟩
abbrev TripT:=Addr×Addr×List Int×V
def nF(H:Hp)(t:TripT):Prop:=H t.1=some (.tup [.ref t.2.1,t.2.2.2])/\H t.2.1=some (.tup ((t.2.2.1.map Kb).map L2.kV))
theorem uY:∀{l:List PV}{d:List V}{m:List (List Int×PV)},RVs j H l d->gg l=some m->∃a:List TripT,d=a.map (λt=>V.ref t.1)/\(∀t∈a,nF H t)/\m.map (·.1)=a.map (·.2.2.1)/\RVs j H (m.map (·.2)) (a.map (·.2.2.2))
 | [],d,m,r,h=>by
   cases r;cases h;exact⟨[],rfl,by simp,rfl,.nil⟩
 | x::l,d,m,r,h=>by
   cases r with
   | cons f n=>
     match x,f,h with
     | .tup [k,v],f,h=>
       rcases e:O8 k with _ | i
       .simp[gg,e]at h
       rcases g:gg l with _ | C
       .simp[gg,e,g]at h
       .simp only[gg,e,g,NS,Option.bind_some,Option.some.injEq]at h;subst h;obtain⟨a,o,p,q,s⟩:=uY n g;cases f with
        | tup u c=>
          cases c with
          | cons w c=>
            obtain⟨b,rfl,y⟩:=U4 e w;cases c with
            | cons A c=>
              cases c;refine⟨(_,b,i,_)::a,by rw[o];rfl,λt B=>?_,by simp[q],.cons A s⟩;rcases IT.mp B with z | z
              .subst z;exact⟨u,y⟩
              .exact p t z
noncomputable def n4(b:List TripT)(a:List (List Key×V)):List (List Key×V):=b.foldl (λa t=>P5 a (t.2.2.1.map Kb) t.2.2.2) a
theorem uZ:∀(m:List (List Int×PV))(a:List TripT)(b:List (List Int×PV))(c:List (List Key×V)),m.map (·.1)=a.map (·.2.2.1)->RVs d H (m.map (·.2)) (a.map (·.2.2.2))->PT2 d H b c->PT2 d H (m.foldl (λf p=>T9 f p.1 p.2) b) (n4 a c)
 | [],[],b,c,_,_,h=>h
 | [],_::_,_,_,e,_,_=>by simp at e
 | _::_,[],_,_,e,_,_=>by simp at e
 | p::m,t::a,b,c,e,r,h=>by
   simp only[Jn,MH]at e;cases r with
   | cons g i=>
     show PT2 d H (m.foldl _ (T9 b p.1 p.2)) (n4 a (P5 c (t.2.2.1.map Kb) t.2.2.2));rw[<-e.1];exact uZ m a _ _ e.2 i (PT2.put g p.1 h)
def vb(s:IJ)(t:TripT)(q:List Key×Addr×II):Prop:=q.1=t.2.2.1.map Kb/\q.2.1=t.2.1/\L2.RelV t.2.2.2 q.2.2/\s.heap.IsTuple t.1 #[.ref q.2.1,q.2.2]
theorem vc(I:L2.Inv X pins σ H s):∀(a:List TripT),(∀t∈a,nF H t)->∃b:List (List Key×Addr×II),b.length=a.length/\∀j (c:j<b.length) (d:j<a.length),vb s a[j] b[j]
 | [],_=>⟨[],rfl,λj c=>absurd c (by simp)⟩
 | t::a,h=>by
   obtain⟨b,e,f⟩:=vc I a λx g=>h x (IZ _ g);obtain⟨_,i,l,m⟩:=I.hok _ _ (h t IV).1;obtain⟨n,o,rfl,p,q⟩:=mB l;cases(show n=Jf t.2.1 from p);refine⟨(t.2.2.1.map Kb,t.2.1,o)::b,by simp[e],λj c d=>?_⟩;cases j with
   | zero=>exact⟨rfl,rfl,q,m⟩
   | succ j=>exact f j (by simpa using c) (by simpa using d)
theorem vd:∀(a:List TripT)(b:List (List Key×Addr×II))(c:List (List Key×V))(d:List (List Key×Addr×II)),b.length=a.length->(∀j (g:j<b.length) (i:j<a.length),vb s a[j] b[j])->(∀t∈a,nF H t)->KT H c d->KT H (n4 a c) (b.foldl (λf p=>storedH f p.1 p.2.1 p.2.2) d)
 | [],[],c,d,_,_,_,h=>h
 | [],_::_,_,_,e,_,_,_=>by simp at e
 | _::_,[],_,_,e,_,_,_=>by simp at e
 | t::a,q::b,c,d,e,l,m,h=>by
   have u:=l 0 (by simp) (by simp);obtain⟨n,o,r,_⟩:=u;simp only[List.getElem_cons_zero]at n o r;show KT H (n4 a (P5 c (t.2.2.1.map Kb) t.2.2.2)) (b.foldl _ (storedH d q.1 q.2.1 q.2.2));refine vd a b _ _ (by simpa using e) (λj g i=>by have:=l (j+1) (by simpa using g) (by simpa using i);simpa using this) (λx v=>m x (IZ _ v)) ?_;rw[n,o];exact h.put _ (m t IV).2 r
def Dq(B:X.calm=true)(hu:X.A.units+64<cLine)(he:Pe X cm e d)(hg:Gl X "dict")(hm:X.mg "dict" = none)
 (hs:starEach [e] X.env=(false,eval e X.env)::starEach [] X.env:=by exact D9 rfl) :
 Pe X cm (.Call (.Name "dict" p) [e] [] q) (t6 d):=by
 intro pins s σ H Q I h;obtain⟨ρ,A,N,v,A',rl,rs,ev,k⟩:=h;obtain⟨x,A1,e1,G⟩:=B0 ev;refine Ri (T1 I hg hm (show bootBuiltins "dict" = some _ from by rfl) (callWith_type1 (v8 hs ?_) hs rfl));refine aB (he pins s σ H (λv w=>∃(a:Addr)(f:List TripT),v=.ref a/\bu X.K w a (f.map λt=>V.ref t.1)/\(∀t∈f,nF w t)/\f.length<=sizeLine/\∀l,w l=none->Q (.ref l) (ax w l (.dT (n4 f [])))) I ⟨ρ,A,N,x,A1,rl,rs,e1,λO w v1 x1 C T=>?_⟩) λu s1 zq=>?_
 .cases x with
  | ref n=>
    obtain⟨l,A2,U,i⟩:=B0 G;obtain⟨rfl,hA,a,xs,rfl,hn,hH,r0⟩:=O0 C T U;cases Y:gg l with
    | none=>rw[Y]at i;cases i
    | some m=>
      rw[Y]at i;obtain⟨c,a0⟩:=B9 i;cases a0;obtain⟨f,f1,f2,f3,f4⟩:=uY r0 Y;have hl:f.length=m.length:=by
       have:=congrArg List.length f3;simpa using this.symm
      refine⟨a,f,rfl,by rw[<-f1];exact bu.of hH,f2,by rw[hl];exact Py (lr c),λD hD=>?_⟩;have ex:au O w _ (ax w D (.dT (n4 f []))):=au.new hD;refine k _ _ _ (x1.trans ex) (C.alloc hD ⟨_,C1,?_⟩ rfl) (.ref (by rw[<-C.len];simp));exact uZ m f [] [] f3 (f4.mono ex) ⟨rfl,.nil⟩
  | _=>cases G
 .obtain⟨w1,w,y,r1,a,f,ew,hq,E,hz,qq⟩:=zq;subst ew;obtain rfl:u=Jf a:=r1;obtain⟨a1,ri,pl,_⟩:=y.list hq;obtain⟨ws,g,w2⟩:=vc y f E;have J:a1.length=f.length:=by rw[<-ri.length];simp
  refine Dp (y.ok.hd B) (Ll (M4 X.A 1 (by walk_at "o"))) pl (λj=>(f.getD j (0,0,[],.non)).1) (by rw[Ja,J,g]) (by rw[g];exact hz) (λj hj=>?_) λh' tk dd hk=>?_
  .have r:j<f.length:=by rw[<-g];exact hj
   have e0:f.getD j (0,0,[],.non)=f[j]:=by simp[r]
   rw[e0];obtain⟨g1,g2,g3,g4⟩:=w2 j hj r;refine⟨?_,g4,?_⟩
   .obtain⟨u,hu,ru⟩:=ri.get (by rw[Jm,Jj r];rfl);cases(show u=Jf f[j].1 from ru);simpa using hu
   .rw[g1,g2];exact Z7 y.hok (E _ (Ly r)).2
  .have L:=vd f ws [] [] g w2 E .nil;have a2:(n4 f []).length<=sizeLine:=by
    rw[Paired.length L];exact Jt (uW ws) (by rw[g];exact hz)
   obtain⟨qo,es,ep,a3,h2,h3,h4,_,h5⟩:=dd;refine⟨.ref _,_,y.laid (o:=.dT _) (λb o U=>hk b o U) (IM _) ⟨a2,beq_eq_false_iff_ne.mpr (Kk (IY y.big)),_,KT.keeps L (λc ys ec=>?_),qo,es,ep,a3,h2,h3,h4,h5⟩,rfl,qq _ (y.hok.fresh (IM _))⟩;rw[ah (λz=>by rw[z,y.hok.fresh (IM _)]at ec;cases ec)];exact ec
end Ws
namespace Ws
open PySem PySem.W PyProof.Rows PySem.Calls L2
def Dr:entryFor table "proto.unchain" = some KI.«proto.unchain»:=entryFor_of_fast (by kernel_rfl)
def Ds{E:II->IJ->Prop}{s:IJ}{e:Type}{b a:Addr}{f g:Obj}{vs h:Array II}{Q:e->IJ->Prop}(j:A.handled=some (.ref b))(l:s.heap.get? b=some f)(m:f.data=.fields vs)(n:vs[2]?=some .none)
 (he:s.heap.get? a=some g) (c:g.data=.fields h) (o:2<h.size) (d:b≠a)
 (p:E (.ref a) { s with heap:=s.heap.update a (KQ (·.setIfInBounds 2 (.ref b))) }):wpAny (model prog w) A (raiseNew (.ref a):Sem e) Q E s:=by
 refine IE (OR ?_);rw[j];have q:(Jf b != Jf a)=true:=by simp[d]
 dsimp only;rw[if_pos q];refine IE (JE (wpAny_runValue (NP Dr ?_)));refine IE (JB l m n ?_);refine IG ?_;refine IE ?_;refine IE (wpAny_load he ?_);rw[c];dsimp only;rw[if_pos o];exact wpAny_update he (Qt p)
def Dt(G:A.handled=some (.ref g))(f:s.heap.get? g=some v)(h:v.data=.fields vs)(H:vs[2]?=some .none)(j:g≠d)
 (c:s.heap.IsTupleIter d t i) (I:s.heap.IsTuple t items) (J:items[i]?=none)
 (L:∀y,NO d s.heap y->Q none { s with heap:=y }):wpAny (model prog w) A (pyNext (.ref d)) Q E s:=by
 obtain⟨o,l,N,n⟩:=id c;obtain⟨O,p,_,T,hdl⟩:=I;refine IE (LC (JF c.typeIs Ku
  (JA Ku c.typeIs Mf ?_ (Me _))))
 show wpAny _ _ (field _ 0>>=_) _ _ s;refine IE (JB l n (x:=.ref t) rfl ?_);refine IE (JB l n rfl ?_);refine IE (Lg p hdl ?_);simp only[La,J];refine IE (MY (IE (LI l n (by simp) ?_)));refine IE ?_;refine IE (m:=firstArgMember _ _) (Qs (a:=Ks) rfl ?_);refine Ke ?_ (by size_fits);have q:=IQ f;have B:∀(b:Addr)(u:Obj),b≠d->s.heap.get? b=some u->(s.heap.update d (KQ λx=>x.setIfInBounds 0 Ks)).get? b=some u:=λb u r e=>(JS _ _ (Kk r)).trans e;refine Ds (by first | exact G | rfl) (IF _ (IF _ (B _ _ j f))) h H (IP _ rfl) rfl (by simp;walk_at "o") ?_ ?_
 .rw[JW,Mt];exact IY (Lp q)
 .refine IE (Lx ⟨_,JY _ (IP _ rfl) (Lj (JX rfl _)),(MX ..).trans rfl⟩ Om ?_);refine IG (L _ λb u r e=>?_);have C:=IF { cls:=II.type "tuple",data:=Data.seq ([]).toArray } (B b u r e);rw[JS _ _ ?_]
  .exact IF _ C
  .exact(IY (IQ C)).symm
def Du(z:A.handled=some (.ref p))(h:s.heap.get? p=some q)(r:q.data=.fields vs)(B:vs[2]?=some .none)(i:s.heap.IsTuple t items)
 (C:∀u,NO s.heap.objs.size s.heap u->Q items.toList { s with heap:=u }):wpAny (model prog w) A (unpackItems (.ref t) items.size none) Q E s:=by
 have j:t≠s.heap.objs.size:=by obtain⟨o,D,_⟩:=i;exact IY (IQ D)
 have l:=IY (IQ h);refine IE ?_
 .unfold notIterableAtAll;refine IE (NM i.typeIs F.slot_tuple_iter.lookup ?_);refine IG ?_;refine IE (JE (Ma i ?_));refine IE (JE (wpAny_draw_tuple j _ 0 _ _ ⟨_,IP _ rfl,rfl,rfl⟩ (i.push _) (by simp) λx c a=>?_));have m:List.take items.size (List.drop 0 items.toList)=items.toList:=by
   exact Lw (by simp)
  rw[m];rw[if_neg (by simp)];have d:=(i.push _).extBut a.extBut j;have f:=a.extBut p q l (IF _ h);refine IE (JE (Dt z f r B l c d (by simp) λn g=>?_));refine IG (C n λb o y e=>g b o y (a.extBut b o y (IF _ e)))
inductive qf (K:IH) (cm:Nat->Addr) (a:Addr) (s:SD) (D:o8) (σ:L2.St) (H:Hp):Prop
 | mk (ρ:List Addr) (A:PHp) (σp:PSt) (f:Fl) (A':PHp) (n c:Nat) (v:PV) (h0:aF K cm ρ A H) (h1:bG ρ H σp σ) (h2:s σp A=.ok f A') (h3:(∀ρ' H',au ρ H ρ' H'->aF K cm ρ' A' H'->mR D ρ' H' f)) (h4:ρ[n]?=some a) (h5:A[n]?=some (.exc c v)):qf K cm a s D σ H
def nG(b:AD):Prop:=∀c A d a,b c A=.ok d a->a=A
def T3(d:ED):Prop:=∀b A v a,d b A=.ok v a->a=A
def jM:nG aNil:=λ_ _ _ _ h=>by cases h;rfl
def dr(b:T3 d)(c:nG a):nG (ae d a):=λg A i j h=>by
 obtain⟨x,l,e,h⟩:=B0 h;obtain⟨m,n,f,h⟩:=B0 h;cases h;rw[c _ _ _ _ f,b _ _ _ _ e]
def qg:T3 (eK v):=λ_ _ _ _ h=>by cases h;rfl
def dW:T3 (aa i):=λc A v d h=>by
 have a:(match c[i]? with | some (some v)=>ret v | _=>stuck) A=R.ok v d:=h;rcases b:c[i]? with _ | _ | x
 .rw[b]at a;cases a
 .rw[b]at a;cases a
 .rw[b]at a;cases a;rfl
def ve(h:hX n es A=.ok p A'):A'=A:=by
 unfold hX at h;split at h
 .obtain⟨_,h⟩:=B9 h;cases h;rfl
 .cases h
def lX(a:T3 d):T3 (hY es d):=λe A v f h=>by
 obtain⟨x,g,b,h⟩:=B0 h;cases x with
 | ref n=>
   obtain⟨p,i,c,h⟩:=B0 h;cases h;rw[ve c,a _ _ _ _ b]
 | _=>cases h
def fM(a:T3 d):T3 (eC es d k):=λe A v f h=>by
 obtain⟨x,g,b,h⟩:=B0 h;cases x with
 | ref n=>
   obtain⟨p,i,c,h⟩:=B0 h;cases h;rw[ve c,a _ _ _ _ b]
 | _=>cases h
def vf(h:ki x A=.ok c A'):A'=A:=by
 cases x with
 | bl b=>cases h;rfl
 | _=>cases h
def jN(b:T3 d):T3 (cS d):=λe A v f h=>by
 obtain⟨x,g,a,h⟩:=B0 h;cases h;obtain⟨y,i,c,a⟩:=B0 a;rw[vf a,b _ _ _ _ c]
def jO(b:T3 d)(c:T3 e):T3 (T7 d e):=λi A v j h=>by
 obtain⟨x,f,a,h⟩:=B0 h;obtain⟨y,l,g,a⟩:=B0 a;have q:f=A:=by rw[vf a,b _ _ _ _ g]
 cases x with
 | true=>rw[c _ _ _ _ h,q]
 | false=>cases h;exact q
def Dv{kt k2 q}(hA:X.A.handled=some (.ref a))(hN:X.N.Nodup)(hi:X.N[i]?=some x)(hj:X.N[j]?=some y)(hk:X.N[k]?=some z)(r:i≠j/\i≠k/\j≠k)
 (hx:X.env.scope.names.lookup x=some .local) (hy:X.env.scope.names.lookup y=some .local) (hz:X.env.scope.names.lookup z=some .local) (a5:nG U) (ha:Pa X cm [L,O,B] U)
 (hw:swappedStores [.Tuple [.Name x Y,.Name y py,.Name z pz] kt pt] (.Tuple [L,O,B] k2 q) X.env=pure (some [x,y,z]):=by rfl)
 (hs:swapsWithSole [.Tuple [.Name x Y,.Name y py,.Name z pz] kt pt] (.Tuple [L,O,B] k2 q) C.line X.env=pure false:=by rfl) :
 bP X [.Assign [.Tuple [.Name x Y,.Name y py,.Name z pz] kt pt] (.Tuple [L,O,B] k2 q) C] (qf X.K cm a (az (aC U) (gTup 3 (gCons (gName i) (gCons (gName j) (gCons (gName k) gNil)))))):=by
 refine mr ?_;intro p s Q H D I ⟨ρ,A,a6,f,A',n,c,v,rl,rs,E,kk,hn,a7⟩;obtain⟨tv,A1,G,E⟩:=B0 E;obtain⟨vs,A2,q2,G⟩:=B0 G;obtain⟨e4,G⟩:=B9 G;cases G;obtain⟨h7,A3,q3,E⟩:=B0 E;cases E;obtain⟨T,q3⟩:=B9 q3;rcases vs with _ | ⟨w1,_ | ⟨w2,_ | ⟨w3,_ | ⟨w4,vs⟩⟩⟩⟩
 .cases T
 .cases T
 .cases T
 rotate_left
 .simp at T
 cases q3;have a9:=a5 _ _ _ _ q2;refine IE (ND ?_);refine IE (IG ?_);refine IE (Tuple_ (aB (ha _ p s Q H (λu l=>∃g,au ρ H g l/\aF X.K cm g A' l/\RVs g l [w1,w2,w3] u) I ⟨ρ,A,a6,_,_,rl,rs,q2,λg l u J m h=>⟨g,J,m,h⟩⟩) λus s1 hh=>?_));obtain⟨u,l,I1,r1,g,J,m,h⟩:=hh;rcases h with _ | ⟨h,_ | ⟨b2,_ | ⟨b3,b5⟩⟩⟩;cases b5;rcases r1 with _ | ⟨r1,_ | ⟨r2,_ | ⟨r3,r4⟩⟩⟩;cases r4;rename_i v1 v2 v3 u1 u2 u3;refine Ke ?_ (by show 3<=sizeLine;decide);have I2:L2.Inv X p Q l { s1 with heap:=s1.heap.push { cls:=.type "tuple",data:=.seq [u1,u2,u3].toArray } }:=I1.kept λb o e=>IF _ e;obtain⟨oh,d,v',g1,g2,g3,⟨ws,g4,g5⟩,g6⟩:=(show RO X.K cm g l a _ from m.obj n _ _ (by rw[a9];exact a7) (by obtain⟨t,ht⟩:=J.pre;rw[<-ht,Jb (IW.mp hn).1];exact hn));obtain⟨g7,_⟩:=(show aA _ X.w l _ a _ from I2.hok a _ g1);rw[hw];refine IE (IG ?_);refine IE (MY (IE (Du (items:=#[u1,u2,u3]) hA g7 g4 g5 (Ra.new _ _) λh' c0=>?_)));have I3:=I2.kept (t':=s1.toks) λb o e=>c0 b o (IY (IQ e)) e;refine IE (MD (Qk (S3 I3 hN hk (.inl hz) r3 (λs2 I4=>?_) (.inr hz))));refine MD (Qk (S3 I4 hN hj (.inl hy) r2 (λs3 I5=>?_) (.inr hy)));refine MD (Qk (S3 I5 hN hi (.inl hx) r1 (λs4 I6=>assignInOrder_nil (IG ?_)) (.inr hx)));have B:((Q.set k (some v3)).set j (some v2)).set i (some v1)=((Q.set i (some v1)).set j (some v2)).set k (some v3):=by
  rw[QJ _ _ r.2.2.symm,QJ _ _ r.2.1.symm,QJ _ _ r.1.symm]
 rw[B]at I6;exact⟨_,l,I6,kk g l J m _ ((((rs.mono J).set i h).set j b2).set k b3)⟩
def bp9(Er:lW X.K cm es)(hk:k∈es)(hg:Gl X x)(hm:X.mg x=some (.ref (cm k)))
 (hN:X.N.Nodup) (hi:X.N[i]?=some n) (hl:X.env.scope.names.lookup n=some .local)
 (j:∀a,bP (lV X a) (B::C) (qf X.K cm a b)) (hr:PH X cm es hs ph) (a9:(x == ("__debug__" : Str))=false:=by decide) :
 PH X cm es (.ExceptHandler (some (.Name x np)) (some n) (B::C) O::hs) ((k,some i,b)::ph):=by
 intro g s σ H D E a c v' Q A b0 v f A' I T hc rl rs rv U kk;obtain⟨fI,xk⟩:=Er.xk c hc;obtain⟨j2,b3⟩:=Er.xk k hk;obtain⟨d,tb,f1,f2,f3⟩:=id T;obtain⟨Y,vs,y1,y2,y3,y4,y5,y6⟩:=ny I f1;refine wpAny_handleBy_cons (codeAny_handlers_test (o9 (uJ I a) hg hm ?_ a9)) (by intro q;cases q);refine Ci I.kIn xk b3 y1 y2 ?_;rw[Er.sub c hc k hk];unfold T2 at U;cases a1:bS c k with
 | true=>
   rw[a1,if_pos rfl]at U;refine codeAny_handlers_suite_as ?_;refine qa I.hok T λh' H' u ok c0 a2=>?_;have I2:=I.un (t':=s.toks) (u.mono (λ_ z=>nomatch z) λ_ z=>z) ok;obtain⟨x0,A1,e1,c1⟩:=B0 U;cases e1;obtain⟨f0,A2,e2,c2⟩:=B0 c1;cases c2;obtain⟨d,tb,J,g2,g3⟩:=id c0;obtain⟨Y,vs,y1,y2,y3,y4,y5,y6⟩:=ny I2 J;obtain⟨u1,u2⟩:=v9 (fs:=[]) (H':=ax H' a (.frz Y (.own a))) [a] ok (λb j=>by rw[IS.mp j];exact⟨_,J⟩) (λ_ z=>nomatch z) (λb o _ _ q=>q) (λ_ _ z=>nomatch z) (λb j=>by rw[IS.mp j];exact⟨_,y1⟩)
    (λb u j q=>by rw[ah (λz=>j (by simp[z]))];exact q) (λb _ q=>by rw[ah (λz=>by rw[z,J]at q;cases q)];exact q)
    (λb u j q=>by
     by_cases y:b=a
     .rw[y,C1]at q;cases q;rw[y];exact⟨y1,Y,y1⟩
     .rw[ah y]at q;rcases j with j | j
      .exact absurd (IS.mp j) y
      .rw[ok.fresh j]at q;cases q)
   have I3:=I2.un (t':=s.toks) (u1.mono (λ_ z=>nomatch z) λ_ z=>z) u2;have a3:bX H (ax H' a (.frz Y (.own a))):=a2.trans (uK J);have x2:au Q H (Q++[a]) _:=(a3.ext).trans ⟨IL _ _,λ_ _ h=>h,λ_ _ h=>h⟩;have d1:aF X.K cm _ (A++[.exc c v]) _:=Cn (rl.calm a2) J ⟨Y,d,v',C1,y2,y3,⟨vs,y4,y6⟩,by rw[ah (λz=>by rw[z,J]at g2;cases g2)];exact g2,rv.mono x2⟩;have a4:(Q++[a])[A.length]?=some a:=by rw[<-rl.len];simp
   have d2:=(rs.mono x2).set i (.ref a4);refine S3 (X:=lV X a) (uJ I3 a) hN hi (.inl hl) (v:=.ref a) rfl (λs4 I4=>?_) (.inr hl);refine Jv (j a g s4 _ _ { nx:=λe H'=>D.nx (e.set i none) H',rt:=D.rt,bk:=λe H'=>D.bk (e.set i none) H',ct:=λe H'=>D.ct (e.set i none) H' } I4 ⟨Q++[a],A++[.exc c v],_,f0,A',_,c,v,d1,d2,e2,λe0 H1 x1 e3=>?_,a4,by simp⟩) (λT s5 q=>?_) λ_ _ z=>Jl z
   .have k1:=kk e0 H1 (x2.trans x1) e3;cases f0 with
    | nx a5=>exact λe l=>k1 _ (qb l i)
    | bk a5=>exact λe l=>k1 _ (qb l i)
    | ct a5=>exact λe l=>k1 _ (qb l i)
    | rt u=>exact k1
   .have hp:(X.env.scope.kind == .class||(X.env.scope.kind == .module&&X.env.locals != X.env.globals))=false:=by rw[I.ok.kind];rfl
    have fin:∀{e:L2.St}{p:Hp}{P:Prop}{Q':Unit->IJ->Prop},L2.Inv (lV X a) g e p s5->(∀L,L2.Inv X g _ p L->Q' () L)->wpAny (model X.prog X.w) X.A (do bindName _ n .none;unbindBehindTheSuite _ n O) Q' E s5:=λ{e p P Q'} r hQ=>by
     obtain⟨m,hn,e5⟩:=r.loc;refine wpAny_nameGoes_keeps hl hn hp λh6 v6 e6 e7=>hQ _ ?_;exact Ck (Cj I.ok r) hN hi e5 e6 e7
    cases T with
    | next=>
      obtain⟨e,p,r,q⟩:=q;exact fin (P:=True) r λL G=>⟨_,p,G,q⟩
    | brk=>
      obtain⟨e,p,r,q⟩:=q;exact fin (P:=True) r λL G=>⟨_,p,G,q⟩
    | cont=>
      obtain⟨e,p,r,q⟩:=q;exact fin (P:=True) r λL G=>⟨_,p,G,q⟩
    | ret u=>
      obtain⟨v5,e,p,r,r5,q⟩:=q;exact fin (P:=True) r λL G=>⟨v5,_,p,G,r5,q⟩
 | false=>
   rw[a1]at U;exact hr g s σ H D E a c v' Q A b0 v f A' I T hc rl rs rv U kk
end Ws
namespace Ws
open PySem L2
section
variable{P:Jg}{w:JJ}{K:IH}{mg:Str->Option II}{base:Heap}{cm:Nat->Addr}{x qual:Str}{st:Stmt}{f:Addr}{fd:Jh}{items:Array II}{N ps:List Str}{k:Nat}{s:SD}
def qh(h:n+64<cLine):n+1<cLine:=Nat.lt_of_le_of_lt (Nat.add_le_add_left (by simp) _) h
def D3(F:L2.Fun K x qual st f fd)(S:P6 N ps (C2 st))
 (e:∀(b:II)(A:JI)(a:List Env)(c:IJ)(H:Hp)(E:L2.XK),aK k (A.deeper (JH qual (C2 st) c.heap.objs.size f b))->(A.deeper (JH qual (C2 st) c.heap.objs.size f b)).units+64<cLine->(A.deeper (JH qual (C2 st) c.heap.objs.size f b)).units+1<cLine->
  bP (p6 aO P w K mg base N qual (C2 st) f b A a c H E).nox (G0 st) (gh K cm s)) :
 av P w K mg base aO (k+1) f fd ps (aQ K cm (fn N.length ps.length s) ps.length):=Ai F S λb A a c H E d=>e b A a c H E d d.units (qh d.units)
def Dw(F:dU K x qual st f fd items)(S:P6 N ps (C2 st))
 (e:∀(b:II)(A:JI)(a:List Env)(c:IJ)(H:Hp)(E:L2.XK),aK k (A.deeper (JH qual (C2 st) c.heap.objs.size f b))->(A.deeper (JH qual (C2 st) c.heap.objs.size f b)).units+64<cLine->(A.deeper (JH qual (C2 st) c.heap.objs.size f b)).units+1<cLine->
  bP (p6 aO P w K mg base N qual (C2 st) f b A a c H E).nox (G0 st) (gh K cm s)) :
 av P w K mg base aO (k+1) f fd ps (aQ K cm (fn N.length ps.length s) ps.length):=Bj F S λb A a c H E d=>e b A a c H E d d.units (qh d.units)
def qi(F:L2.Fun K x qual st f fd)(S:P6 N ps (C2 st))
 (e:∀(b:II)(A:JI)(a:List Env)(c:IJ)(H:Hp)(E:L2.XK),aK k (A.deeper (JH qual (C2 st) c.heap.objs.size f b))->(A.deeper (JH qual (C2 st) c.heap.objs.size f b)).units+64<cLine->(A.deeper (JH qual (C2 st) c.heap.objs.size f b)).units+1<cLine->
  bP (p6 (eN P w) P w K mg base N qual (C2 st) f b A a c H E) (G0 st) (bt K cm (nC E) s)) :
 av P w K mg base (eN P w) (k+1) f fd ps (gC K cm (fn N.length ps.length s) ps.length):=Ca F S λb A a c H E d=>e b A a c H E d d.units (qh d.units)
end
def nH(i:Nat)(b:X.N[i]?=some x:=by rfl)(c:iK X.env.scope x:=by first | exact QY rfl | exact QA (QY rfl) | exact QA (QA rfl))(g:(x == ("__debug__" : Str))=false:=by decide)
 (a:(x == ("__classdict__" : Str))=false:=by decide):Pe X cm (.Name x pos) (aa i):=zZ (L2.pv i b c g a)
def vg{K:IH}{i:Nat}(B:J3 K mg cm)(a:cA i=f)(b:i<19):∀c,c<7->bA K (cm c) f:=λc h=>a ▸ B.na c i b h
def qj(i:Nat)(B:J3 X.K mg cm)(he:Pe X cm o d)(a:cA i=f:=by rfl)(b:i<19:=by decide)(c:attributeBase o f X.env (eval o X.env)=eval o X.env:=by rfl):Pe X cm (.Attribute o f pos) (aH d i):=Ae he a b B.cls (vg B a b) c
def qk(i:Nat)(B:J3 X.K mg cm)(c:Pe X cm o d)(g:Pe X cm value e)(a:cA i=f:=by rfl)(b:i<19:=by decide)(hs:swapsWith value (some (.Attribute o f pos')) pos.line X.env=pure false:=by rfl):Ps X cm (.Assign [.Attribute o f pos'] value pos) (sFld d i e):=Af c g a b B.cls (vg B a b) hs
end Ws
local macro_rules | `(tactic| walk_at "sc")=>`(tactic| exact⟨rfl,rfl,rfl,by decide +kernel,rfl,by decide +kernel,by decide +kernel⟩)
local macro_rules | `(tactic| walk_at "fb")=>`(tactic| first | exact(λ_=>rfl) | exact(λh=>nomatch h))
local macro_rules | `(tactic| walk_at "o2")=>`(tactic| first | exact QY rfl | exact QA rfl)
local macro_rules | `(tactic| walk_at "o3")=>`(tactic| first | exact QY rfl | exact QA (QY rfl) | exact QA (QA rfl))
namespace Ws
open PySem L2
section
variable{ρ:List Addr}{H:Hp}{K:IH}{A:PHp}{n:Nat}{v:V}
abbrev PX(ρ:List Addr)(H:Hp)(m:List (Str×PV))(kv:List (Key×V)):Prop:=Pairs (Px:Str->Key) ρ H m kv
def PX.len(h:PX ρ H m kv):m.length=kv.length:=by
 have:=congrArg List.length h.keys;simpa using this.symm
theorem PX.val:∀{m:List (Str×PV)}{kv:List (Key×V)}(i:Str),PX ρ H m kv->(m7 m i=none/\V2 kv (.inr i)=none)\/∃x u,m7 m i=some x/\V2 kv (.inr i)=some u/\RV ρ H x u
 | [],kv,i,h=>by obtain rfl:=h.nil_inv;exact .inl ⟨rfl,rfl⟩
 | p::r,kv,i,h=>by
   obtain⟨u,a,rfl,b,t⟩:=h.cons_inv;unfold m7;by_cases e:p.1=i
   .rw[if_pos e,Z5 (by rw[e])];exact .inr ⟨_,_,rfl,rfl,b⟩
   .rw[if_neg e,Z6 (λz=>e (Px.inj z))];exact PX.val i t
def PX.some_eq(i:Str)(h:PX ρ H m kv):(V2 kv (.inr i)).isSome=(m7 m i).isSome:=by
 rcases PX.val i h with⟨a,b⟩ | ⟨x,u,a,b,_⟩<;>rw[a,b]<;>rfl
theorem vh(i:Str):∀m:List (Str×PV),(m.any λp=>decide (p.1=i))=(m7 m i).isSome
 | []=>rfl
 | p::r=>by
   unfold m7;rw[Mi];by_cases e:p.1=i
   .rw[if_pos e,decide_eq_true e];rfl
   .rw[if_neg e,decide_eq_false e,QC];exact vh i r
theorem PX.repl(a:RV ρ H x u)(i:Str):∀{m:List (Str×PV)}{kv:List (Key×V)},PX ρ H m kv->PX ρ H (m.map λp=>if p.1=i then(p.1,x) else p) (kv.map λp=>if p.1=(.inr i) then(p.1,u) else p)
 | [],kv,h=>by obtain rfl:=h.nil_inv;exact⟨rfl,.nil⟩
 | p::r,kv,h=>by
   obtain⟨w,b,rfl,c,t⟩:=h.cons_inv;have ih:=PX.repl a i t;rw[Jn,Jn];by_cases e:p.1=i
   .rw[if_pos e,if_pos (by rw[e])];exact Pairs.cons' (p:=(p.1,x)) a ih
   .rw[if_neg e,if_neg (λz=>e (Px.inj z))];exact Pairs.cons' c ih
theorem PX.snoc(a:RV ρ H x u)(i:Str):∀{m:List (Str×PV)}{kv:List (Key×V)},PX ρ H m kv->PX ρ H (m++[(i,x)]) (kv++[(.inr i,u)])
 | [],kv,h=>by obtain rfl:=h.nil_inv;exact Pairs.cons' (p:=(i,x)) a ⟨rfl,.nil⟩
 | p::r,kv,h=>by
   obtain⟨w,b,rfl,c,t⟩:=h.cons_inv;exact Pairs.cons' c (PX.snoc a i t)
def PX.put(b:RV ρ H x u)(i:Str)(h:PX ρ H m kv):PX ρ H (gv m i x) (P5 kv (.inr i) u):=by
 unfold gv P5;have e:(kv.any λp=>decide (p.1=(.inr i)))=(m.any λp=>decide (p.1=i)):=by
  rw[vh,q5];exact h.some_eq i
 rw[e];by_cases a:(m.any λp=>decide (p.1=i))=true
 .rw[if_pos a,if_pos a];exact h.repl b i
 .rw[if_neg a,if_neg a];exact h.snoc b i
def ql(f:aF K e ρ A H)(r:RV ρ H (.ref n) v)(h:jb n A=.ok m A'):A'=A/\A[n]?=some (.dS m)/\∃a c,v=.ref a/\ρ[n]?=some a/\H a=some (.dK c)/\PX ρ H m c:=by
 cases r with
 | ref d=>
   unfold jb at h;rcases b:A[n]? with _ | o
   .rw[b]at h;cases h
   .have q:=f.obj n o _ b d;cases o with
    | dS m=>rw[b]at h;cases h;obtain⟨g,i,j⟩:=q;exact⟨rfl,rfl,_,g,rfl,d,i,j⟩
    | _=>rw[b]at h;cases h
end
section
variable{X:Cx}{cm:Nat->Addr}
def qm(r:RV a H (.str i) v):v=L2.kV (.inr i):=by cases r;rfl
def jP(hu:X.A.units+1<cLine)(ho:Pe X cm o d)(hi:Pe X cm i y)(hv:Pe X cm b e)(hs:swapsWith b (some (.Subscript o i h)) r.line X.env=pure false:=by rfl) :
 Ps X cm (.Assign [.Subscript o i h] b r) (eh d y e):=
 O9 (sM hu ho hi hv hs) λD σ H hq=>by
  obtain⟨ρ,A,l,f,A',rl,s,ev,k⟩:=hq;obtain⟨w,A1,e1,C⟩:=B0 ev;obtain⟨x,A2,e2,E⟩:=B0 C;obtain⟨kx,A3,e3,p⟩:=B0 E;refine⟨ρ,A,l,w,A1,rl,s,e1,λG H1 v1 u I J=>⟨G,A1,l,x,A2,I,s.mono u,e2,λL H2 v2 v N O=>⟨L,A2,l,kx,A3,N,(s.mono u).mono v,e3,λg Q v3 z q T=>?_⟩⟩⟩;cases x with
  | ref n=>
    cases kx with
    | str j=>
      obtain⟨m,A4,e4,U⟩:=B0 p;obtain⟨rfl,hA,a,kv,rfl,hn,hH,hp⟩:=ql q (O.mono z) e4;obtain⟨c,Y⟩:=B9 U;cases Y;rw[qm T];refine⟨a,_,rfl,dz.k hH (by rw[<-hp.len];exact lr c),?_⟩;have B:au g Q g (ax Q a (.dK (P5 kv (.inr j) v1))):=au.put q hn hA rfl;have a0:aF X.K cm g (A4.set n (.dS (gv m j w))) (ax Q a (.dK (P5 kv (.inr j) v1))):=
       q.put hn hA rfl rfl ⟨_,C1,PX.put ((((J.mono v).mono z)).mono B) j (hp.mono B)⟩
      exact k g _ (((u.trans v).trans z).trans B) a0 σ ((((s.mono u).mono v).mono z).mono B)
    | _=>cases p
  | _=>cases p
def r_sget(J:X.A.units+1<cLine)(L:Pe X cm o d)(N:Pe X cm i y)(hs:mH i):Pe X cm (.Subscript o i g) (eSGet d y):=
 C9 (sJ J L N hs) λσ H Q O=>by
  obtain⟨T,A,e,v,A',U,B,Y,k⟩:=O;obtain⟨x,C,e1,h⟩:=B0 Y;obtain⟨D,A2,e2,c⟩:=B0 h;refine⟨T,A,e,x,C,U,B,e1,λl H1 v1 E p q=>⟨l,C,e,D,A2,p,B.mono E,e2,λr H2 v2 G f s=>?_⟩⟩;cases x with
  | ref n=>
    cases D with
    | str j=>
      obtain⟨m,A3,e3,b⟩:=B0 c;obtain⟨rfl,hA,a,kv,rfl,hn,hH,hp⟩:=ql f (q.mono G) e3;rcases hp.val j with⟨w,I⟩ | ⟨z,u,w,I,ru⟩
      .rw[w]at b;cases b
      .rw[w]at b;cases b;rw[qm s];exact⟨a,u,rfl,by rw[<-I];exact bR.k hH,k r H2 _ (E.trans G) f ru⟩
    | _=>cases c
  | _=>cases c
noncomputable def vi(K:IH)(cm:Nat->Addr)(ps:List (Str×ED)):List (TE×TE):=ps.map λp=>(cB K cm (eK (.str p.1)),cB K cm p.2)
def kC(X:Cx)(cm:Nat->Addr)(c:Pos)(b:List (Option Expr))(a:List Expr)(ps:List (Str×ED)):Prop:=kR X c b a (vi X.K cm ps)
def jQ:kC X cm a [] [] []:=zG
def Dx(c:Pe X cm k (eK (.str s)))(d:Pe X cm v e)(f:kC X cm a b vs ps):kC X cm a (some k::b) (v::vs) ((s,e)::ps):=zH c d f
theorem vj{K:IH}:∀(ps:List (Str×ED)){c:List Addr}{A A':PHp}{a:PSt}{σ:L2.St}{H:Hp}{b:List (Str×PV)}{Q:List (V×V)->Hp->Prop},aF K cm c A H->bG c H a σ->kY ps a A=.ok b A'->
 (∀d e f,au c H d e->aF K cm d A' e->PX d e b f->Q (f.map λy=>(L2.kV y.1,y.2)) e)->mI (vi K cm ps) σ H Q
 | [],c,A,A',a,σ,H,b,Q,h,g,i,k=>by
   cases i;exact k c H [] (au.refl _ _) h ⟨rfl,.nil⟩
 | p::r,c,A,A',a,σ,H,b,Q,h,g,i,k=>by
   obtain⟨w,C,D,j⟩:=B0 i;obtain⟨N,O,E,l⟩:=B0 j;cases l;refine⟨c,A,a,.str p.1,A,h,g,rfl,λm T U n o q=>⟨m,A,a,w,C,o,g.mono n,D,λG Y I z s u=>?_⟩⟩;rw[qm q];refine vj r s ((g.mono n).mono z) E λv J f B x L=>?_;exact k v J ((.inr p.1,I)::f) ((n.trans z).trans B) x (Pairs.cons' (p:=(p.1,w)) (u.mono B) L)
theorem PX.fold:∀{a:List (Str×PV)}{b:List (Key×V)}{m:List (Str×PV)}{kv:List (Key×V)},PX c H a b->PX c H m kv->PX c H (a.foldl (λd p=>gv d p.1 p.2) m) (m5 kv b)
 | [],b,m,kv,h,e=>by obtain rfl:=h.nil_inv;exact e
 | p::r,b,m,kv,h,e=>by
   obtain⟨u,f,rfl,g,t⟩:=h.cons_inv;exact PX.fold (m:=gv m p.1 p.2) (kv:=P5 kv (.inr p.1) u) t (PX.put g p.1 e)
def gH(h:kC X cm l b c ps)(n:b.all (·.isSome)=true:=by rfl)(u:b.length=c.length:=by rfl)(h0:b≠[]:=by intro z;cases z)(y:b.length<=15:=by decide)(I:ps.length<=15:=by decide):Pe X cm (.Dict b c l) (cT ps):=
 C9 (zJ h n u h0 y) λσ H Q ⟨q,A,B,v,A',J,rs,ev,k⟩ p L=>by
  obtain⟨x,A1,N,g⟩:=B0 ev;cases N;obtain⟨d,A2,s,i⟩:=B0 g;have O:au q H (q++[p]) (ax H p (.dK [])):=au.new L;have C:aF X.K cm (q++[p]) (A++[.dS []]) (ax H p (.dK [])):=J.alloc L ⟨_,C1,⟨rfl,.nil⟩⟩ rfl;have u:(q++[p])[A.length]?=some p:=by rw[<-J.len];simp
  have a8:d.length=ps.length:=by
   have:∀(ps:List (Str×ED)){A A':PHp}{d:List (Str×PV)},kY ps B A=.ok d A'->d.length=ps.length:=λps=>by
    induction ps with
    | nil=>intro A A' d e;cases e;rfl
    | cons p r ih=>
      intro A A' d e;obtain⟨w,A1,N,g⟩:=B0 e;obtain⟨ws,A2,s,i⟩:=B0 g;cases i;simp[ih s]
   exact this ps s
  refine vj ps C (rs.mono O) s λf D T U j Y=>?_;have rp:RV f D (.ref A.length) (.ref p):=(RV.ref u).mono U;obtain⟨m,A4,e4,o⟩:=B0 i;obtain⟨rfl,hA,a,kv,ea,hn,hH,E⟩:=ql j rp e4;cases ea;cases m with
  | nil=>
    cases o;obtain rfl:=E.nil_inv;refine⟨hH,T,rfl,by have:=PX.len Y;walk_at "o",?_⟩;have G:au f D f (ax D p (.dK (m5 [] T))):=au.put j hn hA rfl;exact k f _ _ ((O.trans U).trans G) (j.put hn hA rfl rfl ⟨_,C1,PX.fold (Y.mono G) ⟨rfl,.nil⟩⟩) (rp.mono G)
  | cons _ _=>cases o
end
end Ws
namespace Ws
open PySem PySem.W PyProof.Rows L2
section
variable{prog:Jg}{w:JJ}{A:JI}{E:II->IJ->Prop}{s:IJ}
set_option maxHeartbeats 1000000 in
def Dy{es:Array MF}{ok ov:II}{Q:Option II->IJ->Prop}(e:NJ s.heap c d i es.size ep ok ov)
 (l:s.heap.get? d=some H) (m:H.data=.dict es ep) (C:i<es.size)
 (U:∀n,IsItemIterOut n c d (i+1) es.size ep es[i].key es[i].val s.heap.objs.size->
  n.get? s.heap.objs.size=some { cls:=.type "tuple",data:=.seq #[es[i].key,es[i].val] }->n.objs.size=s.heap.objs.size+1->
  (∀b o,b≠c->s.heap.get? b=some o->n.get? b=some o)->Q (some (.ref s.heap.objs.size)) { s with heap:=n }) :
 wpAny (model prog w) A (pyNext (.ref c)) Q E s:=by
 have j:s.TypeIs (.ref c) "dict_itemiterator":=⟨_,e,rfl⟩;unfold pyNext;refine IE (LC (JF (name:=Str.ofString "__next__") j KH
  (JA KH j Nn ?_ (Nb _))))
 wp_walk using Oo e rfl,Kg l m,LN l m,Lk j,LZ j
 rw[if_neg (show ¬((i:Int)<0) by walk_at "o"),La,Ms C];dsimp only
 wp_walk using Lk j,LZ j,JG e (by simp[Kj])
 intro f r u;have I:NJ f c d (i+1) es.size ep ok ov:=by
  refine r.trans ?_;rw[show Kj "dict_itemiterator" = true by decide];rfl
 clear r;have D:ML { s with heap:=f } (.ref c) "dict_itemiterator":=⟨_,I,rfl⟩;have g:f.objs.size=s.heap.objs.size:=u.1;have G:c<s.heap.objs.size:=IQ e;have J:NJ (f.push { cls:=.type "tuple",data:=.seq #[es[i].key,es[i].val] }) c d (i+1) es.size ep ok ov:=IF _ I;have Y:(f.push { cls:=.type "tuple",data:=.seq #[es[i].key,es[i].val] }).get? s.heap.objs.size=some { cls:=.type "tuple",data:=.seq #[es[i].key,es[i].val] }:=by rw[<-g];exact IP _ rfl
 have z2:(f.push { cls:=.type "tuple",data:=.seq #[es[i].key,es[i].val] }).objs.size=s.heap.objs.size+1:=by rw[JW,g]
 have k2:∀b o,b≠c->s.heap.get? b=some o->(f.push { cls:=.type "tuple",data:=.seq #[es[i].key,es[i].val] }).get? b=some o:=λb o h q=>IF _ (u.extBut b o h q)
 wp_walk using LZ D,JB J rfl rfl,JG J (by simp)
 intro L e3 v;replace v:JK c (f.push { cls:=.type "tuple",data:=.seq #[es[i].key,es[i].val] }) L:=v;refine IE (JG e3 (by simp) λN e4 x=>?_);replace x:JK c L N:=x;refine IE (JG e4 (by simp) λO e5 y=>?_);replace y:JK c N O:=y;refine IE (JG e5 (by simp) λz e6 B=>?_);replace B:JK c O z:=B;have T:∀b o,b≠c->(f.push { cls:=.type "tuple",data:=.seq #[es[i].key,es[i].val] }).get? b=some o->z.get? b=some o:=λb o h q=>B.extBut b o h (y.extBut b o h (x.extBut b o h (v.extBut b o h q)));have e7:IsItemIterOut z c d (i+1) es.size ep es[i].key es[i].val s.heap.objs.size:=by rw[<-g];exact e6
 refine IE (Qu (IG (IG ⟨_,rfl,IG ?_⟩)));rw[g];exact U z e7 (T _ _ (KU G) Y) (by rw[B.1,y.1,x.1,v.1,z2]) λb o h q=>T b o h (k2 b o h q)
set_option maxHeartbeats 1000000 in
def Dz{es:Array MF}{ok ov:II}{Q:Option II->IJ->Prop}(q:A.handled=none)(c:NJ s.heap f d i es.size ep ok ov)
 (g:s.heap.get? d=some n) (h:n.data=.dict es ep) (l:es.size<=i)
 (r:∀o,NO f s.heap o->Q none { s with heap:=o }):wpAny (model prog w) A (pyNext (.ref f)) Q E s:=by
 have j:s.TypeIs (.ref f) "dict_itemiterator":=⟨_,c,rfl⟩;unfold pyNext;refine IE (LC (JF (name:=Str.ofString "__next__") j KH
  (JA KH j Nn ?_ (Nb _))))
 wp_walk using Oo c rfl,Kg g h,LN g h,Lk j,LZ j
 rw[if_neg (show ¬((i:Int)<0) by walk_at "o"),La,MS l];dsimp only
 wp_walk using Lk j,JG c (by simp[Kj])
 intro u _ e;replace e:JK f s.heap u:=e;refine IE ?_;simp only[newExc,newTuple];refine IE (Ke ?_ (by size_fits));refine IE (m:=firstArgMember _ _) (Qs (a:=Ks) (by simp only[firstArgMember];rfl) ?_);refine Ke ?_ (by size_fits);simp only[raiseNew];refine IE (OR ?_);rw[show A.in1.handled=none from q];refine IE (IG (Qt ?_));refine IE (Lx (T:="StopIteration") (b:=true) ⟨_,IP _ rfl,rfl⟩ Om ?_);exact IG (r _ ((e.extBut.push _).push _))
def DA(b:s.heap.IsItemsView v d)(f:s.heap.get? d=some o)(a:o.data=.dict es ep)
 (i:Q (.ref s.heap.objs.size) { s with heap:=s.heap.push { cls:=.type "dict_itemiterator",data:=.fields #[.none,.bool false,.ref d,.int 0 0,.int es.size 0,.int ep 0,.none,.none] } }) :
 wpAny (model prog w) A (pyIter (.ref v)) Q E s:=by
 obtain⟨ov,c,j,e⟩:=id b;refine OC b.typeIs Pr (JA Pr b.typeIs F.entry_dict_items_iter ?_ (F.args_dict_items_iter_1 _))
 wp_walk using JB c e (x:=.ref d) rfl,Kg f a,LN f a
 rw[if_pos (show Kj "dict_itemiterator" = true by decide)];exact⟨_,rfl,"dict_itemiterator",_,⟨_,IP _ rfl,rfl⟩,KH.lookup,i⟩
def DB(d:Addr)(c:(d == sysModules)=false) :
 MeetsIn prog w (KI.«dict.items» ⟨[.ref d],[]⟩) (λ_ R s=>s.TypeIs (.ref d) "dict"/\
  R (.ok (.ret (.ref s.heap.objs.size))) { s with heap:=s.heap.push { cls:=.type "dict_items",data:=.fields #[.ref d] } }):=
 .of_wp λA R s e=>by
  obtain⟨f,h⟩:=e;have g:¬(d == sysModules)=true:=by rw[c];exact Kh
  unfold KI.«dict.items» KI.Dict.noArgs Mg
  wp_walk using LF f
  exact⟨_,rfl,h⟩
end
def DC{c d:Type}{F:c->d->Prop}{l:List c}{m:List d}(h:Paired F l m){i:Nat}{a:c}(e:l[i]?=some a):∃b,m[i]?=some b/\F a b:=by
 induction h generalizing i with
 | nil=>cases e
 | cons r _ ih=>
   cases i with
   | zero=>cases e;exact⟨_,rfl,r⟩
   | succ i=>exact ih e
noncomputable def X3(H:Hp)(d:Addr):Hp:=λb=>if b=d then none else H b
def w6(h:b≠d):X3 H d b=H b:=if_neg h
def vk:X3 H d d=none:=if_pos rfl
def DD(H H':Hp):Prop:=∀b a,H b=some (.tup a)->H' b=some (.tup a)
def DE(I:L2.Inv X pins σ H s)(e:H d=some (.dT kvs))(m:s.heap.get? d=some o)(w:∀v,o.data≠.cell v):L2.Inv X (pins++[(d,o)]) σ (X3 H d) s:=by
 have a:∀{b u},H b=some u->(∀k,u≠.dT k)->X3 H d b=some u:=λ{b u} h y=>by
  rw[w6]
  .exact h
  .rintro rfl;rw[e]at h;cases h;exact y _ rfl
 have no:∀{b},H b=none->X3 H d b=none:=λ{b} h=>by
  unfold X3;split
  .rfl
  .exact h
 refine⟨I.ok,I.os,I.bare,⟨I.base.keep,I.base.slot,λb o q n A=>no (I.base.free b o q n A),I.base.there,λb j q=>a (I.base.tups b j q) (by intro k z;cases z),λb o u q=>a (I.base.frzs b o u q) (by intro k z;cases z),λb B q=>?_⟩,I.loc,I.cell,no I.free,λx c q=>no (I.freeC x c q),λp l=>?_,λb u q=>?_,I.len⟩
 .obtain⟨f,h⟩:=I.base.tbls b B q;exact⟨f,a h (by intro k z;cases z)⟩
 .rw[<-List.append_assoc]at l;rcases Jx.mp l with z | z
  .obtain⟨C,D,E⟩:=I.pin p z;exact⟨C,no D,E⟩
  .rw[IS.mp z];refine⟨m,vk,λz=>?_,λg=>?_,w⟩
   .have:=I.free;rw[<-z,e]at this;cases this
   .obtain⟨_,G,i,_⟩:=I.ok.funs.mem g;have:=I.base.free d G i (I.ok.frf d g) λz=>I.ok.exfs d z g;rw[e]at this;cases this
 .have g:b≠d:=by rintro rfl;rw[vk]at q;cases q
  rw[w6 g]at q;exact(I.hok b u q).stay (λc v _ r=>r) (λc r=>a r (by intro k z;cases z)) λc j r=>a r (by intro k z;cases z)
def DF(I:L2.Inv X (pins++[(d,o)]) σ H s)(z:∀a,X.s₀.heap.get? d=some a->X.H₀ d=none->d∉X.ex->False)(A:∀p∈X.pn++pins,p.1≠d)(ok:aA X.prog X.w (ax H d (.dT kvs)) s.heap d (.dT kvs)):L2.Inv X pins σ (ax H d (.dT kvs)) s:=by
 obtain⟨B,C,D,L,E⟩:=I.pin (d,o) (by simp);have e:∀{b u},H b=some u->ax H d (.dT kvs) b=some u:=λ{b u} h=>by
  rw[ah]
  .exact h
  .rintro rfl;rw[C]at h;cases h
 refine⟨I.ok,I.os,I.bare,⟨I.base.keep,I.base.slot,λb a q n m=>?_,I.base.there,λb y q=>e (I.base.tups b y q),λb a u q=>e (I.base.frzs b a u q),λb G q=>?_⟩,I.loc,I.cell,?_,λx c q=>?_,λp f=>?_,λb u q=>?_,I.len⟩
 .by_cases g:b=d
  .subst g;exact(z a q n m).elim
  .rw[ah g];exact I.base.free b a q n m
 .obtain⟨i,h⟩:=I.base.tbls b G q;exact⟨i,e h⟩
 .rw[ah (Kk D)];exact I.free
 .rw[ah]
  .exact I.freeC x c q
  .rintro rfl;obtain⟨v,a,j,l⟩:=I.cell x c q;rw[B]at j;cases j;exact E _ l
 .obtain⟨j,l,J⟩:=I.pin p (by rw[<-List.append_assoc];exact KR _ f);exact⟨j,by rw[ah (A p f)];exact l,J⟩
 .by_cases g:b=d
  .subst g;rw[C1]at q;cases q;exact ok
  .rw[ah g]at q;exact(I.hok b u q).stay (λc v _ r=>r) (λc r=>e r) λc y r=>e r
def DG(h:TE)(g:TG)(j:TS):TS:=λD a H=>h a H λv c=>∃(d:Addr)(b:List (List Key×V))(W:Nat->L2.St->Hp->Prop),v=.ref d/\c d=some (.dT b)/\W 0 a (X3 c d)/\(∀i a H,W i a H->DD c H)/\
 (∀i k u a H f p,b[i]?=some (k,u)->W i a H->H f=some (.tup (k.map L2.kV))->H p=none->p≠d->g (.ref p) a (ax H p (.tup [.ref f,u])) λe l=>j { nx:=W (i+1),rt:=λ_ _=>False } e l)/\
 ∀a H,W b.length a H->H d=none->D.nx a (ax H d (.dT b))
set_option maxHeartbeats 1000000 in
def DH(hp:PB (model X.prog X.w) X.A X.env X.xe)(hc:X.calm=true)(ho:PE X o to)(hg:L2.PG X (.Tuple a0 x1 pt) g)(J:bP X a1 tb)
 (hbase:attributeBase o "items" X.env (eval o X.env)=eval o X.env:=by rfl) (hline:(L.endLine == m.line)=true:=by rfl)
 (hs:∀x,foldedSetIterable (.Call (.Attribute o "items" L) [] [] m) X.env x=pure x:=by intro _;rfl):PS X (.For (.Tuple a0 x1 pt) (.Call (.Attribute o "items" L) [] [] m) a1 [] f4) (DG to g tb):=by
 intro c s σ H D I h;refine wpAny_For (MV (T:="dict") (id:="dict.items") hbase rfl hline F.plainAttrs_dict F.slot_dict_items F.type_dict_items (aB (ho c s σ H _ I h) λu C hh=>?_)) hs;obtain⟨v,H1,I1,rv,d,a5,W,ev,eH,w0,wt,step,fin⟩:=hh;subst ev;obtain rfl:u=Jf d:=rv;obtain⟨hz,a2,xs,a6,B,es,ep,h1,h2,h3,h4,nd⟩:=I1.hok d _ eH;have hT:C.TypeIs (.ref d) "dict":=⟨B,h1,h2.1⟩;have a7:∀v,B.data≠.cell v:=λv z=>by rw[h3]at z;cases z
 have h0:∀o',X.s₀.heap.get? d=some o'->X.H₀ d=none->d∉X.ex->False:=λo' q n hx=>by
  have:=I1.base.free d o' q n hx;rw[eH]at this;cases this
 have g5:∀p∈X.pn++c,p.1≠d:=λp hp z=>by
  have:=(I1.pin p hp).2.1;rw[z,eH]at this;cases this
 have g6:es.size=a5.length:=by
  rw[<-L0,h4,IK];exact(Paired.length a6).symm
 refine⟨hT,λa e=>?_,?_⟩
 .cases e;exact⟨B,h1,h2.2.1⟩
 show wpAny _ _ (callWith m (.builtin "dict.items") [.ref d] [] []) _ _ C;refine method_meetsIn F.slot_dict_items F.entry_dict_items rfl (Qp ⟨rfl,hT,F.args_dict_items_1 _,_,DB d a2,hT,?_⟩);refine DA (o:=B) (es:=es) (ep:=ep) ⟨_,IP _ rfl,rfl,rfl⟩ (IF _ h1) h3 ?_;have Ih:=DE I1 eH h1 a7;have c2:(C.heap.push { cls:=.type "dict_items",data:=.fields #[.ref d] }).objs.size=C.heap.objs.size+1:=JW ..;have Ik:L2.Inv X (c++[(d,B)]) σ (X3 H1 d) { C with heap:=(C.heap.push { cls:=.type "dict_items",data:=.fields #[.ref d] }).push { cls:=.type "dict_itemiterator",data:=.fields #[.none,.bool false,.ref d,.int 0 0,.int es.size 0,.int ep 0,.none,.none] } }:=Ih.kept (t':=C.toks) λb u e=>IF _ (IF _ e);have c3:NJ ((C.heap.push { cls:=.type "dict_items",data:=.fields #[.ref d] }).push { cls:=.type "dict_itemiterator",data:=.fields #[.none,.bool false,.ref d,.int 0 0,.int es.size 0,.int ep 0,.none,.none] }) (C.heap.push { cls:=.type "dict_items",data:=.fields #[.ref d] }).objs.size d 0 es.size ep .none .none:=IP _ rfl;have c4:C.heap.objs.size<=(C.heap.push { cls:=.type "dict_items",data:=.fields #[.ref d] }).objs.size:=by rw[c2];exact Mx _
 have d1:=Ih.fpOk c4 (Ih.hok.fresh c4);generalize(C.heap.push { cls:=.type "dict_items",data:=.fields #[.ref d] }).objs.size=E at *;generalize(C.heap.push { cls:=.type "dict_items",data:=.fields #[.ref d] }).push { cls:=.type "dict_itemiterator",data:=.fields #[.none,.bool false,.ref d,.int 0 0,.int es.size 0,.int ep 0,.none,.none] }=p3 at *;have O:∀{H':Hp},H' E=none->∀b∈[E],Z3 X (c++[(d,B)]) H' b:=λhn b J=>by
  rw[IS.mp J];exact⟨hn,d1.2⟩
 have a3:∀{Y H' s'},L2.Inv X (c++[(d,B)]) Y H' s'->s'.heap.get? d=some B/\H' d=none:=λI'=>let q:=I'.pin (d,B) (by simp);⟨q.1,q.2.1⟩;refine Qn (λn s'=>∃i Y H' ok ov,L2.Inv X (c++[(d,B)]) Y H' s'/\NJ s'.heap E d i es.size ep ok ov/\H' E=none/\W i Y H'/\i<=es.size/\n=es.size+1 - i) ?_ (es.size+1) ⟨0,σ,_,_,_,Ik,c3,d1.1,w0,LU _,rfl⟩;rintro n U ⟨i,l,H3,ok,ov,I3,Q,a8,w3,hi,rfl⟩;obtain⟨a9,e2⟩:=a3 I3;by_cases b0:i<es.size
 .refine Km hp (Dy Q a9 h3 b0 λh' e3 ht p9 hk=>?_);refine Km hp (wpAny_letOwnedTupleGo_items (s:={ U with heap:=h' }) e3 λh5 e5 s5=>?_);replace s5:JK E h' h5:=s5;have e4:E<U.heap.objs.size:=IQ Q;obtain⟨x,hx,e6⟩:∃x,xs[i]?=some x/\es[i]=entryOfKey (tupleKind (J6 X.prog X.w)) x:=by
   have:es.toList[i]?=some es[i]:=by simp[b0]
   rw[h4,Jm]at this;obtain⟨x,a,b⟩:=Jz.mp this;exact⟨x,a,b.symm⟩
  have h6:i<a5.length:=by walk_at "o"
  obtain⟨ku,e7⟩:∃p,a5[i]?=some p:=⟨_,Jj h6⟩;obtain⟨r1,r2,r3⟩:ku.1=x.1/\H1 x.2.1=some (.tup (ku.1.map L2.kV))/\L2.RelV ku.2 x.2.2:=by
   obtain⟨y,hy,r⟩:=DC a6 e7;rw[hx]at hy;cases hy;exact r
  have h7:=wt i l H3 w3 _ _ r2;have I5:L2.Inv X (c++[(d,B)]) l (ax H3 U.heap.objs.size (.tup [.ref x.2.1,ku.2])) { U with heap:=h5 }:=by
   refine m9 (t':=U.toks) I3 (O a8) (λb u J q=>?_) (IM _) ⟨by show 2<=sizeLine;decide,[es[i].key,es[i].val],.cons ?_ (.cons ?_ .nil),_,s5.extBut _ _ (KU e4) ht,rfl,_,rfl⟩
   .have J:b≠E:=λz=>J (by simp[z]);exact s5.extBut b u J (hk b u J q)
   .rw[e6];rfl
   .rw[e6];exact r3
  have h8:ax H3 U.heap.objs.size (.tup [.ref x.2.1,ku.2]) E=none:=by rw[ah (IY e4)];exact a8
  have h9:=I5.pinned (O h8) (λb J=>by rw[IS.mp J];exact⟨_,e5,λv z=>by cases z⟩);refine Km hp (aB (hg _ _ l _ (.ref U.heap.objs.size) _ _ h9 rfl (step i ku.1 ku.2 l H3 x.2.1 U.heap.objs.size e7 w3 h7 (I3.hok.fresh (IM _)) (KU (IQ a9)))) λ_ s6 i1=>?_);obtain⟨i2,H6,I6,q6⟩:=i1;refine Km hp (aB (J _ s6 i2 H6 _ I6 q6) λf s7 q7=>?_);have j1:∀{G H7},L2.Inv X (c++[(d,B)]++kN [E] h5) G H7 s7->NJ s7.heap E d (i+1) es.size ep es[i].key es[i].val/\H7 E=none:=λI7=>by
   have q:=I7.pin (E,_) (Jr _ (Jr _ (Q3 (OX E) e5)));exact⟨q.1,q.2.1⟩
  cases f with
  | next=>
    obtain⟨G,H7,I7,n7⟩:=q7;obtain⟨p1,p2⟩:=j1 I7;exact⟨es.size+1 - (i+1),by walk_at "o",i+1,G,H7,_,_,I7.unpinned,p1,p2,n7,b0,rfl⟩
  | cont=>obtain⟨G,H7,I7,n7⟩:=q7;exact n7.elim
  | brk=>obtain⟨G,H7,I7,n7⟩:=q7;exact n7.elim
  | ret v=>obtain⟨x7,G,H7,I7,r7,n7⟩:=q7;exact n7.elim
 .have j2:i=es.size:=by walk_at "o"
  refine Km hp (Dz (I3.ok.hd hc) Q a9 h3 (by walk_at "o") λh' eb=>LK ?_);have I4:L2.Inv X (c++[(d,B)]) l H3 { U with heap:=h' }:=pF (t':=U.toks) I3 (O a8) λb u J q=>eb b u (λz=>J (by simp[z])) q;obtain⟨k0,_⟩:=a3 I4;rw[j2,g6]at w3;refine⟨l,_,DF I4 h0 g5 ⟨hz,a2,xs,?_,B,es,ep,k0,h2,h3,h4,nd⟩,fin l H3 w3 e2⟩;refine L2.Paired.mapP a6 λa b r=>⟨r.1,?_,r.2.2⟩;have:=wt _ _ _ w3 _ _ r.2.1;rw[ah]
  .exact this
  .rintro z;rw[z,e2]at this;cases this
end Ws
namespace Ws
open PySem L2
section
variable{K:IH}{cm:Nat->Addr}{ρ:List Addr}{H:Hp}{A:PHp}{n:Nat}{d:Addr}{m:List (List Int×PV)}{kv:List (List Key×V)}
def qp(e:H d=some (.dT kv)):au ρ H ρ (X3 H d):=by
 refine⟨Jk _,λa b h=>?_,λa b h=>?_⟩;all_goals
  rw[w6]
  .exact h
  .rintro rfl;rw[e]at h;cases h
def DI(r:aF K cm ρ A H)(C:ρ[n]?=some d)(s:A[n]?=some (.dT m))(e:H d=some (.dT kv)):aF K cm ρ (A.set n .hid) (X3 H d):=by
 have D:∀{b u},H b=some u->(∀k,u≠.dT k)->X3 H d b=some u:=λ{b u} h f=>by
  rw[w6]
  .exact h
  .rintro rfl;rw[e]at h;cases h;exact f _ rfl
 refine⟨r.tab.keep λa u h f=>D h λk z=>?_,by simp[r.len],λj o a c g=>?_,λi j a o p c g E G w x=>?_⟩
 .subst z;rcases f with⟨_,f⟩ | ⟨_,_,f⟩<;>cases f
 .by_cases v:j=n
  .subst v;rw[KY (IW.mp s).1]at c;cases c;exact trivial
  .rw[JL (Kk v)]at c;have q:=r.obj j o a c g;by_cases y:a=d
   .subst y;cases o with
    | ro l=>
      obtain⟨I,h,q⟩:=q;rcases h with⟨u,h⟩ | h
      .rw[e]at h;cases h
      .exact⟨I,.inr h,q.mono (qp e)⟩
    | hid=>exact trivial
    | _=>exact(v (r.inj j n _ _ _ g C c s rfl rfl)).elim
   .exact q.keep (qp e) λu h=>by rw[w6 y];exact h
 .have ne:∀{k q},(A.set n .hid)[k]?=some q->P3 q=true->A[k]?=some q:=λ{k q} h J=>by
   by_cases B:k=n
   .rw[B,KY (IW.mp s).1]at h;cases h;cases J
   .rwa [JL (Kk B)]at h
  exact r.inj i j a o p c g (ne E w) (ne G x) w x
def DJ(r:aF K cm ρ A H)(s:ρ[n]?=some d)(C:A[n]?=some .hid)(g:H d=none)(D:Pairs (Nf Kb:List Int->List Key) ρ H m kv):aF K cm ρ (A.set n (.dT m)) (ax H d (.dT kv)):=by
 have x:au ρ H ρ (ax H d (.dT kv)):=au.same g;have e:∀{k q},ρ[k]?=some d->A[k]?=some q->P3 q=true->False:=λ{k q} b c E=>by
  obtain⟨u,y⟩:=(r.obj k q d c b).some E;rw[g]at y;cases y
 refine⟨r.tab.keep λa u h _=>K9 g a u h,by simp[r.len],λj o a b c=>?_,λi j a o p b c v l z B=>?_⟩
 .by_cases f:j=n
  .subst f;rw[KY (IW.mp C).1]at b;cases b;rw[s]at c;cases c;exact⟨_,C1,D.mono x⟩
  .rw[JL (Kk f)]at b;exact(r.obj j o a b c).keep x λu h=>K9 g a u h
 .by_cases w:i=n
  .by_cases f:j=n
   .rw[w,f]
   .subst w;rw[s]at b;cases b;rw[JL (Kk f)]at l;exact(e c l B).elim
  .rw[JL (Kk w)]at v;by_cases f:j=n
   .subst f;rw[s]at c;cases c;exact(e b v z).elim
   .rw[JL (Kk f)]at l;exact r.inj i j a o p b c v l z B
end
def DK(O:PB (model X.prog X.w) X.A X.env X.xe)(hc:X.calm=true)(ho:Pe X cm o d)(hg:Pg X cm (.Tuple C z1 pt) g)(hb:eD X cm E b)
 (hbase:attributeBase o "items" X.env (eval o X.env)=eval o X.env:=by rfl) (hline:(j.endLine == l.line)=true:=by rfl)
 (hs:∀x,foldedSetIterable (.Call (.Attribute o "items" j) [] [] l) X.env x=pure x:=by intro _;rfl):Ps X cm (.For (.Tuple C z1 pt) (.Call (.Attribute o "items" j) [] [] l) E [] a9) (oY d g b):=
 O9 (DH O hc ho hg hb hbase hline hs) λD σ H hq=>by
  obtain⟨ρ,A,Q,f,A',rl,rs,ev,k⟩:=hq;obtain⟨x,A1,e1,T⟩:=B0 ev;refine⟨ρ,A,Q,x,A1,rl,rs,e1,λy H1 v1 x1 U b2=>?_⟩;cases x with
  | ref n=>
    obtain⟨m,A2,e2,b3⟩:=B0 T;obtain⟨rfl,hA,a,kv,rfl,hn,hH,O⟩:=L4 U b2 e2;obtain⟨_,A3,e3,c0⟩:=B0 b3;cases e3;obtain⟨c1,A4,e4,c2⟩:=B0 c0;obtain⟨_,A5,J,c3⟩:=B0 c2;have Y:kv.map (·.1)=m.map λp=>p.1.map Kb:=O.keys;have G:m.length=kv.length:=by simpa using(congrArg List.length Y).symm
    have xh:au y H1 y (X3 H1 a):=qp hH;refine⟨a,kv,λi r s=>∃e B h,au y (X3 H1 a) e s/\aF X.K cm e B s/\bG e s h r/\mQ g b (m.drop i) h B=.ok c1 A4,rfl,hH,⟨y,_,Q,au.refl _ _,DI U hn hA hH,(rs.mono x1).mono xh,e4⟩,?_,?_,?_⟩
    .rintro i r s ⟨e,B,h,I,_⟩ c ys hc;exact(xh.trans I).tup c ys hc
    .rintro i ks u r s kb p hi ⟨e,B,h,I,L,N,v⟩ d2 a1 k1;have a2:i<m.length:=by rw[G];exact(IW.mp hi).1
     have hm:m[i]?=some m[i]:=Jj a2;rw[Oq a2]at v;have e0:ks=m[i].1.map Kb:=by
      have q:=congrArg (·[i]?) Y;simp only[Jm,hi,hm,NS,Option.some.injEq]at q;exact q
     obtain⟨u',a3,ru⟩:=O.vals.get (i:=i) (x:=m[i].2) (by rw[Jm,hm];rfl);rw[Jm,hi]at a3;cases a3;have x3:au e s e (ax s p (.tup [.ref kb,u])):=au.same a1;have rk:RV e (ax s p (.tup [.ref kb,u])) (.tup (m[i].1.map .int)) (.ref kb):=by
      refine .tup (x3.tup _ _ d2) ?_;rw[e0,Ji];exact RVs.ints _
     obtain⟨a4,B4,e6,e8⟩:=B0 v;obtain⟨q,B5,e7,a5⟩:=B0 e8;refine⟨e,B,h,_,a4,B4,L.tup a1,N.mono x3,.tup C1 (.cons rk (.cons (((ru.mono xh).mono I).mono x3) .nil)),e6,λe9 H4 k6 x4 f0 f1=>⟨e9,B4,a4,q,B5,f0,f1,e7,λf2 H5 x5 f3=>?_⟩⟩;cases q with
     | nx f4=>exact λl0 f5=>⟨f2,B5,f4,((I.trans x3).trans x4).trans x5,f3,f5,a5⟩
     | _=>cases a5
    .rintro r s ⟨e,B,h,I,L,N,v⟩ hd;rw[<-G,List.drop_length]at v;cases v;unfold oX at J;rcases z:A4[n]? with _ | q
     .rw[z]at J;cases J
     .cases q with
      | hid=>
        rw[z]at J;cases J;cases c3;have x4:au e s e (ax s a (.dT kv)):=au.same hd;exact k e _ (((x1.trans xh).trans I).trans x4) (DJ L (lg I.pre hn) z hd ((O.mono xh).mono I)) r (N.mono x4)
      | _=>rw[z]at J;cases J
  | _=>cases T
end Ws
namespace Ws
open PySem PySem.W PyProof.Rows L2
def DL:entryFor table "set.__eq__" = some KI.«frozenset.__eq__»:=entryFor_alias (id':="frozenset.__eq__") (by kernel_rfl) rfl (by decide +kernel) (by kernel_rfl)
def vl(h:(intKind prog w).is k v=true):∃t,v=.int k t:=by
 have h:Qm k v=true:=h;cases v<;>simp[Qm]at h;exact⟨_,by rw[h]⟩
def DM(p:s.heap.get? a=some o)(q:o.data=.set es ep t)(r:ElemsOf (intKind prog w) es.toList)(u:t.fits es.size=true)
 (v:s.heap.get? b=some m) (y:m.data=.set f g t') (B:ElemsOf (intKind prog w) f.toList) (C:t'.fits f.size=true) (h:Q es.toList s):wpAny (model prog w) A (NH a b) Q E s:=by
 unfold NH setEntries;refine IE (IE (Lc p q u (IG ?_)));refine IE (IE (Lc v y C (IG ?_)));refine IE (Pk _ (λd c i=>(∀e∈d,∃k t,e.2=.int k t)/\c=(none,())/\i=s) _ ?_ ?_ _ _ ⟨?_,rfl,rfl⟩)
 .rintro⟨D,x⟩ d c i ⟨n,rfl,rfl⟩;obtain⟨k,t,rfl⟩:=n _ IV;exact IG ⟨λe j=>n e (IZ _ j),rfl,rfl⟩
 .rintro c i ⟨_,rfl,rfl⟩;exact IG h
 .intro e j;rcases Jx.mp j with z | z
  .obtain⟨⟨k,l,_⟩,_⟩:=r e z;exact⟨k,vl l⟩
  .obtain⟨⟨k,l,_⟩,_⟩:=B e z;exact⟨k,vl l⟩
def DN(ha:s.heap.SetOf (intKind prog w) a S n)(L:s.heap.SetOf (intKind prog w) b T m)(a5:n=m)
 (h:∀r,(r=true↔∀k,S k=true->T k=true)->Q r s):wpAny (model prog w) A (Ob nm a b) Q E s:=by
 have y:=L;obtain⟨o,B,ep,t,p,h2,q,N,O,h6,u,h8⟩:=ha;obtain⟨o',C,a6,t',U,g2,Y,g4,g5,g6,g7,g8⟩:=L;unfold Ob OG setEntries setEpoch;refine IE (IE (IE (Lc p q u (IG (IG ?_)))));refine IE (IE (IE (Lc U Y g7 (IG (IG ?_)))));rw[if_neg (by show ¬C.size<B.size;walk_at "o")];refine IE (IE (Lc p q u (IG ?_)));refine IE (DM p q N u U Y g4 g7 ?_);refine IE (Pk _ (λd c D=>(∃pre,B.toList=pre++d/\∀e∈pre,∀k,(intKind prog w).is k e.2=true->T k=true)/\c=(none,())/\D=s) _ ?_ ?_ _ _ ⟨⟨[],rfl,λe f=>by cases f⟩,rfl,rfl⟩)
 .rintro⟨hx,x⟩ d c D ⟨⟨pre,v,G⟩,rfl,rfl⟩;have hm:(hx,x)∈B.toList:=by rw[v];simp
  obtain⟨⟨k,g,H⟩,hs⟩:=N _ hm;have H:hx=(intKind prog w).hash k:=H;subst H;refine IE (JE (wpAny_setFind_of g hs y λr l=>?_));cases r with
  | none=>
    refine IG ?_;refine IG (h false ⟨λz=>(nomatch z),λz=>?_⟩);have:=z k ((O k).mpr ⟨_,hm,g⟩);rw[<-l]at this;cases this
  | some i=>
    refine IE ?_;unfold KI.Frozenset.unchanged setEpoch;refine IE (IE (Lc p q u (IG ?_)));rw[if_neg (by simp)];refine IG (IG ⟨⟨pre++[((intKind prog w).hash k,x)],by rw[v];simp,λe f j I=>?_⟩,rfl,rfl⟩);rcases Jx.mp f with z | z
    .exact G e z j I
    .rw[IS.mp z]at I;obtain rfl:=(intKind prog w).inj _ _ _ g I;exact l.symm
 .rintro c D ⟨⟨pre,v,G⟩,rfl,rfl⟩;refine IG (h true ⟨λ_ k g=>?_,λ_=>rfl⟩);obtain⟨e,f,J⟩:=(O k).mp g;exact G e (by rw[v]at f;simpa using f) k J
def SetOf.type{prog:Jg}{w:JJ}{s:IJ}{K:Type}[DecidableEq K]{knd:KeyKind prog w K}{a:Addr}{S:K->Bool}{n:Nat}(h:s.heap.SetOf knd a S n):s.TypeIs (.ref a) "set":=by
 obtain⟨o,d,e,t,b,c,_⟩:=h;exact⟨o,b,c.1⟩
def DO(d:s.heap.SetOf (intKind prog w) a S n)(f:s.heap.SetOf (intKind prog w) b T m)(u:A.units<cLine)
 (h:∀r,(r=true↔n=m/\∀k,S k=true->T k=true)->Q (.bool r) s):wpAny (model prog w) A (richCompare .Eq (.ref a) (.ref b)) Q E s:=by
 have g:=SetOf.type d;have l:=SetOf.type f;refine wpAny_richCompare_same_room g l F.slot_set_eq (JA F.slot_set_eq g DL ?_ (F.args_set_eq_2 _ _)) u;unfold KI.«frozenset.__eq__»;refine IE (m:=KI.Frozenset.slot1 "__eq__" ⟨[.ref a,.ref b],[]⟩) ?_;show wpAny _ _ (pure (Jf a,Jf b)) _ _ s;refine IG ?_;dsimp only;have i:=d;have j:=f;obtain⟨o,p,I,t,v,J,y,L,N,O,B,U⟩:=d;obtain⟨Y,c,C,t',D,g2,G,g4,g5,g6,H,g8⟩:=f;refine IE (IE (Lx l sub_set_self ?_));refine IG ?_;rw[if_neg (by simp)];refine IE (IG ?_);refine IE (IG ?_);unfold OG setEntries;refine IE (IE (IE (Lc v y B (IG (IG ?_)))));refine IE (IE (IE (Lc D G H (IG (IG ?_)))));refine IE ?_;by_cases e:n=m
 .rw[if_neg (by show ¬(p.size != c.size)=true;simp;walk_at "o")];refine IE (IE (Lx g F.sub_set_frozenset ?_));refine IG ?_;rw[if_neg (by simp)];refine DN i j e λr q=>?_;exact IG ⟨_,rfl,(λx=>nomatch x),h r ⟨λz=>⟨e,q.mp z⟩,λz=>q.mpr z.2⟩⟩
 .rw[if_pos (by show(p.size != c.size)=true;simp;walk_at "o")];exact IG (IG ⟨_,rfl,(λx=>nomatch x),h false ⟨λz=>(nomatch z),λz=>(e z.1).elim⟩⟩)
def DP(ns:List Int)(k:Int):((firstMet (λi=>ns.getD i 0) ns.length).any (·== k))=decide (k∈ns):=by
 rw[firstMet_any];have e:(Ju ns.length).map (λi=>ns.getD i 0)=ns:=by
  refine MZ λk=>?_;rw[Jm];by_cases a:k<ns.length
  .rw[List.getElem?_range a];simp[a]
  .simp[a]
 rw[e];by_cases h:k∈ns
 .simp[h]
 .simp[h];exact λx b z=>h (z ▸ b)
def DQ{da db:ED}{p1 p2 q1 q2:Pos}(f:X.calm=true)(hu:X.A.units+1<cLine)(ha:Pe X cm a da)(Y:Pe X cm b db)(hg:Gl X "set")(hm:X.mg "set" = none)
 (a0:starEach [a] X.env=(false,eval a X.env)::starEach [] X.env) (a1:starEach [b] X.env=(false,eval b X.env)::starEach [] X.env) :
 PC X .Eq (.Call (.Name "set" p1) [a] [] q1) (.Call (.Name "set" p2) [b] [] q2) (cB X.K cm (kZ da db)):=by
 intro D s σ H Q I h;obtain⟨ρ,A,a2,v,A',rl,rs,ev,k⟩:=h;obtain⟨x,A1,e1,a3⟩:=B0 ev;refine Ri (T1 I hg hm (show bootBuiltins "set" = some (.type "set")from by rfl) (callWith_type1 (v8 a0 ?_) a0 rfl));refine aB (ha D s σ H (λv O=>∃(c:Addr)(ns:List Int),v=.ref c/\bu X.K O c (ns.map V.int)/\ns.length<900/\cB X.K cm db σ O λv2 T=>∃(U:Addr)(C:List Int),v2=.ref U/\bu X.K T U (C.map V.int)/\C.length<900/\Q (.bl (V5 ns C)) T) I ⟨ρ,A,a2,x,A1,rl,rs,e1,λe5 O v1 x1 a4 e6=>?_⟩) λu s1 zq=>?_
 .cases x with
  | ref n=>
    obtain⟨l,A2,e2,e8⟩:=B0 a3;obtain⟨rfl,hA,c,xs,rfl,hn,hH,r0⟩:=O0 a4 e6 e2;obtain⟨y,A3,e3,a5⟩:=B0 e8;cases y with
    | ref j=>
      obtain⟨l2,A4,e4,d⟩:=B0 a5;cases G:K3 l with
      | none=>rw[G]at d;cases d
      | some ns=>
        cases hj:K3 l2 with
        | none=>rw[G,hj]at d;cases d
        | some C=>
          rw[G,hj]at d;obtain⟨g,f0⟩:=B9 d;cases f0;rw[P0 G]at r0;refine⟨c,ns,rfl,by rw[<-c9 r0];exact bu.of hH,g.1,e5,_,a2,_,A3,a4,rs.mono x1,e3,λf1 T v2 x2 a6 f2=>?_⟩;obtain⟨rfl,m0,U,m1,rfl,m2,f3,r2⟩:=O0 a6 f2 e4;rw[P0 hj]at r2;exact⟨U,C,rfl,by rw[<-c9 r2];exact bu.of f3,g.2,k f1 T _ (x1.trans x2) a6 (.bl _)⟩
    | _=>cases a5
  | _=>cases a3
 .obtain⟨w1,O,I1,r1,c,ns,ew,hq,f4,q⟩:=zq;subst ew;obtain rfl:u=Jf c:=r1;obtain⟨J,ri,pl,hz⟩:=I1.list hq;have G:Nq J ns:=Q4 ri;have hl:J.length=ns.length:=G.length;refine QH (I1.ok.hd f) pl.isList (by simpa using G) (by rw[Ja,hl];exact Jc (Nu f4) (by decide)) λh' tk E a8=>?_;have f5:J.toArray.size=ns.length:=by rw[Ja,hl]
  rw[f5]at E;have I2:L2.Inv X D σ O { s1 with heap:=h',toks:=tk }:=I1.kept (λb ob e=>a8 b ob (IQ e) e);obtain⟨o,es,ep,t,k1,k2,k3,k4⟩:=E;have b1:=I2.pinned (fp:=[s1.heap.objs.size]) (λb Y=>by rw[IS.mp Y];exact I1.fpOk (IM _) (I1.hok.fresh (IM _))) (λb Y=>by rw[IS.mp Y];exact⟨o,k1,λv z=>by rw[k3]at z;cases z⟩);refine Ri (T1 b1 hg hm (show bootBuiltins "set" = some (.type "set")from by rfl) (callWith_type1 (v8 a1 ?_) a1 rfl));refine aB (Y _ _ σ O _ b1 q) λu2 s3 zq=>?_;obtain⟨w2,T,I3,r3,U,C,g1,g2,b2,q2⟩:=zq;subst g1;obtain rfl:u2=Jf U:=r3;obtain⟨m,g3,g4,q3⟩:=I3.list g2;have b3:Nq m C:=Q4 g3;have b5:m.length=C.length:=b3.length;refine QH (I3.ok.hd f) g4.isList (by simpa using b3) (by rw[Ja,b5];exact Jc (Nu b2) (by decide)) λL c0 p B=>?_;have c1:m.toArray.size=C.length:=by rw[Ja,b5]
  rw[c1]at p;have p1:=(I3.pin (s1.heap.objs.size,o) (Jr _ (Jr _ (Q3 (OX _) k1)))).1;have N:Heap.SetOf (intKind X.prog X.w) L s1.heap.objs.size (λk'=>(firstMet (λi=>ns.getD i 0) ns.length).any (·== k')) (firstMet (λi=>ns.getD i 0) ns.length).length:=⟨o,es,ep,t,B _ _ (IQ p1) p1,k2,k3,k4⟩;refine DO (s:={ s3 with heap:=L,toks:=c0 }) N p (by walk_at "o") λr hr=>?_;have er:r=V5 ns C:=by
   rw[pW,pW]at hr;rw[Bool.eq_iff_iff,hr];unfold V5;simp only[DP,decide_eq_true_eq,Jq,Jy]
  subst er;exact⟨.bl _,T,(I3.unpinned).kept (h':=L) (t':=c0) (λb ob e=>B b ob (IQ e) e),rfl,q2⟩
def DR{g i:ED}{p1 j l m d:Pos}(c:X.calm=true)(n:X.A.units+1<cLine)(o:Pe X cm a g)(p:Pe X cm b i)(q:Gl X "set")(r:X.mg "set" = none)
 (e:starEach [a] X.env=(false,eval a X.env)::starEach [] X.env:=by exact D9 rfl) (f:starEach [b] X.env=(false,eval b X.env)::starEach [] X.env:=by exact D9 rfl) :
 Pt X cm (.Compare (.Call (.Name "set" p1) [a] [] l) [.Eq] [.Call (.Name "set" j) [b] [] m] d) (aq (kZ g i)):=
 m8 (mq (DQ c n o p q r e f)) λs H Q h=>i5 (λ_ _ _ z=>z) h
end Ws
namespace Ws
open PySem L2
structure qr(P:Jg)(w:JJ)(K:IH)(mg:Str->Option II)(base:Heap)(cm:Nat->Addr)(c:Nat)(x:Str)(k:Nat)(ps:List Str)(f:Fun)(n:Nat):Prop where
 ex:∃(fa:Addr)(fd:Jh),av P w K mg base aO k fa fd ps (aQ K cm f n)/\L2.Mk K (cm c) fa/\mg x=some (.ref (cm c))/\L2.Binds K fd ps [.none]
 len:∀vs A v A',f vs A=.ok v A'->vs.length=n/\v=.non
section
variable{X:Cx}{cm:Nat->Addr}
def DS(U:c<7)(Y:∀J A v l,f J A=.ok v l->J.length=n/\v=.non)(h:cB X.K cm (Y9 c (dflt f [.non]) I) σ H Q):oy (cm c) (aQ X.K cm f n) [.non] E0 (fy X.K cm I) σ H Q:=by
 obtain⟨ρ,A,m,v,l,rl,rs,ev,k⟩:=h;obtain⟨o,d,e1,p⟩:=B0 ev;obtain⟨x,A2,e2,q⟩:=B0 p;cases e2;obtain⟨u,A3,e3,r⟩:=B0 q;cases r;refine⟨ρ,A,m,o,d,rl,rs,e1,λa e a7 x1 g s x b hx i w=>?_⟩;have y:au a e a (ax e b (.own x)):=au.same i;have z:aF X.K cm a d (ax e b (.own x)):=g.grow y (K9 i);have j:ax e b (.own x) x=none:=by rw[ah (Kk w)];exact hx
 have L:au a (ax e b (.own x)) (a++[x]) (ax (ax e b (.own x)) x (.ins (cm c) b [])):=au.new j;have B:aF X.K cm (a++[x]) (d++[.ins c []]) (ax (ax e b (.own x)) x (.ins (cm c) b [])):=z.alloc j ⟨⟨U,by simp⟩,b,[],C1,⟨rfl,.nil⟩⟩ rfl;have N:(a++[x])[d.length]?=some x:=by rw[<-g.len];simp
 have O:f (.ref d.length::(o++[.non])) (d++[.ins c []])=.ok u l:=e3;obtain⟨C,rfl⟩:=Y _ _ _ _ O;refine⟨a++[x],_,.ref d.length::(o++[.non]),.non,l,B,.cons (.ref N) (((s.mono y).mono L).append (.cons .non .nil)),C,O,λD H4 v4 T E G=>?_⟩;cases G;exact⟨rfl,k D H4 _ (((x1.trans y).trans L).trans T) E (.ref (lg T.pre N))⟩
def DU(D:qr X.prog X.w X.K X.mg X.base cm c x k ps f n)(j:k+1<=g)(l:aK g X.A)
 (m:Gl X x) (o:Pa X cm (e::es) i) (b:(x == ("__debug__" : Str))=false:=by decide) (he:starEach (e::es) X.env=(false,eval e X.env)::starEach es X.env:=by exact D9 rfl) (d:(backTo a (starEach es X.env)).any (·.1)=false:=by rfl) (q:c<7:=by decide) :
 Pe X cm (.Call (.Name x p) (e::es) [] a) (Y9 c (dflt f [.non]) i):=by
 obtain⟨v,y,F,r,s,u⟩:=D.ex;exact C9 (si r F (l.mono j) m s u (dvs:=[.non]) (.cons (show L2.RelV .non Ks from rfl) .nil) kP o b he d) λz H Q h=>DS q D.len h
end
end Ws
namespace Ws
abbrev XP:=Nat->PV->PHp->Prop
def Wp{d:Type}(m:M d)(A:PHp)(Q:d->PHp->Prop)(E:XP):Prop:=match m A with
 | .ok a b=>Q a b
 | .ex c v b=>E c v b
 | .no=>False
abbrev NoX:XP:=λ_ _ _=>False
section
variable{α β:Type}{m:M α}{f:α->M β}{A A' A1 B:PHp}{a:α}{E E':XP}{σ σ':PSt}
def w_eq(h:m A=.ok a A')(q:Q a A'):Wp m A Q E:=by unfold Wp;rw[h];exact q
def nI(h:Wp m A Q NoX):∃a A',m A=.ok a A'/\Q a A':=by
 unfold Wp at h;cases e:m A with
 | ok a A'=>rw[e]at h;exact⟨a,A',rfl,h⟩
 | _=>rw[e]at h;exact h.elim
def bx(h:Wp m A Q E)(d:∀a A',Q a A'->b a A')(he:∀c v A',E c v A'->E' c v A'):Wp m A b E':=by
 unfold Wp at h ⊢;cases e:m A with
 | ok a A'=>simp_all
 | ex c v A'=>simp_all
 | no=>simp_all
def af(h:Wp m A Q E)(c:∀a A',Q a A'->b a A'):Wp m A b E:=bx h c λ_ _ _ z=>z
def qs(h:Wp m A Q NoX)(c:∀a A',Q a A'->b a A'):Wp m A b E:=bx h c λ_ _ _ z=>z.elim
def w8(q:Q a A):Wp (ret a) A Q E:=q
def B6(h:Wp m A (λa A1=>Wp (f a) A1 Q E) E):Wp (ak m f) A Q E:=by
 unfold Wp at h ⊢;unfold ak;cases e:m A with
 | _=>rw[e]at h;exact h
def C7{P:Prop}(p:P)(h:Wp m A Q E):Wp (D8 P m) A Q E:=by rw[Q5 p];exact h
variable{Q:PV->PHp->Prop}{e e1 e2 e3:ED}{es:AD}{v x y:PV}{i j:Int}{k n:Nat}{l:List PV}
def w_var(h:σ[k]?=some (some v))(q:Q v A):Wp (aa k σ) A Q E:=w_eq (by simp_all) q
def DV(q:Q v A):Wp (eK v σ) A Q E:=q
def vm{Q:List PV->PHp->Prop}(q:Q [] A):Wp (aNil σ) A Q E:=q
def vn{Q:List PV->PHp->Prop}(h:Wp (e σ) A (λx A1=>Wp (es σ) A1 (λb c=>Q (x::b) c) E) E):Wp (ae e es σ) A Q E:=
 B6 (af h λ_ _ d=>B6 (af d λ_ _ g=>g))
def DW(h:Wp (es σ) A (λb A1=>b.length<=LIM/\Q (.tup b) A1) E):Wp (aC es σ) A Q E:=B6 (af h λ_ _ ⟨c,d⟩=>C7 c d)
def DX(h:Wp (es σ) A (λb A1=>b.length<=LIM/\Q (.ref A1.length) (A1++[.lst b])) E):Wp (be es σ) A Q E:=B6 (af h λ_ _ ⟨c,d⟩=>C7 c d)
def kD{f:OD}(h:Wp (e1 σ) A (λx A1=>Wp (e2 σ) A1 (λy b=>Wp (f x y) b Q E) E) E):Wp (eBin f e1 e2 σ) A Q E:=B6 (af h λ_ _ c=>B6 c)
def DY(q:Q (.int (i+j)) A):Wp (aS (.int i) (.int j)) A Q E:=q
def jR{l m:List PV}(h:l≠[]/\l.length+m.length<=LIM)(q:Q (.tup (l++m)) A):Wp (aS (.tup l) (.tup m)) A Q E:=C7 h q
def X4{Q:List PV->PHp->Prop}(h:A[n]?=some (.lst l))(q:Q l A):Wp (T5 n) A Q E:=w_eq (zT h) q
def dX{l m:List PV}(b:A[n]?=some (.lst l))(c:A[k]?=some (.lst m))(d:l.length+m.length<=LIM)(q:Q (.ref A.length) (A++[.lst (l++m)])):Wp (aS (.ref n) (.ref k)) A Q E:=
 B6 (X4 b (B6 (X4 c (C7 d q))))
def DZ(q:Q (.int (i - j)) A):Wp (fk (.int i) (.int j)) A Q E:=q
def w_mul(h:(-(2 ^ 64)<i/\i<2 ^ 64)\/(-(2 ^ 64)<j/\j<2 ^ 64))(q:Q (.int (i*j)) A):Wp (cH (.int i) (.int j)) A Q E:=C7 h q
def w_mod(h:0<j)(q:Q (.int (i%j)) A):Wp (aY (.int i) (.int j)) A Q E:=C7 h q
def jS(h:0<j/\j<1073741824)(q:Q (.int (i / j)) A):Wp (bw (.int i) (.int j)) A Q E:=C7 h q
def w_lt(q:Q (.bl (decide (i<j))) A):Wp (dN (.int i) (.int j)) A Q E:=q
def D1(q:Q (.bl (decide (j<i))) A):Wp (iZ (.int i) (.int j)) A Q E:=q
def vo(q:Q (.bl (decide (j<=i))) A):Wp (kf (.int i) (.int j)) A Q E:=q
def Ea(q:Q (.bl (decide (i=j))) A):Wp (ck (.int i) (.int j)) A Q E:=B6 (C7 (.inr ⟨rfl,rfl⟩) q)
def Eb(q:Q (.bl (!decide (i=j))) A):Wp (cD (.int i) (.int j)) A Q E:=B6 (C7 (.inr ⟨rfl,rfl⟩) q)
def Ec(q:Q (.bl (!(b == c))) A):Wp (cD (.bl b) (.bl c)) A Q E:=B6 (C7 (.inl rfl) q)
def Ed{l m:List PV}(h:plain (.tup l)=true/\plain (.tup m)=true)(q:Q (.bl (eqvs l m)) A):Wp (ck (.tup l) (.tup m)) A Q E:=B6 (C7 (.inr h) q)
def Ee{l m:List PV}(h:plain (.tup l)=true/\plain (.tup m)=true)(q:Q (.bl (!eqvs l m)) A):Wp (cD (.tup l) (.tup m)) A Q E:=B6 (C7 (.inr h) q)
def Ef(b:plain x=true)(c:plain y=true)(q:Q (.bl (bJ x y)) A):Wp (ck x y) A Q E:=by
 cases x with
 | ref n=>cases b
 | _=>exact B6 (C7 (.inr ⟨b,c⟩) q)
def ix(b:plain x=true)(c:plain y=true)(q:Q (.bl (!bJ x y)) A):Wp (cD x y) A Q E:=by
 cases x with
 | ref n=>cases b
 | _=>exact B6 (C7 (.inr ⟨b,c⟩) q)
def P8{Q:List PV->PHp->Prop}(h:A[n]?=some (.lst l))(q:Q l A):Wp (G5 n) A Q E:=w_eq (K8 h) q
def vp{Q:List PV->PHp->Prop}(h:A[n]?=some (.ro l))(q:Q l A):Wp (G5 n) A Q E:=w_eq (by simp_all) q
def iy{l m:List PV}(b:A[n]?=some (.lst l))(c:A[k]?=some (.lst m))(d:G8 l=true/\G8 m=true)(q:Q (.bl (eqvs l m)) A):Wp (ck (.ref n) (.ref k)) A Q E:=
 B6 (B6 (P8 b (B6 (P8 c (C7 d q)))))
def iz{l m:List PV}(b:A[n]?=some (.lst l))(c:A[k]?=some (.lst m))(d:G8 l=true/\G8 m=true)(q:Q (.bl (!eqvs l m)) A):Wp (cD (.ref n) (.ref k)) A Q E:=
 B6 (B6 (P8 b (B6 (P8 c (C7 d q)))))
def vq(b:A[n]?=some (.lst l))(c:plain x=true/\G8 l=true)(q:Q (.bl (df x l)) A):Wp (dO x (.ref n)) A Q E:=B6 (P8 b (C7 c q))
def Eh(b:plain x=true/\G8 l=true)(q:Q (.bl (df x l)) A):Wp (dO x (.tup l)) A Q E:=B6 (w8 (C7 b q))
def vr(b:A[n]?=some (.lst l))(c:plain x=true/\G8 l=true)(q:Q (.bl (!df x l)) A):Wp (bq x (.ref n)) A Q E:=B6 (P8 b (C7 c q))
def w9(b:plain x=true/\G8 l=true)(q:Q (.bl (!df x l)) A):Wp (bq x (.tup l)) A Q E:=B6 (w8 (C7 b q))
def Ei(h:Wp (e σ) A (λx A1=>Q (.bl (kh x)) A1) E):Wp (dA e σ) A Q E:=B6 h
def Ej(h:Wp (e σ) A (λx A1=>Q (.bl (!kh x)) A1) E):Wp (cK e σ) A Q E:=B6 h
variable{QB:Bool->PHp->Prop}{t t1 t2:TD}{b:Bool}
def vt(q:QB true A):Wp (bf σ) A QB E:=q
def nJ(h:Wp (e σ) A (λx A1=>∃b,x=.bl b/\QB b A1) E):Wp (aq e σ) A QB E:=B6 (af h λx A1 ⟨b,c,q⟩=>by subst c;exact q)
def Ek(h:Wp (t1 σ) A (λb A1=>(b=true->Wp (t2 σ) A1 QB E)/\(b=false->QB false A1)) E):Wp (tAnd t1 t2 σ) A QB E:=B6 (af h λb A1 c=>by
 obtain⟨d,g⟩:=c;cases b with
 | true=>exact d rfl
 | false=>exact g rfl)
def El(h:Wp (t1 σ) A (λb A1=>(b=true->QB true A1)/\(b=false->Wp (t2 σ) A1 QB E)) E):Wp (tOr t1 t2 σ) A QB E:=B6 (af h λb A1 c=>by
 obtain⟨d,g⟩:=c;cases b with
 | true=>exact d rfl
 | false=>exact g rfl)
def Em(h:Wp (t σ) A (λb A1=>QB (!b) A1) E):Wp (tNot t σ) A QB E:=B6 h
def Eo(h:Wp (e1 σ) A (λx A1=>∃b,x=.bl b/\((b=true->Wp (e2 σ) A1 Q E)/\(b=false->Q (.bl false) A1))) E):Wp (T7 e1 e2 σ) A Q E:=B6 (B6 (af h λx A1 c=>by
 obtain⟨b,d,g,o⟩:=c;subst d;cases b with
 | true=>exact g rfl
 | false=>exact o rfl))
def Ep(h:Wp (e1 σ) A (λx A1=>∃b,x=.bl b/\((b=true->Q (.bl true) A1)/\(b=false->Wp (e2 σ) A1 Q E))) E):Wp (mK e1 e2 σ) A Q E:=B6 (B6 (af h λx A1 c=>by
 obtain⟨b,d,g,o⟩:=c;subst d;cases b with
 | true=>exact g rfl
 | false=>exact o rfl))
def w_not(h:Wp (e σ) A (λx A1=>∃b,x=.bl b/\Q (.bl (!b)) A1) E):Wp (cS e σ) A Q E:=B6 (B6 (af h λx A1 ⟨b,c,q⟩=>by subst c;exact q))
def Es(h:Wp (t σ) A (λb A1=>(b=true->Wp (e1 σ) A1 Q E)/\(b=false->Wp (e2 σ) A1 Q E)) E):Wp (mL t e1 e2 σ) A Q E:=B6 (af h λb A1 c=>by
 obtain⟨d,g⟩:=c;cases b with
 | true=>exact d rfl
 | false=>exact g rfl)
def bY(c:A[n]?=some (.lst l))(d:atI l i=some v)(q:Q v A):Wp (oIx (.ref n) (.int i)) A Q E:=B6 (P8 c (by rw[d];exact q))
def lY(c:A[n]?=some (.ro l))(d:atI l i=some v)(q:Q v A):Wp (oIx (.ref n) (.int i)) A Q E:=B6 (vp c (by rw[d];exact q))
def dh(c:atI l i=some v)(q:Q v A):Wp (oIx (.tup l) (.int i)) A Q E:=by
 refine w_eq ?_ q;simp[c]
def Et(h:Wp (e σ) A (λx A1=>Wp (N4 x) A1 (λl c=>Q (.int l.length) c) E) E):Wp (V7 e σ) A Q E:=B6 (af h λ_ _ d=>B6 d)
def dY{Q:List PV->PHp->Prop}(h:A[n]?=some (.lst l))(q:Q l A):Wp (N4 (.ref n)) A Q E:=P8 h q
def jT{Q:List PV->PHp->Prop}(h:A[n]?=some (.ro l))(q:Q l A):Wp (N4 (.ref n)) A Q E:=vp h q
def jU{Q:List PV->PHp->Prop}(q:Q l A):Wp (N4 (.tup l)) A Q E:=q
def dE(h:Wp (e σ) A (λx A1=>Wp (N4 x) A1 (λl c=>Q (.ref c.length) (c++[.lst l])) E) E):Wp (Y2 e σ) A Q E:=B6 (af h λ_ _ d=>B6 d)
def Eu(h:Wp (e σ) A (λx A1=>∃n l,x=.ref n/\A1[n]?=some (.lst l)/\l.length<=LIM/\Q (.tup l) A1) E):Wp (b8 e σ) A Q E:=B6 (af h λx A1 c=>by
 obtain⟨n,l,d,g,o,q⟩:=c;subst d;exact B6 (P8 g (C7 o q)))
variable{QO:Option Int->PHp->Prop}{lo hi:LD}
def Ew(q:QO none A):Wp (gr σ) A QO E:=q
def Ex(h:Wp (e σ) A (λx A1=>∃i,x=.int i/\QO (some i) A1) E):Wp (fm e σ) A QO E:=B6 (af h λx A1 ⟨i,c,q⟩=>by subst c;exact q)
def Ey(h:Wp (e σ) A (λx A1=>Wp (lo σ) A1 (λl o=>Wp (hi σ) o (λh d=>(∃n c,x=.ref n/\G5 n d=.ok c d/\Q (.ref d.length) (d++[.lst (cut c l h)]))\/
 ∃c,x=.tup c/\¬(T6 c.length 0 l=0/\T6 c.length c.length h=c.length)/\Q (.tup (cut c l h)) d) E) E) E):Wp (cX e lo hi σ) A Q E:=
 B6 (af h λ_ _ p=>B6 (af p λ_ _ r=>B6 (af r λ_ _ s=>by
  rcases s with⟨n,c,rfl,g,q⟩ | ⟨c,rfl,g,q⟩
  .exact B6 (w_eq g q)
  .exact C7 g q)))
theorem vu:∀bs:List Bool,s9 (bs.map PV.bl)=some bs
 | []=>rfl
 | b::r=>by show(s9 _).map _=_;rw[vu r];rfl
def Ez(h:Wp (e σ) A (λx A1=>∃(n:Nat)(bs:List Bool),x=.ref n/\A1[n]?=some (.lst (bs.map PV.bl))/\Q (.bl (bs.all id)) A1) E):Wp (fb e σ) A Q E:=B6 (af h λx A1 c=>by
 obtain⟨n,bs,d,g,q⟩:=c;subst d;refine B6 (P8 g ?_);rw[vu];exact q)
def EA(h:Wp (e σ) A (λx A1=>Wp (N4 x) A1 (λl c=>∃ns,l=ns.map PV.int/\ns.length<1000/\Q (.int (eB ns)) c) E) E):Wp (t0 e σ) A Q E:=B6 (af h λx A1 d=>B6 (af d λl c g=>by
 obtain⟨ns,o,p,q⟩:=g;subst o;rw[O7];exact C7 p q))
def EB(h:Wp (e σ) A (λx A1=>∃l,x=.tup l/\Q (.tup l.reverse) A1) E):Wp (dC e σ) A Q E:=B6 (af h λx A1 ⟨l,c,q⟩=>by subst c;exact q)
def vv(h:Wp (e1 σ) A (λx A1=>∃n l,x=.ref n/\A1[n]?=some (.lst l)/\Wp (e2 σ) A1 (λv c=>∃l2,c[n]?=some (.lst l2)/\l2.length<LIM/\Q .non (c.set n (.lst (l2++[v])))) E) E):Wp (V4 e1 e2 σ) A Q E:=
 B6 (af h λx A1 d=>by
  obtain⟨n,l,g,o,p⟩:=d;subst g;exact B6 (X4 o (B6 (af p λv c ⟨l2,r,s,q⟩=>B6 (X4 r (C7 s q))))))
def EC(h:Wp (e σ) A (λx A1=>∃n c fs v,x=.ref n/\A1[n]?=some (.ins c fs)/\Z9 k fs=some v/\Q v A1) E):Wp (aH e k σ) A Q E:=
 B6 (af h λx A1 d=>by
  obtain⟨n,c,fs,v,g,p,o,q⟩:=d;subst g;refine B6 (w_eq (a:=(c,fs)) (A':=A1) (by simp_all) ?_);rw[o];exact q)
def EE{f:Fun}(h:Wp (es σ) A (λc A1=>Wp (f c) A1 Q E) E):Wp (C8 f es σ) A Q E:=B6 h
def EF{f:Fun}(h:Wp (e σ) A (λx A1=>∃n fs,x=.ref n/\A1[n]?=some (.ins c fs)/\Wp (es σ) A1 (λd g=>Wp (f (.ref n::d)) g Q E) E) E):Wp (aM c f e es σ) A Q E:=
 B6 (af h λx A1 o=>by
  obtain⟨n,fs,p,r,q⟩:=o;subst p;exact B6 (w_eq (a:=(c,fs)) (by simp_all) (C7 rfl (B6 q))))
def EH{f:Fun}(h:Wp (es σ) A (λd A1=>Wp (f (.ref A1.length::d)) (A1++[.ins c []]) (λ_ g=>Q (.ref A1.length) g) E) E):Wp (Y9 c f es σ) A Q E:=
 B6 (af h λd A1 o=>B6 (w_eq rfl (B6 o)))
variable{QF:Fl->PHp->Prop}{s s1 s2:SD}{g:GD}{QS:PSt->PHp->Prop}
def U5(q:QF (.nx σ) A):Wp (sPass σ) A QF E:=q
def bZ(h:Wp (s1 σ) A (λo A1=>match o with | .nx σ'=>Wp (s2 σ') A1 QF E | o=>QF o A1) E):Wp (ao s1 s2 σ) A QF E:=B6 (af h λo A1 c=>by
 cases o with
 | nx σ'=>walk_at "o"
 | _=>exact c)
def qt(h:Wp (e σ) A (λ_ A1=>QF (.nx σ) A1) E):Wp (aU e σ) A QF E:=B6 h
def dt(h:Wp (e σ) A (λv A1=>QF (.rt v) A1) E):Wp (aw e σ) A QF E:=B6 h
def kE(h:Wp (t σ) A (λb A1=>(b=true->Wp (s1 σ) A1 QF E)/\(b=false->Wp (s2 σ) A1 QF E)) E):Wp (aP t s1 s2 σ) A QF E:=B6 (af h λb A1 c=>by
 obtain⟨d,o⟩:=c;cases b with
 | true=>exact d rfl
 | false=>exact o rfl)
def cU(h:Wp (e σ) A (λv A1=>Wp (g v σ) A1 (λσ' c=>QF (.nx σ') c) E) E):Wp (az e g σ) A QF E:=B6 (af h λ_ _ d=>B6 d)
def V6(q:QS (σ.set k (some v)) A):Wp (gName k v σ) A QS E:=q
def EI(q:QS σ A):Wp (gNil [] σ) A QS E:=q
def EJ(h:Wp (g v σ) A (λσ' A1=>Wp (r vs σ') A1 QS E) E):Wp (gCons g r (v::vs) σ) A QS E:=B6 h
def jV(c:l.length=n)(h:Wp (r l σ) A QS E):Wp (gTup n r (.tup l) σ) A QS E:=C7 c h
def EK(h:Wp (e2 σ) A (λv A1=>Wp (e1 σ) A1 (λx d=>∃n c fs,x=.ref n/\d[n]?=some (.ins c fs)/\fs.length<900/\QF (.nx σ) (d.set n (.ins c (putFld k v fs)))) E) E):Wp (sFld e1 k e2 σ) A QF E:=
 B6 (af h λv A1 o=>B6 (af o λx d p=>by
  obtain⟨n,c,fs,r,w,u,q⟩:=p;subst r;exact B6 (w_eq (a:=(c,fs)) (by simp_all) (C7 u q))))
def EL{n p:Nat}{vs:List PV}(d:vs.length=p)(h:Wp (s (start n vs)) A (λo A1=>match o with | .rt v=>Q v A1 | .nx _=>Q .non A1 | _=>False) E):Wp (fn n p s vs) A Q E:=
 C7 d (B6 (af h λo A1 c=>by
  cases o with
  | rt v=>exact c
  | nx σ'=>exact c
  | bk σ'=>simp_all
  | ct σ'=>exact c.elim))
abbrev kF(P:PSt->PHp->Prop)(QF:Fl->PHp->Prop):Fl->PHp->Prop:=λo A=>match o with
 | .nx σ=>P σ A
 | .ct σ=>P σ A
 | .bk σ=>QF (.nx σ) A
 | .rt v=>QF (.rt v) A
theorem nK(P:Nat->PSt->PHp->Prop)(c:∀σ A,P n σ A->item J n A=.ok none A/\QF (.nx σ) A)
 (hs:∀i σ A,i<n->P i σ A->∃v,item J i A=.ok (some v) A/\Wp (g v σ) A (λq A1=>Wp (s q) A1 (kF (P (i+1)) QF) E) E) :
 ∀k i σ A,i+k=n->P i σ A->∀m,k<m->Wp (W9 J g s m i σ) A QF E
 | _,_,_,_,_,_,0,r=>absurd r (Nat.not_lt_zero _)
 | 0,i,σ,A,e,h,m+1,r=>by
   obtain rfl:i=n:=by walk_at "o"
   obtain⟨u,p⟩:=c σ A h;rw[Q6];exact B6 (w_eq u p)
 | k+1,i,σ,A,e,h,m+1,r=>by
   obtain⟨v,z,t⟩:=hs i σ A (by walk_at "o") h;rw[Q6];refine B6 (w_eq z ?_);refine B6 (af t λq A1 u=>B6 (af u λo w p=>?_));cases o with
   | nx d=>exact nK P c hs k _ d w (by walk_at "o") p m (by walk_at "o")
   | ct d=>exact nK P c hs k _ d w (by walk_at "o") p m (by walk_at "o")
   | bk d=>exact p
   | rt v=>exact p
def vw(P:Nat->PSt->PHp->Prop)(h:Wp (o σ) A (λJ A1=>∃lo n,J=.rng lo n/\P 0 σ A1/\(∀(i:Nat) σ B,i<n->P i σ B->Wp (g (.int (lo+i)) σ) B (λc p=>Wp (s c) p (kF (P (i+1)) QF) E) E)/\∀σ B,P n σ B->QF (.nx σ) B) E) :
 Wp (ft o g s σ) A QF E:=B6 (af h λJ A1 q=>by
 obtain⟨lo,n,r,u,hs,he⟩:=q;subst r;exact B6 (w8 (nK P (λσ B d=>⟨by simp,he σ B d⟩) (λi σ B hi d=>⟨_,by simp[hi],hs i σ B hi d⟩) n 0 σ A1 (by simp) u _ (KD _))))
def qu(P:Nat->PSt->PHp->Prop)(h:Wp (p σ) A (λJ A1=>∃a l,J=.lst a/\P 0 σ A1/\(∀i σ B,P i σ B->G5 a B=.ok l B)/\(∀(i:Nat) v σ B,l[i]?=some v->P i σ B->Wp (g v σ) B (λd r=>Wp (s d) r (kF (P (i+1)) QF) E) E)/\∀σ B,P l.length σ B->QF (.nx σ) B) E) :
 Wp (ft p g s σ) A QF E:=B6 (af h λJ A1 u=>by
 obtain⟨a,l,w,q,o,hs,he⟩:=u;subst w;refine B6 (B6 (w_eq (o 0 σ A1 q) (w8 ?_)));refine nK P (λσ B c=>⟨by show ak _ _ B=_;rw[aG (o _ σ B c)];simp,he σ B c⟩) (λi σ B hi c=>?_) _ 0 σ A1 (by simp) q _ (KD _);exact⟨l[i],by show ak _ _ B=_;rw[aG (o _ σ B c),Jj hi];rfl,hs i l[i] σ B (Jj hi) c⟩)
theorem qv(P:Nat->PSt->PHp->Prop)(hs:∀m σ A,P m σ A->Wp (t σ) A (λb A1=>(b=true->Wp (s σ) A1 (kF (λσ' A'=>∃d,d<m/\P d σ' A') QF) E)/\(b=false->QF (.nx σ) A1)) E) :
 ∀f m σ A,m<f->P m σ A->Wp (b6 t s f σ) A QF E
 | 0,m,σ,A,u,_=>absurd u (by simp)
 | f+1,m,σ,A,u,h=>by
   rw[sR];refine B6 (af (hs m σ A h) λb A1 z=>?_);obtain⟨C,D⟩:=z;cases b with
   | false=>exact D rfl
   | true=>
     refine B6 (af (C rfl) λo w p=>?_);cases o with
     | nx c=>obtain⟨d,q,r⟩:=p;exact qv P hs f d c w (by walk_at "o") r
     | ct c=>obtain⟨d,q,r⟩:=p;exact qv P hs f d c w (by walk_at "o") r
     | bk c=>exact p
     | rt v=>exact p
def vy(P:Nat->PSt->PHp->Prop){m:Nat}(d:m<10000)(h:P m σ A)(hs:∀m σ A,P m σ A->Wp (t σ) A (λb A1=>(b=true->Wp (s σ) A1 (kF (λσ' A'=>∃c,c<m/\P c σ' A') QF) E)/\(b=false->QF (.nx σ) A1)) E) :
 Wp (mM t s σ) A QF E:=qv P hs LIM m σ A (aX d) h
theorem qw{e:ED}{l:List PV}{QL:List PV->PHp->Prop}(P:Nat->List PV->PSt->PHp->Prop)(p:∀i d σ B,P i d σ B->item J i B=.ok l[i]? B)
 (hs:∀i v d σ B,l[i]?=some v->P i d σ B->Wp (g v σ) B (λo z=>Wp (t o) z (λc q=>(c=true->Wp (e o) q (λy r=>P (i+1) (d++[y]) o r) E)/\(c=false->P (i+1) d o q)) E) E)
 (he:∀d σ B,P l.length d σ B->QL d B):∀k i d σ B,i<=l.length->l.length<i+k->P i d σ B->Wp (b7 J g t e k i σ) B (λu D=>QL (d++u) D) E
 | 0,i,d,σ,B,G,C,_=>absurd C (by walk_at "o")
 | k+1,i,d,σ,B,G,C,h=>by
   rw[sT];refine B6 (w_eq (p i d σ B h) ?_);cases w:l[i]? with
   | none=>
     have:l.length=i:=by have:=Kf.mp w;walk_at "o"
     subst this;show QL _ B;rw[Kn];exact he d σ B h
   | some v=>
     have hi:=(IW.mp w).1;refine B6 (af (hs i v d σ B w h) λo z H=>B6 (af H λc q I=>?_));obtain⟨L,N⟩:=I;cases c with
     | true=>
       refine B6 (af (L rfl) λy r O=>B6 (af (qw P p hs he k _ _ o r hi (by walk_at "o") O) λu T U=>?_));show QL _ T;rw[show d++_=d++[y]++u by simp];exact U
     | false=>exact qw P p hs he k _ d o q hi (by walk_at "o") (N rfl)
def nL(h:Wp (u σ) A (λJ A1=>∃(l:List PV)(n:Nat)(P:Nat->List PV->PSt->PHp->Prop),b4 J A1=.ok n A1/\l.length<=n/\P 0 [] (p σ) A1/\(∀i d σ B,P i d σ B->item J i B=.ok l[i]? B)/\
 (∀i v d σ B,l[i]?=some v->P i d σ B->Wp (g v σ) B (λo D=>Wp (t o) D (λc w=>(c=true->Wp (e o) w (λy G=>P (i+1) (d++[y]) o G) E)/\(c=false->P (i+1) d o w)) E) E)/\
 ∀d σ B,P l.length d σ B->d.length<=LIM/\Q (.ref B.length) (B++[.lst d])) E):Wp (M8 u p g t e σ) A Q E:=
 B6 (af h λJ A1 H=>by
  obtain⟨l,n,P,I,N,L,q,hs,he⟩:=H;refine B6 (w_eq I (B6 (af (qw P q hs (QL:=λd B=>d.length<=LIM/\Q (.ref B.length) (B++[.lst d])) he (n+1) 0 [] (p σ) A1 (LU _) (by walk_at "o") L) λO B r=>?_)));obtain⟨z,C⟩:=r;rw[PZ]at z C;exact C7 z C)
def R6(S:PSt->Prop)(p:PV->Bool)(f:PV->PV)(h:Wp (z σ) A (λJ A1=>∃n,b4 J A1=.ok n A1/\l.length<=n/\l.length<=LIM/\S (C σ)/\(∀i,item J i A1=.ok l[i]? A1)/\
 (∀v σ,v∈l->S σ->Wp (g v σ) A1 (λd D=>D=A1/\S d/\Wp (t d) A1 (λc G=>G=A1/\c=p v/\(c=true->Wp (e d) A1 (λy H=>H=A1/\y=f v) E)) E) E)/\
 Q (.ref A1.length) (A1++[.lst ((l.filter p).map f)])) E):Wp (M8 z C g t e σ) A Q E:=
 nL (af h λJ A1 T=>by
  obtain⟨n,U,Y,hL,h0,u,hs,he⟩:=T;refine⟨l,n,λi o σ B=>B=A1/\S σ/\o=((l.take i).filter p).map f,U,Y,⟨rfl,h0,rfl⟩,λi o σ B k=>?_,λi v o σ B I k=>?_,λo σ B k=>?_⟩
  .rw[k.1];exact u i
  .obtain⟨w,h2,q⟩:=k;subst w;refine af (hs v σ (JD I) h2) λd D k=>?_;obtain⟨e1,L,h5⟩:=k;subst e1;refine af h5 λc G k=>?_;obtain⟨e2,N,h7⟩:=k;subst e2;have O:l.take (i+1)=l.take i++[v]:=by rw[LJ,I];rfl
   refine⟨λr=>af (h7 r) λy H k=>⟨k.1,L,?_⟩,λr=>⟨rfl,L,?_⟩⟩
   .rw[O,LG,JC,q,k.2,OV (by rw[<-N];exact r)];rfl
   .rw[O,LG,JC,q,OW (by rw[<-N,r];simp)];exact(Kn _).symm
  .obtain⟨w,_,q⟩:=k;subst w;rw[Lw (IM _)]at q;subst q;exact⟨by rw[IK];exact Jt (KJ _ _) hL,he⟩)
def bg(h:A[n]?=some (.lst l)):b4 (.lst n) A=.ok l.length A:=by simp_all
def S7(h:A[n]?=some (.lst l))(i:Nat):item (.lst n) i A=.ok l[i]? A:=by simp_all
def d0(n i:Nat):item (.rng 0 n) i A=.ok ((Ju n).map λ(k:Nat)=>PV.int (k:Int))[i]? A:=by
 by_cases hi:i<n<;>simp[hi]
noncomputable def Z1:List PV->List PV->List PV
 | x::c,y::d=>.tup [x,y]::Z1 c d
 | _,_=>[]
theorem qx:∀(l m:List PV)(i:Nat),(match l[i]?,m[i]? with | some u,some v=>some (.tup [u,v]) | _,_=>none)=(Z1 l m)[i]?
 | [],m,i=>by simp[Z1]
 | x::c,[],i=>by cases h:(x::c)[i]?<;>simp[Z1]
 | x::c,y::d,0=>by simp[Z1]
 | x::c,y::d,i+1=>by simpa[Z1]using qx c d i
theorem vz:∀(l m:List PV),(Z1 l m).length<=l.length
 | [],m=>by simp[Z1]
 | x::c,[]=>by simp[Z1]
 | x::c,y::d=>by simpa[Z1]using vz c d
def EM(l m:List PV)(i:Nat):item (.zip (.tup l) (.tup m)) i A=.ok (Z1 l m)[i]? A:=by
 rw[<-qx];rfl
def EN{l m:List PV}(c:A[n]?=some (.lst l))(d:A[k]?=some (.lst m))(i:Nat):item (.zip (.ref n) (.ref k)) i A=.ok (Z1 l m)[i]? A:=by
 rw[<-qx];show ak (G5 n) _ A=_;rw[aG (K8 c)];show ak (G5 k) _ A=_;rw[aG (K8 d)];rfl
def EO{α:Type}{c:List α}{j:Nat}(h:j<c.length):atI c (j:Int)=some c[j]:=by
 unfold atI ixN;simp[h]
end
noncomputable def pv(p:Int×Int):PV:=.tup [.int p.1,.int p.2]
noncomputable def aL(ps:List (Int×Int)):List PV:=ps.map pv
def ES(p:Int×Int):plain (pv p)=true:=rfl
def qy(ps:List (Int×Int)):G8 (aL ps)=true:=by
 rw[sX];intro x a;obtain⟨p,_,rfl⟩:=IU.mp a;rfl
def ET(h:pv p=pv q):p=q:=by
 obtain⟨a,b⟩:=p;simp[pv]at h;simp[h]
def qz(p:Int×Int)(ps:List (Int×Int)):df (pv p) (aL ps)=decide (p∈ps):=by
 induction ps with
 | nil=>rfl
 | cons q r ih=>
   have e:bJ (pv q) (pv p)=decide (q=p):=by
    by_cases h:q=p
    .subst h;simp[(oU _ (pv q) rfl).mpr rfl]
    .have:¬bJ _ _=true:=λz=>h (ET ((oU _ _ rfl).mp z));simp[h,this]
   show(bJ _ _||df _ (aL r))=_;rw[ih,e];by_cases h:q=p<;>by_cases a:p∈r<;>simp[h,a];intro z;exact h z.symm
def vA(h:v∈aL ps):∃p∈ps,v=pv p:=by
 obtain⟨p,a,rfl⟩:=IU.mp h;exact⟨p,a,rfl⟩
noncomputable def jW:PV->Int
 | .tup [.int a,.int b]=>a
 | _=>0
noncomputable def iA:PV->Int
 | .tup [.int a,.int b]=>b
 | _=>0
@[simp] theorem Iy(p:Int×Int):jW (pv p)=p.1:=rfl
@[simp] theorem Iz(p:Int×Int):iA (pv p)=p.2:=rfl
def qA(x:Int)(M:List Int):df (.int x) (M.map .int)=decide (x∈M):=by
 induction M with
 | nil=>rfl
 | cons a r ih=>
   have:df _ ((a::r).map .int)=(bJ _ _||df (.int x) _):=rfl;rw[this,ih];show(decide _||decide _)=_;by_cases h:a=x
   .simp_all
   .have b:¬x=a:=λz=>h z.symm;simp[h,b]
def w_inI{n:Nat}{x:Int}{M:List Int}(c:A[n]?=some (.lst (M.map .int)))(q:Q (.bl (decide (x∈M))) A):Wp (dO (.int x) (.ref n)) A Q E:=vq c ⟨rfl,S5 _⟩ (by rw[qA];exact q)
def jX{x:Int}{M:List Int}(q:Q (.bl (decide (x∈M))) A):Wp (dO (.int x) (.tup (M.map .int))) A Q E:=Eh ⟨rfl,S5 _⟩ (by rw[qA];exact q)
def eP{x:Int}{M:List Int}(q:Q (.bl (!decide (x∈M))) A):Wp (bq (.int x) (.tup (M.map .int))) A Q E:=w9 ⟨rfl,S5 _⟩ (by rw[qA];exact q)
def iB(c:A[n]?=some (.lst (aL ps)))(q:Q (.bl (decide ((a,b)∈ps))) A):Wp (dO (.tup [.int a,.int b]) (.ref n)) A Q E:=vq c ⟨rfl,qy _⟩ (by rw[show PV.tup [.int a,.int b]=pv (a,b)from rfl,qz];exact q)
def cV(c:A[n]?=some (.lst (aL ps)))(q:Q (.bl (!decide ((a,b)∈ps))) A):Wp (bq (.tup [.int a,.int b]) (.ref n)) A Q E:=vr c ⟨rfl,qy _⟩ (by rw[show PV.tup [.int a,.int b]=pv (a,b)from rfl,qz];exact q)
def n5(l:List Int):plain (.tup (l.map .int))=true:=by
 show(l.map _).all Y7=true;rw[Jy];intro x c;obtain⟨y,_,rfl⟩:=IU.mp c;rfl
def EU(h:Wp (e σ) A (λx d=>Wp (hW t x) d (λb f=>c (.bl b) f) E) E):Wp (V8 e t σ) A c E:=B6 (af h λ_ _ g=>B6 g)
def gI(h:hW t x A=.ok b A)(q:c b A):Wp (hW t x) A c E:=w_eq h q
def gJ(h:A[n]?=some (.lst l))(q:c true A):Wp (hW .list (.ref n)) A c E:=B6 (X4 h q)
def i8(l m:List Int):eqvs (l.map .int) (m.map .int)=decide (l=m):=by
 have h:=zU (l.map .int) (m.map .int) (S5 _);have inj:l.map _=m.map _↔l=m:=⟨λz=>by
  have:=congrArg K3 z;rw[O7,O7]at this;exact Jw this,λz=>by rw[z]⟩
 cases e:eqvs _ _ with
 | true=>exact(decide_eq_true (inj.mp (h.mp e))).symm
 | false=>simp_all
def EV(q:Q (.bl (decide (l=[]))) A):Wp (ck (.tup (l.map .int)) (.tup [])) A Q E:=Ed ⟨n5 _,rfl⟩ (by rw[show([])=([]).map .int from rfl,i8];exact q)
def EW(q:Q (.bl (!decide (l=[]))) A):Wp (cD (.tup (l.map .int)) (.tup [])) A Q E:=Ee ⟨n5 _,rfl⟩ (by rw[show([])=([]).map .int from rfl,i8];exact q)
def jY(c:A[n]?=some (.lst (l.map .int)))(d:A[k]?=some (.lst []))(q:Q (.bl (decide (l=[]))) A):Wp (ck (.ref n) (.ref k)) A Q E:=iy c d ⟨S5 _,rfl⟩ (by rw[show([])=([]).map .int from rfl,i8];exact q)
section
variable{A:PHp}{E:XP}{σ:PSt}{e e1 e2:ED}
def EX{P R:Prop}(h:P):(true=true->P)/\(true=false->R):=by simp_all
def EY{P R:Prop}(h:R):(false=true->P)/\(True->R):=by simp_all
def EZ{P R:Prop}(h:R):((!true)=true->P)/\((!true)=false->R):=by simp_all
def E2{P R:Prop}(h:P):((!false)=true->P)/\((!false)=false->R):=by simp_all
def kG{P R:Prop}(h:R):(false=true->P)/\(false=false->R):=by simp_all
def Fb{R:Nat->List PV->Prop}(h:A[n]?=some (.lst l))(q:R n l):∃a b,PV.ref n=.ref a/\A[a]?=some (.lst b)/\R a b:=⟨n,l,rfl,h,q⟩
def qB{n:Nat}{R:List PV->Prop}(h:A[n]?=some (.lst l))(q:R l):∃a,A[n]?=some (.lst a)/\R a:=⟨l,h,q⟩
def Fc{R:Nat->List (Nat×PV)->Prop}(h:A[n]?=some (.ins c l))(q:R n l):∃a b,PV.ref n=.ref a/\A[a]?=some (.ins c b)/\R a b:=⟨n,l,rfl,h,q⟩
def qC{R:Nat->Nat->List (Nat×PV)->Prop}(h:A[n]?=some (.ins c l))(q:R n c l):∃a b d,PV.ref n=.ref a/\A[a]?=some (.ins b d)/\R a b d:=⟨n,c,l,rfl,h,q⟩
def Fd{v:PV}{R:PV->Prop}(h:A[n]?=some (.ins c l))(f:Z9 k l=some v)(q:R v):∃a g b d,PV.ref n=.ref a/\A[a]?=some (.ins g b)/\Z9 k b=some d/\R d:=⟨n,c,l,v,rfl,h,f,q⟩
def qD{R:Nat->Prop}{b:Prop}(h:A[n]?=some (.lst l))(q:R n):(∃a c,PV.ref n=.ref a/\G5 a A=.ok c A/\R a)\/b:=.inl ⟨n,l,rfl,K8 h,q⟩
def qE{R:List PV->Prop}{b:Prop}(q:R l):b\/∃a,PV.tup l=.tup a/\R a:=.inr ⟨l,rfl,q⟩
def Fe(h:A[n]?=some (.ro l)):G5 n A=.ok l A:=by simp_all
def qF{R:Nat->List PV->Prop}{c:Prop}(h:A[n]?=some (.lst l))(q:R n l):(∃a b,PV.ref n=.ref a/\G5 a A=.ok b A/\R a b)\/c:=.inl ⟨n,l,rfl,K8 h,q⟩
def qG{R:Nat->List PV->Prop}{c:Prop}(h:A[n]?=some (.ro l))(q:R n l):(∃a b,PV.ref n=.ref a/\G5 a A=.ok b A/\R a b)\/c:=.inl ⟨n,l,rfl,Fe h,q⟩
def qH{R:Nat->Prop}(h:A[n]?=some (.lst l))(q:R n):∃a b,PV.ref n=.ref a/\G5 a A=.ok b A/\R a:=⟨n,l,rfl,K8 h,q⟩
variable{QI:It->PHp->Prop}
def Ff(h:Wp (e σ) A (λx a=>(∃n l,x=.ref n/\G5 n a=.ok l a/\QI (.lst n) a)\/∃l,x=.tup l/\QI (.tup l) a) E):Wp (bW e σ) A QI E:=B6 (af h λx a b=>by
 rcases b with⟨n,l,rfl,c,q⟩ | ⟨l,rfl,q⟩
 .exact B6 (w_eq c q)
 .exact q)
def Fg(h:Wp (e σ) A (λx a=>∃n:Nat,x=.int n/\n<=1000000/\QI (.rng 0 n) a) E):Wp (iRng1 e σ) A QI E:=B6 (af h λx a b=>by
 obtain⟨n,c,d,q⟩:=b;subst c;have f:=Int.ofNat_le.mpr d;refine C7 ⟨Int.le_trans (by simp) (ME n),Int.lt_of_le_of_lt f (by simp)⟩ (w8 ?_);exact q)
def Fh(h:Wp (e1 σ) A (λx a=>Wp (e2 σ) a (λy b=>Wp (N4 x) b (λ_ c=>Wp (N4 y) c (λ_ d=>QI (.zip x y) d) E) E) E) E):Wp (iZip e1 e2 σ) A QI E:=
 B6 (af h λ_ _ f=>B6 (af f λ_ _ g=>B6 (af g λ_ _ i=>B6 i)))
def Fi(h:Wp (e σ) A (λx a=>∃n l,x=.ref n/\G5 n a=.ok l a/\QI (.enm n) a) E):Wp (fq e σ) A QI E:=B6 (af h λx a b=>by
 obtain⟨n,l,c,d,q⟩:=b;subst c;exact B6 (w_eq d q))
end
end Ws
local macro_rules | `(tactic| walk_at "st")=>`(tactic| first
 | assumption
 | exact Ws.aj
 | (refine Ws.ai ?_;walk_at "st")
 | (refine Ws.ag (by assumption) ?_;walk_at "st"))
local macro_rules | `(tactic| walk_at "lim")=>`(tactic| first
 | (refine Ws.aI ?_;(try simp only[IK,Jo,Js,Kc]);omega)
 | (refine Ws.aX ?_;(try simp only[IK,Jo,Js,Kc]);omega))
local macro_rules | `(tactic| walk_at "s1")=>`(tactic| first
 | with_reducible first
   | refine Ws.bZ ?_
   | refine Ws.cU ?_
   | refine Ws.kE ?_
   | refine Ws.qt ?_
   | refine Ws.dt ?_
   | refine Ws.w_retN ?_
   | refine Ws.U5 ?_
   | refine Ws.EK ?_
   | refine Ws.nJ ?_
   | refine Ws.Ek ?_
   | refine Ws.El ?_
   | refine Ws.Em ?_
   | refine Ws.kD ?_
   | refine Ws.w_chain ?_
   | refine Ws.Eo ?_
   | refine Ws.Ep ?_
   | refine Ws.w_not ?_
   | refine Ws.Es ?_
   | refine Ws.Ei ?_
   | refine Ws.Ej ?_
   | refine Ws.vn ?_
   | refine Ws.DW ?_
   | refine Ws.DX ?_
   | refine Ws.EE ?_
   | refine Ws.EF ?_
   | refine Ws.EH ?_
   | refine Ws.EC ?_
   | refine Ws.Et ?_
   | refine Ws.dE ?_
   | refine Ws.Eu ?_
   | refine Ws.Ey ?_
   | refine Ws.w_cut2 ?_
   | refine Ws.Ex ?_
   | refine Ws.vv ?_
   | refine Ws.EU ?_
   | refine Ws.Ez ?_
   | refine Ws.EA ?_
   | refine Ws.EB ?_
   | refine Ws.w_isF ?_
   | refine Ws.Fh ?_
   | refine Ws.Ff ?_
   | refine Ws.Fg ?_
   | refine Ws.w_irng2 ?_
   | refine Ws.Fi ?_)
local macro_rules | `(tactic| walk_at "s2")=>`(tactic| first
 | ((with_reducible apply Ws.w_var);(·rfl))
 | with_reducible first
   | refine Ws.DV ?_
   | refine Ws.vt ?_
   | refine Ws.vm ?_
   | refine Ws.V6 ?_
   | refine Ws.EI ?_
   | refine Ws.EJ ?_
 | ((with_reducible apply Ws.jV);(·rfl))
 | with_reducible first
   | refine Ws.DY ?_
   | refine Ws.w_add2 ?_
   | refine Ws.DZ ?_
 | ((with_reducible apply Ws.w_mod);(·omega))
 | ((with_reducible apply Ws.jS);(·omega))
 | with_reducible first
   | refine Ws.w_lt ?_
   | refine Ws.w_le ?_
   | refine Ws.D1 ?_
   | refine Ws.vo ?_
   | refine Ws.Ea ?_
   | refine Ws.Eb ?_
   | refine Ws.w_eqB ?_
   | refine Ws.Ec ?_
   | refine Ws.Ew ?_
 | ((with_reducible apply Ws.w_inI);(·walk_at "st"))
 | with_reducible refine Ws.jX ?_
 | with_reducible refine Ws.eP ?_
 | ((with_reducible apply Ws.iB);(·walk_at "st"))
 | ((with_reducible apply Ws.cV);(·walk_at "st"))
 | ((with_reducible apply Ws.gJ);(·walk_at "st"))
 | ((with_reducible apply Ws.gI);(·rfl))
 | with_reducible first
   | refine Ws.EV ?_
   | refine Ws.EW ?_
   | refine Ws.w_eqTI ?_
   | refine Ws.w_neTI ?_
 | ((with_reducible apply Ws.jY);(·walk_at "st");(·walk_at "st"))
 | ((with_reducible refine Ws.jU ?_);(try dsimp only);(try rw[IK]))
 | ((with_reducible apply Ws.dY);(·walk_at "st");(try dsimp only);(try rw[IK]))
 | ((with_reducible apply Ws.jT);(·walk_at "st"))
 | ((with_reducible apply Ws.bY);(·walk_at "st");(·walk_at "ix"))
 | ((with_reducible apply Ws.lY);(·walk_at "st");(·walk_at "ix"))
 | ((with_reducible apply Ws.dh);(·walk_at "ix")))
local macro_rules | `(tactic| walk_at "ix")=>`(tactic| first
 | assumption
 | rfl
 | exact Ws.atl (by omega))
local macro_rules | `(tactic| walk_at "s3")=>`(tactic| first
 | with_reducible first
   | refine Ws.EX ?_
   | refine Ws.kG ?_
   | refine Ws.EZ ?_
   | refine Ws.E2 ?_
   | refine Ws.brT' ?_
   | refine Ws.EY ?_
 | with_reducible refine⟨_,rfl,?_⟩
 | ((with_reducible apply Ws.Fb);(·walk_at "st"))
 | ((with_reducible apply Ws.qB);(·walk_at "st"))
 | ((with_reducible apply Ws.Fc);(·walk_at "st"))
 | ((with_reducible apply Ws.qC);(·walk_at "st"))
 | ((with_reducible apply Ws.Fd);(·walk_at "st");(·rfl))
 | ((with_reducible apply Ws.qD);(·walk_at "st"))
 | ((with_reducible apply Ws.qH);(·walk_at "st"))
 | ((with_reducible apply Ws.qF);(·walk_at "st"))
 | ((with_reducible apply Ws.qG);(·walk_at "st"))
 | with_reducible apply Ws.qE
 | ((with_reducible refine And.intro ?h1 ?_);(case h1=>first | walk_at "lim" | omega)))
local macro_rules | `(tactic| walk_at "s")=>`(tactic| (first | walk_at "s1" | walk_at "s2" | walk_at "s3");(try dsimp only[List.set,Ws.kF]))
local macro_rules | `(tactic| walk_at "fn")=>`(tactic| (refine Ws.EL (by rfl) ?_;simp only[Ws.start,Jn,Nh,Js,Kc,Nat.reduceAdd,Nat.reduceSub,Mo,List.cons_append,PZ]))
local macro_rules | `(tactic| walk_at "go")=>`(tactic| repeat walk_at "s")
namespace Ws
def K4:Fun:=fn 1 1
 (aw (T7 (V8 (aa 0) .int) (cS (V8 (aa 0) .bool))))
def J2:Fun:=fn 2 2
 (aw (T7 (C8 K4 (ae (aa 1) aNil)) (cI iY dN (eK (.int 0)) (aa 1) (aa 0))))
def E8:Fun:=fn 1 1
 (aw (T7 (C8 K4 (ae (aa 0) aNil)) (cI iY iY (eK (.int 2)) (aa 0) (eK (.int 6)))))
def J7:Fun:=fn 2 2
 (ao (aP (tOr (tNot (aq (V8 (aa 1) .tuple))) (aq (eBin cD (V7 (aa 1)) (eK (.int 2)))))
 (aw (eK (.bl false)))
 sPass)
 (aw (T7 (C8 J2 (ae (aa 0) (ae (eBin oIx (aa 1) (eK (.int 0))) aNil))) (T7 (C8 J2 (ae (aa 0) (ae (eBin oIx (aa 1) (eK (.int 1))) aNil))) (eBin cD (eBin oIx (aa 1) (eK (.int 0))) (eBin oIx (aa 1) (eK (.int 1))))))))
def K5:SD:=
 (aP (tOr (tNot (aq (C8 J7 (ae (aa 0) (ae (aa 3) aNil))))) (aq (eBin dO (aa 3) (cX (aa 1) gr (fm (aa 2))))))
 (aw (aa 2))
 sPass)
def K6:SD:=ft (fq (aa 1)) (gTup 2 (gCons (gName 2) (gCons (gName 3) gNil))) K5
def E6:Fun:=fn 4 2
 (ao K6
 (aw (eK .non)))
def D5:Fun:=fn 3 3
 (ao (sFld (aa 0) 6 (aa 1))
 (ao (sFld (aa 0) 7 (mL (aq (dA (aa 2))) (be aNil) (Y2 (aa 2))))
 (ao (sFld (aa 0) 11 (b8 (aH (aa 0) 7)))
 (ao (sFld (aa 0) 12 (eK (.int 1)))
 (ao (sFld (aa 0) 13 eTNew)
 (ao (sFld (aa 0) 14 eTNew)
 (sFld (aa 0) 15 eTNew)))))))
def d3:ED:=M8 (iZip (aa 0) (cX (aa 0) (fm (eK (.int 1))) gr)) (cu [none,none]) (gTup 2 (gCons (gName 0) (gCons (gName 1) gNil))) bf (eBin dN (aa 0) (aa 1))
def S8:Fun:=fn 1 1
 (aw (fb d3))
def X5:ED:=M8 (bW (aa 1)) (cu [none,some 0]) (gName 0) bf (C8 J2 (ae (aH (aa 1) 0) (ae (aa 0) aNil)))
def O2:Fun:=fn 2 2
 (ao (aP (tOr (tNot (aq (V8 (aa 1) .list))) (aq (eBin ck (aa 1) (be aNil))))
 (aw (eK (.bl false)))
 sPass)
 (aw (T7 (fb X5) (C8 S8 (ae (aa 1) aNil)))))
def Q7:Fun:=fn 1 1
 (aw (T7 (C8 K4 (ae (aa 0) aNil)) (eBin kf (aa 0) (eK (.int 0)))))
def U6:SD:=
 (ao (aP (tNot (aq (C8 Q7 (ae (mO (aa 3) (aa 5)) aNil))))
 sNever
 sPass)
 (cL (aa 4) (aa 5) (eTGet (aa 3) (aa 5))))
def U7:SD:=ft (bW (aH (aa 1) 1)) (gName 5) U6
def N5:Fun:=fn 6 4
 (ao (aP (tNot (aq (C8 O2 (ae (aa 1) (ae (aa 2) aNil)))))
 sNever
 sPass)
 (ao (az eTNew (gName 4))
 (ao U7
 (ao (sFld (aa 0) 3 (aa 1))
 (ao (sFld (aa 0) 4 (Y2 (aa 2)))
 (ao (sFld (aa 0) 5 (mP (aa 4)))
 (ao (sFld (aa 0) 9 (b8 (aa 2)))
 (sFld (aa 0) 10 (aa 4)))))))))
def N6:Fun:=fn 4 3
 (ao (aP (tNot (aq (C8 E8 (ae (aa 1) aNil))))
 sNever
 sPass)
 (ao (az (C8 E6 (ae (aa 1) (ae (aa 2) aNil))) (gName 3))
 (ao (aP (aq (cK (aa 3)))
 sNever
 sPass)
 (ao (sFld (aa 0) 0 (aa 1))
 (sFld (aa 0) 1 (T8 (aa 2)))))))
def bB:ED:=M8 (bW (aa 2)) (cu [none,some 0]) (gName 0) bf (C8 J2 (ae (aH (aa 1) 0) (ae (aa 0) aNil)))
def bC:ED:=M8 (iZip (aa 2) (cX (aa 2) (fm (eK (.int 1))) gr)) (cu [none,some 0]) (gName 0) bf (eBin dO (aa 0) (aH (aa 1) 1))
def Q8:Fun:=fn 3 3
 (ao (aP (tOr (aq (eBin ck (aa 2) (aC aNil))) (aq (eBin bq (eBin oIx (aa 2) (eK (.int (-1)))) (aa 1))))
 (aw (eK (.bl false)))
 sPass)
 (ao (aP (tOr (aq (eBin dN (t0 (aa 2)) (V7 (aa 2)))) (tNot (aq (fb bB))))
 (aw (eK (.bl false)))
 sPass)
 (aw (fb bC))))
def d4:Fun:=fn 2 2
 (aw (T7 (C8 J7 (ae (aH (aa 0) 0) (ae (aa 1) aNil))) (eBin dO (aa 1) (aH (aa 0) 1))))
def Q9:ED:=M8 (bW (aa 1)) (cu [none,some 0]) (gName 0) bf (C8 J2 (ae (aH (aH (aa 1) 3) 0) (ae (aa 0) aNil)))
def M5:Fun:=fn 2 2
 (ao (aP (tOr (tNot (aq (V8 (aa 1) .tuple))) (tNot (aq (fb Q9))))
 (aw (eK (.bl false)))
 sPass)
 (aw (C8 Q8 (ae (aH (aa 0) 3) (ae (aH (aa 0) 9) (ae (aa 1) aNil))))))
def M6:Fun:=fn 2 2
 (ao (aP (tOr (tNot (aq (V8 (aa 1) .tuple))) (tOr (aq (eBin dN (V7 (aa 1)) (eK (.int 2)))) (tNot (aq (C8 d4 (ae (aH (aa 0) 3) (ae (eBin oIx (aa 1) (eK (.int 1))) aNil)))))))
 (aw (eK (.bl false)))
 sPass)
 (ao (aP (aq (eBin ck (V7 (aa 1)) (eK (.int 2))))
 (aw (eBin ck (eBin oIx (aa 1) (eK (.int 0))) (eK (.str "lay"))))
 sPass)
 (ao (aP (tOr (aq (eBin cD (V7 (aa 1)) (eK (.int 3)))) (aq (eBin cD (eBin oIx (aa 1) (eK (.int 0))) (eK (.str "say")))))
 (aw (eK (.bl false)))
 sPass)
 (aw (T7 (C8 M5 (ae (aa 0) (ae (eBin oIx (aa 1) (eK (.int 2))) aNil))) (eBin ck (eBin oIx (eBin oIx (aa 1) (eK (.int 2))) (eK (.int 0))) (eBin oIx (eBin oIx (aa 1) (eK (.int 1))) (eK (.int 1)))))))))
def I9:Fun:=fn 1 1
 (aw (aH (aa 0) 12))
def O3:Fun:=fn 1 1
 (sFld (aa 0) 12 (eBin aS (aH (aa 0) 12) (eK (.int 1))))
def J8:Fun:=fn 2 2
 (ao (aP (cY (aq (cZ (eBin oIx (aa 1) (eK (.int 1))) (aH (aa 0) 13))))
 (bL 13 (ae (aa 1) aNil))
 (cx sPass))
 (cx (cL (aH (aa 0) 13) (eBin oIx (aa 1) (eK (.int 1))) (aH (aa 0) 12))))
def U1:Fun:=fn 2 2
 (aw (eTGet (aH (aa 0) 10) (aa 1)))
def L5:Fun:=fn 3 3
 (aw (eBin iZ (aH (aa 0) 12) (eBin aS (aM 1 U1 (aH (aa 0) 6) (ae (aa 1) aNil)) (V7 (aa 2)))))
def G1:Fun:=fn 2 2
 (aw (T7 (cZ (aa 1) (aH (aa 0) 13)) (eBin dN (eTGet (aH (aa 0) 13) (aa 1)) (aH (aa 0) 12))))
def G2:Fun:=fn 2 2
 (aw (T7 (cZ (aa 1) (aH (aa 0) 15)) (eBin dN (eTGet (aH (aa 0) 15) (aa 1)) (aH (aa 0) 12))))
def M0:SD:=
 (az (cX (aa 2) (fm (eK (.int 1))) gr) (gName 2))
def H8:SD:=mM (tAnd (aq (eBin cD (aa 2) (aC aNil))) (aq (eBin dO (eBin oIx (aa 2) (eK (.int 0))) (aH (aa 0) 11)))) M0
def G3:Fun:=fn 3 2
 (ao (az (cX (aa 1) (fm (eK (.int 1))) gr) (gName 2))
 (ao H8
 (aw (mK (eBin ck (aa 2) (aC aNil)) (aM 2 G2 (aa 0) (ae (aa 2) aNil))))))
def G7:Fun:=fn 4 2
 (ao (cx (az (eBin oIx (aa 1) (eK (.int 1))) (gName 2)))
 (ao (cx (az (eBin oIx (aa 1) (eK (.int 2))) (gName 3)))
 (ao (aP (cY (tNot (aq (aM 2 G1 (aa 0) (ae (aa 2) aNil)))))
 (bL 14 (ae (aa 1) aNil))
 (cx sPass))
 (ao (aP (cY (aq (aM 2 L5 (aa 0) (ae (aa 2) (ae (aa 3) aNil)))))
 (bL 15 (ae (aa 1) aNil))
 (cx sPass))
 (ao (aP (cY (tNot (aq (aM 2 G3 (aa 0) (ae (aa 3) aNil)))))
 (bL 16 (ae (aa 1) aNil))
 (cx sPass))
 (ao (cx (aU (V4 (c5 (aH (aa 0) 14) (aa 2) (be aNil)) (aC (ae (aH (aa 0) 12) (ae (aa 3) aNil))))))
 (cx (aU (c5 (aH (aa 0) 15) (aa 3) (aH (aa 0) 12))))))))))
def G6:Fun:=fn 2 2
 (ao (aP (cY (tNot (aq (C8 M6 (ae (aH (aa 0) 6) (ae (aa 1) aNil))))))
 (bL 12 (ae (aa 1) aNil))
 (cx sPass))
 (aP (cY (aq (eBin ck (eBin oIx (aa 1) (eK (.int 0))) (eK (.str "lay")))))
 (aU (b9 2 J8 (aa 0) (ae (aa 1) aNil)))
 (aU (b9 2 G7 (aa 0) (ae (aa 1) aNil)))))
def J0:Fun:=fn 2 2
 (aw (Y2 (m6 (aH (aa 0) 14) (aa 1) (be aNil))))
def G4:ED:=M8 (bW (aM 2 J0 (aa 0) (ae (aa 1) aNil))) (cu [none,none]) (gTup 2 (gCons (gName 0) (gCons (gName 1) gNil))) bf (eBin oIx (aa 1) (eK (.int (-1))))
def aJ:ED:=M8 (bW (aH (aH (aa 0) 6) 9)) (cu [none,some 2]) (gName 0) bf (eBin dO (aa 0) (aa 1))
def E3:Fun:=fn 3 2
 (ao (az G4 (gName 2))
 (aw (fb aJ)))
def E9:Fun:=fn 1 1
 (aw (t5 (aH (aa 0) 13)))
def U8:ED:=M8 (bW (aM 2 E9 (aa 0) aNil)) (cu [none,some 0]) (gName 0) (aq (aM 2 E3 (aa 1) (ae (aa 0) aNil))) (aa 0)
def G9:Fun:=fn 1 1
 (aw U8)
def K7:Fun:=fn 2 2
 (ao (aP (aq (eBin dN (aa 1) (V7 (aa 0))))
 (aw (eBin oIx (aa 0) (aa 1)))
 sPass)
 (aw (eK (.int 0))))
def N7(a:Fun):ED:=M8 (iRng1 (V7 (aa 1))) (cu [none,some 0,some 1]) (gName 0) bf (C8 a (ae (eBin oIx (aa 1) (aa 0)) (ae (eBin oIx (aa 2) (aa 0)) aNil)))
def C4(a:Fun):Fun:=fn 2 2
 (ao (aP (aq (dA (aa 1)))
 (aw (dA (aa 0)))
 sPass)
 (ao (aP (aq (V8 (aa 1) .bool))
 (aw (T7 (V8 (aa 0) .bool) (eBin ck (aa 0) (aa 1))))
 sPass)
 (ao (aP (aq (V8 (aa 1) .int))
 (aw (T7 (V8 (aa 0) .int) (T7 (cS (V8 (aa 0) .bool)) (eBin ck (aa 0) (aa 1)))))
 sPass)
 (ao (aP (aq (kW (aa 1)))
 (aw (T7 (kW (aa 0)) (eBin ck (aa 0) (aa 1))))
 sPass)
 (ao (aP (tOr (aq (eBin cD (V8 (aa 1) .tuple) (V8 (aa 0) .tuple))) (aq (eBin cD (V8 (aa 1) .list) (V8 (aa 0) .list))))
 (aw (eK (.bl false)))
 sPass)
 (ao (aP (aq (eBin cD (V7 (aa 0)) (V7 (aa 1))))
 (aw (eK (.bl false)))
 sPass)
 (aw (fb (N7 a)))))))))
noncomputable def V9:Fun:=λ_=>stuck
def j7:Fun:=C4 V9
def j8:Fun:=C4 j7
def j9:Fun:=C4 j8
def k8:Fun:=C4 j9
def E5:Fun:=C4 k8
def E1:Fun:=fn 3 2
 (ao (aP (tAnd (aq (eBin iZ (aa 0) (eBin gs (eK (.int 10)) (eK (.int 60))))) (aq (eBin ck (eBin aY (aa 0) (eK (.int 2))) (eK (.int 1)))))
 (aw (eBin fw (eBin fu (aa 0) (eBin aS (eK (.int 1)) (eBin cH (eK (.int 20)) (aa 1)))) (eK (.int 1048575))))
 sPass)
 (ao (az (eBin aY (eBin cH (eBin aS (eBin aS (aa 0) (eBin cH (eK (.int 7919)) (aa 1))) (eK (.int 1))) (eK (.int 48271))) (eK (.int 2147483647))) (gName 2))
 (ao (az (eBin aY (eBin cH (aa 2) (eBin aS (eBin bw (aa 2) (eK (.int 1009))) (eK (.int 69621)))) (eK (.int 2147483647))) (gName 2))
 (aw (eBin aY (eBin cH (aa 2) (eBin aS (eBin bw (aa 2) (eK (.int 4099))) (eK (.int 40014)))) (eK (.int 2147483647)))))))
def N0:ED:=M8 (iRng1 (aa 1)) (cu [none,some 0]) (gName 0) bf (aC (ae (C8 E1 (ae (aa 1) (ae (eBin aS (eK (.int 20)) (aa 0)) aNil))) (ae (aa 0) aNil)))
def N1:ED:=M8 (iRng1 (aa 1)) (cu [none,some 2]) (gName 0) bf (aC (ae (eBin oIx (eBin oIx (aa 1) (eBin fk (aa 0) (eK (.int 1)))) (eK (.int 1))) (ae (eBin oIx (eBin oIx (aa 1) (aa 0)) (eK (.int 1))) aNil)))
def aV:SD:=
 (ao (az (C8 E1 (ae (aa 0) (ae (eBin aS (eBin aS (eK (.int 40)) (eBin cH (eK (.int 6)) (aa 5))) (aa 6)) aNil))) (gName 7))
 (aP (tAnd (aq (eBin cD (aa 5) (aa 6))) (tOr (aq (eBin dO (aC (ae (aa 5) (ae (aa 6) aNil))) (aa 3))) (aq (eBin ck (eBin aY (aa 7) (eK (.int 3))) (eK (.int 0))))))
 (aU (V4 (aa 4) (aC (ae (aa 5) (ae (aa 6) aNil)))))
 sPass))
def N2:SD:=ft (iRng1 (aa 1)) (gName 6) aV
def aW:SD:=
 N2
def N3:SD:=ft (iRng1 (aa 1)) (gName 5) aW
def L6:Fun:=fn 8 2
 (ao (az (T8 N0) (gName 2))
 (ao (az N1 (gName 3))
 (ao (az (be aNil) (gName 4))
 (ao N3
 (aw (aa 4))))))
def W0:ED:=M8 (iRng1 (aa 1)) (cu [none,some 0]) (gName 0) (aq (eBin ck (eBin fw (eBin fu (aa 1) (aa 0)) (eK (.int 1))) (eK (.int 1)))) (aa 0)
def P1:Fun:=fn 2 2
 (aw W0)
def R7:ED:=M8 (bW (aa 0)) (cu [none,none,some 4]) (gTup 2 (gCons (gName 0) (gCons (gName 1) gNil))) (tAnd (aq (eBin ck (aa 0) (eBin oIx (aa 2) (eK (.int (-1)))))) (aq (eBin bq (aa 1) (aa 2)))) (eBin aS (aa 2) (aC (ae (aa 1) aNil)))
def bD:SD:=
 (az (eBin aS (aa 3) R7) (gName 3))
def R8:SD:=ft (bW (aa 1)) (gName 4) bD
def W2:SD:=
 (ao (az (eBin aS (aa 2) (aa 1)) (gName 2))
 (ao (az (be aNil) (gName 3))
 (ao R8
 (az (aa 3) (gName 1)))))
def R9:SD:=mM (aq (eBin cD (aa 1) (be aNil))) W2
def R0:Fun:=fn 5 2
 (ao (az (be aNil) (gName 2))
 (ao R9
 (aw (aa 2))))
def T4:ED:=M8 (bW (C8 R0 (ae (aa 0) (ae (be (ae (aC (ae (aa 2) aNil)) aNil)) aNil)))) (cu [none,some 1]) (gName 0) (aq (eBin dO (eBin oIx (aa 0) (eK (.int (-1)))) (aa 1))) (aa 0)
def J9:Fun:=fn 3 3
 (aw T4)
def D6(a:Fun):Fun:=fn 4 3
 (ao (aP (aq (eBin ck (V7 (aa 2)) (eK (.int 1))))
 (aw (eK (.bl true)))
 sPass)
 (ao (az (cX (aa 2) (fm (eK (.int 1))) gr) (gName 3))
 (ao (aP (aq (eBin dO (eBin oIx (aa 3) (eK (.int 0))) (aa 1)))
 (aw (C8 a (ae (aa 0) (ae (aa 1) (ae (aa 3) aNil)))))
 sPass)
 (aw (eBin dN (m6 (eSGet (aa 0) (eK (.str "shown"))) (aa 3) (eSGet (aa 0) (eK (.str "turn")))) (eSGet (aa 0) (eK (.str "turn"))))))))
noncomputable def W3:Fun:=λ_=>stuck
def k9:Fun:=D6 W3
def l4:Fun:=D6 k9
def l5:Fun:=D6 l4
def l6:Fun:=D6 l5
def l7:Fun:=D6 l6
def P4:Fun:=D6 l7
def L7:Fun:=fn 7 4
 (ao (az (aa 1) (gTup 3 (gCons (gName 4) (gCons (gName 5) (gCons (gName 6) gNil)))))
 (ao (aP (tOr (aq (eBin bq (eBin oIx (aa 3) (eK (.int 0))) (aC (ae (eK (.str "lay")) (ae (eK (.str "say")) aNil))))) (tOr (aq (eBin cD (V7 (aa 3)) (eBin aS (eK (.int 2)) (kT (eBin ck (eBin oIx (aa 3) (eK (.int 0))) (eK (.str "say"))))))) (aq (eBin bq (eBin oIx (aa 3) (eK (.int 1))) (aa 4)))))
 (aw (eK (.str "deed")))
 sPass)
 (ao (aP (aq (eBin ck (eBin oIx (aa 3) (eK (.int 0))) (eK (.str "lay"))))
 (aw (eBin oIx (be (ae (eK (.str "none")) (ae (eK (.str "laid")) aNil))) (kT (cZ (eBin oIx (aa 3) (eK (.int 1))) (eSGet (aa 0) (eK (.str "lays")))))))
 sPass)
 (ao (aP (aq (eBin bq (eBin oIx (aa 3) (eK (.int 2))) (C8 J9 (ae (aa 4) (ae (aa 5) (ae (eBin oIx (eBin oIx (aa 3) (eK (.int 1))) (eK (.int 1))) aNil))))))
 (aw (eK (.str "deed")))
 sPass)
 (ao (aP (aq (eBin kf (m6 (eSGet (aa 0) (eK (.str "lays"))) (eBin oIx (aa 3) (eK (.int 1))) (eSGet (aa 0) (eK (.str "turn")))) (eSGet (aa 0) (eK (.str "turn")))))
 (aw (eK (.str "notlaid")))
 sPass)
 (ao (aP (aq (eBin iZ (eSGet (aa 0) (eK (.str "turn"))) (eBin aS (eTGet (aa 6) (eBin oIx (aa 3) (eK (.int 1)))) (V7 (eBin oIx (aa 3) (eK (.int 2)))))))
 (aw (eK (.str "late")))
 sPass)
 (ao (aP (tNot (aq (C8 P4 (ae (aa 0) (ae (aa 2) (ae (eBin oIx (aa 3) (eK (.int 2))) aNil))))))
 (aw (eK (.str "unknown")))
 sPass)
 (aw (eK (.str "none"))))))))))
def N9:Fun:=fn 2 2
 (aP (aq (eBin ck (eBin oIx (aa 1) (eK (.int 0))) (eK (.str "lay"))))
 (ao (cL (eSGet (aa 0) (eK (.str "lays"))) (eBin oIx (aa 1) (eK (.int 1))) (eSGet (aa 0) (eK (.str "turn"))))
 (cL (eSGet (aa 0) (eK (.str "says"))) (eBin oIx (aa 1) (eK (.int 1))) (be aNil)))
 (ao (aU (V4 (eTGet (eSGet (aa 0) (eK (.str "says"))) (eBin oIx (aa 1) (eK (.int 1)))) (aC (ae (eSGet (aa 0) (eK (.str "turn"))) (ae (eBin oIx (aa 1) (eK (.int 2))) aNil)))))
 (aU (c5 (eSGet (aa 0) (eK (.str "shown"))) (eBin oIx (aa 1) (eK (.int 2))) (eSGet (aa 0) (eK (.str "turn")))))))
def S0:ED:=M8 (bW (aa 4)) (cu [none,none]) (gTup 2 (gCons (gName 0) (gCons (gName 1) gNil))) bf (eBin oIx (aa 1) (eK (.int (-1))))
def bE:SD:=
 (aP (aq (kZ S0 (aa 1)))
 (aU (V4 (aa 2) (aa 3)))
 sPass)
def W4:SD:=oY (eSGet (aa 0) (eK (.str "says"))) (gTup 2 (gCons (gName 3) (gCons (gName 4) gNil))) bE
def N8:Fun:=fn 5 2
 (ao (az (be aNil) (gName 2))
 (ao W4
 (aw (T8 (aa 2)))))
def J1:Fun:=fn 6 2
 (ao (az (eK (.str "none")) (gName 2))
 (ao (az (aa 1) (gName 3))
 (ao (az (eK (.bl true)) (gName 4))
 (ao (kj [7,8,9,12,13,14,15,16] (az (eIxX (be (ae (eK (.str "none")) (ae (eK (.str "odd")) aNil))) (kX (cK (b9 2 G6 (aa 0) (ae (aa 1) aNil))))) (gName 2)) [(12,some 5,(az (aC (ae (eK (.str "deed")) (ae (hY [7,8,9,12,13,14,15,16] (aa 5)) (ae (T7 (eC [7,8,9,12,13,14,15,16] (aa 5) 7) (cS (eC [7,8,9,12,13,14,15,16] (aa 5) 16))) aNil)))) (gTup 3 (gCons (gName 2) (gCons (gName 3) (gCons (gName 4) gNil)))))),(13,some 5,(az (aC (ae (eK (.str "laid")) (ae (hY [7,8,9,12,13,14,15,16] (aa 5)) (ae (T7 (eC [7,8,9,12,13,14,15,16] (aa 5) 7) (cS (eC [7,8,9,12,13,14,15,16] (aa 5) 14))) aNil)))) (gTup 3 (gCons (gName 2) (gCons (gName 3) (gCons (gName 4) gNil)))))),(14,some 5,(az (aC (ae (eK (.str "notlaid")) (ae (hY [7,8,9,12,13,14,15,16] (aa 5)) (ae (T7 (eC [7,8,9,12,13,14,15,16] (aa 5) 7) (cS (eC [7,8,9,12,13,14,15,16] (aa 5) 13))) aNil)))) (gTup 3 (gCons (gName 2) (gCons (gName 3) (gCons (gName 4) gNil)))))),(15,some 5,(az (aC (ae (eK (.str "late")) (ae (hY [7,8,9,12,13,14,15,16] (aa 5)) (ae (T7 (eC [7,8,9,12,13,14,15,16] (aa 5) 7) (cS (eC [7,8,9,12,13,14,15,16] (aa 5) 14))) aNil)))) (gTup 3 (gCons (gName 2) (gCons (gName 3) (gCons (gName 4) gNil)))))),(16,some 5,(az (aC (ae (eK (.str "unknown")) (ae (hY [7,8,9,12,13,14,15,16] (aa 5)) (ae (T7 (eC [7,8,9,12,13,14,15,16] (aa 5) 7) (cS (eC [7,8,9,12,13,14,15,16] (aa 5) 12))) aNil)))) (gTup 3 (gCons (gName 2) (gCons (gName 3) (gCons (gName 4) gNil))))))])
 (ao (aP (tOr (aq (eBin cD (aa 3) (aa 1))) (tNot (aq (aa 4))))
 (aw (eK (.str "odd")))
 sPass)
 (aw (aa 2)))))))
def O4:ED:=M8 (bW (aa 8)) (cu [none,some 0,some 2]) (gName 0) (aq (C8 P4 (ae (aa 1) (ae (aa 2) (ae (aa 0) aNil))))) (aa 0)
def R1:Fun:=fn 11 4
 (ao (az (aa 1) (gTup 3 (gCons (gName 4) (gCons (gName 5) (gCons (gName 6) gNil)))))
 (ao (az (eBin oIx (aa 4) (eBin aY (eBin bw (aa 3) (eK (.int 10))) (V7 (aa 4)))) (gName 7))
 (ao (az (C8 J9 (ae (aa 4) (ae (aa 5) (ae (eBin oIx (aa 7) (eK (.int 1))) aNil)))) (gName 8))
 (ao (aP (tOr (aq (eBin dN (eBin aY (aa 3) (eK (.int 10))) (eK (.int 2)))) (aq (eBin ck (aa 8) (be aNil))))
 (aw (aC (ae (eK (.str "lay")) (ae (aa 7) aNil))))
 sPass)
 (ao (aP (aq (eBin ck (eBin aY (aa 3) (eK (.int 10))) (eK (.int 2))))
 (ao (az (be (ae (aC (ae (eK (.str "say")) (ae (aa 7) (ae (aC aNil) aNil)))) (ae (aC (ae (eK (.str "say")) (ae (aa 7) (ae (aa 7) aNil)))) (ae (aC (ae (eK (.str "say")) (ae (aa 7) (ae (aC (ae (eBin oIx (aa 7) (eK (.int 1))) (ae (eK (.int 9)) aNil))) aNil)))) (ae (aC (ae (eK (.str "lay")) (ae (aC (ae (eK (.int 7)) (ae (eK (.int 0)) aNil))) aNil))) aNil))))) (gName 9))
 (aw (eBin oIx (eBin aS (aa 9) (be (ae (aC (ae (eK (.str "say")) (ae (aC (ae (eK (.int 0)) (ae (eK (.int 0)) aNil))) (ae (aC (ae (eK (.int 0)) aNil)) aNil)))) (ae (aC (ae (eK (.str "open")) (ae (aa 7) aNil))) (ae (aC (ae (eK (.str "say")) (ae (aa 7) (ae (dC (aa 7)) aNil)))) aNil))))) (eBin aY (eBin bw (aa 3) (eK (.int 200))) (eK (.int 7))))))
 sPass)
 (ao (az O4 (gName 10))
 (ao (aP (tAnd (aq (eBin cD (aa 10) (be aNil))) (aq (eBin dN (eBin aY (aa 3) (eK (.int 10))) (eK (.int 8)))))
 (az (aa 10) (gName 8))
 sPass)
 (aw (aC (ae (eK (.str "say")) (ae (aa 7) (ae (eBin oIx (aa 8) (eBin aY (eBin bw (aa 3) (eK (.int 200))) (V7 (aa 8)))) aNil))))))))))))
def y0:ED:=M8 (fq (aa 3)) (cu [none,none,some 1]) (gTup 2 (gCons (gName 0) (gCons (gName 1) gNil))) bf (aC (ae (aa 1) (ae (eBin aY (C8 E1 (ae (aa 2) (ae (eBin aS (eK (.int 60)) (aa 0)) aNil))) (eK (.int 9))) aNil)))
def y7:SD:=
 (ao (az (C8 E1 (ae (aa 1) (ae (eK (.int 3)) aNil))) (gName 12))
 (ao (aP (aq (eBin ck (eBin aY (aa 12) (eK (.int 4))) (eK (.int 0))))
 (ao (aU (aM 2 O3 (aa 10) aNil))
 (eh (aa 11) (eK (.str "turn")) (eBin aS (eSGet (aa 11) (eK (.str "turn"))) (eK (.int 1)))))
 (ao (az (C8 R1 (ae (aa 11) (ae (aa 7) (ae (aa 5) (ae (eBin bw (aa 12) (eK (.int 4))) aNil))))) (gName 13))
 (ao (az (C8 L7 (ae (aa 11) (ae (aa 7) (ae (aa 5) (ae (aa 13) aNil))))) (gName 14))
 (ao (aP (aq (eBin cD (C8 J1 (ae (aa 10) (ae (aa 13) aNil))) (aa 14)))
 (aw (eK (.bl false)))
 sPass)
 (aP (aq (eBin ck (aa 14) (eK (.str "none"))))
 (aU (C8 N9 (ae (aa 11) (ae (aa 13) aNil))))
 sPass)))))
 (ao (aP (tNot (aq (C8 E5 (ae (aM 2 E9 (aa 10) aNil) (ae (T8 (kl (eSGet (aa 11) (eK (.str "lays"))))) aNil)))))
 (aw (eK (.bl false)))
 sPass)
 (aP (tOr (tNot (aq (C8 E5 (ae (aM 2 G9 (aa 10) aNil) (ae (C8 N8 (ae (aa 11) (ae (aa 4) aNil))) aNil))))) (aq (eBin cD (aM 2 I9 (aa 10) aNil) (eSGet (aa 11) (eK (.str "turn"))))))
 (aw (eK (.bl false)))
 sPass))))
def y8:SD:=ft (bW (cX (aa 0) (fm (eK (.int 1))) (fm (eK (.int 41))))) (gName 1) y7
def d5:ED:=M8 (bW (aa 3)) (cu [none,some 10,some 11]) (gName 0) bf (C8 E5 (ae (aM 2 J0 (aa 1) (ae (aa 0) aNil)) (ae (m6 (eSGet (aa 2) (eK (.str "says"))) (aa 0) (be aNil)) aNil)))
def nM:Fun:=fn 15 1
 (ao (az (C8 K7 (ae (aa 0) (ae (eK (.int 0)) aNil))) (gName 1))
 (ao (az (eBin aS (eK (.int 2)) (eBin aY (C8 E1 (ae (aa 1) (ae (eK (.int 0)) aNil))) (eK (.int 4)))) (gName 2))
 (ao (az (C8 L6 (ae (aa 1) (ae (aa 2) aNil))) (gName 3))
 (ao (az (C8 P1 (ae (eBin aS (eK (.int 1)) (eBin aY (C8 E1 (ae (aa 1) (ae (eK (.int 1)) aNil))) (eBin fk (eBin gu (eK (.int 1)) (aa 2)) (eK (.int 1))))) (ae (aa 2) aNil))) (gName 4))
 (ao (az (C8 P1 (ae (C8 E1 (ae (aa 1) (ae (eK (.int 2)) aNil))) (ae (aa 2) aNil))) (gName 5))
 (ao (az (t6 y0) (gName 6))
 (ao (az (aC (ae (aa 3) (ae (aa 4) (ae (aa 6) aNil)))) (gName 7))
 (ao (az (Y9 1 N5 (ae (Y9 0 N6 (ae (aa 2) (ae (aa 3) aNil))) (ae (aa 4) (ae (aa 6) aNil)))) (gName 8))
 (ao (az (Y2 (aa 5)) (gName 9))
 (ao (az (Y9 2 D5 (ae (aa 8) (ae (aa 9) aNil))) (gName 10))
 (ao (aU (mN (aa 9)))
 (ao (aP (aq (eBin ck (eBin aY (C8 E1 (ae (aa 1) (ae (eK (.int 4)) aNil))) (eK (.int 6))) (eK (.int 0))))
 (ao (az (be aNil) (gName 5))
 (az (Y9 2 (dflt D5 [.non]) (ae (aa 8) aNil)) (gName 10)))
 sPass)
 (ao (az (cT [("turn",(eK (.int 1))),("lays",eTNew),("says",eTNew),("shown",eTNew)]) (gName 11))
 (ao y8
 (ao (aP (tNot (aq (C8 E5 (ae (aH (aa 10) 7) (ae (aa 5) aNil)))))
 (aw (eK (.bl false)))
 sPass)
 (aw (fb d5)))))))))))))))))
@[simp] theorem IA(i:Int)(A:PHp):K4 [.int i] A=.ok (.bl true) A:=by simp[K4]
def bM(n h:Int)(A:PHp):J2 [.int n,.int h] A=.ok (.bl (decide (0<=h/\h<n))) A:=by
 by_cases a:0<=h<;>simp[J2,a]
def Fj(n:Int)(A:PHp):E8 [.int n] A=.ok (.bl (decide (2<=n/\n<=6))) A:=by
 by_cases a:2<=n<;>simp[E8,a]
def good(n:Int)(p:Int×Int):Prop:=(0<=p.1/\p.1<n)/\(0<=p.2/\p.2<n)/\p.1≠p.2
instance (n:Int) (p:Int×Int):Decidable (good n p):=by unfold good;infer_instance
def l8(n:Int)(p:Int×Int)(A:PHp):J7 [.int n,pv p] A=.ok (.bl (decide (good n p))) A:=by
 by_cases a:0<=p.1/\p.1<n<;>by_cases b:0<=p.2/\p.2<n<;>simp[J7,pv,good,atI,ixN,bJ,bM,a,b]
structure J4(n:Int)(ps:List (Int×Int)):Prop where
 lo:2<=n
 hi:n<=6
 good:∀p∈ps,good n p
 nd:ps.Nodup
 len:ps.length<64
def Fk{b:Type}(a:List b)(i:Nat):cut a none (some (i:Int))=a.take i:=by
 unfold cut T6;simp only[List.drop_zero,Nat.sub_zero];rw[if_neg (by simp)];rw[List.take_eq_take_iff];walk_at "o"
def Fm(W:J4 n ps)(o:A[r]?=some (.lst (aL ps))) :
 ∃A',E6 [.int n,.ref r] A=.ok .non A'/\A<+:A':=by
 have q:Comes (K6 [some (.int n),some (.ref r),none,none] A) (λσ A'=>A<+:A') (λ_ _=>False):=by
  refine(zS (l:=aL ps) (a:=r) (by simp_all) (λi σ A'=>A<+:A'/\∃x y,σ=[some _,some _,x,y]) _ ⟨Jk _,_,_,rfl⟩ ?_ ?_).mono (λ_ _ h=>h.1) (λ_ _ h=>h)
  .rintro i σ A' ⟨f,_⟩;simp[ag f o]
  .rintro i v σ A' s ⟨f,x,y,rfl⟩;have g:=ag f o;obtain⟨p,b,rfl⟩:∃p,ps[i]?=some p/\v=pv p:=by
    simp only[aL,Jm]at s;cases e:ps[i]? with
    | none=>simp_all
    | some p=>simp_all
   have c:=JD b;have u:=W.good p c;have d:p∉ps.take i:=by
    intro w;have m:=(IW.mp b).1;obtain⟨j,z,e⟩:=KS.mp w;rw[KG]at z;rw[List.getElem_take]at e;have B:ps[i]=p:=(IW.mp b).2;exact Lf.mp W.nd j i _ m (by walk_at "o") (e.trans B.symm)
   have C:cut (aL ps) none (some (i:Int))=aL (ps.take i):=by rw[Fk];simp[aL]
   refine dB.nx (σ:=[some _,some _,some (.int i),some (pv p)]) (A:=A'++[.lst (aL (ps.take i))]) ?_ ⟨D4 f,_,_,rfl⟩;simp[K5,l8,u,g,C,ES,qy,qz,d]
 obtain⟨σ,A',e,h⟩:=q.end;refine⟨A',?_,h⟩;simp[E6,e]
noncomputable def l2(p:Int×Int):List Int:=[p.1,p.2]
noncomputable def gk(p q:Int×Int):Bool:=D0 (l2 p) (l2 q)
noncomputable def srt(ps:List (Int×Int)):List (Int×Int):=D7 gk ps
theorem vB{c d:Type}(f:c->d)(lt:d->d->Bool)(a:c):∀l:List c,Y8 lt (f a) (l.map f)=(Y8 (λx y=>lt (f x) (f y)) a l).map f
 | []=>rfl
 | b::r=>by
   have ih:=vB f lt a r;simp only[Jn,Y8];split
   .simp_all
   .rfl
theorem n6{c b:Type}(f:c->b)(lt:b->b->Bool):∀l:List c,D7 lt (l.map f)=(D7 (λx y=>lt (f x) (f y)) l).map f
 | []=>rfl
 | a::r=>by
   simp only[Jn,D7];rw[n6 f lt r,vB]
def qI(ps:List (Int×Int)):aL ps=(ps.map l2).map λt=>PV.tup (t.map .int):=by
 simp[aL,pv,l2]
def n8(h:ps.length<64):i3 (aL ps) A=.ok (aL (srt ps)) A:=by
 rw[qI,r8 (by simp_all) (by intro t a;obtain⟨p,_,rfl⟩:=IU.mp a;simp[l2]),n6,qI];rfl
def L8(ps:List (Int×Int)):(srt ps).Perm ps:=H9 _ _
structure cb(A:PHp)(w r:Nat)(n:Int)(ps:List (Int×Int)):Prop where
 ob:A[w]?=some (.ins 0 [(0,.int n),(1,.ref r)])
 ls:A[r]?=some (.lst (aL (srt ps)))
def cb.mono(h:cb A w r n ps)(e:A<+:B):cb B w r n ps:=⟨ag e h.ob,ag e h.ls⟩
def Fn(W:J4 n ps)(s:A<+:B)(m:A.length<=w)(c:B[w]?=some (.ins 0 []))(d:B[q]?=some (.lst (aL ps))) :
 ∃e r,N6 [.ref w,.int n,.ref q] B=.ok .non e/\A<+:e/\cb e w r n ps/\w<r:=by
 obtain⟨p,u,f⟩:=Fm W d;have a:=ag f c;have g:=ag f d;have h:=C5 a;have i:q≠w:=by rintro rfl;rw[d]at c;cases c
 have j:(p.set w (.ins 0 [(0,.int n)]))[q]?=some (.lst (aL ps)):=by rw[C6 i];exact g
 have l:(p.set w _)[w]?=some (.ins 0 [(0,.int n)]):=aE a;have b:=ai (o:=PO.lst (aL (srt ps))) l;refine⟨(_++[PO.lst _]).set w _,_,?_,?_,⟨aE b,?_⟩,h⟩
 .simp[N6,Fj,W.lo,W.hi,u,a,j,b,n8 W.len]
 .exact r6 (D4 (r6 (s.trans f) m)) m
 .simp_all
def Fo(W:J4 n ps)(b:A[q]?=some (.lst (aL ps))) :
 ∃a r,N6 [.ref A.length,.int n,.ref q] (A++[.ins 0 []])=.ok .non a/\A<+:a/\cb a A.length r n ps/\A.length<r:=
 Fn W (IL _ _) (IM _) aj (ai b)
def vC{b:Type}{a:List b}(h:j<a.length):atI a (j:Int)=some a[j]:=by
 unfold atI ixN;simp[h]
def vD{b:Type}(a:List b)(i:Nat):cut a (some (i:Int)) none=a.drop i:=by
 unfold cut T6;simp only;rw[if_neg (by simp)];rw[show(min (i:Int) _).toNat=min i a.length by walk_at "o"];by_cases h:i<=a.length
 .rw[Nat.min_eq_left h,Lw (by simp)]
 .rw[Nat.min_eq_right (by walk_at "o"),List.drop_length,List.drop_eq_nil_of_le (by walk_at "o")];simp
def vE(p q:Int×Int):gk p q=true↔p.1<q.1\/(p.1=q.1/\p.2<q.2):=by
 unfold gk l2 D0 D0;by_cases h:p.1=q.1
 .by_cases a:p.2=q.2<;>simp[h,a,D0]
 .simp[h]
def vF(p q:Int×Int):gk p q=false↔¬(p.1<q.1\/(p.1=q.1/\p.2<q.2)):=by
 rw[<-vE];simp
def vG(ps:List (Int×Int)):(srt ps).Pairwise (λp q=>gk q p=false):=by
 refine R4 ?_ ?_ ps
 .intro a b h;rw[vE]at h;rw[vF];walk_at "o"
 .intro a b c d e;rw[vF]at *;walk_at "o"
noncomputable def S9(N:Nat):List Int:=(Ju N).map λ(k:Nat)=>(k:Int)
def mem_hands:x∈S9 N↔0<=x/\x<N:=by
 unfold S9;rw[IU];constructor
 .grind
 .rintro⟨a,b⟩;exact⟨x.toNat,Kr.mpr (by walk_at "o"),by walk_at "o"⟩
def bb(N:Nat):(S9 N).length=N:=by simp[S9]
def d6(N:Nat):(S9 N).Pairwise (·< ·):=by
 unfold S9;rw[OA];exact List.pairwise_lt_range.imp λh=>by walk_at "o"
def Fp(N:Nat):(S9 N).Nodup:=(d6 N).imp λh z=>by walk_at "o"
section
variable{A:PHp}{Q:PV->PHp->Prop}{E:XP}{σ:PSt}{i j:Int}{n k:Nat}{e e1 e2 e3 e4:ED}
def w_shr(h:0<=j)(q:Q (.int (i / 2 ^ j.toNat)) A):Wp (fu (.int i) (.int j)) A Q E:=C7 h q
def w_shl(h:0<=j/\j<=1000000/\i.natAbs<2 ^ 64)(q:Q (.int (i*2 ^ j.toNat)) A):Wp (gu (.int i) (.int j)) A Q E:=C7 h q
def Fq(q:Q (.int (Kv i j)) A):Wp (fw (.int i) (.int j)) A Q E:=q
abbrev DT:=List (List Int×PV)
variable{m:DT}
def X6(h:A[n]?=some (.dT m))(q:a m A):Wp (Q1 n) A a E:=w_eq (by unfold Q1;rw[h]) q
def Fs(q:Q (.ref A.length) (A++[.dT []])):Wp (eTNew σ) A Q E:=q
def Ft(h:Wp (e1 σ) A (λk b=>Wp (e2 σ) b (λx a=>∃n i m,x=.ref n/\O8 k=some i/\a[n]?=some (.dT m)/\Q (.bl (aD m i).isSome) a) E) E):Wp (cZ e1 e2 σ) A Q E:=
 B6 (af h λk b c=>B6 (af c λx a ⟨n,i,m,d,f,g,q⟩=>by subst d;rw[f];exact B6 (X6 g q)))
def Fu(h:Wp (e1 σ) A (λx b=>Wp (e2 σ) b (λk a=>∃n i m v,x=.ref n/\O8 k=some i/\a[n]?=some (.dT m)/\aD m i=some v/\Q v a) E) E):Wp (eTGet e1 e2 σ) A Q E:=
 B6 (af h λx b c=>B6 (af c λk a ⟨n,i,m,v,d,f,g,l,q⟩=>by subst d;rw[f];exact B6 (X6 g (by rw[l];exact q))))
def Fv(h:Wp (e1 σ) A (λx a=>∃n c,x=.ref n/\a[n]?=some (.dT c)/\Wp (e2 σ) a (λk b=>∃i m,O8 k=some i/\b[n]?=some (.dT m)/\Q ((aD m i).getD .non) b) E) E):Wp (mO e1 e2 σ) A Q E:=
 B6 (af h λx a d=>by
  obtain⟨n,c,f,g,l⟩:=d;subst f;exact B6 (X6 g (B6 (af l λk b ⟨i,m,o,p,q⟩=>by rw[o];exact B6 (X6 p q)))))
def ej(h:Wp (e1 σ) A (λx a=>∃n c,x=.ref n/\a[n]?=some (.dT c)/\Wp (e2 σ) a (λk d=>Wp (e3 σ) d (λv b=>∃i m,O8 k=some i/\b[n]?=some (.dT m)/\Q ((aD m i).getD v) b) E) E) E):Wp (m6 e1 e2 e3 σ) A Q E:=
 B6 (af h λx a f=>by
  obtain⟨n,c,g,l,o⟩:=f;subst g;exact B6 (X6 l (B6 (af o λk d p=>B6 (af p λv b ⟨i,m,r,s,q⟩=>by rw[r];exact B6 (X6 s q))))))
def Fw(h:Wp (e3 σ) A (λv c=>Wp (e1 σ) c (λx d=>Wp (e2 σ) d (λk a=>∃n i m,x=.ref n/\O8 k=some i/\a[n]?=some (.dT m)/\m.length<LIM/\b (.nx σ) (a.set n (.dT (T9 m i v)))) E) E) E):Wp (cL e1 e2 e3 σ) A b E:=
 B6 (af h λv c f=>B6 (af f λx d g=>B6 (af g λk a l=>by
  obtain⟨n,i,m,o,p,r,s,q⟩:=l;subst o;rw[p];exact B6 (X6 r (C7 s (B6 (w_eq rfl q)))))))
def Fx(h:Wp (e σ) A (λx a=>∃n m,x=.ref n/\a[n]?=some (.dT m)/\((m.map (·.1)).Nodup/\∀p∈m,p.1∈small)/\Q (.ref a.length) (a++[.dT m])) E):Wp (mP e σ) A Q E:=
 B6 (af h λx a ⟨n,m,b,c,d,q⟩=>by subst b;exact B6 (X6 c (C7 d q)))
def Fy(q:Q (.bl (decide (x=y))) A):Wp (ck (.str x) (.str y)) A Q E:=Ef rfl rfl q
def qJ(q:Q (.bl (!decide (x=y))) A):Wp (cD (.str x) (.str y)) A Q E:=ix rfl rfl q
def FA(h:Wp (e σ) A (λx a=>∃b:Bool,x=.bl b/\Q (.int (if b then 1 else 0)) a) E):Wp (kT e σ) A Q E:=B6 (af h λx a ⟨b,c,q⟩=>by subst c;exact q)
def FC(h:Wp (e σ) A (λx a=>Wp (kU x) a (λb c=>Q (.bl b) c) E) E):Wp (kW e σ) A Q E:=B6 (af h λ_ _ d=>B6 d)
def FD(h:Wp (e σ) A (λx a=>∃n l b,x=.ref n/\a[n]?=some (.lst l)/\i3 l a=.ok b a/\Q (.ref a.length) (a++[.lst b])) E):Wp (T8 e σ) A Q E:=B6 (af h λx a ⟨n,l,b,c,d,f,q⟩=>by subst c;exact B6 (P8 d (B6 (w_eq f q))))
end
def i9(h:i∉m.map (·.1)):T9 m i v=m++[(i,v)]:=by
 unfold T9;rw[if_neg];rw[List.any_eq_true];rintro⟨p,a,b⟩;exact h (IU.mpr ⟨p,a,by simpa using b⟩)
def FE(b:(m.map (·.1)).Nodup)(h:(i,v)∈m):aD m i=some v:=by
 induction m with
 | nil=>cases h
 | cons p r ih=>
   unfold aD;rcases IT.mp h with z | z
   .rw[<-z,if_pos rfl]
   .have a:=KA.mp b;have:p.1≠i:=λe=>a.1 (IU.mpr ⟨_,z,e.symm⟩);rw[if_neg this];exact ih a.2 z
def iC{α:Type}{m:M α}{Q:α->PHp->Prop}(h:Wp m A Q NoX):Wp (cN m) A Q E:=by
 obtain⟨a,b,e,q⟩:=nI h;exact w_eq (tq e) q
def nN(h:Wp (s σ) A Q NoX):Wp (cx s σ) A Q E:=iC h
def FF(h:Wp (t σ) A Q NoX):Wp (cY t σ) A Q E:=iC h
def FG(h:Wp (e σ) A (λv a=>E c v a) NoX):Wp (bL c (ae e aNil) σ) A Q E:=by
 refine B6 (iC (vn (af h λv a b=>vm ?_)));exact b
section
variable{A:PHp}{E:XP}{n:Nat}{l:List PV}{m:DT}
def fN(h:kU x A=.ok b A)(q:a b A):Wp (kU x) A a E:=w_eq h q
def fO(h:A[n]?=some (.lst l))(q:a false A):Wp (kU (.ref n)) A a E:=B6 (X4 h q)
def gK(h:A[n]?=some (.lst l))(q:a false A):Wp (hW .int (.ref n)) A a E:=B6 (X4 h q)
def gL(h:A[n]?=some (.lst l))(q:a false A):Wp (hW .bool (.ref n)) A a E:=B6 (X4 h q)
def gM(h:A[n]?=some (.lst l))(q:a false A):Wp (hW .tuple (.ref n)) A a E:=B6 (X4 h q)
def qK{R:Nat->DT->Prop}(h:A[n]?=some (.dT m))(q:R n m):∃a b,PV.ref n=.ref a/\A[a]?=some (.dT b)/\R a b:=⟨n,m,rfl,h,q⟩
def qL{R:List Int->DT->Prop}(c:O8 k=some i)(h:A[n]?=some (.dT m))(q:R i m):∃a b,O8 k=some a/\A[n]?=some (.dT b)/\R a b:=⟨i,m,c,h,q⟩
def qM{R:Nat->List Int->DT->Prop}(d:O8 k=some i)(h:A[n]?=some (.dT m))(q:R n i m):∃a b c,PV.ref n=.ref a/\O8 k=some b/\A[a]?=some (.dT c)/\R a b c:=⟨n,i,m,rfl,d,h,q⟩
def qN{R:PV->Prop}(e:O8 k=some i)(h:A[n]?=some (.dT m))(f:aD m i=some v)(q:R v):∃a b c d,PV.ref n=.ref a/\O8 k=some b/\A[a]?=some (.dT c)/\aD c b=some d/\R d:=⟨n,i,m,v,rfl,e,h,f,q⟩
def fR(h:A.length=k):(A++[o])[k]?=some o:=by subst h;exact aj
def FH{P R:Prop}(h:c=false)(q:R):(c=true->P)/\(c=false->R):=⟨λz=>(by simp_all),λ_=>q⟩
def FI{P R:Prop}(h:c=true)(q:P):(c=true->P)/\(c=false->R):=by simp_all
end
def FJ(h:Wp (b σ) A QF (λc v a=>c∈d/\Wp (T2 hs c v σ) a QF E)):Wp (kj d b hs σ) A QF E:=by
 unfold Wp at h ⊢;unfold kj;cases e:b σ A with
 | ok f a=>simp_all
 | ex c v a=>
   rw[e]at h;dsimp only at h ⊢;rw[Q5 h.1];exact h.2
 | no=>simp_all
def d7(hs:bS c k=true)(h:Wp (b (σ.set i (some (.ref A.length)))) (A++[.exc c v]) (λf a=>QF (ja i f) a) E):Wp (T2 ((k,some i,b)::r) c v σ) A QF E:=by
 unfold T2;rw[if_pos hs];exact B6 (w_eq rfl (B6 h))
def O5(hs:bS c k=false)(h:Wp (T2 r c v σ) A QF E):Wp (T2 ((k,o,b)::r) c v σ) A QF E:=by
 cases o<;>(unfold T2;rw[if_neg (by rw[hs];simp)];exact h)
def FK(h:Wp (e σ) A (λx d=>∃n fs,x=.ref n/\d[n]?=some (.ins c fs)/\Wp (es σ) d (λi j=>Wp (f (.ref n::i)) j Q E) NoX) NoX):Wp (b9 c f e es σ) A Q E:=
 B6 (iC (af h λx d l=>by
  obtain⟨n,fs,m,p,o⟩:=l;subst m;exact B6 (w_eq (a:=(c,fs)) (by simp_all) (C7 rfl (B6 (iC o))))))
def vH(h:A[n]?=some (.exc c v))(f:c∈a)(q:d (c,v) A):Wp (hX n a) A d E:=by
 refine w_eq ?_ q;unfold hX;rw[h];dsimp only;rw[Q5 f];rfl
def FL(h:Wp (e σ) A (λx a=>∃n c v,x=.ref n/\a[n]?=some (.exc c v)/\c∈d/\Q v a) E):Wp (hY d e σ) A Q E:=B6 (af h λx a ⟨n,c,v,f,i,j,q⟩=>by subst f;exact B6 (vH i j q))
def FN(h:Wp (e σ) A (λx a=>∃n c v,x=.ref n/\a[n]?=some (.exc c v)/\c∈d/\Q (.bl (bS c k)) a) E):Wp (eC d e k σ) A Q E:=B6 (af h λx a ⟨n,c,v,f,i,j,q⟩=>by subst f;exact B6 (vH i j q))
def FO{A:PHp}{d:List Nat}{R:Nat->PV->Prop}(h:A[n]?=some (.exc c v))(j:c∈d)(q:R c v):∃f a i,PV.ref n=.ref f/\A[f]?=some (.exc a i)/\a∈d/\R a i:=⟨n,c,v,rfl,h,j,q⟩
end Ws
local macro_rules | `(tactic| walk_at "s1")=>`(tactic| first
 | with_reducible first
   | refine Ws.w_makeX ?_
   | refine Ws.w_callX ?_
   | refine Ws.FK ?_
   | refine Ws.FL ?_
   | refine Ws.FN ?_
   | refine Ws.w_isV ?_)
local macro_rules | `(tactic| walk_at "s3")=>`(tactic| ((with_reducible apply Ws.FO);(·walk_at "st");(·decide)))
local macro_rules | `(tactic| walk_at "s1")=>`(tactic| first
 | with_reducible first
   | refine Ws.FC ?_
   | refine Ws.Fu ?_
   | refine Ws.Fv ?_
   | refine Ws.ej ?_
   | refine Ws.Fw ?_
   | refine Ws.Ft ?_
   | refine Ws.w_lenT ?_
   | refine Ws.Fx ?_
   | refine Ws.w_tclear ?_
   | refine Ws.w_tvals ?_
   | refine Ws.w_tpop2 ?_
   | refine Ws.FA ?_
   | refine Ws.w_revL ?_
   | refine Ws.FD ?_
   | refine Ws.w_max ?_
   | refine Ws.w_maxD ?_
   | refine Ws.nN ?_
   | refine Ws.FF ?_
   | refine Ws.w_iNoX ?_
   | refine Ws.w_gNoX ?_
   | refine Ws.FG ?_)
local macro_rules | `(tactic| walk_at "s2")=>`(tactic| first
 | with_reducible first
   | refine Ws.Fq ?_
   | refine Ws.Fs ?_
   | refine Ws.Fy ?_
   | refine Ws.qJ ?_
 | ((with_reducible apply Ws.w_shr);(·omega))
 | ((with_reducible apply Ws.w_shl);(·omega))
 | ((with_reducible apply Ws.fO);(·walk_at "st"))
 | ((with_reducible apply Ws.fN);(·rfl))
 | ((with_reducible apply Ws.gK);(·walk_at "st"))
 | ((with_reducible apply Ws.gL);(·walk_at "st"))
 | ((with_reducible apply Ws.gM);(·walk_at "st")))
local macro_rules | `(tactic| walk_at "s3")=>`(tactic| first
 | ((with_reducible apply Ws.qK);(·walk_at "st"))
 | ((with_reducible apply Ws.qL);(·rfl);(·walk_at "st"))
 | ((with_reducible apply Ws.qM);(·rfl);(·walk_at "st"))
 | ((with_reducible apply Ws.qN);(·rfl);(·walk_at "st");(·first | assumption | rfl)))
local macro_rules | `(tactic| walk_at "pre")=>`(tactic| first
 | assumption
 | exact Jk _
 | (refine Ws.D4 ?_;walk_at "pre")
 | ((refine Ws.r6 ?pp ?nn);(case nn=>walk_at "ne");(case pp=>walk_at "pre"))
 | (refine List.IsPrefix.trans (by assumption) ?_;walk_at "pre"))
local macro_rules | `(tactic| walk_at "s3")=>`(tactic| ((with_reducible refine And.intro (a:=List.IsPrefix _ _) ?h1 ?_);(case h1=>walk_at "pre")))
local macro_rules | `(tactic| walk_at "s3")=>`(tactic| ((with_reducible refine And.intro (a:=_<900) ?h1 ?_);(case h1=>((simp only[Js,Kc,Ws.putFld,Nat.reduceEqDiff,if_false]);(try omega)))))
local macro_rules | `(tactic| walk_at "ne")=>`(tactic| first
 | assumption
 | omega
 | ((simp only[LO,Jo,Js,Kc]);omega))
local macro_rules | `(tactic| walk_at "st")=>`(tactic| first
 | ((with_reducible refine Ws.fR ?_);(first | rfl | ((simp only[LO,Jo,Js,Kc]);done) | ((simp only[LO,Jo,Js,Kc]);omega)))
 | ((with_reducible apply Ws.aE);walk_at "st")
 | ((with_reducible apply Ws.ai);walk_at "st")
 | ((refine(Ws.C6 ?ne).trans ?_);(case ne=>walk_at "ne");walk_at "st"))
local macro_rules | `(tactic| walk_at "br")=>`(tactic| first
 | ((with_reducible refine Ws.FH ?_ ?_);(·first | rfl | (simp;done) | decide))
 | ((with_reducible refine Ws.FI ?_ ?_);(·first | rfl | (simp;done) | decide)))
local macro_rules | `(tactic| walk_at "gb")=>`(tactic| repeat (first | walk_at "s" | walk_at "br"))
namespace Ws
def ek(h:Wp (e1 σ) A (λx c=>∃n g,x=.ref n/\c[n]?=some (.dT g)/\Wp (e2 σ) c (λk j=>Wp (e3 σ) j (λv b=>∃i m,O8 k=some i/\b[n]?=some (.dT m)/\
 (∀w,aD m i=some w->Q w b)/\(aD m i=none->m.length<LIM/\Q v (b.set n (.dT (T9 m i v))))) E) E) E):Wp (c5 e1 e2 e3 σ) A Q E:=
 B6 (af h λx c d=>by
  obtain⟨n,g,o,p,q⟩:=d;subst o;refine B6 (X6 p (B6 (af q λk j r=>B6 (af r λv b d=>?_))));obtain⟨i,m,s,u,y,l⟩:=d;rw[s];refine B6 (X6 u ?_);cases f:aD m i with
  | some w=>exact y w f
  | none=>exact C7 (l f).1 (B6 (w_eq (a:=()) rfl (l f).2)))
def eQ(h:Wp (e σ) A (λx a=>∃n l m,x=.ref n/\a[n]?=some (.lst l)/\gg l=some m/\m.length<LIM/\Q (.ref a.length) (a++[.dT (m.foldl (λb p=>T9 b p.1 p.2) [])])) E):Wp (t6 e σ) A Q E:=
 B6 (af h λx a c=>by
  obtain⟨n,l,m,d,f,g,i,q⟩:=c;subst d;refine B6 (X4 f ?_);rw[g];exact C7 i q)
def lZ(h:Wp (e1 σ) A (λx a=>Wp (e2 σ) a (λy b=>Wp (oIx x y) b Q NoX) E) NoX):Wp (eIxX e1 e2 σ) A Q E:=
 B6 (iC (af h λx a c=>B6 (af c λy b d=>iC d)))
def gN(h:Wp (e σ) A (λx a=>∃b:Bool,x=.bl b/\Q (.int (if b then 1 else 0)) a) E):Wp (kX e σ) A Q E:=
 B6 (af h λx a c=>by
  obtain⟨b,d,q⟩:=c;subst d;exact iC q)
end Ws
local macro_rules | `(tactic| walk_at "s1")=>`(tactic| first
 | with_reducible refine Ws.lZ ?_
 | with_reducible refine Ws.gN ?_
 | with_reducible refine Ws.ek ?_
 | with_reducible refine Ws.eQ ?_)
namespace Ws
section
def vI{a d:Type}(f:a->d)(b:List a)(lo c:Option Int):cut (b.map f) lo c=(cut b lo c).map f:=by
 unfold cut;rw[IK,List.map_take,OY]
end
noncomputable def Y6:List Int->Bool
 | a::b::r=>decide (a<b)&&Y6 (b::r)
 | _=>true
noncomputable def d8(n:Int)(L:List Int):Bool:=!decide (L=[])&&(L.all λh=>decide (0<=h/\h<n))&&Y6 L
theorem vJ:∀L:List Int,(((Z1 (L.map .int) ((L.drop 1).map .int)).map λv=>decide (jW v<iA v)).all id)=Y6 L
 | []=>rfl
 | [a]=>rfl
 | a::b::r=>by
   have ih:=vJ (b::r);rw[Y6,<-ih];rfl
def FP{L M:List Int}(h:v∈Z1 (L.map .int) (M.map .int)):∃a b:Int,v=.tup [.int a,.int b]:=by
 induction L generalizing M with
 | nil=>cases h
 | cons a r ih=>
   cases M with
   | nil=>cases h
   | cons b s=>
     rcases IT.mp h with z | z
     .exact⟨a,b,z⟩
     .exact ih z
def du(f:A[l]?=some (.lst (L.map .int)))(j:L.length<=1000):Wp (S8 [.ref l]) A (λv A'=>A<+:A'/\v=.bl (Y6 L)) NoX:=by
 walk_at "fn";walk_at "go";refine R6 (l:=Z1 (L.map .int) ((L.drop 1).map .int)) (λe=>∃x y,e=[x,y]) (λ_=>true) (λv=>.bl (decide (jW v<iA v))) ?_;walk_at "go";have g:cut (L.map PV.int) (some 1) none=(L.drop 1).map .int:=by rw[vI];exact congrArg _ (vD L 1)
 rw[g];have d:(A++[PO.lst ((L.drop 1).map .int)])[l]?=some _:=ai f;have c:=vz (L.map .int) ((L.drop 1).map .int);rw[IK]at c;walk_at "go";refine⟨L.length,?_,c,aI (by walk_at "o"),⟨_,_,rfl⟩,λi=>EN d aj i,?_,?_⟩
 .simp_all
 .rintro v e h ⟨x,y,rfl⟩;obtain⟨a,b,rfl⟩:=FP h;walk_at "go";refine⟨rfl,⟨_,_,rfl⟩,?_⟩;walk_at "go";refine⟨rfl,rfl,λ_=>?_⟩;walk_at "go";exact⟨rfl,rfl⟩
 .refine⟨_,(Z1 (L.map .int) ((L.drop 1).map .int)).map λv=>decide (jW v<iA v),rfl,?_,?_⟩
  .rw[aj,JZ.mpr (by simp),Ji];rfl
  .rw[vJ];exact⟨D4 (IL _ _),rfl⟩
def cW(W:cb A w r n ps)(f:A[l]?=some (.lst (L.map .int)))(g:L.length<=1000):Wp (O2 [.ref w,.ref l]) A (λv A'=>A<+:A'/\v=.bl (d8 n L)) NoX:=by
 walk_at "fn";walk_at "gb";refine⟨λc=>?_,λc=>?_⟩
 .walk_at "go";have:=of_decide_eq_true c;simp[d8,this]
 have d:=of_decide_eq_false c;walk_at "go";have j:=W.mono (IL A [PO.lst []]);have m:=j.ob;have a:(A++[PO.lst []])[l]?=some _:=ai f;refine R6 (l:=L.map .int) (λe=>∃x,e=[x,some (.ref w)]) (λ_=>true) (λv=>match v with | .int h=>.bl (decide (0<=h/\h<n)) | _=>.non) ?_;walk_at "go";refine⟨L.length,by rw[bg a];simp,by simp,by simp;exact aI (by walk_at "o"),⟨_,rfl⟩,λi=>S7 a i,?_,?_⟩
 .rintro v e o ⟨x,rfl⟩;obtain⟨h,s,rfl⟩:=IU.mp o;walk_at "go";refine⟨rfl,⟨_,rfl⟩,?_⟩;walk_at "go";refine⟨rfl,rfl,λ_=>?_⟩;walk_at "go";exact w_eq (bM _ _ _) ⟨rfl,rfl⟩
 .refine⟨_,L.map λh=>decide (0<=h/\h<n),rfl,?_,?_⟩
  .rw[aj,JZ.mpr (by simp),Ji,Ji];rfl
  .refine⟨_,rfl,λb=>?_,λb=>?_⟩
   .walk_at "go";refine af (du (ai a) g) λv u ⟨p,q⟩=>⟨(D4 (IL _ _)).trans p,?_⟩;rw[q];have:(L.all λh=>decide (0<=h/\h<n))=true:=by rw[List.all_map]at b;exact b
    simp only[d8,this,d];simp
   .refine⟨D4 (IL _ _),?_⟩;have:(L.all λh=>decide (0<=h/\h<n))=false:=by rw[List.all_map]at b;exact b
    simp only[d8,this];simp
theorem vK:∀{L:List Int},Y6 L=true->L.Pairwise (·< ·)
 | [],_=>.nil
 | [a],_=>by simp
 | a::b::r,h=>by
   rw[Y6,Jq]at h;have ih:=vK h.2;have c:=of_decide_eq_true h.1;refine JQ.mpr ⟨λx d=>?_,ih⟩;rcases IT.mp d with z | z
   .simp_all
   .have:=(JQ.mp ih).1 x z;walk_at "o"
theorem vL:∀{L:List Int},L.Pairwise (·< ·)->Y6 L=true
 | [],_=>rfl
 | [a],_=>rfl
 | a::b::r,h=>by
   rw[Y6,Jq];have c:=JQ.mp h;exact⟨decide_eq_true (c.1 b IV),vL c.2⟩
theorem qO:∀{L M:List Int},L.Pairwise (·< ·)->M.Pairwise (·< ·)->(∀x,x∈L↔x∈M)->L=M
 | [],[],_,_,_=>rfl
 | [],b::s,_,_,h=>by have:=(h b).mpr IV;cases this
 | a::r,[],_,_,h=>by have:=(h a).mp IV;cases this
 | a::r,b::s,g,i,h=>by
   have d:=JQ.mp g;have f:=JQ.mp i;have e:a=b:=by
    have j:=(h a).mp IV;have l:=(h b).mpr IV;rcases IT.mp j with z | z
    .walk_at "o"
    .rcases IT.mp l with y | y
     .exact y.symm
     .have:=f.1 a z;have:=d.1 b y;walk_at "o"
   subst e;rw[qO d.2 f.2 λx=>⟨λc=>?_,λc=>?_⟩]
   .rcases IT.mp ((h x).mp (IZ _ c))with z | z
    .have:=d.1 x c;walk_at "o"
    .walk_at "o"
   .rcases IT.mp ((h x).mpr (IZ _ c))with z | z
    .have:=f.1 x c;walk_at "o"
    .walk_at "o"
def lead_iff{N:Nat}:d8 N L=true↔L=(S9 N).filter (λh=>decide (h∈L))/\L≠[]:=by
 unfold d8;constructor
 .intro h;rw[Jq,Jq]at h;refine⟨qO (vK h.2) ((d6 N).filter _) λx=>?_,by simpa using h.1.1⟩;have c:=Jy.mp h.1.2;rw[JP,mem_hands];exact⟨λa=>⟨of_decide_eq_true (c x a),decide_eq_true a⟩,λa=>of_decide_eq_true a.2⟩
 .rintro⟨h,b⟩;have d:L.Pairwise (·< ·):=by rw[h];exact(d6 N).filter _
  rw[Jq,Jq];refine⟨⟨by simpa using b,Jy.mpr λx a=>?_⟩,vL d⟩;rw[h,JP]at a;exact decide_eq_true (mem_hands.mp a.1)
def FQ(c:0<=a/\a<10)(d:0<=b/\b<10):[a,b]∈small:=by
 unfold small;rw[List.mem_flatten];refine⟨_,IU.mpr ⟨a.toNat,Kr.mpr (by walk_at "o"),rfl⟩,IU.mpr ⟨b.toNat,Kr.mpr (by walk_at "o"),?_⟩⟩;rw[NT c.1,NT d.1]
def n9(h:l2 p=l2 q):p=q:=by
 obtain⟨a,b⟩:=p;simp[l2]at h;simp[h]
noncomputable def cn(m:DT)(p:Int×Int):Int:=match aD m (l2 p)with
 | some (.int z)=>z
 | _=>0
noncomputable def limD(a:List (Int×Int))(f:Int×Int->Int):DT:=a.map λp=>(l2 p,PV.int (f p))
def vM(a:List (Int×Int))(f:Int×Int->Int):(limD a f).map (·.1)=a.map l2:=by unfold limD;rw[Ji];rfl
def vN(h:d.Nodup):((limD d f).map (·.1)).Nodup:=by
 rw[vM];exact NC.map _ (λa b c z=>c (n9 z)) h
def vO(h:a.Nodup)(b:p∈a):aD (limD a f) (l2 p)=some (.int (f p)):=FE (vN h) (IU.mpr ⟨p,b,rfl⟩)
def FR(e:n<=6)(b:∀p∈a,good n p):∀p∈limD a f,p.1∈small:=λp c=>by
 obtain⟨q,d,rfl⟩:=IU.mp c;have:=b q d;exact FQ ⟨this.1.1,by have:=this.1.2;walk_at "o"⟩ ⟨this.2.1.1,by have:=this.2.1.2;walk_at "o"⟩
def FT(b:p∉a):T9 (limD a f) (l2 p) (.int (f p))=limD (a++[p]) f:=by
 rw[i9]
 .simp[limD]
 .rw[vM];intro z;obtain⟨q,c,e⟩:=IU.mp z;rw[<-n9 e]at b;exact b c
structure cc(A:PHp)(P w r:Nat)(n:Int)(ps:List (Int×Int))(L:List Int)(f:Int×Int->Int)(ll dl dk:Nat):Prop where
 web:cb A w r n ps
 ob:A[P]?=some (.ins 1 [(3,.ref w),(4,.ref ll),(5,.ref dl),(9,.tup (L.map .int)),(10,.ref dk)])
 ls:A[ll]?=some (.lst (L.map .int))
 ld:A[dl]?=some (.dT (limD (srt ps) f))
 lk:A[dk]?=some (.dT (limD (srt ps) f))
def cc.mono{ps:List (Int×Int)}{L:List Int}{f:Int×Int->Int}{a dl b:Nat}(h:cc A P w r n ps L f a dl b)(e:A<+:B):cc B P w r n ps L f a dl b:=
 ⟨h.web.mono e,ag e h.ob,ag e h.ls,ag e h.ld,ag e h.lk⟩
def FU(h:0<=z)(A:PHp):Q7 [.int z] A=.ok (.bl true) A:=by simp[Q7,h]
def dZ(h:ps.Nodup):(srt ps).Nodup:=(L8 ps).nodup_iff.mpr h
def gO(W:cb A w r n ps)(hd:A[d]?=some (.dT m))(D:ps.Nodup)(N:ps.length<64)(U:∀p∈ps,∃z,0<=z/\aD m (l2 p)=some (.int z))
 (O:A<+:B) (Y:A.length<=k) (hB:B[k]?=some (.dT [])) (E:P≠k)  (hP:B[P]?=some G) :
 Wp (U7 [some (.ref P),some (.ref w),some (.ref l),some (.ref d),some (.ref k),none]) B (λo a=>(∃x,o=.nx [some (.ref P),some (.ref w),some (.ref l),some (.ref d),some (.ref k),x])/\A<+:a/\a[P]?=some G/\a.length=B.length/\a[k]?=some (.dT (limD (srt ps) (cn m)))) NoX:=by
 have hs:∀p∈srt ps,p∈ps:=λp c=>(L8 ps).mem_iff.mp c;refine qu (λi C a=>(∃x,C=[some (.ref P),some (.ref w),some (.ref l),some (.ref d),some (.ref k),x])/\A<+:a/\a[P]?=some G/\a.length=B.length/\a[k]?=some (.dT (limD ((srt ps).take i) (cn m)))) ?_;have Q:=W.mono O;have a3:=Q.ob;have a4:=Q.ls;walk_at "go";refine⟨r,aL _,rfl,⟨⟨_,rfl⟩,O,hP,rfl,hB⟩,λi C a ⟨_,h,_⟩=>K8 (W.mono h).ls,?_,?_⟩
 .rintro i v C B1 q ⟨⟨x,rfl⟩,p1,f,g,b⟩;simp only[aL,Jm]at q;cases c:(srt ps)[i]? with
  | none=>rw[c]at q;cases q
  | some p=>
    rw[c]at q;cases q;have s:=JD c;have tk:(srt ps).take (i+1)=(srt ps).take i++[p]:=by rw[LJ,c];rfl
    unfold U6;walk_at "go";obtain⟨z,hz,T⟩:=U p (hs p s);have H:aD m [p.1,p.2]=some _:=T;rw[H];refine w_eq (FU hz _) ?_;walk_at "gb";have u:p∉(srt ps).take i:=by
     intro I;have J:=(IW.mp c).1;obtain⟨j,hj,e⟩:=KS.mp I;rw[KG]at hj;rw[List.getElem_take]at e;have e2:=(IW.mp c).2;exact Lf.mp (dZ D) j i _ J (by walk_at "o") (e.trans e2.symm)
    have y:cn m p=z:=by unfold cn;rw[T]
    refine⟨?_,?_⟩
    .refine aX ?_;rw[limD,IK,KG];have:=(L8 ps).length_eq;walk_at "o"
    .refine⟨⟨_,rfl⟩,r6 p1 Y,by rw[C6 E];exact f,by simpa using g,?_⟩;rw[aE b,tk,<-FT u,y];rfl
 .rintro C B1 ⟨⟨x,rfl⟩,p1,f,g,b⟩;rw[aL,IK,LW]at b;exact⟨⟨x,rfl⟩,p1,f,g,b⟩
def eR(W:cb A w r n ps)(f:A[l]?=some (.lst (L.map .int)))(D:L.length<=1000)(E:A[d]?=some (.dT m))(a:J4 n ps)(g:d8 n L=true)(G:∀p∈ps,∃z,0<=z/\aD m (l2 p)=some (.int z)) :
 Wp (N5 [.ref A.length,.ref w,.ref l,.ref d]) (A++[.ins 1 []]) (λv A'=>v=.non/\A<+:A'/\∃q dl s,cc A' A.length w r n ps L (cn m) q dl s/\A.length<q/\A.length<dl/\A.length<s) NoX:=by
 unfold N5;walk_at "fn";have h:A<+:A++[PO.ins 1 []]:=IL _ _;walk_at "go";refine af (cW (W.mono h) (ag h f) D) λv b H=>?_;obtain⟨p1,I⟩:=H;subst I;have c:b[A.length]?=some (.ins 1 []):=ag p1 aj;have i:A<+:b:=h.trans p1;have e:=C5 c;rw[g];walk_at "gb";refine af (gO (l:=l) (P:=A.length) (k:=b.length) W E a.nd a.len G (D4 i) (by walk_at "o") aj (by walk_at "o") (ai c)) λo B ⟨⟨x,J⟩,u,N,j,O⟩=>?_;subst J;have y:B.length=b.length+1:=by rw[j];simp
 have Y:=W.mono u;have C:=ag u f;have Q:=C5 f;have T:((limD (srt ps) (cn m)).map (·.1)).Nodup/\∀p∈limD (srt ps) (cn m),p.1∈small:=⟨vN (dZ a.nd),FR a.hi λp U=>a.good p ((L8 ps).mem_iff.mp U)⟩;walk_at "go";simp only[putFld,Nat.reduceEqDiff,if_false,LO,Jo,Js,Kc,PR];refine⟨trivial,?pre,B.length,B.length+1,b.length,⟨W.mono ?pre,?ob,?ls,?ld,?lk⟩,?_,?_,e⟩
 case pre=>walk_at "pre"
 case ob=>walk_at "st"
 case ls=>walk_at "st"
 case ld=>walk_at "st"
 case lk=>walk_at "st"
 .walk_at "o"
 .walk_at "o"
def qP(o:PO):A<+:A++[o]:=IL _ _
def vP(h:c≠[]):atI (c.map PV.int) (-1)=some (.int (c.getLast h)):=by
 have a:0<c.length:=Lu.mpr h;unfold atI ixN;rw[if_neg (by walk_at "o"),IK,if_pos (by walk_at "o")];show(c.map PV.int)[((-1:Int)+c.length).toNat]?=_;rw[show((-1:Int)+c.length).toNat=c.length - 1 by walk_at "o",Jm,<-Ot,LP h];rfl
section
variable{A:PHp}{N:Nat}{ps:List (Int×Int)}
def iD(N:Nat)(ps:List (Int×Int))(ld c:List Int):Prop:=(∃h:c≠[],c.getLast h∈ld)/\c.Nodup/\(∀x∈c,0<=x/\x<N)/\∀(i:Nat) a b,c[i]?=some a->c[i+1]?=some b->(a,b)∈ps
def dv(h:c≠[]):¬(T6 (c.map PV.int).length 0 (some 1)=0/\T6 (c.map PV.int).length (c.map PV.int).length none=(c.map PV.int).length):=by
 have:0<c.length:=Lu.mpr h;unfold T6;rw[IK];intro z;have:=z.1;simp at this;walk_at "o"
def en(c:List PV):cut c (some 1) none=c.drop 1:=by
 have:=vD c 1;exact this
def all_map{a:Type}(f:a->Bool)(l:List a):((l.map f).all id=true)↔∀x∈l,f x=true:=by simp
theorem vQ:∀(c:List Int),Z1 (c.map PV.int) ((c.map PV.int).drop 1)=(c.zip (c.drop 1)).map pv
 | []=>rfl
 | [a]=>rfl
 | a::b::r=>by
   have ih:=vQ (b::r);simp only[Jn,List.drop_succ_cons,List.drop_zero,Z1,List.zip_cons_cons,Jn]at ih ⊢;exact congrArg _ ih
def mem_steps{c:List Int}:(a,b)∈c.zip (c.drop 1)↔∃i:Nat,c[i]?=some a/\c[i+1]?=some b:=by
 rw[List.mem_iff_getElem?];constructor
 .rintro⟨i,h⟩;rw[Ou]at h;exact⟨i,h.1,by rw[<-h.2,List.getElem?_drop,Nat.add_comm]⟩
 .rintro⟨i,d,e⟩;refine⟨i,?_⟩;rw[Ou];exact⟨d,by rw[List.getElem?_drop,Nat.add_comm];exact e⟩
def eS{ld c:List Int}(W:cb A w r N ps)(hc:c.length<100) :
 Wp (Q8 [.ref w,.tup (ld.map .int),.tup (c.map .int)]) A (λv A'=>A<+:A'/\∃b,v=.bl b/\(b=true↔iD N ps ld c)) NoX:=by
 unfold Q8;have H:=W.ob;have I:=W.ls;walk_at "fn";walk_at "go";refine⟨λj=>?_,λj=>?_⟩
 .walk_at "go";refine⟨λz=>(nomatch z),λz=>?_⟩;obtain⟨⟨h,_⟩,_⟩:=z;exact absurd (of_decide_eq_true j) h
 have e:c≠[]:=of_decide_eq_false j;have n:=vP e;walk_at "go";refine⟨λf=>?_,λf=>?_⟩
 .walk_at "go";refine⟨λz=>(nomatch z),λz=>?_⟩;obtain⟨⟨h,o⟩,_⟩:=z;simp[o]at f
 have q:c.getLast e∈ld:=by simpa using f
 walk_at "go";refine⟨λg=>?_,λg=>?_⟩
 .walk_at "go";refine⟨λz=>(nomatch z),λz=>?_⟩;have:=(tm c).mp (by have:=of_decide_eq_true g;walk_at "o");exact absurd z.2.1 this
 have s:c.Nodup:=by
  by_cases z:c.Nodup
  .exact z
  .have:=(tm c).mpr z;have:=of_decide_eq_false g;walk_at "o"
 walk_at "go";unfold bB;refine R6 (l:=c.map .int) (λm=>∃x,m=[x,some (.ref w)]) (λ_=>true) (λv=>.bl (match v with | .int x=>decide (0<=x/\x<N) | _=>false)) ?_;walk_at "go";refine⟨⟨_,rfl⟩,λi=>rfl,?_,?_⟩
 .rintro v m u ⟨x,rfl⟩;obtain⟨y,J,rfl⟩:=IU.mp u;walk_at "go";refine⟨rfl,⟨_,rfl⟩,?_⟩;walk_at "go";refine⟨rfl,rfl,λ_=>?_⟩;walk_at "go";exact w_eq (bM N y A) ⟨rfl,rfl⟩
 have G:((c.map PV.int).filter λ_=>true).map (λv=>PV.bl (match v with | .int x=>decide (0<=x/\x<N) | _=>false))=(c.map λx=>decide (0<=x/\x<(N:Int))).map PV.bl:=by
  rw[JZ.mpr (by simp),Ji,Ji];rfl
 refine⟨_,_,rfl,by rw[aj,G],?_⟩;walk_at "go";refine⟨λd=>?_,λd=>?_⟩
 .walk_at "go";refine⟨λz=>(nomatch z),λz=>?_⟩;have:((c.map λx=>decide (0<=x/\x<(N:Int))).all id)=true:=(all_map _ _).mpr λx B=>decide_eq_true (z.2.2.1 x B);rw[this]at d;cases d
 have C:∀x∈c,0<=x/\x<(N:Int):=by
  have:((c.map λx=>decide (0<=x/\x<(N:Int))).all id)=true:=by
   cases z:((c.map λx=>decide (0<=x/\x<(N:Int))).all id)with
   | true=>rfl
   | false=>rw[z]at d;cases d
  exact λx B=>of_decide_eq_true ((all_map _ _).mp this x B)
 rw[G];generalize D:A++[PO.lst ((c.map λx=>decide (0<=x/\x<(N:Int))).map PV.bl)]=L;have p1:A<+:L:=by rw[<-D];exact qP _
 have O:=ag p1 H;have Q:=ag p1 I;walk_at "go";unfold bC;refine R6 (l:=(c.zip (c.drop 1)).map pv) (λm=>∃x,m=[x,some (.ref w)]) (λ_=>true) (λv=>.bl (decide ((jW v,iA v)∈srt ps))) ?_;walk_at "go";refine⟨dv e,?_⟩;walk_at "go";refine⟨by simp,aI (by simp;walk_at "o"),⟨_,rfl⟩,λi=>by rw[EM,en,vQ],?_,?_⟩
 .rintro v m u ⟨x,rfl⟩;obtain⟨y,J,rfl⟩:=IU.mp u;walk_at "go";refine⟨rfl,⟨_,rfl⟩,?_⟩;walk_at "go";refine⟨rfl,rfl,λ_=>?_⟩;unfold pv;walk_at "go";exact⟨rfl,rfl⟩
 have T:(((c.zip (c.drop 1)).map pv).filter λ_=>true).map (λv=>PV.bl (decide ((jW v,iA v)∈srt ps)))=((c.zip (c.drop 1)).map λp=>decide (p∈srt ps)).map PV.bl:=by
  rw[JZ.mpr (by simp),Ji,Ji];rfl
 refine⟨_,_,rfl,by rw[aj,T],?_⟩;refine⟨p1.trans (qP _),_,rfl,?_⟩;rw[all_map];constructor
 .intro h;refine⟨⟨e,q⟩,s,C,λi a b U j=>?_⟩;exact(L8 ps).mem_iff.mp (of_decide_eq_true (h (a,b) (mem_steps.mpr ⟨i,U,j⟩)))
 .rintro⟨_,_,_,h⟩ ⟨a,b⟩ E;obtain⟨i,o,Y⟩:=mem_steps.mp E;exact decide_eq_true ((L8 ps).mem_iff.mpr (h i a b o Y))
end
structure LS where
 now:Int
 lays:List ((Int×Int)×Int)
 says:List ((Int×Int)×Nat×List (Int×List Int))
 first:List (List Int×Int)
 m:Nat
structure bT where
 N:Nat
 ps:List (Int×Int)
 L:List Int
 f:Int×Int->Int
 fr:List Int
 P:Nat
 w:Nat
 r:Nat
 ll:Nat
 dl:Nat
 dk:Nat
 G:Nat
noncomputable def rowS(q:Int×List Int):PV:=.tup [.int q.1,.tup (q.2.map .int)]
noncomputable def aR(S:LS):DT:=S.lays.map λp=>(l2 p.1,PV.int p.2)
noncomputable def W5(S:LS):DT:=S.says.map λp=>(l2 p.1,PV.ref p.2.1)
noncomputable def X7(S:LS):DT:=S.first.map λp=>(p.1,PV.int p.2)
noncomputable def sadr(S:LS):List Nat:=S.says.map λe=>e.2.1
noncomputable def own(c:bT)(S:LS):List Nat:=c.G::(c.G+2)::(c.G+3)::(c.G+4)::sadr S
noncomputable def dom(c:bT)(S:LS):List Nat:=c.P::c.w::c.r::c.ll::c.dl::c.dk::(c.G+1)::own c S
structure bc(A:PHp)(c:bT)(S:LS):Prop where
 plan:cc A c.P c.w c.r c.N c.ps c.L c.f c.ll c.dl c.dk
 ob:A[c.G]?=some (.ins 2 [(6,.ref c.P),(7,.ref (c.G+1)),(11,.tup (c.fr.map .int)),(12,.int S.now),(13,.ref (c.G+2)),(14,.ref (c.G+3)),(15,.ref (c.G+4))])
 fl:A[c.G+1]?=some (.lst (c.fr.map .int))
 tl:A[c.G+2]?=some (.dT (aR S))
 sl:A[c.G+3]?=some (.dT (W5 S))
 ul:A[c.G+4]?=some (.dT (X7 S))
 rows:∀e∈S.says,A[e.2.1]?=some (.lst (e.2.2.map rowS))
 lt:c.P<c.G/\c.w<c.G/\c.r<c.G/\c.ll<c.G/\c.dl<c.G/\c.dk<c.G
 hi:∀a∈sadr S,c.G+4<a
 an:(sadr S).Nodup
 kn:(S.says.map (·.1)).Nodup
 ln:(S.lays.map (·.1)).Nodup
 lp:∀p∈S.lays.map (·.1),p∈c.ps
 pg:J4 c.N c.ps
 sz:S.m<=2000/\S.says.length<=S.m/\S.first.length<=S.m/\∀e∈S.says,e.2.2.length<=S.m
def bc.keep(h:bc A c S)(k:∀a∈dom c S,∀o,A[a]?=some o->B[a]?=some o):bc B c S:=by
 have b:∀a,a∈[c.P,c.w,c.r,c.ll,c.dl,c.dk,c.G+1,c.G,c.G+2,c.G+3,c.G+4]->a∈dom c S:=λa d=>by
  simp only[IT,JT,or_false]at d;simp only[dom,own,IT];rcases d with z | z | z | z | z | z | z | z | z | z | z<;>simp[z]
 refine⟨⟨⟨k _ (b _ (by simp)) _ h.plan.web.ob,k _ (b _ (by simp)) _ h.plan.web.ls⟩,k _ (b _ (by simp)) _ h.plan.ob,k _ (b _ (by simp)) _ h.plan.ls,k _ (b _ (by simp)) _ h.plan.ld,k _ (b _ (by simp)) _ h.plan.lk⟩,k _ (b _ (by simp)) _ h.ob,k _ (b _ (by simp)) _ h.fl,k _ (b _ (by simp)) _ h.tl,k _ (b _ (by simp)) _ h.sl,k _ (b _ (by simp)) _ h.ul,λe f=>?_,h.lt,h.hi,h.an,h.kn,h.ln,h.lp,h.pg,h.sz⟩;refine k _ ?_ _ (h.rows e f);simp only[dom,own];have:_∈sadr S:=IU.mpr ⟨e,f,rfl⟩;simp[this]
def bc.mono(h:bc A c S)(e:A<+:B):bc B c S:=h.keep λa _ o q=>ag e q
def bc.dlt(h:bc A c S):∀a∈dom c S,a<A.length:=λa b=>by
 simp only[dom,own,IT]at b;have f:=C5 h.ul;have g:=h.lt;rcases b with z | z | z | z | z | z | z | z | z | z | z | z
 .walk_at "o"
 .walk_at "o"
 .walk_at "o"
 .walk_at "o"
 .walk_at "o"
 .walk_at "o"
 .walk_at "o"
 .walk_at "o"
 .walk_at "o"
 .walk_at "o"
 .walk_at "o"
 .obtain⟨e,d,rfl⟩:=IU.mp z;exact C5 (h.rows e d)
def bc.set(h:bc A c S)(b:k∉dom c S):bc (A.set k o) c S:=
 h.keep λa d u q=>(C6 (λz=>b (by rw[<-z];exact d))).trans q
structure cF(c:bT)(S S':LS)(A A':PHp):Prop where
 len:A.length<=A'.length
 keep:∀a o,A[a]?=some o->a∉own c S->A'[a]?=some o
 new:∀a∈sadr S',a∈sadr S\/A.length<=a
def cF.pre(h:A<+:A'):cF c S S A A':=⟨h.length_le,λa o q _=>ag h q,λa h=>.inl h⟩
def cF.refl:cF c S S A A:=.pre (Jk _)
def qQ(h:cF c S b A A')(e:a<A.length)(d:a∉own c S):a∉own c b:=λz=>d (by
 simp only[own,IT]at z ⊢;rcases z with z | z | z | z | z
 .simp[z]
 .simp[z]
 .simp[z]
 .simp[z]
 .rcases h.new a z with z | z
  .simp[z]
  .omega)
def cF.trans(h:cF c S e A A')(h':cF c e b A' d):cF c S b A d:=
 ⟨Jt h.len h'.len,λa o q n=>h'.keep a o (h.keep a o q n) (qQ h (C5 q) n),λa f=>by
  rcases h'.new a f with z | z
  .exact h.new a z
  .exact .inr (Jt h.len z)⟩
section
variable{A:PHp}{c:bT}{S:LS}
def gP(H:bc A c S):Wp (O3 [.ref c.G]) A (λv d=>v=.non/\bc d c { S with now:=S.now+1 }/\cF c S { S with now:=S.now+1 } A d) NoX:=by
 have g:=H.ob;walk_at "fn";walk_at "gb";have i:=H.lt;have k:∀a o,A[a]?=some o->a≠c.G->(A.set c.G (PO.ins 2 (putFld 12 (PV.int (S.now+1)) [(6,.ref c.P),(7,.ref (c.G+1)),(11,.tup (c.fr.map .int)),(12,.int S.now),(13,.ref (c.G+2)),(14,.ref (c.G+3)),(15,.ref (c.G+4))])))[a]?=some o:=λa o q n=>(C6 n).trans q;refine⟨trivial,⟨⟨⟨k _ _ H.plan.web.ob (by walk_at "o"),k _ _ H.plan.web.ls (by walk_at "o")⟩,k _ _ H.plan.ob (by walk_at "o"),k _ _ H.plan.ls (by walk_at "o"),k _ _ H.plan.ld (by walk_at "o"),k _ _ H.plan.lk (by walk_at "o")⟩,aE g,k _ _ H.fl (by simp),k _ _ H.tl (by simp),k _ _ H.sl (by simp),k _ _ H.ul (by simp),λe f=>k _ _ (H.rows e f) ?_,H.lt,H.hi,H.an,H.kn,H.ln,H.lp,H.pg,H.sz⟩,⟨by simp,λa o q n=>k a o q (λz=>n (by rw[z];exact IV)),λa h=>.inl h⟩⟩;have:=H.hi _ (IU.mpr ⟨e,f,rfl⟩);walk_at "o"
def qR{N:Nat}(W:cb A w r N ps)(b:J4 N ps)(p:Int×Int):Wp (d4 [.ref w,pv p]) A (λv d=>v=.bl (decide (p∈ps))/\d=A) NoX:=by
 have f:=W.ob;have e:=W.ls;walk_at "fn";walk_at "gb";refine w_eq (l8 _ _ _) ⟨_,rfl,λa=>?_,λa=>?_⟩
 .walk_at "gb";refine iB e ?_;exact⟨by simp[(L8 ps).mem_iff],rfl⟩
 .refine⟨?_,rfl⟩;have:p∉ps:=λz=>by have:=b.good p z;simp[this]at a
  simp[this]
noncomputable def o0(p:Int×Int):PV:=.tup [.str "lay",pv p]
noncomputable def o4(p:Int×Int)(ch:List Int):PV:=.tup [.str "say",pv p,.tup (ch.map .int)]
def FV(H:bc A c S)(p:Int×Int):Wp (M6 [.ref c.P,o0 p]) A (λv b=>v=.bl (decide (p∈c.ps))/\b=A) NoX:=by
 unfold M6 o0;have e:=H.plan.ob;walk_at "fn";walk_at "gb";refine af (qR H.plan.web H.pg p) λv f d=>?_;obtain⟨rfl,rfl⟩:=d;walk_at "gb";refine⟨λa=>?_,λa=>?_⟩
 .walk_at "gb";have:p∉c.ps:=by simpa using a
  simp[this]
 .walk_at "gb";have:p∈c.ps:=by simpa using a
  simp[this]
def fS(H:bc A c S)(h:ch.length<100):Wp (M5 [.ref c.P,.tup (ch.map .int)]) A (λv A'=>A<+:A'/\∃b,v=.bl b/\(b=true↔iD c.N c.ps c.L ch)) NoX:=by
 unfold M5;have e:=H.plan.ob;have q:=H.plan.web.ob;walk_at "fn";walk_at "gb";unfold Q9;refine R6 (l:=ch.map .int) (λf=>∃x,f=[x,some (.ref c.P)]) (λ_=>true) (λv=>.bl (match v with | .int x=>decide (0<=x/\x<(c.N:Int)) | _=>false)) ?_;walk_at "go";refine⟨⟨_,rfl⟩,λi=>rfl,?_,?_⟩
 .rintro v f j ⟨x,rfl⟩;obtain⟨y,r,rfl⟩:=IU.mp j;walk_at "go";refine⟨rfl,⟨_,rfl⟩,?_⟩;walk_at "go";refine⟨rfl,rfl,λ_=>?_⟩;walk_at "go";exact w_eq (bM c.N y A) ⟨rfl,rfl⟩
 have g:((ch.map PV.int).filter λ_=>true).map (λv=>PV.bl (match v with | .int x=>decide (0<=x/\x<(c.N:Int)) | _=>false))=(ch.map λx=>decide (0<=x/\x<(c.N:Int))).map PV.bl:=by
  rw[JZ.mpr (by simp),Ji,Ji];rfl
 refine⟨_,_,rfl,by rw[aj,g],?_⟩;walk_at "go";refine⟨λa=>?_,λa=>?_⟩
 .walk_at "gb";refine⟨λz=>(nomatch z),λz=>?_⟩;have:((ch.map λx=>decide (0<=x/\x<(c.N:Int))).all id)=true:=(all_map _ _).mpr λx m=>decide_eq_true (z.2.2.1 x m);rw[this]at a;cases a
 .rw[g];generalize d:A++[PO.lst ((ch.map λx=>decide (0<=x/\x<(c.N:Int))).map PV.bl)]=n;have p1:A<+:n:=by rw[<-d];exact qP _
  have e:=ag p1 e;walk_at "gb";refine af (eS (H.plan.web.mono p1) h) λv s o=>?_;obtain⟨p,b,rfl,a⟩:=o;exact⟨p1.trans p,b,rfl,a⟩
def qS{ch:List Int}(h:ch.head?=some x):atI (ch.map PV.int) 0=some (.int x):=by
 cases ch with
 | nil=>cases h
 | cons a r=>cases h;unfold atI ixN;simp
def FW(H:bc A c S)(p:Int×Int)(l:ch.length<100):Wp (M6 [.ref c.P,o4 p ch]) A (λv A'=>A<+:A'/\∃b,v=.bl b/\(b=true↔p∈c.ps/\iD c.N c.ps c.L ch/\ch.head?=some p.2)) NoX:=by
 unfold M6 o4;have o:=H.plan.ob;walk_at "fn";walk_at "gb";refine af (qR H.plan.web H.pg p) λv q g=>?_;obtain⟨rfl,rfl⟩:=g;walk_at "gb";refine⟨λd=>?_,λd=>?_⟩
 .walk_at "gb";have:p∉c.ps:=by simpa using d
  simp[this]
 .have m:p∈c.ps:=by simpa using d
  walk_at "gb";refine af (fS H l) λv s g=>?_;obtain⟨n,b,rfl,d⟩:=g;refine⟨b,rfl,λh=>?_,λe=>?_⟩
  .have f:=d.mp h;obtain⟨x,j⟩:∃x,ch.head?=some x:=by
    obtain⟨⟨i,_⟩,_⟩:=f;cases ch with
    | nil=>exact absurd rfl i
    | cons a r=>exact⟨a,rfl⟩
   have u:=qS j;unfold pv;walk_at "gb";rw[j];simp[m,f]
  .refine⟨n,false,rfl,λz=>(nomatch z),λz=>?_⟩;rw[d.mpr z.2.1]at e;cases e
end
noncomputable def look{a b:Type}[DecidableEq a]:List (a×b)->a->Option b
 | [],_=>none
 | e::r,k=>if e.1=k then some e.2 else look r k
noncomputable def K0(S:LS)(p:Int×Int):Option Int:=look S.lays p
noncomputable def X8(S:LS)(ch:List Int):Option Int:=look S.first ch
noncomputable def P9(S:LS)(p:Int×Int):Option (Nat×List (Int×List Int)):=look S.says p
noncomputable def rowsAt(S:LS)(p:Int×Int):List (Int×List Int):=((P9 S p).map (·.2)).getD []
theorem nO{a:Type}(f:a->PV):∀(l:List ((Int×Int)×a))(p:Int×Int),aD (l.map λe=>(l2 e.1,f e.2)) (l2 p)=(look l p).map f
 | [],_=>rfl
 | e::r,p=>by
   show(if l2 e.1=l2 p then some (f e.2) else aD (r.map _) (l2 p))=(if e.1=p then some e.2 else look r p).map f;by_cases h:e.1=p
   .rw[if_pos (by rw[h]),if_pos h];rfl
   .rw[if_neg (λz=>h (n9 z)),if_neg h];exact nO f r p
theorem vR{a:Type}(f:a->PV):∀(l:List (List Int×a))(p:List Int),aD (l.map λe=>(e.1,f e.2)) p=(look l p).map f
 | [],_=>rfl
 | e::r,p=>by
   show(if e.1=p then some (f e.2) else aD (r.map _) p)=(if e.1=p then some e.2 else look r p).map f;by_cases h:e.1=p
   .rw[if_pos h,if_pos h];rfl
   .rw[if_neg h,if_neg h];exact vR f r p
def nP(S:LS)(p:Int×Int):aD (aR S) (l2 p)=(K0 S p).map .int:=nO _ _ _
def y9(S:LS)(ch:List Int):aD (X7 S) ch=(X8 S ch).map .int:=vR _ _ _
def vS(S:LS)(p:Int×Int):aD (W5 S) (l2 p)=(P9 S p).map λe=>.ref e.1:=nO (λe:Nat×List _=>PV.ref e.1) _ _
section
variable{α β:Type}[DecidableEq α]
theorem U9:∀{l:List (α×β)}{k:α}{v:β},look l k=some v->(k,v)∈l
 | e::r,k,v,h=>by
   unfold look at h;by_cases c:e.1=k
   .rw[if_pos c]at h;cases h;rw[<-c];exact IV
   .rw[if_neg c]at h;exact IZ _ (U9 h)
theorem qT:∀{l:List (α×β)}{k:α}{v:β},(l.map (·.1)).Nodup->(k,v)∈l->look l k=some v
 | e::r,k,v,b,h=>by
   have a:=KA.mp b;unfold look;rcases IT.mp h with z | z
   .rw[<-z,if_pos rfl]
   .rw[if_neg (λq=>a.1 (by show e.1∈_;rw[q];exact IU.mpr ⟨_,z,rfl⟩)),qT a.2 z]
theorem look_none:∀{l:List (α×β)}{k:α},look l k=none↔k∉l.map (·.1)
 | [],k=>by simp[look]
 | e::r,k=>by
   unfold look;by_cases c:e.1=k
   .rw[if_pos c];simp[c]
   .rw[if_neg c,look_none];have:k≠e.1:=λz=>c z.symm;simp[this]
def vT{l m:List (α×β)}{k:α}:look (l++m) k=(look l k).or (look m k):=by
 induction l with
 | nil=>rfl
 | cons e r ih=>
   show(if e.1=k then some e.2 else look (r++m) k)=(if e.1=k then some e.2 else look r k).or _;by_cases c:e.1=k
   .rw[if_pos c,if_pos c];rfl
   .rw[if_neg c,if_neg c,ih]
def vU{k j:α}{v:β}:look [(k,v)] j=if k=j then some v else none:=rfl
end
noncomputable def bp(S:LS)(p:Int×Int):Bool:=match K0 S p with
 | some t=>decide (t<S.now)
 | none=>false
noncomputable def ma(c:bT)(S:LS)(p:Int×Int)(ch:List Int):Bool:=decide (c.f p+ch.length<S.now)
noncomputable def o5(a ch:List Int):List Int:=(ch.drop 1).dropWhile λh=>decide (h∈a)
noncomputable def dF(S:LS)(ch:List Int):Bool:=match X8 S ch with
 | some t=>decide (t<S.now)
 | none=>false
noncomputable def canB(c:bT)(S:LS)(ch:List Int):Bool:=decide (o5 c.fr ch=[])||dF S (o5 c.fr ch)
open Classical in
noncomputable def Z2(c:bT)(S:LS)(p:Int×Int):Nat:=if p∈c.ps then(if(K0 S p).isSome=true then 13 else 0) else 12
open Classical in
def V0(c:bT)(S:LS)(p:Int×Int)(ch:List Int):Nat:=
 if p∈c.ps/\iD c.N c.ps c.L ch/\ch.head?=some p.2 then(if bp S p=true then(if ma c S p ch=true then 15 else if canB c S ch=true then 0 else 16) else 14) else 12
noncomputable def X9(S:LS)(p:Int×Int):LS:={ S with lays:=S.lays++[(p,S.now)] }
noncomputable def M7(S:LS)(p:Int×Int)(ch:List Int):(Int×Int)×Nat×List (Int×List Int)->(Int×Int)×Nat×List (Int×List Int):=λe=>if e.1=p then(e.1,e.2.1,e.2.2++[(S.now,ch)]) else e
noncomputable def P2(S:LS)(p:Int×Int)(ch:List Int)(a:Nat):LS:=
 { S with says:=if(P9 S p).isSome=true then S.says.map (M7 S p ch) else S.says++[(p,a,[(S.now,ch)])],
          first:=if(X8 S ch).isSome=true then S.first else S.first++[(ch,S.now)],m:=S.m+1 }
def qU(p:Int×Int):O8 (pv p)=some (l2 p):=rfl
def kH(ch:List Int):O8 (.tup (ch.map .int))=some ch:=O7 ch
def fU(H:bc A c S)(p:Int×Int):Wp (G1 [.ref c.G,pv p]) A (λv e=>v=.bl (bp S p)/\e=A) NoX:=by
 have f:=H.ob;have g:=H.tl;walk_at "fn";walk_at "gb";have b:aD _ [p.1,p.2]=(K0 S p).map .int:=nP S p;refine⟨λa=>?_,λa=>?_⟩
 .rw[b]at a;obtain⟨t,d⟩:∃t,K0 S p=some t:=by
   cases h:K0 S p with
   | none=>rw[h]at a;cases a
   | some t=>exact⟨t,rfl⟩
  rw[d]at b;walk_at "gb";exact⟨by unfold bp;rw[d],rfl⟩
 .rw[b]at a;refine⟨?_,rfl⟩;unfold bp;cases h:K0 S p with
  | none=>rfl
  | some t=>rw[h]at a;cases a
def gQ(H:bc A c S)(a:p∈c.ps)(ch:List Int):Wp (L5 [.ref c.G,pv p,.tup (ch.map .int)]) A (λv b=>v=.bl (ma c S p ch)/\b=A) NoX:=by
 have e:=H.ob;have f:=H.plan.ob;walk_at "fn";walk_at "gb";walk_at "fn";walk_at "gb";have d:=(L8 c.ps).mem_iff.mpr a;refine⟨_,_,_,_,rfl,qU p,H.plan.lk,vO (dZ H.pg.nd) d,?_⟩;walk_at "gb";exact⟨rfl,rfl⟩
def ee(H:bc A c S)(ch:List Int):Wp (G2 [.ref c.G,.tup (ch.map .int)]) A (λv f=>v=.bl (dF S ch)/\f=A) NoX:=by
 have g:=H.ob;have d:=H.ul;walk_at "fn";walk_at "gb";have b:=y9 S ch;refine⟨_,_,_,rfl,kH ch,d,_,rfl,λa=>?_,λa=>?_⟩
 .rw[b]at a;obtain⟨t,e⟩:∃t,X8 S ch=some t:=by
   cases h:X8 S ch with
   | none=>rw[h]at a;cases a
   | some t=>exact⟨t,rfl⟩
  rw[e]at b;walk_at "gb";refine⟨_,_,_,_,rfl,kH ch,d,b,?_⟩;walk_at "gb";exact⟨by unfold dF;rw[e],rfl⟩
 .rw[b]at a;refine⟨?_,rfl⟩;unfold dF;cases h:X8 S ch with
  | none=>rfl
  | some t=>rw[h]at a;cases a
def jZ(H:bc A c S)(g:ch≠[])(q:ch.length<100):Wp (G3 [.ref c.G,.tup (ch.map .int)]) A (λv i=>v=.bl (canB c S ch)/\i=A) NoX:=by
 unfold G3;have r:=H.ob;walk_at "fn";walk_at "gb";refine⟨dv g,?_⟩;walk_at "gb";rw[en,<-OY];have p:Wp (H8 [some (.ref c.G),some (.tup (ch.map .int)),some (.tup ((ch.drop 1).map .int))]) A (λo i=>o=.nx [some (.ref c.G),some (.tup (ch.map .int)),some (.tup ((o5 c.fr ch).map .int))]/\i=A) NoX:=by
  unfold H8;refine vy (λm σ B=>B=A/\∃l:List Int,l.length<=m/\σ=[some (.ref c.G),some (.tup (ch.map .int)),some (.tup (l.map .int))]/\l.dropWhile (λh=>decide (h∈c.fr))=o5 c.fr ch) (m:=100) (by decide) ⟨rfl,ch.drop 1,by rw[Pf];walk_at "o",rfl,rfl⟩ ?_;rintro m σ B ⟨rfl,l,n,rfl,f⟩;walk_at "gb";refine⟨λd=>?_,λd=>?_⟩
  .cases l with
   | nil=>cases d
   | cons a l=>
     have s:atI ((a::l).map PV.int) 0=some (.int a):=qS rfl;walk_at "gb";refine⟨λe=>?_,λe=>?_⟩
     .unfold M0;walk_at "gb";refine⟨dv (by simp),?_⟩;walk_at "gb";rw[en,<-OY];have b:a∈c.fr:=of_decide_eq_true e;rw[Oc (by simpa using b)]at f;exact⟨m - 1,by simp at n;walk_at "o",rfl,l,by simp at n;walk_at "o",rfl,f⟩
     .have b:a∉c.fr:=of_decide_eq_false e;rw[Od (by simpa using b)]at f;exact⟨by rw[<-f],rfl⟩
  .have:l=[]:=by simpa using d
   subst this;refine kG ⟨by rw[<-f];rfl,rfl⟩
 refine af p λo u j=>?_;obtain⟨rfl,rfl⟩:=j;walk_at "gb";refine⟨λd=>?_,λd=>?_⟩
 .refine⟨?_,rfl⟩;unfold canB;rw[d];rfl
 .walk_at "gb";refine af (ee H _) λv w j=>?_;obtain⟨rfl,rfl⟩:=j;exact⟨by unfold canB;rw[d];rfl,rfl⟩
def vV(h:K0 S p=none):T9 (aR S) (l2 p) (.int S.now)=aR (X9 S p):=by
 rw[i9]
 .simp[aR,X9]
 .intro z;have e:(aR S).map (·.1)=(S.lays.map (·.1)).map l2:=by unfold aR;simp[Lq]
  rw[e]at z;obtain⟨q,a,e⟩:=IU.mp z;rw[n9 e]at a;exact look_none.mp h a
def FX(h:X8 S ch=none):T9 (X7 S) ch (.int S.now)=X7 (P2 S p ch a):=by
 rw[i9]
 .unfold X7 P2;simp only;rw[h];simp
 .intro z;have e:(X7 S).map (·.1)=S.first.map (·.1):=by unfold X7;simp[Lq]
  rw[e]at z;exact look_none.mp h z
def FY(h:(X8 S ch).isSome=true):X7 (P2 S p ch a)=X7 S:=by
 unfold X7 P2;simp only;rw[if_pos h]
def FZ(h:P9 S p=none):T9 (W5 S) (l2 p) (.ref a)=W5 (P2 S p ch a):=by
 rw[i9]
 .unfold W5 P2;simp only;rw[h];simp
 .intro z;have e:(W5 S).map (·.1)=(S.says.map (·.1)).map l2:=by unfold W5;simp[Lq]
  rw[e]at z;obtain⟨q,b,e⟩:=IU.mp z;rw[n9 e]at b;exact look_none.mp h b
def d9(e:(Int×Int)×Nat×List (Int×List Int)):(M7 S p ch e).1=e.1/\(M7 S p ch e).2.1=e.2.1:=by
 unfold M7;by_cases h:e.1=p
 .rw[if_pos h];exact⟨rfl,rfl⟩
 .rw[if_neg h];exact⟨rfl,rfl⟩
def Ga(h:(P9 S p).isSome=true):W5 (P2 S p ch a)=W5 S:=by
 unfold W5 P2;simp only;rw[if_pos h,Ji];refine L3 λe _=>?_;show(l2 (M7 S p ch e).1,PV.ref (M7 S p ch e).2.1)=_;rw[(d9 e).1,(d9 e).2]
def Gb(h:(P9 S p).isSome=true):sadr (P2 S p ch a)=sadr S:=by
 unfold sadr P2;simp only;rw[if_pos h,Ji];exact L3 λe _=>(d9 e).2
def Gc(h:P9 S p=none):sadr (P2 S p ch a)=sadr S++[a]:=by
 unfold sadr P2;simp only;rw[h];simp
def vW{d:Type}{l:List d}(a:l.Nodup)(b:i<l.length)(c:j<l.length)(e:l[i]=l[j]):i=j:=by
 rcases Nat.lt_trichotomy i j with z | z | z
 .exact absurd e (Lf.mp a i j b c z)
 .exact z
 .exact absurd e.symm (Lf.mp a j i c b z)
section
variable{A:PHp}{c:bT}{S:LS}
noncomputable def V1(S:LS)(p:Int×Int)(ch:List Int)(a:Nat):LS:=
 { S with says:=if(P9 S p).isSome=true then S.says.map (M7 S p ch) else S.says++[(p,a,[(S.now,ch)])],m:=S.m+1 }
noncomputable def z0(S:LS)(ch:List Int):LS:={ S with first:=if(X8 S ch).isSome=true then S.first else S.first++[(ch,S.now)] }
def Gd(p:Int×Int)(ch:List Int)(a:Nat):z0 (V1 S p ch a) ch=P2 S p ch a:=rfl
def IB:W5 (V1 S p ch a)=W5 (P2 S p ch a):=rfl
def IC:sadr (V1 S p ch a)=sadr (P2 S p ch a):=rfl
def Ge(H:bc A c S)(hm:S.m<2000):Wp (aU (V4 (c5 (aH (aa 0) 14) (aa 2) (be aNil)) (aC (ae (aH (aa 0) 12) (ae (aa 3) aNil)))) [some (.ref c.G),some d,some (pv p),some (.tup (ch.map .int))]) A
 (λo A'=>o=.nx [some (.ref c.G),some d,some (pv p),some (.tup (ch.map .int))]/\∃a,bc A' c (V1 S p ch a)/\cF c S (V1 S p ch a) A A') NoX:=by
 have h1:=H.ob;have h2:=H.sl;have hl:=H.lt;have hv:=vS S p;have hG:=C5 H.ul;have v:=H.sz;refine qt (vv (ek ?_));walk_at "gb";have h3:(A++[PO.lst []])[c.G+3]?=some _:=ai h2;have b2:(A++[PO.lst []])[c.G]?=some _:=ai h1;have I:aD _ [p.1,p.2]=(P9 S p).map λe=>.ref e.1:=hv;refine⟨λw J=>?_,λJ=>?_⟩
 .rw[I]at J;obtain⟨⟨s,f⟩,Y,rfl⟩:=Jz.mp J;have b:=U9 Y;have hr:A[s]?=some _:=H.rows _ b;have a1:(A++[PO.lst []])[s]?=some _:=ai hr;have g:(P9 S p).isSome=true:=by rw[Y];rfl
  walk_at "gb";have L:(f.map rowS).length<LIM:=by
   refine aX ?_;have:=v.2.2.2 _ b;rw[IK];simp at this;walk_at "o"
  refine⟨L,rfl,s,?_⟩;have b5:=H.hi s (IU.mpr ⟨_,b,rfl⟩);have e1:f.map rowS++[PV.tup [.int S.now,.tup (ch.map .int)]]=(f++[(S.now,ch)]).map rowS:=by rw[JC];rfl
  rw[e1];have k:∀a o,A[a]?=some o->a≠s->((A++[PO.lst []]).set s (PO.lst ((f++[(S.now,ch)]).map rowS)))[a]?=some o:=λa o q n=>(C6 n).trans (ai q);have hD:W5 (V1 S p ch s)=W5 S:=by exact Ga g
  have B:sadr (V1 S p ch s)=sadr S:=by exact Gb g
  have u:(V1 S p ch s).says=S.says.map (M7 S p ch):=by unfold V1;rw[if_pos g]
  refine⟨⟨⟨⟨k _ _ H.plan.web.ob (by walk_at "o"),k _ _ H.plan.web.ls (by walk_at "o")⟩,k _ _ H.plan.ob (by walk_at "o"),k _ _ H.plan.ls (by walk_at "o"),k _ _ H.plan.ld (by walk_at "o"),k _ _ H.plan.lk (by walk_at "o")⟩,k _ _ H.ob (by walk_at "o"),k _ _ H.fl (by walk_at "o"),k _ _ H.tl (by walk_at "o"),(by rw[hD];exact k _ _ H.sl (by walk_at "o")),k _ _ H.ul (by walk_at "o"),?_,H.lt,(by rw[B];exact H.hi),(by rw[B];exact H.an),?_,H.ln,H.lp,H.pg,?_⟩,?_⟩
  .rw[u];intro e l;obtain⟨E,r,rfl⟩:=IU.mp l;unfold M7;by_cases C:E.1=p
   .rw[if_pos C];have:=qT H.kn r;rw[C]at this;have e2:=Jw (this.symm.trans Y);rw[e2];exact aE a1
   .rw[if_neg C];refine k _ _ (H.rows E r) λz=>C ?_;obtain⟨i,hi,e3⟩:=KS.mp r;obtain⟨j,hj,e4⟩:=KS.mp b;by_cases N:i=j
    .subst N;rw[e3]at e4;rw[e4]
    .exfalso;refine N (vW H.an (by unfold sadr;rw[IK];exact hi) (by unfold sadr;rw[IK];exact hj) ?_);unfold sadr;rw[Nv,Nv,e3,e4];exact z
  .rw[u,Ji];have:S.says.map (_ ∘ M7 S p ch)=S.says.map _:=L3 λe _=>(d9 e).1;rw[this];exact H.kn
  .refine⟨show S.m+1<=2000 by walk_at "o",?_,show S.first.length<=S.m+1 by walk_at "o",?_⟩
   .rw[u,IK];show _<=S.m+1;walk_at "o"
   .rw[u];intro e l;obtain⟨E,r,rfl⟩:=IU.mp l;have:=v.2.2.2 E r;show(M7 S p ch E).2.2.length<=S.m+1;unfold M7;by_cases C:E.1=p
    .rw[if_pos C];simp;walk_at "o"
    .rw[if_neg C];walk_at "o"
  .refine⟨by simp,λa o q n=>k a o q λz=>n ?_,λa h=>.inl (by rw[B]at h;exact h)⟩;rw[z];refine .tail _ (.tail _ (.tail _ (.tail _ ?_)));exact IU.mpr ⟨_,b,rfl⟩
 .rw[I]at J;have T:P9 S p=none:=by simpa using J
  have D:(W5 S).length<LIM:=by
   refine aX ?_;unfold W5;rw[IK];walk_at "o"
  refine⟨D,?_⟩;have O:T9 (W5 S) [p.1,p.2] (.ref A.length)=W5 (V1 S p ch A.length):=by exact FZ T
  rw[O];have Q:A.length≠c.G+3:=by walk_at "o"
  have h4:((A++[PO.lst []]).set _ (PO.dT (W5 (V1 S p ch A.length))))[A.length]?=some _:=(C6 Q).trans aj;walk_at "gb";refine⟨rfl,A.length,?_⟩;have k:∀a o,A[a]?=some o->a≠c.G+3->(((A++[PO.lst []]).set _ (PO.dT (W5 (V1 S p ch A.length)))).set A.length (PO.lst ([]++[PV.tup [.int S.now,.tup (ch.map .int)]])))[a]?=some o:=λa o q n=>(C6 (by have:=C5 q;walk_at "o")).trans ((C6 n).trans (ai q));have B:sadr (V1 S p ch A.length)=sadr S++[A.length]:=by exact Gc T
  have u:(V1 S p ch A.length).says=S.says++[(p,A.length,[(S.now,ch)])]:=by unfold V1;rw[T];rfl
  have a3:=λe l=>C5 (H.rows e l);refine⟨⟨⟨⟨k _ _ H.plan.web.ob (by walk_at "o"),k _ _ H.plan.web.ls (by walk_at "o")⟩,k _ _ H.plan.ob (by walk_at "o"),k _ _ H.plan.ls (by walk_at "o"),k _ _ H.plan.ld (by walk_at "o"),k _ _ H.plan.lk (by walk_at "o")⟩,k _ _ H.ob (by simp),k _ _ H.fl (by simp),k _ _ H.tl (by simp),(C6 (Kk Q)).trans (aE h3),k _ _ H.ul (by simp),?_,H.lt,?_,?_,?_,H.ln,H.lp,H.pg,?_⟩,?_⟩
  .rw[u];intro e l;rcases Jx.mp l with z | z
   .have:=H.hi _ (IU.mpr ⟨e,z,rfl⟩);exact k _ _ (H.rows e z) (by walk_at "o")
   .rw[IS.mp z];exact aE h4
  .rw[B];intro a ha;rcases Jx.mp ha with z | z
   .exact H.hi a z
   .rw[IS.mp z];walk_at "o"
  .rw[B,JV];refine⟨H.an,by simp,λx U y hy z=>?_⟩;rw[IS.mp hy]at z;obtain⟨e,l,rfl⟩:=IU.mp U;have:=a3 e l;walk_at "o"
  .rw[u,JC,JV];refine⟨H.kn,by simp,λx U y hy z=>?_⟩;have a5:y=p:=by simpa using hy
   rw[z,a5]at U;exact look_none.mp T U
  .refine⟨show S.m+1<=2000 by walk_at "o",?_,show S.first.length<=S.m+1 by walk_at "o",?_⟩
   .rw[u,Jo];show _+1<=S.m+1;walk_at "o"
   .rw[u];intro e l;show _<=S.m+1;rcases Jx.mp l with z | z
    .have:=v.2.2.2 e z;walk_at "o"
    .rw[IS.mp z];simp
  .refine⟨by simp,λa o q n=>k a o q λz=>n ?_,λa h=>?_⟩
   .rw[z];exact .tail _ (.tail _ IV)
   .rw[B]at h;rcases Jx.mp h with z | z
    .exact .inl z
    .rw[IS.mp z];exact .inr (IM _)
def Gf(H:bc A c S)(v:S.first.length<S.m):Wp (aU (c5 (aH (aa 0) 15) (aa 3) (aH (aa 0) 12)) [some (.ref c.G),some d,some x,some (.tup (ch.map .int))]) A
 (λo i=>o=.nx [some (.ref c.G),some d,some x,some (.tup (ch.map .int))]/\bc i c (z0 S ch)/\cF c S (z0 S ch) A i) NoX:=by
 have y:=H.ob;have j:=H.ul;have B:=H.lt;have l:=y9 S ch;have b:=H.sz;walk_at "gb";refine⟨_,_,kH ch,j,λw f=>?_,λf=>?_⟩
 .rw[l]at f;have s:(X8 S ch).isSome=true:=by
   obtain⟨t,u,_⟩:=Jz.mp f;rw[u];rfl
  have e:z0 S ch=S:=by unfold z0;rw[if_pos s]
  rw[e];exact⟨rfl,H,.refl⟩
 .rw[l]at f;have p:X8 S ch=none:=by simpa using f
  refine⟨aX (by unfold X7;rw[IK];walk_at "o"),rfl,?_⟩;have e:(z0 S ch).first=S.first++[(ch,S.now)]:=by unfold z0;rw[p];rfl
  have g:T9 (X7 S) ch (.int S.now)=X7 (z0 S ch):=by
   rw[i9]
   .unfold X7;rw[e];simp
   .intro z;have e:(X7 S).map (·.1)=S.first.map (·.1):=by unfold X7;simp[Lq]
    rw[e]at z;exact look_none.mp p z
  rw[g];have k:∀a o,A[a]?=some o->a≠c.G+4->(A.set _ (PO.dT (X7 (z0 S ch))))[a]?=some o:=λa o q n=>(C6 n).trans q;refine⟨⟨⟨⟨k _ _ H.plan.web.ob (by walk_at "o"),k _ _ H.plan.web.ls (by walk_at "o")⟩,k _ _ H.plan.ob (by walk_at "o"),k _ _ H.plan.ls (by walk_at "o"),k _ _ H.plan.ld (by walk_at "o"),k _ _ H.plan.lk (by walk_at "o")⟩,k _ _ H.ob (by simp),k _ _ H.fl (by simp),k _ _ H.tl (by simp),k _ _ H.sl (by simp),aE j,λe r=>k _ _ (H.rows e r) ?_,H.lt,H.hi,H.an,H.kn,H.ln,H.lp,H.pg,⟨b.1,b.2.1,?_,b.2.2.2⟩⟩,⟨by simp,λa o q n=>k a o q λz=>n ?_,λa h=>.inl h⟩⟩
  .have:=H.hi _ (IU.mpr ⟨e,r,rfl⟩);walk_at "o"
  .rw[e,Jo];show _+1<=S.m;walk_at "o"
  .rw[z];exact .tail _ (.tail _ (.tail _ IV))
end
def z7{r:Type}(c:List r)(s u:r->PV)(m:r->Bool)(S:PSt->Prop)
 (h:Wp (C σ) A (λJ j=>∃n,b4 J j=.ok n j/\c.length<=n/\c.length<=LIM/\S (D σ)/\(∀i B,j<+:B->item J i B=.ok (c.map s)[i]? B)/\
  (∀x σ B,x∈c->S σ->j<+:B->Wp (g (s x) σ) B (λd G=>G=B/\S d/\Wp (t d) B (λb q=>b=m x/\B<+:q/\(b=true->Wp (e d) q (λy H=>y=u x/\q<+:H) E)) E) E)/\
  ∀B,j<+:B->Q (.ref B.length) (B++[.lst ((c.filter m).map u)])) E):Wp (M8 C D g t e σ) A Q E:=
 nL (af h λJ j l=>by
  obtain⟨n,Y,hn,hL,h0,w,hs,he⟩:=l;refine⟨c.map s,n,λi f σ B=>j<+:B/\S σ/\f=((c.take i).filter m).map u,Y,by simpa using hn,⟨Jk _,h0,by simp⟩,λi f σ B a=>w i B a.1,λi v f σ B I a=>?_,λf σ B a=>?_⟩
  .obtain⟨a,h2,o⟩:=a;rw[Jm]at I;obtain⟨x,L,rfl⟩:=Jz.mp I;refine af (hs x σ B (JD L) h2 a) λd G l=>?_;obtain⟨e1,N,h5⟩:=l;subst e1;refine af h5 λb q l=>?_;obtain⟨O,T,h6⟩:=l;have U:c.take (i+1)=c.take i++[x]:=by rw[LJ,L];rfl
   refine⟨λp=>af (h6 p) λy H l=>?_,λz=>?_⟩
   .obtain⟨h7,p3⟩:=l;refine⟨a.trans (T.trans p3),N,?_⟩;rw[o,h7,U,LG,JC];have:m x=true:=by rw[<-O];exact p
    simp[this]
   .refine⟨a.trans T,N,?_⟩;rw[o,U,LG,JC];have:m x=false:=by rw[<-O];exact z
    simp[this]
  .obtain⟨a,_,o⟩:=a;rw[IK,Lw (IM _)]at o;subst o;refine⟨?_,he B a⟩;rw[IK];exact Jt (KJ _ _) hL)
section
variable{A:PHp}{c:bT}{S:LS}
noncomputable def z8(c:bT)(S:LS)(p:Int×Int)(ch:List Int):Nat:=if bp S p=true then(if ma c S p ch=true then 15 else if canB c S ch=true then 0 else 16) else 14
def qV(h:p∈c.ps/\iD c.N c.ps c.L ch/\ch.head?=some p.2):V0 c S p ch=z8 c S p ch:=by
 unfold V0 z8;rw[if_pos h]
def et(H:bc A c S)(p:Int×Int):Wp (J0 [.ref c.G,pv p]) A (λv A'=>∃n,v=.ref n/\A.length<=n/\A<+:A'/\A'[n]?=some (.lst ((rowsAt S p).map rowS))/\A'.length=n+1) NoX:=by
 unfold J0;have h:=H.ob;have i:=H.sl;walk_at "fn";refine dt (dE (ej ?_));walk_at "gb";have d:aD (W5 S) [p.1,p.2]=(P9 S p).map λe=>.ref e.1:=vS S p;rw[d];cases b:P9 S p with
 | none=>
   have e:rowsAt S p=[]:=by unfold rowsAt;rw[b];rfl
   rw[e];show Wp (N4 (.ref A.length)) _ _ _;refine dY aj ?_;exact⟨_,rfl,by simp,(IL _ _).trans (IL _ _),aj,by simp⟩
 | some e=>
   have a:(p,e)∈S.says:=U9 b;have f:=H.rows _ a;have g:rowsAt S p=e.2:=by unfold rowsAt;rw[b];rfl
   rw[g];show Wp (N4 (.ref e.1)) _ _ _;refine dY (ai f) ?_;exact⟨_,rfl,by simp,(IL _ _).trans (IL _ _),aj,by simp⟩
end
def qW{p:Type}(b:List p)(l m:p->PV)(S:PSt->Prop)
 (h:Wp (q σ) A (λJ c=>b4 J c=.ok b.length c/\b.length<=LIM/\S (r σ)/\(∀i B,c<+:B->item J i B=.ok (b.map l)[i]? B)/\
  (∀x σ B,x∈b->S σ->c<+:B->Wp (g (l x) σ) B (λd s=>s=B/\S d/\Wp (e d) B (λy u=>y=m x/\B<+:u) E) E)/\
  ∀B,c<+:B->Q (.ref B.length) (B++[.lst (b.map m)])) E):Wp (M8 q r g bf e σ) A Q E:=
 nL (af h λJ c ⟨C,D,G,n,hs,he⟩=>⟨b.map l,b.length,λi a σ B=>c<+:B/\S σ/\a=(b.take i).map m,C,by simp,⟨Jk _,G,by simp⟩,λi a σ B ⟨f,_⟩=>n i B f,λi v a σ B w o=>by
  obtain⟨f,H,j⟩:=o;rw[Jm]at w;obtain⟨x,z,rfl⟩:=Jz.mp w;refine af (hs x σ B (JD z) H f) λd s I=>?_;obtain⟨L,N,O⟩:=I;subst L;refine vt ⟨λ_=>af O λy u ⟨T,U⟩=>⟨f.trans U,N,?_⟩,λY=>by cases Y⟩;rw[j,T,LJ,z];simp,λa σ B o=>by
  obtain⟨f,_,j⟩:=o;rw[IK,Lw (IM _)]at j;subst j;exact⟨by rw[IK];exact D,he B f⟩⟩)
def qX{a:Type}(b:List a):(b.map λ_=>true).all id=true:=by simp
def eT(h:Wp (e σ) A (λx a=>∃n m,x=.ref n/\a[n]?=some (.dT m)/\(m.length<64/\∀p∈m,p.1≠[])/\Q (.ref a.length) (a++[.lst ((D7 D0 (m.map (·.1))).map λt=>.tup (t.map .int))])) E):Wp (t5 e σ) A Q E:=
 B6 (af h λx a ⟨n,m,b,c,d,q⟩=>by subst b;exact B6 (X6 c (C7 d q)))
end Ws
local macro_rules | `(tactic| walk_at "s1")=>`(tactic| first
 | with_reducible refine Ws.eT ?_)
local macro_rules | `(tactic| walk_at "s2")=>`(tactic| with_reducible refine Ws.w_mk0 ?_)
namespace Ws
def al:Nat->Fun
 | 0=>V9
 | k+1=>C4 (al k)
inductive iE:Nat->PV->Prop
 | int {k:Nat} {i:Int}:iE (k+1) (.int i)
 | str {k:Nat} {x:Ki}:iE (k+1) (.str x)
 | tup {k:Nat} {l:List PV}:l.length<=1000->(∀v∈l,iE k v)->iE (k+1) (.tup l)
def iF{a:Type}{b:List a}{i:Nat}{x:a}(h:b[i]?=some x):atI b (i:Int)=some x:=by
 obtain⟨c,d⟩:=IW.mp h;rw[vC c,d]
def vX{l:List PV}(s:l.length<=1000)(m:∀v∈l,∀B,Wp (al k [v,v]) B (λv A'=>v=.bl true/\B<+:A') NoX)
 (o:∀B (i:Nat) v {Q:PV->PHp->Prop},A<+:B->l[i]?=some v->Q v B->Wp (oIx a (.int (i:Int))) B Q NoX) (q:∀B (i:Nat) v {Q:PV->PHp->Prop},A<+:B->l[i]?=some v->Q v B->Wp (oIx b (.int (i:Int))) B Q NoX)
 (c:∀{e:It->PHp->Prop},e (.rng 0 l.length) A->Wp (iRng1 (V7 (aa 1)) [some a,some b]) A e NoX) :
 Wp (N7 (al k) [some a,some b]) A (λx f=>∃n bs,x=.ref n/\f[n]?=some (.lst (Nf .bl bs))/\PV.bl (bs.all id)=.bl true/\A<+:f) NoX:=by
 unfold N7;refine qW (Ju l.length) (λi=>.int (i:Int)) (λ_=>.bl true) (λg=>∃x,g=[x,some a,some b]) (c ?_);refine⟨by simp,by simp;exact aI (by walk_at "o"),⟨_,rfl⟩,λi B p=>d0 _ _,?_,λB r=>?_⟩
 .rintro i g B d ⟨x,rfl⟩ h;rw[Kr]at d;have j:l[i]?=some l[i]:=Jj d;walk_at "go";refine⟨rfl,⟨_,rfl⟩,?_⟩;walk_at "go";refine o B i _ h j ?_;walk_at "go";refine q B i _ h j ?_;walk_at "go";exact m _ (Ly d) B
 .refine⟨_,(Ju l.length).map λ_=>true,rfl,by rw[aj,Ji];rfl,?_⟩;rw[qX];exact⟨rfl,r.trans (IL _ _)⟩
theorem o6:∀(k:Nat)(x:PV),iE k x->∀A,Wp (al k [x,x]) A (λv A'=>v=.bl true/\A<+:A') NoX
 | 0,_,h,_=>by cases h
 | k+1,_,.int (i:=i),A=>by
   refine w_eq (A':=A) (a:=.bl true) ?_ ⟨rfl,Jk _⟩;show C4 (al k) [.int i,.int i] A=_;simp[C4,plain,bJ]
 | k+1,_,.str (x:=x),A=>by
   show Wp (C4 (al k) [.str x,.str x]) A _ _;unfold C4;walk_at "fn";walk_at "gb";exact⟨by simp,Jk _⟩
 | k+1,_,.tup (l:=l) b c,A=>by
   show Wp (C4 (al k) [.tup l,.tup l]) A _ _;unfold C4;walk_at "fn";walk_at "gb";refine vX b (λv d B=>o6 k v (c v d) B) (λB i v Q p h q=>?_) (λB i v Q p h q=>?_) λ{e} q=>?_
   .exact dh (iF h) q
   .exact dh (iF h) q
   .walk_at "go";exact q
def vY(b:l.length<=1000)(c:∀v∈l,iE k v)(d:A[n]?=some (.lst l))(a:A[m]?=some (.lst l)):Wp (al (k+1) [.ref n,.ref m]) A (λv A'=>v=.bl true/\A<+:A') NoX:=by
 show Wp (C4 (al k) [.ref n,.ref m]) A _ _;unfold C4;walk_at "fn";walk_at "gb";refine vX b (λv a B=>o6 k v (c v a) B) (λB i v Q p h q=>?_) (λB i v Q p h q=>?_) λ{e} q=>?_
 .exact bY (ag p d) (iF h) q
 .exact bY (ag p a) (iF h) q
 .walk_at "go";exact q
section
variable{A:PHp}{c:bT}{S:LS}
def Gg(H:bc A c S):(D7 D0 ((aR S).map (·.1))).map (λt=>PV.tup (t.map .int))=aL (srt (S.lays.map (·.1))):=by
 have e:(aR S).map (·.1)=(S.lays.map (·.1)).map l2:=by unfold aR;simp[Lq]
 rw[e,n6,qI];rfl
def eu(H:bc A c S):Wp (E9 [.ref c.G]) A (λv a=>v=.ref A.length/\a=A++[.lst (aL (srt (S.lays.map (·.1))))]) NoX:=by
 unfold E9;have d:=H.ob;have f:=H.tl;walk_at "fn";walk_at "gb";refine⟨⟨?_,λq b=>?_⟩,?_⟩
 .have:=H.ln.length_le_of_subset (l₂:=c.ps) H.lp;rw[IK]at this;have:=H.pg.len;unfold aR;rw[IK];walk_at "o"
 .obtain⟨e,_,rfl⟩:=IU.mp b;simp[l2]
 .rw[Gg H];exact⟨rfl,rfl⟩
def fV(H:bc A c S)(u:p∈c.ps):Wp (J8 [.ref c.G,o0 p]) A (λv f=>v=.non/\K0 S p=none/\bc f c (X9 S p)/\cF c S (X9 S p) A f) (λk v f=>k=13/\(K0 S p).isSome=true/\v=o0 p/\f=A):=by
 have D:=H.ob;have w:=H.tl;walk_at "fn";have B:o0 p=.tup [.str "lay",pv p]:=rfl;have j:aD _ [p.1,p.2]=(K0 S p).map .int:=nP S p;rw[B];walk_at "gb";refine⟨λg=>?_,λg=>?_⟩
 .rw[j,Oy]at g;walk_at "gb";exact⟨rfl,rfl⟩
 .rw[j]at g;have i:K0 S p=none:=by simpa using g
  walk_at "gb";have b:(aR S).length<LIM:=by
   refine aX ?_;have:=H.ln.length_le_of_subset H.lp;rw[IK]at this;have:=H.pg.len;unfold aR;rw[IK];walk_at "o"
  refine⟨b,?_⟩;have d:T9 _ [p.1,p.2] _=aR _:=vV i;rw[d];have E:=H.lt;have k:∀a o,A[a]?=some o->a≠c.G+2->(A.set _ (PO.dT (aR (X9 S p))))[a]?=some o:=λa o q n=>(C6 n).trans q;refine⟨trivial,i,⟨⟨⟨k _ _ H.plan.web.ob (by walk_at "o"),k _ _ H.plan.web.ls (by walk_at "o")⟩,k _ _ H.plan.ob (by walk_at "o"),k _ _ H.plan.ls (by walk_at "o"),k _ _ H.plan.ld (by walk_at "o"),k _ _ H.plan.lk (by walk_at "o")⟩,k _ _ H.ob (by simp),k _ _ H.fl (by simp),aE w,k _ _ H.sl (by simp),k _ _ H.ul (by simp),λe l=>k _ _ (H.rows e l) ?_,H.lt,H.hi,H.an,H.kn,?_,?_,H.pg,H.sz⟩,⟨by simp,λa o q n=>k a o q (λz=>n (by rw[z];exact .tail _ IV)),λa h=>.inl h⟩⟩
  .have:=H.hi _ (IU.mpr ⟨e,l,rfl⟩);walk_at "o"
  .show((S.lays++[(p,S.now)]).map _).Nodup;rw[JC,JV];refine⟨H.ln,by simp,λx m y r=>?_⟩;rw[IU]at r;obtain⟨z,C,rfl⟩:=r;rw[IS.mp C];intro z;rw[z]at m;exact look_none.mp i m
  .show ∀q∈(S.lays++[(p,S.now)]).map _,q∈c.ps;intro q s;rw[JC,Jx]at s;rcases s with z | z
   .exact H.lp q z
   .simp at z;rw[z];exact u
def Gh(H:bc A c S)(s:p∈c.ps)(h:ch≠[])(u:ch.length<100)(w:S.m<2000):Wp (G7 [.ref c.G,o4 p ch]) A
 (λv g=>v=.non/\z8 c S p ch=0/\∃a,bc g c (P2 S p ch a)/\cF c S (P2 S p ch a) A g) (λk v g=>k=z8 c S p ch/\k≠0/\v=o4 p ch/\g=A):=by
 unfold G7;have B:=H.ob;have x:o4 p ch=.tup [.str "say",pv p,.tup (ch.map .int)]:=rfl;walk_at "fn";rw[x];walk_at "gb";refine af (fU H p) λv i d=>?_;obtain⟨rfl,rfl⟩:=d;walk_at "gb";refine⟨λb=>?_,λb=>?_⟩
 .have j:bp S p=false:=by simpa using b
  walk_at "gb";refine⟨?_,by decide,rfl,rfl⟩;unfold z8;rw[j];rfl
 have l:bp S p=true:=by simpa using b
 walk_at "gb";refine af (gQ H s ch) λv i d=>?_;obtain⟨rfl,rfl⟩:=d;walk_at "gb";refine⟨λb=>?_,λb=>?_⟩
 .walk_at "gb";refine⟨?_,by decide,rfl,rfl⟩;unfold z8;rw[l,b];rfl
 rename_i y;have e:ma c S p ch=false:=b;walk_at "gb";refine af (jZ H h u) λv i d=>?_;obtain⟨rfl,rfl⟩:=d;walk_at "gb";refine⟨λb=>?_,λb=>?_⟩
 .have j:canB c S ch=false:=by simpa using b
  walk_at "gb";refine⟨?_,by decide,rfl,rfl⟩;unfold z8;rw[l,e,j];rfl
 have n:canB c S ch=true:=by simpa using b
 refine nN (U5 ?_);refine bZ (nN (af (Ge H w) λo i d=>?_));obtain⟨rfl,a,z,q⟩:=d;refine nN (af (Gf z (ch:=ch) (by show S.first.length<S.m+1;have:=H.sz;walk_at "o")) λo C d=>?_);obtain⟨rfl,r,f⟩:=d;rw[Gd]at r f;refine⟨trivial,?_,a,r,q.trans f⟩;unfold z8;rw[l,e,n];rfl
def Gi(H:bc A c S)(p:Int×Int):Wp (G6 [.ref c.G,o0 p]) A
 (λv b=>v=.non/\Z2 c S p=0/\bc b c (X9 S p)/\cF c S (X9 S p) A b) (λk v b=>k=Z2 c S p/\k≠0/\v=o0 p/\b=A):=by
 have l:=H.ob;walk_at "fn";walk_at "gb";refine qs (FV H p) λv g a=>?_;obtain⟨rfl,rfl⟩:=a;walk_at "gb";refine⟨λd=>?_,λd=>?_⟩
 .have h:p∉c.ps:=by simpa using d
  walk_at "gb";refine⟨?_,by decide,rfl,rfl⟩;unfold Z2;rw[if_neg h]
 .have e:p∈c.ps:=by simpa using d
  have i:o0 p=.tup [.str "lay",pv p]:=rfl;rw[i];walk_at "gb";refine bx (fV H e) (λv g a=>?_) λk v g a=>?_
  .obtain⟨rfl,f,j,st⟩:=a;refine⟨trivial,?_,j,st⟩;unfold Z2;rw[if_pos e,f];rfl
  .obtain⟨rfl,f,rfl,rfl⟩:=a;refine⟨?_,by decide,rfl,rfl⟩;unfold Z2;rw[if_pos e,if_pos f]
def Gj(H:bc A c S)(p:Int×Int)(j:ch.length<100)(n:S.m<2000):Wp (G6 [.ref c.G,o4 p ch]) A
 (λv A'=>v=.non/\V0 c S p ch=0/\∃a,bc A' c (P2 S p ch a)/\cF c S (P2 S p ch a) A A') (λk v A'=>k=V0 c S p ch/\k≠0/\v=o4 p ch/\A<+:A'):=by
 have y:=H.ob;walk_at "fn";walk_at "gb";refine qs (FW H p j) λv B e=>?_;obtain⟨p1,b,rfl,f⟩:=e;have o:=H.mono p1;walk_at "gb";refine⟨λg=>?_,λg=>?_⟩
 .have l:b=false:=by simpa using g
  walk_at "gb";refine⟨?_,by decide,rfl,p1⟩;unfold V0;rw[if_neg (λz=>by rw[f.mpr z]at l;cases l)]
 .have q:b=true:=by simpa using g
  have d:=f.mp q;have r:o4 p ch=.tup [.str "say",pv p,.tup _]:=rfl;rw[r];walk_at "gb";obtain⟨⟨h,_⟩,_⟩:=d.2.1;refine bx (Gh o d.1 h j n) (λv s e=>?_) λk v s e=>?_
  .obtain⟨rfl,u,a,w,st⟩:=e;exact⟨trivial,by rw[qV d];exact u,a,w,(cF.pre p1).trans st⟩
  .obtain⟨x,i,rfl,rfl⟩:=e;exact⟨by rw[qV d];exact x,i,rfl,p1⟩
noncomputable def j0(S:LS)(p:Int×Int):List Int:=(rowsAt S p).map λq=>q.2.getLast?.getD 0
noncomputable def fW(c:bT)(S:LS)(p:Int×Int):Bool:=c.L.all λl=>decide (l∈j0 S p)
def Gk(H:bc A c S)(p:Int×Int):(rowsAt S p).length<=2000:=by
 unfold rowsAt;cases h:P9 S p with
 | none=>simp
 | some e=>
   have:=H.sz.2.2.2 _ (U9 h);have:=H.sz.1;simp at *;walk_at "o"
def z9(h:ch≠[]):atI (ch.map PV.int) (-1)=some (.int (ch.getLast?.getD 0)):=by
 rw[vP h,LP h];rfl
def fX(H:bc A c S)(p:Int×Int)(d:∀q∈rowsAt S p,q.2≠[])(w:c.L.length<=1000):Wp (E3 [.ref c.G,pv p]) A (λv A'=>v=.bl (fW c S p)/\A<+:A') NoX:=by
 unfold E3;have j:=H.ob;walk_at "fn";refine bZ (cU ?_);have e:Wp (G4 [some (.ref c.G),some (pv p),none]) A (λv A'=>∃n,v=.ref n/\A<+:A'/\A'[n]?=some (.lst ((j0 S p).map .int))) NoX:=by
  unfold G4;refine z7 (rowsAt S p) rowS (λq=>.int (q.2.getLast?.getD 0)) (λ_=>true) (λa=>∃x y,a=[x,y]) ?_;walk_at "gb";refine af (et H p) λv m f=>?_;obtain⟨n,rfl,z,p1,g,_⟩:=f;walk_at "gb";refine⟨_,bg g,by simp,aI (by have:=Gk H p;walk_at "o"),⟨_,_,rfl⟩,λi B b=>S7 (ag b g) i,?_,?_⟩
  .rintro q a B o ⟨x,y,rfl⟩ b;have r:=z9 (d q o);unfold rowS;walk_at "go";refine⟨rfl,⟨_,_,rfl⟩,?_⟩;walk_at "go";refine⟨rfl,Jk _,λ_=>?_⟩;walk_at "go";exact⟨rfl,Jk _⟩
  .intro B b;refine⟨_,rfl,D4 (p1.trans b),?_⟩;rw[aj,JZ.mpr (by simp)];unfold j0;rw[Ji];rfl
 refine af e λv m f=>?_;obtain⟨n,rfl,p1,g⟩:=f;have h:=H.mono p1;have j:=h.ob;have C:=h.plan.ob;walk_at "gb";unfold aJ;refine R6 (l:=c.L.map .int) (λa=>∃x,a=[x,some (.ref n)]) (λ_=>true) (λv=>.bl (match v with | .int l=>decide (l∈j0 S p) | _=>false)) ?_;walk_at "go";refine⟨⟨_,rfl⟩,λi=>rfl,?_,?_⟩
 .rintro v a s ⟨x,rfl⟩;obtain⟨y,D,rfl⟩:=IU.mp s;walk_at "go";refine⟨rfl,⟨_,rfl⟩,?_⟩;walk_at "go";refine⟨rfl,rfl,λ_=>?_⟩;walk_at "go";exact⟨rfl,rfl⟩
 have u:((c.L.map PV.int).filter λ_=>true).map (λv=>PV.bl (match v with | .int l=>decide (l∈j0 S p) | _=>false))=(c.L.map λl=>decide (l∈j0 S p)).map PV.bl:=by
  rw[JZ.mpr (by simp),Ji,Ji];rfl
 refine⟨_,_,rfl,by rw[aj,u],?_,D4 p1⟩;unfold fW;rw[List.all_map];rfl
noncomputable def fY(c:bT)(S:LS):List (Int×Int):=(srt (S.lays.map (·.1))).filter (fW c S)
def eU(H:bc A c S)(b:∀p,∀q∈rowsAt S p,q.2≠[])(j:c.L.length<=1000):Wp (G9 [.ref c.G]) A (λv A'=>∃n,v=.ref n/\A.length<=n/\A<+:A'/\A'[n]?=some (.lst (aL (fY c S)))) NoX:=by
 have s:=H.ob;walk_at "fn";refine dt ?_;refine z7 (srt (S.lays.map (·.1))) pv pv (fW c S) (λe=>∃x,e=[x,some (.ref c.G)]) ?_;walk_at "gb";refine af (eu H) λv l d=>?_;obtain⟨rfl,rfl⟩:=d;have f:(A++[PO.lst (aL (srt (S.lays.map (·.1))))])[A.length]?=some _:=aj;have g:(srt (S.lays.map (·.1))).length<64:=by
  rw[(L8 _).length_eq];have:=H.ln.length_le_of_subset H.lp;have:=H.pg.len;walk_at "o"
 have h:A<+:A++[PO.lst (aL (srt (S.lays.map (·.1))))]:=IL _ _;have m:A.length<(A++[PO.lst (aL (srt (S.lays.map (·.1))))]).length:=by simp
 generalize A++[PO.lst _]=l at *;walk_at "gb";refine⟨_,bg f,by simp[aL],aI (by walk_at "o"),⟨_,rfl⟩,λi B a=>S7 (ag a f) i,?_,?_⟩
 .rintro p e B u ⟨x,rfl⟩ a;have o:=H.mono (h.trans a);walk_at "go";refine⟨rfl,⟨_,rfl⟩,?_⟩;walk_at "go";refine af (fX o p (b p) j) λv w d=>?_;obtain⟨rfl,r⟩:=d;refine⟨_,rfl,rfl,r,λ_=>?_⟩;walk_at "go";exact⟨rfl,Jk _⟩
 .intro B a;refine⟨_,rfl,by have:=a.length_le;walk_at "o",D4 (h.trans a),aj⟩
end
noncomputable def tv(w:List Int):PV:=.tup (w.map .int)
noncomputable def cf(W:List (List Int)):List PV:=W.map tv
noncomputable def O6(w:List Int):Int:=w.getLast?.getD 0
noncomputable def fZ(ps:List (Int×Int))(w:List Int):List (List Int):=(ps.filter λp=>decide (p.1=O6 w)&&!decide (p.2∈w)).map λp=>w++[p.2]
noncomputable def bU(ps:List (Int×Int)):Nat->List (List Int)->List (List Int)
 | 0,W=>W
 | k+1,W=>bU ps k (W.flatMap (fZ ps))
theorem f6(ps:List (Int×Int)):∀(k:Nat)(W:List (List Int)),bU ps (k+1) W=(bU ps k W).flatMap (fZ ps)
 | 0,W=>rfl
 | k+1,W=>by
   show bU ps (k+1) (W.flatMap (fZ ps))=_;rw[f6 ps k];rfl
structure cj(N:Nat)(ps:List (Int×Int))(h:Int)(w:List Int):Prop where
 hd:w.head?=some h
 nd:w.Nodup
 inn:∀x∈w,0<=x/\x<N
 st:∀(i:Nat) a b,w[i]?=some a->w[i+1]?=some b->(a,b)∈ps
def cj.ne(x:cj N ps h w):w≠[]:=λz=>by have:=x.hd;rw[z]at this;cases this
def cj.len(x:cj N ps h w):w.length<=N:=by
 have:=x.nd.length_le_of_subset (l₂:=S9 N) λy a=>mem_hands.mpr (x.inn y a);rw[bb]at this;exact this
def vZ(h:w≠[]):w[w.length - 1]?=some (O6 w):=by
 unfold O6;rw[<-Ot,LP h];rfl
def qY(h:w≠[]):w.getLast h=O6 w:=by
 unfold O6;rw[LP h];rfl
section
variable{N:Nat}{ps:List (Int×Int)}{h:Int}
def Gm(c:0<=h/\h<N):cj N ps h [h]:=⟨rfl,by simp,by simpa using c,λi a b e d=>by cases i<;>simp at d⟩
def Gn(f:∀p∈ps,good N p)(x:cj N ps h w)(e:(O6 w,y)∈ps)(g:y∉w):cj N ps h (w++[y]):=by
 refine⟨?_,?_,λz j=>?_,λi a b d c=>?_⟩
 .have:=x.hd;cases w with
  | nil=>cases this
  | cons a r=>exact this
 .rw[JV];exact⟨x.nd,by simp,λa l b m=>by rw[IS.mp m];exact λz=>g (z ▸ l)⟩
 .rcases Jx.mp j with q | q
  .exact x.inn z q
  .rw[IS.mp q];exact(f _ e).2.1
 .by_cases n:i+1<w.length
  .rw[Jb (by walk_at "o")]at d;rw[Jb n]at c;exact x.st i a b d c
  .have o:i+1=w.length:=by
    have:=(IW.mp c).1;simp at this;walk_at "o"
   rw[o,JN (IM _)]at c;simp at c;rw[Jb (by walk_at "o")]at d;have:i=w.length - 1:=by walk_at "o"
   rw[this,vZ x.ne]at d;cases d;rw[<-c];exact e
def mem_exts:v∈fZ ps w↔∃y,v=w++[y]/\(O6 w,y)∈ps/\y∉w:=by
 unfold fZ;rw[IU];constructor
 .rintro⟨p,a,rfl⟩;rw[JP,Jq]at a;have b:p.1=O6 w:=of_decide_eq_true a.2.1;exact⟨p.2,rfl,by rw[<-b];exact a.1,by simpa using a.2.2⟩
 .rintro⟨y,rfl,b,c⟩;exact⟨(O6 w,y),by rw[JP];exact⟨b,by simp[c]⟩,rfl⟩
def Gp(x:cj N ps h (w++[y]))(c:w≠[]):cj N ps h w/\(O6 w,y)∈ps/\y∉w:=by
 have j:0<w.length:=Lu.mpr c;refine⟨⟨?_,(JV.mp x.nd).1,λz e=>x.inn z (KR _ e),λi a b f d=>?_⟩,?_,λg=>?_⟩
 .have:=x.hd;cases w with
  | nil=>exact absurd rfl c
  | cons a r=>exact this
 .have:=(IW.mp d).1;exact x.st i a b (by rw[Jb (by walk_at "o")];exact f) (by rw[Jb this];exact d)
 .refine x.st (w.length - 1) _ _ (by rw[Jb (by walk_at "o")];exact vZ c) ?_;rw[show w.length - 1+1=w.length by walk_at "o",JN (IM _)];simp
 .exact(JV.mp x.nd).2.2 y g y (by simp) rfl
theorem j3(c:∀p∈ps,good N p)(d:0<=h/\h<N):∀(k:Nat)(w:List Int),w∈bU ps k [[h]]↔cj N ps h w/\w.length=k+1
 | 0,w=>by
   show w∈[[h]]↔_;rw[IS];constructor
   .rintro rfl;exact⟨Gm d,rfl⟩
   .rintro⟨x,b⟩;have:=x.hd;match w,b,this with
    | [a],_,e=>cases e;rfl
 | k+1,w=>by
   rw[f6,List.mem_flatMap];constructor
   .rintro⟨v,g,i⟩;obtain⟨x,b⟩:=(j3 c d k v).mp g;obtain⟨y,rfl,j,l⟩:=mem_exts.mp i;exact⟨Gn c x j l,by simp[b]⟩
   .rintro⟨x,b⟩;have f:w≠[]:=x.ne;have e:=List.dropLast_concat_getLast f;have m:w.dropLast≠[]:=λz=>by
     have:=congrArg List.length z;rw[Qg]at this;simp at this;walk_at "o"
    rw[<-e]at x;obtain⟨n,o,q⟩:=Gp x m;refine⟨w.dropLast,(j3 c d k _).mpr ⟨n,by rw[Qg];walk_at "o"⟩,mem_exts.mpr ⟨_,e.symm,o,q⟩⟩
def Gq(a:∀p∈ps,good N p)(b:0<=h/\h<N)(d:N<=k):bU ps k [[h]]=[]:=by
 refine List.eq_nil_iff_forall_not_mem.mpr λw c=>?_;obtain⟨x,e⟩:=(j3 a b k w).mp c;have:=x.len;walk_at "o"
def qZ(f:∀p∈ps,good N p)(g:ps.Nodup)(w:List Int):(fZ ps w).length<=N:=by
 have:((ps.filter λp=>decide (p.1=O6 w)&&!decide (p.2∈w)).map (·.2)).Nodup:=by
  rw[List.Nodup,OA];refine NC.imp_of_mem (λ{a b} d e c=>?_) (g.filter _);rw[JP,Jq]at d e;intro z;have i:a.1=O6 w:=of_decide_eq_true d.2.1;have j:b.1=O6 w:=of_decide_eq_true e.2.1;exact c (Prod.ext (i.trans j.symm) z)
 have:=this.length_le_of_subset (l₂:=S9 N) λy l=>by
  obtain⟨p,m,rfl⟩:=IU.mp l;exact mem_hands.mpr (f p (JP.mp m).1).2.1
 rw[bb,IK]at this;unfold fZ;rw[IK];exact this
theorem rd{b c:Type}{f:b->List c}:∀(l:List b),(∀x∈l,(f x).length<=n)->(l.flatMap f).length<=l.length*n
 | [],_=>by simp
 | a::r,h=>by
   rw[List.flatMap_cons,Jo,Js,Nat.succ_mul];have:=h a IV;have:=rd r λx d=>h x (IZ _ d);walk_at "o"
theorem nQ(a:∀p∈ps,good N p)(b:ps.Nodup)(c:N<=6):∀k,(bU ps k [[h]]).length<=6 ^ k
 | 0=>by simp[bU]
 | k+1=>by
   rw[f6];have:=rd (n:=N) (bU ps k [[h]]) λw _=>qZ a b w;have d:=nQ a b c k
   calc _<=_:=this
    _<=6 ^ k*6:=Ql d c
    _=6 ^ (k+1):=(Nat.pow_succ ..).symm
end
noncomputable def E4(ps:List (Int×Int))(h:Int)(j:Nat):List (List Int):=(Ju j).flatMap λk=>bU ps k [[h]]
def f7(ps:List (Int×Int))(h:Int)(j:Nat):E4 ps h (j+1)=E4 ps h j++bU ps j [[h]]:=by
 unfold E4;rw[List.range_succ,Qx];simp
def f8{N:Nat}{h:Int}(a:∀p∈ps,good N p)(b:0<=h/\h<N)(w:List Int):w∈E4 ps h N↔cj N ps h w:=by
 unfold E4;rw[List.mem_flatMap];constructor
 .rintro⟨k,_,c⟩;exact((j3 a b k w).mp c).1
 .intro x;have d:=x.len;have e:0<w.length:=Lu.mpr x.ne;exact⟨w.length - 1,Kr.mpr (by walk_at "o"),(j3 a b _ w).mpr ⟨x,by walk_at "o"⟩⟩
def Gr{N:Nat}{h:Int}(b:∀p∈ps,good N p)(c:0<=h/\h<N)(f:j<=N)(e:bU ps j [[h]]=[]):E4 ps h j=E4 ps h N:=by
 have a:∀d,bU ps (j+d) [[h]]=[]/\E4 ps h (j+d)=E4 ps h j:=by
  intro d;induction d with
  | zero=>exact⟨e,rfl⟩
  | succ d ih=>
    refine⟨by rw[<-Nat.add_assoc,f6,ih.1];rfl,?_⟩;rw[<-Nat.add_assoc,f7,ih.1,ih.2,Kn]
 have:=(a (N - j)).2;rw[show j+(N - j)=N by walk_at "o"]at this;exact this.symm
theorem rf{N:Nat}(b:∀p∈ps,good N p)(c:ps.Nodup)(d:N<=6):∀j,j<=6->(E4 ps h j).length<=56000
 | j,e=>by
   have a:∀k,(bU ps k [[h]]).length<=6 ^ k:=nQ b c d;have s:∀j,(E4 ps h (j+1)).length=(E4 ps h j).length+(bU ps j [[h]]).length:=λj=>by rw[f7,Jo]
   have z:(E4 ps h 0).length=0:=rfl;have f:(E4 ps h 1).length=(E4 ps h 0).length+(bU ps 0 [[h]]).length:=s 0;have g:(E4 ps h 2).length=(E4 ps h 1).length+(bU ps 1 [[h]]).length:=s 1;have i:(E4 ps h 3).length=(E4 ps h 2).length+(bU ps 2 [[h]]).length:=s 2;have l:(E4 ps h 4).length=(E4 ps h 3).length+(bU ps 3 [[h]]).length:=s 3;have m:(E4 ps h 5).length=(E4 ps h 4).length+(bU ps 4 [[h]]).length:=s 4;have n:(E4 ps h 6).length=(E4 ps h 5).length+(bU ps 5 [[h]]).length:=s 5;have o:=a 0;have q:=a 1;have r:=a 2;have u:=a 3;have v:=a 4;have w:=a 5;match j,e with
   | 0,_=>walk_at "o"
   | 1,_=>walk_at "o"
   | 2,_=>walk_at "o"
   | 3,_=>walk_at "o"
   | 4,_=>walk_at "o"
   | 5,_=>walk_at "o"
   | 6,_=>walk_at "o"
def Gs:50000<=LIM:=by unfold LIM;walk_at "o"
def wa:56000<=LIM:=by unfold LIM;walk_at "o"
def Gu:70000<=LIM:=by unfold LIM;walk_at "o"
def wb(w:List Int):plain (tv w)=true:=n5 w
def bN(W:List (List Int)):G8 (cf W)=true:=by
 unfold G8 cf;rw[List.all_map,Jy];exact λw _=>wb w
section
variable{A:PHp}{N:Nat}{ps:List (Int×Int)}{h:Int}{q:Nat}
def gR(b:B[q]?=some (.lst (aL ps)))(o:ps.length<64)(c:w≠[])(e:w.length<=10):Wp (R7 [some (.ref q),f,g,j,some (tv w)]) B (λv m=>v=.ref B.length/\m=B++[.lst (cf (fZ ps w))]) NoX:=by
 unfold R7;refine R6 (l:=aL ps) (λd=>∃x y,d=[x,y,some (tv w)]) (λv=>decide (jW v=O6 w)&&!decide (iA v∈w)) (λv=>tv (w++[iA v])) ?_;walk_at "go";refine⟨_,bg b,IM _,aI (by rw[aL,IK];walk_at "o"),⟨_,_,rfl⟩,λi=>S7 b i,?_,rfl,?_⟩
 .rintro v d n ⟨x,y,rfl⟩;obtain⟨p,r,rfl⟩:=vA n;have s:atI (w.map PV.int) (-1)=some (.int (O6 w)):=z9 c;unfold pv tv;walk_at "go";refine⟨rfl,⟨_,_,rfl⟩,?_⟩;walk_at "go";refine⟨λa=>?_,λa=>?_⟩
  .walk_at "go";refine⟨rfl,?_,λ_=>?_⟩
   .show _=(decide (p.1=O6 w)&&_);rw[a];rfl
   .walk_at "go";refine jR ⟨by simpa using c,aI (by simp;walk_at "o")⟩ ⟨rfl,?_⟩;show _=PV.tup ((w++[p.2]).map .int);rw[JC];rfl
  .refine⟨rfl,?_,λz=>(nomatch z)⟩;show _=(decide (p.1=O6 w)&&_);rw[a];rfl
 .congr 3;unfold aL cf fZ;rw[PU,Ji,Ji];rfl
def gS(P:J4 N ps)(C:B[q]?=some (.lst (aL ps)))(D:B[a]?=some (.lst (cf (bU ps k [[h]]))))(L:k<N)(e:0<=h/\h<N)(E:B[m]?=some (.lst [])) :
 Wp (R8 [some (.ref q),some (.ref a),l,some (.ref m),G]) B (λo c=>∃d f,o=.nx [some (.ref q),some (.ref a),l,some (.ref d),f]/\B<+:c/\c[d]?=some (.lst (cf (bU ps (k+1) [[h]])))) NoX:=by
 have g:=P.good;have y:N<=6:=by have:=P.hi;walk_at "o"
 unfold R8;refine qu (λi j c=>∃d f,j=[some (.ref q),some (.ref a),l,some (.ref d),f]/\B<+:c/\c[d]?=some (.lst (cf (((bU ps k [[h]]).take i).flatMap (fZ ps))))) ?_;walk_at "go";refine⟨a,cf (bU ps k [[h]]),rfl,⟨m,_,rfl,Jk _,E⟩,λi j c e=>?_,λi v j c p r=>?_,λj c e=>?_⟩
 .obtain⟨_,_,_,p1,_⟩:=e;exact K8 (ag p1 D)
 .obtain⟨d,f,rfl,p1,b⟩:=r;unfold cf at p;rw[Jm]at p;obtain⟨w,z,rfl⟩:=Jz.mp p;obtain⟨x,H⟩:=(j3 g e k w).mp (JD z);have s:=ag p1 C;walk_at "go";unfold bD;refine cU (kD ?_);walk_at "go";refine af (gR s P.len x.ne (by walk_at "o")) λv O e=>?_;obtain⟨rfl,rfl⟩:=e;have I:(bU ps k [[h]]).take (i+1)=(bU ps k [[h]]).take i++[w]:=by rw[LJ,z];rfl
  have Q:(((bU ps k [[h]]).take i).flatMap (fZ ps)).length<=(bU ps k [[h]]).length*6:=by
   refine Jt (rd (n:=6) _ λu _=>Jt (qZ g P.nd u) y) (Nat.mul_le_mul_right _ ?_);rw[KG];walk_at "o"
  have l2:(bU ps k [[h]]).length<=6 ^ 5:=Jt (nQ g P.nd y k) (NA (by decide) (by walk_at "o"));have T:=qZ g P.nd w;have J:(bU ps k [[h]]).length<=7776:=l2;refine dX (ai b) aj ?_ ?_
  .refine Jt ?_ (Gs);unfold cf;rw[IK,IK];walk_at "o"
  .walk_at "go";refine⟨_,_,rfl,D4 (D4 p1),?_⟩;rw[aj,I,Qx];unfold cf;simp
 .obtain⟨d,f,rfl,p1,b⟩:=e;unfold cf at b;rw[IK,LW]at b;exact⟨d,f,rfl,p1,by rw[f6];exact b⟩
def gT(P:J4 N ps)(L:A[q]?=some (.lst (aL ps)))(p:0<=h/\h<N)(O:A[a]?=some (.lst (cf [[h]]))):Wp (R0 [.ref q,.ref a]) A (λv A'=>∃n,v=.ref n/\A.length<=n/\A<+:A'/\A'[n]?=some (.lst (cf (E4 ps h N)))) NoX:=by
 have l:=P.good;have D:N<=6:=by have:=P.hi;walk_at "o"
 unfold R0;walk_at "fn";walk_at "gb";have Q:Wp (R9 [some (.ref q),some (.ref a),some (.ref A.length),none,none]) (A++[.lst []]) (λo A'=>∃c n f g,o=.nx [some (.ref q),some (.ref c),some (.ref n),f,g]/\A.length<=n/\A<+:A'/\A'[n]?=some (.lst (cf (E4 ps h N)))) NoX:=by
  unfold R9;refine vy (λm E B=>∃j c n f g,m+j=N+1/\j<=N/\E=[some (.ref q),some (.ref c),some (.ref n),f,g]/\A<+:B/\A.length<=n/\B[c]?=some (.lst (cf (bU ps j [[h]])))/\B[n]?=some (.lst (cf (E4 ps h j)))) (m:=N+1) (by walk_at "o") ⟨0,a,A.length,_,_,rfl,LU _,rfl,IL _ _,IM _,ai O,aj⟩ ?_;rintro m E B ⟨j,c,n,f,g,hm,T,rfl,p1,G,d,b⟩;refine nJ (kD ?_);walk_at "go";refine iz (ai d) aj ⟨bN _,rfl⟩ ⟨_,rfl,λi=>?_,λi=>?_⟩
  .have s:j<N:=by
    refine Nat.lt_of_not_le λz=>?_;rw[Gq l p z]at i;cases i
   unfold W2;refine bZ (cU (kD ?_));walk_at "go";have e1:=rf (h:=h) l P.nd D j (by walk_at "o");have U:(bU ps j [[h]]).length<=6 ^ 5:=Jt (nQ l P.nd D j) (NA (by decide) (by walk_at "o"));have e3:(bU ps j [[h]]).length<=7776:=U;refine dX (ai b) (ai d) ?_ ?_
   .refine Jt ?_ (Gu);unfold cf;rw[IK,IK];walk_at "o"
   have Y:cf (E4 ps h j)++cf (bU ps j [[h]])=cf (E4 ps h (j+1)):=by rw[f7];unfold cf;rw[JC]
   rw[Y];generalize H:B++[PO.lst []]++[PO.lst (cf (E4 ps h (j+1)))]=I;have u:B<+:I:=by rw[<-H];exact(IL _ _).trans (IL _ _)
   have w:I[(B++[PO.lst []]).length]?=some (.lst (cf (E4 ps h (j+1)))):=by rw[<-H];exact aj
   have y:A.length<=(B++[PO.lst []]).length:=by have:=p1.length_le;simp;walk_at "o"
   generalize(B++[PO.lst []]).length=n1 at *;walk_at "go";refine af (gS (h:=h) (k:=j) P (ai (ag u (ag p1 L))) (ai (ag u d)) s p aj) λo B2 e=>?_;obtain⟨m',a2,rfl,J,C⟩:=e;walk_at "go";exact⟨m - 1,by walk_at "o",j+1,m',n1,_,_,by walk_at "o",by walk_at "o",rfl,p1.trans (u.trans ((IL _ _).trans J)),y,C,ag J (ai w)⟩
  .have he:bU ps j [[h]]=[]:=by
    cases hl:bU ps j [[h]]with
    | nil=>rfl
    | cons x r=>rw[hl]at i;cases i
   exact⟨c,n,f,g,rfl,G,D4 p1,by rw[ai b,Gr l p T he]⟩
 refine af Q λo A1 e=>?_;obtain⟨c,n,f,g,rfl,G,p1,b⟩:=e;walk_at "go";exact b
noncomputable def chainsOf(ps:List (Int×Int))(L:List Int)(N:Nat)(h:Int):List (List Int):=(E4 ps h N).filter λw=>decide (O6 w∈L)
def di(P:J4 N ps)(m:A[q]?=some (.lst (aL ps)))(f:0<=h/\h<N)(o:A[l]?=some (.lst (L.map .int))):Wp (J9 [.ref q,.ref l,.int h]) A (λv A'=>∃n,v=.ref n/\A.length<=n/\A<+:A'/\A'[n]?=some (.lst (cf (chainsOf ps L N h)))) NoX:=by
 have g:=P.good;have p:N<=6:=by have:=P.hi;walk_at "o"
 unfold J9;walk_at "fn";refine dt ?_;unfold T4;refine z7 (E4 ps h N) tv tv (λw=>decide (O6 w∈L)) (λj=>∃x,j=[x,some (.ref l)]) ?_;walk_at "go";refine af (gT (h:=h) P (ai m) f aj) λv r c=>?_;obtain⟨n,rfl,y,p1,b⟩:=c;have d:A<+:r:=(IL _ _).trans p1;walk_at "go";refine⟨_,bg b,by simp[cf],Jt (rf g P.nd p N (by walk_at "o")) wa,⟨_,rfl⟩,λi B a=>S7 (ag a b) i,?_,?_⟩
 .rintro w j B s ⟨x,rfl⟩ a;have u:=ag (d.trans a) o;have e:=((f8 g f w).mp s).ne;have z:atI (w.map PV.int) (-1)=some (.int (O6 w)):=z9 e;unfold tv;walk_at "go";refine⟨rfl,⟨_,rfl⟩,?_⟩;walk_at "go";refine⟨rfl,Jk _,λ_=>?_⟩;walk_at "go";exact⟨rfl,Jk _⟩
 .intro B a;exact⟨_,rfl,Jt d.length_le a.length_le,D4 (d.trans a),aj⟩
def o7(P:J4 N ps)(b:0<=h/\h<N):w∈chainsOf ps L N h↔iD N ps L w/\w.head?=some h:=by
 unfold chainsOf;rw[JP,f8 P.good b];constructor
 .rintro⟨x,a⟩;refine⟨⟨⟨x.ne,?_⟩,x.nd,x.inn,x.st⟩,x.hd⟩;rw[qY];exact of_decide_eq_true a
 .rintro⟨⟨⟨c,a⟩,d,e,f⟩,g⟩;refine⟨⟨g,d,e,f⟩,?_⟩;rw[qY]at a;exact decide_eq_true a
end
noncomputable def kI(x k:Int):Int:=((x+7919*k+1)*48271%2147483647)*((x+7919*k+1)*48271%2147483647 / 1009+69621)%2147483647
noncomputable def mx(x k:Int):Int:=if(10:Int) ^ 60<x/\x%2=1 then Kv (x / 2 ^ (1+20*k).toNat) 1048575 else kI x k*(kI x k / 4099+40014)%2147483647
def Gv(x k:Int):0<=kI x k/\kI x k<2147483647:=by
 unfold kI;exact⟨MN _ (by decide),MO _ (by decide)⟩
def Gw(h:0<=a){m:Nat}:0<=Kv a m/\Kv a m<=m:=by
 unfold Kv;rw[decide_eq_true h,decide_eq_true (ME m)];have:a.toNat&&& m<=m:=Nat.and_le_right;simp only[La];walk_at "o"
def rg(x k:Int):0<=mx x k/\mx x k<2147483647:=by
 unfold mx;split
 .rename_i h;have a:(0:Int)<=x:=Int.le_of_lt (Int.lt_trans (by decide) h.1);have:=Gw (m:=1048575) (Int.ediv_nonneg a (Int.le_of_lt (Int.pow_pos (by decide):(0:Int)<2 ^ (1+20*k).toNat)));have e:((1048575:Nat):Int)=1048575:=rfl;rw[e]at this;walk_at "o"
 .exact⟨MN _ (by decide),MO _ (by decide)⟩
def Gx(q:Q (.int ((10:Int) ^ 60)) A):Wp (gs (.int 10) (.int 60)) A Q E:=C7 (by decide) q
def Gy(x:Int)(l:0<=k)(A:PHp):Wp (E1 [.int x,.int k]) A (λv f=>v=.int (mx x k)/\f=A) NoX:=by
 unfold E1;have a:¬((10:Int) ^ 60<x/\x%2=1)->∀B,Wp (ao (az (eBin aY (eBin cH (eBin aS (eBin aS (aa 0) (eBin cH (eK (.int 7919)) (aa 1))) (eK (.int 1))) (eK (.int 48271))) (eK (.int 2147483647))) (gName 2))
  (ao (az (eBin aY (eBin cH (aa 2) (eBin aS (eBin bw (aa 2) (eK (.int 1009))) (eK (.int 69621)))) (eK (.int 2147483647))) (gName 2))
  (aw (eBin aY (eBin cH (aa 2) (eBin aS (eBin bw (aa 2) (eK (.int 4099))) (eK (.int 40014)))) (eK (.int 2147483647))))) [some (.int x),some (.int k),none]) B (λo g=>o=.rt (.int (mx x k))/\g=B) NoX:=λh B=>by
  walk_at "gb";refine w_mul (.inl (by decide)) ?_;walk_at "gb";refine w_mul (.inr (by decide)) ?_;walk_at "gb";refine w_mul (.inl ?_) ?_
  .have c:=MN ((x+7919*k+1)*48271) (by decide:(2147483647:Int)≠0);have d:=MO ((x+7919*k+1)*48271) (by decide:(0:Int)<2147483647);walk_at "o"
  walk_at "gb";refine w_mul (.inl ?_) ?_
  .have:=Gv x k;unfold kI at this;walk_at "o"
  walk_at "gb";refine⟨?_,rfl⟩;unfold mx;rw[if_neg h];rfl
 walk_at "fn";walk_at "gb";refine Gx ?_;generalize i:(10:Int) ^ 60=T at *;walk_at "gb";refine⟨λb=>?_,λb=>?_⟩
 .have c:T<x:=by simpa using b
  walk_at "gb";refine⟨λb=>?_,λb=>?_⟩
  .have d:x%2=1:=by simpa using b
   walk_at "gb";refine w_mul (.inl (by decide)) ?_;walk_at "gb";refine⟨?_,rfl⟩;unfold mx;rw[i,if_pos ⟨c,d⟩]
  .have d:¬x%2=1:=by simpa using b
   refine U5 ?_;dsimp only;refine af (a (λz=>d z.2) A) λo j e=>?_;obtain⟨rfl,rfl⟩:=e;exact⟨rfl,rfl⟩
 .have c:¬T<x:=by simpa using b
  refine⟨λz=>absurd z (by simp),λ_=>?_⟩;refine U5 ?_;dsimp only;refine af (a (λz=>c z.1) A) λo j e=>?_;obtain⟨rfl,rfl⟩:=e;exact⟨rfl,rfl⟩
def bh(x k:Int)(A:PHp)(a:0<=k:=by omega):E1 [.int x,.int k] A=.ok (.int (mx x k)) A:=by
 obtain⟨v,b,e,rfl,rfl⟩:=nI (Gy x a A);exact e
set_option maxHeartbeats 2000000 in
def Gz{P w r g dl h N l:Nat}{f:Int×Int->Int}(b:cc A P w r N ps L f g dl h)(i:J4 N ps)(j:A[l]?=some (.lst (c.map .int)))(m:c.length<=1000) :
 Wp (D5 [.ref A.length,.ref P,.ref l]) (A++[.ins 2 []]) (λv A'=>v=.non/\A<+:A'/\bc A' ⟨N,ps,L,f,c,P,w,r,g,dl,h,A.length⟩ ⟨1,[],[],[],0⟩) NoX:=by
 unfold D5;have n:=C5 j;have o:=C5 b.web.ob;have p:=C5 b.web.ls;have q:=C5 b.ob;have s:=C5 b.ls;have u:=C5 b.ld;have x:=C5 b.lk;walk_at "fn";walk_at "gb";simp only[putFld,Nat.reduceEqDiff,if_false,LO,Jo,Js,Kc,PR];refine⟨trivial,?pre,⟨b.mono (A:=A) ?pr2,?ob,?fl,?tl,?sl,?ul,λe y=>(nomatch y),⟨q,o,p,s,u,x⟩,λa d=>(nomatch d),.nil,.nil,.nil,λa d=>(nomatch d),i,by simp⟩⟩
 case pre=>walk_at "pre"
 case pr2=>walk_at "pre"
 case ob=>
  show _=some (PO.ins 2 [(6,.ref P),(7,.ref (A.length+1)),(11,.tup (c.map .int)),(12,.int 1),(13,.ref (A.length+1+1)),(14,.ref (A.length+1+1+1)),(15,.ref (A.length+1+1+1+1))]);walk_at "st"
 case fl=>walk_at "st"
 case tl=>show(_:PHp)[A.length+1+1]?=some (PO.dT []);walk_at "st"
 case sl=>show(_:PHp)[A.length+1+1+1]?=some (PO.dT []);walk_at "st"
 case ul=>show(_:PHp)[A.length+1+1+1+1]?=some (PO.dT []);walk_at "st"
noncomputable def f9:Nat->Ki
 | 12=>"deed"
 | 13=>"laid"
 | 14=>"notlaid"
 | 15=>"late"
 | _=>"unknown"
def R3(a:plain d=true):Wp (ao (aP (tOr (aq (eBin cD (aa 3) (aa 1))) (tNot (aq (aa 4)))) (aw (eK (.str "odd"))) sPass) (aw (aa 2)) [some (.ref G),some d,some (.str w),some d,some (.bl true),none]) B (λo e=>o=.rt (.str w)/\e=B) NoX:=by
 have b:bJ d d=true:=(oU d d a).mpr rfl;walk_at "gb";refine ix a a ?_;rw[b];walk_at "gb";exact⟨rfl,rfl⟩
def rh{d:PV}(g:plain d=true)(n:A[G]?=some (.ins 2 fs)){R:PHp->Prop}{RX:Nat->PHp->Prop}
 (j:Wp (G6 [.ref G,d]) (A++[.lst [.str "none",.str "odd"]]) (λv e=>v=.non/\e[A.length]?=some (.lst [.str "none",.str "odd"])/\R e) (λk v e=>(k=12\/k=13\/k=14\/k=15\/k=16)/\v=d/\RX k e)) :
 Wp (J1 [.ref G,d]) A (λv e=>(v=.str "none"/\R e)\/∃k b,(k=12\/k=13\/k=14\/k=15\/k=16)/\RX k b/\b<+:e/\v=.str (f9 k)) NoX:=by
 unfold J1;walk_at "fn";walk_at "gb";refine FJ ?_;walk_at "gb";refine bx j (λv b a=>?_) (λk v b a=>?_)
 .obtain⟨rfl,l,f⟩:=a;have i:atI [PV.str (Jd "none"),PV.str (Jd "odd")] (if(!kh PV.non)=true then 1 else 0)=some (.str "none"):=rfl;refine⟨_,rfl,bY l i (V6 ?_)⟩;dsimp only[List.set];refine af (R3 g) λo h a=>?_;obtain⟨rfl,rfl⟩:=a;exact .inl ⟨rfl,f⟩
 .obtain⟨m,rfl,f⟩:=a;rcases m with rfl | rfl | rfl | rfl | rfl
  .refine⟨by decide,d7 rfl ?_⟩;walk_at "gb";rw[show bS 12 16=false from rfl];dsimp only[ja,List.set];refine af (R3 g) λo h a=>?_;obtain⟨rfl,rfl⟩:=a;exact .inr ⟨12,b,.inl rfl,f,IL _ _,rfl⟩
  .refine⟨by decide,O5 rfl (d7 rfl ?_)⟩;walk_at "gb";rw[show bS 13 14=false from rfl];dsimp only[ja,List.set];refine af (R3 g) λo h a=>?_;obtain⟨rfl,rfl⟩:=a;exact .inr ⟨13,b,.inr (.inl rfl),f,IL _ _,rfl⟩
  .refine⟨by decide,O5 rfl (O5 rfl (d7 rfl ?_))⟩;walk_at "gb";rw[show bS 14 13=false from rfl];dsimp only[ja,List.set];refine af (R3 g) λo h a=>?_;obtain⟨rfl,rfl⟩:=a;exact .inr ⟨14,b,.inr (.inr (.inl rfl)),f,IL _ _,rfl⟩
  .refine⟨by decide,O5 rfl (O5 rfl (O5 rfl (d7 rfl ?_)))⟩;walk_at "gb";rw[show bS 15 14=false from rfl];dsimp only[ja,List.set];refine af (R3 g) λo h a=>?_;obtain⟨rfl,rfl⟩:=a;exact .inr ⟨15,b,.inr (.inr (.inr (.inl rfl))),f,IL _ _,rfl⟩
  .refine⟨by decide,O5 rfl (O5 rfl (O5 rfl (O5 rfl (d7 rfl ?_))))⟩;walk_at "gb";rw[show bS 16 12=false from rfl];dsimp only[ja,List.set];refine af (R3 g) λo h a=>?_;obtain⟨rfl,rfl⟩:=a;exact .inr ⟨16,b,.inr (.inr (.inr (.inr rfl))),f,IL _ _,rfl⟩
def wc{B A':PHp}{A:PHp}(H:bc A c S)(st:cF c S a (A++[.lst [.str "none",.str "odd"]]) A'):A'[A.length]?=some (.lst [.str "none",.str "odd"]):=
 st.keep _ _ aj λz=>by
  have:=H.dlt A.length (by unfold dom;simp only[IT];simp[z]);walk_at "o"
def wd(st:cF c S a (A++[o]) A'):cF c S a A A':=(cF.pre (IL _ _)).trans st
def vSay_cases(p:Int×Int)(ch:List Int):V0 c S p ch=0\/V0 c S p ch=12\/V0 c S p ch=13\/V0 c S p ch=14\/V0 c S p ch=15\/V0 c S p ch=16:=by
 unfold V0;split
 .split
  .split
   .simp
   .split<;>simp
  .simp
 .simp
def vLay_cases(p:Int×Int):Z2 c S p=0\/Z2 c S p=12\/Z2 c S p=13:=by
 unfold Z2;split
 .split<;>simp
 .simp
def GA(p:Int×Int)(ch:List Int):plain (o4 p ch)=true:=by
 show([PV.str "say",pv p,.tup (ch.map .int)].all Y7)=true;have:Y7 (.tup (ch.map .int))=true:=by
  show(ch.map PV.int).all hU=true;rw[List.all_map];simp[Lq,hU]
 simp[this,pv,Y7,hU]
def GB(p:Int×Int):plain (o0 p)=true:=by
 show([PV.str "lay",pv p].all Y7)=true;simp[pv,Y7,hU]
def GC(H:bc A c S)(p:Int×Int)(h:ch.length<100)(i:S.m<2000):Wp (J1 [.ref c.G,o4 p ch]) A
 (λv b=>(v=.str "none"/\V0 c S p ch=0/\∃a,bc b c (P2 S p ch a)/\cF c S (P2 S p ch a) A b)\/(v=.str (f9 (V0 c S p ch))/\V0 c S p ch≠0/\A<+:b)) NoX:=by
 have j:=H.mono (IL A [.lst [.str "none",.str "odd"]]);refine af (rh (R:=λb=>V0 c S p ch=0/\∃a,bc b c (P2 S p ch a)/\cF c S (P2 S p ch a) A b) (RX:=λk b=>k=V0 c S p ch/\k≠0/\A<+:b) (GA p ch) H.ob (bx (Gj j p h i) (λv b f=>?_) λk v b f=>?_)) λv b f=>?_
 .obtain⟨rfl,e,a,g,st⟩:=f;exact⟨rfl,wc (B:=A) H st,e,a,g,wd st⟩
 .obtain⟨d,e,rfl,p1⟩:=f;refine⟨?_,rfl,d,e,(IL _ _).trans p1⟩;rcases vSay_cases (c:=c) (S:=S) p ch with z | z | z | z | z | z
  .exact absurd (d.trans z) e
  .exact .inl (d.trans z)
  .exact .inr (.inl (d.trans z))
  .exact .inr (.inr (.inl (d.trans z)))
  .exact .inr (.inr (.inr (.inl (d.trans z))))
  .exact .inr (.inr (.inr (.inr (d.trans z))))
 .rcases f with⟨rfl,e,a,g,st⟩ | ⟨k,n,_,⟨d,e,p1⟩,l,rfl⟩
  .exact .inl ⟨rfl,e,a,g,st⟩
  .exact .inr ⟨by rw[d],by rw[<-d];exact e,p1.trans l⟩
def GF(H:bc A c S)(p:Int×Int):Wp (J1 [.ref c.G,o0 p]) A
 (λv a=>(v=.str "none"/\Z2 c S p=0/\bc a c (X9 S p)/\cF c S (X9 S p) A a)\/(v=.str (f9 (Z2 c S p))/\Z2 c S p≠0/\A<+:a)) NoX:=by
 have g:=H.mono (IL A [.lst [.str "none",.str "odd"]]);refine af (rh (R:=λa=>Z2 c S p=0/\bc a c (X9 S p)/\cF c S (X9 S p) A a) (RX:=λk a=>k=Z2 c S p/\k≠0/\A<+:a) (GB p) H.ob (bx (Gi g p) (λv a e=>?_) λk v a e=>?_)) λv a e=>?_
 .obtain⟨rfl,b,f,st⟩:=e;exact⟨rfl,wc (B:=A) H st,b,f,wd st⟩
 .obtain⟨d,b,rfl,rfl⟩:=e;refine⟨?_,rfl,d,b,IL _ _⟩;rcases vLay_cases (c:=c) (S:=S) p with z | z | z
  .exact absurd (d.trans z) b
  .exact .inl (d.trans z)
  .exact .inr (.inl (d.trans z))
 .rcases e with⟨rfl,b,f,st⟩ | ⟨k,i,_,⟨d,b,p1⟩,h,rfl⟩
  .exact .inl ⟨rfl,b,f,st⟩
  .exact .inr ⟨by rw[d],by rw[<-d];exact b,p1.trans h⟩
def GG(N:Nat)(i:Nat):((S9 N).map PV.int)[i]?=((Ju N).map λ(k:Nat)=>PV.int (k:Int))[i]?:=by unfold S9;rw[Ji];rfl
theorem we(f:Int×Int->PV):∀a:List (Int×Int),gg (a.map λp=>.tup [pv p,f p])=some (a.map λp=>(l2 p,f p))
 | []=>rfl
 | p::r=>by
   show(O8 _).bind _=_;rw[we f r];rfl
theorem wg:∀(m a:DT),(m.map (·.1)).Nodup->(∀k∈m.map (·.1),k∉a.map (·.1))->m.foldl (λa p=>T9 a p.1 p.2) a=a++m
 | [],a,_,_=>by simp
 | p::r,a,d,h=>by
   have b:=KA.mp d;show r.foldl _ (T9 a p.1 p.2)=_;rw[i9 (h p.1 (by simp)),wg r _ b.2 λk c=>?_]
   .simp
   .rw[JC,Jx];rintro(z | z)
    .exact h k (IZ _ c) z
    .have:k=p.1:=by simpa using z
     rw[this]at c;exact b.1 c
def GH{ps:List (Int×Int)}(e:ps.Nodup)(f:Int×Int->PV):(ps.map λp=>(l2 p,f p)).foldl (λc p=>T9 c p.1 p.2) []=ps.map λp=>(l2 p,f p):=by
 rw[wg _ [] ?_ (λ_ _ z=>nomatch z)]
 .rfl
 .rw[Ji];exact NC.map _ (λa b d z=>d (n9 z)) e
def wh(kn:(S.says.map (·.1)).Nodup)(q:Int×Int):rowsAt (P2 S p ch a) q=if q=p then rowsAt S q++[(S.now,ch)] else rowsAt S q:=by
 unfold rowsAt P9;by_cases c:(P9 S p).isSome=true
 .have e:(P2 S p ch a).says=S.says.map (M7 S p ch):=by unfold P2;simp only;rw[if_pos c]
  rw[e];have lk:∀(l:List ((Int×Int)×Nat×List (Int×List Int))),look (l.map (M7 S p ch)) q=(look l q).map λe=>if q=p then(e.1,e.2++[(S.now,ch)]) else e:=by
   intro l;induction l with
   | nil=>rfl
   | cons x r ih=>
     show(if(M7 S p ch x).1=q then some (M7 S p ch x).2 else look (r.map (M7 S p ch)) q)=(if x.1=q then some x.2 else look r q).map _;rw[(d9 x).1];by_cases d:x.1=q
     .rw[if_pos d,if_pos d];unfold M7;by_cases b:q=p
      .rw[if_pos (d.trans b),NS,if_pos b]
      .rw[if_neg (λz=>b (d.symm.trans z)),NS,if_neg b]
     .rw[if_neg d,if_neg d];exact ih
  rw[lk];by_cases b:q=p
  .subst b;rw[if_pos rfl];cases f:look S.says q with
   | none=>unfold P9 at c;rw[f]at c;cases c
   | some e=>simp
  .rw[if_neg b];cases look S.says q<;>simp[b]
 .have g:P9 S p=none:=by simpa using c
  have e:(P2 S p ch a).says=S.says++[(p,a,[(S.now,ch)])]:=by unfold P2;simp only;rw[if_neg c]
  rw[e,vT];by_cases b:q=p
  .subst b;have:look S.says q=none:=g;rw[this,if_pos rfl,vU,if_pos rfl];rfl
  .rw[if_neg b,vU,if_neg (Kk b)];cases look S.says q<;>rfl
def GI{a:Type}{W:List ((Int×Int)×a)}(h:p∈W.map (·.1)):∃e,look W p=some e:=by
 cases b:look W p with
 | none=>exact absurd h (look_none.mp b)
 | some e=>exact⟨e,rfl⟩
def GJ(p:Int×Int):iE 4 (pv p):=.tup (by simp) λv a=>by
 simp at a;rcases a with rfl | rfl<;>exact .int
def GK{A:PHp}{a b:Nat}(e:A[a]?=some o)(f:A[b]?=some d)(c:o≠d):a≠b:=λz=>c (by rw[z,f]at e;exact(Jw e).symm)
theorem wj:∀{ps:List (Int×Int)},ps.Pairwise (λp q=>p.1<q.1\/(p.1=q.1/\p.2<q.2))->srt ps=ps
 | [],_=>rfl
 | p::r,h=>by
   have k:=JQ.mp h;show Y8 gk p (srt r)=p::r;rw[wj k.2];cases r with
   | nil=>rfl
   | cons q r=>
     have a:=k.1 q (by simp);have:gk q p=false:=by
      unfold gk l2;simp only[D0];have b:¬q.1<p.1:=by walk_at "o"
      have c:¬(q.1=p.1/\q.2<p.2):=by walk_at "o"
      by_cases e:q.1=p.1<;>simp_all<;>walk_at "o"
     unfold Y8;rw[this];rfl
noncomputable def ordT(c:Int)(N:Nat):List (List Int):=(Ju N).map λ(k:Nat)=>[mx c (20+k),(k:Int)]
noncomputable def g9(c:Int)(N:Nat):List Int:=(D7 D0 (ordT c N)).map λt=>t.getD 1 0
def GN(c:Int)(N:Nat):(g9 c N).Perm (S9 N):=by
 unfold g9;refine((H9 _ _).map _).trans ?_;unfold ordT S9;rw[Ji];exact List.Perm.refl _
noncomputable def ringL(c:Int)(N:Nat):List (Int×Int):=(Ju N).map λ(k:Nat)=>((g9 c N).getD (if k=0 then N - 1 else k - 1) 0,(g9 c N).getD k 0)
def GO:∀t∈ordT c N,t≠[]:=λt a=>by
 unfold ordT at a;obtain⟨k,_,rfl⟩:=IU.mp a;simp
def rm(b:k<N):∃u,atI ((D7 D0 (ordT c N)).map λt=>PV.tup (t.map .int)) (k:Int)=some (.tup [.int u,.int ((g9 c N).getD k 0)]):=by
 have d:(D7 D0 (ordT c N)).length=N:=by rw[(H9 _ _).length_eq];simp[ordT]
 have a:(D7 D0 (ordT c N))[k]'(by walk_at "o")∈ordT c N:=(H9 D0 (ordT c N)).mem_iff.mp (Ly _);rw[EO (by rw[IK];walk_at "o")];unfold g9;have e:((D7 D0 (ordT c N)).map λt=>t.getD 1 0).getD k 0=((D7 D0 (ordT c N))[k]'(by walk_at "o")).getD 1 0:=by
  simp[show k<(D7 D0 (ordT c N)).length by walk_at "o"]
 rw[e,Nv];generalize(D7 D0 (ordT c N))[k]'(by walk_at "o")=t at a;unfold ordT at a;obtain⟨j,_,rfl⟩:=IU.mp a;exact⟨_,rfl⟩
def GP(d:2<=N)(e:k<N):∃u,atI ((D7 D0 (ordT c N)).map λt=>PV.tup (t.map .int)) ((k:Int) - 1)=some (.tup [.int u,.int ((g9 c N).getD (if k=0 then N - 1 else k - 1) 0)]):=by
 have b:(D7 D0 (ordT c N)).length=N:=by rw[(H9 _ _).length_eq];simp[ordT]
 by_cases h:k=0
 .subst h;obtain⟨u,a⟩:=rm (c:=c) (N:=N) (k:=N - 1) (by walk_at "o");refine⟨u,?_⟩;rw[if_pos rfl,<-a];unfold atI ixN;rw[if_neg (by walk_at "o"),if_pos (by rw[IK];walk_at "o"),if_pos (by walk_at "o"),if_pos (by rw[IK];walk_at "o")];rw[IK,b];congr 2;walk_at "o"
 .obtain⟨u,a⟩:=rm (c:=c) (N:=N) (k:=k - 1) (by walk_at "o");refine⟨u,?_⟩;rw[if_neg h,<-a];congr 1;walk_at "o"
def GQ{N:Nat}(m:2<=N){h:Int}(i:0<=h/\h<N):∃g,(g,h)∈ringL c N/\good N (g,h):=by
 have b:=GN c N;have n:(g9 c N).length=N:=by rw[b.length_eq,bb]
 have l:(g9 c N).Nodup:=b.nodup_iff.mpr (Fp N);have f:∀k (d:k<N),(g9 c N).getD k 0=(g9 c N)[k]'(by walk_at "o"):=λk d=>by simp[show k<(g9 c N).length by walk_at "o"]
 have g:∀k,k<N->0<=(g9 c N).getD k 0/\(g9 c N).getD k 0<N:=λk d=>by
  rw[f k d];exact mem_hands.mp (b.mem_iff.mp (Ly _))
 obtain⟨k,d,e⟩:=KS.mp (b.mem_iff.mpr (mem_hands.mpr i));have a:k<N:=by walk_at "o"
 have j:(if k=0 then N - 1 else k - 1)<N:=by split<;>walk_at "o"
 refine⟨(g9 c N).getD (if k=0 then N - 1 else k - 1) 0,IU.mpr ⟨k,Kr.mpr a,by rw[f k a,e]⟩,g _ j,i,λz=>?_⟩;simp only at z;rw[f _ j,<-e]at z;have:=(Pc l).mp z;split at this<;>walk_at "o"
def GR{N:Nat}(e:N<=6):Wp (N0 [some (.int c),some (.int N),none,none,none,none,none,none]) A (λv b=>v=.ref A.length/\b=A++[.lst ((ordT c N).map λt=>.tup (t.map .int))]) NoX:=by
 unfold N0;refine R6 (l:=(Ju N).map λ(k:Nat)=>PV.int (k:Int)) (λa=>∃x,a=[x,some (.int c)]) (λ_=>true) (λv=>match v with | .int k=>.tup [.int (mx c (20+k)),.int k] | _=>.non) ?_;walk_at "go";refine⟨by simp,by simp;exact aI (by walk_at "o"),⟨_,rfl⟩,λi=>d0 _ _,?_,rfl,?_⟩
 .rintro v a d ⟨x,rfl⟩;obtain⟨k,f,rfl⟩:=IU.mp d;walk_at "go";refine⟨rfl,⟨_,rfl⟩,?_⟩;walk_at "go";refine⟨rfl,rfl,λ_=>?_⟩;walk_at "go";refine w_eq (bh _ _ _) ?_;walk_at "go";exact⟨rfl,rfl⟩
 .rw[JZ.mpr (by simp)];unfold ordT;simp[Ji,Lq]
def dG{N q:Nat}(d:2<=N)(j:N<=6)(m:A[q]?=some (.lst ((D7 D0 (ordT c N)).map λt=>.tup (t.map .int)))) :
 Wp (N1 [some (.int c),some (.int N),some (.ref q),none,none,none,none,none]) A (λv e=>v=.ref A.length/\e=A++[.lst (aL (ringL c N))]) NoX:=by
 unfold N1;refine R6 (l:=(Ju N).map λ(k:Nat)=>PV.int (k:Int)) (λb=>∃x,b=[x,some (.ref q)]) (λ_=>true) (λv=>match v with | .int k=>pv ((g9 c N).getD (if k=0 then N - 1 else k.toNat - 1) 0,(g9 c N).getD k.toNat 0) | _=>.non) ?_;walk_at "go";refine⟨by simp,by simp;exact aI (by walk_at "o"),⟨_,rfl⟩,λi=>d0 _ _,?_,rfl,?_⟩
 .rintro v b f ⟨x,rfl⟩;obtain⟨k,a,rfl⟩:=IU.mp f;rw[Kr]at a;obtain⟨u,n⟩:=rm (c:=c) a;obtain⟨o,g⟩:=GP (c:=c) d a;walk_at "go";refine⟨rfl,⟨_,rfl⟩,?_⟩;walk_at "go";refine⟨rfl,rfl,λ_=>?_⟩;walk_at "go";refine⟨rfl,?_⟩;by_cases h:k=0
  .subst h;rfl
  .have:¬(k:Int)=0:=by walk_at "o"
   simp[pv,h,this]
 .rw[JZ.mpr (by simp)];unfold ringL;simp only[aL,Ji];congr 3;refine L3 λk a=>?_;by_cases h:k=0
  .subst h;rfl
  .have:¬(k:Int)=0:=by walk_at "o"
   simp[pv,h,this]
structure PG(N:Nat)(ps:List (Int×Int)):Prop where
 good:∀p∈ps,good N p
 nd:ps.Nodup
def PG.put(h:PG N ps)(g:Ws.good N (a,b))(c:(a,b)∉ps):PG N (ps++[(a,b)]):=by
 refine⟨λp d=>?_,?_⟩
 .rcases Jx.mp d with z | z
  .exact h.good p z
  .simp_all
 .rw[JV];exact⟨h.nd,by simp,λx f y i e=>c (by simp_all)⟩
def wk(ps:List (Int×Int))(p:Int×Int):aL ps++[pv p]=aL (ps++[p]):=by simp[aL]
def cR(ps:List (Int×Int)):(aL ps).length=ps.length:=by simp[aL]
structure PD(c:Int)(N i j:Nat)(ps:List (Int×Int)):Prop extends PG N ps where
 len:ps.length<=i*N+j
 lt:∀p∈ps,p.1<i\/(p.1=i/\p.2<j)
 up:ps.Pairwise (λp q=>p.1<q.1\/(p.1=q.1/\p.2<q.2))
 has:∀p∈ringL c N,Ws.good N p->(p.1<i\/(p.1=i/\p.2<j))->p∈ps
abbrev gU(c:Int)(N o r f:Nat)(x y z:Option PV):PSt:=[some (.int c),some (.int N),some (.ref o),some (.ref r),some (.ref f),x,y,z]
def GS(hN:N<=6)(hi:i<N)(pre:A<+:B)(hf:A.length<=f)(fr:r≠f)(hl:B[f]?=some (.lst (aL ps)))(hr:B[r]?=some (.lst (aL (ringL c N))))(D:PD c N i 0 ps)(x y:Option PV) :
 Wp (N2 (gU c N o r f (some (.int i)) x y)) B (λq E=>∃l G H,q=.nx (gU c N o r f (some (.int i)) G H)/\A<+:E/\E[f]?=some (.lst (aL l))/\E[r]?=some (.lst (aL (ringL c N)))/\PD c N (i+1) 0 l) NoX:=by
 unfold N2;refine vw (λj T E=>∃l G H,T=gU c N o r f (some (.int i)) G H/\A<+:E/\E[f]?=some (.lst (aL l))/\E[r]?=some (.lst (aL (ringL c N)))/\PD c N i j l) ?_;unfold gU;walk_at "go";refine⟨0,N,rfl,⟨ps,_,_,rfl,pre,hl,hr,D⟩,?_,?_⟩
 .rintro j T O hj ⟨l,G,H,rfl,p1,s,u,d⟩;have hb:i*N<=5*6:=Ql (by walk_at "o") hN;have a0:(aL l).length<LIM:=by rw[cR];exact aX (by have:=d.len;walk_at "o")
  have J:PD c N i j l->(i:Int)≠j->PD c N i (j+1) (l++[((i:Int),(j:Int))]):=λd m=>by
   refine⟨d.toPG.put ⟨by walk_at "o",by walk_at "o",m⟩ (λz=>by rcases d.lt _ z with h | h<;>simp at h),by have:=d.len;rw[Jo];simp;walk_at "o",λp n=>?_,?_,λp n C v=>?_⟩
   .rcases Jx.mp n with z | z
    .rcases d.lt p z with h | h
     .exact .inl h
     .exact .inr ⟨h.1,by have:=h.2;walk_at "o"⟩
    .rw[IS]at z;subst z;exact .inr ⟨rfl,by simp;walk_at "o"⟩
   .rw[List.pairwise_append];refine⟨d.up,by simp,λp n q hq=>?_⟩;rw[IS]at hq;subst hq;exact d.lt p n
   .by_cases e:p=((i:Int),(j:Int))
    .rw[e];simp
    .refine KR _ (d.has p n C ?_);obtain⟨a,b⟩:=p;simp at e v ⊢;walk_at "o"
  have skip:PD c N i j l->(good N ((i:Int),(j:Int))->((i:Int),(j:Int))∉ringL c N)->PD c N i (j+1) l:=λd m=>by
   refine⟨d.toPG,by have:=d.len;walk_at "o",λp n=>?_,?_,λp n C v=>d.has p n C ?_⟩
   .rcases d.lt p n with h | h
    .exact .inl h
    .exact .inr ⟨h.1,by have:=h.2;walk_at "o"⟩
   .exact d.up
   .have:p≠((i:Int),(j:Int)):=λz=>by subst z;exact m C n
    obtain⟨a,b⟩:=p;simp at this v ⊢;walk_at "o"
  walk_at "go";unfold aV;walk_at "go";refine w_mul (.inl (by walk_at "o")) ?_;walk_at "go";refine w_eq (bh _ _ _) ?_;walk_at "go";simp only[Int.zero_add];have nx:∀I w,A<+:I->I[f]?=some (.lst (aL w))->I[r]?=some (.lst (aL (ringL c N)))->PD c N i (j+1) w->∃l G H,[some (PV.int c),some (.int N),some (.ref o),some (.ref r),some (.ref f),some (.int i),some (.int j),some (.int (mx c (40+6*i+j)))]=[some (PV.int c),some (.int N),some (.ref o),some (.ref r),some (.ref f),some (.int i),G,H]/\A<+:I/\I[f]?=some (.lst (aL l))/\I[r]?=some (.lst (aL (ringL c N)))/\PD c N i (j+1) l:=λI w L Q U h4=>⟨w,_,_,rfl,L,Q,U,h4⟩;have Y:((i:Int)≠j)->A<+:O.set f (.lst (aL l++[PV.tup [.int i,.int j]]))/\(O.set f (.lst (aL l++[PV.tup [.int i,.int j]])))[f]?=some (.lst (aL (l++[((i:Int),(j:Int))])))/\(O.set f (.lst (aL l++[PV.tup [.int i,.int j]])))[r]?=some (.lst (aL (ringL c N))):=λ_=>⟨r6 p1 hf,by rw[aE s,<-wk];rfl,by rw[C6 fr];exact u⟩;refine⟨λL=>?_,λL=>?_⟩
  .have m:(i:Int)≠j:=by simpa using L
   obtain⟨s1,s2,s3⟩:=Y m;walk_at "go";refine⟨λQ=>?_,λQ=>?_⟩
   .walk_at "go";exact nx _ _ s1 s2 s3 (J d m)
   .walk_at "go";refine⟨λU=>?_,λU=>?_⟩
    .walk_at "go";exact nx _ _ s1 s2 s3 (J d m)
    .walk_at "go";exact nx _ _ p1 s u (skip d λ_=>by simpa using Q)
  .walk_at "go";exact nx _ _ p1 s u (skip d λg=>absurd (by simpa using L) g.2.2)
 .rintro T O ⟨l,G,H,rfl,p1,s,u,d⟩;refine⟨l,_,_,rfl,p1,s,u,d.toPG,by have:=d.len;rw[Nat.succ_mul];walk_at "o",λp n=>?_,d.up,λp n C v=>d.has p n C ?_⟩
  .rcases d.lt p n with h | h
   .left;walk_at "o"
   .left;walk_at "o"
  .have:=C.2.1.2;have:=C.2.1.1;simp at v;walk_at "o"
def GU{N:Nat}(Y:2<=N)(w:N<=6):Wp (L6 [.int c,.int N]) A (λv A'=>A<+:A'/\∃u r,v=.ref r/\A'[r]?=some (.lst (aL u))/\J4 N u/\srt u=u/\u.length<=36/\(∀h:Int,0<=h/\h<N->∃g,(g,h)∈u)/\A.length<=r) NoX:=by
 unfold L6;walk_at "fn";walk_at "go";refine af (GR w) λv A1 l=>?_;obtain⟨H,I⟩:=l;subst H;subst I;have hs:i3 ((ordT c N).map λt=>.tup (t.map .int)) (A++[.lst ((ordT c N).map λt=>.tup (t.map .int))])=.ok ((D7 D0 (ordT c N)).map λt=>.tup (t.map .int)) (A++[.lst ((ordT c N).map λt=>.tup (t.map .int))]):=r8 (by simp[ordT];walk_at "o") GO;refine⟨_,_,_,rfl,aj,hs,?_⟩;have D:(A++[PO.lst ((ordT c N).map λt=>PV.tup (t.map .int))]++[.lst ((D7 D0 (ordT c N)).map λt=>.tup (t.map .int))])[(A++[PO.lst ((ordT c N).map λt=>PV.tup (t.map .int))]).length]?=some (.lst ((D7 D0 (ordT c N)).map λt=>.tup (t.map .int))):=aj;have a:A<+:A++[PO.lst ((ordT c N).map λt=>PV.tup (t.map .int))]++[.lst ((D7 D0 (ordT c N)).map λt=>.tup (t.map .int))]:=D4 (IL _ _);generalize hB:A++[PO.lst ((ordT c N).map λt=>PV.tup (t.map .int))]++[.lst ((D7 D0 (ordT c N)).map λt=>.tup (t.map .int))]=B at D a ⊢;generalize(A++[PO.lst ((ordT c N).map λt=>PV.tup (t.map .int))]).length=o at D ⊢;clear hB hs;walk_at "go";refine af (dG Y w D) λv A1 l=>?_;obtain⟨H,I⟩:=l;subst H;subst I;walk_at "go";have J:(B++[PO.lst (aL (ringL c N))]++[.lst []])[B.length]?=some (.lst (aL (ringL c N))):=ai aj;have O:(B++[PO.lst (aL (ringL c N))]++[.lst []])[(B++[PO.lst (aL (ringL c N))]).length]?=some (.lst (aL [])):=aj;have j:A<+:B++[PO.lst (aL (ringL c N))]++[.lst []]:=D4 (D4 a);have m:A.length<=(B++[PO.lst (aL (ringL c N))]).length:=by rw[Jo];have:=zR a;walk_at "o"
 have n:B.length≠(B++[PO.lst (aL (ringL c N))]).length:=by simp
 generalize B++[PO.lst (aL (ringL c N))]++[.lst []]=C at J O j ⊢;generalize(B++[PO.lst (aL (ringL c N))]).length=f at O m n ⊢;generalize B.length=r at J n ⊢;have L:Wp (N3 (gU c N o r f none none none)) C (λq s=>∃b x y z,q=.nx (gU c N o r f x y z)/\A<+:s/\s[f]?=some (.lst (aL b))/\PD c N N 0 b) NoX:=by
  unfold N3;refine vw (λi σ s=>∃b x y z,σ=gU c N o r f x y z/\A<+:s/\s[f]?=some (.lst (aL b))/\s[r]?=some (.lst (aL (ringL c N)))/\PD c N i 0 b) ?_;unfold gU;walk_at "go";refine⟨0,N,rfl,⟨[],_,_,_,rfl,j,O,J,⟨⟨by simp,by simp⟩,by simp,by simp,.nil,λp hp E h=>?_⟩⟩,?_,?_⟩
  .have:=E.1.1;have:=E.2.1.1;simp at h;walk_at "o"
  .rintro i σ B1 hi ⟨b,x,y,z,rfl,p1,d,G,e⟩;walk_at "go";unfold aW;rw[show(0:Int)+i=i by walk_at "o"];refine af (GS w hi p1 m n d G e y z) λo B2 l=>?_;obtain⟨rs,x',y',ho,p2,Q,T,D2⟩:=l;subst ho;exact⟨rs,_,_,_,rfl,p2,Q,T,D2⟩
  .rintro σ B1 ⟨b,x,y,z,rfl,p1,d,G,e⟩;exact⟨b,_,_,_,rfl,p1,d,e⟩
 refine af L λq s l=>?_;obtain⟨b,x,y,z,D,p1,d,e⟩:=l;subst D;unfold gU;walk_at "go";have U:b.length<=36:=by
  have:=e.len;have:N*N<=6*6:=Ql w w;walk_at "o"
 refine⟨b,f,rfl,d,⟨by walk_at "o",by walk_at "o",e.good,e.nd,by walk_at "o"⟩,wj e.up,U,λh hh=>?_,m⟩;obtain⟨g,hp,E⟩:=GQ (c:=c) Y hh;exact⟨g,e.has _ hp E (.inl E.1.2)⟩
def rq(h:A[n]?=some (.dS m))(q:b m A):Wp (jb n) A b E:=w_eq (a:=m) (by unfold jb;rw[h]) q
def GV(h:Wp (e1 σ) A (λx b=>Wp (e2 σ) b (λk a=>∃n i m v,x=.ref n/\k=.str i/\a[n]?=some (.dS m)/\m7 m i=some v/\Q v a) E) E):Wp (eSGet e1 e2 σ) A Q E:=
 B6 (af h λ_ _ c=>B6 (af c λ_ _ ⟨_,_,_,_,d,e,f,g,q⟩=>by subst d;subst e;exact B6 (rq f (by rw[g];exact q))))
def GW(h:Wp (e3 σ) A (λv b=>Wp (e1 σ) b (λx c=>Wp (e2 σ) c (λk a=>∃n i m,x=.ref n/\k=.str i/\a[n]?=some (.dS m)/\m.length<LIM/\QF (.nx σ) (a.set n (.dS (gv m i v)))) E) E) E):Wp (eh e1 e2 e3 σ) A QF E:=
 B6 (af h λ_ _ d=>B6 (af d λ_ _ e=>B6 (af e λ_ _ ⟨_,_,_,f,g,j,l,q⟩=>by subst f;subst g;exact B6 (rq j (C7 l q)))))
theorem wm{s:SD}{m:DT}(P:Nat->PSt->PHp->Prop)(hs:∀(i:Nat) p σ B,m[i]?=some p->P i σ B->Wp (g (.tup [.tup (p.1.map .int),p.2]) σ) B (λb e=>Wp (s b) e (λo c=>∃a,o=.nx a/\P (i+1) a c) E) E) :
 ∀(k i:Nat),m.length=i+k->∀σ B,P i σ B->Wp (mQ g s (m.drop i) σ) B (λd l=>P m.length d l) E
 | 0,i,f,σ,B,h=>by
   rw[List.drop_of_length_le (by walk_at "o")];exact w8 (by rw[f];exact h)
 | k+1,i,f,σ,B,h=>by
   have j:i<m.length:=by walk_at "o"
   rw[Oq j];refine B6 (af (hs i m[i] σ B (Jj j) h) λb e n=>B6 (af n λo c ⟨a,q,r⟩=>?_));subst q;exact wm P hs k (i+1) (by walk_at "o") a c r
def GX(P:Nat->PSt->PHp->Prop)(h:Wp (d σ) A (λx c=>∃n m,x=.ref n/\c[n]?=some (.dT m)/\P 0 σ (c.set n .hid)/\(∀σ B,P m.length σ B->B[n]?=some .hid/\QF (.nx σ) (B.set n (.dT m)))/\
 ∀(i:Nat) p σ B,m[i]?=some p->P i σ B->Wp (g (.tup [.tup (p.1.map .int),p.2]) σ) B (λe f=>Wp (s e) f (λo j=>∃b,o=.nx b/\P (i+1) b j) E) E) E):Wp (oY d g s σ) A QF E:=
 B6 (af h λx c l=>by
  obtain⟨n,m,q,r,u,he,hs⟩:=l;subst q;refine B6 (X6 r (B6 (w_eq (a:=()) (A':=c.set n .hid) rfl (B6 ?_))));refine af (wm P hs m.length 0 (by walk_at "o") σ _ u) λb B v=>?_;obtain⟨w,y⟩:=he b B v;exact B6 (w_eq (a:=()) (A':=B) (by unfold oX;rw[w]) (B6 (w_eq (a:=()) rfl y))))
def GY(h:Wp (e1 σ) A (λx b=>∃n ns,x=.ref n/\b[n]?=some (.lst (Nf .int ns))/\Wp (e2 σ) b (λy c=>∃k a,y=.ref k/\c[k]?=some (.lst (Nf .int a))/\(ns.length<900/\a.length<900)/\Q (.bl (V5 ns a)) c) E) E):Wp (kZ e1 e2 σ) A Q E:=
 B6 (af h λx b d=>by
  obtain⟨n,ns,e,f,g⟩:=d;subst e;refine B6 (X4 f (B6 (af g λy c i=>?_)));obtain⟨k,a,j,l,m,q⟩:=i;subst j;refine B6 (X4 l ?_);rw[O7,O7];exact C7 m q)
theorem nR:∀(r l:List Int),l.Nodup->(r.foldl metI l).Nodup/\∀x,x∈r.foldl metI l↔x∈l\/x∈r
 | [],l,h=>⟨h,λx=>by simp⟩
 | a::r,l,h=>by
   rw[PQ];rcases metI_cases l a with⟨b,e⟩ | ⟨b,e⟩
   .rw[e];obtain⟨c,d⟩:=nR r l h;refine⟨c,λx=>?_⟩;rw[d,IT];exact⟨λz=>z.elim .inl λz=>.inr (.inr z),λz=>z.elim .inl λz=>z.elim (λz=>.inl (by rw[z];exact b)) .inr⟩
   .rw[e];have g:(l++[a]).Nodup:=by
     rw[JV];exact⟨h,by simp,λx i y f z=>by simp at f;exact b (by rw[<-f,<-z];exact i)⟩
    obtain⟨c,d⟩:=nR r _ g;refine⟨c,λx=>?_⟩;rw[d,Jx,IS,IT,or_assoc]
def GZ(h:∀x∈ns,x∈b):V5 ns b=b.all λx=>decide (x∈ns):=by
 obtain⟨j,f⟩:=nR ns [] LX;obtain⟨l,g⟩:=nR b [] LX;have sub:∀x∈ns.foldl metI [],x∈b.foldl metI []:=λx c=>(g x).mpr (.inr (h x (((f x).mp c).resolve_left (by simp))));have a:(ns.all λx=>decide (x∈b))=true:=by simpa using h
 unfold V5;rw[a,Bool.and_true,Bool.eq_iff_iff,decide_eq_true_eq,Jy];unfold eB;refine⟨λe x c=>?_,λq=>?_⟩
 .by_cases z:x∈ns.foldl metI []
  .simpa using((f x).mp z).resolve_left (by simp)
  .have:=List.Nodup.length_le_of_subset (KA.mpr ⟨z,j⟩) (l₂:=b.foldl metI []) λy i=>by
    rcases IT.mp i with rfl | i
    .exact(g y).mpr (.inr c)
    .exact sub y i
   simp at this;walk_at "o"
 .have d:∀x∈b.foldl metI [],x∈ns.foldl metI []:=λx c=>(f x).mpr (.inr (by simpa using q x (((g x).mp c).resolve_left (by simp))));exact Nat.le_antisymm (j.length_le_of_subset sub) (l.length_le_of_subset d)
def rr{A:PHp}{v:PV}{R:PV->Prop}(h:A[n]?=some (.dS m))(e:m7 m i=some v)(q:R v):∃a b c d,PV.ref n=.ref a/\PV.str i=.str b/\A[a]?=some (.dS c)/\m7 c b=some d/\R d:=⟨n,i,m,v,rfl,rfl,h,e,q⟩
noncomputable def dw(b:Int)(a:Nat):List (Ki×PV):=[("turn",.int b),("lays",.ref (a+1)),("says",.ref (a+2)),("shown",.ref (a+3))]
def Ha:m7 (dw n a) "turn" = some (.int n):=rfl
def Hb:m7 (dw n a) "lays" = some (.ref (a+1)):=rfl
def Hc:m7 (dw n a) "says" = some (.ref (a+2)):=rfl
def He:m7 (dw n a) "shown" = some (.ref (a+3)):=rfl
def Hf:gv (dw n a) "turn" (.int m)=dw m a:=rfl
end Ws
local macro_rules | `(tactic| walk_at "s1")=>`(tactic| with_reducible first
 | refine Ws.GV ?_
 | refine Ws.GW ?_
 | refine Ws.GY ?_)
local macro_rules | `(tactic| walk_at "s3")=>`(tactic| ((with_reducible apply Ws.rr);(·walk_at "st");(·first | exact Ws.Ha | exact Ws.Hb | exact Ws.Hc | exact Ws.He)))
namespace Ws
structure cP(A:PHp)(a:Nat)(S:LS)(W:List ((Int×Int)×Nat)):Prop where
 ob:A[a]?=some (.dS (dw S.now a))
 tl:A[a+1]?=some (.dT (aR S))
 sl:A[a+2]?=some (.dT (W.map λe=>(l2 e.1,PV.ref e.2)))
 ul:A[a+3]?=some (.dT (X7 S))
 rows:∀e∈W,A[e.2]?=some (.lst ((rowsAt S e.1).map rowS))
 ks:W.map (·.1)=S.lays.map (·.1)
 hi:∀e∈W,a+3<e.2
 an:(W.map (·.2)).Nodup
noncomputable def sown(a:Nat)(W:List ((Int×Int)×Nat)):List Nat:=a::(a+1)::(a+2)::(a+3)::W.map (·.2)
section
variable{A B:PHp}{a:Nat}{c:bT}{S:LS}{W:List ((Int×Int)×Nat)}
def cP.keep(H:cP A a S W)(k:∀x∈sown a W,∀o,A[x]?=some o->B[x]?=some o):cP B a S W:=
 ⟨k _ (by simp[sown]) _ H.ob,k _ (by simp[sown]) _ H.tl,k _ (by simp[sown]) _ H.sl,k _ (by simp[sown]) _ H.ul,λe b=>k _ (by unfold sown;simp only[IT];exact .inr (.inr (.inr (.inr (IU.mpr ⟨e,b,rfl⟩))))) _ (H.rows e b),H.ks,H.hi,H.an⟩
def cP.mono(H:cP A a S W)(p:A<+:B):cP B a S W:=H.keep λ_ _ _ q=>ag p q
def cP.lt(H:cP A a S W):∀x∈sown a W,x<A.length:=λx b=>by
 unfold sown at b;simp only[IT]at b;rcases b with rfl | rfl | rfl | rfl | z
 .exact C5 H.ob
 .exact C5 H.tl
 .exact C5 H.sl
 .exact C5 H.ul
 .obtain⟨e,d,rfl⟩:=IU.mp z;exact C5 (H.rows e d)
def Hg:(dw n a).length<LIM:=aX (show 4<10000 by decide)
def kn:Nat->Fun
 | 0=>W3
 | k+1=>D6 (kn k)
theorem dm(H:cP A a S W)(j:A[e]?=some (.lst (c.fr.map .int))):∀(k:Nat){ch:List Int},ch≠[]->ch.length<=k->Wp (kn k [.ref a,.ref e,.tup (ch.map .int)]) A (λv l=>v=.bl (canB c S ch)/\l=A) NoX
 | 0,ch,b,f=>by cases ch with
   | nil=>exact absurd rfl b
   | cons _ _=>simp at f
 | k+1,ch,b,f=>by
   show Wp (D6 (kn k) [.ref a,.ref e,.tup (ch.map .int)]) A _ _;unfold D6;have p:=H.ob;have m:=H.ul;walk_at "fn";walk_at "gb";cases ch with
   | nil=>exact absurd rfl b
   | cons x r=>
     refine⟨λg=>?_,λg=>?_⟩
     .have h:r=[]:=by
       have:=of_decide_eq_true g;cases r with
       | nil=>rfl
       | cons _ _=>simp at this;walk_at "o"
      subst h;walk_at "gb";exact⟨rfl,rfl⟩
     .walk_at "gb";refine⟨dv (by simp),?_⟩;walk_at "gb";rw[en,<-OY];cases r with
      | nil=>simp at g
      | cons y r=>
        have q:atI (((x::y::r).drop 1).map PV.int) 0=some (.int y):=qS rfl;walk_at "gb";refine⟨λd=>?_,λd=>?_⟩
        .have i:y∈c.fr:=of_decide_eq_true d;walk_at "gb";refine af (dm H j k (ch:=y::r) (by simp) (by simp at f ⊢;walk_at "o")) λv s n=>?_;obtain⟨rfl,rfl⟩:=n;refine⟨?_,rfl⟩;unfold canB o5;rw[show(x::y::r).drop 1=y::r from rfl,Oc (by simpa using i)];rfl
        .have i:y∉c.fr:=of_decide_eq_false d;walk_at "gb";refine⟨_,_,kH _,m,?_⟩;rw[y9];have h:o5 c.fr (x::y::r)=y::r:=by
          unfold o5;rw[show(x::y::r).drop 1=y::r from rfl,Od (by simpa using i)]
         have o:(x::y::r).drop 1=y::r:=rfl;unfold canB dF;rw[h,o];cases X8 S (y::r)with
         | none=>
           walk_at "gb";simp;exact w8 ⟨rfl,rfl⟩
         | some t=>
           walk_at "gb";simp;exact w8 ⟨rfl,rfl⟩
def dH(H:cP A a S W)(e:A[d]?=some (.lst (c.fr.map .int)))(b:ch≠[])(f:ch.length<=6):Wp (P4 [.ref a,.ref d,.tup (ch.map .int)]) A (λv g=>v=.bl (canB c S ch)/\g=A) NoX:=dm H e 6 b f
end
noncomputable def md(k:Nat):Ki:=if k=0 then "none" else f9 k
section
variable{A B:PHp}{a q lv d fa:Nat}{c:bT}{S:LS}{W:List ((Int×Int)×Nat)}
structure eV(A:PHp)(q lv d fa:Nat)(c:bT):Prop where
 pq:A[q]?=some (.lst (aL c.ps))
 ll:A[lv]?=some (.lst (c.L.map .int))
 ld:∃m,A[d]?=some (.dT m)/\∀p∈c.ps,aD m (l2 p)=some (.int (c.f p))
 ff:A[fa]?=some (.lst (c.fr.map .int))
 pg:J4 c.N c.ps
def eV.keep(H:eV A q lv d fa c)(k:∀x,x=q\/x=lv\/x=d\/x=fa->∀o,A[x]?=some o->B[x]?=some o):eV B q lv d fa c:=
 ⟨k _ (by simp) _ H.pq,k _ (by simp) _ H.ll,let⟨m,b,e⟩:=H.ld;⟨m,k _ (by simp) _ b,e⟩,k _ (by simp) _ H.ff,H.pg⟩
def eV.mono(H:eV A q lv d fa c)(p:A<+:B):eV B q lv d fa c:=H.keep λ_ _ _ h=>ag p h
def eV.lt(H:eV A q lv d fa c):∀x,x=q\/x=lv\/x=d\/x=fa->x<A.length:=λx b=>by
 obtain⟨m,e,_⟩:=H.ld;rcases b with rfl | rfl | rfl | rfl
 .exact C5 H.pq
 .exact C5 H.ll
 .exact C5 e
 .exact C5 H.ff
def Hh(ch:List Int)(M:List (List Int)):df (.tup (ch.map .int)) (cf M)=decide (ch∈M):=by
 induction M with
 | nil=>simp[df,cf]
 | cons w r ih=>
   show(eqvs (w.map .int) (ch.map .int)||df _ (cf r))=_;rw[ih,i8];by_cases h:w=ch<;>by_cases b:ch∈r<;>simp[h,b];intro z;exact h z.symm
abbrev eW(q lv d:Nat):PV:=.tup [.ref q,.ref lv,.ref d]
def Hi(H:cP A a S W)(K:eV A q lv d fa c)(p:Int×Int):Wp (L7 [.ref a,eW q lv d,.ref fa,o0 p]) A (λv f=>v=.str (md (Z2 c S p))/\A<+:f) NoX:=by
 unfold L7 o0;have h:=H.ob;have i:=H.tl;have g:=K.pq;walk_at "fn";walk_at "gb";refine w9 ⟨rfl,rfl⟩ ?_;rw[show df (PV.str "lay") [.str "lay",.str "say"]=true from rfl];walk_at "gb";refine cV g ?_;walk_at "gb";refine⟨λb=>?_,λb=>?_⟩
 .have e:p∉c.ps:=by simpa using b
  walk_at "gb";refine⟨?_,Jk _⟩;unfold Z2;rw[if_neg e];rfl
 .have e:p∈c.ps:=by simpa using b
  walk_at "gb";rw[show aD (aR S) [p.1,p.2]=aD (aR S) (l2 p)from rfl,nP];unfold Z2;rw[if_pos e];cases K0 S p with
  | none=>
    refine bY aj rfl ?_;exact⟨rfl,IL _ _⟩
  | some t=>
    refine bY aj rfl ?_;exact⟨rfl,IL _ _⟩
def Hj(H:cP A a S W)(p:Int×Int):Wp (L7 [.ref a,eW q lv d,.ref fa,.tup [.str "open",pv p]]) A (λv A'=>v=.str "deed"/\A<+:A') NoX:=by
 unfold L7;walk_at "fn";walk_at "gb";refine w9 ⟨rfl,rfl⟩ ?_;rw[show df (PV.str "open") [.str "lay",.str "say"]=false from rfl];walk_at "gb";exact⟨rfl,Jk _⟩
def Hk(H:cP A a S W)(K:eV A q lv d fa c)(p:Int×Int)(T:ch.length<100):Wp (L7 [.ref a,eW q lv d,.ref fa,o4 p ch]) A (λv D=>v=.str (md (V0 c S p ch))/\A<+:D) NoX:=by
 unfold L7 o4;have U:=H.ob;have Y:=H.tl;have w:=K.pq;walk_at "fn";walk_at "gb";refine w9 ⟨rfl,rfl⟩ ?_;rw[show df (PV.str "say") [.str "lay",.str "say"]=true from rfl];walk_at "gb";refine cV w ?_;walk_at "gb";refine⟨λb=>?_,λb=>?_⟩
 .have i:p∉c.ps:=by simpa using b
  walk_at "gb";refine⟨?_,Jk _⟩;unfold V0;rw[if_neg λz=>i z.1];rfl
 .have i:p∈c.ps:=by simpa using b
  have x:=K.pg.good p i;have o:0<=p.2/\p.2<c.N:=by unfold good at x;simp at x;walk_at "o"
  walk_at "gb";refine dh (show atI [PV.int p.1,.int p.2] 1=some (.int p.2)from rfl) ?_;walk_at "gb";refine af (di K.pg w o K.ll) λv A1 e=>?_;obtain⟨n,rfl,_,p1,r⟩:=e;have s:=H.mono p1;have y:=K.mono p1;refine vr r ⟨wb ch,bN _⟩ ?_;rw[Hh];refine⟨_,rfl,λb=>?_,λb=>?_⟩
  .have r:ch∉chainsOf c.ps c.L c.N p.2:=by simpa using b
   walk_at "gb";refine⟨?_,p1⟩;unfold V0;rw[if_neg λz=>r ((o7 K.pg o).mpr z.2)];rfl
  .have j:ch∈chainsOf c.ps c.L c.N p.2:=by simpa using b
   have C:=(o7 K.pg o).mp j;have u:ch≠[]:=let⟨h,_⟩:=C.1.1;h;have l:ch.length<=6:=by
    have:=((f8 K.pg.good o _).mp (JP.mp j).1).len;have:=K.pg.hi;walk_at "o"
   have g1:=s.ob;have g2:=s.tl;have E:=y.ff;obtain⟨m,G,I⟩:=y.ld;rw[qV ⟨i,C⟩];unfold z8;walk_at "gb";have J:(aD (aR S) [p.1,p.2]).getD (.int S.now)=.int ((K0 S p).getD S.now):=by
    rw[show aD (aR S) [p.1,p.2]=aD (aR S) (l2 p)from rfl,nP];cases K0 S p<;>rfl
   have O:bp S p=decide ((K0 S p).getD S.now<S.now):=by unfold bp;cases K0 S p<;>simp
   rw[J,O];refine vo ?_;refine⟨_,rfl,λb=>?_,λb=>?_⟩
   .have b:=of_decide_eq_true b;walk_at "gb";refine⟨?_,p1⟩;rw[if_neg (by simp;walk_at "o")];rfl
   .have b:=of_decide_eq_false b;rw[if_pos (by simp;walk_at "o")];walk_at "gb";refine⟨_,_,_,_,rfl,qU p,G,I p i,?_⟩;walk_at "gb";have Q:ma c S p ch=decide (c.f p+ch.length<S.now):=rfl;rw[Q];refine⟨λg=>?_,λg=>?_⟩
    .walk_at "gb";refine⟨?_,p1⟩;rw[if_pos g];rfl
    .rw[if_neg (by rw[g];exact Kh)];walk_at "gb";refine af (dH s E u l) λv A2 e=>?_;obtain⟨rfl,rfl⟩:=e;walk_at "gb";cases canB c S ch with
     | true=>
       walk_at "gb";exact⟨rfl,p1⟩
     | false=>
       walk_at "gb";exact⟨rfl,p1⟩
end
def rA:∀(W:List ((Int×Int)×Nat))(p:Int×Int),aD (W.map λe=>(l2 e.1,PV.ref e.2)) (l2 p)=(look W p).map .ref:=λW p=>nO _ _ _
def Hl(h:aD m k=none):T9 m k v=m++[(k,v)]:=by
 unfold T9;have:(m.any λp=>decide (p.1=k))=false:=by
  induction m with
  | nil=>rfl
  | cons p r ih=>
    unfold aD at h;by_cases e:p.1=k
    .rw[if_pos e]at h;cases h
    .rw[if_neg e]at h;rw[Mi,ih h,decide_eq_false e];rfl
 rw[this];rfl
section
variable{A B:PHp}{a q lv d fa:Nat}{c:bT}{S:LS}{W:List ((Int×Int)×Nat)}
structure nS(a:Nat)(W W':List ((Int×Int)×Nat))(A A':PHp):Prop where
 len:A.length<=A'.length
 keep:∀x o,A[x]?=some o->x∉sown a W->A'[x]?=some o
 new:∀x∈sown a W',x∈sown a W\/A.length<=x
def Hm(H:cP A a S W)(u:K0 S p=none)(hs:rowsAt S p=[])(T:S.lays.length<=100) :
 Wp (N9 [.ref a,o0 p]) A (λv w=>v=.non/\cP w a (X9 S p) (W++[(p,A.length)])/\nS a W (W++[(p,A.length)]) A w) NoX:=by
 unfold N9 o0;have C:=H.ob;have D:=H.tl;have E:=H.sl;have U:=C5 C;have G:=C5 H.ul;have I:W.length=S.lays.length:=by simpa using congrArg List.length H.ks
 have s:look W p=none:=look_none.mpr (by rw[H.ks];exact look_none.mp u);walk_at "fn";walk_at "gb";refine⟨aX (by unfold aR;rw[IK];walk_at "o"),?_⟩;rw[show[p.1,p.2]=l2 p from rfl,vV u];have g:(A.set (a+1) (PO.dT (aR (X9 S p)))).length=A.length:=by simp
 have J:(A.set (a+1) (PO.dT (aR (X9 S p))))[a+1]?=some (.dT (aR (X9 S p))):=aE D;have i:∀x o,A[x]?=some o->x≠a+1->(A.set (a+1) (PO.dT (aR (X9 S p))))[x]?=some o:=λx o h n=>(C6 n).trans h;have L:=i _ _ C (by walk_at "o");have N:=i _ _ E (by walk_at "o");generalize A.set (a+1) (PO.dT (aR (X9 S p)))=r at *;walk_at "gb";refine⟨trivial,?_⟩;rw[g,show[p.1,p.2]=l2 p from rfl,Hl (by rw[rA,s];rfl)];have j:∀x o,r[x]?=some o->x≠a+2->((r++[PO.lst []]).set (a+2) (PO.dT ((W.map λe=>(l2 e.1,PV.ref e.2))++[(l2 p,.ref A.length)])))[x]?=some o:=λx o h n=>(C6 n).trans (ai h);have l:((r++[PO.lst []]).set (a+2) (PO.dT ((W.map λe=>(l2 e.1,PV.ref e.2))++[(l2 p,.ref A.length)])))[A.length]?=some (.lst []):=(C6 (by walk_at "o")).trans (by rw[<-g];exact aj);have f:∀q,rowsAt (X9 S p) q=rowsAt S q:=λq=>rfl;have O:((r++[PO.lst []]).set (a+2) (PO.dT ((W.map λe=>(l2 e.1,PV.ref e.2))++[(l2 p,.ref A.length)]))).length=A.length+1:=by simp[g]
 refine⟨⟨j _ _ L (by walk_at "o"),j _ _ J (by walk_at "o"),?_,j _ _ (i _ _ H.ul (by walk_at "o")) (by walk_at "o"),λe b=>?_,?_,λe b=>?_,?_⟩,⟨by walk_at "o",λx o h n=>?_,λx m=>?_⟩⟩
 .rw[JC];exact aE (ai N)
 .rcases Jx.mp b with b | b
  .have:=H.hi e b;rw[f];exact j _ _ (i _ _ (H.rows e b) (by walk_at "o")) (by walk_at "o")
  .rw[IS.mp b,f,hs];exact l
 .rw[JC,H.ks];simp[X9]
 .rcases Jx.mp b with b | b
  .exact H.hi e b
  .rw[IS.mp b];exact G
 .rw[JC,JV];refine⟨H.an,by simp,λx m y Q=>?_⟩;obtain⟨e,b,rfl⟩:=IU.mp m;have:=C5 (H.rows e b);simp at Q;walk_at "o"
 .unfold sown at n;simp only[IT,not_or]at n;exact j _ _ (i _ _ h n.2.1) n.2.2.1
 .unfold sown at m ⊢;simp only[IT,JC,Jx,Jn,Nh,JT,or_false]at m ⊢;rcases m with z | z | z | z | z | z
  .exact .inl (.inl z)
  .exact .inl (.inr (.inl z))
  .exact .inl (.inr (.inr (.inl z)))
  .exact .inl (.inr (.inr (.inr (.inl z))))
  .exact .inl (.inr (.inr (.inr (.inr z))))
  .exact .inr (by walk_at "o")
def Hn(H:cP A a S W){ad:Nat}(Q:(K0 S p).isSome=true)(hr:(rowsAt S p).length<=2000)(hf:S.first.length<=2000)(kn:(S.says.map (·.1)).Nodup)(G:(S.lays.map (·.1)).Nodup) :
 Wp (N9 [.ref a,o4 p ch]) A (λv T=>v=.non/\cP T a (P2 S p ch ad) W/\nS a W W A T) NoX:=by
 unfold N9 o4;have U:=H.ob;have Y:=H.sl;have l1:=C5 U;have l3:=C5 H.ul;obtain⟨e,I⟩:=GI (W:=W) (p:=p) (by
  rw[H.ks];exact Classical.byContradiction λz=>by
   have:K0 S p=none:=look_none.mpr z;rw[this]at Q;cases Q)
 have D:=U9 I;have J:=H.rows _ D;have h6:=H.hi _ D;dsimp only at J h6;walk_at "fn";walk_at "gb";refine⟨_,_,_,_,rfl,qU p,Y,by rw[rA,I];rfl,_,_,rfl,J,?_⟩;have s:∀x o,A[x]?=some o->x≠e->(A.set e (PO.lst ((rowsAt S p).map rowS++[PV.tup [.int S.now,.tup (ch.map .int)]])))[x]?=some o:=λx o h n=>(C6 n).trans h;have g1:=s _ _ U (by walk_at "o");have E:=s _ _ H.ul (by walk_at "o");have g5:(A.set e (PO.lst ((rowsAt S p).map rowS++[PV.tup [.int S.now,.tup (ch.map .int)]])))[e]?=some (PO.lst ((rowsAt S p).map rowS++[PV.tup [.int S.now,.tup (ch.map .int)]])):=aE J;have a4:(A.set e (PO.lst ((rowsAt S p).map rowS++[PV.tup [.int S.now,.tup (ch.map .int)]]))).length=A.length:=by simp
 walk_at "gb";generalize A.set e (PO.lst ((rowsAt S p).map rowS++[PV.tup [.int S.now,.tup (ch.map .int)]]))=A1 at *;have fin:∀u:PHp,u.length=A1.length->u[a+3]?=some (.dT (X7 (P2 S p ch ad)))->(∀x o,A1[x]?=some o->x≠a+3->u[x]?=some o)->True/\cP u a (P2 S p ch ad) W/\nS a W W A u:=λu a5 L b=>by
  refine⟨trivial,⟨b _ _ g1 (by walk_at "o"),b _ _ (s _ _ H.tl (by walk_at "o")) (by walk_at "o"),b _ _ (s _ _ Y (by walk_at "o")) (by walk_at "o"),L,λf g=>?_,H.ks,H.hi,H.an⟩,⟨by walk_at "o",λx o h n=>?_,λx hx=>.inl hx⟩⟩
  .have:=H.hi f g;rw[wh kn];by_cases r:f.2=e
   .have N:f=(p,e):=by
     have q1:=NR g;obtain⟨i,hi,rfl⟩:=q1;obtain⟨j,hj,C⟩:=NR D;have:=vW H.an (i:=i) (j:=j) (by simpa using hi) (by simpa using hj) (by simp[r,C]);subst this;exact C
    rw[N,if_pos rfl,JC];exact b _ _ g5 (by walk_at "o")
   .have O:f.1≠p:=λz=>r (by
     have:=qT (l:=W) (by rw[H.ks];exact G) (k:=f.1) (v:=f.2) g;rw[z,I]at this;cases this;rfl)
    rw[if_neg O];exact b _ _ (s _ _ (H.rows f g) r) (by walk_at "o")
  .unfold sown at n;simp only[IT,not_or]at n;exact b _ _ (s _ _ h λz=>n.2.2.2.2 (by rw[z];exact IU.mpr ⟨_,D,rfl⟩)) n.2.2.2.1
 cases m:X8 S ch with
 | none=>
   refine⟨_,_,kH ch,E,λw y=>?_,λ_=>⟨aX (by unfold X7;rw[IK];walk_at "o"),?_⟩⟩
   .rw[y9,m]at y;cases y
   .rw[FX (p:=p) (a:=ad) m];exact fin _ (by simp) (aE E) λx o h n=>(C6 n).trans h
 | some t=>
   refine⟨_,_,kH ch,E,λw y=>?_,λy=>?_⟩
   .exact fin _ rfl (by rw[FY (by rw[m];rfl)];exact E) λx o h _=>h
   .rw[y9,m]at y;cases y
end
def Ho(a b:Int×Int)(c:gk a b=false)(d:gk b a=false):a=b:=n9 (s8 _ _ c d)
def Hq(f:Int×Int->Bool)(a:List (Int×Int)):srt (a.filter f)=(srt a).filter f:=
 i4 Ho ((L8 _).trans ((L8 a).filter f).symm) (vG _) ((vG _).filter _)
def Hr(h:∀(x:Nat)(o:PO),A[x]?=some o->B[x]?=some o):A<+:B:=List.prefix_iff_getElem?.mpr λi a=>h i _ (Jj a)
def gV{l:List (Int×List Int)}(he:B[e]?=some (.lst (l.map rowS)))(u:l.length<=2000)(d:∀q∈l,q.2≠[]) :
 Wp (S0 [j,m,o,p,some (.ref e)]) B (λv f=>∃n,v=.ref n/\B<+:f/\f[n]?=some (.lst ((l.map λq=>q.2.getLast?.getD 0).map .int))) NoX:=by
 unfold S0;refine z7 l rowS (λq=>.int (q.2.getLast?.getD 0)) (λ_=>true) (λg=>∃x y,g=[x,y]) ?_;walk_at "gb";refine⟨_,bg he,by simp,aI (by walk_at "o"),⟨_,_,rfl⟩,λi h b=>S7 (ag b he) i,?_,?_⟩
 .rintro q g h r ⟨x,y,rfl⟩ b;have s:=z9 (d q r);unfold rowS;walk_at "go";refine⟨rfl,⟨_,_,rfl⟩,?_⟩;walk_at "go";refine⟨rfl,Jk _,λ_=>?_⟩;walk_at "go";exact⟨rfl,Jk _⟩
 .intro h b;refine⟨_,rfl,D4 b,?_⟩;rw[aj,JZ.mpr (by simp),Ji];rfl
theorem gb(H:cP A a S W)(U:A[lv]?=some (.lst (c.L.map .int)))(hL:c.L.length<900)(Y:∀p,(rowsAt S p).length<900)(j:∀p,∀q∈rowsAt S p,q.2≠[]/\q.2.getLast?.getD 0∈c.L)(hn:S.lays.length<64) :
 Wp (N8 [.ref a,.ref lv]) A (λv A'=>∃n,v=.ref n/\A.length<=n/\A<+:A'/\A'[n]?=some (.lst (aL (fY c S)))) NoX:=by
 unfold N8;have h1:=H.ob;have w:=H.sl;have l3:=C5 H.ul;have a3:W.length=S.lays.length:=by simpa using congrArg List.length H.ks
 have y:a+2≠lv:=GK w U (λz=>by cases z);walk_at "fn";walk_at "gb";unfold W4;refine GX (λi C B=>∃D E,C=[some (.ref a),some (.ref lv),some (.ref A.length),D,E]/\A.length<B.length/\B[a+2]?=some .hid/\(∀x o,A[x]?=some o->x≠a+2->B[x]?=some o)/\B[A.length]?=some (.lst (aL (((W.take i).map (·.1)).filter (fW c S))))) ?_;walk_at "gb";refine⟨⟨_,_,rfl,by simp,aE (ai w),λx o h n=>(C6 n).trans (ai h),(C6 (by walk_at "o")).trans aj⟩,λC B b=>?_,λi e C B f b=>?_⟩
 .obtain⟨D,E,rfl,G,b,g,u⟩:=b;refine⟨b,?_⟩;rw[IK,LW,H.ks]at u;have I:(B.set (a+2) (PO.dT (W.map λe=>(l2 e.1,PV.ref e.2))))[A.length]?=some (.lst (aL ((S.lays.map (·.1)).filter (fW c S)))):=(C6 (by walk_at "o")).trans u;walk_at "gb";refine⟨_,_,_,rfl,I,n8 (Nat.lt_of_le_of_lt (KJ (fW c S) (S.lays.map (·.1))) (by rw[IK];exact hn)),?_⟩;rw[Hq];refine⟨_,rfl,by simp;walk_at "o",?_,aj⟩;refine D4 (Hr λx o h=>?_);by_cases l:x=a+2
  .subst l;rw[w]at h;cases h;exact aE b
  .exact(C6 l).trans (g x o h l)
 .obtain⟨D,E,rfl,G,d,g,u⟩:=b;rw[Jm]at f;obtain⟨e,J,rfl⟩:=Jz.mp f;clear f;have f:=J;have he:=JD f;have m:=g _ _ (H.rows e he) (by have:=H.hi e he;walk_at "o");have N:=g _ _ U (Kk y);show Wp (gTup 2 _ (.tup [pv e.1,.ref e.2]) _) B _ _;walk_at "go";unfold bE;walk_at "gb";refine af (gV m (by have:=Y e.1;walk_at "o") λq O=>(j _ q O).1) λv B1 b=>?_;obtain⟨n,rfl,p1,Q⟩:=b;refine⟨_,_,rfl,Q,?_⟩;walk_at "gb";refine⟨_,c.L,rfl,ag p1 N,⟨by rw[IK];exact Y _,hL⟩,_,rfl,?_⟩;have es:V5 ((rowsAt S e.1).map λq=>q.2.getLast?.getD 0) c.L=fW c S e.1:=by
   rw[GZ λx l=>by obtain⟨q,O,rfl⟩:=IU.mp l;exact(j _ q O).2];rfl
  rw[es];have r:(W.take (i+1)).map (·.1)=(W.take i).map (·.1)++[e.1]:=by rw[LJ,f];simp
  have s:=ag p1 u;have a5:=p1.length_le;refine⟨λT=>?_,λT=>?_⟩
  .walk_at "gb";refine⟨aX (by rw[cR];have:=KJ (fW c S) ((W.take i).map (·.1));simp only[IK,KG]at this;walk_at "o"),_,rfl,_,_,rfl,by simp;walk_at "o",(C6 (by walk_at "o")).trans (ag p1 d),λx o h n=>(C6 (by have:=C5 h;walk_at "o")).trans (ag p1 (g x o h n)),?_⟩;rw[r,LG,show[e.1].filter (fW c S)=[e.1] by simp[T],<-wk];exact aE s
  .walk_at "gb";refine⟨_,_,rfl,by walk_at "o",ag p1 d,λx o h n=>ag p1 (g x o h n),?_⟩;rw[r,LG,show[e.1].filter (fW c S)=[] by simp[T],Kn];exact s
inductive Dk:PV->Prop
 | lay (p:Int×Int):Dk (o0 p)
 | say (p:Int×Int) (ch:List Int) (h:ch.length<100):Dk (o4 p ch)
 | opn (p:Int×Int):Dk (.tup [.str "open",pv p])
def wo{d:Type}{l:List d}(c:l≠[])(f:d->PV)(g:0<=x):∃w∈l,atI (l.map f) (x%((l.map f).length:Nat))=some (f w):=by
 have h:0<l.length:=Lu.mpr c;obtain⟨k,e⟩:∃k:Nat,x%((l.map f).length:Nat)=k:=⟨(x%((l.map f).length:Nat)).toNat,(NT (MN _ (by rw[IK];walk_at "o"))).symm⟩;have a:k<l.length:=by
  have:=MO x (b:=((l.map f).length:Nat)) (by rw[IK];walk_at "o");rw[e,IK]at this;walk_at "o"
 refine⟨l[k],Ly a,?_⟩;rw[e];exact iF (by rw[Jm,Jj a];rfl)
def wq{b:Type}{l:List b}(a:l≠[])(f:b->PV):(0:Int)<((l.map f).length:Nat):=by
 have c:0<l.length:=Lu.mpr a;rw[IK];walk_at "o"
def gW{c:bT}{S:LS}{W:List ((Int×Int)×Nat)}(H:cP A a S W)(m:A[fa]?=some (.lst (c.fr.map .int))){n:Nat}{M:List (List Int)}(f:A[n]?=some (.lst (cf M)))(g:∀w∈M,w≠[]/\w.length<=6)(o:M.length<=56000){p r s u y z C e:Option PV} :
 Wp (O4 [some (.ref a),p,some (.ref fa),r,s,u,y,z,some (.ref n),C,e]) A (λv A'=>∃k,v=.ref k/\A<+:A'/\A'[k]?=some (.lst (cf (M.filter λw=>canB c S w)))) NoX:=by
 unfold O4;refine z7 M tv tv (λw=>canB c S w) (λh=>∃x,h=[x,some (.ref a),some (.ref fa)]) ?_;walk_at "go";refine⟨_,bg f,by unfold cf;rw[IK];exact IM _,Jt o wa,⟨_,rfl⟩,λj i b=>S7 (ag b f) j,?_,λi b=>⟨_,rfl,D4 b,aj⟩⟩;rintro w h i l ⟨x,rfl⟩ b;walk_at "go";refine⟨rfl,⟨_,rfl⟩,?_⟩;walk_at "go";refine af (dH (H.mono b) (ag b m) (g w l).1 (g w l).2) λv E D=>?_;obtain⟨rfl,rfl⟩:=D;refine⟨_,rfl,rfl,Jk _,λ_=>?_⟩;walk_at "go";exact⟨rfl,Jk _⟩
set_option maxHeartbeats 2000000 in
def gX(H:cP A a S W)(K:eV A q lv d fa c)(l:c.ps≠[])(hx:0<=x):Wp (R1 [.ref a,eW q lv d,.ref fa,.int x]) A (λv A'=>Dk v/\A<+:A') NoX:=by
 unfold R1;have hq:=K.pq;obtain⟨p,hp,Q⟩:=wo l pv (x:=x / 10) (by walk_at "o");have m:=wq l pv;have hg:=K.pg.good p hp;have hh:0<=p.2/\p.2<c.N:=by unfold good at hg;walk_at "o"
 walk_at "fn";walk_at "gb";refine w_mod ?_ ?_
 .simpa[aL]using m
 refine bY hq Q ?_;walk_at "gb";refine dh (show atI [PV.int p.1,.int p.2] 1=some (.int p.2)from rfl) ?_;walk_at "gb";refine af (di K.pg hq hh K.ll) λv A1 b=>?_;obtain⟨n,rfl,_,p1,hn⟩:=b;have H1:=H.mono p1;have K1:=K.mono p1;have I:∀w∈chainsOf c.ps c.L c.N p.2,w≠[]/\w.length<=6:=λw r=>by
  have k:=(f8 K.pg.good hh _).mp (JP.mp r).1;have:=k.len;have:=K.pg.hi;exact⟨k.ne,by walk_at "o"⟩
 have hl:(chainsOf c.ps c.L c.N p.2).length<=56000:=Jt (KJ _ _) (rf K.pg.good K.pg.nd (by have:=K.pg.hi;walk_at "o") _ (by have:=K.pg.hi;walk_at "o"));generalize chainsOf c.ps c.L c.N p.2=M at *;have s:∀B:PHp,A1<+:B->M≠[]->Wp (ao
  (aP (aq (eBin ck (eBin aY (aa 3) (eK (.int 10))) (eK (.int 2))))
 (ao (az (be (ae (aC (ae (eK (.str "say")) (ae (aa 7) (ae (aC aNil) aNil)))) (ae (aC (ae (eK (.str "say")) (ae (aa 7) (ae (aa 7) aNil)))) (ae (aC (ae (eK (.str "say")) (ae (aa 7) (ae (aC (ae (eBin oIx (aa 7) (eK (.int 1))) (ae (eK (.int 9)) aNil))) aNil)))) (ae (aC (ae (eK (.str "lay")) (ae (aC (ae (eK (.int 7)) (ae (eK (.int 0)) aNil))) aNil))) aNil))))) (gName 9))
 (aw (eBin oIx (eBin aS (aa 9) (be (ae (aC (ae (eK (.str "say")) (ae (aC (ae (eK (.int 0)) (ae (eK (.int 0)) aNil))) (ae (aC (ae (eK (.int 0)) aNil)) aNil)))) (ae (aC (ae (eK (.str "open")) (ae (aa 7) aNil))) (ae (aC (ae (eK (.str "say")) (ae (aa 7) (ae (dC (aa 7)) aNil)))) aNil))))) (eBin aY (eBin bw (aa 3) (eK (.int 200))) (eK (.int 7))))))
 sPass)
 (ao (az O4 (gName 10))
 (ao (aP (tAnd (aq (eBin cD (aa 10) (be aNil))) (aq (eBin dN (eBin aY (aa 3) (eK (.int 10))) (eK (.int 8)))))
 (az (aa 10) (gName 8))
 sPass)
 (aw (aC (ae (eK (.str "say")) (ae (aa 7) (ae (eBin oIx (aa 8) (eBin aY (eBin bw (aa 3) (eK (.int 200))) (V7 (aa 8)))) aNil)))))))
  [some (.ref a),some (eW q lv d),some (.ref fa),some (.int x),some (.ref q),some (.ref lv),some (.ref d),some (pv p),some (.ref n),none,none]) B (λo A'=>∃v,o=.rt v/\Dk v/\A<+:A') NoX:=by
  intro B u f;have HB:=H1.mono u;have KB:=K1.mono u;have h:=ag u hn;walk_at "gb";refine⟨λT=>?_,λT=>?_⟩
  .walk_at "gb";refine dh (show atI [PV.int p.1,.int p.2] 1=some (.int p.2)from rfl) ?_;walk_at "gb";refine dX (ai aj) aj (aI (by simp)) ?_;walk_at "gb";obtain⟨j,hj,U⟩:∃j:Nat,x / 200%7=j/\j<7:=⟨(x / 200%7).toNat,by walk_at "o",by walk_at "o"⟩;rw[hj];have y:∀v∈[PV.tup [.str "say",pv p,.tup []],.tup [.str "say",pv p,pv p],.tup [.str "say",pv p,.tup [.int p.2,.int 9]],.tup [.str "lay",.tup [.int 7,.int 0]]]++[PV.tup [.str "say",.tup [.int 0,.int 0],.tup [.int 0]],.tup [.str "open",pv p],.tup [.str "say",pv p,.tup [PV.int p.1,.int p.2].reverse]],Dk v:=λv J=>by
    simp only[List.cons_append,PZ,IT,JT,or_false]at J;rcases J with rfl | rfl | rfl | rfl | rfl | rfl | rfl
    .exact .say p [] (by simp)
    .exact .say p [p.1,p.2] (by simp)
    .exact .say p [p.2,9] (by simp)
    .exact .lay (7,0)
    .exact .say (0,0) [0] (by simp)
    .exact .opn p
    .exact .say p [p.2,p.1] (by simp)
   have g:j<([PV.tup [.str "say",pv p,.tup []],.tup [.str "say",pv p,pv p],.tup [.str "say",pv p,.tup [.int p.2,.int 9]],.tup [.str "lay",.tup [.int 7,.int 0]]]++[PV.tup [.str "say",.tup [.int 0,.int 0],.tup [.int 0]],.tup [.str "open",pv p],.tup [.str "say",pv p,.tup [PV.int p.1,.int p.2].reverse]]).length:=by simpa using U
   refine bY aj (iF (Jj g)) ?_;exact⟨_,rfl,y _ (Ly g),D4 (D4 (D4 (p1.trans u)))⟩
  .walk_at "gb";refine af (gW HB KB.ff h I hl) λv B1 b=>?_;obtain⟨k,rfl,Y,hk⟩:=b;have a0:∀w∈M.filter λw=>canB c S w,w≠[]/\w.length<=6:=λw r=>I w (JP.mp r).1;generalize(M.filter λw=>canB c S w)=z at *;have fin:∀(N:List (List Int))(n':Nat)(O:PHp){x9 C:Option PV},N≠[]->(∀w∈N,w≠[]/\w.length<=6)->A<+:O->O[n']?=some (.lst (cf N))->
    Wp (aw (aC (ae (eK (.str "say")) (ae (aa 7) (ae (eBin oIx (aa 8) (eBin aY (eBin bw (aa 3) (eK (.int 200))) (V7 (aa 8)))) aNil)))) [some (.ref a),some (eW q lv d),some (.ref fa),some (.int x),some (.ref q),some (.ref lv),some (.ref d),some (pv p),some (.ref n'),x9,C]) O (λo A'=>∃v,o=.rt v/\Dk v/\A<+:A') NoX:=λN n' O x9 C hN a2 D a3=>by
    obtain⟨w,r,E⟩:=wo hN tv (x:=x / 200) (by walk_at "o");have i:=wq hN tv;walk_at "gb";refine w_mod i ?_;refine bY a3 E ?_;walk_at "gb";exact⟨.say p w (by have:=(a2 w r).2;walk_at "o"),D⟩
   have D:=(p1.trans u).trans Y;walk_at "gb";refine iz (ai hk) aj ⟨bN _,rfl⟩ ?_;have eM:eqvs (cf z) []=decide (z=[]):=by cases z<;>rfl
   rw[eM];refine⟨_,rfl,λe=>?_,λe=>?_⟩
   .have G:z≠[]:=by simpa using e
    walk_at "gb";refine⟨λa5=>?_,λa5=>?_⟩
    .refine cU (w_var rfl (V6 ?_));exact fin z k _ G a0 (D4 D) (ai hk)
    .refine U5 ?_;exact fin M n _ f I (D4 D) (ai (ag Y h))
   .refine kG (U5 ?_);exact fin M n _ f I (D4 D) (ai (ag Y h))
 walk_at "gb";refine⟨λT=>?_,λT=>?_⟩
 .walk_at "gb";exact⟨.lay p,p1⟩
 .walk_at "gb";refine iy (ai hn) aj ⟨bN _,rfl⟩ ?_;have eM:eqvs (cf M) []=decide (M=[]):=by cases M<;>rfl
  rw[eM];refine⟨_,rfl,λe=>?_,λe=>?_⟩
  .walk_at "gb";exact⟨.lay p,D4 p1⟩
  .refine U5 ?_;refine af (s _ (IL _ _) (of_decide_eq_false e)) λo A' b=>?_;obtain⟨v,rfl,J⟩:=b;exact J
structure cz(B:PHp)(c:bT)(S:LS)(W:List ((Int×Int)×Nat))(a q lv d fa sc:Nat)(cells:List Int)(i:Nat):Prop where
 led:bc B c S
 st:cP B a S W
 ask:eV B q lv d fa c
 cs:B[sc]?=some (.lst (cells.map .int))
 ro:∀p,∀r∈rowsAt S p,(r.2≠[]/\r.2.getLast?.getD 0∈c.L)/\r.2.length<=6/\(K0 S p).isSome=true
 ms:S.m<=i
 dj:∀x∈sown a W,x∉dom c S
 fo:∀x,x=q\/x=lv\/x=d\/x=fa\/x=sc->x∉own c S/\x∉sown a W
def wu(c:bT)(S:LS):∀a∈own c S,a∈dom c S:=λa h=>by
 unfold dom;simp only[IT];exact .inr (.inr (.inr (.inr (.inr (.inr (.inr h))))))
def rB(H:bc A c S)(p:Int×Int):(rowsAt S p).length<=S.m:=by
 unfold rowsAt;cases h:P9 S p with
 | none=>simp
 | some e=>
   have:=H.sz.2.2.2 _ (U9 h);simp at *;walk_at "o"
section
variable{B B1 B2:PHp}{c:bT}{S S':LS}{W W':List ((Int×Int)×Nat)}{a q lv d fa sc:Nat}{cells:List Int}{i:Nat}
def cz.mono(H:cz B c S W a q lv d fa sc cells i)(p:B<+:B1):cz B1 c S W a q lv d fa sc cells i:=
 ⟨H.led.mono p,H.st.mono p,H.ask.mono p,ag p H.cs,H.ro,H.ms,H.dj,H.fo⟩
def cz.next(H:cz B c S W a q lv d fa sc cells i):cz B c S W a q lv d fa sc cells (i+1):=⟨H.led,H.st,H.ask,H.cs,H.ro,OH H.ms,H.dj,H.fo⟩
def cz.lts(H:cz B c S W a q lv d fa sc cells i):∀x,x=q\/x=lv\/x=d\/x=fa\/x=sc->x<B.length:=λx b=>by
 rcases b with h | h | h | h | h
 .exact H.ask.lt x (.inl h)
 .exact H.ask.lt x (.inr (.inl h))
 .exact H.ask.lt x (.inr (.inr (.inl h)))
 .exact H.ask.lt x (.inr (.inr (.inr h)))
 .rw[h];exact C5 H.cs
def cz.apart(H:cz B c S W a q lv d fa sc cells i)(st:cF c S S' B B1):∀x∈sown a W,x∉dom c S':=λx e z=>by
 have b:=H.dj x e;have f:=qQ st (H.st.lt x e) λz=>b (wu _ _ x z);unfold dom at z b;simp only[IT,not_or]at z b;rcases z with z | z | z | z | z | z | z | z
 .exact b.1 z
 .exact b.2.1 z
 .exact b.2.2.1 z
 .exact b.2.2.2.1 z
 .exact b.2.2.2.2.1 z
 .exact b.2.2.2.2.2.1 z
 .exact b.2.2.2.2.2.2.1 z
 .exact f z
def cz.lst(H:cz B c S W a q lv d fa sc cells i)(st:cF c S S' B B1):cP B1 a S W:=H.st.keep λx b o h=>st.keep x o h λz=>H.dj x b (wu _ _ x z)
def cz.step(H:cz B c S W a q lv d fa sc cells i)(L:bc B1 c S')(st:cF c S S' B B1)(f:cP B2 a S' W')(e:nS a W W' B1 B2)
 (g:∀p,∀r∈rowsAt S' p,(r.2≠[]/\r.2.getLast?.getD 0∈c.L)/\r.2.length<=6/\(K0 S' p).isSome=true) (j:S'.m<=i+1):cz B2 c S' W' a q lv d fa sc cells (i+1):=by
 have k:∀x,x=q\/x=lv\/x=d\/x=fa\/x=sc->∀o,B[x]?=some o->B2[x]?=some o:=λx b o h=>e.keep x o (st.keep x o h (H.fo x b).1) (H.fo x b).2;refine⟨L.keep λx b o h=>e.keep x o h λz=>H.apart st x z b,f,H.ask.keep λx b=>k x ?_,k sc (by simp) _ H.cs,g,j,λx b z=>?_,λx b=>⟨qQ st (H.lts x b) (H.fo x b).1,λz=>?_⟩⟩
 .rcases b with h | h | h | h<;>simp[h]
 .rcases e.new x b with y | y
  .exact H.apart st x y z
  .have:=L.dlt x z;walk_at "o"
 .rcases e.new x z with y | y
  .exact(H.fo x b).2 y
  .have:=H.lts x b;have:=st.len;walk_at "o"
def cz.move(H:cz B c S W a q lv d fa sc cells i)(L:bc B1 c { S with now:=S.now+1 })(st:cF c S { S with now:=S.now+1 } B B1):cz (B1.set a (.dS (dw (S.now+1) a))) c { S with now:=S.now+1 } W a q lv d fa sc cells (i+1):=by
 have b:=H.lst st;have m:=C5 b.ul;have g:∀x o,B1[x]?=some o->x≠a->(B1.set a (.dS (dw (S.now+1) a)))[x]?=some o:=λx o h n=>(C6 n).trans h;refine H.step L st (W':=W) ⟨aE b.ob,g _ _ b.tl (by walk_at "o"),g _ _ b.sl (by walk_at "o"),g _ _ b.ul (by walk_at "o"),λe j=>g _ _ (b.rows e j) (by have:=b.hi e j;walk_at "o"),b.ks,b.hi,b.an⟩ ⟨by simp,λx o h n=>g x o h λz=>n (by rw[z];simp[sown]),λx l=>.inl l⟩ H.ro (OH H.ms)
def Hs(h:V0 c S p ch=0):(p∈c.ps/\iD c.N c.ps c.L ch/\ch.head?=some p.2)/\bp S p=true:=by
 unfold V0 at h;by_cases b:p∈c.ps/\iD c.N c.ps c.L ch/\ch.head?=some p.2
 .refine⟨b,?_⟩;rw[if_pos b]at h;by_cases e:bp S p=true
  .exact e
  .rw[if_neg e]at h;cases h
 .rw[if_neg b]at h;cases h
def Ht(P:J4 c.N c.ps)(h:V0 c S p ch=0):(ch≠[]/\ch.getLast?.getD 0∈c.L)/\ch.length<=6/\(K0 S p).isSome=true:=by
 obtain⟨⟨l,g,m⟩,f⟩:=Hs h;obtain⟨b,n⟩:=g.1;have o:=P.good p l;have j:0<=p.2/\p.2<c.N:=by unfold good at o;walk_at "o"
 have r:=(f8 P.good j _).mp (JP.mp ((o7 P j).mpr ⟨g,m⟩)).1;refine⟨⟨b,?_⟩,?_,?_⟩
 .have:=qY b;unfold O6 at this;rw[<-this];exact n
 .have:=r.len;have:=P.hi;walk_at "o"
 .unfold bp at f;cases e:K0 S p with
  | none=>rw[e]at f;cases f
  | some _=>rfl
def cz.lays(H:cz B c S W a q lv d fa sc cells i):S.lays.length<64:=by
 have:=H.led.ln.length_le_of_subset (l₂:=c.ps) H.led.lp;have:=H.led.pg.len;simp at *;walk_at "o"
def ez(h:k≠0):md k=f9 k/\decide (f9 k=("none" : Ki))=false:=by
 refine⟨if_neg h,?_⟩;unfold f9;split<;>rfl
end
def gY(h:Wp (e σ) A (λx a=>∃n m,x=.ref n/\a[n]?=some (.dT m)/\(m.length<=LIM/\∀p∈m,p.1≠[])/\Q (.ref a.length) (a++[.lst (m.map λp=>.tup (p.1.map .int))])) E):Wp (kl e σ) A Q E:=
 B6 (af h λx a b=>by
  obtain⟨n,m,c,d,f,q⟩:=b;subst c;exact B6 (X6 d (C7 f q)))
def dn(a:l.length<=1000)(b:A[n]?=some (.lst (aL l)))(c:A[m]?=some (.lst (aL l))):Wp (E5 [.ref n,.ref m]) A (λv A'=>v=.bl true/\A<+:A') NoX:=
 vY (k:=4) (by rw[cR];exact a) (λv d=>by
  obtain⟨p,_,rfl⟩:=vA d;exact GJ p) b c
def Hu(S:LS):(aR S).map (λp=>PV.tup (p.1.map .int))=aL (S.lays.map (·.1)):=by
 unfold aR aL;rw[Ji,Ji];rfl
def gc(H:bc B c S):Wp (I9 [.ref c.G]) B (λv b=>v=.int S.now/\b=B) NoX:=by
 unfold I9;have e:=H.ob;walk_at "fn";walk_at "gb";exact⟨rfl,rfl⟩
set_option maxHeartbeats 1000000 in
def Hv(H:cz B c S W a q lv d fa sc cells i)(hL:c.L.length<=100)(hi:i<=800) :
 Wp (ao (aP (tNot (aq (C8 E5 (ae (aM 2 E9 (aa 10) aNil) (ae (T8 (kl (eSGet (aa 11) (eK (.str "lays"))))) aNil)))))
 (aw (eK (.bl false)))
 sPass)
 (aP (tOr (tNot (aq (C8 E5 (ae (aM 2 G9 (aa 10) aNil) (ae (C8 N8 (ae (aa 11) (ae (aa 4) aNil))) aNil))))) (aq (eBin cD (aM 2 I9 (aa 10) aNil) (eSGet (aa 11) (eK (.str "turn"))))))
 (aw (eK (.bl false)))
 sPass) [C,D,E,I,some (.ref lv),J,N,O,Q,T,some (.ref c.G),some (.ref a),g,h,j]) B
  (λo B'=>o=.nx [C,D,E,I,some (.ref lv),J,N,O,Q,T,some (.ref c.G),some (.ref a),g,h,j]/\B<+:B') NoX:=by
  have f:=H.lays;have U:=H.led.ob;have s:=H.st.ob;have a4:=H.st.tl;have x:∀p,(rowsAt S p).length<900:=λp=>by have:=rB H.led p;have:=H.ms;walk_at "o"
  walk_at "gb";refine af (eu H.led) λv Y b=>?_;obtain⟨rfl,rfl⟩:=b;walk_at "gb";refine gY ?_;walk_at "gb";refine⟨⟨aI (by unfold aR;rw[IK];walk_at "o"),λp hp=>?_⟩,?_⟩
  .unfold aR at hp;obtain⟨e,_,rfl⟩:=IU.mp hp;simp[l2]
  rw[Hu];refine⟨_,_,_,rfl,aj,n8 (by rw[IK];exact f),?_⟩;walk_at "gb";refine af (dn (l:=srt (S.lays.map (·.1))) (by rw[(L8 _).length_eq,IK];walk_at "o") (ai (ai aj)) aj) λv Y b=>?_;obtain⟨rfl,p1⟩:=b;have p1:B<+:Y:=(D4 (D4 (D4 (Jk _)))).trans p1;have u:=H.mono p1;have U:=u.led.ob;have s:=u.st.ob;walk_at "gb";refine af (eU u.led (λp r y=>(u.ro p r y).1.1) (by walk_at "o")) λv A2 b=>?_;obtain⟨n,rfl,_,p2,hn⟩:=b;have w:=u.mono p2;walk_at "gb";refine af (gb w.st w.ask.ll (by walk_at "o") x (λp r y=>(w.ro p r y).1) f) λv A3 b=>?_;obtain⟨m,rfl,_,z,hm⟩:=b;have H3:=w.mono z;walk_at "gb";refine af (dn (by unfold fY;refine Jt (KJ _ _) ?_;rw[(L8 _).length_eq,IK];walk_at "o") (ag z hn) hm) λv A4 b=>?_;obtain⟨rfl,p4⟩:=b;have A:=H3.mono p4;have U:=A.led.ob;have s:=A.st.ob;walk_at "gb";refine af (gc A.led) λv A5 b=>?_;obtain⟨rfl,rfl⟩:=b;walk_at "gb";exact⟨rfl,((p1.trans p2).trans z).trans p4⟩
def Hw(H:bc B c S)(p:Int×Int):Wp (M6 [.ref c.P,.tup [.str "open",pv p]]) B (λv b=>v=.bl false/\b=B) NoX:=by
 unfold M6;have g:=H.plan.ob;walk_at "fn";walk_at "gb";refine af (qR H.plan.web H.pg p) λv h e=>?_;obtain⟨rfl,rfl⟩:=e;walk_at "gb";refine⟨λf=>?_,λf=>?_⟩
 .walk_at "gb";exact⟨rfl,rfl⟩
 .walk_at "gb";exact⟨rfl,rfl⟩
def Hx(H:bc B c S)(p:Int×Int):Wp (J1 [.ref c.G,.tup [.str "open",pv p]]) B (λv e=>v=.str (f9 12)/\B<+:e) NoX:=by
 have f:=H.mono (IL B [.lst [.str "none",.str "odd"]]);have g:Wp (G6 [.ref c.G,.tup [.str "open",pv p]]) (B++[.lst [.str "none",.str "odd"]]) (λv e=>False) (λk v e=>k=12/\v=.tup [.str "open",pv p]/\B<+:e):=by
  unfold G6;have n:=f.ob;walk_at "fn";walk_at "gb";refine qs (Hw f p) λv j b=>?_;obtain⟨rfl,rfl⟩:=b;walk_at "gb";exact⟨rfl,IL _ _⟩
 refine af (rh (R:=λ_=>False) (RX:=λk e=>k=12/\B<+:e) rfl H.ob (bx g (λv e b=>b.elim) λk v e b=>⟨.inl b.1,b.2.1,b.1,b.2.2⟩)) λv e b=>?_;rcases b with⟨_,h⟩ | ⟨k,j,_,⟨l,p1⟩,m,rfl⟩
 .exact h.elim
 .exact⟨by rw[l],p1.trans m⟩
def eX(H:cz B c S W a q lv d fa sc cells i)(T:i<800)(L:Dk v) :
 Wp (L7 [.ref a,eW q lv d,.ref fa,v]) B (λw B2=>∃k,w=.str (md k)/\B<+:B2/\Wp (J1 [.ref c.G,v]) B2 (λu n=>
  (u=.str "none"/\k=0/\Wp (N9 [.ref a,v]) n (λ_ s=>∃S' W',cz s c S' W' a q lv d fa sc cells (i+1)) NoX)\/(u=.str (f9 k)/\k≠0/\cz n c S W a q lv d fa sc cells (i+1))) NoX) NoX:=by
 have D:=H.lays;cases L with
 | lay p=>
   refine af (Hi H.st H.ask p) λw B2 b=>?_;obtain⟨rfl,j⟩:=b;have h:=H.mono j;refine⟨_,rfl,j,af (GF h.led p) λu n b=>?_⟩;rcases b with⟨rfl,f,x,st⟩ | ⟨rfl,f,o⟩
   .have E:K0 S p=none:=by
     unfold Z2 at f;by_cases I:p∈c.ps
     .rw[if_pos I]at f;cases e:K0 S p with
      | none=>rfl
      | some _=>rw[e]at f;cases f
     .rw[if_neg I]at f;cases f
    have g:rowsAt S p=[]:=by
     cases e:rowsAt S p with
     | nil=>rfl
     | cons r l=>
       have:=(H.ro p r (by rw[e];exact IV)).2.2;rw[E]at this;cases this
    refine .inl ⟨rfl,f,af (Hm (h.lst st) E g (by walk_at "o")) λ_ s b=>?_⟩;obtain⟨_,y,z⟩:=b;refine⟨_,_,h.step x st y z (λq r g=>?_) (OH H.ms)⟩;obtain⟨N,O,A⟩:=H.ro q r g;refine⟨N,O,?_⟩;unfold K0 X9;rw[vT];unfold K0 at A;cases e:look S.lays q with
    | none=>rw[e]at A;cases A
    | some _=>rfl
   .exact .inr ⟨rfl,f,(h.mono o).next⟩
 | say p U J=>
   refine af (Hk H.st H.ask p J) λw B2 b=>?_;obtain⟨rfl,j⟩:=b;have h:=H.mono j;have Q:=H.ms;refine⟨_,rfl,j,af (GC h.led p J (by walk_at "o")) λu n b=>?_⟩;rcases b with⟨rfl,f,ad,x,st⟩ | ⟨rfl,f,o⟩
   .have m:=Ht H.led.pg f;have Y:=rB H.led p;have h2:=H.led.sz.2.2.1;refine .inl ⟨rfl,f,af (Hn (ad:=ad) (h.lst st) m.2.2 (by walk_at "o") (by walk_at "o") H.led.kn H.led.ln) λ_ s b=>?_⟩;obtain⟨_,y,z⟩:=b;refine⟨_,_,h.step x st y z (λq r g=>?_) (Nat.succ_le_succ Q)⟩;rw[wh H.led.kn]at g;by_cases C:q=p
    .rw[if_pos C]at g;rcases Jx.mp g with g | g
     .exact H.ro q r g
     .rw[IS.mp g,C];exact m
    .rw[if_neg C]at g;exact H.ro q r g
   .exact .inr ⟨rfl,f,(h.mono o).next⟩
 | opn p=>
   refine af (Hj H.st p) λw B2 b=>?_;obtain⟨rfl,j⟩:=b;have h:=H.mono j;refine⟨12,rfl,j,af (Hx h.led p) λu n b=>?_⟩;obtain⟨rfl,o⟩:=b;exact .inr ⟨rfl,by decide,(h.mono o).next⟩
set_option maxHeartbeats 1000000 in
def me(H:cz B c S W a q lv d fa sc cells i)(O:c.L.length<=100)(A:c.ps≠[])(Q:i<800) :
 Wp (y7 [n,some (.int b),r,some (.ref q),some (.ref lv),some (.ref fa),s,some (eW q lv d),y,z,some (.ref c.G),some (.ref a),C,D,E]) B
  (λo j=>∃e f g S' W',o=.nx [n,some (.int b),r,some (.ref q),some (.ref lv),some (.ref fa),s,some (eW q lv d),y,z,some (.ref c.G),some (.ref a),e,f,g]/\cz j c S' W' a q lv d fa sc cells (i+1)) NoX:=by
 have hx:=rg b 3;have fin:∀{j:PHp}{S':LS}{W':List ((Int×Int)×Nat)}{e f g:Option PV},cz j c S' W' a q lv d fa sc cells (i+1)->
  Wp (ao (aP (tNot (aq (C8 E5 (ae (aM 2 E9 (aa 10) aNil) (ae (T8 (kl (eSGet (aa 11) (eK (.str "lays"))))) aNil)))))
 (aw (eK (.bl false)))
 sPass)
 (aP (tOr (tNot (aq (C8 E5 (ae (aM 2 G9 (aa 10) aNil) (ae (C8 N8 (ae (aa 11) (ae (aa 4) aNil))) aNil))))) (aq (eBin cD (aM 2 I9 (aa 10) aNil) (eSGet (aa 11) (eK (.str "turn"))))))
 (aw (eK (.bl false)))
 sPass) [n,some (.int b),r,some (.ref q),some (.ref lv),some (.ref fa),s,some (eW q lv d),y,z,some (.ref c.G),some (.ref a),e,f,g]) j
  (λo j=>∃e f g S' W',o=.nx [n,some (.int b),r,some (.ref q),some (.ref lv),some (.ref fa),s,some (eW q lv d),y,z,some (.ref c.G),some (.ref a),e,f,g]/\cz j c S' W' a q lv d fa sc cells (i+1)) NoX:=λI=>
  af (Hv I O (by walk_at "o")) λo T h=>by
   obtain⟨rfl,p⟩:=h;exact⟨_,_,_,_,_,rfl,I.mono p⟩
 unfold y7;refine bZ (cU ?_);walk_at "gb";refine w_eq (bh _ _ _) ?_;refine V6 ?_;dsimp only[List.set];generalize mx b 3=x at *;refine bZ (kE ?_);have hG:=H.led.ob;have U:=H.st.ob;walk_at "gb";refine⟨λY=>?_,λY=>?_⟩
 .walk_at "gb";refine af (gP H.led) λv B1 h=>?_;obtain⟨rfl,L1,st⟩:=h;have l:=(H.lst st).ob;walk_at "gb";refine⟨_,_,_,rfl,rfl,l,Hg,?_⟩;rw[Hf];exact fin (H.move L1 st)
 .walk_at "gb";refine af (gX H.st H.ask A (by walk_at "o")) λv B1 h=>?_;obtain⟨hd,p1⟩:=h;have J:=H.mono p1;walk_at "gb";refine af (eX J Q hd) λw B2 h=>?_;obtain⟨k,rfl,p2,hk⟩:=h;have a4:=(J.mono p2).led.ob;refine V6 ?_;dsimp only[List.set];refine bZ (kE ?_);walk_at "gb";refine af hk λu B3 h=>?_;rcases h with⟨rfl,rfl,m⟩ | ⟨rfl,N,H3⟩
  .refine qJ ?_;rw[show decide (("none" : Ki)=md 0)=true from rfl];refine⟨_,rfl,kG (U5 (kE (nJ (kD ?_))))⟩;walk_at "gb";refine af m λ_ B4 h=>?_;obtain⟨S',W',H4⟩:=h;exact fin H4
  .refine qJ ?_;rw[(ez N).1,show decide (f9 k=f9 k)=true from decide_eq_true rfl];refine⟨_,rfl,kG (U5 (kE (nJ (kD ?_))))⟩;walk_at "gb";rw[(ez N).2];exact kG (U5 (fin H3))
def Hy{ns:List Int}(h:A[a]?=some (.ro (ns.map .int)))(k:Nat):K7 [.ref a,.int k] A=.ok (.int (ns.getD k 0)) A:=by
 have e:Wp (K7 [.ref a,.int k]) A (λv d=>v=.int (ns.getD k 0)/\d=A) NoX:=by
  unfold K7;walk_at "fn";walk_at "gb";refine⟨λc=>?_,λc=>?_⟩
  .have b:k<ns.length:=by simpa using c
   have f:atI (ns.map PV.int) (k:Int)=some (.int (ns.getD k 0)):=by
    rw[vC (by rw[IK];exact b),Nv];simp[b]
   walk_at "gb";exact⟨rfl,rfl⟩
  .have b:¬k<ns.length:=by simpa using c
   walk_at "gb";exact⟨by simp[b],rfl⟩
 obtain⟨v,d,e,rfl,rfl⟩:=nI e;exact e
def Hz{ps:List (Int×Int)}(a:ps.Nodup)(h:ps[i]?=some p):ps.idxOf p=i:=by
 obtain⟨b,rfl⟩:=IW.mp h;exact a.idxOf_getElem i b
noncomputable def i0(a:Int)(ps:List (Int×Int))(p:Int×Int):Int:=mx a (60+ps.idxOf p)%9
def eY(n:ps.Nodup)(l:A[q]?=some (.lst (aL ps)))(z:ps.length<=100):Wp (y0 (o::some (.int d)::r::some (.ref q)::s)) A
 (λv u=>v=.ref A.length/\u=A++[.lst (ps.map λp=>.tup [pv p,.int (i0 d ps p)])]) NoX:=by
 unfold y0;refine nL ?_;walk_at "go";refine⟨(Ju ps.length).zipWith (λi p=>PV.tup [.int (i:Nat),pv p]) ps,ps.length,λi a f B=>B=A/\(∃x y,f=[x,y,some (.int d)])/\a=(ps.take i).map λp=>PV.tup [pv p,.int (i0 d ps p)],?_,by simp,⟨rfl,⟨_,_,rfl⟩,rfl⟩,λi a f B b=>?_,λi v a f B c b=>?_,λa f B b=>?_⟩
 .show ak (G5 q) _ A=_;rw[aG (K8 l)];simp[aL,ret]
 .obtain⟨rfl,_,_⟩:=b;show ak (G5 q) _ _=_;rw[aG (K8 l)];unfold aL;simp only[ret];congr 1;rw[Jm,Q2];by_cases h:i<ps.length
  .simp[h]
  .simp[h]
 .obtain⟨rfl,⟨x,y,rfl⟩,rfl⟩:=b;rw[Q2]at c;have m:i<ps.length:=by
   by_cases h:i<ps.length
   .exact h
   .simp[h]at c
  obtain⟨p,g⟩:∃p,ps[i]?=some p:=⟨_,Jj m⟩;have j:v=.tup [.int (i:Nat),pv p]:=by
   rw[g]at c;simp[m]at c;exact c.symm
  subst j;have w:ps.take (i+1)=ps.take i++[p]:=by rw[LJ,g];rfl
  walk_at "go";refine w_eq (bh _ _ _) ?_;walk_at "go";refine⟨rfl,⟨_,_,rfl⟩,?_⟩;rw[w,JC];unfold i0;simp[Hz n g]
 .obtain⟨rfl,_,rfl⟩:=b;have e:((Ju ps.length).zipWith (λi p=>PV.tup [.int (i:Nat),pv p]) ps).length=ps.length:=by simp
  rw[e,LW];exact⟨aI (by rw[IK];walk_at "o"),rfl,rfl⟩
noncomputable def bitsL(x:Int)(N:Nat):List Int:=(S9 N).filter λk=>decide (Kv (x / 2 ^ k.toNat) 1=1)
def dq{N:Nat}(e:N<=6):Wp (P1 [.int x,.int N]) A (λv b=>v=.ref A.length/\b=A++[.lst ((bitsL x N).map .int)]) NoX:=by
 unfold P1;walk_at "fn";walk_at "go";unfold W0;refine R6 (l:=(S9 N).map .int) (λa=>∃y,a=[y,some (.int x)]) (λv=>match v with | .int k=>decide (Kv (x / 2 ^ k.toNat) 1=1) | _=>false) (λv=>v) ?_;walk_at "go";refine⟨by simp[bb],aI (by simp[bb];walk_at "o"),⟨_,rfl⟩,λi=>by rw[d0,GG],?_,rfl,?_⟩
 .rintro v a c ⟨y,rfl⟩;obtain⟨k,d,rfl⟩:=IU.mp c;have:=mem_hands.mp d;walk_at "go";refine⟨rfl,⟨_,rfl⟩,?_⟩;walk_at "go";refine⟨rfl,rfl,λ_=>?_⟩;walk_at "go";exact⟨rfl,rfl⟩
 .congr 3;unfold bitsL;rw[PU,Ji];rfl
def HA:∀N:Nat,2<=N->N<=5->∀v:Nat,1<=v->v<=2 ^ N - 1->bitsL (v:Int) N≠[]:=by
 have a:∀N:Fin 6,∀v:Fin 32,2<=N.val->1<=v.val->v.val<=2 ^ N.val - 1->(bitsL (v.val:Int) N.val).isEmpty=false:=by decide +kernel
 intro N b c v d e z;have f:2 ^ N<=2 ^ 5:=NA (by decide) c;have:=a ⟨N,by walk_at "o"⟩ ⟨v,by walk_at "o"⟩ b d e;simp only at this;rw[z]at this;cases this
def HC(h:bitsL x N≠[]):d8 N (bitsL x N)=true/\(bitsL x N).Nodup/\(bitsL x N).length<=N:=by
 have e:(bitsL x N).Pairwise (·< ·):=(d6 N).filter _;have a:∀y∈bitsL x N,0<=y/\y<(N:Int):=λy d=>mem_hands.mp (JP.mp d).1;have b:(bitsL x N).Nodup:=e.imp λh z=>by walk_at "o"
 refine⟨lead_iff.mpr ⟨qO e ((d6 N).filter _) λy=>?_,h⟩,b,?_⟩
 .rw[JP,mem_hands];exact⟨λc=>⟨a y c,decide_eq_true c⟩,λc=>of_decide_eq_true c.2⟩
 .have:=b.length_le_of_subset (l₂:=S9 N) λy d=>mem_hands.mpr (a y d)
  rwa [bb]at this
def HD{P w r d dl g N:Nat}{f:Int×Int->Int}(b:cc A P w r N ps L f d dl g)(h:J4 N ps) :
 Wp (D5 [.ref A.length,.ref P,.non]) (A++[.ins 2 []]) (λv A'=>v=.non/\A<+:A'/\bc A' ⟨N,ps,L,f,[],P,w,r,d,dl,g,A.length⟩ ⟨1,[],[],[],0⟩) NoX:=by
 unfold D5;have i:=C5 b.web.ob;have j:=C5 b.web.ls;have l:=C5 b.ob;have m:=C5 b.ls;have n:=C5 b.ld;have o:=C5 b.lk;walk_at "fn";walk_at "gb";simp only[putFld,Nat.reduceEqDiff,if_false,LO,Jo,Js,Kc,PR];refine⟨trivial,?pre,⟨b.mono (A:=A) ?pr2,?ob,?fl,?tl,?sl,?ul,λe p=>(nomatch p),⟨l,i,j,m,n,o⟩,λa c=>(nomatch c),.nil,.nil,.nil,λa c=>(nomatch c),h,by simp⟩⟩
 case pre=>walk_at "pre"
 case pr2=>walk_at "pre"
 case ob=>
  show _=some (PO.ins 2 [(6,.ref P),(7,.ref (A.length+1)),(11,.tup []),(12,.int 1),(13,.ref (A.length+1+1)),(14,.ref (A.length+1+1+1)),(15,.ref (A.length+1+1+1+1))]);walk_at "st"
 case fl=>show(_:PHp)[A.length+1]?=some (PO.lst []);walk_at "st"
 case tl=>show(_:PHp)[A.length+1+1]?=some (PO.dT []);walk_at "st"
 case sl=>show(_:PHp)[A.length+1+1+1]?=some (PO.dT []);walk_at "st"
 case ul=>show(_:PHp)[A.length+1+1+1+1]?=some (PO.dT []);walk_at "st"
def gd(r:Int×List Int)(h:r.2.length<=1000):iE 4 (rowS r):=.tup (by simp) λv a=>by
 simp at a;rcases a with rfl | rfl
 .exact .int
 .exact .tup (by rw[IK];exact h) λv a=>by
   obtain⟨x,_,rfl⟩:=IU.mp a;exact .int
def wx{l:List (Int×List Int)}(f:l.length<=2000)(g:∀r∈l,r.2.length<=1000)(j:A[n]?=some (.lst (l.map rowS)))(o:A[m]?=some (.lst (l.map rowS))):Wp (E5 [.ref n,.ref m]) A (λv A'=>v=.bl true/\A<+:A') NoX:=by
 show Wp (C4 (al 4) [.ref n,.ref m]) A _ _;unfold C4;walk_at "fn";walk_at "gb";have s:(l.map rowS).length<=2000:=by rw[IK];exact f
 have a:∀v∈l.map rowS,∀B,Wp (al 4 [v,v]) B (λv A'=>v=.bl true/\B<+:A') NoX:=λv a B=>by
  obtain⟨r,h,rfl⟩:=IU.mp a;exact o6 4 _ (gd r (g r h)) B
 generalize l.map rowS=l at *;unfold N7;refine qW (Ju l.length) (λi=>.int (i:Int)) (λ_=>.bl true) (λc=>∃x,c=[x,some (.ref n),some (.ref m)]) ?_;walk_at "go";refine⟨by simp,by simp;exact aI (by walk_at "o"),⟨_,rfl⟩,λi B p=>d0 _ _,?_,λB q=>?_⟩
 .rintro i c B b ⟨x,rfl⟩ d;rw[Kr]at b;have e:l[i]?=some l[i]:=Jj b;walk_at "go";refine⟨rfl,⟨_,rfl⟩,?_⟩;walk_at "go";refine bY (ag d j) (iF e) ?_;walk_at "go";refine bY (ag d o) (iF e) ?_;walk_at "go";exact a _ (Ly b) B
 .refine⟨_,(Ju l.length).map λ_=>true,rfl,by rw[aj,Ji];rfl,?_⟩;rw[qX];exact⟨rfl,q.trans (IL _ _)⟩
def ef{l:List Int}(a:l.length<=1000)(b:A[n]?=some (.lst (l.map .int)))(c:A[m]?=some (.lst (l.map .int))):Wp (E5 [.ref n,.ref m]) A (λv A'=>v=.bl true/\A<+:A') NoX:=
 vY (k:=4) (by rw[IK];exact a) (λv d=>by
  obtain⟨p,_,rfl⟩:=IU.mp d;exact .int) b c
def HE(h:Wp (e σ) A (λx b=>∃n l,x=.ref n/\b[n]?=some (.lst l)/\Q .non (b.set n (.lst []))) E):Wp (mN e σ) A Q E:=
 B6 (af h λx b c=>by
  obtain⟨n,l,d,f,q⟩:=c;subst d;exact B6 (X4 f (B6 (w_eq (a:=()) rfl q))))
def HF(q:Q (.ref A.length) (A++[.dS (dw 1 A.length),.dT [],.dT [],.dT []])):Wp (cT [("turn",eK (.int 1)),("lays",eTNew),("says",eTNew),("shown",eTNew)] σ) A Q E:=by
 refine B6 (w_eq (a:=.ref A.length) (A':=A++[.dS []]) rfl ?_);refine B6 (w_eq (a:=([("turn",.int 1),("lays",.ref (A.length+1)),("says",.ref (A.length+2)),("shown",.ref (A.length+3))]:List (Ki×PV))) (A':=A++[.dS [],.dT [],.dT [],.dT []]) ?_ ?_)
 .simp[kY,eTNew]
 .refine B6 (rq (m:=[]) (by simp) ?_);refine B6 (w_eq (a:=()) (A':=A++[.dS (dw 1 A.length),.dT [],.dT [],.dT []]) ?_ (w8 q));show R.ok () ((A++[PO.dS [],.dT [],.dT [],.dT []]).set A.length _)=_;rw[PN _ _ (IM _)];simp;rfl
def mf(H:cz B c S W a q lv d fa sc cells i)(hi:i<=800):Wp (d5 [I,J,L,some (.ref q),N,O,Q,T,U,Y,some (.ref c.G),some (.ref a),f,g,m]) B (λv B'=>∃n,v=.ref n/\B'[n]?=some (.lst ((c.ps.map λ_=>true).map .bl))) NoX:=by
 unfold d5;have z:=H.ask.pq;have A:=H.led.pg.len;refine qW c.ps pv (λ_=>.bl true) (λC=>∃x,C=[x,some (.ref c.G),some (.ref a)]) ?_;walk_at "go";refine⟨by rw[bg z,cR],aI (by walk_at "o"),⟨_,rfl⟩,λj D p=>S7 (ag p z) j,?_,λD p=>⟨_,rfl,by rw[aj,Ji];rfl⟩⟩;rintro p C D hp ⟨x,rfl⟩ p1;have o:=H.mono p1;have hG:=o.led.ob;walk_at "go";refine⟨rfl,⟨_,rfl⟩,?_⟩;walk_at "go";refine af (et o.led p) λv B2 b=>?_;obtain⟨n,rfl,_,s,u,_⟩:=b;have w:=o.mono s;have a1:=w.st.ob;have a2:=w.st.sl;walk_at "go";have hr:(rowsAt S p).length<=2000:=by have:=rB H.led p;have:=H.ms;walk_at "o"
 have y:∀r∈rowsAt S p,r.2.length<=1000:=λr h=>by have:=(H.ro p r h).2.1;walk_at "o"
 rw[show aD (W.map λe=>(l2 e.1,PV.ref e.2)) [p.1,p.2]=aD (W.map λe=>(l2 e.1,PV.ref e.2)) (l2 p)from rfl,rA];cases e:look W p with
 | some ad=>
   refine af (wx hr y (ai u) (ai (w.st.rows _ (U9 e)))) λv B3 b=>?_;exact⟨b.1,s.trans ((IL _ _).trans b.2)⟩
 | none=>
   have h0:rowsAt S p=[]:=by
    cases e2:rowsAt S p with
    | nil=>rfl
    | cons r l=>
      have E:=(H.ro p r (by rw[e2];exact IV)).2.2;have h2:K0 S p=none:=look_none.mpr (by rw[<-H.st.ks];exact look_none.mp e);rw[h2]at E;cases E
   rw[h0]at u;refine af (wx (l:=[]) (by simp) (λr h=>by cases h) (ai u) aj) λv B3 b=>?_;exact⟨b.1,s.trans ((IL _ _).trans b.2)⟩
def wy{d:Nat}{fa:Nat}{A:PHp}{ns:List Int}(E:bc A c ⟨1,[],[],[],0⟩)(K:eV A q lv d fa c)(hA:A[0]?=some (.ro (ns.map .int)))(hL:c.L.length<=100)(b1:c.fr.length<=100)(H:c.ps≠[])(C:∀x,x=q\/x=lv\/x=d\/x=fa->x<c.G\/c.G+4<x){x1 x2 x6 x8 x9 I J N:Option PV} :
 Wp (ao (az (cT [("turn",(eK (.int 1))),("lays",eTNew),("says",eTNew),("shown",eTNew)]) (gName 11))
 (ao y8
 (ao (aP (tNot (aq (C8 E5 (ae (aH (aa 10) 7) (ae (aa 5) aNil)))))
 (aw (eK (.bl false)))
 sPass)
 (aw (fb d5)))) [some (.ref 0),x1,x2,some (.ref q),some (.ref lv),some (.ref fa),x6,some (eW q lv d),x8,x9,some (.ref c.G),none,I,J,N]) A (λo _=>o=.rt (.bl true)) NoX:=by
  refine bZ (cU (HF (V6 ?_)));dsimp only[List.set];have O:A<+:A++[PO.dS (dw 1 A.length),.dT [],.dT [],.dT []]:=IL _ _;have h0:(A++[PO.dS (dw 1 A.length),.dT [],.dT [],.dT []])[A.length]?=some (.dS (dw 1 A.length)):=by simp
  have h1:(A++[PO.dS (dw 1 A.length),.dT [],.dT [],.dT []])[A.length+1]?=some (.dT []):=by simp
  have h2:(A++[PO.dS (dw 1 A.length),.dT [],.dT [],.dT []])[A.length+2]?=some (.dT []):=by simp
  have h3:(A++[PO.dS (dw 1 A.length),.dT [],.dT [],.dT []])[A.length+3]?=some (.dT []):=by simp
  have c1:A.length<=A.length:=IM _;have hdl:=E.dlt;have f:=K.lt;have c2:c.G+4<A.length:=C5 E.ul;generalize A++[PO.dS (dw 1 A.length),.dT [],.dT [],.dT []]=g at *;generalize ha:A.length=a at *;have H1:=E.mono O;have K1:=K.mono O;have d1:=ag O hA;have L1:cP g a ⟨1,[],[],[],0⟩ []:=⟨h0,h1,h2,h3,λe Q=>(nomatch Q),rfl,λe Q=>(nomatch Q),.nil⟩;refine bZ ?_;unfold y8;refine qu (λi D B=>∃T l m s S W,D=[some (.ref 0),T,x2,some (.ref q),some (.ref lv),some (.ref fa),x6,some (eW q lv d),x8,x9,some (.ref c.G),some (.ref a),l,m,s]/\cz B c S W a q lv d fa g.length (cut ns (some 1) (some 41)) i) ?_;walk_at "gb";have u:cut (ns.map PV.int) (some 1) (some 41)=(cut ns (some 1) (some 41)).map .int:=vI _ _ _ _;have e0:(cut ns (some 1) (some 41)).length<=40:=by
   unfold cut;rw[KG];have:T6 ns.length ns.length (some 41) - T6 ns.length 0 (some 1)<=40:=by unfold T6;simp;walk_at "o"
   walk_at "o"
  rw[u];have U:g<+:g++[PO.lst ((cut ns (some 1) (some 41)).map .int)]:=IL _ _;have Y:(g++[PO.lst ((cut ns (some 1) (some 41)).map .int)])[g.length]?=some (.lst ((cut ns (some 1) (some 41)).map .int)):=aj;have e1:a+3<g.length:=C5 h3;generalize g++[PO.lst ((cut ns (some 1) (some 41)).map .int)]=A2 at *;generalize g.length=sc at *;generalize cut ns (some 1) (some 41)=cells at *;have w:∀x,x∈own c ⟨1,[],[],[],0⟩↔x=c.G\/x=c.G+2\/x=c.G+3\/x=c.G+4:=λx=>by
   unfold own sadr;simp
  have y:∀x,x∈sown a []↔x=a\/x=a+1\/x=a+2\/x=a+3:=λx=>by unfold sown;simp
  have H2:cz A2 c ⟨1,[],[],[],0⟩ [] a q lv d fa sc cells 0:=by
   refine⟨H1.mono U,L1.mono U,K1.mono U,Y,λp r hr=>(nomatch hr),IM _,λx hx z=>?_,λx hx=>?_⟩
   .rw[y]at hx;have:=hdl x z;walk_at "o"
   .rw[w,y];rcases hx with h | h | h | h | h
    .have:=C x (.inl h);have:=f x (.inl h);walk_at "o"
    .have:=C x (.inr (.inl h));have:=f x (.inr (.inl h));walk_at "o"
    .have:=C x (.inr (.inr (.inl h)));have:=f x (.inr (.inr (.inl h)));walk_at "o"
    .have:=C x (.inr (.inr (.inr h)));have:=f x (.inr (.inr (.inr h)));walk_at "o"
    .walk_at "o"
  refine⟨sc,cells.map .int,rfl,⟨_,_,_,_,_,_,rfl,H2⟩,λi D B b=>?_,λi v D B hv b=>?_,λD B b=>?_⟩
  .obtain⟨_,_,_,_,_,_,_,j⟩:=b;exact K8 j.cs
  .obtain⟨T,l,m,s,S,W,rfl,j⟩:=b;rw[Jm]at hv;obtain⟨a8,hc,rfl⟩:=Jz.mp hv;have hi:i<cells.length:=(IW.mp hc).1;walk_at "go";refine af (me j hL H (by walk_at "o")) λo B1 b=>?_;obtain⟨e7,e8,e9,S',W',rfl,a1⟩:=b;exact⟨_,_,_,_,_,_,rfl,a1⟩
  .obtain⟨T,l,m,s,S,W,rfl,j⟩:=b;rw[IK]at j;have hG:=j.led.ob;walk_at "gb";refine af (ef (by walk_at "o") j.led.fl j.ask.ff) λv B1 b=>?_;obtain⟨rfl,p3⟩:=b;have H3:=j.mono p3;walk_at "gb";refine af (mf H3 (by walk_at "o")) λv B2 b=>?_;obtain⟨n,rfl,hn⟩:=b;exact⟨_,_,rfl,hn,by rw[qX]⟩
def law_pure:∀ns:List Int,∃A',nM [.ref 0] [.ro (ns.map .int)]=.ok (.bl true) A':=by
 intro ns;have h:Wp (nM [.ref 0]) [.ro (ns.map .int)] (λv _=>v=.bl true) NoX:=by
  generalize b0:[PO.ro (ns.map PV.int)]=A0;have hA:A0[0]?=some (.ro (ns.map .int)):=by rw[<-b0];rfl
  clear b0;unfold nM;walk_at "fn";walk_at "gb";refine w_eq (Hy hA 0) ?_;generalize ns.getD 0 0=b;walk_at "gb";refine w_eq (bh _ _ _) ?_;have m0:=rg b 0;obtain⟨N,hN,Q⟩:∃N:Nat,2+mx b 0%4=N/\2<=N/\N<=5:=⟨(2+mx b 0%4).toNat,by walk_at "o",by walk_at "o",by walk_at "o"⟩;walk_at "gb";rw[hN];refine af (GU Q.1 (by walk_at "o")) λv A1 i=>?_;obtain⟨p1,a,q,rfl,hq,P,h5,k5,b1,_⟩:=i;have b2:=ag p1 hA;clear p1 hA;have b3:a≠[]:=λz=>by
   obtain⟨g,hg⟩:=b1 0 ⟨Int.le_refl _,by walk_at "o"⟩;rw[z]at hg;cases hg
  walk_at "gb";refine w_eq (bh _ _ _) ?_;walk_at "gb";have m1:=rg b 1;obtain⟨x,hx,T⟩:∃x:Nat,1+mx b 1%(1*2 ^ (N:Int).toNat - 1)=(x:Int)/\1<=x/\x<=2 ^ N - 1:=by
   have U:N=2\/N=3\/N=4\/N=5:=by walk_at "o"
   refine⟨(1+mx b 1%(1*2 ^ (N:Int).toNat - 1)).toNat,?_⟩;rcases U with rfl | rfl | rfl | rfl<;>simp<;>walk_at "o"
  have b5:=HA N Q.1 Q.2 x T.1 T.2;have I:(0:Int)<1*2 ^ (N:Int).toNat - 1:=by
   have U:N=2\/N=3\/N=4\/N=5:=by walk_at "o"
   rcases U with rfl | rfl | rfl | rfl<;>decide
  refine w_mod I ?_;walk_at "gb";rw[hx];refine af (dq (by walk_at "o")) λv Y i=>?_;obtain⟨rfl,rfl⟩:=i;obtain⟨a0,h7,g4⟩:=HC b5;generalize bitsL (x:Int) N=L at *;clear hx T I b5 m1;have q2:A1<+:A1++[PO.lst (L.map .int)]:=IL _ _;have c1:(A1++[PO.lst (L.map .int)])[A1.length]?=some (.lst (L.map .int)):=aj;generalize A1++[PO.lst (L.map .int)]=Y at *;generalize A1.length=l at *;have c2:=ag q2 hq;have c3:=ag q2 b2;clear q2 b2 hq;walk_at "gb";refine w_eq (bh _ _ _) ?_;walk_at "gb";refine af (dq (by walk_at "o")) λv A3 i=>?_;obtain⟨rfl,rfl⟩:=i;have h8:(bitsL (mx b 2) N).length<=6:=Jt (KJ _ _) (by rw[bb];walk_at "o");generalize bitsL (mx b 2) N=u at *;have q3:Y<+:Y++[PO.lst (u.map .int)]:=IL _ _;have c4:(Y++[PO.lst (u.map .int)])[Y.length]?=some (.lst (u.map .int)):=aj;generalize Y++[PO.lst (u.map .int)]=A3 at *;generalize Y.length=fa at *;have a2:=ag q3 c2;have d1:=ag q3 c3;have d2:=ag q3 c1;clear q3 c3 c2 c1;walk_at "gb";refine af (eY P.nd a2 (by walk_at "o")) λv A6 i=>?_;obtain⟨rfl,rfl⟩:=i;refine⟨_,_,_,rfl,aj,we (λp=>.int (i0 b a p)) _,aX (by rw[IK];walk_at "o"),?_⟩;rw[GH P.nd];have q6:A3<+:A3++[PO.lst (a.map λp=>PV.tup [pv p,.int (i0 b a p)])]++[PO.dT (a.map λp=>(l2 p,PV.int (i0 b a p)))]:=(IL _ _).trans (IL _ _);have a3:(A3++[PO.lst (a.map λp=>PV.tup [pv p,.int (i0 b a p)])]++[PO.dT (a.map λp=>(l2 p,PV.int (i0 b a p)))])[(A3++[PO.lst (a.map λp=>PV.tup [pv p,.int (i0 b a p)])]).length]?=some (.dT (a.map λp=>(l2 p,PV.int (i0 b a p)))):=aj;have hm:∀p∈a,∃y:Int,0<=y/\aD (a.map λp=>(l2 p,PV.int (i0 b a p))) (l2 p)=some (.int y):=λp hp=>⟨_,by unfold i0;exact MN _ (by decide),vO (f:=i0 b a) P.nd hp⟩;generalize A3++[PO.lst (a.map λp=>PV.tup [pv p,.int (i0 b a p)])]++[PO.dT (a.map λp=>(l2 p,PV.int (i0 b a p)))]=A6 at *;generalize(A3++[PO.lst (a.map λp=>PV.tup [pv p,.int (i0 b a p)])]).length=d at *;generalize(a.map λp=>(l2 p,PV.int (i0 b a p)))=m at *;have a4:=ag q6 a2;have e1:=ag q6 d1;have a5:=ag q6 d2;have e2:=ag q6 c4;clear q6 a2 d1 d2 c4;walk_at "gb";obtain⟨A7,r,e7,p7,W7,g8⟩:=Fo P (A:=A6) (q:=q) a4;refine w_eq e7 ?_;walk_at "gb";refine af (eR W7 (ag p7 a5) (by walk_at "o") (ag p7 a3) P a0 hm) λv c i=>?_;obtain⟨_,p8,ll,dl,dk,j,_⟩:=i;have q8:A6<+:c:=p7.trans p8;have e3:=ag q8 a4;have h0:=ag q8 e1;have e4:=ag q8 a5;have e5:=ag q8 e2;generalize A6.length=w at j ⊢;generalize A7.length=Pn at j ⊢;have e6:=ag q8 a3;have e8:∀p∈a,aD m (l2 p)=some (.int (cn m p)):=λp hp=>by
   obtain⟨y,_,e⟩:=hm p hp;unfold cn;rw[e]
  clear q8 p8 p7 W7 e7 g8 a5 e1 a4 a3 hm e2;have m2:q<c.length:=C5 e3;have n1:l<c.length:=C5 e4;have n2:fa<c.length:=C5 e5;have n3:d<c.length:=C5 e6;walk_at "gb";have p9:c<+:c++[PO.lst (u.map .int)]:=IL _ _;have h9:(c++[PO.lst (u.map .int)])[c.length]?=some (.lst (u.map .int)):=aj;have l9:c.length<(c++[PO.lst (u.map .int)]).length:=by simp
  generalize c++[PO.lst (u.map .int)]=A9 at *;refine af (Gz (j.mono p9) P h9 (by walk_at "o")) λv B i=>?_;obtain⟨_,e9,HL⟩:=i;generalize o1:A9.length=G at *;have h2:=p9.trans e9;have C:∀x o,c[x]?=some o->(B.set c.length (.lst []))[x]?=some o:=λx o h=>(C6 (by have:=C5 h;walk_at "o")).trans (ag h2 h);have o2:=C5 j.ob;have hw:=C5 j.web.ob;have hr:=C5 j.web.ls;have o3:=C5 j.ls;have hdl:=C5 j.ld;have p0:=C5 j.lk;have HL:=HL.set (k:=c.length) (o:=.lst []) λz=>by
   unfold dom own sadr at z;simp only[IT,Nh,JT,or_false]at z;walk_at "o"
  have J:B[c.length]?=some (.lst (u.map .int)):=ag e9 h9;refine V6 ?_;dsimp only[List.set];refine bZ (qt (HE ?_));refine w_var rfl ⟨_,_,rfl,J,?_⟩;have f0:cc (B.set c.length (.lst [])) Pn w r N a L (cn m) ll dl dk:=⟨⟨C _ _ j.web.ob,C _ _ j.web.ls⟩,C _ _ j.ob,C _ _ j.ls,C _ _ j.ld,C _ _ j.lk⟩;have k2:c.length<(B.set c.length (.lst [])).length:=by rw[LO];exact C5 J
  generalize B.set c.length (.lst [])=n at *;have D:=C _ _ e3;have s:=C _ _ e4;have f1:=C _ _ e5;have E:=C _ _ e6;have O:=C _ _ h0;refine bZ (kE ?_);walk_at "gb";refine w_eq (bh _ _ _) ?_;walk_at "gb";refine⟨λhb=>?_,λhb=>?_⟩
  .walk_at "gb";have f2:n<+:n++[PO.lst []]:=IL _ _;have h3:(n++[PO.lst []])[n.length]?=some (.lst []):=aj;have p3:(n++[PO.lst []]).length=n.length+1:=by simp
   generalize n++[PO.lst []]=f3 at *;show Wp (D5 [.ref f3.length,.ref Pn,.non]) _ _ _;refine af (HD (f0.mono f2) P) λv p4 i=>?_;obtain⟨_,f4,f5⟩:=i;have H:=f2.trans f4;refine V6 ?_;dsimp only[List.set];refine af (wy f5 ⟨ag H D,ag H s,⟨_,ag H E,e8⟩,ag f4 h3,P⟩ (ag H O) (by show L.length<=100;walk_at "o") (by show 0<=100;walk_at "o") b3 λx hx=>?_) λo A' i=>?_
   .left;show x<f3.length;have:=C5 D;have:=C5 s;have:=C5 E;rcases hx with h | h | h | h<;>walk_at "o"
   .rw[i]
  .refine U5 (af (wy HL ⟨D,s,⟨_,E,e8⟩,f1,P⟩ O (by show L.length<=100;walk_at "o") (by show u.length<=100;walk_at "o") b3 λx hx=>?_) λo A' i=>?_)
   .left;show x<G;rcases hx with h | h | h | h<;>walk_at "o"
   .rw[i]
 obtain⟨v,A',e,hv⟩:=nI h;exact⟨A',by rw[e,hv]⟩
end Ws
namespace Ws
open PySem
structure nT(mg:Str->Option II):Prop where
 g_FEWEST_HANDS:∃t,mg "FEWEST_HANDS" = some (.int 2 t)
 g_MOST_HANDS:∃t,mg "MOST_HANDS" = some (.int 6 t)
 g_LAY:∃t,mg "LAY" = some (.str "lay" t)
 g_SAY:∃t,mg "SAY" = some (.str "say" t)
end Ws
local macro_rules | `(tactic| walk_at "nd")=>`(tactic| ((conv=>arg 1;whnf);decide +kernel))
set_option hygiene false in
local macro_rules | `(tactic| walk_at "gl")=>`(tactic| first | exact GL.g_FEWEST_HANDS | exact GL.g_LAY | exact GL.g_MOST_HANDS | exact GL.g_SAY | exact MC.m_Laid | exact MC.m_Late | exact MC.m_NoDeed | exact MC.m_NotLaid | exact MC.m_SwapError | exact MC.m_Unknown)
local macro_rules | `(tactic| walk_at "al")=>`(tactic| first | exact Ws.AF | (refine Ws.AG ?_ ?_<;>walk_at "al") | rfl | walk_at "fb")
local macro_rules | `(tactic| walk_at "so")=>`(tactic| exact⟨rfl,rfl,by decide +kernel,by decide +kernel,by walk_at "al",by walk_at "al"⟩)
local macro_rules | `(tactic| walk_at "fr")=>`(tactic| first | exact .nil | (refine .own ?_;walk_at "fr") | (refine .free rfl (by walk_at "o2") (by walk_at "o3") rfl (by walk_at "o2") ?_;walk_at "fr"))
namespace Ws
open PySem L2
section
set_option maxHeartbeats 0
variable{P:Jg}{w:JJ}{K:IH}{mg:Str->Option II}{base:Heap}{cm:Nat->Addr}
noncomputable def top(i:Nat):Stmt:=PySem.Challenge.pw_wordswap_k26_whole_ledger.main.body.getD i (.Pass ⟨0,0,0,0⟩)
structure wz(mg:Str->Option II)(cm:Nat->Addr):Prop where
 m_SwapError:mg "SwapError" = some (.ref (cm 7))
 m_NoWeb:mg "NoWeb" = some (.ref (cm 8))
 m_NoPlan:mg "NoPlan" = some (.ref (cm 9))
 m_NoDeed:mg "NoDeed" = some (.ref (cm 12))
 m_Laid:mg "Laid" = some (.ref (cm 13))
 m_NotLaid:mg "NotLaid" = some (.ref (cm 14))
 m_Late:mg "Late" = some (.ref (cm 15))
 m_Unknown:mg "Unknown" = some (.ref (cm 16))
 m_ValueError:mg "ValueError" = none
def HG:P6 ["self","at"] ["self","at"] (C2 (C3 (top 2) 0)):=⟨rfl,rfl,rfl,by decide +kernel,rfl,by decide +kernel,by decide +kernel⟩
def HH(F:L2.Fun K "__init__" "SwapError.__init__" (C3 (top 2) 0) b c):av P w K mg base aO 1 b c ["self","at"] (kA K):=
 Cd F HG rfl λd A a e H E f=>mr (BM (L2.pv 0) (L2.pv 1) rfl)
set_option hygiene false in
local macro_rules | `(tactic| walk_at "r")=>`(tactic| ((try delta K5 K6 d3 X5 U6 U7 bB bC Q9 M0 H8 G4 aJ U8 N7 N0 N1 aV N2 aW N3 W0 R7 bD R8 W2 R9 T4 S0 bE W4 O4 y0 y7 y8 d5);(conv=>arg 2;whnf);(try change eD _ _ _ _);repeat' first
  | (with_reducible show PS _ (NK.For _ (MB.Call (JM _ "items" _) _ _ _) _ _ _) _);refine DK Qa rfl ?_ ?_ ?_
  | (with_reducible show Pe _ _ (Je _ _) (aa _));refine nH _
  | (with_reducible show Pa _ _ (_::_) (ae _ _));refine aN ?_ ?_
  | (with_reducible show Pe _ _ (Ka (Qb _) _ _) (eK (PV.int _)));refine lh
  | (with_reducible show Pa _ _ [] aNil);refine br
  | (with_reducible show eD _ _ (_::_) (ao _ _));refine Ah ?_ ?_
  | (with_reducible show eD _ _ [_] _);refine jo ?_
  | (with_reducible show Ps _ _ (NK.Return (some _) _) (aw _));refine lF ?_
  | (with_reducible show PE _ (.ListComp _ [⟨.Tuple [.Name "low" _,.Name "high" _] _ _,_,_,_⟩] _ _) _);refine P7 (N:=["low","high"]) _ rfl (by walk_at "so") (by walk_at "fr") ?_ (λ_ _ _ _=>?_) (λ_ _ _ _=>?_) (λ_ _ _ _=>?_)
  | (with_reducible show PE _ (.ListComp _ [⟨.Name "h" _,_,_,_⟩] _ _) _);refine P7 (N:=["h","web"]) _ rfl (by walk_at "so") (by walk_at "fr") ?_ (λ_ _ _ _=>?_) (λ_ _ _ _=>?_) (λ_ _ _ _=>?_)
  | (with_reducible show PE _ (.ListComp _ [⟨.Name "step" _,_,_,_⟩] _ _) _);refine P7 (N:=["step","web"]) _ rfl (by walk_at "so") (by walk_at "fr") ?_ (λ_ _ _ _=>?_) (λ_ _ _ _=>?_) (λ_ _ _ _=>?_)
  | (with_reducible show PE _ (.ListComp _ [⟨.Name "h" _,_,_,_⟩] _ _) _);refine P7 (N:=["h","plan"]) _ rfl (by walk_at "so") (by walk_at "fr") ?_ (λ_ _ _ _=>?_) (λ_ _ _ _=>?_) (λ_ _ _ _=>?_)
  | (with_reducible show PE _ (.ListComp _ [⟨.Tuple [.Name "turn" _,.Name "chain" _] _ _,_,_,_⟩] _ _) _);refine P7 (N:=["turn","chain"]) _ rfl (by walk_at "so") (by walk_at "fr") ?_ (λ_ _ _ _=>?_) (λ_ _ _ _=>?_) (λ_ _ _ _=>?_)
  | (with_reducible show PE _ (.ListComp _ [⟨.Name "leader" _,_,_,_⟩] _ _) _);refine P7 (N:=["leader","words"]) _ rfl (by walk_at "so") (by walk_at "fr") ?_ (λ_ _ _ _=>?_) (λ_ _ _ _=>?_) (λ_ _ _ _=>?_)
  | (with_reducible show PE _ (.ListComp _ [⟨.Name "passing" _,_,_,_⟩] _ _) _);refine P7 (N:=["passing","self"]) _ rfl (by walk_at "so") (by walk_at "fr") ?_ (λ_ _ _ _=>?_) (λ_ _ _ _=>?_) (λ_ _ _ _=>?_)
  | (with_reducible show PE _ (.ListComp _ [⟨.Name "_law_k" _,_,_,_⟩] _ _) _);refine P7 (N:=["_law_k","_law_found","_law_due_here"]) _ rfl (by walk_at "so") (by walk_at "fr") ?_ (λ_ _ _ _=>?_) (λ_ _ _ _=>?_) (λ_ _ _ _=>?_)
  | (with_reducible show PE _ (.ListComp _ [⟨.Name "_law_hand" _,_,_,_⟩] _ _) _);refine P7 (N:=["_law_hand","_law_cell"]) _ rfl (by walk_at "so") (by walk_at "fr") ?_ (λ_ _ _ _=>?_) (λ_ _ _ _=>?_) (λ_ _ _ _=>?_)
  | (with_reducible show PS _ (.Assign _ (.ListComp _ [⟨.Name "_law_k" _,_,_,_⟩] _ _) _) _);refine ua (N:=["_law_k","_law_order"]) _ rfl (by walk_at "so") (by walk_at "fr") ?_ (λ_ _ _ _=>?_) (λ_ _ _ _=>?_) (λ_ _ _ _=>?_) (by walk_at "nd") rfl (by walk_at "o2")
  | (with_reducible show PE _ (.ListComp _ [⟨.Tuple [.Name "_law_giver" _,.Name "_law_taker" _] _ _,_,_,_⟩] _ _) _);refine P7 (N:=["_law_giver","_law_taker","_law_way"]) _ rfl (by walk_at "so") (by walk_at "fr") ?_ (λ_ _ _ _=>?_) (λ_ _ _ _=>?_) (λ_ _ _ _=>?_)
  | (with_reducible show PE _ (.ListComp _ [⟨.Name "_law_way" _,_,_,_⟩] _ _) _);refine P7 (N:=["_law_way","_law_leaders"]) _ rfl (by walk_at "so") (by walk_at "fr") ?_ (λ_ _ _ _=>?_) (λ_ _ _ _=>?_) (λ_ _ _ _=>?_)
  | (with_reducible show PE _ (.ListComp _ [⟨.Tuple [.Name "_law_turn" _,.Name "_law_chain" _] _ _,_,_,_⟩] _ _) _);refine P7 (N:=["_law_turn","_law_chain"]) _ rfl (by walk_at "so") (by walk_at "fr") ?_ (λ_ _ _ _=>?_) (λ_ _ _ _=>?_) (λ_ _ _ _=>?_)
  | (with_reducible show PS _ (.Assign _ (.ListComp _ [⟨.Name "_law_chain" _,_,_,_⟩] _ _) _) _);refine ua (N:=["_law_chain","_law_state","_law_free"]) _ rfl (by walk_at "so") (by walk_at "fr") ?_ (λ_ _ _ _=>?_) (λ_ _ _ _=>?_) (λ_ _ _ _=>?_) (by walk_at "nd") rfl (by walk_at "o2")
  | (with_reducible show PE _ (.ListComp _ [⟨.Tuple [.Name "_law_k" _,.Name "_law_passing" _] _ _,_,_,_⟩] _ _) _);refine P7 (N:=["_law_k","_law_passing","_law_cell"]) _ rfl (by walk_at "so") (by walk_at "fr") ?_ (λ_ _ _ _=>?_) (λ_ _ _ _=>?_) (λ_ _ _ _=>?_)
  | (with_reducible show PE _ (.ListComp _ [⟨.Name "_law_passing" _,_,_,_⟩] _ _) _);refine P7 (N:=["_law_passing","_law_ledger","_law_state"]) _ rfl (by walk_at "so") (by walk_at "fr") ?_ (λ_ _ _ _=>?_) (λ_ _ _ _=>?_) (λ_ _ _ _=>?_)
  | (with_reducible show Ps _ _ (LQ [Je _ _] _ _) (az _ (gName _)));refine lH (by walk_at "nd") rfl (by walk_at "o2") ?_
  | (with_reducible show Pe _ _ (Kx _ _ _) (eBin oIx _ _));refine r_ix ?_ ?_ (λ_ _=>rfl)
  | (with_reducible show Pe _ _ (Ka (Rh.str _) _ _) (eK (PV.str _)));refine iw
  | (with_reducible show eD _ _ [] sPass);refine jn
  | (with_reducible show Pe _ _ ((Je _ _).Call (_::_) [] _) (C8 _ _));refine tU (by assumption) (by decide) hr rfl ?_
  | (with_reducible show Ps _ _ (NK.If _ _ _ _) (aP _ _ _));refine pe ?_ ?_ ?_
  | (with_reducible show Pg _ _ _ (gName _));refine jl (gm (by walk_at "nd") rfl (by walk_at "o2"))
  | (with_reducible show Pe _ _ (JM _ _ _) (aH _ _));refine qj _ B ?_
  | (with_reducible show Pe _ _ (MB.Tuple _ _ _) (aC _));refine ly ?_
  | (with_reducible show eZ _ _ (dR _ _ (gCons _ _)));refine jm ?_ ?_
  | (with_reducible show Pe _ _ (KW _ _ _ _) (eBin aS _ _));refine cE gx jg ?_ ?_
  | (with_reducible show Pe _ _ (Kx _ _ _) (eSGet _ _));refine r_sget hu1 ?_ ?_ (λ_ _=>rfl)
  | (with_reducible show PT _ (KL _ _ _) _);refine PW.pt ?_
  | (with_reducible show Pt _ _ (MP OZ.Not _ _) (tNot _));refine ji ?_
  | (with_reducible show Pe _ _ (MB.List _ _) (be _));refine lz ?_
  | (with_reducible show Pw _ _ (KL NU (_::_::_) _) (tOr _ _));refine Aa ?_ ?_
  | (with_reducible show Pt _ _ (Jp _ [_] [_] _) (aq (eBin ck _ _)));refine cy (fC hu) ig ?_ ?_ (bz _)
  | (with_reducible show Pe _ _ (KW _ _ _ _) (eBin aY _ _));refine cE iO je ?_ ?_
  | (with_reducible show Pe _ _ (KL Nw (_::_::_) _) (T7 _ _));refine ib ?_ ?_
  | (with_reducible show Pe _ _ ((Je (Jd "len") _).Call [_] [] _) (V7 _));refine Ac ?_ rfl B.b_len
  | (with_reducible show Pe _ _ (Ka (Rh.bool _) _ _) (eK (PV.bl _)));refine oZ
  | (with_reducible show Ps _ _ (LQ [JM _ _ _] _ _) (sFld _ _ _));refine qk _ B ?_ ?_
  | (with_reducible show Pw _ _ (KL NU [_] _) _);refine jj ?_
  | (with_reducible show Pt _ _ (Jp _ [_] [_] _) (aq (eBin cD _ _)));refine cy (fD hu) ij ?_ ?_ (bz _)
  | (with_reducible show L2.PI _ _ _ (EvI _ _ (bW _)));refine lJ ?_
  | (with_reducible show Pe _ _ (KL Nw [_] _) _);refine fB ?_
  | (with_reducible show jv _ _ (fc _ _ bf));refine jw
  | (with_reducible show bP _ [_] (bt _ _ _ _));refine gD ?_
  | (with_reducible show Pg _ _ (MB.Tuple _ _ _) (gTup _ _));refine lE rfl ?_
  | (with_reducible show eZ _ _ (dR _ _ gNil));refine lD
  | (with_reducible show Ps _ _ (NK.Expr _ _) (aU _));refine jq ?_
  | (with_reducible show L2.PO _ _ (jk _ _ (fm _)));refine lB ?_
  | (with_reducible show Pe _ _ ((Je (Jd "all") _).Call [_] [] _) (fb _));refine Bn rfl ?_ rfl B.b_all
  | (with_reducible show bP _ _ (bt _ _ _ (ao _ _)));refine fJ ?_ ?_
  | (with_reducible show Pe _ _ ((JM _ _ _).Call (_::_) [] _) (aM _ _ _ _));refine Ax (by assumption) (by decide) hr (B.cls _ (by decide)) ?_ ?_ (by decide +kernel)
  | (with_reducible show Pe _ _ (Kx _ (MB.Slice _ _ none _) _) (cX _ _ _));refine lC ?_ ?_ ?_
  | (with_reducible show Pe _ _ (MB.Dict [] [] _) eTNew);refine jH
  | (with_reducible show Pe _ _ (Jp _ [_] [_] _) (eBin ck _ _));refine dg (fC hu) ig ?_ ?_ (bz _)
  | (with_reducible show PS _ (NK.For _ _ _ _ _) _);refine lI Qa rfl ?_ ?_ ?_
  | (with_reducible show L2.PO _ _ (jk _ _ gr));refine lA
  | (with_reducible show Pe _ _ (Kx _ _ _) (eTGet _ _));refine r_tget hu1 ?_ ?_ (λ_ _=>rfl)
  | (with_reducible show PS _ _ (bt _ _ _ (aP (cY _) _ _)));refine lT ?_ ?_ ?_
  | (with_reducible show L2.PI _ _ _ (EvI _ _ (iRng1 _)));refine jr rfl B.b_range ?_
  | (with_reducible show Pe _ _ (KW _ _ _ _) (eBin cH _ _));refine cE iN jf ?_ ?_
  | (with_reducible show Pe _ _ (KW _ _ _ _) (eBin bw _ _));refine cE gp gw ?_ ?_
  | (with_reducible show Pe _ _ ((Je (Jd "isinstance") _).Call [_,Je _ _] [] _) (V8 _ _));refine mZ B.kit ?_ rfl B.b_isinstance rfl B.b_tuple Pb
  | (with_reducible show Pt _ _ (Jp _ [_] [_] _) (aq (eBin dO _ _)));refine cy (fE hu) ik ?_ ?_ (by rfl)
  | (with_reducible show Pt _ _ (Jp _ [_] [_] _) (aq (eBin bq _ _)));refine cy (eF hu) fF ?_ ?_ (by rfl)
  | (with_reducible show Pe _ _ (MP OZ.USub (Ka (Qb _) _ _) _) (eK (PV.int (-_))));refine lP
  | (with_reducible show Pt _ _ (Jp _ [_] [_] _) (aq (eBin dN _ _)));refine cy fi fz ?_ ?_ (bz _)
  | (with_reducible show PS _ _ (bt _ _ _ (bL _ _)));refine fL fK rfl (by assumption) (by decide) hr rfl ?_
  | (with_reducible show Pw _ _ (KL Nw (_::_::_) _) (tAnd _ _));refine z6 ?_ ?_
  | (with_reducible show Pw _ _ (KL Nw [_] _) _);refine gz ?_
  | (with_reducible show Pe _ _ ((JM _ _ _).Call [] [] _) (aM _ _ _ aNil));refine fG (by assumption) (by decide) hr (B.cls _ (by decide)) ?_ (by decide +kernel)
  | (with_reducible show jv _ [_] (fc _ _ _));refine jx ?_
  | (with_reducible show PH _ _ _ (PySem.ExceptHandler.ExceptHandler (some (Je _ _)) (some _) (_::_) _::_) ((_,some _,_)::_));refine bp9 ER (by decide) rfl (by walk_at "gl") (by walk_at "nd") rfl rfl (λ_=>Dv rfl (by walk_at "nd") rfl rfl rfl (by decide) rfl rfl rfl (dr qg (dr (lX dW) (dr (jO (fM dW) (jN (fM dW))) jM))) (aN iw (aN (qc ER EG (nH 5)) (aN (ib (iu ER EG (by decide) (nH 5) rfl B.b_isinstance rfl (by walk_at "gl")) (fB (ic (iu ER EG (by decide) (nH 5) rfl B.b_isinstance rfl (by walk_at "gl"))))) br)))) ?_
  | (with_reducible show Pe _ _ ((Je (Jd "isinstance") _).Call [_,Je _ _] [] _) (V8 _ _));refine mZ B.kit ?_ rfl B.b_isinstance rfl B.b_bool PyProof.Rows.boot_bool
  | (with_reducible show Pe _ _ ((Je (Jd "list") _).Call [_] [] _) (Y2 _));refine Ad ?_ rfl B.b_list MT
  | (with_reducible show Pe _ _ (Jp _ [_] [_] _) (eBin dN _ _));refine dg fi fz ?_ ?_ (bz _)
  | (with_reducible show Ps _ _ _ sNever);refine gA
  | (with_reducible show Ps _ _ (LQ [Kx _ _ _] _ _) (cL _ _ _));refine jG hu1 ?_ ?_ ?_
  | (with_reducible show Pe _ _ ((Je (Jd "sorted") _).Call [_] [] _) (T8 _));refine AS hu ?_ rfl B.b_sorted
  | (with_reducible show Pe _ _ ((JM _ (Jd "append") _).Call [_] [] _) (V4 _ _));refine Ag ?_ ?_
  | (with_reducible show Pe _ _ ((JM _ (Jd "get") _).Call [_,_] [] _) (m6 _ _ _));refine Cw hu1 ?_ ?_ ?_
  | (with_reducible show kC _ _ _ (some _::_) (_::_) ((_,_)::_));refine Dx ?_ ?_ ?_
  | (with_reducible show Pe _ _ ((Je (Jd "isinstance") _).Call [_,Je _ _] [] _) (V8 _ _));refine mZ B.kit ?_ rfl B.b_isinstance rfl B.b_int Nm
  | (with_reducible show Pe _ _ ((Je (Jd "isinstance") _).Call [_,Je _ _] [] _) (V8 _ _));refine mZ B.kit ?_ rfl B.b_isinstance rfl B.b_list MT
  | (with_reducible show Pe _ _ (Jp _ [_] [_] _) (eBin dO _ _));refine dg (fE hu) ik ?_ ?_ (by rfl)
  | (with_reducible show Pe _ _ (Je _ _) (eK (PV.str _)));refine gG rfl (by walk_at "gl")
  | (with_reducible show Pe _ _ (Jp _ [Nc.In] [_] _) (cZ _ _));refine jF hu1 ?_ ?_
  | (with_reducible show Pe _ _ ((JM _ (Jd "setdefault") _).Call [_,_] [] _) (c5 _ _ _));refine Dg hu1 ?_ ?_ ?_
  | (with_reducible show PEx _ _ ((JM _ _ _).Call (_::_) [] _) (b9 _ _ _ _));refine Cc (by assumption) (by decide) hr (B.cls _ (by decide)) ?_ ?_ (by decide +kernel)
  | (with_reducible show Pe _ _ ((Je _ _).Call (_::_) [] _) (Y9 _ _ _));refine Ay (by assumption) (by decide) hr rfl ?_
  | (with_reducible show Pe _ _ (MP OZ.Not _ _) (cS _));refine ic ?_
  | (with_reducible show Pe _ _ (Je _ _) (eK (PV.int _)));refine ju rfl (by walk_at "gl")
  | (with_reducible show L2.PI _ _ _ (EvI _ _ (fq _)));refine lL rfl B.b_enumerate ?_
  | (with_reducible show Pt _ _ (Jp _ [Nc.Is] [Ka Mu _ _] _) (aq (dA _)));refine jh ?_
  | (with_reducible show Pe _ _ ((Je (Jd "tuple") _).Call [_] [] _) (b8 _));refine Bq ?_ rfl B.b_tuple Pb
  | (with_reducible show L2.PI _ _ _ (EvI _ _ (iZip _ _)));refine i_zip (λ_ _=>nofun) rfl B.b_zip ?_ ?_
  | (with_reducible show PS _ (NK.While _ _ _ _) _);refine gB Qa ?_ ?_
  | (with_reducible show PS _ _ (bt _ _ _ (aU _)));refine gE fK ?_
  | (with_reducible show Pe _ _ ((Je (Jd "isinstance") _).Call [_,Je (Jd "str") _] [] _) (kW _));refine CO ?_ rfl B.b_isinstance rfl BS
  | (with_reducible show Pe _ _ ((Je _ _).Call (_::_) [] _) (C8 _ _));refine tU (by assumption) (IM _) hr rfl ?_
  | (with_reducible show Pt _ _ (Jp _ [_] [_] _) (aq (eBin iZ _ _)));refine cy gZ hZ ?_ ?_ (bz _)
  | (with_reducible show Pe _ _ (KW _ _ _ _) (eBin fw _ _));refine cE iS jK ?_ ?_
  | (with_reducible show Pe _ _ (KW _ _ _ _) (eBin fu _ _));refine cE iR jI ?_ ?_
  | (with_reducible show Pe _ _ (KW _ _ _ _) (eBin fk _ _));refine cE iM jd ?_ ?_
  | (with_reducible show Ps _ _ (LQ [_] _ _) (az _ _));refine lG ?_ ?_
  | (with_reducible show Pe _ _ ((Je (Jd "int") _).Call [_] [] _) (kT _));refine CL ?_ rfl B.b_int
  | (with_reducible show Pe _ _ (Jp _ [_,_] [_,_] _) (cI iY dN _ _ _));refine ei fj fA fi fz ?_ ?_ ?_
  | (with_reducible show Pe _ _ (Jp _ [_,_] [_,_] _) (cI iY iY _ _ _));refine ei fj fA fj fA ?_ ?_ ?_
  | (with_reducible show Pe _ _ (Jp _ [_] [_] _) (eBin cD _ _));refine dg (fD hu) ij ?_ ?_ (bz _)
  | (with_reducible show Pe _ _ (Ka Mu _ _) (eK PV.non));refine lj
  | (with_reducible show Pe _ _ (MB.IfExp _ _ _ _) (mL _ _ _));refine pd ?_ ?_ ?_
  | (with_reducible show Pe _ _ (Jp _ [_] [_] _) (eBin kf _ _));refine dg hF ia ?_ ?_ (bz _)
  | (with_reducible show Pe _ _ ((JM _ (Jd "get") _).Call [_] [] _) (mO _ _));refine Cv hu1 ?_ ?_
  | (with_reducible show Pe _ _ ((Je (Jd "dict") _).Call [_] [] _) (mP _));refine CJ ?_ rfl B.b_dict
  | (with_reducible show Pt _ _ (Jp _ [Nc.IsNot] [Ka Mu _ _] _) (aq (cK _)));refine gy ?_
  | (with_reducible show Pe _ _ ((Je (Jd "len") _).Call [(Je (Jd "set") _).Call [_] [] _] [] _) (t0 _));refine BD rfl ?_ rfl B.b_len rfl B.b_set
  | (with_reducible show Pt _ _ (Jp _ [Nc.In] [_] _) (aq (cZ _ _)));refine gF hu1 ?_ ?_
  | (with_reducible show Pe _ _ (Jp _ [_] [_] _) (eBin iZ _ _));refine dg gZ hZ ?_ ?_ (bz _)
  | (with_reducible show Pe _ _ (KL NU (_::_::_) _) (mK _ _));refine Ab ?_ ?_
  | (with_reducible show Pe _ _ (KL NU [_] _) _);refine lx ?_
  | (with_reducible show Pe _ _ ((Je (Jd "sorted") _).Call [_] [] _) (t5 _));refine CY rfl ?_ rfl B.b_sorted
  | (with_reducible show Pe _ _ (Jp _ [Nc.Is] [Ka Mu _ _] _) (dA _));refine lu ?_
  | (with_reducible show Pe _ _ (KW _ _ _ _) (eBin gs _ _));refine cE iP jE ?_ ?_
  | (with_reducible show Pt _ _ (Jp _ [_] [_] _) (aq (eBin kf _ _)));refine cy hF ia ?_ ?_ (bz _)
  | (with_reducible show Pt _ _ (((Je (Jd "set") _).Call [_] [] _).Compare [Nc.Eq] [(Je (Jd "set") _).Call [_] [] _] _) (aq (kZ _ _)));refine DR rfl hu1 ?_ ?_ rfl B.b_set
  | (with_reducible show Ps _ _ (NK.Try [_] (_::_) [] [] _) (kj _ _ _));refine Cu ⟨rfl,rfl⟩ ?_ ?_
  | (with_reducible show qd _ _ (LQ [Je _ _] _ _) (az _ (gName _)));refine jD (by walk_at "nd") rfl (by walk_at "o2") ?_
  | (with_reducible show PEx _ _ (Kx _ _ _) (eIxX _ _));refine x_ix ?_ ?_ (λ_ _=>rfl)
  | (with_reducible show PEx _ _ ((Je (Jd "int") _).Call [_] [] _) (kX _));refine Dh ?_ rfl B.b_int
  | (with_reducible show PEx _ _ (Jp _ [Nc.IsNot] [Ka Mu _ _] _) (cK _));refine jL ?_
  | (with_reducible show PH _ _ _ _ []);refine jC
  | (with_reducible show Pe _ _ (Kx _ (MB.Slice none none (some (MP OZ.USub (Ka (Qb 1) _ _) _)) _) _) (dC _));refine jy ?_
  | (with_reducible show Pe _ _ (KW _ _ _ _) (eBin gu _ _));refine cE iQ jJ ?_ ?_
  | (with_reducible show Pe _ _ ((Je (Jd "dict") _).Call [_] [] _) (t6 _));refine Dq rfl hu ?_ rfl B.b_dict
  | (with_reducible show Pe _ _ ((JM _ (Jd "clear") _).Call [] [] _) (mN _));refine Bg ?_
  | (with_reducible show Pe _ _ ((Je _ _).Call (_::_) [] _) (Y9 _ (dflt _ [PV.non]) _));refine DU (by assumption) (by decide) hr rfl ?_
  | (with_reducible show Pe _ _ (MB.Dict _ _ _) (cT _));refine gH ?_
  | (with_reducible show kC _ _ _ [] [] []);refine jQ
  | (with_reducible show Ps _ _ (LQ [Kx _ _ _] _ _) (eh _ _ _));refine jP hu1 ?_ ?_ ?_
  | (with_reducible show Pe _ _ ((Je (Jd "list") _).Call [_] [] _) (kl _));refine C0 rfl ?_ rfl B.b_list
  | (with_reducible show Pt _ _ _ (aq _));refine jc ?_
  | (with_reducible show bP _ _ (bt _ _ _ (cx _)));refine jA ?_
  | (with_reducible show PS _ _ (bt _ _ _ (cx _)));refine lS ?_
  | (fail_if_success (with_reducible show Pe _ _ _ _));change Pe _ _ _ _
  | (fail_if_success (with_reducible show Pt _ _ _ _));change Pt _ _ _ _
  | (fail_if_success (with_reducible show Pg _ _ _ _));change Pg _ _ _ _))
def HI0:∀{fa:Addr} {fd:Jh} (B:J3 K mg cm) (F:L2.Fun K "is_whole" "is_whole" (top 13) fa fd),av P w K mg base aO (1) fa fd ["value"] (aQ K cm K4 1):=by refine λB F=>D3 (N:=["value"]) F (by walk_at "sc") λ_ _ _ _ _ _ hr hu hu1=>?_;walk_at "r"
def HI1:∀{fa:Addr} {fd:Jh} (B:J3 K mg cm) (D_is_whole:bO P w K mg base cm "is_whole" 1 ["value"] K4 1) (F:L2.Fun K "is_hand" "is_hand" (top 14) fa fd),av P w K mg base aO (2) fa fd ["number","value"] (aQ K cm J2 2):=by refine λB D_is_whole F=>D3 (N:=["number","value"]) F (by walk_at "sc") λ_ _ _ _ _ _ hr hu hu1=>?_;walk_at "r"
def HI2:∀{fa:Addr} {fd:Jh} (B:J3 K mg cm) (GL:nT mg) (D_is_whole:bO P w K mg base cm "is_whole" 1 ["value"] K4 1) (F:L2.Fun K "is_number_of_hands" "is_number_of_hands" (top 15) fa fd),av P w K mg base aO (2) fa fd ["value"] (aQ K cm E8 1):=by refine λB GL D_is_whole F=>D3 (N:=["value"]) F (by walk_at "sc") λ_ _ _ _ _ _ hr hu hu1=>?_;walk_at "r"
def HI3:∀{fa:Addr} {fd:Jh} (B:J3 K mg cm) (D_is_hand:bO P w K mg base cm "is_hand" 2 ["number","value"] J2 2) (F:L2.Fun K "is_passing" "is_passing" (top 16) fa fd),av P w K mg base aO (3) fa fd ["number","value"] (aQ K cm J7 2):=by refine λB D_is_hand F=>D3 (N:=["number","value"]) F (by walk_at "sc") λ_ _ _ _ _ _ hr hu hu1=>?_;walk_at "r"
def HI4:∀{fa:Addr} {fd:Jh} (B:J3 K mg cm) (D_is_passing:bO P w K mg base cm "is_passing" 3 ["number","value"] J7 2) (F:L2.Fun K "first_wrong_passing" "first_wrong_passing" (top 17) fa fd),av P w K mg base aO (4) fa fd ["number","passings"] (aQ K cm E6 2):=by refine λB D_is_passing F=>D3 (N:=["number","passings","at","passing"]) F (by walk_at "sc") λ_ _ _ _ _ _ hr hu hu1=>?_;walk_at "r"
def HI5:∀{fa:Addr} {fd:Jh} (B:J3 K mg cm) (F:dU K "__init__" "Ledger.__init__" (C3 (top 27) 0) fa fd #[.none]),av P w K mg base aO (1) fa fd ["self","plan","free"] (aQ K cm D5 3):=by refine λB F=>Dw (N:=["self","plan","free"]) F (by walk_at "sc") λ_ _ _ _ _ _ hr hu hu1=>?_;walk_at "r"
def HI6:∀{fa:Addr} {fd:Jh} (B:J3 K mg cm) (F:L2.Fun K "is_rising" "is_rising" (top 29) fa fd),av P w K mg base aO (1) fa fd ["numbers"] (aQ K cm S8 1):=by refine λB F=>D3 (N:=["numbers"]) F (by walk_at "sc") λ_ _ _ _ _ _ hr hu hu1=>?_;walk_at "r"
def HI7:∀{fa:Addr} {fd:Jh} (B:J3 K mg cm) (D_is_rising:bO P w K mg base cm "is_rising" 1 ["numbers"] S8 1) (D_is_hand:bO P w K mg base cm "is_hand" 2 ["number","value"] J2 2) (F:L2.Fun K "are_leaders" "are_leaders" (top 30) fa fd),av P w K mg base aO (3) fa fd ["web","leaders"] (aQ K cm O2 2):=by refine λB D_is_rising D_is_hand F=>D3 (N:=["web","leaders"]) F (by walk_at "sc") λ_ _ _ _ _ _ hr hu hu1=>?_;walk_at "r"
def HI8:∀{fa:Addr} {fd:Jh} (B:J3 K mg cm) (D_is_whole:bO P w K mg base cm "is_whole" 1 ["value"] K4 1) (F:L2.Fun K "is_limit" "is_limit" (top 31) fa fd),av P w K mg base aO (2) fa fd ["value"] (aQ K cm Q7 1):=by refine λB D_is_whole F=>D3 (N:=["value"]) F (by walk_at "sc") λ_ _ _ _ _ _ hr hu hu1=>?_;walk_at "r"
def HI9:∀{fa:Addr} {fd:Jh} (B:J3 K mg cm) (D_are_leaders:bO P w K mg base cm "are_leaders" 3 ["web","leaders"] O2 2) (D_is_limit:bO P w K mg base cm "is_limit" 2 ["value"] Q7 1) (F:L2.Fun K "__init__" "Plan.__init__" (C3 (top 32) 0) fa fd),av P w K mg base aO (4) fa fd ["self","web","leaders","limits"] (aQ K cm N5 4):=by refine λB D_are_leaders D_is_limit F=>D3 (N:=["self","web","leaders","limits","kept","passing"]) F (by walk_at "sc") λ_ _ _ _ _ _ hr hu hu1=>?_;walk_at "r"
def HI10:∀{fa:Addr} {fd:Jh} (B:J3 K mg cm) (D_is_number_of_hands:bO P w K mg base cm "is_number_of_hands" 2 ["value"] E8 1) (D_first_wrong_passing:bO P w K mg base cm "first_wrong_passing" 4 ["number","passings"] E6 2) (F:L2.Fun K "__init__" "Web.__init__" (C3 (top 18) 0) fa fd),av P w K mg base aO (5) fa fd ["self","number","passings"] (aQ K cm N6 3):=by refine λB D_is_number_of_hands D_first_wrong_passing F=>D3 (N:=["self","number","passings","wrong"]) F (by walk_at "sc") λ_ _ _ _ _ _ hr hu hu1=>?_;walk_at "r"
def HI11:∀{fa:Addr} {fd:Jh} (B:J3 K mg cm) (D_is_hand:bO P w K mg base cm "is_hand" 2 ["number","value"] J2 2) (F:L2.Fun K "is_chain" "is_chain" (top 20) fa fd),av P w K mg base aO (3) fa fd ["web","leaders","chain"] (aQ K cm Q8 3):=by refine λB D_is_hand F=>D3 (N:=["web","leaders","chain"]) F (by walk_at "sc") λ_ _ _ _ _ _ hr hu hu1=>?_;walk_at "r"
def HI12:∀{fa:Addr} {fd:Jh} (B:J3 K mg cm) (D_is_passing:bO P w K mg base cm "is_passing" 3 ["number","value"] J7 2) (F:L2.Fun K "is_box" "is_box" (top 24) fa fd),av P w K mg base aO (4) fa fd ["web","value"] (aQ K cm d4 2):=by refine λB D_is_passing F=>D3 (N:=["web","value"]) F (by walk_at "sc") λ_ _ _ _ _ _ hr hu hu1=>?_;walk_at "r"
def HI13:∀{fa:Addr} {fd:Jh} (B:J3 K mg cm) (D_is_hand:bO P w K mg base cm "is_hand" 2 ["number","value"] J2 2) (D_is_chain:bO P w K mg base cm "is_chain" 3 ["web","leaders","chain"] Q8 3) (F:L2.Fun K "is_chain_of" "is_chain_of" (top 25) fa fd),av P w K mg base aO (4) fa fd ["plan","value"] (aQ K cm M5 2):=by refine λB D_is_hand D_is_chain F=>D3 (N:=["plan","value"]) F (by walk_at "sc") λ_ _ _ _ _ _ hr hu hu1=>?_;walk_at "r"
def HI14:∀{fa:Addr} {fd:Jh} (B:J3 K mg cm) (GL:nT mg) (D_is_box:bO P w K mg base cm "is_box" 4 ["web","value"] d4 2) (D_is_chain_of:bO P w K mg base cm "is_chain_of" 4 ["plan","value"] M5 2) (F:L2.Fun K "is_deed" "is_deed" (top 26) fa fd),av P w K mg base aO (5) fa fd ["plan","value"] (aQ K cm M6 2):=by refine λB GL D_is_box D_is_chain_of F=>D3 (N:=["plan","value"]) F (by walk_at "sc") λ_ _ _ _ _ _ hr hu hu1=>?_;walk_at "r"
def HI15:∀{fa:Addr} {fd:Jh} (B:J3 K mg cm) (F:L2.Fun K "turn" "Ledger.turn" (C3 (top 27) 1) fa fd),av P w K mg base aO (1) fa fd ["self"] (aQ K cm I9 1):=by refine λB F=>D3 (N:=["self"]) F (by walk_at "sc") λ_ _ _ _ _ _ hr hu hu1=>?_;walk_at "r"
def HI16:∀{fa:Addr} {fd:Jh} (B:J3 K mg cm) (F:L2.Fun K "move" "Ledger.move" (C3 (top 27) 2) fa fd),av P w K mg base aO (1) fa fd ["self"] (aQ K cm O3 1):=by refine λB F=>D3 (N:=["self"]) F (by walk_at "sc") λ_ _ _ _ _ _ hr hu hu1=>?_;walk_at "r"
def HI17:∀{fa:Addr} {fd:Jh} (B:J3 K mg cm) (XD_Laid:jB P w K mg base cm 13 "Laid" 1) (F:L2.Fun K "take_lay" "Ledger.take_lay" (C3 (top 27) 4) fa fd),av P w K mg base (eN P w) 3 fa fd ["self","deed"] (gC K cm J8 2):=by refine λB XD_Laid F=>qi (N:=["self","deed"]) F (by walk_at "sc") λ_ _ _ _ _ _ hr hu hu1=>?_;walk_at "r"
def HI18:∀{fa:Addr} {fd:Jh} (B:J3 K mg cm) (F:L2.Fun K "limit" "Plan.limit" (C3 (top 32) 1) fa fd),av P w K mg base aO (1) fa fd ["self","passing"] (aQ K cm U1 2):=by refine λB F=>D3 (N:=["self","passing"]) F (by walk_at "sc") λ_ _ _ _ _ _ hr hu hu1=>?_;walk_at "r"
def HI19:∀{fa:Addr} {fd:Jh} (B:J3 K mg cm) (D_Plan_limit:j5 P w K mg base cm 1 "limit" 1 ["self","passing"] U1 2) (F:L2.Fun K "is_late" "Ledger.is_late" (C3 (top 27) 8) fa fd),av P w K mg base aO (2) fa fd ["self","passing","chain"] (aQ K cm L5 3):=by refine λB D_Plan_limit F=>D3 (N:=["self","passing","chain"]) F (by walk_at "sc") λ_ _ _ _ _ _ hr hu hu1=>?_;walk_at "r"
def HI20:∀{fa:Addr} {fd:Jh} (B:J3 K mg cm) (F:L2.Fun K "is_laid_ahead" "Ledger.is_laid_ahead" (C3 (top 27) 7) fa fd),av P w K mg base aO (1) fa fd ["self","passing"] (aQ K cm G1 2):=by refine λB F=>D3 (N:=["self","passing"]) F (by walk_at "sc") λ_ _ _ _ _ _ hr hu hu1=>?_;walk_at "r"
def HI21:∀{fa:Addr} {fd:Jh} (B:J3 K mg cm) (F:L2.Fun K "is_said_ahead" "Ledger.is_said_ahead" (C3 (top 27) 10) fa fd),av P w K mg base aO (1) fa fd ["self","chain"] (aQ K cm G2 2):=by refine λB F=>D3 (N:=["self","chain"]) F (by walk_at "sc") λ_ _ _ _ _ _ hr hu hu1=>?_;walk_at "r"
def HI22:∀{fa:Addr} {fd:Jh} (B:J3 K mg cm) (D_Ledger_is_said_ahead:j5 P w K mg base cm 2 "is_said_ahead" 1 ["self","chain"] G2 2) (F:L2.Fun K "is_sayable" "Ledger.is_sayable" (C3 (top 27) 9) fa fd),av P w K mg base aO (2) fa fd ["self","chain"] (aQ K cm G3 2):=by refine λB D_Ledger_is_said_ahead F=>D3 (N:=["self","chain","left"]) F (by walk_at "sc") λ_ _ _ _ _ _ hr hu hu1=>?_;walk_at "r"
def HI23:∀{fa:Addr} {fd:Jh} (B:J3 K mg cm) (D_Ledger_is_laid_ahead:j5 P w K mg base cm 2 "is_laid_ahead" 1 ["self","passing"] G1 2) (XD_NotLaid:jB P w K mg base cm 14 "NotLaid" 1) (D_Ledger_is_late:j5 P w K mg base cm 2 "is_late" 2 ["self","passing","chain"] L5 3) (XD_Late:jB P w K mg base cm 15 "Late" 1) (D_Ledger_is_sayable:j5 P w K mg base cm 2 "is_sayable" 2 ["self","chain"] G3 2) (XD_Unknown:jB P w K mg base cm 16 "Unknown" 1) (F:L2.Fun K "take_say" "Ledger.take_say" (C3 (top 27) 5) fa fd),av P w K mg base (eN P w) 3 fa fd ["self","deed"] (gC K cm G7 2):=by refine λB D_Ledger_is_laid_ahead XD_NotLaid D_Ledger_is_late XD_Late D_Ledger_is_sayable XD_Unknown F=>qi (N:=["self","deed","passing","chain"]) F (by walk_at "sc") λ_ _ _ _ _ _ hr hu hu1=>?_;walk_at "r"
def HI24:∀{fa:Addr} {fd:Jh} (B:J3 K mg cm) (GL:nT mg) (D_is_deed:bO P w K mg base cm "is_deed" 5 ["plan","value"] M6 2) (XD_NoDeed:jB P w K mg base cm 12 "NoDeed" 1) (DX_Ledger_take_lay:lU P w K mg base cm 2 "take_lay" 3 ["self","deed"] J8 2) (DX_Ledger_take_say:lU P w K mg base cm 2 "take_say" 3 ["self","deed"] G7 2) (F:L2.Fun K "take" "Ledger.take" (C3 (top 27) 3) fa fd),av P w K mg base (eN P w) 6 fa fd ["self","deed"] (gC K cm G6 2):=by refine λB GL D_is_deed XD_NoDeed DX_Ledger_take_lay DX_Ledger_take_say F=>qi (N:=["self","deed"]) F (by walk_at "sc") λ_ _ _ _ _ _ hr hu hu1=>?_;walk_at "r"
def HI25:∀{fa:Addr} {fd:Jh} (B:J3 K mg cm) (F:L2.Fun K "said" "Ledger.said" (C3 (top 27) 14) fa fd),av P w K mg base aO (1) fa fd ["self","passing"] (aQ K cm J0 2):=by refine λB F=>D3 (N:=["self","passing"]) F (by walk_at "sc") λ_ _ _ _ _ _ hr hu hu1=>?_;walk_at "r"
def HI26:∀{fa:Addr} {fd:Jh} (B:J3 K mg cm) (D_Ledger_said:j5 P w K mg base cm 2 "said" 1 ["self","passing"] J0 2) (F:L2.Fun K "has_all_words" "Ledger.has_all_words" (C3 (top 27) 11) fa fd),av P w K mg base aO (2) fa fd ["self","passing"] (aQ K cm E3 2):=by refine λB D_Ledger_said F=>D3 (N:=["self","passing","words"]) F (by walk_at "sc") λ_ _ _ _ _ _ hr hu hu1=>?_;walk_at "r"
def HI27:∀{fa:Addr} {fd:Jh} (B:J3 K mg cm) (F:L2.Fun K "laid" "Ledger.laid" (C3 (top 27) 12) fa fd),av P w K mg base aO (1) fa fd ["self"] (aQ K cm E9 1):=by refine λB F=>D3 (N:=["self"]) F (by walk_at "sc") λ_ _ _ _ _ _ hr hu hu1=>?_;walk_at "r"
def HI28:∀{fa:Addr} {fd:Jh} (B:J3 K mg cm) (D_Ledger_has_all_words:j5 P w K mg base cm 2 "has_all_words" 2 ["self","passing"] E3 2) (D_Ledger_laid:j5 P w K mg base cm 2 "laid" 1 ["self"] E9 1) (F:L2.Fun K "opened" "Ledger.opened" (C3 (top 27) 13) fa fd),av P w K mg base aO (3) fa fd ["self"] (aQ K cm G9 1):=by refine λB D_Ledger_has_all_words D_Ledger_laid F=>D3 (N:=["self"]) F (by walk_at "sc") λ_ _ _ _ _ _ hr hu hu1=>?_;walk_at "r"
def HI29:∀{fa:Addr} {fd:Jh} (B:J3 K mg cm) (F:L2.Fun K "_law_cell_at" "_law_cell_at" (top 34) fa fd),av P w K mg base aO (1) fa fd ["_law_script","_law_k"] (aQ K cm K7 2):=by refine λB F=>D3 (N:=["_law_script","_law_k"]) F (by walk_at "sc") λ_ _ _ _ _ _ hr hu hu1=>?_;walk_at "r"
def HI30:∀{fa:Addr} {fd:Jh} {kk:Nat} {rec:Fun} (B:J3 K mg cm) (BS:mg "str" = none) (D_law_alike:bO P w K mg base cm "_law_alike" kk ["_law_found","_law_due_here"] rec 2) (F:L2.Fun K "_law_alike" "_law_alike" (top 35) fa fd),av P w K mg base aO (kk+1) fa fd ["_law_found","_law_due_here"] (aQ K cm (C4 rec) 2):=by refine λB BS D_law_alike F=>D3 (N:=["_law_found","_law_due_here"]) F (by walk_at "sc") λ_ _ _ _ _ _ hr hu hu1=>?_;walk_at "r"
def HI31:∀{fa:Addr} {fd:Jh} (B:J3 K mg cm) (F:L2.Fun K "_law_mixed" "_law_mixed" (top 36) fa fd),av P w K mg base aO (1) fa fd ["_law_cell","_law_k"] (aQ K cm E1 2):=by refine λB F=>D3 (N:=["_law_cell","_law_k","_law_number"]) F (by walk_at "sc") λ_ _ _ _ _ _ hr hu hu1=>?_;walk_at "r"
def HI32:∀{fa:Addr} {fd:Jh} (B:J3 K mg cm) (D_law_mixed:bO P w K mg base cm "_law_mixed" 1 ["_law_cell","_law_k"] E1 2) (F:L2.Fun K "_law_passings" "_law_passings" (top 37) fa fd),av P w K mg base aO (2) fa fd ["_law_cell","_law_many"] (aQ K cm L6 2):=by refine λB D_law_mixed F=>D3 (N:=["_law_cell","_law_many","_law_order","_law_ring","_law_found","_law_giver","_law_taker","_law_x"]) F (by walk_at "sc") λ_ _ _ _ _ _ hr hu hu1=>?_;walk_at "r"
def HI33:∀{fa:Addr} {fd:Jh} (B:J3 K mg cm) (F:L2.Fun K "_law_some" "_law_some" (top 38) fa fd),av P w K mg base aO (1) fa fd ["_law_cell","_law_many"] (aQ K cm P1 2):=by refine λB F=>D3 (N:=["_law_cell","_law_many"]) F (by walk_at "sc") λ_ _ _ _ _ _ hr hu hu1=>?_;walk_at "r"
def HI34:∀{fa:Addr} {fd:Jh} (B:J3 K mg cm) (F:L2.Fun K "_law_ways" "_law_ways" (top 39) fa fd),av P w K mg base aO (1) fa fd ["_law_passings_here","_law_ways_here"] (aQ K cm R0 2):=by refine λB F=>D3 (N:=["_law_passings_here","_law_ways_here","_law_found","_law_more","_law_way"]) F (by walk_at "sc") λ_ _ _ _ _ _ hr hu hu1=>?_;walk_at "r"
def HI35:∀{fa:Addr} {fd:Jh} (B:J3 K mg cm) (D_law_ways:bO P w K mg base cm "_law_ways" 1 ["_law_passings_here","_law_ways_here"] R0 2) (F:L2.Fun K "_law_chains" "_law_chains" (top 40) fa fd),av P w K mg base aO (2) fa fd ["_law_passings_here","_law_leaders","_law_hand"] (aQ K cm J9 3):=by refine λB D_law_ways F=>D3 (N:=["_law_passings_here","_law_leaders","_law_hand"]) F (by walk_at "sc") λ_ _ _ _ _ _ hr hu hu1=>?_;walk_at "r"
def HI36:∀{fa:Addr} {fd:Jh} {kk:Nat} {rec:Fun} (B:J3 K mg cm) (D_law_known:bO P w K mg base cm "_law_known" kk ["_law_state","_law_free","_law_chain"] rec 3) (F:L2.Fun K "_law_known" "_law_known" (top 41) fa fd),av P w K mg base aO (kk+1) fa fd ["_law_state","_law_free","_law_chain"] (aQ K cm (D6 rec) 3):=by refine λB D_law_known F=>D3 (N:=["_law_state","_law_free","_law_chain","_law_rest"]) F (by walk_at "sc") λ_ _ _ _ _ _ hr hu hu1=>?_;walk_at "r"
def HI37:∀{fa:Addr} {fd:Jh} (B:J3 K mg cm) (D_law_chains:bO P w K mg base cm "_law_chains" 2 ["_law_passings_here","_law_leaders","_law_hand"] J9 3) (D_law_known:bO P w K mg base cm "_law_known" 7 ["_law_state","_law_free","_law_chain"] P4 3) (F:L2.Fun K "_law_due" "_law_due" (top 42) fa fd),av P w K mg base aO (8) fa fd ["_law_state","_law_web","_law_free","_law_deed_here"] (aQ K cm L7 4):=by refine λB D_law_chains D_law_known F=>D3 (N:=["_law_state","_law_web","_law_free","_law_deed_here","_law_passings_here","_law_leaders","_law_limits"]) F (by walk_at "sc") λ_ _ _ _ _ _ hr hu hu1=>?_;walk_at "r"
def HI38:∀{fa:Addr} {fd:Jh} (B:J3 K mg cm) (F:L2.Fun K "_law_put" "_law_put" (top 43) fa fd),av P w K mg base aO (1) fa fd ["_law_state","_law_deed_here"] (aQ K cm N9 2):=by refine λB F=>D3 (N:=["_law_state","_law_deed_here"]) F (by walk_at "sc") λ_ _ _ _ _ _ hr hu hu1=>?_;walk_at "r"
def HI39:∀{fa:Addr} {fd:Jh} (B:J3 K mg cm) (F:L2.Fun K "_law_open" "_law_open" (top 44) fa fd),av P w K mg base aO (1) fa fd ["_law_state","_law_leaders"] (aQ K cm N8 2):=by refine λB F=>D3 (N:=["_law_state","_law_leaders","_law_found","_law_passing","_law_said"]) F (by walk_at "sc") λ_ _ _ _ _ _ hr hu hu1=>?_;walk_at "r"
def HI40:∀{fa:Addr} {fd:Jh} (B:J3 K mg cm) (ER:lW K cm [7,8,9,12,13,14,15,16]) (EG:nE K cm [7,8,9,12,13,14,15,16]) (MC:wz mg cm) (DX_Ledger_take:lU P w K mg base cm 2 "take" 6 ["self","deed"] G6 2) (F:L2.Fun K "_law_taken" "_law_taken" (top 45) fa fd),av P w K mg base aO (7) fa fd ["_law_ledger","_law_deed_here"] (aQ K cm J1 2):=by refine λB ER EG MC DX_Ledger_take F=>D3 (N:=["_law_ledger","_law_deed_here","_law_word","_law_value","_law_plain","e"]) F (by walk_at "sc") λ_ _ _ _ _ _ hr hu hu1=>?_;walk_at "r"
def HI41:∀{fa:Addr} {fd:Jh} (B:J3 K mg cm) (D_law_chains:bO P w K mg base cm "_law_chains" 2 ["_law_passings_here","_law_leaders","_law_hand"] J9 3) (D_law_known:bO P w K mg base cm "_law_known" 7 ["_law_state","_law_free","_law_chain"] P4 3) (F:L2.Fun K "_law_deed" "_law_deed" (top 46) fa fd),av P w K mg base aO (8) fa fd ["_law_state","_law_web","_law_free","_law_x"] (aQ K cm R1 4):=by refine λB D_law_chains D_law_known F=>D3 (N:=["_law_state","_law_web","_law_free","_law_x","_law_passings_here","_law_leaders","_law_limits","_law_passing","_law_chains_here","_law_some_here","_law_known_here"]) F (by walk_at "sc") λ_ _ _ _ _ _ hr hu hu1=>?_;walk_at "r"
def HI42:∀{fa:Addr} {fd:Jh} (B:J3 K mg cm) (D_law_cell_at:bO P w K mg base cm "_law_cell_at" 1 ["_law_script","_law_k"] K7 2) (D_law_mixed:bO P w K mg base cm "_law_mixed" 1 ["_law_cell","_law_k"] E1 2) (D_law_passings:bO P w K mg base cm "_law_passings" 2 ["_law_cell","_law_many"] L6 2) (D_law_some:bO P w K mg base cm "_law_some" 1 ["_law_cell","_law_many"] P1 2) (D_Plan_init:lM P w K mg base cm 1 "Plan" 4 ["self","web","leaders","limits"] N5 4) (D_Web_init:lM P w K mg base cm 0 "Web" 5 ["self","number","passings"] N6 3) (D_Ledger_init:lM P w K mg base cm 2 "Ledger" 1 ["self","plan","free"] D5 3) (DN_Ledger_init:qr P w K mg base cm 2 "Ledger" 1 ["self","plan","free"] D5 3) (D_Ledger_move:j5 P w K mg base cm 2 "move" 1 ["self"] O3 1) (D_law_deed:bO P w K mg base cm "_law_deed" 8 ["_law_state","_law_web","_law_free","_law_x"] R1 4) (D_law_due:bO P w K mg base cm "_law_due" 8 ["_law_state","_law_web","_law_free","_law_deed_here"] L7 4) (D_law_taken:bO P w K mg base cm "_law_taken" 7 ["_law_ledger","_law_deed_here"] J1 2) (D_law_put:bO P w K mg base cm "_law_put" 1 ["_law_state","_law_deed_here"] N9 2) (D_law_alike:bO P w K mg base cm "_law_alike" 6 ["_law_found","_law_due_here"] E5 2) (D_Ledger_laid:j5 P w K mg base cm 2 "laid" 1 ["self"] E9 1) (D_Ledger_turn:j5 P w K mg base cm 2 "turn" 1 ["self"] I9 1) (D_law_open:bO P w K mg base cm "_law_open" 1 ["_law_state","_law_leaders"] N8 2) (D_Ledger_opened:j5 P w K mg base cm 2 "opened" 3 ["self"] G9 1) (D_Ledger_said:j5 P w K mg base cm 2 "said" 1 ["self","passing"] J0 2) (F:L2.Fun K "law" "law" (top 47) fa fd),av P w K mg base aO (9) fa fd ["_law_script"] (aQ K cm nM 1):=by refine λB D_law_cell_at D_law_mixed D_law_passings D_law_some D_Plan_init D_Web_init D_Ledger_init DN_Ledger_init D_Ledger_move D_law_deed D_law_due D_law_taken D_law_put D_law_alike D_Ledger_laid D_Ledger_turn D_law_open D_Ledger_opened D_Ledger_said F=>D3 (N:=["_law_script","_law_cell","_law_many","_law_passings_here","_law_leaders","_law_free","_law_limits","_law_web","_law_plan","_law_handed","_law_ledger","_law_state","_law_x","_law_deed_here","_law_due_here"]) F (by walk_at "sc") λ_ _ _ _ _ _ hr hu hu1=>?_;walk_at "r"
end
end Ws
namespace Ws
open PySem PySem.W L2
def HJ{l:List Bool}(h:l.all id=true)(i:Nat)(a:l[i]?=some b):b=true:=Jy.mp h b (JD a)
def bo{c:Type}{l m:List c}(h:l=m)(i:Nat){a b:c}(d:l[i]?=some a)(e:m[i]?=some b):a=b:=by rw[h,e]at d;exact(Jw d).symm
def iH{P:Nat->Prop}(h:P a)(r:∀c∈l,P c):∀c∈a::l,P c:=λc b=>by
 rcases IT.mp b with z | z
 .rw[z];exact h
 .exact r c z
def HK{P:Nat->Prop}:∀c∈([]:List Nat),P c:=by simp
def cG(h:(a&&b)=true):a=true/\b=true:=Nx.mp h
structure En(P:Jg)(w:JJ)(K:Frag)(mg:Str->Option II)(base:Heap)(cm:Nat->Addr):Prop where
 ex:∃h:Heap,K.In h/\h.Ns mainGlobals mg
section
variable{P:Jg}{w:JJ}{K:Frag}{mg:Str->Option II}{base:Heap}{cm:Nat->Addr}{n q:Str}{st:Stmt}{fa T:Addr}{fd:Jh}{k ar c:Nat}{ps:List Str}{f:Fun}{oc kV doc pm cdv ct tc:II}{od an td:Option Addr}{osl ts:Array (Option II)}{items:Array II}{tn:Nat}
def En.of(E:En P w K mg base cm)(h:mi K n v=true):mg n=some v:=by
 obtain⟨a,X,G⟩:=E.ex;exact mg_of X G (of_decide_eq_true h)
def En.ns(E:En P w K mg base cm)(h:bH K n a=true):mg n=some (.ref a):=E.of h
def En.no(E:En P w K mg base cm)(h:mh K n=true):mg n=none:=by
 obtain⟨a,X,G⟩:=E.ex;exact mg_none_of X G (of_decide_eq_true h)
def bF(l:K.lookup fa=some ⟨oc,od,.func (fnOf n q (L9 st) (G0 st) (C2 st) .none kV doc pm an cdv ct),osl⟩)(b:(x&&bj K cdv q fa)=true):L2.Fun K n q st fa (fnOf n q (L9 st) (G0 st) (C2 st) .none kV doc pm an cdv ct):=
 zu l (cG (cG b).2).1 (cG (cG b).2).2
def HM(l:K.lookup fa=some ⟨oc,od,.func (fnOf n q (L9 st) (G0 st) (C2 st) (.ref T) kV doc pm an cdv ct),osl⟩)(t:K.lookup T=some ⟨tc,td,.seq items tn,ts⟩)(b:(x&&bj K cdv q fa)=true):dU K n q st fa (fnOf n q (L9 st) (G0 st) (C2 st) (.ref T) kV doc pm an cdv ct) items:=
 Bi l (cG (cG b).2).1 (cG (cG b).2).2 t
def wC(a:(cJ K (cm c) n fa&&bj K cdv q fa)=true):hI K (cm c) n fa:=⟨of_decide_eq_true (cG (cG a).1).1,(cG (cG a).1).2,(cG (cG a).2).2⟩
def wD(a:(cJ K (cm c) "__init__" fa&&bj K cdv q fa)=true)(b:kJ K (cm c)=true):L2.Mk K (cm c) fa:=⟨(cG b).1,of_decide_eq_true (cG (cG a).1).1,(cG (cG a).1).2,(cG b).2⟩
variable(E:En P w K mg base cm)
include E
theorem bV(O:av P w K mg base aO k fa fd ps (aQ K cm f ar))(a:(bH K n fa&&bj K cdv q fa)=true)(b:L2.Binds K fd ps [])(e:∀d A v g,f d A=.ok v g->d.length=ar:=by exact λ_ _ _ _=>mU):bO P w K mg base cm n k ps f ar:=⟨⟨_,_,O,E.ns (cG a).1,(cG (cG a).2).2,b⟩,e⟩
theorem gf(O:av P w K mg base aO k fa fd ps (aQ K cm f ar))(d:(cJ K (cm c) n fa&&bj K cdv q fa)=true)(b:L2.Binds K fd ps [])(e:∀a A v g,f a A=.ok v g->a.length=ar:=by exact λ_ _ _ _=>mU):j5 P w K mg base cm c n k ps f ar:=⟨⟨_,_,O,wC d,b⟩,e⟩
theorem rD(O:av P w K mg base (eN P w) k fa fd ps (gC K cm f ar))(d:(cJ K (cm c) n fa&&bj K cdv q fa)=true)(b:L2.Binds K fd ps [])(e:∀a A,f a A≠.no->a.length=ar:=by exact λ_ _=>Cb):lU P w K mg base cm c n k ps f ar:=⟨⟨_,_,O,wC d,b⟩,e⟩
theorem rE(O:av P w K mg base aO k fa fd ps (aQ K cm f ar))(e:(cJ K (cm c) "__init__" fa&&bj K cdv q fa)=true)(g:kJ K (cm c)=true)(i:bH K n (cm c)=true)(b:L2.Binds K fd ps [])(j:∀a A v d,f a A=.ok v d->v=.non)(l:∀a A v d,f a A=.ok v d->a.length=ar:=by exact λ_ _ _ _=>mU):lM P w K mg base cm c n k ps f ar:=⟨⟨_,_,O,wD e g,E.ns i,b⟩,λa A v d h=>⟨l a A v d h,j a A v d h⟩⟩
theorem HN(O:av P w K mg base aO k fa fd ps (aQ K cm f ar))(e:(cJ K (cm c) "__init__" fa&&bj K cdv q fa)=true)(g:kJ K (cm c)=true)(i:bH K n (cm c)=true)(b:L2.Binds K fd ps [.none])(j:∀a A v d,f a A=.ok v d->v=.non)(l:∀a A v d,f a A=.ok v d->a.length=ar:=by exact λ_ _ _ _=>mU):qr P w K mg base cm c n k ps f ar:=⟨⟨_,_,O,wD e g,E.ns i,b⟩,λa A v d h=>⟨l a A v d h,j a A v d h⟩⟩
theorem base_of(g:((Ju 7).all λc=>nU K (cm c))=true)(j:blts.all (mh K)=true):J3 K mg cm:=by
 have d:=λc d=>Jy.mp g c (Kr.mpr d);have a:=λb l=>E.no (Jy.mp j b l);refine⟨AU K,λc e=>?_,λc i m e=>?_,a _ (by decide),a _ (by decide),a _ (by decide),a _ (by decide),a _ (by decide),a _ (by decide),a _ (by decide),a _ (by decide),a _ (by decide),a _ (by decide),a _ (by decide),a _ (by decide),a _ (by decide),a _ (by decide),a _ (by decide),a _ (by decide),a _ (by decide)⟩
 .have:=d c e;unfold nU at this;simp only[Jq]at this;exact⟨this.1.1.1.1,this.1.1.1.2,this.1.1.2,of_decide_eq_true this.1.2⟩
 .have:=d c e;unfold nU at this;simp only[Jq]at this;have h:=Jy.mp this.2 i (Kr.mpr m);show findIn K _ _=some none;exact of_decide_eq_true h
omit E
def mj(K:Frag)(C:Addr):Prop:=∃e q N bs d a g sub h b i j l m o p,K.lookup C=some (excClassObj e q C N bs d a g sub h b i j l m o p "ValueError.__new__")/\R5 d=true/\a=true
theorem iI{bs b:List II}{e:List Str}{sub:List II}{g:Bool}{a:Option Bool}{i:Option Addr}{j l m p r:Option II}(h:K.lookup C=some (excClassObj d q C N bs b true e sub g a i j l m p r "ValueError.__new__"))(o:R5 b=true):mj K C:=⟨_,_,_,_,_,_,_,_,_,_,_,_,_,_,_,_,h,o,rfl⟩
theorem wF{es:List Nat}(h:(es.all λc=>kK K (cm c) a)=true)(d:∀c∈es,mj K (cm c)):∀c∈es,XK K (cm c) a:=λc b=>by
 have:=Jy.mp h c b;unfold kK cJ at this;simp only[Jq]at this;obtain⟨⟨⟨⟨⟨⟨⟨⟨⟨⟨e,g⟩,i⟩,j⟩,l⟩,p⟩,r⟩,s⟩,u⟩,m⟩,o⟩:=this;exact⟨d c b,of_decide_eq_true e,g,i,of_decide_eq_true j,of_decide_eq_true l⟩
theorem HP(h:(es.all λc=>kK K (cm c) i)=true)(l:wB K cm es=true)(j:wA K=true)(m:∀c∈es,mj K (cm c)):lW K cm es/\nE K cm es:=by
 have b:∀c∈es,∀d∈es,kB K _ _=bS c d/\kitOne K _ _=some _:=λc a d o=>by
  have:=Jy.mp (Jy.mp l c a) d o;exact⟨of_decide_eq_true (cG this).1,of_decide_eq_true (cG this).2⟩
 refine⟨⟨λc a=>⟨i,wF h m c a⟩,λc a k e=>(b c a k e).1⟩,⟨λc a=>?_,λc a k e=>(b c a k e).2,λc a=>?_⟩⟩
 .have:=Jy.mp h c a;unfold kK cJ at this;simp only[Jq]at this;obtain⟨⟨⟨⟨⟨⟨⟨⟨⟨⟨x,y⟩,z⟩,A⟩,B⟩,p⟩,r⟩,s⟩,u⟩,g⟩,v⟩:=this;exact⟨of_decide_eq_true p,of_decide_eq_true r,s,of_decide_eq_true u,of_decide_eq_true (cG j).1,of_decide_eq_true (cG j).2,of_decide_eq_true g⟩
 .have:=Jy.mp h c a;exact of_decide_eq_true (cG this).2
theorem iJ{es:List Nat}(E:En P w K mg base cm)(O:av P w K mg base aO k a fd ps (kA K))(h:(es.all λc=>kK K (cm c) a)=true)(d:∀c∈es,mj K (cm c))(b:L2.Binds K fd ps [])(e:c∈es)(g:bH K n (cm c)=true):jB P w K mg base cm c n k:=⟨⟨_,_,_,O,wF h d c e,E.ns g,b⟩⟩
end
end Ws
namespace Ws
open PySem
def HQ(h:N5 vs A=.ok v A'):v=.non:=pQ (J5 (ng i6 v7) (J5 um (J5 (CP (J5 (ng i6 v7) CQ)) (J5 M9 (J5 M9 (J5 M9 (J5 M9 M9))))))) h
def HR(h:N6 vs A=.ok v A'):v=.non:=pQ (J5 (ng i6 v7) (J5 um (J5 (ng i6 v7) (J5 M9 M9)))) h
def Z0(h:D5 vs A=.ok v A'):v=.non:=pQ (J5 M9 (J5 M9 (J5 M9 (J5 M9 (J5 M9 (J5 M9 M9)))))) h
end Ws
def HS{P:List II->Prop}(h:P [])(a:List II)(e:a.length=0):P a:=by
 cases a with
 | nil=>exact h
 | cons x a=>exact absurd e (Mv _)
def wG{P:List II->Prop}(h:∀x,P [x])(a:List II)(e:a.length=1):P a:=by
 cases a with
 | nil=>exact absurd e (Mv _).symm
 | cons x a=>exact HS (P:=λa=>P (x::a)) (h x) a (Qc e)
def wH{P:List II->Prop}(h:∀x y,P [x,y])(a:List II)(e:a.length=2):P a:=by
 cases a with
 | nil=>exact absurd e (Mv _).symm
 | cons x a=>exact wG (P:=λa=>P (x::a)) (h x) a (Qc e)
def wI{P:List II->Prop}(h:∀x y z,P [x,y,z])(a:List II)(e:a.length=3):P a:=by
 cases a with
 | nil=>exact absurd e (Mv _).symm
 | cons x a=>exact wH (P:=λa=>P (x::a)) (h x) a (Qc e)
def HU{P:List II->Prop}(h:∀x y z u,P [x,y,z,u])(a:List II)(e:a.length=4):P a:=by
 cases a with
 | nil=>exact absurd e (Mv _).symm
 | cons x a=>exact wI (P:=λa=>P (x::a)) (h x) a (Qc e)
local macro_rules | `(tactic| walk_at "b1")=>`(tactic| exact λ_ _ _ _ _ _=>wG λ_=>rfl)
local macro_rules | `(tactic| walk_at "b2")=>`(tactic| exact λ_ _ _ _ _ _=>wH λ_ _=>rfl)
local macro_rules | `(tactic| walk_at "b3")=>`(tactic| exact λ_ _ _ _ _ _=>wI λ_ _ _=>rfl)
local macro_rules | `(tactic| walk_at "b4")=>`(tactic| exact λ_ _ _ _ _ _=>HU λ_ _ _ _=>rfl)
namespace Ws
open PySem PySem.W L2
set_option Elab.async false
set_option maxHeartbeats 0
def HX:∀w:JJ,(fencedOpening treeTable PySem.Challenge.pw_wordswap_k26_whole_ledger w 8224).map (λs=>(s.heap,s.gens,s.drawn,s.toks))=some (MJ w.params,#[],QN,QW):=boot_open (by kernel_rfl) (by kernel_rfl) (λs=>by kernel_rfl)
def hdl:LeftO PySem.Challenge.pw_wordswap_k26_whole_ledger (view PySem.Challenge.pw_wordswap_k26_whole_ledger ml) rF (xt PySem.Challenge.pw_wordswap_k26_whole_ledger) (λs=>iq s.heap) (Kw PySem.Challenge.pw_wordswap_k26_whole_ledger 8224) 8224/\∀w,((bs (Kw PySem.Challenge.pw_wordswap_k26_whole_ledger 8224 w)).all id,os (Kw PySem.Challenge.pw_wordswap_k26_whole_ledger 8224 w))=(true,ov PySem.Challenge.pw_wordswap_k26_whole_ledger):=Bc (q:=λp=>view p ml) (Xt:=xt) (ob:=λK=>((bs K).all id,os K)) (va:=λp=>(true,ov p)) rfl PySem.W.Fast.te6613529449190102663 PySem.W.Fast.te10156331382660048174 PySem.W.Fast.te11892475500146522536 PySem.W.Fast.te14364793385576792824 PySem.W.Fast.te4187177175401517315 HX HY
def HZ{fa:Addr}{K:Frag}(e:(bs K).all id=true/\os K=ov PySem.Challenge.pw_wordswap_k26_whole_ledger)(X:K.In h)(G:h.Ns mainGlobals mg)(hfa:mg "law" = some (.ref fa)):∃fd:Jh,(∀(s:IJ)(v:II),Rb s fd ⟨[v],[]⟩ [("_law_script",v)])/\∀base:Heap,K.In base->base.Ns mainGlobals mg->av PySem.Challenge.rw_wordswap_k26_whole_ledger.prog w K mg base aO 9 fa fd ["_law_script"] (pR K):=by
 have b:=λi {x}=>HJ e.1 i (b:=x);have z:=hfa.symm.trans (PySem.W.mg_of X G (of_decide_eq_true (cG (b 61 rfl)).1));cases z;refine⟨fnOf "law" "law" (L9 (top 47)) (G0 (top 47)) (C2 (top 47)) .none .none .none (.str "law_wordswap_k26_whole_ledger" 739) none (.ref 518) .none,λs v=>.of_eq rfl,λbase KB _=>?_⟩;have E:En PySem.Challenge.rw_wordswap_k26_whole_ledger.prog w K mg base cmA:=⟨⟨h,X,G⟩⟩;have B:=base_of E (b 0 rfl) (b 1 rfl);have GL:nT mg:=⟨⟨_,E.of (b 13 rfl)⟩,⟨_,E.of (b 14 rfl)⟩,⟨_,E.of (b 15 rfl)⟩,⟨_,E.of (b 16 rfl)⟩⟩;have BS:=E.no (b 17 rfl);have F0:=bF (st:=(C3 (top 2) 0)) (bo e.2 0 rfl rfl) (b 18 rfl);have F1:=bF (st:=(top 34)) (bo e.2 1 rfl rfl) (b 19 rfl);have F2:=bF (st:=(top 36)) (bo e.2 2 rfl rfl) (b 20 rfl);have F3:=bF (st:=(top 37)) (bo e.2 3 rfl rfl) (b 21 rfl);have F4:=bF (st:=(top 38)) (bo e.2 4 rfl rfl) (b 22 rfl);have F5:=bF (st:=(top 29)) (bo e.2 5 rfl rfl) (b 23 rfl);have F6:=bF (st:=(top 13)) (bo e.2 6 rfl rfl) (b 24 rfl);have F7:=bF (st:=(top 14)) (bo e.2 7 rfl rfl) (b 25 rfl);have F8:=bF (st:=(top 30)) (bo e.2 8 rfl rfl) (b 26 rfl);have F9:=bF (st:=(top 31)) (bo e.2 9 rfl rfl) (b 27 rfl);have F10:=bF (st:=(C3 (top 32) 0)) (bo e.2 10 rfl rfl) (b 28 rfl);have F11:=bF (st:=(top 15)) (bo e.2 11 rfl rfl) (b 29 rfl);have F12:=bF (st:=(top 16)) (bo e.2 12 rfl rfl) (b 30 rfl);have F13:=bF (st:=(top 17)) (bo e.2 13 rfl rfl) (b 31 rfl);have F14:=bF (st:=(C3 (top 18) 0)) (bo e.2 14 rfl rfl) (b 32 rfl);have F15:=HM (st:=(C3 (top 27) 0)) (bo e.2 15 rfl rfl) (bo e.2 16 rfl rfl) (b 33 rfl);have F16:=bF (st:=(C3 (top 27) 2)) (bo e.2 17 rfl rfl) (b 34 rfl);have F17:=bF (st:=(top 39)) (bo e.2 18 rfl rfl) (b 35 rfl);have F18:=bF (st:=(top 40)) (bo e.2 19 rfl rfl) (b 36 rfl);have F19:=bF (st:=(top 41)) (bo e.2 20 rfl rfl) (b 37 rfl);have F20:=bF (st:=(top 46)) (bo e.2 21 rfl rfl) (b 38 rfl);have F21:=bF (st:=(top 42)) (bo e.2 22 rfl rfl) (b 39 rfl);have F22:=bF (st:=(top 24)) (bo e.2 23 rfl rfl) (b 40 rfl);have F23:=bF (st:=(top 20)) (bo e.2 24 rfl rfl) (b 41 rfl);have F24:=bF (st:=(top 25)) (bo e.2 25 rfl rfl) (b 42 rfl);have F25:=bF (st:=(top 26)) (bo e.2 26 rfl rfl) (b 43 rfl);have F26:=bF (st:=(C3 (top 27) 4)) (bo e.2 27 rfl rfl) (b 44 rfl);have F27:=bF (st:=(C3 (top 27) 7)) (bo e.2 28 rfl rfl) (b 45 rfl);have F28:=bF (st:=(C3 (top 32) 1)) (bo e.2 29 rfl rfl) (b 46 rfl);have F29:=bF (st:=(C3 (top 27) 8)) (bo e.2 30 rfl rfl) (b 47 rfl);have F30:=bF (st:=(C3 (top 27) 10)) (bo e.2 31 rfl rfl) (b 48 rfl);have F31:=bF (st:=(C3 (top 27) 9)) (bo e.2 32 rfl rfl) (b 49 rfl);have F32:=bF (st:=(C3 (top 27) 5)) (bo e.2 33 rfl rfl) (b 50 rfl);have F33:=bF (st:=(C3 (top 27) 3)) (bo e.2 34 rfl rfl) (b 51 rfl);have F34:=bF (st:=(top 45)) (bo e.2 35 rfl rfl) (b 52 rfl);have F35:=bF (st:=(top 43)) (bo e.2 36 rfl rfl) (b 53 rfl);have F36:=bF (st:=(top 35)) (bo e.2 37 rfl rfl) (b 54 rfl);have F37:=bF (st:=(C3 (top 27) 12)) (bo e.2 38 rfl rfl) (b 55 rfl);have F38:=bF (st:=(C3 (top 27) 1)) (bo e.2 39 rfl rfl) (b 56 rfl);have F39:=bF (st:=(top 44)) (bo e.2 40 rfl rfl) (b 57 rfl);have F40:=bF (st:=(C3 (top 27) 14)) (bo e.2 41 rfl rfl) (b 58 rfl);have F41:=bF (st:=(C3 (top 27) 11)) (bo e.2 42 rfl rfl) (b 59 rfl);have F42:=bF (st:=(C3 (top 27) 13)) (bo e.2 43 rfl rfl) (b 60 rfl);have F43:=bF (st:=(top 47)) (bo e.2 44 rfl rfl) (b 61 rfl);have XO:∀c∈[7,8,9,12,13,14,15,16],mj K (cmA c):=(iH (iI (bo e.2 45 rfl rfl) rfl) (iH (iI (bo e.2 46 rfl rfl) rfl) (iH (iI (bo e.2 47 rfl rfl) rfl) (iH (iI (bo e.2 48 rfl rfl) rfl) (iH (iI (bo e.2 49 rfl rfl) rfl) (iH (iI (bo e.2 50 rfl rfl) rfl) (iH (iI (bo e.2 51 rfl rfl) rfl) (iH (iI (bo e.2 52 rfl rfl) rfl) HK))))))));obtain⟨ER,EG⟩:=HP (b 63 rfl) (b 64 rfl) (b 62 rfl) XO;have MC:wz mg cmA:=⟨E.ns (b 5 rfl),E.ns (b 6 rfl),E.ns (b 7 rfl),E.ns (b 8 rfl),E.ns (b 9 rfl),E.ns (b 10 rfl),E.ns (b 11 rfl),E.ns (b 12 rfl),E.no (b 65 rfl)⟩;have OE:=HH (P:=PySem.Challenge.rw_wordswap_k26_whole_ledger.prog) (w:=w) (base:=base) (mg:=mg) F0
 have b0:=(F0.binds (ps:=["self","at"]) (by walk_at "b2"));have XD_SwapError:=iJ E OE (b 63 rfl) XO b0 (c:=7) (by decide) (b 5 rfl);have XD_NoWeb:=iJ E OE (b 63 rfl) XO b0 (c:=8) (by decide) (b 6 rfl);have XD_NoPlan:=iJ E OE (b 63 rfl) XO b0 (c:=9) (by decide) (b 7 rfl);have XD_NoDeed:=iJ E OE (b 63 rfl) XO b0 (c:=12) (by decide) (b 8 rfl);have XD_Laid:=iJ E OE (b 63 rfl) XO b0 (c:=13) (by decide) (b 9 rfl);have XD_NotLaid:=iJ E OE (b 63 rfl) XO b0 (c:=14) (by decide) (b 10 rfl);have XD_Late:=iJ E OE (b 63 rfl) XO b0 (c:=15) (by decide) (b 11 rfl);have XD_Unknown:=iJ E OE (b 63 rfl) XO b0 (c:=16) (by decide) (b 12 rfl);have D_law_cell_at:=bV E (f:=K7) (HI29 B F1) (b 19 rfl) (F1.binds (by walk_at "b2"));have D_law_mixed:=bV E (f:=E1) (HI31 B F2) (b 20 rfl) (F2.binds (by walk_at "b2"));have D_law_passings:=bV E (f:=L6) (HI32 B D_law_mixed F3) (b 21 rfl) (F3.binds (by walk_at "b2"));have D_law_some:=bV E (f:=P1) (HI33 B F4) (b 22 rfl) (F4.binds (by walk_at "b2"));have D_is_rising:=bV E (f:=S8) (HI6 B F5) (b 23 rfl) (F5.binds (by walk_at "b1"));have D_is_whole:=bV E (f:=K4) (HI0 B F6) (b 24 rfl) (F6.binds (by walk_at "b1"));have D_is_hand:=bV E (f:=J2) (HI1 B D_is_whole F7) (b 25 rfl) (F7.binds (by walk_at "b2"));have D_are_leaders:=bV E (f:=O2) (HI7 B D_is_rising D_is_hand F8) (b 26 rfl) (F8.binds (by walk_at "b2"));have D_is_limit:=bV E (f:=Q7) (HI8 B D_is_whole F9) (b 27 rfl) (F9.binds (by walk_at "b1"));have D_Plan_init:=rE E (f:=N5) (HI9 B D_are_leaders D_is_limit F10) (b 28 rfl) (b 68 rfl) (b 4 rfl) (F10.binds (by walk_at "b4")) λ_ _ _ _=>HQ;have D_is_number_of_hands:=bV E (f:=E8) (HI2 B GL D_is_whole F11) (b 29 rfl) (F11.binds (by walk_at "b1"));have D_is_passing:=bV E (f:=J7) (HI3 B D_is_hand F12) (b 30 rfl) (F12.binds (by walk_at "b2"));have D_first_wrong_passing:=bV E (f:=E6) (HI4 B D_is_passing F13) (b 31 rfl) (F13.binds (by walk_at "b2"));have D_Web_init:=rE E (f:=N6) (HI10 B D_is_number_of_hands D_first_wrong_passing F14) (b 32 rfl) (b 66 rfl) (b 2 rfl) (F14.binds (by walk_at "b3")) λ_ _ _ _=>HR;have DN_Ledger_init:=HN E (f:=D5) (HI5 B F15) (b 33 rfl) (b 67 rfl) (b 3 rfl) (F15.binds 2 rfl λ_ _ _ _ _ _ _ us hl=>match us,hl with | [_,_],_=>⟨_,rfl,rfl⟩) λ_ _ _ _=>Z0;have D_Ledger_init:=rE E (f:=D5) (HI5 B F15) (b 33 rfl) (b 67 rfl) (b 3 rfl) (F15.binds 3 rfl λ_ _ _ _ _ _ _ us hl=>match us,hl with | [_,_,_],_=>⟨_,rfl,rfl⟩) λ_ _ _ _=>Z0;have D_Ledger_move:=gf E (f:=O3) (HI16 B F16) (b 34 rfl) (F16.binds (by walk_at "b1"));have D_law_ways:=bV E (f:=R0) (HI34 B F17) (b 35 rfl) (F17.binds (by walk_at "b2"));have D_law_chains:=bV E (f:=J9) (HI35 B D_law_ways F18) (b 36 rfl) (F18.binds (by walk_at "b3"));have y:=(F19.binds (ps:=["_law_state","_law_free","_law_chain"]) (by walk_at "b3"));have D_law_known_0:=bV E (k:=1) (f:=W3) (ar:=3) uT (b 37 rfl) y λ_ _ _ _ h=>nomatch h;have D_law_known_1:=bV E (f:=k9) (HI36 B D_law_known_0 F19) (b 37 rfl) y;have D_law_known_2:=bV E (f:=l4) (HI36 B D_law_known_1 F19) (b 37 rfl) y;have D_law_known_3:=bV E (f:=l5) (HI36 B D_law_known_2 F19) (b 37 rfl) y
 have D_law_known_4:=bV E (f:=l6) (HI36 B D_law_known_3 F19) (b 37 rfl) y;have D_law_known_5:=bV E (f:=l7) (HI36 B D_law_known_4 F19) (b 37 rfl) y;have D_law_known:=bV E (f:=P4) (HI36 B D_law_known_5 F19) (b 37 rfl) y;have D_law_deed:=bV E (f:=R1) (HI41 B D_law_chains D_law_known F20) (b 38 rfl) (F20.binds (by walk_at "b4"));have D_law_due:=bV E (f:=L7) (HI37 B D_law_chains D_law_known F21) (b 39 rfl) (F21.binds (by walk_at "b4"));have D_is_box:=bV E (f:=d4) (HI12 B D_is_passing F22) (b 40 rfl) (F22.binds (by walk_at "b2"));have D_is_chain:=bV E (f:=Q8) (HI11 B D_is_hand F23) (b 41 rfl) (F23.binds (by walk_at "b3"));have D_is_chain_of:=bV E (f:=M5) (HI13 B D_is_hand D_is_chain F24) (b 42 rfl) (F24.binds (by walk_at "b2"));have D_is_deed:=bV E (f:=M6) (HI14 B GL D_is_box D_is_chain_of F25) (b 43 rfl) (F25.binds (by walk_at "b2"));have DX_Ledger_take_lay:=rD E (f:=J8) (HI17 B XD_Laid F26) (b 44 rfl) (F26.binds (by walk_at "b2"));have D_Ledger_is_laid_ahead:=gf E (f:=G1) (HI20 B F27) (b 45 rfl) (F27.binds (by walk_at "b2"));have D_Plan_limit:=gf E (f:=U1) (HI18 B F28) (b 46 rfl) (F28.binds (by walk_at "b2"));have D_Ledger_is_late:=gf E (f:=L5) (HI19 B D_Plan_limit F29) (b 47 rfl) (F29.binds (by walk_at "b3"));have D_Ledger_is_said_ahead:=gf E (f:=G2) (HI21 B F30) (b 48 rfl) (F30.binds (by walk_at "b2"));have D_Ledger_is_sayable:=gf E (f:=G3) (HI22 B D_Ledger_is_said_ahead F31) (b 49 rfl) (F31.binds (by walk_at "b2"));have DX_Ledger_take_say:=rD E (f:=G7) (HI23 B D_Ledger_is_laid_ahead XD_NotLaid D_Ledger_is_late XD_Late D_Ledger_is_sayable XD_Unknown F32) (b 50 rfl) (F32.binds (by walk_at "b2"));have DX_Ledger_take:=rD E (f:=G6) (HI24 B GL D_is_deed XD_NoDeed DX_Ledger_take_lay DX_Ledger_take_say F33) (b 51 rfl) (F33.binds (by walk_at "b2"));have D_law_taken:=bV E (f:=J1) (HI40 B ER EG MC DX_Ledger_take F34) (b 52 rfl) (F34.binds (by walk_at "b2"));have D_law_put:=bV E (f:=N9) (HI38 B F35) (b 53 rfl) (F35.binds (by walk_at "b2"));have y:=(F36.binds (ps:=["_law_found","_law_due_here"]) (by walk_at "b2"));have D_law_alike_0:=bV E (k:=1) (f:=V9) (ar:=2) uT (b 54 rfl) y λ_ _ _ _ h=>nomatch h;have D_law_alike_1:=bV E (f:=j7) (HI30 B BS D_law_alike_0 F36) (b 54 rfl) y;have D_law_alike_2:=bV E (f:=j8) (HI30 B BS D_law_alike_1 F36) (b 54 rfl) y;have D_law_alike_3:=bV E (f:=j9) (HI30 B BS D_law_alike_2 F36) (b 54 rfl) y;have D_law_alike_4:=bV E (f:=k8) (HI30 B BS D_law_alike_3 F36) (b 54 rfl) y;have D_law_alike:=bV E (f:=E5) (HI30 B BS D_law_alike_4 F36) (b 54 rfl) y;have D_Ledger_laid:=gf E (f:=E9) (HI27 B F37) (b 55 rfl) (F37.binds (by walk_at "b1"));have D_Ledger_turn:=gf E (f:=I9) (HI15 B F38) (b 56 rfl) (F38.binds (by walk_at "b1"));have D_law_open:=bV E (f:=N8) (HI39 B F39) (b 57 rfl) (F39.binds (by walk_at "b2"));have D_Ledger_said:=gf E (f:=J0) (HI25 B F40) (b 58 rfl) (F40.binds (by walk_at "b2"));have D_Ledger_has_all_words:=gf E (f:=E3) (HI26 B D_Ledger_said F41) (b 59 rfl) (F41.binds (by walk_at "b2"));have D_Ledger_opened:=gf E (f:=G9) (HI28 B D_Ledger_has_all_words D_Ledger_laid F42) (b 60 rfl) (F42.binds (by walk_at "b1"));exact(HI42 B D_law_cell_at D_law_mixed D_law_passings D_law_some D_Plan_init D_Web_init D_Ledger_init DN_Ledger_init D_Ledger_move D_law_deed D_law_due D_law_taken D_law_put D_law_alike D_Ledger_laid D_Ledger_turn D_law_open D_Ledger_opened D_Ledger_said F43).imp λvs H Q E q=>AX law_pure vs H Q E q
end Ws
open PySem PySem.W PyProof.Rows
set_option Elab.async false
set_option maxRecDepth 100000 in
set_option maxHeartbeats 0 in
theorem PySem.Challenge.cw_wordswap_k26_whole_ledger_holds : PySem.Challenge.rw_wordswap_k26_whole_ledger.Holds := by
 w_on;refine holds_law Ws.Ia λsaid=>?_
 refine Ws.Be (l:=PySem.Challenge.rw_wordswap_k26_whole_ledger) (d:=⟨"law",L2.L9 (Ws.top 47),L2.G0 (Ws.top 47),L2.C2 (Ws.top 47),Ws.Bd (Ws.top 47)⟩) Ws.hdl.1 (by kernel_rfl) (by kernel_rfl) (by kernel_rfl) (by first | rfl | kernel_rfl) (by assumption) (by decide +kernel) ⟨rfl,rfl,rfl,rfl,rfl,by decide +kernel⟩ ?hw ?hc
 case hw=>w_witness2
 case hc=>exact Ws.Bf (l:=PySem.Challenge.rw_wordswap_k26_whole_ledger) (k:=9) (x:="_law_script") rfl (by kernel_rfl) ⟨rfl,by decide,by decide⟩ (λw h Y=>Y) λw mg fa h KX G hmg=>Ws.HZ (Prod.mk.inj (Ws.hdl.2 w)) KX G hmg
