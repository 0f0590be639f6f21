import PyProof.Rows.All
import Wide.All
import OpenK.AllK
import Wide.FinOn
import Lean
import PyProof.EqAt
import PyProof.EqKinds
import PyProof.TupleCall
import PySem.Challenge.RW_wordswap_k27_whole_names_kept
import PyProof.ExcBaseAll.ValueError
import PyProof.NsDelKeeps
import PyProof.ExcArgs
import KE.KIntText
import PyProof.StrLawsChain
import PyProof.StrWalks
import PyProof.Draws
import PyProof.EnumMake
import PyProof.Rows.CallKwBuiltin
import PyProof.ToksMono
import PyProof.StrReplace2
import PyProof.MeetsStr3
import KE.KSortTup
import PyProof.AttrMissHeap
open PySem renaming wpAny_bind->Ir,Value->Iv,wpAny_pure->Iy,Shared->IA,Program->IV,FuncData->IY,SetTable->Jr,wpAny_mono->Jt,Around->Jx,World->JB,wpAny_holding->JC,wpAny_field->JJ,wpAny_call_entry->JL,mem_of_lookup->JU,wpAny_callSpecial?_slot->JZ,wpAny_truthy_bool->Kn,wpAny_loadPart_at->Kq,wpAny_seqItems->Kr,wpAny_setField_rec->Kt,wpAny_dictEntries->Ky,wpAny_setState_of->Kz,tupleKind_room_in1->KI,Builtin->KL,wpAny_typeNameOfWhole_keyiter->KN,codeAny_mono->KW,wpAny_pyIter_list->KY,wpAny_isSubtype_exc->La,wpAny_passesOwn->Lk,wpAny_newObj_type->Lo,codeAny_builtin->Lp,wpAny_setField->Lw,wpAny_Call_Name_kw->LF,wpAny_execs_nil->LJ,wpAny_notOrdered_dict->LM,wpAny_pyIter_tuple->Mo,sizeLine_eq->MI,plainObj_wpAny_Assign_Attribute->MJ,wpAny_call->MK,wpAny_forIn_list->Ng,wpAny_updateSeq_pair->Nk,codeAny_call_builtin->Nl,ExceptHandler->Nr,plainId_quiet->Nt,Keyword->Nz,wpAny_specialOf->NA,codeAny_of_tree->ND,wpAny_dictEpoch->NF,Within->NN,wpAny_typeOf->NR,Spec->Oc,DictEntry->Od,wpAny_Call_method->Oi,wpAny_comprehension_free->Oj,wpAny_rule->Oo,Scope->Oy,wpAny_standAt->OH,wpAny_onRaise->OI,wpAny_attempt->OJ,wpAny_execs_cons->OQ,wpAny_isInstance->OS,wpAny_isTrue_Compare1->Pj,call_meetsIn->Pq,weight_type_call_type->Px,size_of_entries->Py,wpAny_isOneOf_keyiter->Pz,GenState->PN,boot_len->Qa,wpAt_of_wpAny->Qc,wpAny_newList->Qi,call_meets->Ql,Result->Qo,Thread->Qp,CmpOp->Qv,PassesOwn->Qw,IsPart->Qx,wpAny_of_eq->QC,wpAny_letGo->QD,IsPair->QG,BindsTo->QJ,NameKind->QK,OsState->QN,Model->QR,Walks->QV
open PySem.Heap renaming get?_push_of_some->Iu,get?_push_size->IG,lt_size->II,get?_update_self->JF,size_push->JH,SameBut->JS,get?_update_other->Kf,get?_push_ne->MM,size_update->Nd,get?_update_ne->Qb,ExtBut->QA
open PySem.W renaming Frag->Iw,kia_one->Kg,findIn->KA,keepIn->KU,instObj->KZ,fnOf->Le,emptyDict->Ll,callWith_K->LG,SharedT->LV,boot_heap->Mu,codeIn->MN,methodCall_KW->MQ,plainGet->MX,plainGet_of->Nx,lookIn->NW,hasDictIn->Oe,cellsFrom_some->OW,takerIn->Pk,looks_findIn->PR,boot_drawn->Qm,isFn->Qn,boot_toks->Qz,kas_rev->QM
open List renaming length_map->Iz,mem_map->IB,mem_cons_self->IE,mem_cons_of_mem->IF,mem_cons->IH,prefix_append->IJ,mem_singleton->IK,getElem?_eq_getElem->IM,size_toArray->IP,getElem?_eq_some_iff->IQ,length_append->IT,prefix_refl->IU,getD_eq_getElem?_getD->IW,map_map->J1,length_cons->J2,getElem?_map->Ja,map_cons->Jb,getElem?_append_left->Jf,all_eq_true->Jg,mem_filter->Ji,range->Jj,mem_iff_getElem->Jk,mem_append->Jm,mem_of_getElem?->Jn,mem_append_right->Jp,map_append->Js,nodup_append->Ju,Nodup->Jv,pairwise_iff_getElem->Jy,pairwise_cons->Jz,filter_eq_self->JA,length_take->JD,length_filter_le->JE,mem_range->JG,getElem?_eq_none->JK,getElem_mem->JM,length_nil->JN,not_mem_nil->JO,getElem?_eq_none_iff->JQ,mem_append_left->JR,length_pos_iff->JV,getElem?_append_right->Kb,append_nil->Kh,nodup_cons->Ki,filterMap_cons->Kk,pairwise_map->Kv,map_congr_left->Kx,take_succ->KC,contains_cons->KJ,take_length->KO,getElem?_zip_eq_some->Li,getLast?_eq_getElem?->Lj,getElem_inj->Lu,take_append_of_le_length->Lv,take_of_length_le->LA,filter_append->LH,foldl_cons->LK,toArray->LL,any_cons->LP,getElem_take->LR,mem_of_mem_take->LX,pairwise_append->LY,replicate->LZ,mem_flatMap->Me,lookup->Mg,flatMap_append->Ml,getLast?_eq_getLast->Mn,filter_cons_of_neg->Mq,all_cons->Ms,filter_map->My,map_drop->Mz,length_set->MD,getElem?_drop->ME,drop_eq_nil_of_le->MF,range_succ_eq_map->MG,nodup_nil->MO,take_append_drop->MW,length_drop->MY,lookup_cons->Nb,any_toArray->Nc,getElem_map->Nh,getElem?_set_ne->Ni,of_mem_zip->Ny,dropWhile_cons_of_pos->NL,dropWhile_cons_of_neg->NM,mem_filterMap->NQ,map->NS,map_filterMap->NU,drop_eq_getElem_cons->NX,getLastD_eq_getLast?->Ob,getElem_append_left->Ou,flatMap_cons->Ox,getElem?_replicate->OA,filter_cons_of_pos->OG,map_take->ON,getElem?_set_self->OV,pairwise_lt_range->Pf,length_singleton->Po,map_nil->Pp,mem_iff_getElem?->PF,getElem?_zipWith->PL,mem_of_mem_drop->PU,length_dropLast->PX,drop_eq_nil_iff->PZ,Pairwise->QL
open Nat renaming le_refl->IC,ne_of_lt->IL,lt_of_lt_of_le->IZ,le_trans->Jd,lt_succ_self->JX,zero_le->Kl,lt_succ_of_lt->Ko,lt_irrefl->Ks,ne_of_gt->KS,le_add_right->Ld,succ_ne_zero->Mf,le_succ->Mh,not_lt_zero->MA,mul_le_mul->MP,lt_trans->MR,pow_le_pow_right->Nn,le_of_lt->NP,lt_of_le_of_lt->NT,le_of_lt_succ->Ot,le_of_eq->Pl,zero_add->Pu,le_of_ble_eq_true->PJ,succ_mul->PK,mul_le_mul_right->PY,sub_zero->Qq
open PySem.Value renaming ref->IS,none->Km,int->Ph,str->Qe,bool->Qk,float->Qu
open Bool renaming and_eq_true->Jc,false_eq_true->Jl,false_ne_true->Kd,beq_eq_decide_eq->MS,or_true->MT,and_eq_true_iff->Nj,not_true->OO,and_false->Q2
open False renaming elim->Je
open Option renaming map_eq_some_iff->Jh,bind_eq_some_iff->MB,isSome_map->ML,getD_none->Na,isNone_iff_eq_none->Oa,isSome_iff_exists->Of,bind_some->OT,map_some->PB
open Option.some renaming inj->Jo
open PySem.F renaming called_set->Jq,slot_dict_keyiterator_next->JP,slot_dict_get->KD,slot_tuple_iterator_next->Lb,entry_dict_get->Lz,args_dict_keyiterator_next_1->Md,entry_dict_keyiterator_next->Mi,slot_list_getattribute->Mm,plainAttrs_dict->Mp,plainAttrs_list->Mt,slot_zip_next->Mv,slot_dict_iter->MH,args_tuple_iterator_next_1->Np,slot_dict_setdefault->Nv,entry_tuple_iterator_next->NC,kt_typeCall_dict_1->NJ,args_tuple_add_2->Og,args_dict_init_2->Oq,entry_tuple_add->OB,args_dict_get_2->OC,args_dict_get_3->OF,entry_type_call->OK,entry_dict_init->OL,slot_tuple_add->OX,typeCall_set_1->OZ,entry_set_init->Pb,kt_called_dict->Pc,type_dict_get->Pr
open PyProof.Rows renaming envOfC->Jw,boot_tuple->KR,callWith_type1->L1,slot_tuple_getitem->Ln,boot_list->LB,IntsAre->MZ,boot_sorted->Ol,AllBare->Oz,subscriptTail_builtinR->OY,Constant_none->Qf,listUpdate_at->Qh,seqEpoch_at->Qy,Call_->QT,IsTup->QU
open PySem.Heap.SameBut renaming update->JI
open PySem.Obj renaming data_mapFields->JT,mapFields->KQ,isFreed_of_fields->Lg,data_mapDictKeys->LW,mapSeq->Nw,cls_mapFields->Om,isFreed_of_dict->Qd
open PySem.PassesOwn renaming never->JW
open Sum renaming inl->JY,inr->QH
open PySem.SetTable renaming insertAt->Ka,Probe->QQ
open PySem.Builtin renaming bitAnd->Kc
open PySem.SeqAt renaming EqAt->Ke,RcNeAt->Mc
open Classical renaming byContradiction->Kj,choose_spec->KG,propDecidable->Lr,choose->OR
open Array renaming length_toList->Ku,getElem?_eq_some_iff->Lc,getElem?_toList->Lf,toList_inj->Nf,getD_eq_getD_getElem?->NB,perm_iff_toList_perm->NI,append_assoc->NO,getElem?_eq_getElem->NZ,getElem?_eq_none->Pd,mem_toList_iff->PQ
open PySem.Calls renaming spliced_cons->KH,callWith_builtin->Ly,spliced_nil->LO,evalArgs_plain->LU,Name_function_global->NG,call_function_entry->NY
open Ne renaming symm->KP
open PySem.Builtin.SmallTypes renaming nextOf->Lh
open True renaming intro->Lm
open Function renaming comp_def->Lq
open PyProof.Rows.F renaming plain_set_update_loop->Ls,entry_set_update_loop->OP
open Int renaming natCast_nonneg->LC,emod_lt_of_pos->LI,emod_nonneg->LN,toNat_natCast->LQ,toNat_of_nonneg->Mj,fdiv_eq_ediv_of_nonneg->NH,lt_of_le_of_lt->NV,ofNat_le->Qr,le_trans->Qs
open PySem.Builtin.Slice renaming sliceAdjust->Ma,slicePlaces->Mb
open List.cons renaming injEq->Mr
open PySem.Code renaming quiet_builtin->Mw
open PySem.Shared renaming TypeIs->Mx
open PySem.Data renaming dict->MU
open PySem.Builtin.Dict renaming showsAll->MV,updateFrom->OM
open PySem.Around renaming under_plainId->Nm,in1_units->OU
open PySem.Builtin.Frozenset renaming updateFrom->Nq
open PySem.Builtin.Dict_items renaming ownsTuple->Nu
open PySem.Builtin.List renaming listTooLong->Oh
open List.Pairwise renaming map->Ov,imp_of_mem->Ow
open Nat.succ renaming inj->PM
open Or renaming inr->Qg,inl->QE
open Prod.mk renaming injEq->Qj
open PySem.SetTable.below renaming go->Qt
open PySem.SetTable.probe renaming go->QP
namespace L2
open PySem PySem.Spec PyProof.Rows
noncomputable def C1(s:Stmt)(j:Nat):Stmt:=match s with
 | .ClassDef _ _ _ a _ _ _ _ _ _ _=>a.getD j (.Pass ⟨0,0,0,0⟩)
 | _=>.Pass ⟨0,0,0,0⟩
noncomputable def N2(s:Stmt):Arguments:=match s with
 | .FunctionDef _ a _ _ _ _ _ _ _ _=>a
 | _=>{ posonlyargs:=[],args:=[],vararg:=none,kwonlyargs:=[],kw_defaults:=[],kwarg:=none,defaults:=[] }
noncomputable def G7(s:Stmt):List Stmt:=match s with
 | .FunctionDef _ _ b _ _ _ _ _ _ _=>b
 | _=>[]
noncomputable def B6(s:Stmt):Oy:=match s with
 | .FunctionDef _ _ _ _ _ _ c _ _ _=>c
 | _=>{ kind:=.function,names:=[],isGenerator:=false,isCoroutine:=false }
end L2
namespace Ws
open PySem PySem.W PyProof.Rows PySem.Calls L2
noncomputable section
noncomputable def gI(c k:Nat):Bool:=decide (c=k)||decide (k=7)
noncomputable def cy(i:Nat):Str:=(["number","passings","at","web","leaders","limits","plan","free","ledger","kept_leaders","kept_limits","kept_free","now","turns_of_lays","sayings","first_turns","does","me","open_boxes"]:List Str).getD i "?"
noncomputable def oF(ok:Qp->Bool)(a:LV->Qp->Option (LV×Qp))(n:Nat):LV->Qp->Option LV:=
 @Nat.rec (λ_=>LV->Qp->Option LV) (λ_ _=>none)
  (λ_ ih s t=>@Bool.rec (λ_=>Option LV) (@Bool.rec (λ_=>Option LV) none (@Option.rec _ (λ_=>Option LV) none (λr=>ih r.1 r.2) (a s t)) (ok t)) (some s) (through t)) n
noncomputable def tG:List Obj->Nat->BT->BT
 | [],_,t=>t
 | o::r,n,t=>tG r (n+1) (t.ins n o)
noncomputable def oG(w:JB)(os:QN):LV:=⟨tG (Mu w.params).objs.toList 0 .nil,11,(Mu w.params).life,#[],Qm,Qz,os⟩
noncomputable def jT(S:LV):Frag:=(Jj S.n).filterMap λa=>(alive ((S.tree.get a).getD default)).map λo=>(a,o)
noncomputable def lk{b:Type}(c:IV->List Str->List Str->(IA->Bool)->Bool->IA->b)(p q:IV)(a:List Str)(Xt:IA->Bool)(w:JB)(s:IA):Bool×b:=
 (staticsOk (importedModules p.main.body) (Mu w.params) s.heap&&namesBound p s.heap&&gensDone s&&laidKept (Mu w.params) s.heap,c q a (importedModules p.main.body) Xt true s)
noncomputable def ju(K:Iw)(C C':Addr):Bool:=match K.lookup C with
 | some ⟨_,_,.cls cd,_⟩=>cd.mro.contains (.ref C')
 | _=>false
noncomputable def bM(K:Frag)(n:Str)(f:Addr):Bool:=decide (nsIn K mainGlobals n=some (some (.ref f)))
noncomputable def mj(K:Frag)(n:Str):Bool:=decide (nsIn K mainGlobals n=some none)
noncomputable def ku(K:Frag)(n:Str)(v:Iv):Bool:=decide (nsIn K mainGlobals n=some (some v))
noncomputable def ir(K:Frag)(C:Addr)(n:Str)(v:Option Iv):Bool:=decide (findIn K (.ref C) n=some v)
noncomputable def cM(K:Frag)(C:Addr)(n:Str)(f:Addr):Bool:=ir K C n (some (.ref f))&&isFn K (.ref f)
noncomputable def bf(K:Frag)(cd:Iv)(q:Str)(f:Addr):Bool:=codeIn K cd q&&keepIn K (.ref f)
noncomputable def ml(K:Frag)(C:Addr):Bool:=plainGet K C Str.empty&&hasDictIn K C&&plainOver K C&&ir K C "__setattr__" (some (.builtin "object.__setattr__"))&&(Jj 19).all λj=>ir K C (cy j) none
noncomputable def ky(K:Frag)(C:Addr):Bool:=makesIn K C&&keepIn K (.ref C)
noncomputable def blts:List Str:=["len","range","list","sorted","isinstance","int","bool","tuple","enumerate","reversed","max","min","all","any","set","zip","dict"]
noncomputable def vW(K:Frag):Bool:=decide (specialIn K (.builtin "object.__class__") "__get__" = some (some (.builtin "getset_descriptor.__get__")))&&decide (takesIn K (.builtin "object.__class__")=some true)
noncomputable def jz(K:Frag)(C a:Addr):Bool:=cM K C "__init__" a&&keepIn K (.ref C)&&ir K C "__setattr__" (some (.builtin "object.__setattr__"))&&ir K C "at" none&&ir K C "__getattribute__" (some (.builtin "BaseException.__getattribute__"))&&ir K C "__getattr__" none&&hasDictIn K C&&
 ir K C "__class__" (some (.builtin "object.__class__"))&&decide (mroIn K C (.type "object")=some true)&&decide (kitOne K (.ref C) (.type "ValueError")=some true)
noncomputable def vX(K:Frag)(a:Nat->Addr)(es:List Nat):Bool:=es.all λc=>es.all λd=>decide (ju K (a c) (a d)=gI c d)&&decide (kitOne K (.ref (a c)) (.ref (a d))=some (gI c d))
abbrev kA:List Nat:=[0,2,3,4,5,6,7,8,9,11,12,13,14,15,16,17,18,20,21,22,24,25,26,27,28,29,31,32,33,34,36,37,38,39,40,41,42,43,44,45]
abbrev qE:List Str:=[]
abbrev xt(p:IV)(s:IA):Bool:=xlAt (view p kA) [] s&&recOk (RowW.records PySem.Challenge.rw_wordswap_k27_whole_names_kept.row.toRowW) s
noncomputable def M7(p:IV)(i:Nat):Stmt:=p.main.body.getD i (.Pass ⟨0,0,0,0⟩)
noncomputable def cmA(i:Nat):Addr:=([225,441,382,225,225,225,225,38,51,63,225,225,75,87,99,111,123,225]:List Nat).getD i 0
abbrev bs(K:Frag):List Bool:=[(Jj 7).all λc=>ml K (cmA c),blts.all (mj K),bM K "Web" (cmA 0),bM K "Ledger" (cmA 2),bM K "Plan" (cmA 1),bM K "SwapError" (cmA 7),bM K "NoWeb" (cmA 8),bM K "NoPlan" (cmA 9),bM K "NoDeed" (cmA 12),bM K "Laid" (cmA 13),bM K "NotLaid" (cmA 14),bM K "Late" (cmA 15),bM K "Unknown" (cmA 16),ku K "FEWEST_HANDS" (.int (2) 337),ku K "MOST_HANDS" (.int (6) 339),ku K "LAY" (.str "lay" 495),ku K "SAY" (.str "say" 497),cM K (cmA 7) "__init__" 35&&bf K (.ref 34) "SwapError.__init__" 35,bM K "_law_cell_at" 452&&bf K (.ref 451) "_law_cell_at" 452,bM K "_law_mixed" 459&&bf K (.ref 458) "_law_mixed" 459,bM K "_law_passings" 464&&bf K (.ref 463) "_law_passings" 464,bM K "_law_some" 469&&bf K (.ref 468) "_law_some" 469,cM K (cmA 2) "__init__" 280&&bf K (.ref 279) "Ledger.__init__" 280,bM K "is_rising" 391&&bf K (.ref 390) "is_rising" 391,bM K "is_whole" 132&&bf K (.ref 131) "is_whole" 132,bM K "is_hand" 139&&bf K (.ref 138) "is_hand" 139,bM K "are_leaders" 396&&bf K (.ref 395) "are_leaders" 396,bM K "is_limit" 403&&bf K (.ref 402) "is_limit" 403,cM K (cmA 1) "__init__" 417&&bf K (.ref 416) "Plan.__init__" 417,bM K "is_number_of_hands" 146&&bf K (.ref 145) "is_number_of_hands" 146,bM K "is_passing" 153&&bf K (.ref 152) "is_passing" 153,bM K "first_wrong_passing" 160&&bf K (.ref 159) "first_wrong_passing" 160,cM K (cmA 0) "__init__" 174&&bf K (.ref 173) "Web.__init__" 174,bM K "_law_ways" 474&&bf K (.ref 473) "_law_ways" 474,bM K "_law_chains" 479&&bf K (.ref 478) "_law_chains" 479,cM K (cmA 2) "move" 294&&bf K (.ref 293) "Ledger.move" 294,bM K "is_box" 253&&bf K (.ref 252) "is_box" 253,bM K "is_chain" 234&&bf K (.ref 233) "is_chain" 234,bM K "is_chain_of" 258&&bf K (.ref 257) "is_chain_of" 258,bM K "is_deed" 265&&bf K (.ref 264) "is_deed" 265,cM K (cmA 2) "take_lay" 308&&bf K (.ref 307) "Ledger.take_lay" 308,cM K (cmA 2) "is_laid_ahead" 329&&bf K (.ref 328) "Ledger.is_laid_ahead" 329,cM K (cmA 1) "limit" 424&&bf K (.ref 423) "Plan.limit" 424,cM K (cmA 2) "is_late" 336&&bf K (.ref 335) "Ledger.is_late" 336,cM K (cmA 2) "is_said_ahead" 350&&bf K (.ref 349) "Ledger.is_said_ahead" 350,cM K (cmA 2) "is_sayable" 343&&bf K (.ref 342) "Ledger.is_sayable" 343,cM K (cmA 2) "take_say" 315&&bf K (.ref 314) "Ledger.take_say" 315,cM K (cmA 2) "take" 301&&bf K (.ref 300) "Ledger.take" 301,bM K "_law_tried" 486&&bf K (.ref 485) "_law_tried" 486,cM K (cmA 0) "takers_of" 186&&bf K (.ref 185) "Web.takers_of" 186,bM K "longer_walks" 239&&bf K (.ref 238) "longer_walks" 239,bM K "chains_from" 246&&bf K (.ref 245) "chains_from" 246,cM K (cmA 2) "can_say" 379&&bf K (.ref 378) "Ledger.can_say" 379,cM K (cmA 2) "said" 374&&bf K (.ref 373) "Ledger.said" 374,cM K (cmA 2) "has_all_words" 355&&bf K (.ref 354) "Ledger.has_all_words" 355,cM K (cmA 2) "laid" 362&&bf K (.ref 361) "Ledger.laid" 362,cM K (cmA 2) "opened" 367&&bf K (.ref 366) "Ledger.opened" 367,bM K "_law_names_kept" 496&&bf K (.ref 495) "_law_names_kept" 496,bM K "_law_all_said" 491&&bf K (.ref 490) "_law_all_said" 491,bM K "law" 501&&bf K (.ref 500) "law" 501,vW K,[7,8,9,12,13,14,15,16].all λc=>jz K (cmA c) 35,vX K cmA [7,8,9,12,13,14,15,16],mj K "ValueError",ky K (cmA 0),ky K (cmA 2),ky K (cmA 1)]
abbrev os(K:Frag):List (Option Obj):=[K.lookup 35,K.lookup 452,K.lookup 459,K.lookup 464,K.lookup 469,K.lookup 280,K.lookup 273,K.lookup 391,K.lookup 132,K.lookup 139,K.lookup 396,K.lookup 403,K.lookup 417,K.lookup 146,K.lookup 153,K.lookup 160,K.lookup 174,K.lookup 474,K.lookup 479,K.lookup 294,K.lookup 253,K.lookup 234,K.lookup 258,K.lookup 265,K.lookup 308,K.lookup 329,K.lookup 424,K.lookup 336,K.lookup 350,K.lookup 343,K.lookup 315,K.lookup 301,K.lookup 486,K.lookup 186,K.lookup 239,K.lookup 246,K.lookup 379,K.lookup 374,K.lookup 355,K.lookup 362,K.lookup 367,K.lookup 496,K.lookup 491,K.lookup 501,K.lookup (cmA 7),K.lookup (cmA 8),K.lookup (cmA 9),K.lookup (cmA 12),K.lookup (cmA 13),K.lookup (cmA 14),K.lookup (cmA 15),K.lookup (cmA 16)]
abbrev fQ(st:Stmt)(n q:Str)(d m:Iv)(c:Addr):Option Obj:=some ⟨.type "function",none,.func (fnOf n q (N2 st) (G7 st) (B6 st) d .none .none m none (.ref c) .none),#[]⟩
abbrev fP(st:Stmt)(n:Str)(m:Iv)(c:Addr):Option Obj:=fQ st n n .none m c
abbrev xO(n:Str)(C N r:Addr)(a t:Nat):Option Obj:=some (excClassObj n n C N [(.ref 38)] [(.ref 38),(.type "ValueError"),(.type "Exception"),(.type "BaseException"),(.type "object")] true [] [] false none none (some (.ref r)) none (some (.str n a)) (some (.str n t)) (some (.bool true)) "ValueError.__new__")
abbrev HQ:Iv:=(.str "wordswap.errors" 194)
abbrev gD:Iv:=(.str "law_wordswap_k27_whole_names_kept" 753)
abbrev eC:Iv:=(.str "wordswap.ledgers" 493)
abbrev kB:Iv:=(.str "wordswap.plans" 672)
abbrev iU:Iv:=(.str "wordswap.webs" 335)
abbrev qF:Iv:=(.str "wordswap.chains" 467)
abbrev ov(p:IV):List (Option Obj):=[fQ (C1 (M7 p 2) 0) "__init__" "SwapError.__init__" .none HQ 34,fP (M7 p 36) "_law_cell_at" gD 451,fP (M7 p 37) "_law_mixed" gD 458,fP (M7 p 38) "_law_passings" gD 463,fP (M7 p 39) "_law_some" gD 468,fQ (C1 (M7 p 29) 0) "__init__" "Ledger.__init__" (.ref 273) eC 279,some ⟨(.type "tuple"),none,.seq #[.none] 0,#[]⟩,fP (M7 p 31) "is_rising" kB 390,fP (M7 p 13) "is_whole" iU 131,fP (M7 p 14) "is_hand" iU 138,fP (M7 p 32) "are_leaders" kB 395,fP (M7 p 33) "is_limit" kB 402,fQ (C1 (M7 p 34) 0) "__init__" "Plan.__init__" .none kB 416,fP (M7 p 15) "is_number_of_hands" iU 145,fP (M7 p 16) "is_passing" iU 152,fP (M7 p 17) "first_wrong_passing" iU 159,fQ (C1 (M7 p 18) 0) "__init__" "Web.__init__" .none iU 173,fP (M7 p 40) "_law_ways" gD 473,fP (M7 p 41) "_law_chains" gD 478,fQ (C1 (M7 p 29) 2) "move" "Ledger.move" .none eC 293,fP (M7 p 26) "is_box" eC 252,fP (M7 p 20) "is_chain" qF 233,fP (M7 p 27) "is_chain_of" eC 257,fP (M7 p 28) "is_deed" eC 264,fQ (C1 (M7 p 29) 4) "take_lay" "Ledger.take_lay" .none eC 307,fQ (C1 (M7 p 29) 7) "is_laid_ahead" "Ledger.is_laid_ahead" .none eC 328,fQ (C1 (M7 p 34) 1) "limit" "Plan.limit" .none kB 423,fQ (C1 (M7 p 29) 8) "is_late" "Ledger.is_late" .none eC 335,fQ (C1 (M7 p 29) 10) "is_said_ahead" "Ledger.is_said_ahead" .none eC 349,fQ (C1 (M7 p 29) 9) "is_sayable" "Ledger.is_sayable" .none eC 342,fQ (C1 (M7 p 29) 5) "take_say" "Ledger.take_say" .none eC 314,fQ (C1 (M7 p 29) 3) "take" "Ledger.take" .none eC 300,fP (M7 p 42) "_law_tried" gD 485,fQ (C1 (M7 p 18) 2) "takers_of" "Web.takers_of" .none iU 185,fP (M7 p 21) "longer_walks" qF 238,fP (M7 p 22) "chains_from" qF 245,fQ (C1 (M7 p 29) 15) "can_say" "Ledger.can_say" .none eC 378,fQ (C1 (M7 p 29) 14) "said" "Ledger.said" .none eC 373,fQ (C1 (M7 p 29) 11) "has_all_words" "Ledger.has_all_words" .none eC 354,fQ (C1 (M7 p 29) 12) "laid" "Ledger.laid" .none eC 361,fQ (C1 (M7 p 29) 13) "opened" "Ledger.opened" .none eC 366,fP (M7 p 44) "_law_names_kept" gD 495,fP (M7 p 43) "_law_all_said" gD 490,fP (M7 p 45) "law" gD 500,some (excClassObj "SwapError" "SwapError" 38 37 [(.type "ValueError")] [(.type "ValueError"),(.type "Exception"),(.type "BaseException"),(.type "object")] true [] [(.ref 51),(.ref 63),(.ref 75),(.ref 87),(.ref 99),(.ref 111),(.ref 123)] false none none (some (.ref 22)) none (some (.str "SwapError" 196)) (some (.str "SwapError" 204)) (some (.bool true)) "ValueError.__new__"),xO "NoWeb" 51 50 42 223 231,xO "NoPlan" 63 62 54 239 247,xO "NoDeed" 75 74 66 255 263,xO "Laid" 87 86 78 271 279,xO "NotLaid" 99 98 90 287 295,xO "Late" 111 110 102 303 311,xO "Unknown" 123 122 114 319 327]
set_option maxRecDepth 100000 in
set_option maxHeartbeats 0 in
theorem HR:∀(w:JB)(o:QN),(oF (PySem.W.Fast.tw6613529449190102663 11 (some (.ref 6))) (PySem.W.Fast.tw10156331382660048174 (PySem.W.Fast.tw11892475500146522536 PySem.W.Fast.tw14364793385576792824) PySem.Challenge.pw_wordswap_k27_whole_names_kept w) 8074 (oG w o) (topStub PySem.Challenge.pw_wordswap_k27_whole_names_kept)).map (λS=>(lk PySem.W.Fast.tw4187177175401517315 PySem.Challenge.pw_wordswap_k27_whole_names_kept (view PySem.Challenge.pw_wordswap_k27_whole_names_kept kA) qE (xt PySem.Challenge.pw_wordswap_k27_whole_names_kept) w S.abs,(bs (jT S)).all id,os (jT S)))=some ((true,openGood (view PySem.Challenge.pw_wordswap_k27_whole_names_kept kA) qE),true,ov PySem.Challenge.pw_wordswap_k27_whole_names_kept):=λw o=>by kernel_rfl
set_option maxRecDepth 100000 in
set_option maxHeartbeats 0 in
theorem HU:PySem.W.OpenLaw.wellSaid PySem.Challenge.rw_wordswap_k27_whole_names_kept=true:=by kernel_rfl
end
end Ws
noncomputable section
set_option compiler.extract_closed false
set_option Elab.async false
set_option linter.all false
set_option maxRecDepth 100000
namespace L2
open PySem PySem.Spec PyProof.Rows
abbrev Key:=Sum Int Str
noncomputable def iV:Key->Iv->Bool
 | .inl k,v=>Iv.isInt k v
 | .inr x,v=>Iv.isStrOf x v
noncomputable def wd(w:JB):Key->Int
 | .inl k=>hashInt k
 | .inr x=>hashStr w x
theorem keyIs_shape:∀{k:Key}{v:Iv},iV k v=true->(∃i t,k=JY i/\v=Ph i t)\/(∃x t,k=QH x/\v=Qe x t)
 | .inl i,v,h=>by
   obtain⟨t,e⟩:=Iv.isInt_shape h;exact .inl ⟨i,t,rfl,e⟩
 | .inr x,v,h=>by
   obtain⟨t,e⟩:=Iv.isStrOf_shape h;exact .inr ⟨x,t,rfl,e⟩
theorem we(i:Int)(t:Tok):iV (.inl i) (.int i t)=true:=by simp[iV,Iv.isInt]
theorem wg(x:Str)(t:Tok):iV (.inr x) (.str x t)=true:=by simp[iV,Iv.isStrOf]
theorem wh(a b:Int):decide ((JY a:Key)=JY b)=(a == b):=by
 by_cases e:a=b
 .subst e;simp
 .have h:¬(JY a:Key)=JY b:=λq=>e (JY.inj q);rw[decide_eq_false h];exact(beq_eq_false_iff_ne.mpr e).symm
theorem wj(a b:Str):decide ((QH a:Key)=QH b)=decide (a=b):=by simp
theorem wm(a:Int)(b:Str):decide ((JY a:Key)=QH b)=false:=rfl
theorem wo(a:Str)(b:Int):decide ((QH a:Key)=JY b)=false:=rfl
noncomputable def O1(prog:IV)(w:JB):PySem.KeyKind prog w Key where
 is:=iV
 hash:=wd w
 inj:=λv a b ha hb=>by
  rcases keyIs_shape ha with⟨i,t,rfl,rfl⟩ | ⟨x,t,rfl,rfl⟩
  .rcases keyIs_shape hb with⟨j,u,rfl,e⟩ | ⟨y,u,rfl,e⟩
   .injection e with e1 _;rw[e1]
   .exact nomatch e
  .rcases keyIs_shape hb with⟨j,u,rfl,e⟩ | ⟨y,u,rfl,e⟩
   .exact nomatch e
   .injection e with e1 _;rw[e1]
 byValue:=λk v h=>by
  rcases keyIs_shape h with⟨i,t,rfl,rfl⟩ | ⟨x,t,rfl,rfl⟩<;>rfl
 pyHash:=λhv h=>by
  rcases keyIs_shape hv with⟨i,t,rfl,rfl⟩ | ⟨x,t,rfl,rfl⟩
  .exact wpAny_pyHash_int h
  .exact wpAny_pyHash_str h
 eqBool:=λhu hv h=>by
  rcases keyIs_shape hu with⟨i,t,rfl,rfl⟩ | ⟨x,t,rfl,rfl⟩
  .rcases keyIs_shape hv with⟨j,u,rfl,rfl⟩ | ⟨y,u,rfl,rfl⟩
   .rw[wh]at h;exact wpAny_eqBool_int h
   .rw[wm]at h;exact Ke.int_str i t y u _ _ _ _ h
  .rcases keyIs_shape hv with⟨j,u,rfl,rfl⟩ | ⟨y,u,rfl,rfl⟩
   .rw[wo]at h;exact Ke.str_int x t j u _ _ _ _ h
   .rw[wj]at h;exact wpAny_eqBool_str h
 «strs»:=λk x t v h=>by
  rcases keyIs_shape h with⟨i,u,rfl,e⟩ | ⟨y,u,rfl,e⟩
  .exact nomatch e
  .injection e with e1 _;subst e1;cases v<;>rfl
theorem wq(prog:IV)(w:JB)(i:Int)(t:Tok):(O1 prog w).is (.inl i) (.int i t)=true:=we i t
theorem wu(prog:IV)(w:JB)(x:Str)(t:Tok):(O1 prog w).is (.inr x) (.str x t)=true:=wg x t
inductive V where
 | non | bl (b:Bool) | int (i:Int) | str (x:Str) | byt (b:Array UInt8) | flt (b:UInt64) | ref (a:Addr) | ty (n:String)
 deriving DecidableEq
noncomputable def RelV:V->Iv->Prop
 | .non,u=>u=Km
 | .bl b,u=>u=Qk b
 | .int i,u=>∃t,u=Ph i t
 | .str x,u=>∃t,u=Qe x t
 | .byt b,u=>∃t,u=Iv.bytes b t
 | .flt b,u=>∃t,u=Qu b t
 | .ref a,u=>u=IS a
 | .ty n,u=>u=Iv.type n
abbrev aH:List V->List Iv->Prop:=Paired RelV
theorem aH.length{a:List V}{b:List Iv}(r:aH a b):a.length=b.length:=Paired.length r
theorem aH.get:∀{a:List V}{b:List Iv}{i:Nat}{x:V},aH a b->a[i]?=some x->∃u,b[i]?=some u/\RelV x u
 | _,_,_,_,.nil,e=>by simp at e
 | _,_,0,_,.cons r _,e=>by simp at e;subst e;exact⟨_,rfl,r⟩
 | _,_,i+1,x,.cons _ t,e=>by
   obtain⟨u,c,d⟩:=aH.get t (by simpa using e);exact⟨u,by simpa using c,d⟩
theorem aH.append:∀{a b:List V}{c ws:List Iv},aH a c->aH b ws->aH (a++b) (c++ws)
 | _,_,_,_,.nil,s=>s
 | _,_,_,_,.cons r t,s=>.cons r (aH.append t s)
theorem aH.take:∀{a:List V}{b:List Iv}(n:Nat),aH a b->aH (a.take n) (b.take n)
 | _,_,0,_=>.nil
 | _,_,_+1,.nil=>.nil
 | _,_,n+1,.cons r t=>.cons r (aH.take n t)
theorem aH.drop:∀{a:List V}{b:List Iv}(n:Nat),aH a b->aH (a.drop n) (b.drop n)
 | _,_,0,r=>r
 | _,_,_+1,.nil=>.nil
 | _,_,n+1,.cons _ t=>aH.drop n t
noncomputable def bH:Option V->Option Iv->Prop
 | some v,some u=>RelV v u
 | none,none=>True
 | _,_=>False
noncomputable def KV{a:Type}:List (a×V)->List (a×Iv)->Prop:=Paired λ(p:a×V) (q:a×Iv)=>p.1=q.1/\RelV p.2 q.2
noncomputable def kV:Key->V
 | .inl i=>.int i
 | .inr x=>.str x
inductive HO where
 | lst (xs:List V)
 | tup (xs:List V)
 | dK (kvs:List (Key×V)) | dT (kvs:List (List Key×V))
 | set (S:Int->Bool) (n:Nat)
 | ins (C dx:Addr) (fs:List (Str×V))
 | own (x:Addr)
 | xd (fs:List (Str×V))
 | met (f x:Addr)
 | rng (lo hi:Int)
 | frz (o:Obj) (u:HO)
 | tbl (ps:Array Iv)
 | ext (φ:Heap->Prop)
abbrev Hp:=Addr->Option HO
noncomputable def aI(H:Hp)(a:Addr)(o:HO):Hp:=λb=>if b=a then some o else H b
theorem C7{H:Hp}{a:Addr}{o:HO}:aI H a o a=some o:=by unfold aI;rw[if_pos rfl]
theorem aq{H:Hp}{a b:Addr}{o:HO}(h:b≠a):aI H a o b=H b:=by unfold aI;rw[if_neg h]
theorem wx{H:Hp}{a:Addr}{o u:HO}:aI (aI H a o) a u=aI H a u:=by
 funext b;unfold aI;split<;>rfl
theorem qG{H:Hp}{a b:Addr}{o u:HO}(h:H a=some o)(h':H b=some u)(d:o≠u):a≠b:=by
 intro e;subst e;rw[h]at h';exact d (Jo h')
theorem G5{H:Hp}{a b:Addr}{o:HO}(h:H a=some o)(h':H b=none):a≠b:=by
 intro e;subst e;rw[h]at h';cases h'
section
variable(P:IV)(w:JB)
noncomputable def aK(H:Hp)(h:Heap)(a:Addr):HO->Prop
 | .lst d=>d.length<=sizeLine/\∃(b:List Iv)(n:Nat),aH d b/\h.get? a=some { cls:=.type "list",data:=.seq b.toArray n }
 | .tup d=>d.length<=sizeLine/\∃b:List Iv,aH d b/\QU h a b.toArray
 | .dK c=>c.length<=sizeLine/\(a == sysModules)=false/\∃k,KV c k/\h.DictOf (O1 P w) a k
 | .dT c=>c.length<=sizeLine/\(a == sysModules)=false/\∃d:List (List Key×Addr×Iv),
  Paired (λ(p:List Key×V) (q:List Key×Addr×Iv)=>p.1=q.1/\H q.2.1=some (.tup (p.1.map kV))/\RelV p.2 q.2.2) c d/\
  ∃o l s,h.get? a=some o/\o.ExactDict/\o.data=.dict l s/\l.toList=d.map (entryOfKey (tupleKind (O1 P w)))/\(d.map (·.1)).Nodup
 | .set S n=>h.SetOf (intKind P w) a S n
 | .ins C i fs=>H i=some (.own a)/\fs.length<=1000/\i≠a/\h.get? a=some (KZ C i)/\
  ∃g,h.Ns1 i g/\(∀f,bH (fs.lookup f) (g f))/\NN g (fs.map (·.1))
 | .own _=>∃o,h.get? a=some o
 | .xd fs=>∃g,h.Ns1 a g/\∀f,bH (fs.lookup f) (g f)
 | .rng lo y=>∃t u v,h.get? a=some { cls:=.type "range",data:=.fields #[.int lo t,.int y u,.int 1 v] }
 | .frz o u=>h.get? a=some o/\aK H h a u
 | .tbl z=>h.get? a=some { cls:=.none,data:=.fields z }
 | .met f x=>h.get? a=some (PySem.W.methodObj (.ref f) (.ref x))
 | .ext j=>j h/\(∃o,h.get? a=some o)/\∀m r:Heap,j m->(∀o,m.get? a=some o->r.get? a=some o)->j r
def bI(H:Hp)(h:Heap):Prop:=∀a o,H a=some o->aK P w H h a o
end
section
variable{P:IV}{w:JB}{H H':Hp}{h h':Heap}{a:Addr}{o:HO}
theorem aK.lt(x:aK P w H h a o):a<h.objs.size:=by
 cases o with
 | lst c=>obtain⟨_,_,_,_,e⟩:=x;exact II e
 | tup c=>obtain⟨_,_,_,p⟩:=x;exact p.lt
 | dK b=>obtain⟨_,_,_,_,o,_,_,e,_⟩:=x;exact II e
 | dT b=>obtain⟨_,_,_,_,o,_,_,e,_⟩:=x;exact II e
 | set S n=>obtain⟨o,_,_,_,e,_⟩:=x;exact II e
 | ins C d fs=>obtain⟨_,_,_,e,_⟩:=x;exact II e
 | own y=>obtain⟨_,e⟩:=x;exact II e
 | xd fs=>obtain⟨_,⟨_,_,_,e,_⟩,_⟩:=x;exact II e
 | rng lo g=>obtain⟨_,_,_,e⟩:=x;exact II e
 | frz i u=>obtain⟨e,_⟩:=x;exact II e
 | tbl j=>exact II (show h.get? a=some _ from x)
 | met f y=>exact II (show h.get? a=some _ from x)
 | ext k=>obtain⟨_,⟨_,e⟩,_⟩:=x;exact II e
theorem Paired.mapP{d e:Type}{F G:d->e->Prop}:∀{c:List d}{l₂:List e},Paired F c l₂->(∀a b,F a b->G a b)->Paired G c l₂
 | _,_,.nil,_=>.nil
 | _,_,.cons r t,f=>.cons (f _ _ r) (Paired.mapP t f)
theorem aK.stay(x:aK P w H h a o)(k:∀b u,(b=a\/H b=some (.own a))->h.get? b=some u->h'.get? b=some u)
 (D:∀b,H b=some (.own a)->H' b=some (.own a)) (E:∀b m,H b=some (.tup m)->H' b=some (.tup m)):aK P w H' h' a o:=by
 induction o with
 | lst m=>obtain⟨z,l,n,r,e⟩:=x;exact⟨z,l,n,r,k _ _ (.inl rfl) e⟩
 | tup m=>obtain⟨z,l,r,g,e,c⟩:=x;exact⟨z,l,r,g,k _ _ (.inl rfl) e,c⟩
 | dK s=>obtain⟨z,y,G,r,g,i,j,e,c⟩:=x;exact⟨z,y,G,r,g,i,j,k _ _ (.inl rfl) e,c⟩
 | dT s=>
   obtain⟨z,y,m,r,g,i,j,e,c⟩:=x;exact⟨z,y,m,Paired.mapP r λp q z=>⟨z.1,E _ _ z.2.1,z.2.2⟩,g,i,j,k _ _ (.inl rfl) e,c⟩
 | set S n=>obtain⟨g,i,j,t,e,c⟩:=x;exact⟨g,i,j,t,k _ _ (.inl rfl) e,c⟩
 | ins C J fs=>
   obtain⟨d,z,ne,e,A,⟨B,i,j,I,c⟩,r⟩:=x;exact⟨D _ d,z,ne,k _ _ (.inl rfl) e,A,⟨B,i,j,k _ _ (.inr d) I,c⟩,r⟩
 | own y=>obtain⟨g,e⟩:=x;exact⟨g,k _ _ (.inl rfl) e⟩
 | xd fs=>obtain⟨A,⟨B,i,j,e,c⟩,r⟩:=x;exact⟨A,⟨B,i,j,k _ _ (.inl rfl) e,c⟩,r⟩
 | rng lo L=>obtain⟨t,u,v,e⟩:=x;exact⟨t,u,v,k _ _ (.inl rfl) e⟩
 | frz g u ih=>obtain⟨e,q⟩:=x;exact⟨k _ _ (.inl rfl) e,ih q⟩
 | tbl N=>
   have e:=x;exact k a _ (.inl rfl) e
 | met f y=>
   have e:=x;exact k a _ (.inl rfl) e
 | ext O=>obtain⟨p,⟨o,e⟩,st⟩:=x;exact⟨st _ _ p λo q=>k _ _ (.inl rfl) q,⟨o,k _ _ (.inl rfl) e⟩,st⟩
theorem bI.lt(x:bI P w H h)(e:H a=some o):a<h.objs.size:=(x a o e).lt
theorem bI.fresh(x:bI P w H h)(e:h.objs.size<=a):H a=none:=by
 cases q:H a with
 | none=>rfl
 | some u=>exact absurd (IZ (x.lt q) e) (Ks _)
theorem bI.kept(x:bI P w H h)(k:∀b u,h.get? b=some u->h'.get? b=some u):bI P w H h':=λa o e=>
 (x a o e).stay (λb u _ q=>k b u q) (λ_ q=>q) λ_ _ q=>q
theorem bI.laid(x:bI P w H h)(k:∀b u,h.get? b=some u->h'.get? b=some u)(g:h.objs.size<=a)(new:aK P w (aI H a o) h' a o):bI P w (aI H a o) h':=λb u e=>by
 have d:=x.fresh g;by_cases f:b=a
 .subst f;rw[C7]at e;cases e;exact new
 .rw[aq f]at e;exact(x b u e).stay (λc v _ q=>k c v q) (λc q=>by rw[aq (G5 q d)];exact q) λc i q=>by rw[aq (G5 q d)];exact q
end
def Rd(H:Hp)(a:Addr)(u:HO):Prop:=H a=some u\/∃o,H a=some (.frz o u)
theorem Rd.ok{P:IV}{w:JB}{H:Hp}{h:Heap}{a:Addr}{u:HO}(r:Rd H a u)(x:bI P w H h):aK P w H h a u:=by
 rcases r with r | ⟨o,r⟩
 .exact x a u r
 .obtain⟨_,q⟩:=x a _ r;exact q
noncomputable def jA:Option HO->Prop
 | some (.lst _)=>True
 | some (.dK _)=>True
 | some (.dT _)=>True
 | some (.set _ _)=>True
 | some (.ins _ _ _)=>True
 | some (.ext _)=>True
 | _=>False
section
variable{P:IV}{w:JB}{H:Hp}{h h':Heap}{x e:Addr}{o':HO}
theorem bI.write(ok:bI P w H h)(g:jA (H x))(he:e=x\/H e=some (.own x))(k:∀b u,b≠e->h.get? b=some u->h'.get? b=some u)(m:∃u,h'.get? e=some u)
 (new:aK P w (aI H x o') h' x o'):bI P w (aI H x o') h':=λb u q=>by
 have d:∀c y,H c=some (.own y)->c≠x:=λc y r z=>by subst z;rw[r]at g;exact g
 have f:∀c i,H c=some (.tup i)->c≠x:=λc i r z=>by subst z;rw[r]at g;exact g
 by_cases j:b=x
 .subst j;rw[C7]at q;cases q;exact new
 .rw[aq j]at q;by_cases a:b=e
  .have n:H b=some (.own x):=by
    rcases he with z | z
    .exact absurd (a.trans z) j
    .rw[a];exact z
   rw[q]at n;cases n;obtain⟨v,o⟩:=m;exact⟨v,by rw[a];exact o⟩
  .refine(ok b u q).stay (λc v l r=>k c v ?_ r) (λc r=>by rw[aq (d c b r)];exact r) λc i r=>by rw[aq (f c i r)];exact r
   rcases l with rfl | l
   .exact a
   .rintro rfl;rcases he with z | z
    .exact d c b l z
    .rw[l]at z;cases z;exact j rfl
end
structure Un(fs ex:List Addr)(H H':Hp)(h h':Heap):Prop where
 keep:∀b o,h.get? b=some o->H b=none->b∉fs->b∉ex->h'.get? b=some o
 slot:∀b o,h.get? b=some o->H b=none->b∈fs->b∉ex->∃sl,h'.get? b=some { o with slots:=sl }
 free:∀b o,h.get? b=some o->H b=none->b∉ex->H' b=none
 there:∀b o,h.get? b=some o->b∉ex->∃o',h'.get? b=some o'
 tups:∀b xs,H b=some (.tup xs)->H' b=some (.tup xs)
 frzs:∀b o u,H b=some (.frz o u)->H' b=some (.frz o u)
 tbls:∀b ps,H b=some (.tbl ps)->∃more,H' b=some (.tbl (ps++more))
section
variable{fs fs' ex ex':List Addr}{H H1 H2:Hp}{h h1 h2 h':Heap}{a x e:Addr}{o:HO}
theorem Un.any(u:Un fs ex H H1 h h1){b:Addr}{ob:Obj}(q:h.get? b=some ob)(n:H b=none)(c:b∉ex):∃f,h1.get? b=some { ob with slots:=f }:=by
 by_cases d:b∈fs
 .exact u.slot b ob q n d c
 .exact⟨ob.slots,u.keep b ob q n d c⟩
theorem Un.trans(a:Un fs ex H H1 h h1)(b:Un fs ex H1 H2 h1 h2):Un fs ex H H2 h h2 where
 keep:=λc ob q n hc hx=>b.keep c ob (a.keep c ob q n hc hx) (a.free c ob q n hx) hc hx
 slot:=λc ob q n hc hx=>by
  obtain⟨sl,e1⟩:=a.slot c ob q n hc hx;obtain⟨sl',e2⟩:=b.slot c _ e1 (a.free c ob q n hx) hc hx;exact⟨sl',e2⟩
 free:=λc ob q n hx=>by
  obtain⟨o',e1⟩:=a.there c ob q hx;exact b.free c o' e1 (a.free c ob q n hx) hx
 there:=λc ob q hx=>by
  obtain⟨o',e1⟩:=a.there c ob q hx;exact b.there c o' e1 hx
 tups:=λc xs q=>b.tups c xs (a.tups c xs q)
 frzs:=λc ob xs q=>b.frzs c ob xs (a.frzs c ob xs q)
 tbls:=λc ps q=>by
  obtain⟨m1,e1⟩:=a.tbls c ps q;obtain⟨m2,e2⟩:=b.tbls c _ e1;exact⟨m1++m2,by rw[e2,NO]⟩
theorem Un.kept(k:∀b u,h.get? b=some u->h'.get? b=some u):Un fs ex H H h h':=
 ⟨λb c q _ _ _=>k b c q,λb c q _ _ _=>⟨c.slots,k b c q⟩,λ_ _ _ n _=>n,λb c q _=>⟨c,k b c q⟩,λ_ _ q=>q,λ_ _ _ q=>q,λ_ d q=>⟨#[],by rw[q];simp⟩⟩
theorem Un.refl:Un fs ex H H h h:=Un.kept λ_ _ q=>q
theorem Un.laid(k:∀b u,h.get? b=some u->h'.get? b=some u)(hp:h.objs.size<=a)(hn:H a=none):Un fs ex H (aI H a o) h h' where
 keep:=λb u q _ _ _=>k b u q
 slot:=λb u q _ _ _=>⟨u.slots,k b u q⟩
 free:=λb u q n _=>by rw[aq (IL (IZ (II q) hp))];exact n
 there:=λb u q _=>⟨u,k b u q⟩
 tups:=λb xs q=>by rw[aq (G5 q hn)];exact q
 frzs:=λb u xs q=>by rw[aq (G5 q hn)];exact q
 tbls:=λb ps q=>⟨#[],by rw[aq (G5 q hn),q];simp⟩
theorem Un.write(d:jA (H x))(he:e=x\/H e=some (.own x))(k:∀b u,b≠e->h.get? b=some u->h'.get? b=some u)(f:∃u,h'.get? e=some u):Un fs ex H (aI H x o) h h':=by
 have i:∀b,H b=none->b≠x:=λb n z=>by subst z;rw[n]at d;exact d
 have j:∀b,H b=none->b≠e:=λb n z=>by
  subst z;rcases he with r | r
  .exact i b n r
  .rw[n]at r;cases r
 have g:∀b u,H b=some u->¬jA (some u)->b≠x:=λb u q l z=>by subst z;rw[q]at d;exact l d
 refine⟨λb u q n _ _=>k b u (j b n) q,λb u q n _ _=>⟨u.slots,k b u (j b n) q⟩,λb u q n _=>by rw[aq (i b n)];exact n,λb u q _=>?_,
  λb m q=>by rw[aq (g b _ q λz=>z)];exact q,λb u m q=>by rw[aq (g b _ q λz=>z)];exact q,λb p q=>⟨#[],by rw[aq (g b _ q λz=>z),q];simp⟩⟩
 by_cases c:b=e
 .subst c;exact f
 .exact⟨u,k b u c q⟩
theorem Un.mono(u:Un fs ex H H1 h h1)(hs:∀b∈fs,b∈fs')(f:∀b∈ex,b∈ex'):Un fs' ex' H H1 h h1:=
 ⟨λb d q n g c=>u.keep b d q n (λz=>g (hs b z)) λz=>c (f b z),λ_ _ q n _ c=>u.any q n λz=>c (f _ z),λb d q n c=>u.free b d q n λz=>c (f b z),λb d q c=>u.there b d q λz=>c (f b z),u.tups,u.frzs,u.tbls⟩
end
noncomputable def qH(h:Heap)(H:Hp):List Addr:=(Jj h.objs.size).filter λa=>(H a).isSome
noncomputable def iW(h:Heap)(H:Hp):Heap:=PySem.W.hideAll h (qH h H)
theorem wy(h:Heap)(H:Hp):(iW h H).objs.size=h.objs.size:=PySem.W.hideAll_size _ _
theorem wz{h:Heap}{H:Hp}{b:Addr}{o:Obj}(e:h.get? b=some o)(n:H b=none):(iW h H).get? b=some o:=
 PySem.W.hideAll_get _ e λa=>by
  have q:=(Ji.mp a).2;rw[n]at q;simp at q
theorem wA{h:Heap}{H:Hp}{b:Addr}{o:Obj}(e:(iW h H).get? b=some o):h.get? b=some o/\H b=none:=by
 have a:=PySem.W.of_hideAll _ e;refine⟨a,?_⟩;cases q:H b with
 | none=>rfl
 | some x=>
   have c:b∈qH h H:=Ji.mpr ⟨JG.mpr (II a),by simp[q]⟩;have z:(iW h H).get? b=none:=PySem.W.hideAll_none _ c;rw[z]at e;cases e
structure Mod(K:Iw)(mg:Str->Option Iv)(base:Heap):Prop where
 kin:K.In base
 glob:base.Ns mainGlobals mg
 blt:∃mb,base.Ns builtinsNs mb/\∀x:Str,x≠"__name__"->mb x=bootBuiltins x
 nolimit:base.NoLimit
structure Cx where
 prog:IV
 w:JB
 K:Iw
 mg:Str->Option Iv
 base:Heap
 A:Jx
 N:List Str
 s₀:IA
 H₀:Hp
 env:Env
 outer:List Env
 stack:List Env
 ex:List Addr
 fn:Str->Bool
 calm:Bool
 pn:List (Addr×Obj)
 xe:Iv->IA->Prop
noncomputable def frs(l:List Env):List Addr:=l.filterMap (·.frame)
abbrev Cx.fs(X:Cx):List Addr:=frs X.outer
def iX(a:Oy)(x:Str):Prop:=a.names.lookup x=some .local\/a.names.lookup x=some .cell\/a.names.lookup x=some .free
def Loc(a:Oy)(x:Str):Prop:=a.names.lookup x=some .local\/a.names.lookup x=some .cell
def wB(a:Env)(h:Heap)(m:Str->Option Iv)(x:Str)(u:Iv):Prop:=
 (a.kindOf x=some .local/\m x=some u)\/((a.kindOf x=some .cell\/a.kindOf x=some .free)/\∃c,a.cells.lookup x=some c/\h.IsCell c (some u))
structure Cx.Ok(X:Cx):Prop where
 mod:Mod X.K X.mg X.base
 kind:X.env.scope.kind=.function
 glob:X.env.globals=mainGlobals
 blt:X.env.builtins=builtinsNs
 above:X.s₀.heap.objs.size<=X.env.locals
 inj:∀x y c,X.env.cells.lookup x=some c->X.env.cells.lookup y=some c->x=y
 has:∀x,(X.env.kindOf x=some .cell\/X.env.kindOf x=some .free)->∃c,X.env.cells.lookup x=some c
 cab:∀x c,X.fn x=true->X.env.cells.lookup x=some c->X.s₀.heap.objs.size<=c
 hd:X.calm=true->X.A.handled=none
 frames:X.A.frames=some X.stack
 stk:X.stack=X.outer\/(X.stack=X.env::X.outer/\X.env.frame=some X.env.locals)
 exf:∀b∈X.ex,b≠X.env.locals/\∀x c,X.env.cells.lookup x=some c->c≠b
 bs:∀b o,X.base.get? b=some o->X.s₀.heap.get? b=some o/\X.H₀ b=none
 bsz:X.base.objs.size<=X.s₀.heap.objs.size
 noex:∀b o,X.base.get? b=some o->b∉X.ex
 exfs:∀b∈X.ex,b∉X.fs
 funs:X.s₀.heap.FunFrames X.base X.outer
 frf:∀b∈X.fs,X.H₀ b=none
structure Inv(X:Cx)(pins:List (Addr×Obj))(σ:List (Option V))(H:Hp)(s:IA):Prop where
 ok:X.Ok
 os:s.os=X.s₀.os
 bare:Oz s.gens
 base:Un X.fs X.ex X.H₀ H X.s₀.heap s.heap
 loc:∃m,s.heap.Ns X.env.locals m/\∀(i:Nat)(x:Str)(v:V),X.N[i]?=some x->σ[i]?=some (some v)->iX X.env.scope x->∃u,RelV v u/\wB X.env s.heap m x u
 cell:∀x c,X.env.cells.lookup x=some c->∃v,s.heap.IsCell c v
 free:H X.env.locals=none
 freeC:∀x c,X.env.cells.lookup x=some c->H c=none
 pin:∀p∈X.pn++pins,s.heap.get? p.1=some p.2/\H p.1=none/\p.1≠X.env.locals/\p.1∉X.fs/\∀v,p.2.data≠.cell v
 hok:bI X.prog X.w H s.heap
 len:σ.length=X.N.length
section
variable{X:Cx}{pins:List (Addr×Obj)}{σ:List (Option V)}{H H':Hp}{s:IA}{h':Heap}
theorem Cx.Ok.nofr(ok:X.Ok){b:Addr}{o:Obj}(e:X.base.get? b=some o):b∉X.fs:=λa=>by
 have:=(ok.funs.mem a).1;rw[e]at this;cases this
theorem Inv.bs(I:Inv X pins σ H s):∀b o,X.base.get? b=some o->s.heap.get? b=some o/\H b=none:=λb o e=>
 ⟨I.base.keep b o (I.ok.bs b o e).1 (I.ok.bs b o e).2 (I.ok.nofr e) (I.ok.noex b o e),I.base.free b o (I.ok.bs b o e).1 (I.ok.bs b o e).2 (I.ok.noex b o e)⟩
theorem Inv.bk(I:Inv X pins σ H s):∀b o,X.base.get? b=some o->s.heap.get? b=some o:=λb o e=>(I.bs b o e).1
theorem Inv.mod(I:Inv X pins σ H s):Mod X.K X.mg X.base:=I.ok.mod
theorem Inv.kIn(I:Inv X pins σ H s):X.K.In s.heap:=I.ok.mod.kin.keeps I.bk
theorem Inv.lt(I:Inv X pins σ H s):X.env.locals<s.heap.objs.size:=let⟨_,a,_⟩:=I.loc;a.lt
theorem Inv.sz(I:Inv X pins σ H s):X.s₀.heap.objs.size<=s.heap.objs.size:=Jd I.ok.above (NP I.lt)
theorem Inv.nofs(I:Inv X pins σ H s){a:Addr}(h:s.heap.objs.size<=a):a∉X.fs:=λb=>by
 obtain⟨_,o,c,_⟩:=I.ok.funs.mem b;exact absurd (IZ (II c) (Jd I.sz h)) (Ks _)
theorem Inv.cne(I:Inv X pins σ H s):∀x c,X.env.cells.lookup x=some c->c≠X.env.locals:=λx c e z=>by
 obtain⟨v,o,d,f⟩:=I.cell x c e;obtain⟨m,⟨g,h,i,a,b,_⟩,_⟩:=I.loc;rw[z,a]at d;cases d;rw[b]at f;cases f
theorem Inv.funs(I:Inv X pins σ H s):s.heap.FunFrames X.base X.outer:=by
 have all:∀(l:List Env),(∀b∈frs l,b∈X.fs)->X.s₀.heap.FunFrames X.base l->s.heap.FunFrames X.base l:=by
  intro l;induction l with
  | nil=>intro _ _;trivial
  | cons g r ih=>
    intro f h;obtain⟨i,⟨L,o,a,j,k,m⟩,n⟩:=h;have c:=f L (by unfold frs;rw[Kk,a];exact IE);obtain⟨p,e⟩:=I.base.slot L o k (I.ok.frf L c) c λz=>I.ok.exfs L z c;exact⟨i,⟨L,_,a,j,e,m⟩,ih (λb d=>f b (by unfold frs;rw[Kk,a];exact IF _ d)) n⟩
 exact all _ (λ_ d=>d) I.ok.funs
theorem Inv.stack(I:Inv X pins σ H s):s.heap.FunFrames X.base X.stack:=by
 rcases I.ok.stk with e | ⟨e,a⟩
 .rw[e];exact I.funs
 .rw[e];obtain⟨m,b,_⟩:=I.loc;refine .cons (by rw[I.ok.kind];decide) a b ?_ I.funs;exact Heap.get?_none_of_le (Jd I.ok.bsz I.ok.above)
theorem Inv.stkSub(I:Inv X pins σ H s):∀b∈frs X.stack,b∈X.env.locals::X.fs:=λb a=>by
 rcases I.ok.stk with e | ⟨e,c⟩
 .rw[e]at a;exact IF _ a
 .rw[e]at a;unfold frs at a;rw[Kk,c]at a;exact a
theorem Inv.stkFree(I:Inv X pins σ H s):∀b∈frs X.stack,H b=none:=λb a=>by
 rcases IH.mp (I.stkSub b a)with e | a
 .rw[e];exact I.free
 .obtain⟨_,o,c,_⟩:=I.ok.funs.mem a;exact I.base.free b o c (I.ok.frf b a) λz=>I.ok.exfs b z a
theorem Inv.step{g':Array PN}{t':Nat}{d':Drawn}{ch:List Addr}(I:Inv X pins σ H s)
 (f:∀b∈ch,(b∈X.ex\/X.s₀.heap.objs.size<=b)/\b≠X.env.locals/\(∀x c,X.env.cells.lookup x=some c->c≠b)/\∀p∈X.pn++pins,p.1≠b)
 (keep:∀b o,b≠X.env.locals->b∉X.fs->b∉ch->s.heap.get? b=some o->H b=none->h'.get? b=some o)
 (slot:∀b o,b≠X.env.locals->b∈X.fs->b∉ch->s.heap.get? b=some o->H b=none->∃U,h'.get? b=some { o with slots:=U }) (free:∀b o,b∉ch->s.heap.get? b=some o->H b=none->H' b=none)
 (B:∀b o,b∉ch->s.heap.get? b=some o->∃E,h'.get? b=some E)
 (G:∀b A,H b=some (.tup A)->H' b=some (.tup A)) (J:∀b o u,H b=some (.frz o u)->H' b=some (.frz o u)) (L:∀b T,H b=some (.tbl T)->∃N,H' b=some (.tbl (T++N)))
 (ns:∀m,s.heap.Ns X.env.locals m->h'.Ns X.env.locals m) (Y:bI X.prog X.w H' h') (hg:Oz g') :
 Inv X pins σ H' { s with heap:=h',gens:=g',drawn:=d',toks:=t' }:=by
 have O:∀b o,X.s₀.heap.get? b=some o->b≠_:=λb o e=>IL (IZ (II e) I.ok.above);have j:∀b o,X.s₀.heap.get? b=some o->b∉X.ex->b∉ch:=λb o e a C=>by
  rcases(f b C).1 with z | z
  .exact a z
  .exact absurd (IZ (II e) z) (Ks _)
 have g:∀x c,X.env.cells.lookup x=some c->∀v,s.heap.IsCell c v->h'.IsCell c v:=λx c e v hq=>by
  obtain⟨o,D,hd⟩:=hq;have h:=λz=>(f c z).2.2.1 x c e rfl;by_cases hc:c∈X.fs
  .obtain⟨U,q⟩:=slot c o (I.cne x c e) hc h D (I.freeC x c e);exact⟨_,q,hd⟩
  .exact⟨o,keep c o (I.cne x c e) hc h D (I.freeC x c e),hd⟩
 refine⟨I.ok,I.os,hg,⟨λb o e n C a=>?_,λb o e n C a=>?_,λb o e n a=>?_,λb o e a=>?_,λb A e=>G b A (I.base.tups b A e),λb o A e=>J b o A (I.base.frzs b o A e),λb T e=>?_⟩,?_,λx c e=>?_,?_,λx c e=>?_,λp hp=>?_,Y,I.len⟩
 .exact keep b o (O b o e) C (j b o e a) (I.base.keep b o e n C a) (I.base.free b o e n a)
 .obtain⟨U,y⟩:=I.base.slot b o e n C a;obtain⟨a1,Q⟩:=slot b _ (O b o e) C (j b o e a) y (I.base.free b o e n a);exact⟨a1,Q⟩
 .obtain⟨E,y⟩:=I.base.there b o e a;exact free b E (j b o e a) y (I.base.free b o e n a)
 .obtain⟨E,y⟩:=I.base.there b o e a;exact B b E (j b o e a) y
 .obtain⟨m1,y⟩:=I.base.tbls b T e;obtain⟨m2,Q⟩:=L b _ y;exact⟨m1++m2,by rw[Q,NO]⟩
 .obtain⟨m,hn,hl⟩:=I.loc;refine⟨m,ns m hn,λi x v y Q e3=>?_⟩;obtain⟨u,r,l⟩:=hl i x v y Q e3;refine⟨u,r,?_⟩;rcases l with l | ⟨k,c,e,z⟩
  .exact .inl l
  .exact .inr ⟨k,c,e,g x c e _ z⟩
 .obtain⟨v,z⟩:=I.cell x c e;exact⟨v,g x c e v z⟩
 .obtain⟨m,⟨o,_,_,D,_⟩,_⟩:=I.loc;exact free _ o (λz=>(f _ z).2.1 rfl) D I.free
 .obtain⟨v,o,D,hd⟩:=I.cell x c e;exact free c o (λz=>(f c z).2.2.1 x c e rfl) D (I.freeC x c e)
 .obtain⟨e,n,ne,nf,d⟩:=I.pin p hp;have h:=λz=>(f p.1 z).2.2.2 p hp rfl;exact⟨keep p.1 p.2 ne nf h e n,free p.1 p.2 h e n,ne,nf,d⟩
theorem Inv.un{t':Nat}(I:Inv X pins σ H s)(u:Un X.fs [] H H' s.heap h')(c:bI X.prog X.w H' h'):Inv X pins σ H' { s with heap:=h',toks:=t' }:=by
 obtain⟨m,⟨o,q,v,j,r⟩,_⟩:=id I.loc;obtain⟨x,k⟩:=u.any j I.free (by simp);exact I.step (g':=_) (ch:=[]) nofun (λb o _ d _ e n=>u.keep b o e n d nofun) (λb o _ d _ e n=>u.slot b o e n d nofun) (λb o _ e n=>u.free b o e n nofun) (λb o _ e=>u.there b o e nofun) u.tups u.frzs u.tbls (λy l=>by
  obtain⟨z,f,g,a,p⟩:=l;rw[j]at a;cases a;exact⟨_,f,g,k,p⟩) c I.bare
theorem Inv.call{g':Array PN}{t':Nat}{d':Drawn}{ch:List Addr}(I:Inv X pins σ H s)(u:Un (frs X.stack) ch H H' s.heap h')(g:bI X.prog X.w H' h')(y:Oz g')
 (d:∀b∈ch,(b∈X.ex\/X.s₀.heap.objs.size<=b)/\b≠X.env.locals/\(∀x c,X.env.cells.lookup x=some c->c≠b)/\∀p∈X.pn++pins,p.1≠b) :
 Inv X pins σ H' { s with heap:=h',gens:=g',drawn:=d',toks:=t' }:=by
 obtain⟨m,⟨o,D,E,v,r⟩,_⟩:=id I.loc;obtain⟨G,h⟩:=u.any v I.free λz=>(d _ z).2.1 rfl;exact I.step d (λb o h A a e n=>u.keep b o e n (λz=>(IH.mp (I.stkSub b z)).elim h A) a) (λb o _ _ a e n=>u.any e n a) (λb o a e n=>u.free b o e n a) (λb o a e=>u.there b o e a) u.tups u.frzs u.tbls (λJ B=>by
  obtain⟨L,i,j,f,C⟩:=B;rw[v]at f;cases f;exact⟨_,i,j,h,C⟩) g y
theorem Inv.turned{t':Nat}{a:Addr}(I:Inv X pins σ H s)(k:∀b o,b≠a->s.heap.get? b=some o->h'.get? b=some o)(j:H a=none)(g:a≠X.env.locals)
 (l:a∈X.ex\/X.s₀.heap.objs.size<=a) (w:∀x c,X.env.cells.lookup x=some c->c≠a) (y:∀p∈X.pn++pins,p.1≠a):Inv X pins σ H { s with heap:=h',toks:=t' }:=by
 have f:∀b u,H b=some u->b≠a:=λb u e z=>by rw[z,j]at e;cases e
 refine I.step (ch:=[a]) (λb A=>?_) (λb o _ _ d e _=>k b o (λz=>d (by simp[z])) e) (λb o _ _ d e _=>⟨o.slots,k b o (λz=>d (by simp[z])) e⟩) (λ_ _ _ _ n=>n)
  (λb o d e=>⟨o,k b o (λz=>d (by simp[z])) e⟩) (λ_ _ e=>e) (λ_ _ _ e=>e) (λb G e=>⟨#[],by rw[e];simp⟩) (λm B=>?_) (λb u e=>?_) I.bare
 .have e:b=a:=by simpa using A
  subst e;exact⟨l,g,w,y⟩
 .obtain⟨o,C,D,E,r⟩:=B;exact⟨o,C,D,k _ o (KP g) E,r⟩
 .refine(I.hok b u e).stay (λc v d q=>k c v ?_ q) (λ_ q=>q) λ_ _ q=>q;rcases d with z | z
  .rw[z];exact f b u e
  .exact f c _ z
theorem Inv.tok(I:Inv X pins σ H s)(t:Nat):Inv X pins σ H { s with toks:=t }:=I.un Un.refl I.hok
theorem Inv.kept{t':Nat}(I:Inv X pins σ H s)(k:∀b u,s.heap.get? b=some u->h'.get? b=some u):Inv X pins σ H { s with heap:=h',toks:=t' }:=I.un (Un.kept k) (I.hok.kept k)
theorem Inv.laid{a:Addr}{o:HO}{t':Nat}(I:Inv X pins σ H s)(k:∀b u,s.heap.get? b=some u->h'.get? b=some u)(c:s.heap.objs.size<=a)(new:aK X.prog X.w (aI H a o) h' a o) :
 Inv X pins σ (aI H a o) { s with heap:=h',toks:=t' }:=I.un (Un.laid k c (I.hok.fresh c)) (I.hok.laid k c new)
theorem Inv.write{x e:Addr}{o:HO}{t':Nat}(I:Inv X pins σ H s)(c:jA (H x))(he:e=x\/H e=some (.own x))(k:∀b u,b≠e->s.heap.get? b=some u->h'.get? b=some u)(a:∃u,h'.get? e=some u)
 (new:aK X.prog X.w (aI H x o) h' x o):Inv X pins σ (aI H x o) { s with heap:=h',toks:=t' }:=I.un (Un.write c he k a) (I.hok.write c he k a new)
theorem Inv.pins_of{a:List (Addr×Obj)}(I:Inv X pins σ H s)(h:∀p∈a,s.heap.get? p.1=some p.2/\H p.1=none/\p.1≠X.env.locals/\p.1∉X.fs/\∀v,p.2.data≠.cell v):Inv X a σ H s:=
 ⟨I.ok,I.os,I.bare,I.base,I.loc,I.cell,I.free,I.freeC,λp b=>(Jm.mp b).elim (λz=>I.pin p (JR _ z)) (h p),I.hok,I.len⟩
theorem qI{N:List Str}(c:N.Nodup){i j:Nat}{x:Str}(a:N[i]?=some x)(b:N[j]?=some x):i=j:=by
 obtain⟨f,d⟩:=IQ.mp a;obtain⟨g,e⟩:=IQ.mp b;exact(Lu c).mp (d.trans e.symm)
theorem wC{M:QR}{A:Jx}{E:Iv->IA->Prop}{i:Nat}{x:Str}{v:V}{u:Iv}{Q:Unit->IA->Prop}(I:Inv X pins σ H s)(hN:X.N.Nodup)(Y:X.N[i]?=some x)(C:Loc X.env.scope x)(r:RelV v u)
 (h:∀s',Inv X pins (σ.set i (some v)) H s'->(∃a,JS a s.heap s'.heap/\(a=X.env.locals\/X.env.cells.lookup x=some a))->Q () s') (hf:X.fn x=true\/X.env.scope.names.lookup x=some .local:=by first | exact .inl rfl | exact .inr rfl | assumption):wpAny M A (storeName X.env x u) Q E s:=by
 obtain⟨m,hn,hl⟩:=id I.loc;have a0:(X.env.scope.kind == .class||(X.env.scope.kind == .module&&X.env.locals != X.env.globals))=false:=by rw[I.ok.kind];rfl
 have J:i<σ.length:=by rw[I.len];exact(IQ.mp Y).1
 have cne:=I.cne;have g:∀{a:Addr}{h':Heap},(∃o,s.heap.get? a=some o/\H a=none)->JS a _ h'->bI _ X.w H h':=λ{a h'} ha f b ob e=>by
  obtain⟨_,_,D⟩:=ha;refine(I.hok b ob e).stay (λc w' B q=>(f.2 c ?_).trans q) (λ_ q=>q) λ_ _ q=>q;rintro rfl;rcases B with rfl | B
  .rw[D]at e;cases e
  .rw[D]at B;cases B
 rcases C with L | L
 .refine wpAny_storeName_local L hn (λh' a9 f=>?_) a0;obtain⟨oL,_,_,b0,_⟩:=id hn;refine h _ ⟨I.ok,I.os,I.bare,⟨λb o e n O C=>?_,λb o e n O C=>?_,I.base.free,λb o e C=>?_,I.base.tups,I.base.frzs,I.base.tbls⟩,⟨_,a9,λj y v' l G e3=>?_⟩,λy c e=>?_,I.free,I.freeC,λp hp=>?_,g ⟨oL,b0,I.free⟩ f,by simpa using I.len⟩ ⟨_,f,.inl rfl⟩
  .exact(f.2 b (IL (IZ (II e) I.ok.above))).trans (I.base.keep b o e n O C)
  .obtain⟨sl,l⟩:=I.base.slot b o e n O C;exact⟨sl,(f.2 b (IL (IZ (II e) I.ok.above))).trans l⟩
  .obtain⟨o',l⟩:=I.base.there b o e C;exact⟨o',(f.2 b (IL (IZ (II e) I.ok.above))).trans l⟩
  .by_cases T:j=i
   .subst T;rw[Y]at l;cases l;rw[OV J]at G;cases G;exact⟨u,r,.inl ⟨L,by simp⟩⟩
   .rw[Ni (KP T)]at G;obtain⟨u',r',q⟩:=hl j y v' l G e3;refine⟨u',r',?_⟩;rcases q with⟨k,e⟩ | ⟨k,c,e,z⟩
    .refine .inl ⟨k,?_⟩;have:y≠x:=λe=>T (qI hN l (e ▸ Y));simp[this,e]
    .exact .inr ⟨k,c,e,z.sameBut f (cne y c e)⟩
  .obtain⟨w',z⟩:=I.cell y c e;exact⟨w',z.sameBut f (cne y c e)⟩
  .obtain⟨e,n,ne,nf,d⟩:=I.pin p hp;exact⟨(f.2 p.1 ne).trans e,n,ne,nf,d⟩
 .have U:X.fn x=true:=by
   rcases hf with z | z
   .exact z
   .rw[z]at L;cases L
  obtain⟨c,B⟩:=I.ok.has x (.inl L);obtain⟨w',z⟩:=I.cell x c B;refine wpAny_storeName_cell I.ok.kind L B z (λh' a1 f=>?_);obtain⟨oc,a2,a3⟩:=id z;refine h { s with heap:=h' } ⟨I.ok,I.os,I.bare,⟨λb o e n O C=>?_,λb o e n O C=>?_,I.base.free,λb o e C=>?_,I.base.tups,I.base.frzs,I.base.tbls⟩,⟨m,hn.sameBut f (KP (cne x c B)),λj y v' l G e3=>?_⟩,λy c' e=>?_,I.free,I.freeC,λp hp=>?_,g ⟨oc,a2,I.freeC x c B⟩ f,by simpa using I.len⟩ ⟨c,f,.inr B⟩
  .exact(f.2 b (IL (IZ (II e) (I.ok.cab x c U B)))).trans (I.base.keep b o e n O C)
  .obtain⟨sl,l⟩:=I.base.slot b o e n O C;exact⟨sl,(f.2 b (IL (IZ (II e) (I.ok.cab x c U B)))).trans l⟩
  .obtain⟨o',l⟩:=I.base.there b o e C;exact⟨o',(f.2 b (IL (IZ (II e) (I.ok.cab x c U B)))).trans l⟩
  .by_cases T:j=i
   .subst T;rw[Y]at l;cases l;rw[OV J]at G;cases G;exact⟨u,r,.inr ⟨.inl L,c,B,a1⟩⟩
   .rw[Ni (KP T)]at G;obtain⟨u',r',q⟩:=hl j y v' l G e3;refine⟨u',r',?_⟩;rcases q with q | ⟨k,c',e,z'⟩
    .exact .inl q
    .refine .inr ⟨k,c',e,z'.sameBut f ?_⟩;rintro rfl;exact T (qI hN l (I.ok.inj _ _ _ e B ▸ Y))
  .by_cases a4:c'=c
   .subst a4;exact⟨_,a1⟩
   .obtain⟨w2,z2⟩:=I.cell y c' e;exact⟨w2,z2.sameBut f a4⟩
  .obtain⟨e,n,ne,nf,d⟩:=I.pin p hp;refine⟨(f.2 p.1 ?_).trans e,n,ne,nf,d⟩;intro q;rw[q,a2]at e;have q':=Jo e;exact d w' (by rw[<-q'];exact a3)
theorem mn{M:QR}{A:Jx}{E:Iv->IA->Prop}{i:Nat}{x:Str}{v:V}{u:Iv}{Q:Unit->IA->Prop}(I:Inv X pins σ H s)(b:X.N.Nodup)(c:X.N[i]?=some x)(d:Loc X.env.scope x)(r:RelV v u)
 (h:∀a,Inv X pins (σ.set i (some v)) H a->Q () a) (e:X.fn x=true\/X.env.scope.names.lookup x=some .local:=by first | exact .inl rfl | exact .inr rfl | assumption):wpAny M A (storeName X.env x u) Q E s:=
 wC I b c d r (λa f _=>h a f) e
theorem Inv.call'{a:IA}{ch:List Addr}(I:Inv X pins σ H s)(g:a.os=s.os)(u:Un (frs X.stack) ch H H' s.heap a.heap)(d:bI X.prog X.w H' a.heap)(h:Oz a.gens)
 (f:∀b∈ch,(b∈X.ex\/X.s₀.heap.objs.size<=b)/\b≠X.env.locals/\(∀x c,X.env.cells.lookup x=some c->c≠b)/\∀p∈X.pn++pins,p.1≠b):Inv X pins σ H' a:=by
 obtain⟨h',i,j,k,l⟩:=a;have e:=g;subst e;exact I.call u d h f
end
abbrev XK:=Iv->Option Addr->Hp->Prop
abbrev St:=List (Option V)
abbrev VK:=V->Hp->Prop
abbrev TE:=St->Hp->VK->Prop
abbrev TT:=St->Hp->(Bool->Hp->Prop)->Prop
abbrev TA:=St->Hp->(List V->Hp->Prop)->Prop
structure u5 where
 nx:St->Hp->Prop
 rt:VK
 bk:St->Hp->Prop:=λ_ _=>False
 ct:St->Hp->Prop:=λ_ _=>False
abbrev TS:=u5->St->Hp->Prop
inductive EP (X:Cx) (pins:List (Addr×Obj)) (σ:St) (Q:VK) (u:Iv) (s':IA):Prop
 | mk (v) (H') (h0:Inv X pins σ H' s') (h1:RelV v u) (h2:Q v H'):EP X pins σ Q u s'
inductive TP (X:Cx) (pins:List (Addr×Obj)) (σ:St) (Q:Bool->Hp->Prop) (b:Bool) (s':IA):Prop
 | mk (H') (h0:Inv X pins σ H' s') (h1:Q b H'):TP X pins σ Q b s'
inductive AP (X:Cx) (pins:List (Addr×Obj)) (σ:St) (Q:List V->Hp->Prop) (us:List Iv) (s':IA):Prop
 | mk (vs) (H') (h0:Inv X pins σ H' s') (h1:aH vs us) (h2:Q vs H'):AP X pins σ Q us s'
def SP(X:Cx)(b:List (Addr×Obj))(D:u5)(f:Flow)(d:IA):Prop:=
 match f with
 | .next=>∃a c,Inv X b a c d/\D.nx a c
 | .brk=>∃a c,Inv X b a c d/\D.bk a c
 | .cont=>∃a c,Inv X b a c d/\D.ct a c
 | .ret u=>∃v a c,Inv X b a c d/\RelV v u/\D.rt v c
def PE(X:Cx)(e:Expr)(t:TE):Prop:=
 ∀(a:List (Addr×Obj))(s:IA)(σ:St)(H:Hp)(Q:VK),Inv X a σ H s->t σ H Q->wpAny (model X.prog X.w) X.A (eval e X.env) (EP X a σ Q) X.xe s
def PT(X:Cx)(e:Expr)(t:TT):Prop:=
 ∀(a:List (Addr×Obj))(s:IA)(σ:St)(H:Hp)(Q:Bool->Hp->Prop),Inv X a σ H s->t σ H Q->wpAny (model X.prog X.w) X.A (isTrue e X.env (eval e X.env)) (TP X a σ Q) X.xe s
def PW(X:Cx)(e:Expr)(t:TT):Prop:=
 ∀(whole:Sem Iv)(a:List (Addr×Obj))(s:IA)(σ:St)(H:Hp)(Q:Bool->Hp->Prop),Inv X a σ H s->t σ H Q->wpAny (model X.prog X.w) X.A (isTrue e X.env whole) (TP X a σ Q) X.xe s
theorem PW.pt{X:Cx}{e:Expr}{t:TT}(h:PW X e t):PT X e t:=h _
def PA(X:Cx)(es:List Expr)(t:TA):Prop:=
 ∀(pos:Pos)(a:List (Addr×Obj))(s:IA)(σ:St)(H:Hp)(Q:List V->Hp->Prop),Inv X a σ H s->t σ H Q->wpAny (model X.prog X.w) X.A (spliced (backTo pos (starEach es X.env))) (AP X a σ Q) X.xe s
def PS(X:Cx)(st:Stmt)(t:TS):Prop:=
 ∀(a:List (Addr×Obj))(s:IA)(σ:St)(H:Hp)(D:u5),Inv X a σ H s->t D σ H->wpAny (model X.prog X.w) X.A (exec st X.env) (SP X a D) X.xe s
def cf(X:Cx)(st:List Stmt)(t:TS):Prop:=
 ∀(a:List (Addr×Obj))(s:IA)(σ:St)(H:Hp)(D:u5),Inv X a σ H s->t D σ H->wpAny (model X.prog X.w) X.A (execs st X.env) (SP X a D) X.xe s
theorem aL{b:Type}{t:Sem b}{Q c:b->IA->Prop}{M:QR}{A:Jx}{E:Iv->IA->Prop}{s:IA}(h:wpAny M A t Q E s)(d:∀a s,Q a s->c a s):wpAny M A t c E s:=Jt h d λ_ _ x=>x
section
variable{X:Cx}
noncomputable def fU(i:Nat):TE:=λa H Q=>∃v,a[i]?=some (some v)/\Q v H
noncomputable def tC(v:V):TE:=λ_ H Q=>Q v H
theorem wD{i:Nat}{x:Str}{pos:Pos}(k:X.N[i]?=some x)(n:iX X.env.scope x)(f:(x == ("__debug__" : Str))=false:=by decide)(g:(x == ("__classdict__" : Str))=false:=by decide):PE X (.Name x pos) (fU i):=by
 intro d s o H Q I h;obtain⟨v,e,h⟩:=h;obtain⟨m,p,q⟩:=I.loc;obtain⟨u,r,l⟩:=q i x v k e n;have fin:EP X d o Q u s:=⟨v,H,I,r,h⟩;rcases l with⟨b,w⟩ | ⟨b,c,j,a⟩
 .exact wpAny_Name (wpAny_loadName_local I.ok.kind b p w fin) f
 .rcases b with b | b
  .exact wpAny_Name (wpAny_loadName_cell I.ok.kind b j a fin) f
  .exact wpAny_Name (wpAny_loadName_free I.ok.kind b j a fin g) f
theorem qJ{i j pos}:PE X (.Constant (.int i) j pos) (tC (.int i)):=λ_ _ _ H _ I h=>wpAny_Constant_int ⟨.int i,H,I.tok _,⟨_,rfl⟩,h⟩
theorem wF{b j pos}:PE X (.Constant (.bool b) j pos) (tC (.bl b)):=λ_ _ _ H _ I h=>Constant_bool ⟨.bl b,H,I,rfl,h⟩
theorem wG{j pos}:PE X (.Constant .none j pos) (tC .non):=λ_ _ _ H _ I h=>Qf ⟨.non,H,I,rfl,h⟩
theorem wH{x j pos}:PE X (.Constant (.str x) j pos) (tC (.str x)):=λ_ _ _ H _ I h=>Calls.Constant_str ⟨.str x,H,I.tok _,⟨_,rfl⟩,h⟩
def Gl(X:Cx)(x:Str):Prop:=X.env.kindOf x=some .globalImplicit
theorem u6{E:Iv->IA->Prop}{a:List (Addr×Obj)}{s:IA}{σ:St}{H:Hp}{x:Str}{u:Iv}{pos:Pos}{Q:Iv->IA->Prop}(I:Inv X a σ H s)(b:Gl X x)(c:X.mg x=some u)(h:Q u s)
 (d:(x == ("__debug__" : Str))=false:=by decide):wpAny (model X.prog X.w) X.A (eval (.Name x pos) X.env) Q E s:=
 NG I.ok.kind b (Calls.loadGlobal_global (by rw[I.ok.glob];exact I.mod.glob.keeps I.bk) c h) d
theorem V4{E:Iv->IA->Prop}{a:List (Addr×Obj)}{s:IA}{σ:St}{H:Hp}{x:Str}{u:Iv}{pos:Pos}{Q:Iv->IA->Prop}(I:Inv X a σ H s)(b:Gl X x)(c:X.mg x=none)(d:bootBuiltins x=some u)(h:Q u s)
 (e:x≠"__name__":=by decide) (f:(x == ("__debug__" : Str))=false:=by decide):wpAny (model X.prog X.w) X.A (eval (.Name x pos) X.env) Q E s:=by
 obtain⟨j,g,i⟩:=I.mod.blt;exact NG I.ok.kind b (Calls.loadGlobal_builtin (by rw[I.ok.glob];exact I.mod.glob.keeps I.bk) c (by rw[I.ok.blt];exact g.keeps I.bk) ((i x e).trans d) h) f
theorem qK{x:Str}{v:V}{u:Iv}{pos:Pos}(a:Gl X x)(b:X.mg x=some u)(r:RelV v u)(c:(x == ("__debug__" : Str))=false:=by decide):PE X (.Name x pos) (tC v):=
 λ_ _ _ H _ I h=>u6 I a b ⟨v,H,I,r,h⟩ c
theorem wI{x:Str}{v:V}{u:Iv}{pos:Pos}(a:Gl X x)(b:X.mg x=none)(c:bootBuiltins x=some u)(r:RelV v u)(d:x≠"__name__":=by decide)(e:(x == ("__debug__" : Str))=false:=by decide):PE X (.Name x pos) (tC v):=
 λ_ _ _ H _ I h=>V4 I a b c ⟨v,H,I,r,h⟩ d e
variable{a b:Expr}{ta tb:TE}{pos:Pos}
def PC(X:Cx)(f:Qv)(a b:Expr)(t:TE):Prop:=
 ∀(c:List (Addr×Obj))(s:IA)(σ:St)(H:Hp)(Q:VK),Inv X c σ H s->t σ H Q->
  wpAny (model X.prog X.w) X.A (eval a X.env) (λv d=>wpAny (model X.prog X.w) X.A (eval b X.env) (λu e=>wpAny (model X.prog X.w) X.A (compareOp f v u) (EP X c σ Q) X.xe e) X.xe d) X.xe s
noncomputable def wJ(ta:TE):TE:=λc H Q=>ta c H λx d=>Q (.bl (decide (x=.non))) d
noncomputable def wK(ta:TE):TE:=λc H Q=>ta c H λx d=>Q (.bl (!decide (x=.non))) d
theorem RelV.none_iff{x:V}{v:Iv}(r:RelV x v):(v == Km)=decide (x=.non):=by
 cases x with
 | non=>cases r;rfl
 | bl _=>cases r;rfl
 | int _=>obtain⟨t,rfl⟩:=r;rfl
 | str _=>obtain⟨t,rfl⟩:=r;rfl
 | byt _=>obtain⟨t,rfl⟩:=r;rfl
 | flt _=>obtain⟨t,rfl⟩:=r;rfl
 | ref _=>cases r;rfl
 | ty _=>cases r;rfl
theorem wL{j c}(e:PE X a ta):PC X .Is a (.Constant .none j c) (wJ ta):=by
 intro d s f H Q I h;refine aL (e d s f H _ I h) λv n g=>?_;obtain⟨x,i,k,l,m⟩:=g;exact Qf (is_none_gen ⟨.bl _,i,k,by rw[l.none_iff];rfl,m⟩)
theorem wM{j c}(e:PE X a ta):PC X .IsNot a (.Constant .none j c) (wK ta):=by
 intro d s f H Q I h;refine aL (e d s f H _ I h) λv n g=>?_;obtain⟨x,i,k,l,m⟩:=g;exact Qf (isnot_none_gen ⟨.bl _,i,k,by rw[l.none_iff];rfl,m⟩)
noncomputable def tB(t:TE):TT:=λd H Q=>t d H λx e=>∃c,x=.bl c/\Q c e
theorem wN{e:Qv}{t:TE}(h:PC X e a b t)(f:behindInMarks e b=false:=by first | exact c _ (by decide) (by decide) | rfl):PE X (.Compare a [e] [b] pos) t:=λd s g H Q I i=>wpAny_Compare1 (h d s g H Q I i) f
theorem mq{g:Qv}{t:TE}(h:PC X g a b t)(i:behindInMarks g b=false:=by first | exact e _ (by decide) (by decide) | rfl):PT X (.Compare a [g] [b] pos) (tB t):=by
 intro f s j H Q I k;refine Pj (aL (h f s j H _ I k) λv w i=>aL i λu y l=>aL l λc z m=>?_) i;obtain⟨x,n,o,p,r⟩:=m;obtain⟨d,rfl,q⟩:=r;cases p;exact Kn ⟨n,o,q⟩
theorem wO{e:Expr}{t:TE}(h:PE X e t)(he:∀whole,isTrue e X.env whole=(do let v <-whole;standAt e.pos;holding [v] (truthy v)):=by intro _;rfl):PT X e (tB t):=by
 intro c s f H Q I g;refine isTrue_plain (aL (h c s f H _ I g) λv n i=>?_) (he _);obtain⟨x,j,k,l,m⟩:=i;obtain⟨d,rfl,q⟩:=m;cases l;exact Kn ⟨j,k,q⟩
variable{tA tB':TT}{rest:List Expr}
noncomputable def tAnd(t u:TT):TT:=λd H Q=>t d H λc e=>if c=true then u d e Q else Q false e
noncomputable def tOr(t u:TT):TT:=λd H Q=>t d H λc e=>if c=true then Q true e else u d e Q
noncomputable def tNot(t:TT):TT:=λd H Q=>t d H λc e=>Q (!c) e
theorem wQ(f:PT X a tA):PW X (.BoolOp .And [a] pos) tA:=by
 intro i d s g H Q I h;refine isTrue_and (aL (f d s g H Q I h) λc j e=>?_);cases c with
 | true=>exact isTrue_and_nil e
 | false=>exact e
theorem wR(f:PT X a tA):PW X (.BoolOp .Or [a] pos) tA:=by
 intro i d s g H Q I h;refine isTrue_or (aL (f d s g H Q I h) λc j e=>?_);cases c with
 | false=>exact isTrue_or_nil e
 | true=>exact e
theorem wU(j:PT X a tA)(k:PW X (.BoolOp .And (b::rest) pos) tB'):PW X (.BoolOp .And (a::b::rest) pos) (tAnd tA tB'):=by
 intro l d s e H Q I h;refine isTrue_and (aL (j d s e H _ I h) λc m n=>?_);obtain⟨f,g,i⟩:=n;cases c with
 | true=>exact k l d m e f Q g i
 | false=>exact⟨f,g,i⟩
theorem wV(j:PT X a tA)(k:PW X (.BoolOp .Or (b::rest) pos) tB'):PW X (.BoolOp .Or (a::b::rest) pos) (tOr tA tB'):=by
 intro l d s e H Q I h;refine isTrue_or (aL (j d s e H _ I h) λc m n=>?_);obtain⟨f,g,i⟩:=n;cases c with
 | true=>exact⟨f,g,i⟩
 | false=>exact k l d m e f Q g i
theorem wW(e:PT X a tA):PT X (.UnaryOp .Not a pos) (tNot tA):=by
 intro d s f H Q I h;exact isTrue_not (Jt (e d s f H (λc g=>Q _ g) I h) (λ_ _ ⟨a,b,c⟩=>⟨a,b,c⟩) λ_ _ z=>z)
noncomputable def wX(ta tb:TE):TE:=λd H Q=>ta d H λx e=>∃c,x=.bl c/\if c=true then tb d e Q else Q (.bl false) e
noncomputable def wY(ta tb:TE):TE:=λd H Q=>ta d H λx e=>∃c,x=.bl c/\if c=true then Q (.bl true) e else tb d e Q
noncomputable def wZ(ta:TE):TE:=λd H Q=>ta d H λx e=>∃c,x=.bl c/\Q (.bl (!c)) e
theorem qL{d}{t:TE}(h:PE X a t):PE X (.BoolOp d [a] pos) t:=λc s e H Q I f=>BoolOp_one (h c s e H Q I f)
theorem xa(j:PE X a ta)(k:PE X (.BoolOp .And (b::rest) pos) tb):PE X (.BoolOp .And (a::b::rest) pos) (wX ta tb):=by
 intro d s f H Q I h;refine BoolOp_and (aL (j d s f H _ I h) λv l m=>?_);obtain⟨x,g,i,n,e⟩:=m;obtain⟨c,rfl,e⟩:=e;cases n;refine Kn ?_;cases c with
 | true=>exact k d l f g Q i e
 | false=>exact⟨.bl false,g,i,rfl,e⟩
theorem xb(j:PE X a ta)(k:PE X (.BoolOp .Or (b::rest) pos) tb):PE X (.BoolOp .Or (a::b::rest) pos) (wY ta tb):=by
 intro d s f H Q I h;refine BoolOp_or (aL (j d s f H _ I h) λv l m=>?_);obtain⟨x,g,i,n,e⟩:=m;obtain⟨c,rfl,e⟩:=e;cases n;refine Kn ?_;cases c with
 | false=>exact k d l f g Q i e
 | true=>exact⟨.bl true,g,i,rfl,e⟩
theorem xc(f:PE X a ta):PE X (.UnaryOp .Not a pos) (wZ ta):=by
 intro d s g H Q I h;refine UnaryOp_ (aL (f d s g H _ I h) λv m i=>?_);obtain⟨x,j,k,l,e⟩:=i;obtain⟨c,rfl,e⟩:=e;cases l;exact not_of (Kn ⟨.bl _,j,k,rfl,e⟩)
noncomputable def xf(t:TT)(ta tb:TE):TE:=λd H Q=>t d H λc e=>if c=true then ta d e Q else tb d e Q
theorem xh{c:Expr}(l:PT X c tA)(m:PE X a ta)(n:PE X b tb):PE X (.IfExp c a b pos) (xf tA ta tb):=by
 intro e s f H Q I h;refine wpAny_IfExp (aL (l e s f H _ I h) λd g o=>?_);obtain⟨i,j,k⟩:=o;cases d with
 | true=>exact m e g f i Q j k
 | false=>exact n e g f i Q j k
end
def bu(K:Iw)(H:Hp)(a:Addr)(c:List V):Prop:=
 Rd H a (.lst c)\/
  ∃(o:Obj)(b:Array Iv)(n:Nat),K.lookup a=some o/\o.cls=.type "list"/\o.dict=none/\o.data=.seq b n/\b.size<=sizeLine/\aH c b.toList
def cx(K:Iw)(H:Hp)(a:Addr)(c:List V):Prop:=
 Rd H a (.tup c)\/
  ∃(o:Obj)(b:Array Iv)(n:Nat),K.lookup a=some o/\o.cls=.type "tuple"/\o.data=.seq b n/\b.size<=sizeLine/\aH c b.toList
noncomputable def xi:Iv->Option V
 | .none=>some .non
 | .bool b=>some (.bl b)
 | .int i _=>some (.int i)
 | .str x _=>some (.str x)
 | .bytes b _=>some (.byt b)
 | .float b _=>some (.flt b)
 | .ref a=>some (.ref a)
 | .type n=>some (.ty n)
 | _=>none
theorem RelV.abs{x:V}{u:Iv}(r:RelV x u):xi u=some x:=by
 cases x with
 | non=>cases r;rfl
 | bl _=>cases r;rfl
 | int _=>obtain⟨t,rfl⟩:=r;rfl
 | str _=>obtain⟨t,rfl⟩:=r;rfl
 | byt _=>obtain⟨t,rfl⟩:=r;rfl
 | flt _=>obtain⟨t,rfl⟩:=r;rfl
 | ref _=>cases r;rfl
 | ty _=>cases r;rfl
theorem RelV.inj{x y:V}{u:Iv}(r:RelV x u)(q:RelV y u):x=y:=Jo (r.abs.symm.trans q.abs)
theorem aH.inj:∀{a b:List V}{c:List Iv},aH a c->aH b c->a=b
 | _,_,_,.nil,.nil=>rfl
 | _,_,_,.cons r t,.cons d e=>by rw[r.inj d,aH.inj t e]
section
variable{X:Cx}{pins:List (Addr×Obj)}{σ:St}{H:Hp}{s:IA}{a:Addr}{xs ys:List V}
theorem bu.of{K:Iw}(h:H a=some (.lst xs)):bu K H a xs:=.inl (.inl h)
theorem cx.of{K:Iw}(h:H a=some (.tup xs)):cx K H a xs:=.inl (.inl h)
theorem Inv.list(I:Inv X pins σ H s)(h:bu X.K H a xs):∃b:List Iv,aH xs b/\PlainL s.heap a b.toArray/\xs.length<=sizeLine:=by
 rcases h with h | ⟨o,b,n,c,d,f,g,i,r⟩
 .obtain⟨z,b,n,r,e⟩:=h.ok I.hok;exact⟨b,r,⟨_,n,e,rfl,rfl,rfl⟩,z⟩
 .refine⟨b.toList,r,⟨o,n,I.kIn a o c,d,f,by simpa using g⟩,?_⟩;have e:=r.length;simp only[Ku]at e;omega
theorem Inv.tuple(I:Inv X pins σ H s)(h:cx X.K H a xs):∃b:List Iv,aH xs b/\QU s.heap a b.toArray/\xs.length<=sizeLine:=by
 rcases h with h | ⟨o,b,n,c,d,f,g,r⟩
 .obtain⟨z,b,r,p⟩:=h.ok I.hok;exact⟨b,r,p,z⟩
 .refine⟨b.toList,r,⟨o,I.kIn a o c,d,n,by simpa using f⟩,?_⟩;have e:=r.length;simp only[Ku]at e;omega
theorem Inv.list_inj(I:Inv X pins σ H s)(h:bu X.K H a xs)(h':bu X.K H a ys):xs=ys:=by
 obtain⟨c,r,⟨o,n,e,_,_,d⟩,_⟩:=I.list h;obtain⟨b,i,⟨k,l,f,_,_,g⟩,_⟩:=I.list h';rw[e]at f;cases f;rw[d]at g;injection g with j _;have:c=b:=by simpa using congrArg Array.toList j
 subst this;exact r.inj i
theorem Inv.tuple_inj(I:Inv X pins σ H s)(h:cx X.K H a xs)(h':cx X.K H a ys):xs=ys:=by
 obtain⟨c,r,⟨o,e,_,n,d⟩,_⟩:=I.tuple h;obtain⟨b,i,⟨k,f,_,l,g⟩,_⟩:=I.tuple h';rw[e]at f;cases f;rw[d]at g;injection g with j _;have:c=b:=by simpa using congrArg Array.toList j
 subst this;exact r.inj i
end
abbrev Cx.wish(X:Cx)(E:Iv->IA->Prop):Cx:={ X with xe:=E }
abbrev Cx.nox(X:Cx):Cx:=X.wish λ_ _=>False
theorem Cx.Ok.wish{X:Cx}(ok:X.Ok)(E:Iv->IA->Prop):(X.wish E).Ok:=
 ⟨ok.mod,ok.kind,ok.glob,ok.blt,ok.above,ok.inj,ok.has,ok.cab,ok.hd,ok.frames,ok.stk,ok.exf,ok.bs,ok.bsz,ok.noex,ok.exfs,ok.funs,ok.frf⟩
theorem Cx.Ok.unwish{X:Cx}{E:Iv->IA->Prop}(ok:(X.wish E).Ok):X.Ok:=
 ⟨ok.mod,ok.kind,ok.glob,ok.blt,ok.above,ok.inj,ok.has,ok.cab,ok.hd,ok.frames,ok.stk,ok.exf,ok.bs,ok.bsz,ok.noex,ok.exfs,ok.funs,ok.frf⟩
section
variable{X:Cx}{pins:List (Addr×Obj)}{σ:St}{H:Hp}{s:IA}{E:Iv->IA->Prop}
theorem Inv.wish(I:Inv X pins σ H s)(E:Iv->IA->Prop):Inv (X.wish E) pins σ H s:=⟨I.ok.wish E,I.os,I.bare,I.base,I.loc,I.cell,I.free,I.freeC,I.pin,I.hok,I.len⟩
theorem Inv.unwish(I:Inv (X.wish E) pins σ H s):Inv X pins σ H s:=⟨I.ok.unwish,I.os,I.bare,I.base,I.loc,I.cell,I.free,I.freeC,I.pin,I.hok,I.len⟩
theorem SP.unwish{D:u5}{f:Flow}{c:IA}(h:SP (X.wish E) pins D f c):SP X pins D f c:=by
 cases f with
 | next=>obtain⟨a,b,I,q⟩:=h;exact⟨a,b,I.unwish,q⟩
 | brk=>obtain⟨a,b,I,q⟩:=h;exact⟨a,b,I.unwish,q⟩
 | cont=>obtain⟨a,b,I,q⟩:=h;exact⟨a,b,I.unwish,q⟩
 | ret u=>obtain⟨v,a,b,I,r,q⟩:=h;exact⟨v,a,b,I.unwish,r,q⟩
theorem PT.nox{e:Expr}{t:TT}(h:PT X.nox e t):PT X e t:=λpins s σ H Q I a=>
 Jt (h pins s σ H Q (I.wish _) a) (λ_ _ ⟨b,c,q⟩=>⟨b,c.unwish,q⟩) λ_ _ z=>Je z
theorem cf.nox{st:List Stmt}{t:TS}(h:cf X.nox st t):cf X st t:=λpins s σ H D I a=>
 Jt (h pins s σ H D (I.wish _) a) (λ_ _ q=>q.unwish) λ_ _ z=>Je z
end
section
variable{X:Cx}{st:Stmt}{rest:List Stmt}{t u:TS}{e:Expr}{te:TE}{pos:Pos}
noncomputable def tNext:TS:=λD a H=>D.nx a H
noncomputable def xj(t u:TS):TS:=λD a H=>t { D with nx:=u D } a H
theorem xl:cf X [] tNext:=λ_ _ a H _ I h=>LJ ⟨a,H,I,h⟩
theorem qM(c:PS X st t)(d:cf X rest u):cf X (st::rest) (xj t u):=by
 intro a s g H D I h;refine OQ (aL (c a s g H { D with nx:=u D } I h) λf i q=>?_);cases f with
 | next=>
   obtain⟨b,j,k,q⟩:=q;exact d a i b j D k q
 | ret v=>exact q
 | brk=>exact q
 | cont=>exact q
theorem mr(b:PS X st t):cf X [st] t:=by
 intro a s c H D I h;refine OQ (aL (b a s c H D I h) λf d q=>?_);cases f with
 | next=>exact LJ q
 | ret v=>exact q
 | brk=>exact q
 | cont=>exact q
theorem Inv.quiet{a:List (Addr×Obj)}{σ:St}{H:Hp}{s:IA}(I:Inv X a σ H s):interactive X.env=false:=by simp[interactive,I.ok.kind]
noncomputable def xm(te:TE):TS:=λD a H=>te a H λ_ b=>D.nx a b
theorem qN(he:PE X e te)(hs:swapsWith e none pos.line X.env=pure false:=by rfl):PS X (.Expr e pos) (xm te):=by
 intro a s b H D I h;exact wpAny_Expr_any (aL (he a s b H _ I h) λv g ⟨x,c,d,i,f⟩=>⟨b,c,d,f⟩) I.quiet hs
noncomputable def xn(te:TE):TS:=λD a H=>te a H D.rt
theorem xo(he:PE X e te):PS X (.Return (some e) pos) (xn te):=by
 intro a s b H D I h;exact wpAny_Return_some (aL (he a s b H _ I h) λv i ⟨x,c,d,f,g⟩=>⟨x,b,c,d,f,g⟩)
noncomputable def xp(c:TT)(t u:TS):TS:=λD a H=>c a H λb d=>if b=true then t D a d else u D a d
theorem qO{c:Expr}{a b:List Stmt}{i:TT}(n:PT X c i)(o:cf X a t)(p:cf X b u):PS X (.If c a b pos) (xp i t u):=by
 intro f s g H D I h;refine wpAny_If (aL (n f s g H _ I h) λd j q=>?_);obtain⟨k,l,m⟩:=q;cases d with
 | true=>exact o f j g k D l m
 | false=>exact p f j g k D l m
noncomputable def tNever:TS:=λ_ _ _=>False
theorem xq:PS X st tNever:=λ_ _ _ _ _ _ h=>h.elim
end
abbrev TG:=V->St->Hp->(St->Hp->Prop)->Prop
abbrev TGs:=List V->St->Hp->(St->Hp->Prop)->Prop
def PG(X:Cx)(a:Expr)(t:TG):Prop:=
 ∀(b:List (Addr×Obj))(s:IA)(σ:St)(H:Hp)(v:V)(u:Iv)(Q:St->Hp->Prop),Inv X b σ H s->RelV v u->t v σ H Q->
  wpAny (model X.prog X.w) X.A (assign a X.env u) (λ_ e=>∃c d,Inv X b c d e/\Q c d) X.xe s
def gr(X:Cx)(e:List Expr)(t:TGs):Prop:=
 ∀(a:List (Addr×Obj))(s:IA)(σ:St)(H:Hp)(vs:List V)(c:List Iv)(Q:St->Hp->Prop),Inv X a σ H s->aH vs c->t vs σ H Q->
  wpAny (model X.prog X.w) X.A (assignInOrder ((assignEach e X.env).map (·.2)) c) (λ_ f=>∃b d,Inv X a b d f/\Q b d) X.xe s
section
variable{X:Cx}{pos:Pos}
noncomputable def gName(i:Nat):TG:=λv a H Q=>Q (a.set i (some v)) H
theorem ay{i:Nat}{x:Str}(b:X.N.Nodup)(c:X.N[i]?=some x)(d:Loc X.env.scope x)(e:X.fn x=true\/X.env.scope.names.lookup x=some .local:=by first | exact .inl rfl | exact .inr rfl | assumption):PG X (.Name x pos) (gName i):=by
 intro a s g H v u Q I r h;exact wpAny_assign_Name (mn I b c d r (λj f=>⟨_,H,f,h⟩) e)
noncomputable def gNil:TGs:=λa b H Q=>a=[]/\Q b H
noncomputable def gCons(t:TG)(u:TGs):TGs:=λb c H Q=>∃v r,b=v::r/\t v c H λa d=>u r a d Q
theorem xu:gr X [] gNil:=by
 intro a s b H c d Q I r h;obtain⟨e,h⟩:=h;subst e;exact assignInOrder_nil ⟨b,H,I,h⟩
theorem xw{e:Expr}{es:List Expr}{t:TG}{u:TGs}(c:PG X e t)(d:gr X es u)
 (hs:(assignEach (e::es) X.env).map (·.2)=assign e X.env::(assignEach es X.env).map (·.2):=by rfl):gr X (e::es) (gCons t u):=by
 intro a s f H o p Q I r h;obtain⟨v,q,g,h⟩:=h;subst g;cases r with
 | cons r i=>
   rw[hs];refine assignInOrder_cons (aL (c a s f H _ _ _ I r h) λ_ j k=>?_);obtain⟨b,l,m,n⟩:=k;exact d a j b l _ _ Q m i n
noncomputable def gTup(K:Iw)(n:Nat)(t:TGs):TG:=λv c H Q=>∃a b,v=.ref a/\cx K H a b/\b.length=n/\t b c H Q
theorem xx{es:List Expr}{k:Nat}{t:TGs}{n:Nat}(i:X.calm=true)(h:gr X es t)
 (j:(assignEach es X.env).length=n:=by rfl) (d:(assignEach es X.env).findIdx? (·.1)=none:=by rfl):PG X (.Tuple es k pos) (gTup X.K n t):=by
 intro c s l H v u Q I r f;obtain⟨a,m,p,q,w,f⟩:=f;subst p;cases r;obtain⟨x,g,y,B⟩:=I.tuple q;refine assign_Tuple_tuple (I.ok.hd i) y (by simp[j,<-w,g.length]) d λC z=>?_;have A:=I.kept (t':=s.toks) λb o e=>z b o (IL (II e)) e;exact h c _ l H m _ Q A (by simpa using g) f
noncomputable def qP(b:TE)(g:TG):TS:=λD a H=>b a H λx c=>g x a c D.nx
theorem xy{i:Nat}{x:Str}{e:Expr}{c:TE}{a:Pos}(d:X.N.Nodup)(f:X.N[i]?=some x)(g:Loc X.env.scope x)(he:PE X e c)(hs:swapsWith e (some (.Name x a)) pos.line X.env=pure false:=by rfl)(j:X.fn x=true\/X.env.scope.names.lookup x=some .local:=by first | exact .inl rfl | exact .inr rfl | assumption) :
 PS X (.Assign [.Name x a] e pos) (qP c (gName i)):=by
 intro b s k H D I h;refine wpAny_Assign_Name (aL (he b s k H _ I h) λv r l=>?_) hs;obtain⟨y,m,n,o,p⟩:=l;exact mn n d f g o (λu q=>⟨_,m,q,p⟩) j
noncomputable def xA(c:TT)(h:TS):TS:=λD a H=>∃W:Nat->St->Hp->Prop,(∃m,W m a H)/\∀m a H,W m a H->
 c a H λb e=>if b=true then ∃N:St->Hp->Prop,(∀d f,N d f->∃g,g<m/\W g d f)/\h { D with nx:=N,ct:=N,bk:=D.nx } a e else D.nx a e
theorem xB{c:Expr}{g:List Stmt}{x:TT}{y:TS}(z:Qw (model X.prog X.w) X.A X.env X.xe)(L:PT X c x)(O:cf X g y):PS X (.While c g [] pos) (xA x y):=by
 intro a s Q H D I h;obtain⟨W,⟨T,U⟩,i⟩:=h;refine wpAny_While (codeAny_whileLoop (λn Y=>∃j B,Inv X a j B Y/\W n j B) ?_ T ⟨Q,H,I,U⟩);rintro n s1 ⟨e,C,I1,w1⟩;refine Lk z (aL (L a s1 e C _ I1 (i n e C w1)) λb s2 zq=>?_);obtain⟨E,G,l⟩:=zq;cases b with
 | true=>
   obtain⟨N,J,l⟩:=l;refine Lk z (aL (O a s2 e E _ G l) λf s3 m=>?_);cases f with
   | next=>
     obtain⟨d,k,o,p⟩:=m;obtain⟨q,r,u⟩:=J d k p;exact⟨q,r,d,k,o,u⟩
   | cont=>
     obtain⟨d,k,o,p⟩:=m;obtain⟨q,r,u⟩:=J d k p;exact⟨q,r,d,k,o,u⟩
   | brk=>exact m
   | ret v=>exact m
 | false=>
   exact LJ ⟨e,E,G,l⟩
end
structure It where
 go:Nat->Hp->Prop
 yld:Nat->Hp->V->Hp->Prop
 stop:Nat->Hp->Prop
def o0(X:Cx)(a:List (Addr×Obj))(H:Hp)(b:Addr):Prop:=
 H b=none/\b≠X.env.locals/\b∉X.fs/\(b∈X.ex\/X.s₀.heap.objs.size<=b)/\(∀x c,X.env.cells.lookup x=some c->c≠b)/\∀p∈X.pn++a,p.1≠b
theorem Inv.fpOk{X:Cx}{a:List (Addr×Obj)}{σ:St}{H H':Hp}{s:IA}{b:Addr}(I:Inv X a σ H s)(d:s.heap.objs.size<=b)(f:H' b=none):o0 X a H' b:=by
 refine⟨f,KS (IZ I.lt d),I.nofs d,.inr (Jd I.sz d),λx c e z=>?_,λp g z=>?_⟩
 .obtain⟨v,q⟩:=I.cell x c e;exact absurd (IZ q.lt (by rw[z];exact d)) (Ks _)
 .exact absurd (IZ (II (I.pin p g).1) (by rw[z];exact d)) (Ks _)
structure iy(P:IV)(w:JB)(K:Iw)(tg:Expr)(J:It)(fp:List Addr)(it:Addr)(tn:Nat->Heap->Prop):Prop where
 mem:it∈fp
 obj:∀i h,tn i h->∀b∈fp,∃o,h.get? b=some o/\∀v,o.data≠.cell v
 keep:∀i h h',tn i h->(∀b∈fp,∀o,h.get? b=some o->h'.get? b=some o)->tn i h'
 item:∀(X:Cx),X.prog=P->X.w=w->X.K=K->X.calm=true->∀(i:Nat)(pins:List (Addr×Obj))(s:IA)(σ:St)(H:Hp)(E:Iv->IA->Prop),Inv X pins σ H s->(∀b∈fp,o0 X pins H b)->tn i s.heap->J.go i H->
  wpAny (model P w) X.A (pyNext (.ref it)) (λr s1=>∃u,r=some u/\
   wpAny (model P w) X.A (letOwnedTupleGo tg (.ref it) u) (λ_ s2=>∃x H',Inv X pins σ H' s2/\RelV x u/\J.yld i H x H'/\tn (i+1) s2.heap/\∀b∈fp,H' b=none) E s1) E s
 done:∀(X:Cx),X.prog=P->X.w=w->X.K=K->X.calm=true->∀(i:Nat)(pins:List (Addr×Obj))(s:IA)(σ:St)(H:Hp)(E:Iv->IA->Prop),Inv X pins σ H s->(∀b∈fp,o0 X pins H b)->tn i s.heap->J.stop i H->
  wpAny (model P w) X.A (pyNext (.ref it)) (λr s1=>r=none/\Inv X pins σ H s1) E s
 self:∀(A:Jx)(i:Nat)(s:IA)(Q:Iv->IA->Prop)(E:Iv->IA->Prop),tn i s.heap->Q (.ref it) s->wpAny (model P w) A (pyIter (.ref it)) Q E s
abbrev TI:=St->Hp->(It->Hp->Prop)->Prop
inductive mu (X:Cx) (pins:List (Addr×Obj)) (σ:St) (tg:Expr) (R:It->Hp->Prop) (itv:Iv) (s2:IA):Prop
 | mk (it:Addr) (fp:List Addr) (tn:Nat->Heap->Prop) (J:It) (H':Hp) (h0:itv=.ref it) (h1:Inv X pins σ H' s2) (h2:iy X.prog X.w X.K tg J fp it tn) (h3:tn 0 s2.heap) (h4:(∀b∈fp,o0 X pins H' b)) (h5:R J H'):mu X pins σ tg R itv s2
def PI(X:Cx)(b iter:Expr)(c:TI):Prop:=
 ∀(a:List (Addr×Obj))(s:IA)(σ:St)(H:Hp)(R:It->Hp->Prop),Inv X a σ H s->c σ H R->
  wpAny (model X.prog X.w) X.A (eval iter X.env) (λv d=>wpAny (model X.prog X.w) X.A (pyIter v) (mu X a σ b R) X.xe d) X.xe s
theorem mv{M:QR}{A:Jx}{E:Iv->IA->Prop}{s:IA}{b:Expr}{c:Addr}{u:Iv}{o:Obj}{n:String}{vs:Array Iv}{Q:Unit->IA->Prop}(d:s.heap.get? c=some o)(e:o.cls=.type n)(f:o.data=.fields vs)
 (g:["enumerate","zip","dict_itemiterator","dict_reverseitemiterator","odict_iterator","itertools.zip_longest","itertools.pairwise"].contains n=false) (a:Q () s):wpAny M A (letOwnedTupleGo b (.ref c) u) Q E s:=by
 cases b<;>first
  | exact Iy a
  | (cases u<;>first
   | exact Iy a
   | (refine Ir (wpAny_load d ?_)
      rw[e,f];show wpAny M A (if _=true then _ else _) Q E s;rw[if_neg (by intro h;rw[g]at h;cases h)];exact Iy a))
noncomputable def kC(K:Iw)(a:Addr):It:=
 ⟨λi H=>∃b x,bu K H a b/\b[i]?=some x,λi H x c=>c=H/\∀b,bu K H a b->b[i]?=some x,λi H=>∃b,bu K H a b/\b.length<=i⟩
noncomputable def kD(K:Iw)(a:Addr):It:=
 ⟨λi H=>∃b x,cx K H a b/\b[i]?=some x,λi H x c=>c=H/\∀b,cx K H a b->b[i]?=some x,λi H=>∃b,cx K H a b/\b.length<=i⟩
noncomputable def jB(lo:Int)(n:Nat):It:=⟨λi _=>i<n,λi H x a=>a=H/\x=.int (lo+i),λi _=>n<=i⟩
theorem qQ{P:IV}{w:JB}{K:Iw}{tg:Expr}(a it:Addr):iy P w K tg (kC K a) [it] it (λi h=>h.IsListIter it a i) where
 mem:=by simp
 obj:=λi h st b hb=>by
  have e:b=it:=by simpa using hb
  subst e;obtain⟨o,e,c,d⟩:=st;exact⟨o,e,λv z=>by rw[d]at z;cases z⟩
 keep:=λi h h' st k=>st.at λo e=>k it (by simp) o e
 item:=by
  intro X hP hw hK hc i pins s σ H E I hf st hg;subst hP hw hK;obtain⟨xs,x,hq,hx⟩:=hg;obtain⟨its,rv,p,hz⟩:=I.list hq;obtain⟨u,hu,ru⟩:=rv.get hx;obtain⟨f0,f1,f2,f3,f4,f5⟩:=hf it (by simp);refine wpAny_pyNext_list_item st p.isList (by simpa using hu) λh' st' sb=>?_;have I1:Inv X pins σ H { s with heap:=h' }:=I.turned (λb o hb e=>(sb.2 b hb).trans e) f0 f1 f3 f4 f5;obtain⟨o,e,c,d⟩:=id st';exact⟨u,rfl,mv e c d rfl ⟨x,H,I1,ru,⟨rfl,λys hy=>by rw[I.list_inj hy hq];exact hx⟩,st',λb hb=>(hf b hb).1⟩⟩
 done:=by
  intro X hP hw hK hc i pins s σ H E I hf st hg;subst hP hw hK;obtain⟨xs,hq,hx⟩:=hg;obtain⟨its,rv,p,hz⟩:=I.list hq;obtain⟨f0,f1,f2,f3,f4,f5⟩:=hf it (by simp);have hl:=rv.length;exact wpAny_pyNext_list_end (I.ok.hd hc) st p.isList (by simp;omega) λh' eb=>⟨rfl,I.turned (λb o hb e=>eb b o hb e) f0 f1 f3 f4 f5⟩
 self:=λ_ _ _ _ _ st h=>wpAny_pyIter_listiter st h
theorem qR{P:IV}{w:JB}{K:Iw}{tg:Expr}(a it:Addr):iy P w K tg (kD K a) [it] it (λi h=>h.IsTupleIter it a i) where
 mem:=by simp
 obj:=λi h st b hb=>by
  have e:b=it:=by simpa using hb
  subst e;obtain⟨o,e,c,d⟩:=st;exact⟨o,e,λv z=>by rw[d]at z;cases z⟩
 keep:=λi h h' st k=>st.at λo e=>k it (by simp) o e
 item:=by
  intro X hP hw hK hc i pins s σ H E I hf st hg;subst hP hw hK;obtain⟨xs,x,hq,hx⟩:=hg;obtain⟨its,rv,p,hz⟩:=I.tuple hq;obtain⟨u,hu,ru⟩:=rv.get hx;obtain⟨f0,f1,f2,f3,f4,f5⟩:=hf it (by simp);refine wpAny_pyNext_tuple_item st (show s.heap.IsTuple a _ from p) (by simpa using hu) λh' st' sb=>?_;have I1:=I.turned (t':=s.toks) (λb o hb e=>(sb.2 b hb).trans e) f0 f1 f3 f4 f5;obtain⟨o,e,c,d⟩:=id st';exact⟨u,rfl,mv e c d rfl ⟨x,H,I1,ru,⟨rfl,λys hy=>by rw[I.tuple_inj hy hq];exact hx⟩,st',λb hb=>(hf b hb).1⟩⟩
 done:=by
  intro X hP hw hK hc i pins s σ H E I hf st hg;subst hP hw hK;obtain⟨xs,hq,hx⟩:=hg;obtain⟨its,rv,p,hz⟩:=I.tuple hq;obtain⟨f0,f1,f2,f3,f4,f5⟩:=hf it (by simp);have hl:=rv.length;exact wpAny_pyNext_tuple_end (I.ok.hd hc) st (show s.heap.IsTuple a _ from p) (by simp;omega) λh' eb=>⟨rfl,I.turned (λb o hb e=>eb b o hb e) f0 f1 f3 f4 f5⟩
 self:=λ_ _ _ _ _ st h=>wpAny_pyIter_tupleiter st h
theorem xC{P:IV}{w:JB}{K:Iw}{tg:Expr}(it:Addr)(lo:Int)(n:Nat):iy P w K tg (jB lo n) [it] it (λi h=>IsRangeIter h it (lo+(i:Nat)*1) ((n:Int) - (i:Nat)) 1) where
 mem:=by simp
 obj:=λi h st b hb=>by
  have e:b=it:=by simpa using hb
  subst e;exact⟨_,st,λv z=>by
   have z':=z;cases z'⟩
 keep:=λi h h' st k=>k it (by simp) _ st
 item:=by
  intro X hP hw hK hc i pins s σ H E I hf st hg;subst hP hw hK;obtain⟨f0,f1,f2,f3,f4,f5⟩:=hf it (by simp);have W:=QV.range (prog:=X.prog) (w:=X.w) (I.ok.hd hc) it lo 1 n;refine W.item i s _ _ hg st λv h' tk hv st' kk=>?_;obtain⟨t,rfl⟩:=hv;have I1:Inv X pins σ H { s with heap:=h',toks:=tk }:=I.turned (λb o hb e=>kk b o (by simpa using hb) e) f0 f1 f3 f4 f5;refine⟨_,rfl,mv st' rfl rfl rfl ⟨.int _,H,I1,⟨t,?_⟩,⟨rfl,rfl⟩,st',λb hb=>(hf b hb).1⟩⟩;rw[Int.mul_one]
 done:=by
  intro X hP hw hK hc i pins s σ H E I hf st hg;obtain⟨f0,f1,f2,f3,f4,f5⟩:=hf it (by simp);exact wpAny_pyNext_range_end (I.ok.hd hc) st (by have:n<=i:=hg;omega) λh' eb=>⟨rfl,I.turned (λb o hb e=>eb b o hb e) f0 f1 f3 f4 f5⟩
 self:=λ_ _ _ _ _ st h=>wpAny_pyIter_rangeiter st h
section
variable{X:Cx}{tg:Expr}
noncomputable def xD(K:Iw)(c:TE):TI:=λd H R=>c d H λx b=>∃a,x=.ref a/\(∃e,bu K b a e)/\R (kC K a) b
noncomputable def xE(K:Iw)(c:TE):TI:=λd H R=>c d H λx b=>∃a,x=.ref a/\(∃e,cx K b a e)/\R (kD K a) b
theorem HV{l:Expr}{g:TE}(i:PE X l g):PI X tg l (xD X.K g):=by
 intro c s j H R I h;refine aL (i c s j H _ I h) λv f k=>?_;obtain⟨x,m,d,n,r⟩:=k;obtain⟨a,e,⟨z,u⟩,q⟩:=r;subst e;cases n;obtain⟨w,A,p,B⟩:=d.list u;refine KY p.isList ?_;refine⟨f.heap.objs.size,[f.heap.objs.size],_,_,m,rfl,d.kept (t':=_) λb o e=>Iu _ e,qQ a _,⟨_,IG _ rfl,rfl,rfl⟩,λb y=>?_,q⟩;have e:b=f.heap.objs.size:=by simpa using y
 subst e;exact d.fpOk (IC _) (d.hok.fresh (IC _))
theorem HW{l:Expr}{g:TE}(i:PE X l g):PI X tg l (xE X.K g):=by
 intro c s j H R I h;refine aL (i c s j H _ I h) λv d k=>?_;obtain⟨x,m,f,n,r⟩:=k;obtain⟨a,e,⟨z,u⟩,q⟩:=r;subst e;cases n;obtain⟨w,A,p,B⟩:=f.tuple u;refine Mo (show d.heap.IsTuple a _ from p) ?_;refine⟨d.heap.objs.size,[d.heap.objs.size],_,_,m,rfl,f.kept (t':=_) λb o e=>Iu _ e,qR a _,⟨_,IG _ rfl,rfl,rfl⟩,λb y=>?_,q⟩;have e:b=d.heap.objs.size:=by simpa using y
 subst e;exact f.fpOk (IC _) (f.hok.fresh (IC _))
theorem qS{c:List (Addr×Obj)}{σ:St}{H:Hp}{s:IA}{R:It->Hp->Prop}{E:Iv->IA->Prop}{lo d:Int}{t u v:Tok}{i:Nat}(I:Inv X c σ H s)(j : -(2 ^ 62)<=lo)(k:lo<2 ^ 62)(l : -(2 ^ 62)<=d)(m:d<2 ^ 62)
 (q:R (jB lo (d - lo).toNat) H):wpAny (model X.prog X.w) X.A (pyIter (.ref s.heap.objs.size)) (mu X c σ tg R) E { s with heap:=s.heap.push { cls:=.type "range",data:=.fields #[.int lo t,.int d u,.int 1 v] },toks:=i }:=by
 refine wpAny_pyIter_range (IsRange.new ..) (small_one j k l m) ?_;have h:Inv X c σ H { s with heap:=s.heap.push { cls:=.type "range",data:=.fields #[.int lo t,.int d u,.int 1 v] },toks:=i }:=I.kept λb o e=>Iu _ e;refine⟨(s.heap.push { cls:=.type "range",data:=.fields #[.int lo t,.int d u,.int 1 v] }).objs.size,[(s.heap.push { cls:=.type "range",data:=.fields #[.int lo t,.int d u,.int 1 v] }).objs.size],_,_,H,rfl,
  h.kept λb o e=>Iu _ e,xC _ lo (d - lo).toNat,?_,λb n=>?_,q⟩
 .have p:lo+((0:Nat))*1=lo:=by simp
  have r:(((d - lo).toNat)) - ((0:Nat))=KL.Range.rangeSize lo d 1:=by rw[rangeSize_one];split<;>omega
  rw[p,r];exact IG _ rfl
 .have e:b=(s.heap.push { cls:=.type "range",data:=.fields #[.int lo t,.int d u,.int 1 v] }).objs.size:=by simpa using n
  subst e;exact h.fpOk (IC _) (h.hok.fresh (IC _))
noncomputable def iRng1(a:TA):TI:=λb H R=>a b H λc d=>∃j:Int,c=[.int j]/\-(2 ^ 62)<=j/\j<2 ^ 62/\R (jB 0 j.toNat) d
noncomputable def iRng2(a:TA):TI:=λb H R=>a b H λc d=>∃i j:Int,c=[.int i,.int j]/\(-(2 ^ 62)<=i/\i<2 ^ 62/\-(2 ^ 62)<=j/\j<2 ^ 62)/\R (jB i (j - i).toNat) d
theorem xF{a:Expr}{d:TA}{p pos:Pos}(f:Gl X "range")(g:X.mg "range" = none)(i:PA X [a] d)(hs:starEach [a] X.env=[(false,eval a X.env)]:=by rfl):PI X tg (.Call (.Name "range" p) [a] [] pos) (iRng1 d):=by
 intro b s k H R I h;refine QT (V4 I f g boot_range (L1 (aL (i pos b s k H _ I h) λv w l=>?_) hs rfl));obtain⟨x,y,m,n,c⟩:=l;obtain⟨j,e,c,o,q⟩:=c;subst e;cases n with
 | cons r u=>
   cases u;obtain⟨t,rfl⟩:=r;exact call_range_1 (qS m (by simp) (by simp) c o (by simpa using q))
theorem xG{a b:Expr}{k:TA}{p pos:Pos}(l:Gl X "range")(m:X.mg "range" = none)(n:PA X [a,b] k)(hs:starEach [a,b] X.env=[(false,eval a X.env),(false,eval b X.env)]:=by rfl)(c:starEach [b] X.env=[(false,eval b X.env)]:=by rfl) :
 PI X tg (.Call (.Name "range" p) [a,b] [] pos) (iRng2 k):=by
 intro d s o H R I h;refine QT (V4 I l m boot_range (L1 (aL (n pos d s o H _ I h) λB C u=>?_) (by rw[hs,c]) (by rw[c];rfl)));obtain⟨D,E,v,w,f⟩:=u;obtain⟨i,j,e,⟨f,x,y,z⟩,q⟩:=f;subst e;cases w with
 | cons r g=>
   cases g with
   | cons A g=>
     cases g;obtain⟨t,rfl⟩:=r;obtain⟨G,rfl⟩:=A;exact call_range_2 (qS v f x y z q)
noncomputable def xH(f:TI)(g:TG)(h:TS):TS:=λD a H=>f a H λJ j=>∃W:Nat->Nat->St->Hp->Prop,(∃m,W 0 m a j)/\∀i m a H,W i m a H->
 (J.stop i H/\D.nx a H)\/(J.go i H/\∃N:St->Hp->Prop,(∀b c,N b c->∃e,e<m/\W (i+1) e b c)/\∀x c,J.yld i H x c->g x a c λd k=>h { D with nx:=N,ct:=N,bk:=D.nx } d k)
noncomputable def kE(fp:List Addr)(h:Heap):List (Addr×Obj):=fp.filterMap λb=>(h.get? b).map λo=>(b,o)
theorem b8{fp:List Addr}{h:Heap}{b:Addr}{o:Obj}(a:b∈fp)(e:h.get? b=some o):(b,o)∈kE fp h:=NQ.mpr ⟨b,a,by rw[e];rfl⟩
theorem xI{fp:List Addr}{h:Heap}{p:Addr×Obj}(a:p∈kE fp h):p.1∈fp/\h.get? p.1=some p.2:=by
 obtain⟨b,c,e⟩:=NQ.mp a;cases q:h.get? b with
 | none=>rw[q]at e;cases e
 | some o=>
   rw[q]at e;have d:=Jo e;subst d;exact⟨c,q⟩
theorem Inv.pinned{a:List (Addr×Obj)}{σ:St}{H:Hp}{s:IA}{fp:List Addr}(I:Inv X a σ H s)(g:∀b∈fp,o0 X a H b)(h:∀b∈fp,∃o,s.heap.get? b=some o/\∀v,o.data≠.cell v):Inv X (a++kE fp s.heap) σ H s:=
 I.pins_of λp i=>(Jm.mp i).elim (λz=>I.pin p (Jp _ z)) λz=>by
  obtain⟨c,e⟩:=xI z;obtain⟨j,k,l,_⟩:=g p.1 c;obtain⟨o,f,d⟩:=h p.1 c;rw[e]at f;cases f;exact⟨e,j,k,l,d⟩
theorem Inv.unpinned{a b:List (Addr×Obj)}{σ:St}{H:Hp}{s:IA}(I:Inv X (a++b) σ H s):Inv X a σ H s:=I.pins_of λp c=>I.pin p (Jp _ (JR _ c))
theorem xJ{iter:Expr}{z:List Stmt}{wi:TI}{g:TG}{tb:TS}{pos:Pos}(G:Qw (model X.prog X.w) X.A X.env X.xe)(hc:X.calm=true)(hi:PI X tg iter wi)(hg:PG X tg g)(j:cf X z tb)
 (hs:∀x,foldedSetIterable iter X.env x=pure x:=by intro _;rfl):PS X (.For tg iter z [] pos) (xH wi g tb):=by
 intro c s σ H D I h;refine wpAny_For (aL (hi c s σ H _ I h) λv s1 h1=>aL h1 λd2 s2 h2=>?_) hs;obtain⟨it,fp,tn,J,H2,e,I2,T,a2,f2,W,⟨m0,w0⟩,L⟩:=h2;subst e;have k:∀{H':Hp},(∀b∈fp,H' b=none)->∀b∈fp,o0 X c H' b:=λhn b j=>⟨hn b j,(f2 b j).2⟩;refine codeAny_forLoop_any (λn s'=>∃i l H',Inv X c l H' s'/\tn i s'.heap/\(∀b∈fp,H' b=none)/\W i n l H') ?_ m0 ⟨0,σ,H2,I2,a2,λb j=>(f2 b j).1,w0⟩;rintro n s3 ⟨i,p,H3,I3,O,Q,w3⟩;rcases L i n p H3 w3 with⟨U,qn⟩ | ⟨go,N,hN,step⟩
 .refine Lk G (aL (T.done X rfl rfl rfl hc i c s3 p H3 X.xe I3 (k Q) O U) λr s4 C=>?_);obtain⟨hr,I4⟩:=C;subst hr;exact LJ ⟨p,H3,I4,qn⟩
 .refine Lk G (aL (T.item X rfl rfl rfl hc i c s3 p H3 X.xe I3 (k Q) O go) λr s4 C=>?_);obtain⟨u,hr,h4⟩:=C;subst hr;refine Lk G (aL h4 λ_ s5 C=>?_);obtain⟨x,H5,I5,r5,y5,E,a4⟩:=C;have a5:=I5.pinned (k a4) (T.obj _ _ E);refine Lk G (aL (hg _ s5 p H5 x u _ a5 r5 (step x H5 y5)) λ_ s6 C=>?_);obtain⟨a6,H6,I6,q6⟩:=C;refine Lk G (aL (j _ s6 a6 H6 _ I6 q6) λf s7 B=>?_);have again:∀{a:St}{q:Hp},Inv X _ a q s7->N a q->∃m,m<n/\∃i l H',Inv X c l H' s7/\tn i _/\(∀b∈fp,H' b=none)/\W i m l H':=λ{a q} y Y=>by
   obtain⟨m',hm,w7⟩:=hN a q Y;refine⟨m',hm,i+1,a,q,y.unpinned,T.keep _ _ _ E λb j o e=>(y.pin _ (Jp _ (Jp _ (b8 j e)))).1,λb j=>?_,w7⟩;obtain⟨o,e,d⟩:=T.obj _ _ E b j;exact(y.pin _ (Jp _ (Jp _ (b8 j e)))).2.1
  cases f with
  | next=>obtain⟨a,q,y,Y⟩:=B;exact again y Y
  | cont=>obtain⟨a,q,y,Y⟩:=B;exact again y Y
  | brk=>obtain⟨a,q,y,B⟩:=B;exact⟨a,q,y.unpinned,B⟩
  | ret v=>obtain⟨x7,a,q,y,r7,B⟩:=B;exact⟨x7,a,q,y.unpinned,r7,B⟩
end
abbrev R2:=V->V->Hp->VK->Prop
def bO(X:Cx)(f:Iv->Iv->Sem Iv)(r:R2):Prop:=
 ∀(a:List (Addr×Obj))(s:IA)(σ:St)(H:Hp)(x y:V)(v u:Iv)(Q:VK),Inv X a σ H s->RelV x v->RelV y u->r x y H Q->
  wpAny (model X.prog X.w) X.A (f v u) (EP X a σ Q) X.xe s
def mw(X:Cx)(f:Iv->Sem Iv)(r:V->Hp->VK->Prop):Prop:=
 ∀(a:List (Addr×Obj))(s:IA)(σ:St)(H:Hp)(x:V)(v:Iv)(Q:VK),Inv X a σ H s->RelV x v->r x H Q->
  wpAny (model X.prog X.w) X.A (f v) (EP X a σ Q) X.xe s
def bg(X:Cx)(f:Iv)(r:List V->Hp->VK->Prop):Prop:=
 ∀(a:List (Addr×Obj))(s:IA)(σ:St)(H:Hp)(b:List V)(c:List Iv)(Q:VK),Inv X a σ H s->aH b c->r b H Q->
  wpAny (model X.prog X.w) X.A (call f c) (EP X a σ Q) X.xe s
noncomputable def jC(r:R2)(b c:TE):TE:=λa H Q=>b a H λx d=>c a d λy e=>r x y e Q
noncomputable def xK(r:V->Hp->VK->Prop)(a:TE):TE:=λb H Q=>a b H λx c=>r x c Q
noncomputable def rI(C:Int->Int->Prop)(g:Int->Int->V):R2:=λx y H Q=>∃i j,x=.int i/\y=.int j/\C i j/\Q (g i j) H
noncomputable def eD(g:Int->Int->V):R2:=λx y H Q=>∃i j,x=.int i/\y=.int j/\Q (g i j) H
noncomputable def rU(g:Int->V):V->Hp->VK->Prop:=λx H Q=>∃i,x=.int i/\Q (g i) H
section
variable{X:Cx}{a b c:Expr}{ta tb tc:TE}{pos:Pos}
theorem my(m:PE X a ta)(n:PE X b tb){d:List (Addr×Obj)}{s:IA}{σ:St}{H:Hp}{R:V->V->Hp->Prop}(I:Inv X d σ H s)
 (h:ta σ H λx k=>tb σ k λy e=>R x y e) {Q:Iv->IA->Prop} {f:Iv->Iv->Sem Iv}
 (o:∀v u j x y e,Inv X d σ e j->RelV x v->RelV y u->R x y e->wpAny (model X.prog X.w) X.A (f v u) Q X.xe j) :
 wpAny (model X.prog X.w) X.A (eval a X.env) (λv g=>wpAny (model X.prog X.w) X.A (eval b X.env) (λu i=>wpAny (model X.prog X.w) X.A (f v u) Q X.xe i) X.xe g) X.xe s:=by
 refine aL (m d s σ H _ I h) λv p l=>?_;obtain⟨x,k,q,r,z⟩:=l;refine aL (n d p σ k _ q z) λu j l=>?_;obtain⟨y,e,B,C,D⟩:=l;exact o v u j x y e B r C D
theorem xM{e:Operator}{r:R2}(f:bO X (binaryOp e) r)(g:PE X a ta)(i:PE X b tb):PE X (.BinOp a e b pos) (jC r ta tb):=by
 intro d s j H Q I h;exact wpAny_BinOp (my g i I h λv u k x y l m n o q=>f d k j l x y v u Q m n o q)
theorem xN{e:UnaryOp}{r:V->Hp->VK->Prop}(g:mw X (unaryOp e) r)(i:PE X a ta):PE X (.UnaryOp e a pos) (xK r ta):=by
 intro d s f H Q I h;exact UnaryOp_ (aL (i d s f H _ I h) λv j ⟨x,k,l,m,n⟩=>g d j f k x v Q l m n)
theorem iY{f:Iv->Iv->Sem Iv}{C:Int->Int->Prop}{g:Int->Int->Int}
 (rule:∀(i j:Int)(t u:Tok)(s:IA)(Q:Iv->IA->Prop)(E:Iv->IA->Prop),C i j->Q (.int (g i j) s.toks) { s with toks:=s.toks+1 }->wpAny (model X.prog X.w) X.A (f (.int i t) (.int j u)) Q E s) :
 bO X f (rI C λi j=>.int (g i j)):=by
 intro d s n H x y v u Q I e k h;obtain⟨i,j,rfl,rfl,l,q⟩:=h;obtain⟨t,rfl⟩:=e;obtain⟨m,rfl⟩:=k;exact rule i j t m s _ _ l ⟨.int _,H,I.tok _,⟨_,rfl⟩,q⟩
theorem mz{f:Iv->Iv->Sem Iv}{g:Int->Int->Int}
 (rule:∀(i j:Int)(t u:Tok)(s:IA)(Q:Iv->IA->Prop)(E:Iv->IA->Prop),Q (.int (g i j) s.toks) { s with toks:=s.toks+1 }->wpAny (model X.prog X.w) X.A (f (.int i t) (.int j u)) Q E s) :
 bO X f (eD λi j=>.int (g i j)):=by
 intro d s m H x y v u Q I e k h;obtain⟨i,j,rfl,rfl,q⟩:=h;obtain⟨t,rfl⟩:=e;obtain⟨l,rfl⟩:=k;exact rule i j t l s _ _ ⟨.int _,H,I.tok _,⟨_,rfl⟩,q⟩
theorem kF{f:Iv->Iv->Sem Iv}{g:Int->Int->Bool}
 (rule:∀(i j:Int)(t u:Tok)(s:IA)(Q:Iv->IA->Prop)(E:Iv->IA->Prop),Q (.bool (g i j)) s->wpAny (model X.prog X.w) X.A (f (.int i t) (.int j u)) Q E s) :
 bO X f (eD λi j=>.bl (g i j)):=by
 intro d s m H x y v u Q I e k h;obtain⟨i,j,rfl,rfl,q⟩:=h;obtain⟨t,rfl⟩:=e;obtain⟨l,rfl⟩:=k;exact rule i j t l s _ _ ⟨.bl _,H,I,rfl,q⟩
def qT(i j:Int):Prop:=0<j/\j<1073741824
def kG(i j:Int):Prop:=0<=j/\j<=1000000/\i.natAbs<2 ^ 64
def gE(i j:Int):Prop:=(-(2 ^ 64)<i/\i<2 ^ 64)\/(-(2 ^ 64)<j/\j<2 ^ 64)
theorem gE.ok{i j:Int}(h:gE i j):IntMulOk i j:=by
 rcases h with⟨d,e⟩ | ⟨d,e⟩
 .exact .of_left (intBits_le_64 d e)
 .exact .of_right (intBits_le_64 d e)
theorem xP(k:Nat):(0:Int)<=2 ^ k:=by
 exact LC _
theorem op_add:bO X (binaryOp .Add) (eD λi j=>.int (i+j)):=mz λ_ _ _ _ _ _ _ q=>add_int q
theorem qU:bO X (binaryOp .Sub) (eD λi j=>.int (i - j)):=mz λ_ _ _ _ _ _ _ q=>sub_int q
theorem iZ:bO X (binaryOp .Mult) (rI gE λi j=>.int (i*j)):=iY λ_ _ _ _ _ _ _ d q=>mul_int q d.ok
theorem u7:bO X (binaryOp .FloorDiv) (rI qT λi j=>.int (i / j)):=iY λi j _ _ _ _ _ d q=>by
 have e:_<j:=d.1;have f:=d.2;exact floordiv_int (by omega) (by rw[NH i (by omega)];exact q) (.inl (PyProof.noPylong_small (by omega)))
theorem T2:bO X (binaryOp .Mod) (rI (λ_ j=>0<j) λi j=>.int (i%j)):=iY λi j _ _ _ _ _ d q=>by
 exact mod_int' (by omega) (by rw[Int.fmod_eq_emod_of_nonneg i (by omega)];exact q)
theorem xQ:bO X (binaryOp .Pow) (rI kG λi j=>.int (i ^ j.toNat)):=iY λ_ _ _ _ _ _ _ d q=>pow_int_small d.1 d.2.1 d.2.2 q
theorem xR:bO X (binaryOp .LShift) (rI kG λi j=>.int (i*2 ^ j.toNat)):=iY λ_ _ _ _ _ _ _ d q=>lshift_int_small d.1 d.2.1 d.2.2 q
theorem qV:bO X (binaryOp .RShift) (rI (λ_ j=>0<=j) λi j=>.int (i / 2 ^ j.toNat)):=iY λi j _ _ _ _ _ d q=>
 rshift_int d (by rw[NH i (xP _)];exact q)
theorem qW:bO X (binaryOp .BitAnd) (eD λi j=>.int (KL.bitAnd i j)):=mz λ_ _ _ _ _ _ _ q=>and_int q
theorem xS{f:Iv->Sem Iv}{g:Int->Int}
 (rule:∀(i:Int)(t:Tok)(s:IA)(Q:Iv->IA->Prop)(E:Iv->IA->Prop),Q (.int (g i) s.toks) { s with toks:=s.toks+1 }->wpAny (model X.prog X.w) X.A (f (.int i t)) Q E s) :
 mw X f (rU λi=>.int (g i)):=by
 intro d s j H x v Q I e h;obtain⟨i,rfl,q⟩:=h;obtain⟨t,rfl⟩:=e;exact rule i t s _ _ ⟨.int _,H,I.tok _,⟨_,rfl⟩,q⟩
theorem xT:mw X (unaryOp .USub) (rU λi=>.int (-i)):=xS λ_ _ _ _ _ q=>neg_int q
theorem cz:bO X (compareOp .Lt) (eD λi j=>.bl (decide (i<j))):=kF λ_ _ _ _ _ _ _ q=>lt_int q
theorem mB:bO X (compareOp .LtE) (eD λi j=>.bl (decide (i<=j))):=kF λ_ _ _ _ _ _ _ q=>le_int q
theorem mD:bO X (compareOp .Gt) (eD λi j=>.bl (decide (j<i))):=kF λ_ _ _ _ _ _ _ q=>gt_int q
theorem xU:bO X (compareOp .GtE) (eD λi j=>.bl (decide (j<=i))):=kF λ_ _ _ _ _ _ _ q=>ge_int q
theorem bO.or{f:Iv->Iv->Sem Iv}{r e:R2}(h:bO X f r)(h':bO X f e):bO X f (λx y H Q=>r x y H Q\/e x y H Q):=by
 intro d s g H x y v u Q I i j q;rcases q with q | q
 .exact h d s g H x y v u Q I i j q
 .exact h' d s g H x y v u Q I i j q
theorem aD(b:Expr){d:Qv}(h:d≠.In:=by decide)(e:d≠.NotIn:=by decide):behindInMarks d b=false:=by
 have f:(d == Qv.In)=false:=by cases d<;>first | rfl | exact absurd rfl h
 have g:(d == Qv.NotIn)=false:=by cases d<;>first | rfl | exact absurd rfl e
 cases b<;>simp[behindInMarks,f,g]
theorem xV{e:Qv}{r:R2}(f:bO X (compareOp e) r)(g:PE X a ta)(i:PE X b tb)(j:behindInMarks e b=false):PE X (.Compare a [e] [b] pos) (jC r ta tb):=by
 intro d s k H Q I h;exact wpAny_Compare1 (my g i I h λv u l x y m n o p q=>f d l k m x y v u Q n o p q) j
noncomputable def qX(t:TE):TT:=λd H Q=>t d H λx e=>∃k,x=.bl k/\Q k e
theorem xW{f:Qv}{r:R2}(i:bO X (compareOp f) r)(j:PE X a ta)(l:PE X b tb)(m:behindInMarks f b=false):PT X (.Compare a [f] [b] pos) (qX (jC r ta tb)):=by
 intro d s g H Q I h;refine Pj (aL (j d s g H _ I h) λv n ⟨x,o,p,q,w⟩=>aL (l d n g o _ p w) λu A ⟨y,B,C,D,E⟩=>
  aL (i d A g B x y v u _ C q D E) λc O ⟨z,G,J,L,k,e,N⟩=>?_) m
 subst e;cases L;exact Kn ⟨G,J,N⟩
noncomputable def qY(r f:R2)(ta tb tc:TE):TE:=λd H Q=>ta d H λx g=>tb d g λy h=>r x y h λz e=>∃k,z=.bl k/\
 (if k=true then tc d e λi j=>f y i j Q else Q (.bl false) e)
theorem xX{j g:Qv}{r m:R2}(w:bO X (compareOp j) r)(l:bO X (compareOp g) m)(A:PE X a ta)(B:PE X b tb)(C:PE X c tc)
 (D:lastMarks [j,g] [b,c]=false:=by with_unfolding_all rfl):PE X (.Compare a [j,g] [b,c] pos) (qY r m ta tb tc):=by
 intro f s i H Q I h;refine Compare_chain (aL (A f s i H _ I h) λv E ⟨x,G,J,L,N⟩=>chain_link (aL (B f E i G _ J N) λu O ⟨y,T,U,n,Y⟩=>
  aL (w f O i T x y v u _ U L n Y) λd s3 ⟨z,o,p,r3,k,e,q⟩=>?_)) D
 subst e;cases r3;refine Kn ?_;cases k with
 | false=>exact ite_ff ⟨.bl false,o,p,rfl,q⟩
 | true=>exact ite_tt (chain_last (aL (C f s3 i o _ p q) λw' s4 ⟨z',H4,I4,r4,q4⟩=>l f s4 i H4 y z' u w' Q I4 n r4 q4))
theorem mE:(sizeLine:Nat)<2 ^ 63:=by decide
theorem o6{x:V}{d:List Iv}(r:aH [x] d):∃u,d=[u]/\RelV x u:=by
 cases r with
 | cons e f=>cases f;exact⟨_,rfl,e⟩
theorem qZ{x y:V}{d:List Iv}(r:aH [x,y] d):∃u e,d=[u,e]/\RelV x u/\RelV y e:=by
 cases r with
 | cons f g=>
   cases g with
   | cons h i=>cases i;exact⟨_,_,rfl,f,h⟩
end
structure eI(h:Heap)(x dx C:Addr)(mA:Str->Option Iv):Prop where
 obj:h.get? x=some (KZ C dx)
 ns:h.Ns1 dx mA
 ne:dx≠x
theorem xY{h:Heap}{d:Addr}{f:Str->Option Iv}(n:h.Ns1 d f):∃g,h.get? d=some g/\∀b,NW b g=some (f b):=by
 obtain⟨o,i,s,j,k,l,_,m⟩:=n;refine⟨o,j,λb=>?_⟩;have e:=m b;unfold nsFind findBy at e;rw[<-Array.find?_toList]at e;unfold NW;rw[k];dsimp only;split
 .rename_i y q;rw[q]at e;exact congrArg some e
 .rename_i q;rw[q]at e;have a:i.toList.any (·.refKey)=false:=by
   rw[List.any_eq_false];intro y p;obtain⟨z,t,c⟩:=l y (PQ.mp p);simp[Od.refKey,c]
  have r:¬i.toList.any (·.refKey)=true:=by rw[a];exact Kd
  rw[if_neg r];exact congrArg some e
theorem eI.look{h:Heap}{x c C:Addr}{d:Str->Option Iv}(I:eI h x c C d):∃b,PySem.W.InstAt h x (KZ C c) C (some b)/\∀a,NW a b=some (d a):=
 let⟨b,e,f⟩:=xY I.ns
 ⟨b,⟨I.obj,rfl,rfl,e⟩,f⟩
section
variable{prog:IV}{w:JB}{A:Jx}{E:Iv->IA->Prop}{s:IA}{K:Iw}{x dx C f:Addr}{mA:Str->Option Iv}{name:Str}{v:Iv}
theorem xZ{a:Bool}{Q:Iv->IA->Prop}(X:K.In s.heap)(I:eI s.heap x dx C mA)(c:MX K C name=true)(d:Oe K C=true)
 (e:KA K (.ref C) name=some none) (g:mA name=some v) (b:PySem.W.handedIn v=true) (h:Q v { s with toks:=s.toks+1 }) :
 wpAny (model prog w) A (getAttr (.ref x) name a) Q E s:=by
 obtain⟨j,J,i⟩:=I.look;exact PySem.W.get_value X J (Nx c).1 (PySem.W.findObj_own d e rfl (by rw[i,g])) b h
theorem ya{b:Sem Bool}{Q:Iv×List Iv->IA->Prop}(X:K.In s.heap)(I:eI s.heap x dx C mA)(a:MX K C name=true)
 (c:KA K (.ref C) name=some (some (.ref f))) (d:Qn K (.ref f)=true) (e:mA name=none) (h:Q (.ref f,[.ref x]) s) :
 wpAny (model prog w) A (getMethod (.ref x) name b) Q E s:=by
 obtain⟨g,J,i⟩:=I.look;exact PySem.W.method_fn X J (Nx a).1 (Nx a).2 c (beq_iff_eq.mp d) (by show(NW name g).map _=some false;rw[i,e];rfl) h
theorem yb{ns:List Str}{Q:Unit->IA->Prop}(X:K.In s.heap)(I:eI s.heap x dx C mA)
 (hs:KA K (.ref C) "__setattr__" = some (some (.builtin "object.__setattr__"))) (hp:PySem.W.plainOver K C=true) (ht:Pk K C name=some none) (hh:Oe K C=true)
 (hw:NN mA ns) (hsz:ns.length<=sizeLine)
 (h:∀h',eI h' x dx C (λy=>if y=name then some v else mA y)->JS dx s.heap h'->Q () { s with heap:=h',toks:=s.toks+2 }) :
 wpAny (model prog w) A (setAttr (.ref x) name v) Q E s:=by
 obtain⟨od,J,hl⟩:=I.look;refine PySem.W.set_plain X J hs (PySem.W.osa_open X J hp ht λb=>?_);obtain⟨cd,hc,hd'⟩:=PySem.W.any_some hh;have hx:=I.obj;refine Ir (Iy (Ir (Ir (wpAny_loadPart hx (Ir (PySem.W.Looks.here (PySem.W.looks_clsIn X hc) ?_))))));rw[hd'];refine Iy (Ir (Iy (Ir ?_)));refine wpAny_nsSet1 I.ns λh' hn2 hs2=>?_;obtain⟨oD,esD,epD,hoD,hdD,hcD⟩:=hn2.count (NN.cons name v hw);refine Ir (wpAny_lookBehind hoD (by rw[hdD];exact pastItsLine_dict (Jd hcD (by rw[J2];omega))) ?_);exact Iy (h _ ⟨(hs2.2 _ (KP I.ne)).trans I.obj,hn2,I.ne⟩ hs2)
theorem yc{R:Qo->IA->Prop}{vs:List Iv}{b:List (Str×Iv)}(X:K.In s.heap)(d:PySem.W.makesIn K C=true)
 (e:KA K (.ref C) "__init__" = some (some (.ref f))) (g:PySem.W.typeIn K (.ref f)=some (.type "function"))
 (h:codeAny (model prog w) (A.under (.builtin "type.__call__" ⟨.ref C::vs,b⟩)) (.call (.ref f) ⟨.ref (s.heap.objs.size+1)::vs,b⟩) (PySem.W.InitBack (s.heap.objs.size+1) R)
  { s with heap:=(s.heap.push Ll).push (KZ C s.heap.objs.size) }) :
 codeAny (model prog w) A (.call (.ref C) ⟨vs,b⟩) R s:=by
 exact PySem.W.make_core (PySem.W.makes_of X d) (PR X e) (λa=>PySem.W.bind_fn X a g) (.inl rfl) h
end
noncomputable def Z3(f:Str)(v:V):List (Str×V)->List (Str×V)
 | []=>[(f,v)]
 | (g,x)::r=>if g=f then(g,v)::r else(g,x)::Z3 f v r
theorem q7(f g:Str)(v:V):∀fs:List (Str×V),(Z3 f v fs).lookup g=if g=f then some v else fs.lookup g
 | []=>by
   show Mg g [(f,v)]=_;by_cases h:g=f
   .have a:(g == f)=true:=beq_iff_eq.mpr h;simp only[Mg,a,if_pos h]
   .have a:(g == f)=false:=beq_eq_false_iff_ne.mpr h;simp only[Mg,a,if_neg h]
 | (k,x)::r=>by
   have ih:=q7 f g v r;rw[show Z3 f v ((k,x)::r)=(if k=f then(k,v)::r else(k,x)::Z3 f v r)from rfl];by_cases b:k=f
   .rw[if_pos b];by_cases h:g=k
    .have a:(g == k)=true:=beq_iff_eq.mpr h;simp only[Mg,a,if_pos (h.trans b)]
    .have a:(g == k)=false:=beq_eq_false_iff_ne.mpr h;simp only[Mg,a,if_neg (λe:g=f=>h (e.trans b.symm))]
   .rw[if_neg b];by_cases h:g=k
    .have a:(g == k)=true:=beq_iff_eq.mpr h;simp only[Mg,a,if_neg (λe:g=f=>b (h.symm.trans e))]
    .have a:(g == k)=false:=beq_eq_false_iff_ne.mpr h;simp only[Mg,a];exact ih
theorem mF(f:Str)(v:V):∀fs:List (Str×V),f∈(Z3 f v fs).map (·.1)/\∀g,g∈fs.map (·.1)->g∈(Z3 f v fs).map (·.1)
 | []=>⟨by simp[Z3],λg h=>by simp at h⟩
 | (k,x)::r=>by
   obtain⟨b,c⟩:=mF f v r;rw[show Z3 f v ((k,x)::r)=(if k=f then(k,v)::r else(k,x)::Z3 f v r)from rfl];by_cases a:k=f
   .rw[if_pos a];subst a;exact⟨by simp,λg h=>by simpa using h⟩
   .rw[if_neg a];refine⟨?_,λg h=>?_⟩
    .rw[Jb];exact IF _ b
    .rw[Jb]at h ⊢;rcases IH.mp h with e | e
     .exact IH.mpr (.inl e)
     .exact IF _ (c g e)
theorem rd(f:Str)(v:V):∀fs:List (Str×V),(Z3 f v fs).length<=fs.length+1
 | []=>by simp[Z3]
 | (k,x)::r=>by
   have ih:=rd f v r;rw[show Z3 f v ((k,x)::r)=(if k=f then(k,v)::r else(k,x)::Z3 f v r)from rfl];by_cases a:k=f
   .rw[if_pos a,J2,J2];omega
   .rw[if_neg a,J2,J2];omega
theorem bH.some_of{v:V}{o:Option Iv}(r:bH (some v) o):∃u,o=some u/\RelV v u:=by
 cases o with
 | none=>exact(show False from r).elim
 | some u=>exact⟨u,rfl,r⟩
theorem bH.none_of{o:Option Iv}(r:bH none o):o=none:=by
 cases o with
 | none=>rfl
 | some u=>exact(show False from r).elim
theorem yd{v:V}{u:Iv}(r:RelV v u):PySem.W.handedIn u=true:=by
 cases v with
 | non=>cases(show u=_ from r);rfl
 | bl b=>cases(show u=Qk b from r);rfl
 | int i=>obtain⟨t,e⟩:=(show ∃t,u=Ph i t from r);cases e;rfl
 | str x=>obtain⟨t,e⟩:=(show ∃t,u=Qe x t from r);cases e;rfl
 | byt b=>obtain⟨t,e⟩:=(show ∃t,u=Iv.bytes b t from r);cases e;rfl
 | flt b=>obtain⟨t,e⟩:=(show ∃t,u=Qu b t from r);cases e;rfl
 | ref a=>cases(show u=IS a from r);rfl
 | ty n=>cases(show u=Iv.type n from r);rfl
section
variable{P:IV}{w:JB}{H H':Hp}{h h':Heap}{a C dx:Addr}{fs fs':List (Str×V)}
theorem kH(c:bI P w H h)(e:H a=some (.ins C dx fs)):∃b,eI h a dx C b/\(∀f,bH (fs.lookup f) (b f))/\NN b (fs.map (·.1))/\fs.length<=1000/\H dx=some (.own a):=by
 obtain⟨d,z,ne,g,b,n,r,q⟩:=(show aK P w H h a _ from c a _ e);exact⟨b,⟨g,n,ne⟩,r,q,z,d⟩
end
structure dS(K:Iw)(C:Addr):Prop where
 pg:MX K C Str.empty=true
 hd:Oe K C=true
 po:PySem.W.plainOver K C=true
 sa:KA K (.ref C) "__setattr__" = some (some (.builtin "object.__setattr__"))
theorem dS.get{K:Iw}{C:Addr}(c:dS K C)(f:Str):MX K C f=true:=c.pg
def bB(K:Iw)(C:Addr)(f:Str):Prop:=KA K (.ref C) f=some none
theorem bB.taker{K:Iw}{C:Addr}{f:Str}(n:bB K C f):Pk K C f=some none:=by
 unfold Pk;rw[show KA K _ f=some none from n];rfl
structure hJ(K:Iw)(C:Addr)(m:Str)(f:Addr):Prop where
 at_:KA K (.ref C) m=some (some (.ref f))
 fn:Qn K (.ref f)=true
 kp:KU K (.ref f)=true
section
variable{X:Cx}{pins:List (Addr×Obj)}{σ:St}{H:Hp}{s:IA}{a C dx:Addr}{fs:List (Str×V)}{f:Str}{v:V}{A:Jx}{E:Iv->IA->Prop}
theorem ye{b:Bool}{Q:Iv->IA->Prop}(I:Inv X pins σ H s)(e:H a=some (.ins C dx fs))(c:dS X.K C)(n:bB X.K C f)(l:fs.lookup f=some v)
 (h:∀u d,Inv X pins σ H d->RelV v u->Q u d):wpAny (model X.prog X.w) A (getAttr (.ref a) f b) Q E s:=by
 obtain⟨j,O,r,_,_,_⟩:=kH I.hok e;obtain⟨u,i,g⟩:=bH.some_of (by rw[<-l];exact r f);exact xZ I.kIn O (c.get f) c.hd n i (yd g) (h u _ (I.tok _) g)
theorem p6{m:Str}{g:Addr}{b:Sem Bool}{Q:Iv×List Iv->IA->Prop}(I:Inv X pins σ H s)(e:H a=some (.ins C dx fs))(c:dS X.K C)(k:hJ X.K C m g)(l:fs.lookup m=none)
 (h:Q (.ref g,[.ref a]) s):wpAny (model X.prog X.w) A (getMethod (.ref a) m b) Q E s:=by
 obtain⟨i,O,r,_,_,_⟩:=kH I.hok e;have d:=bH.none_of (by rw[<-l];exact r m);exact ya I.kIn O (c.get m) k.at_ k.fn d h
theorem yf{y:V}{u:Iv}{Q:Unit->IA->Prop}(I:Inv X pins σ H s)(e:H a=some (.ins C dx fs))(c:dS X.K C)(n:bB X.K C f)(N:fs.length<1000)(l:RelV y u)
 (h:∀i,Inv X pins σ (aI H a (.ins C dx (Z3 f y fs))) i->Q () i):wpAny (model X.prog X.w) A (setAttr (.ref a) f u) Q E s:=by
 obtain⟨m,O,r,j,_,k⟩:=kH I.hok e;have p:(fs.map (·.1)).length<=sizeLine:=by rw[Iz,MI];omega
 refine yb I.kIn O c.sa c.po n.taker c.hd j p λx d B=>h _ ?_;have D:∃o,x.get? dx=some o:=let⟨o,_,_,G,_⟩:=d.ns;⟨o,G⟩;refine I.write (by rw[e];exact Lm) (.inr k) (λb q J z=>(B.2 b J).trans z) D ?_;refine⟨by rw[aq O.ne];exact k,?_,O.ne,d.obj,_,d.ns,λg=>?_,λg L=>?_⟩
 .have:=rd f y fs;omega
 .show bH _ _;rw[q7];by_cases q:g=f
  .rw[if_pos q,if_pos q];exact l
  .rw[if_neg q,if_neg q];exact r g
 .by_cases q:g=f
  .rw[q];exact(mF f y fs).1
  .refine(mF f y fs).2 g (j g λz=>L ?_);show(if g=f then some u else m g)=none;rw[if_neg q];exact z
theorem Inv.made(I:Inv X pins σ H s):Inv X pins σ (aI (aI H s.heap.objs.size (.own (s.heap.objs.size+1))) (s.heap.objs.size+1) (.ins C s.heap.objs.size []))
 { s with heap:=(s.heap.push Ll).push (KZ C s.heap.objs.size) }:=by
 have d:(s.heap.push _).get? _=some Ll:=IG _ rfl;have g:((s.heap.push Ll).push (KZ C s.heap.objs.size)).get? (s.heap.objs.size+1)=some (KZ C s.heap.objs.size):=by
  have:=IG (s.heap.push Ll) (o:=KZ C s.heap.objs.size) rfl
  rwa [JH]at this
 have h:(s.heap.push _).Ns _ _:=⟨Ll,#[],_,d,rfl,(λe i=>absurd i (by simp)),λ_=>rfl⟩;have j:=I.laid (o:=.own (s.heap.objs.size+1)) (t':=s.toks) (λb u q=>Iu _ q) (IC _) ⟨_,d⟩;refine j.laid (λb u q=>Iu _ q) (Pl (JH _ _)) ?_;have ne:_≠s.heap.objs.size+1:=IL (JX _);refine⟨by rw[aq ne,C7],Kl _,ne,g,λ_=>none,(Heap.Ns1.of_empty h).at λo q=>Iu _ q,λ_=>Lm,λy k=>absurd rfl k⟩
theorem yg{prog:IV}{w:JB}{b:Env}{e:Expr}{f:Str}{pos:Pos}{s:IA}{Q:Iv->IA->Prop}(d:attributeBase e f b (eval e b)=eval e b)
 (h:wpAny (model prog w) A (eval e b) (λo c=>wpAny (model prog w) A (getAttr o f true) Q E c) E s):wpAny (model prog w) A (eval (.Attribute e f pos) b) Q E s:=
 Attribute_any_ h (by rw[arm_eval_Attribute,d])
end
noncomputable def yh(K:Iw)(c:TE)(f:Str):TE:=λd H Q=>c d H λx b=>∃a C e fs v,x=.ref a/\b a=some (.ins C e fs)/\dS K C/\bB K C f/\fs.lookup f=some v/\Q v b
noncomputable def sFld(K:Iw)(e tv:TE)(f:Str):TS:=λD b H=>tv b H λy g=>e b g λx c=>∃a C d fs,x=.ref a/\c a=some (.ins C d fs)/\dS K C/\bB K C f/\fs.length<1000/\
 D.nx b (aI c a (.ins C d (Z3 f y fs)))
section
variable{X:Cx}{o e value:Expr}{f:Str}{pos pos' tpos:Pos}{ta tv:TE}
theorem yi(he:PE X e ta)(d:attributeBase e f X.env (eval e X.env)=eval e X.env):PE X (.Attribute e f pos) (yh X.K ta f):=by
 intro b s g H Q I h;refine yg d (aL (he b s g H _ I h) λu z i=>?_);obtain⟨x,j,k,m,a,C,A,fs,v,p,r,c,n,l,q⟩:=i;subst p;obtain rfl:u=IS a:=m;exact ye k r c n l λB D w y=>⟨v,j,w,y,q⟩
theorem yj(g:PE X o ta)(i:PE X value tv)(hs:swapsWith value (some (.Attribute o f pos')) pos.line X.env=pure false):PS X (.Assign [.Attribute o f pos'] value pos) (sFld X.K ta tv f):=by
 intro b s d H D I h;refine MJ (aL (i b s d H _ I h) λu j ⟨y,k,m,p,q⟩=>aL (g b j d k _ m q) λov G r=>?_) hs;obtain⟨x,J,v,w,a,C,L,fs,z,A,c,n,l,B⟩:=r;subst z;obtain rfl:ov=IS a:=w;exact yf v A c n l p λN E=>⟨d,_,E,B⟩
end
section
variable{X:Cx}{pins:List (Addr×Obj)}{σ:St}{H:Hp}{s:IA}{A:Jx}{E:Iv->IA->Prop}{Q:Iv->IA->Prop}{c:Iv}{b:Bool}
inductive fb (K:Iw) (H:Hp):V->Iv->Prop where
 | non:fb K H .non (.type "NoneType")
 | bl (x:Bool):fb K H (.bl x) (.type "bool")
 | int (i:Int):fb K H (.int i) (.type "int")
 | str (x:Str):fb K H (.str x) (.type "str")
 | flt (x:UInt64):fb K H (.flt x) (.type "float")
 | lst {a:Addr} {xs:List V} (e:H a=some (.lst xs)):fb K H (.ref a) (.type "list")
 | frz {a:Addr} {o:Obj} {xs:List V} (e:H a=some (.frz o (.lst xs))):fb K H (.ref a) (.type "list")
 | tup {a:Addr} {xs:List V} (e:H a=some (.tup xs)):fb K H (.ref a) (.type "tuple")
 | dK {a:Addr} {kvs:List (Key×V)} (e:H a=some (.dK kvs)):fb K H (.ref a) (.type "dict")
 | dT {a:Addr} {kvs:List (List Key×V)} (e:H a=some (.dT kvs)):fb K H (.ref a) (.type "dict")
 | ins {a C dx:Addr} {fs:List (Str×V)} (e:H a=some (.ins C dx fs)) (cl:dS K C) (ha:KA K (.ref C) "__class__" = some (some (.builtin "object.__class__")))
  (hn:PySem.W.specialIn K (.builtin "object.__class__") "__get__" = some (some (.builtin "getset_descriptor.__get__"))) (htk:PySem.W.takesIn K (.builtin "object.__class__")=some true)
  (hm:PySem.W.mroIn K C (.type "object")=some true):fb K H (.ref a) (.ref C)
theorem yk{x:V}{u t:Iv}(I:Inv X pins σ H s)(d:RelV x u)(v:fb X.K H x t)(e:PySem.W.kitOne X.K t c=some b)(h:∀z,Q (.bool b) { s with toks:=z }) :
 wpAny (model X.prog X.w) A (call (.builtin "isinstance") [u,c]) Q E s:=by
 cases v with
 | non=>cases(show u=_ from d);exact Kg PySem.W.kitx_none I.kIn Lm e nofun h
 | bl y=>cases(show u=Qk y from d);exact Kg PySem.W.kitx_bool I.kIn Lm e nofun h
 | int i=>obtain⟨t,q⟩:=(show ∃t,u=Ph i t from d);cases q;exact Kg PySem.W.kitx_int I.kIn Lm e nofun h
 | str y=>obtain⟨t,q⟩:=(show ∃t,u=Qe y t from d);cases q;exact Kg PySem.W.kitx_str I.kIn Lm e nofun h
 | flt y=>obtain⟨t,q⟩:=(show ∃t,u=Qu y t from d);cases q;exact Kg PySem.W.kitx_float I.kIn Lm e nofun h
 | @lst a k f=>
   cases(show u=IS a from d);obtain⟨_,_,n,_,g⟩:=(show aK _ X.w H _ a _ from I.hok a _ f);exact Kg PySem.W.kitx_list I.kIn ⟨_,g,rfl⟩ e nofun h
 | @frz a T k f=>
   cases(show u=IS a from d);obtain⟨_,_,_,n,_,g⟩:=(show aK _ X.w H _ a _ from I.hok a _ f);exact Kg PySem.W.kitx_list I.kIn ⟨_,g,rfl⟩ e nofun h
 | @tup a k f=>
   cases(show u=IS a from d);obtain⟨_,_,_,p⟩:=(show aK _ X.w H _ a _ from I.hok a _ f);obtain⟨o,g,j,_⟩:=p;exact Kg PySem.W.kitx_tuple I.kIn ⟨o,g,j⟩ e nofun h
 | @dK a l f=>
   cases(show u=IS a from d);obtain⟨_,_,U,_,p⟩:=(show aK _ X.w H _ a _ from I.hok a _ f);obtain⟨o,B,D,g,j,_⟩:=p;exact Kg PySem.W.kitx_dict I.kIn ⟨o,g,j.1⟩ e nofun h
 | @dT a l f=>
   cases(show u=IS a from d);obtain⟨_,_,k,_,o,B,D,g,j,_⟩:=(show aK _ X.w H _ a _ from I.hok a _ f);exact Kg PySem.W.kitx_dict I.kIn ⟨o,g,j.1⟩ e nofun h
 | @ins a C Y fs f r G L m N=>
   cases(show u=IS a from d);obtain⟨mA,O,_⟩:=kH I.hok f;obtain⟨od,J,_⟩:=O.look;exact Kg (PySem.W.kitx_own (r.get _) r.hd G L m N) I.kIn J e nofun h
end
structure aM(k:Nat)(A:Jx):Prop where
 hd:A.handled=none
 dp:A.depth+3*k+5<recursionLimit
 un:A.units+16*k+200<cLine
theorem aM.mono{j k:Nat}{A:Jx}(r:aM k A)(h:j<=k):aM j A:=⟨r.hd,by have:=r.dp;omega,by have:=r.un;omega⟩
theorem aM.deeper{k:Nat}{A:Jx}(r:aM (k+1) A)(a:Env):aM k (A.deeper a):=
 ⟨r.hd,by have:=r.dp;show _+1+3*k+5<_;omega,by have:=r.un;show _+3+16*k+200<_;omega⟩
theorem yl{A:Jx}{C:Addr}{a:List Iv}{b:List (Str×Iv)}:(A.under (.builtin "type.__call__" ⟨.ref C::a,b⟩)).depth=A.depth+1:=rfl
theorem ym{A:Jx}{C:Addr}{a:List Iv}{b:List (Str×Iv)}:(A.under (.builtin "type.__call__" ⟨.ref C::a,b⟩)).units=A.units+1:=rfl
theorem aM.make{k:Nat}{A:Jx}(r:aM (k+1) A)(C:Addr)(a:List Iv)(b:List (Str×Iv)):aM k (A.under (.builtin "type.__call__" ⟨.ref C::a,b⟩)):=
 ⟨r.hd,by have:=r.dp;rw[yl];omega,by have:=r.un;rw[ym];omega⟩
theorem aM.depth{k:Nat}{A:Jx}(r:aM k A):A.depth<recursionLimit:=by have:=r.dp;omega
theorem aM.units{k:Nat}{A:Jx}(r:aM k A):A.units+64<cLine:=by have:=r.un;omega
noncomputable def tNil:TA:=λ_ H Q=>Q [] H
noncomputable def yn(b:TE)(c:TA):TA:=λa H Q=>b a H λx d=>c a d λe f=>Q (x::e) f
section
variable{X:Cx}{e:Expr}{es:List Expr}{te:TE}{t:TA}{pos:Pos}
theorem rf:PA X [] tNil:=λ_ _ _ _ H Q I h=>LO ⟨[],H,I,.nil,h⟩
theorem mG(c:PE X e te)(d:PA X es t)(hs:starEach (e::es) X.env=(false,eval e X.env)::starEach es X.env:=by rfl):PA X (e::es) (yn te t):=by
 intro pos a s b H Q I h;rw[hs];show wpAny _ _ (spliced ((false,eval e _)::backTo pos _)) _ _ s;refine KH (aL (c a s b H _ I h) λu f g=>?_);obtain⟨x,i,j,k,l⟩:=g;exact aL (d pos a f b i _ j l) λr v ⟨m,n,o,p,q⟩=>⟨x::m,n,o,.cons k p,q⟩
noncomputable def yo(t:TA):TE:=λc H Q=>t c H λa b=>a.length<=sizeLine/\∀p,b p=none->Q (.ref p) (aI b p (.tup a))
noncomputable def yp(t:TA):TE:=λc H Q=>t c H λa b=>a.length<=sizeLine/\∀p,b p=none->Q (.ref p) (aI b p (.lst a))
theorem yq{f}(h:PA X es t):PE X (.Tuple es f pos) (yo t):=by
 intro a s g H Q I i;refine wpAny_Tuple_spliced (aL (h pos a s g H _ I i) λj l ⟨m,c,d,r,z,q⟩=>⟨by rw[<-r.length];exact z,?_⟩);have k:c _=none:=d.hok.fresh (IC _);refine⟨.ref _,aI c _ _,d.laid (λb u e=>Iu _ e) (IC _) ?_,rfl,q _ k⟩;exact⟨z,j,r,⟨_,IG _ rfl,rfl,_,rfl⟩⟩
theorem yr(h:PA X es t):PE X (.List es pos) (yp t):=by
 intro a s f H Q I g;refine wpAny_List_spliced (aL (h pos a s f H _ I g) λi k ⟨l,c,d,r,z,q⟩=>⟨by rw[<-r.length];exact z,?_⟩);have j:c _=none:=d.hok.fresh (IC _);refine⟨.ref _,aI c _ _,d.laid (λb u e=>Iu _ e) (IC _) ?_,rfl,q _ j⟩;exact⟨z,i,0,r,IG _ rfl⟩
end
abbrev Sp:=List V->Hp->VK->XK->Prop
abbrev CXT:=List Env->Hp->IA->XK->Iv->IA->Prop
structure eJ(P:IV)(w:JB)(K:Iw)(mg:Str->Option Iv)(base:Heap)(A:Jx)(outer:List Env)(s:IA)(H:Hp):Prop where
 frames:A.frames=some outer
 mod:Mod K mg base
 bs:∀b o,base.get? b=some o->s.heap.get? b=some o/\H b=none
 bsz:base.objs.size<=s.heap.objs.size
 funs:s.heap.FunFrames base outer
 frf:∀b∈frs outer,H b=none
 hok:bI P w H s.heap
 bare:Oz s.gens
def CE(a:List Env)(P:IV)(w:JB)(H:Hp)(s:IA)(Q:VK)(u:Iv)(b:IA):Prop:=
 ∃v c,b.os=s.os/\Oz b.gens/\Un (frs a) [] H c s.heap b.heap/\bI P w c b.heap/\RelV v u/\Q v c
def CR(c:CXT)(a:List Env)(P:IV)(w:JB)(H:Hp)(s:IA)(Q:VK)(E:XK)(r:Qo)(b:IA):Prop:=
 match r with
 | .ok (.ret u)=>CE a P w H s Q u b
 | .ok _=>False
 | .error e=>c a H s E e b
structure aE(P:IV)(w:JB)(K:Iw)(mg:Str->Option Iv)(base:Heap)(CX:CXT)(k:Nat)(f:Addr)(fd:IY)(ps:List Str)(sp:Sp):Prop where
 len:∀vs H Q E,sp vs H Q E->vs.length=ps.length
 run:∀(A:Jx)(outer:List Env)(s:IA)(H:Hp)(args:Args)(us:List Iv)(vs:List V)(Q:VK)(E:XK),aM k A->eJ P w K mg base A outer s H->QJ s fd args (ps.zip us)->aH vs us->sp vs H Q E->
  codeAny (model P w) A (.call (.ref f) args) (CR CX outer P w H s Q E) s
theorem aE.imp{P:IV}{w:JB}{K:Iw}{mg:Str->Option Iv}{base:Heap}{e:CXT}{k:Nat}{f:Addr}{g:IY}{ps:List Str}{i c:Sp}(F:aE P w K mg base e k f g ps i)
 (h:∀b H Q E,c b H Q E->i b H Q E):aE P w K mg base e k f g ps c:=
 ⟨λb H Q E q=>F.len b H Q E (h _ _ _ _ q),λA a s H d j b Q E l m n o p=>F.run A a s H d j b Q E l m n o (h _ _ _ _ p)⟩
theorem eJ.make{P:IV}{w:JB}{K:Iw}{mg:Str->Option Iv}{base:Heap}{A:Jx}{a:List Env}{s:IA}{H:Hp}(e:eJ P w K mg base A a s H)(C:Addr)(b:List Iv)(c:List (Str×Iv)) :
 eJ P w K mg base (A.under (.builtin "type.__call__" ⟨.ref C::b,c⟩)) a s H:=⟨by first | exact e.frames | (simpa[_]using _),e.mod,e.bs,e.bsz,e.funs,e.frf,e.hok,e.bare⟩
section
variable{X:Cx}{pins:List (Addr×Obj)}{σ:St}{H:Hp}{s s':IA}
theorem Inv.env0(I:Inv X pins σ H s):eJ X.prog X.w X.K X.mg X.base X.A X.stack s H:=
 ⟨I.ok.frames,I.ok.mod,I.bs,Jd I.ok.bsz I.sz,I.stack,I.stkFree,I.hok,I.bare⟩
theorem Inv.after{Q:VK}{u:Iv}(I:Inv X pins σ H s)(h:CE X.stack X.prog X.w H s Q u s'):EP X pins σ Q u s':=by
 obtain⟨v,f,os,a,un,c,r,q⟩:=h;obtain⟨i,g,d,t,e⟩:=s';obtain rfl:e=s.os:=os;exact⟨v,f,I.call un c a (λb z=>absurd z (by simp)),r,q⟩
end
noncomputable def rg(b:Sp)(a:List V)(E:XK)(t:TA):TE:=λc H Q=>t c H λd e=>b (d++a) e Q E
noncomputable def mH(C:Addr)(m:Str)(e:Sp)(b:List V)(E:XK)(f:TE)(t:TA):TE:=λc H Q=>f c H λx d=>∃a g fs,x=.ref a/\d a=some (.ins C g fs)/\fs.lookup m=none/\
 t c d λh i=>e (x::(h++b)) i Q E
noncomputable def rh(C:Addr)(d:Sp)(b:List V)(E:XK)(t:TA):TE:=λe H Q=>t e H λf c=>∀x a,c x=none->c a=none->a≠x->
 d (.ref x::(f++b)) (aI (aI c a (.own x)) x (.ins C a [])) (λv g=>v=.non/\Q (.ref x) g) E
def Binds(K:Iw)(c:IY)(ps:List Str)(b:List Iv):Prop:=
 ∀(s:IA)(a:List Iv),K.In s.heap->(a++b).length=ps.length->QJ s c ⟨a,[]⟩ (ps.zip (a++b))
theorem Binds.all{K:Iw}{b:IY}{ps:List Str}(h:∀a:List Iv,a.length=ps.length->bindArgs b ⟨a,[]⟩=pure (ps.zip a)):Binds K b ps []:=λs a _ c=>by
 rw[Kh]at c ⊢;exact .of_eq (h a c)
def p9(c:CXT)(X:Cx)(E:XK):Prop:=∀(a:List (Addr×Obj))(σ:St)(H:Hp)(s:IA)(e:Iv)(b:IA),Inv X a σ H s->c X.stack H s E e b->X.xe e b
section
variable{X:Cx}{CX:CXT}{k:Nat}{f C:Addr}{fd:IY}{ps:List Str}{sp:Sp}{dvs:List V}{ds:List Iv}{E:XK}{x m:Str}{p pos apos:Pos}{e o:Expr}{es:List Expr}{ta:TE}{t:TA}
theorem mI{a:List (Addr×Obj)}{σ:St}{H:Hp}{s:IA}{Q:VK}{b:List Iv}{vs:List V}(F:aE X.prog X.w X.K X.mg X.base CX k f fd ps sp)(g:aM k X.A)(i:Binds X.K fd ps ds)(j:aH dvs ds)(l:p9 CX X E)
 (I:Inv X a σ H s) (r:aH vs b) (h:sp (vs++dvs) H Q E):wpAny (model X.prog X.w) X.A (call (.ref f) b) (EP X a σ Q) X.xe s:=by
 have d:=r.append j;have n:(b++ds).length=ps.length:=by rw[<-d.length];exact F.len _ _ _ _ h
 refine MK (KW (F.run X.A _ s H ⟨b,[]⟩ _ _ Q E g I.env0 (i s b I.kIn n) d h) λr q c=>?_);cases r with
 | error e=>exact l a σ H s e q I c
 | ok v=>
   cases v with
   | ret u=>exact I.after c
   | next=>exact Je c
   | brk=>exact Je c
   | cont=>exact Je c
theorem yt(F:aE X.prog X.w X.K X.mg X.base CX k f fd ps sp)(g:aM k X.A)(i:Gl X x)(j:X.mg x=some (.ref f))(l:KU X.K (.ref f)=true)(n:Binds X.K fd ps ds)(u:aH dvs ds)(v:p9 CX X E)
 (y:PA X (e::es) t) (b:(x == ("__debug__" : Str))=false:=by decide) (he:starEach (e::es) X.env=(false,eval e X.env)::starEach es X.env:=by rfl) (c:(backTo pos (starEach es X.env)).any (·.1)=false:=by rfl) :
 PE X (.Call (.Name x p) (e::es) [] pos) (rg sp dvs E t):=by
 intro a s z H Q I h;refine LF (u6 I i j ?_ b);refine LG (h₀:=_) I.ok.mod.kin l (aL (y pos a s z H _ I h) λB D ⟨G,J,d,r,q⟩=>⟨d.kIn,?_⟩) he c;exact mI F g n u v d r q
theorem yw{y:Sem Bool}(he:PE X o ta)(c:dS X.K C)(i:hJ X.K C m f)(F:aE X.prog X.w X.K X.mg X.base CX k f fd ps sp)(z:aM k X.A)(B:Binds X.K fd ps ds)(D:aH dvs ds)(G:p9 CX X E)(J:PA X (e::es) t)
 (d:starEach (e::es) X.env=(false,eval e X.env)::starEach es X.env:=by rfl) (g:(backTo pos (starEach es X.env)).any (·.1)=false:=by rfl)
 (L:eval (.Call (.Attribute o m apos) (e::es) [] pos) X.env=(do
  let ov <-eval o X.env
  standAt apos.atName
  let(f,first) <-holding [ov] (getMethod ov m y)
  callWith pos f first (backTo pos (starEach (e::es) X.env)) (backToKw pos (keywordEach [] X.env))):=by rfl) :
 PE X (.Call (.Attribute o m apos) (e::es) [] pos) (mH C m sp dvs E ta t):=by
 intro b s j H Q I h;refine MQ (aL (he b s j H _ I h) λu N O=>?_) L;obtain⟨x,T,n,U,a,dx,fs,Y,ea,l,q⟩:=O;subst Y;obtain rfl:u=IS a:=U;refine p6 n ea c i l ?_;refine LG I.ok.mod.kin i.kp (aL (J pos b N j T _ n q) λus s2 ⟨vs,H2,v,r,q2⟩=>⟨v.kIn,?_⟩) d g;exact mI (vs:=.ref a::vs) F z B D G v (.cons rfl r) q2
theorem yx{i:Sem Bool}(he:PE X o ta)(c:dS X.K C)(g:hJ X.K C m f)(F:aE X.prog X.w X.K X.mg X.base CX k f fd ps sp)(j:aM k X.A)(n:Binds X.K fd ps ds)(r:aH dvs ds)(v:p9 CX X E)
 (y:eval (.Call (.Attribute o m apos) [] [] pos) X.env=(do
  let ov <-eval o X.env
  standAt apos.atName
  let(f,first) <-holding [ov] (getMethod ov m i)
  callWith pos f first (backTo pos (starEach [] X.env)) (backToKw pos (keywordEach [] X.env))):=by rfl) :
 PE X (.Call (.Attribute o m apos) [] [] pos) (mH C m sp dvs E ta tNil):=by
 intro b s z H Q I h;refine MQ (aL (he b s z H _ I h) λu L B=>?_) y;obtain⟨x,N,d,D,a,O,fs,G,J,l,q⟩:=B;subst G;obtain rfl:u=IS a:=D;refine p6 d J c g l ?_;exact PySem.W.callWith_K0 d.kIn g.kp (mI (vs:=[.ref a]) F j n r v d (.cons rfl .nil) q)
structure Mk(K:Iw)(C f:Addr):Prop where
 makes:PySem.W.makesIn K C=true
 init:KA K (.ref C) "__init__" = some (some (.ref f))
 fn:Qn K (.ref f)=true
 kp:KU K (.ref C)=true
theorem yy{a:List (Addr×Obj)}{σ:St}{H:Hp}{s:IA}{Q:VK}{c:List Iv}{vs:List V}(M:Mk X.K C f)(F:aE X.prog X.w X.K X.mg X.base CX k f fd ps sp)(l:aM (k+1) X.A)(n:Binds X.K fd ps ds)(q:aH dvs ds)
 (y:p9 CX X E) (I:Inv X a σ H s) (r:aH vs c)
 (h:∀x d,H x=none->H d=none->d≠x->sp (.ref x::(vs++dvs)) (aI (aI H d (.own x)) x (.ins C d [])) (λv z=>v=.non/\Q (.ref x) z) E) :
 wpAny (model X.prog X.w) X.A (call (.ref C) c) (EP X a σ Q) X.xe s:=by
 have i:=h _ _ (I.hok.fresh (Mh _)) (I.hok.fresh (IC _)) (IL (JX _));have g:=Inv.made (C:=C) I;have j:aH (V.ref (s.heap.objs.size+1)::_) _:=.cons rfl (r.append q);have B:(IS (s.heap.objs.size+1)::c++ds).length=ps.length:=by
  have e:=j.length;rw[F.len _ _ _ _ i]at e;exact e.symm
 refine MK (yc I.kIn M.makes M.init (beq_iff_eq.mp M.fn) (KW (F.run _ _ _ _ ⟨IS _::c,[]⟩ _ _ _ E (l.make C c [])
  (g.env0.make C c []) (n _ _ g.kIn B) j i) λr D b=>?_))
 cases r with
 | error e=>exact y a σ _ _ e D g b
 | ok G=>
   cases G with
   | ret u=>
     obtain⟨v,J,L,N,O,T⟩:=g.after b;subst O;exact⟨N,⟨V.ref _,J,L,rfl,T⟩⟩
   | next=>exact Je b
   | brk=>exact Je b
   | cont=>exact Je b
theorem yz(M:Mk X.K C f)(F:aE X.prog X.w X.K X.mg X.base CX k f fd ps sp)(g:aM (k+1) X.A)(i:Gl X x)(j:X.mg x=some (.ref C))(l:Binds X.K fd ps ds)(n:aH dvs ds)(u:p9 CX X E)
 (v:PA X (e::es) t) (b:(x == ("__debug__" : Str))=false:=by decide) (he:starEach (e::es) X.env=(false,eval e X.env)::starEach es X.env:=by rfl) (c:(backTo pos (starEach es X.env)).any (·.1)=false:=by rfl) :
 PE X (.Call (.Name x p) (e::es) [] pos) (rh C sp dvs E t):=by
 intro a s y H Q I h;refine LF (u6 I i j ?_ b);refine LG (h₀:=_) I.ok.mod.kin M.kp (aL (v pos a s y H _ I h) λz B ⟨D,G,d,r,q⟩=>⟨d.kIn,?_⟩) he c;exact yy M F g l n u d r q
end
structure C6(N P:List Str)(sc:Oy):Prop where
 kind:sc.kind=.function
 co:sc.isCoroutine=false
 gen:sc.isGenerator=false
 nd:N.Nodup
 pre:N.take P.length=P
 par:∀x∈P,sc.names.lookup x=some .local\/sc.names.lookup x=some .cell
 nofree:∀y∈sc.names,y.2≠.free
theorem rk{kindOf:Str->Option QK}{x:Str}:∀{binds:List (Str×Iv)}{m:Str->Option Iv},(∀v,(x,v)∉binds)->bindL kindOf binds m x=m x
 | [],_,_=>rfl
 | (n,v)::r,m,h=>by
   unfold bindL;rw[rk λw a=>h w (IF _ a)];split
   .have:x≠n:=by rintro rfl;exact h v IE
    simp[this]
   .rfl
theorem rm{kindOf:Str->Option QK}{x:Str}:∀{binds:List (Str×Iv)}{m:Str->Option Iv},(∀v,(x,v)∉binds)->bindC kindOf binds m x=m x
 | [],_,_=>rfl
 | (n,v)::r,m,h=>by
   unfold bindC;rw[rm λw a=>h w (IF _ a)];split
   .rfl
   .have:x≠n:=by rintro rfl;exact h v IE
    simp[this]
theorem rp{kindOf:Str->Option QK}{x:Str}{v:Iv}:∀{P:List Str}{vs:List Iv}{i:Nat}{m:Str->Option Iv},P.Nodup->P[i]?=some x->vs[i]?=some v->kindOf x=some .local->
 bindL kindOf (P.zip vs) m x=some v
 | [],_,_,_,_,h,_,_=>by simp at h
 | _::_,[],_,_,_,_,h,_=>by simp at h
 | p::P,w::vs,0,m,c,a,b,d=>by
   simp at a b;subst a;subst b;show bindL kindOf ((p,w)::P.zip vs) m p=_;unfold bindL;rw[rk λv e=>(Ki.mp c).1 (Ny e).1,if_pos d];simp
 | p::P,w::vs,i+1,m,c,a,b,d=>by
   show bindL kindOf ((p,w)::P.zip vs) m x=_;unfold bindL;exact rp (i:=i) (Ki.mp c).2 (by simpa using a) (by simpa using b) d
theorem rq{kindOf:Str->Option QK}{x:Str}{v:Iv}:∀{P:List Str}{vs:List Iv}{i:Nat}{m:Str->Option Iv},P.Nodup->P[i]?=some x->vs[i]?=some v->kindOf x≠some .local->
 bindC kindOf (P.zip vs) m x=some v
 | [],_,_,_,_,h,_,_=>by simp at h
 | _::_,[],_,_,_,_,h,_=>by simp at h
 | p::P,w::vs,0,m,c,a,b,d=>by
   simp at a b;subst a;subst b;show bindC kindOf ((p,w)::P.zip vs) m p=_;unfold bindC;rw[rm λv e=>(Ki.mp c).1 (Ny e).1,if_neg d];simp
 | p::P,w::vs,i+1,m,c,a,b,d=>by
   show bindC kindOf ((p,w)::P.zip vs) m x=_;unfold bindC;exact rq (i:=i) (Ki.mp c).2 (by simpa using a) (by simpa using b) d
noncomputable def start(N:List Str)(vs:List V):St:=vs.map some++LZ (N.length - vs.length) none
noncomputable def u8(CX:CXT)(P:IV)(w:JB)(K:Iw)(mg:Str->Option Iv)(base:Heap)(N:List Str)(qual:Str)(scope:Oy)(f:Addr)(cd:Iv)(A:Jx)(outer:List Env)(s:IA)(H:Hp)(E:XK):Cx where
 prog:=P
 w:=w
 K:=K
 mg:=mg
 base:=base
 A:=A.deeper (envOfC qual scope s.heap.objs.size f cd)
 N:=N
 s₀:=s
 H₀:=H
 env:=envOfC qual scope s.heap.objs.size f cd
 outer:=outer
 stack:=envOfC qual scope s.heap.objs.size f cd::outer
 ex:=[]
 calm:=true
 fn:=λ_=>true
 pn:=[]
 xe:=λe s'=>wpAny (model P w) (A.deeper (envOfC qual scope s.heap.objs.size f cd)) (leaving (envOfC qual scope s.heap.objs.size f cd) e) (λ_ s''=>CX outer H s E e s'') (λe' s''=>CX outer H s E e' s'') s'
theorem rr{a:Oy}{n:Nat}{x:Str}(h:a.names.lookup x=some .cell):∃c,(cellsFrom n a.names []).lookup x=some c:=by
 have q:=OW _ n [] (.inl h);exact Of.mp q
theorem yA{J:CXT}{P:IV}{w:JB}{K:Iw}{mg:Str->Option Iv}{base:Heap}{N ps:List Str}{j:Str}{d:Oy}{f:Addr}{cd:Iv}{A:Jx}{g:List Env}{s L:IA}{H:Hp}{E:XK}{I:List Iv}{vs:List V}
 (S:C6 N ps d) (T:A.handled=none) (m:eJ P w K mg base A g s H) (hl:vs.length=ps.length) (r:aH vs I)
 (x:InCallC s s.heap.objs.size (bindL (envOfC j d s.heap.objs.size f cd).kindOf (ps.zip I) λ_=>none) (cellsFrom (s.heap.objs.size+1) d.names []) (bindC (envOfC j d s.heap.objs.size f cd).kindOf (ps.zip I) λ_=>none) L) :
 Inv (u8 J P w K mg base N j d f cd A g s H E) [] (start N vs) H L:=by
 have U:ps.length<=N.length:=by have:=congrArg List.length S.pre;rw[JD]at this;omega
 obtain⟨D,tk,rfl,O⟩:=x.done;have n:∀b:Addr,b∉(u8 J P w K mg base N j d f cd A g s H E).ex:=λb z=>absurd (show b∈([])from z) nofun;refine⟨⟨m.mod,S.kind,rfl,rfl,IC _,λy z c D l=>?_,λy o=>?_,λy c _ h=>?_,λ_=>T,Jx.frames_deeper m.frames,.inr ⟨rfl,rfl⟩,λb z=>absurd z (n b),m.bs,m.bsz,λb _ _=>n b,λb z=>absurd z (n b),m.funs,m.frf⟩,
  rfl,m.bare,Un.kept O,⟨_,x.toInCall.ns,λi y v D l h3=>?_⟩,λy c h=>⟨_,x.cell y c h⟩,m.hok.fresh (IC _),λy c h=>?_,λp B=>absurd (show p∈([])from B) nofun,m.hok.kept O,?_⟩
 .exact name_of_addr x.apart (JU D) (JU l)
 .have o:=o;rcases o with o | o
  .exact rr o
  .exact absurd rfl (S.nofree _ (JU o))
 .exact NP (x.above y c (JU h))
 .have G:i<vs.length:=by
   unfold start at l;by_cases G:i<vs.length
   .exact G
   .rw[Kb (by simpa using G)]at l;rw[OA]at l;split at l<;>cases l
  have Y:vs[i]?=some v:=by
   unfold start at l;rw[Jf (by simpa using G),Ja]at l;cases e:vs[i]? with
   | none=>rw[e]at l;cases l
   | some a=>rw[e]at l;cases l;rfl
  obtain⟨u,Q,rv⟩:=r.get Y;have B:ps[i]?=some y:=by
   rw[<-S.pre,List.getElem?_take_of_lt (by omega)];exact D
  have C:ps.Nodup:=by rw[<-S.pre];exact S.nd.sublist (List.take_sublist _ _)
  refine⟨u,rv,?_⟩;rcases S.par y (Jn B)with k | k
  .exact .inl ⟨k,rp C B Q k⟩
  .obtain⟨c,e⟩:=rr k;refine .inr ⟨.inl k,c,e,?_⟩;have q:=x.cell y c e;rw[rq C B Q (by show d.names.lookup y≠_;rw[k];decide)]at q;exact q
 .exact m.hok.fresh (NP (x.above y c (JU h)))
 .unfold start;show _=N.length;rw[IT,Iz,List.length_replicate];omega
theorem mJ{G:CXT}{P:IV}{w:JB}{K:Iw}{mg:Str->Option Iv}{base:Heap}{k:Nat}{f:Addr}{l d:Str}{h:Arguments}{i:List Stmt}{a:Oy}{dV kV B pm g ct oc:Iv}{an od:Option Addr}
 {L:Array (Option Iv)} {N ps:List Str} {O:Sp} (lk:K.lookup f=some ⟨oc,od,.func (Le l d h i a dV kV B pm an g ct),L⟩) (T:MN K g d=true) (S:C6 N ps a)
 (len:∀vs H Q E,O vs H Q E->vs.length=ps.length)
 (m:∀(A:Jx)(c:List Env)(s:IA)(H:Hp)(vs:List V)(Q:VK)(E:XK),aM k (A.deeper (envOfC d a s.heap.objs.size f g))->O vs H Q E->
  ∃t,cf (u8 G P w K mg base N d a f g A c s H E) i t/\t { nx:=λ_ H'=>Q .non H',rt:=Q } (start N vs) H) :
 aE P w K mg base G (k+1) f (Le l d h i a dV kV B pm an g ct) ps O:=by
 refine⟨len,λA c s H a5 us vs Q E U C hb r D=>?_⟩;have hl:=len _ _ _ _ D;have KX:K.In _:=C.mod.kin.keeps λb o e=>(C.bs b o e).1;have Y:=C.mod.nolimit.keeps λb o e=>(C.bs b o e).1;have p:∀y∈ps.zip us,a.names.lookup y.1=some .local\/(a.names.lookup y.1=some .cell/\((cellsFrom (s.heap.objs.size+1) _ []).lookup y.1).isSome=true):=λ⟨n,v⟩ hy=>by
  rcases S.par n (Ny hy).1 with q | q
  .exact .inl q
  .exact .inr ⟨q,OW _ _ _ (.inl q)⟩
 refine codeAny_call_function U.depth (KX _ _ lk) rfl S.co S.gen rfl (PySem.W.codeRec_of KX T) (hb _ _ _ _ ?_);refine wpAny_newFunctionEnv_cells S.kind p λb5 he s1 x=>?_;subst he;refine⟨Y.keeps x.toInCall.keep,codeAny_func ?_⟩;obtain⟨t,ht,hq⟩:=m A c s H vs Q E (U.deeper _) D;have I:Inv (u8 G P w K mg base N d a f g A c s H E) [] _ H s1:=yA S U.hd C hl r x;refine Jt (ht [] s1 _ H _ I hq) (λfl s' z=>?_) λe s' z=>z;have fin:∀{j:St}{H':Hp}{v:V}{u:Iv},Inv (u8 G P w K mg base N d a f g A c s H E) [] j H' s'->RelV v u->Q v H'->CE c P w H s Q u s':=
  λ{j H' v u} J rv q=>⟨v,H',J.os,J.bare,J.base,J.hok,rv,q⟩
 cases fl with
 | ret u=>
   obtain⟨v,j,H',J,rv,q⟩:=z;exact fin J rv q
 | next=>
   obtain⟨j,H',J,q⟩:=z;exact fin (v:=V.non) J rfl q
 | brk=>
   obtain⟨_,_,_,q⟩:=z;exact Je q
 | cont=>
   obtain⟨_,_,_,q⟩:=z;exact Je q
section
variable{X:Cx}{x:Str}{p pos:Pos}{e:Expr}{es:List Expr}{t:TA}{id T:String}{r:List V->Hp->VK->Prop}
noncomputable def mK(r:List V->Hp->VK->Prop)(t:TA):TE:=λa H Q=>t a H λb c=>r b c Q
theorem Z4(f:bg X (.builtin id) r)(g:Gl X x)(i:X.mg x=none)(j:bootBuiltins x=some (.builtin id))(k:PA X (e::es) t)(l:x≠"__name__":=by decide)(b:(x == ("__debug__" : Str))=false:=by decide)
 (he:starEach (e::es) X.env=(false,eval e X.env)::starEach es X.env:=by rfl) (c:(backTo pos (starEach es X.env)).any (·.1)=false:=by rfl):PE X (.Call (.Name x p) (e::es) [] pos) (mK r t):=by
 intro a s d H Q I h;refine LF (V4 I g i j ?_ l b);exact PyProof.Rows.callWith_builtin1 (aL (k pos a s d H _ I h) λm n ⟨o,q,u,v,w⟩=>f a n d q o m Q u v w) he c
theorem mL(f:bg X (.type T) r)(g:Gl X x)(i:X.mg x=none)(j:bootBuiltins x=some (.type T))(k:PA X (e::es) t)(l:x≠"__name__":=by decide)(b:(x == ("__debug__" : Str))=false:=by decide)
 (he:starEach (e::es) X.env=(false,eval e X.env)::starEach es X.env:=by rfl) (c:(backTo pos (starEach es X.env)).any (·.1)=false:=by rfl):PE X (.Call (.Name x p) (e::es) [] pos) (mK r t):=by
 intro a s d H Q I h;refine LF (V4 I g i j ?_ l b);exact L1 (aL (k pos a s d H _ I h) λm n ⟨o,q,u,v,w⟩=>f a n d q o m Q u v w) he c
end
end L2
namespace HT
open PySem PyProof.Rows
section
variable{prog:IV}{w:JB}{A:Jx}{E:Iv->IA->Prop}{s:IA}
theorem gF{t b:Addr}{vs ws:List Iv}{Q:Iv->IA->Prop}(u:QU s.heap t vs.toArray)(v:QU s.heap b ws.toArray)(l:vs≠[])
 (x:ws=[]->Q (.ref t) s) (y:ws≠[]->Q (.ref s.heap.objs.size) { s with heap:=s.heap.push { cls:=.type "tuple",data:=.seq (vs++ws).toArray } })
 (i:vs.length+ws.length<=sizeLine):wpAny (model prog w) A (binaryOp .Add (.ref t) (.ref b)) Q E s:=by
 obtain⟨⟨cls,o,c,p⟩,g,z,n,B⟩:=id u;obtain⟨⟨q,d,data2,f⟩,a,j,r,k⟩:=id v;subst z B j k;have e:vs.toArray++ws.toArray=(vs++ws).toArray:=by simp
 by_cases h:ws=[]
 .exact concat_meets ⟨_,g,rfl⟩ ⟨_,a,rfl⟩ noFill_tuple_add seq_tuple_add OX OB (Og _ _)
   (tuple_addW1 t b _ _ n r o d p f (by simpa using l) (by simp[h])) ⟨g,a,x h⟩
 .refine concat_meets ⟨_,g,rfl⟩ ⟨_,a,rfl⟩ noFill_tuple_add seq_tuple_add OX OB (Og _ _)
   (tuple_addW2 t b _ _ n r o d p f (by simpa using l) (by simpa using h) (by exact i)) ⟨g,a,?_⟩
  rw[e];exact y h
noncomputable def sIx(n d:Nat):Option Int->Nat
 | none=>d
 | some v=>if v<0 then(v+(n:Int)).toNat else min v.toNat n
theorem yB(n d:Nat)(b:d<=n)(o:Option Int):sIx n d o<=n:=by
 cases o with
 | none=>exact b
 | some v=>
   show(if v<0 then(v+_).toNat else min _ n)<=n;by_cases a:v<0
   .rw[if_pos a];omega
   .rw[if_neg a];exact Nat.min_le_right _ _
theorem dG(v:Int)(n d:Nat):(if v<0 then max (v+(n:Int)) 0 else min v (n:Int))=((sIx n d (some v):Nat):Int):=by
 show _=(((if v<0 then(v+_).toNat else min _ n):Nat):Int);by_cases a:v<0
 .simp only[if_pos a];omega
 .simp only[if_neg a];omega
theorem yC(lo a:Option Int)(n:Nat):Ma lo a 1 (n:Int)=(((sIx n 0 lo:Nat):Int),((sIx n n a:Nat):Int)):=by
 have b:¬((1:Int)<0):=by omega
 unfold Ma;refine Prod.ext ?_ ?_
 .cases lo with
  | none=>rfl
  | some v=>exact dG v n 0
 .cases a with
  | none=>rfl
  | some v=>exact dG v n n
theorem yD(i j:Nat):Mb (i:Int) (j:Int) 1=j - i:=by
 unfold Mb;have a:(1:Int) > 0:=by omega
 simp only[a,if_true,Int.ediv_one];split<;>omega
theorem rA{v:Iv}{o:Option Int}{Q:Option Int->IA->Prop}(p:Qx v o)(h:Q o s):wpAny (model prog w) A (KL.Slice.slicePartIndex v) Q E s:=by
 cases p with
 | none=>exact slicePart_none h
 | int i t=>exact slicePart_int h
theorem yE{e:Addr}{d f:Iv}{lo c:Option Int}{n:Nat}{Q:Int×Int×Nat->IA->Prop}(hs:s.heap.IsSliceOf e d f .none)(g:Qx d lo)(i:Qx f c)
 (h:Q (((sIx n 0 lo:Nat):Int),1,sIx n n c - sIx n 0 lo) s):wpAny (model prog w) A (KL.Slice.sliceApplied (.ref e) (pure (n:Int))) Q E s:=by
 obtain⟨os,a,j,b⟩:=id hs;refine Ir (Ir (JJ a b (x:=d) rfl (Ir (JJ a b rfl (Ir (JJ a b rfl (Iy ?_)))))));refine Ir (slicePart_none ?_);refine Ir (rA g (Ir (rA i (Ir (Iy ?_)))));show wpAny _ _ (match Ma lo c 1 _ with | (lo,c)=>pure (lo,_,Mb lo c 1)) _ _ s;rw[yC lo c n];show wpAny _ _ (pure _) _ _ s;rw[yD];exact Iy h
theorem yF(a:Array Iv)(i k:Nat):((Jj k).filterMap λ(m:Nat)=>a[((i:Int)+(m:Int)*1).toNat]?).toArray=((a.toList.drop i).take k).toArray:=by
 have e:(λ(m:Nat)=>a[((i:Int)+(m:Int)*1).toNat]?)=λm=>a[i+m]?:=by
  funext m;have:((i:Int)+(m:Int)*1).toNat=i+m:=by omega
  rw[this]
 rw[e];have:=pick_run a i k;rw[List.filterMap_map]at this;have b:(_ ∘ λx=>i+x)=λm=>a[i+m]?:=rfl;rw[b]at this;rw[this]
theorem cA{t d:Addr}{items:Array Iv}{j k:Iv}{lo a:Option Int}{Q:Iv->IA->Prop}(c:QU s.heap t items)(hs:s.heap.IsSliceOf d j k .none)(n:Qx j lo)(o:Qx k a)
 (p:¬(sIx items.size 0 lo=0/\sIx items.size items.size a=items.size))
 (h:Q (.ref s.heap.objs.size) { s with heap:=s.heap.push { cls:=.type "tuple",data:=.seq ((items.toList.drop (sIx items.size 0 lo)).take (sIx items.size items.size a - sIx items.size 0 lo)).toArray } })
 (r:items.size<=sizeLine):wpAny (model prog w) A (getItem (.ref t) (.ref d)) Q E s:=by
 have b:sizeOk (.seq ((items.toList.drop (sIx items.size 0 lo)).take (sIx items.size items.size a - sIx items.size 0 lo)).toArray):=by
  show((items.toList.drop _).take _).toArray.size<=sizeLine;rw[IP,JD,MY,Ku];omega
 have v:sIx _ _ a<=items.size:=yB _ _ (IC _) a;obtain⟨os,e,f,u⟩:=id hs;have g:s.TypeIs (.ref d) "slice":=⟨os,e,f⟩;unfold getItem
 try with_reducible refine JC ?_
 first | refine Ir _ | skip
 refine Ir (wpAny_sequenceKey c.typeIs rfl ?_);refine Ir (JZ c.typeIs Ln
  (JL Ln c.typeIs entry_tuple_getitem ?_ (args_tuple_getitem _ _)))
 show wpAny _ _ (KL.Tuple.tupleItemsOf _>>=_) _ _ s;refine Ir (tupleItemsOf_ c ?_);refine Ir (NR g ?_);refine Ir (yE hs n o ?_);have i:¬((((sIx items.size 0 lo):Int) == 0&&(1:Int) == 1&&(sIx items.size items.size a - sIx items.size 0 lo) == items.size)=true):=by
  intro q;rw[Jc,Jc]at q;have x:(_:Int)=0:=eq_of_beq q.1.1;have y:=eq_of_beq q.2;exact p ⟨by omega,by omega⟩
 show wpAny _ _ (if _=true then _ else _) _ _ s;rw[if_neg i,yF];first
  | exact Ir (Lo (Iy ⟨_,rfl,Iy h⟩) b)
  | exact Ir _
  | exact Ir _
  | exact Ir _
end
end HT
namespace L2
open PySem PySem.Spec PyProof.Rows
abbrev TO:=St->Hp->(Option Int->Hp->Prop)->Prop
def PO(X:Cx)(e:Option Expr)(t:TO):Prop:=
 ∀(a:List (Addr×Obj))(s:IA)(σ:St)(H:Hp)(Q:Option Int->Hp->Prop),Inv X a σ H s->t σ H Q->
  wpAny (model X.prog X.w) X.A (evalPart e X.env) (λu c=>∃o b,Inv X a σ b c/\Qx u o/\Q o b) X.xe s
noncomputable def tNoPart:TO:=λ_ H Q=>Q none H
noncomputable def yG(t:TE):TO:=λa H Q=>t a H λx b=>∃i,x=.int i/\Q (some i) b
theorem b9{ns:List Int}:∀{a:List Iv},aH (ns.map V.int) a->MZ a ns:=by
 induction ns with
 | nil=>intro a r;cases r;exact .nil
 | cons n ns ih=>
   intro a r;cases r with
   | cons b c=>
     obtain⟨t,e⟩:=b;subst e;exact .cons n t (ih c)
section
variable{X:Cx}{e:Expr}{te:TE}{lo hi:Option Expr}{tl th:TO}{pos p2:Pos}
theorem yH:PO X none tNoPart:=by
 intro a s b H Q I h;exact Iy ⟨none,H,I,.none,h⟩
theorem yI(h:PE X e te):PO X (some e) (yG te):=by
 intro a s b H Q I c;refine aL (h a s b H _ I c) λu l d=>?_;obtain⟨x,f,g,j,k⟩:=d;obtain⟨i,rfl,q⟩:=k;obtain⟨t,rfl⟩:=j;exact⟨some i,f,g,.int i t,q⟩
def iz(X:Cx)(r:V->Option Int->Option Int->Hp->VK->Prop):Prop:=
 ∀(a:List (Addr×Obj))(s:IA)(σ:St)(H:Hp)(x:V)(v b c:Iv)(lo hi:Option Int)(d:Addr)(Q:VK),Inv X a σ H s->RelV x v->s.heap.IsSliceOf d b c .none->Qx b lo->Qx c hi->r x lo hi H Q->
  ∃T id,typeLookup (.type T) "__getitem__" = pure (some (.builtin id))/\s.TypeIs v T/\wpAny (model X.prog X.w) X.A (getItem v (.ref d)) (EP X a σ Q) X.xe s
theorem iz.or{r b:V->Option Int->Option Int->Hp->VK->Prop}(h:iz X r)(h':iz X b):iz X (λx lo hi H Q=>r x lo hi H Q\/b x lo hi H Q):=by
 intro a s c H x v d f lo hi g Q I i j k l q;rcases q with q | q
 .exact h a s c H x v d f lo hi g Q I i j k l q
 .exact h' a s c H x v d f lo hi g Q I i j k l q
noncomputable def yJ(r:V->Option Int->Option Int->Hp->VK->Prop)(te:TE)(tl th:TO):TE:=λa H Q=>te a H λx b=>tl a b λl c=>th a c λu d=>r x l u d Q
theorem yK{r:V->Option Int->Option Int->Hp->VK->Prop}(n:iz X r)(he:PE X e te)(o:PO X lo tl)(p:PO X hi th):PE X (.Subscript e (.Slice lo hi none p2) pos) (yJ r te tl th):=by
 intro a s c H Q I h;refine Subscript_ (aL (he a s c H _ I h) λv w i=>?_);obtain⟨x,y,z,A,B⟩:=i;refine wpAny_Slice (aL (o a w c y _ z B) λj C ⟨l,D,E,G,J⟩=>aL (p a C c D _ E J) λk g i=>?_);obtain⟨u,m,L,N,O⟩:=i;refine Iy ?_;have U:Inv X a c m { g with heap:=g.heap.push { cls:=.type "slice",data:=.fields #[j,k,.none] } }:=L.kept λb ob q=>Iu _ q;obtain⟨T,id,Y,ht,hg⟩:=n a { g with heap:=g.heap.push { cls:=.type "slice",data:=.fields #[j,k,.none] } } c m x v j k l u _ Q U A (Heap.IsSliceOf.new ..) G N O;exact tail_any ht Y hg rfl
noncomputable def iA(a:List V)(lo hi:Option Int):List V:=(a.drop (HT.sIx a.length 0 lo)).take (HT.sIx a.length a.length hi - HT.sIx a.length 0 lo)
theorem rB(a:List V)(lo hi:Option Int):(iA a lo hi).length<=a.length:=by
 unfold iA;rw[JD,MY];omega
noncomputable def yL(K:Iw):V->Option Int->Option Int->Hp->VK->Prop:=λx lo hi H Q=>∃a b,x=.ref a/\cx K H a b/\
 ¬(HT.sIx b.length 0 lo=0/\HT.sIx b.length b.length hi=b.length)/\∀p,H p=none->Q (.ref p) (aI H p (.tup (iA b lo hi)))
theorem yM:iz X (yL X.K):=by
 intro f s u H x v w y lo hi z Q I k l m n h;obtain⟨a,g,rfl,o,p,q⟩:=h;cases k;obtain⟨d,r,i,j⟩:=I.tuple o;have c:d.toArray.size=g.length:=by exact r.length.symm
 refine⟨"tuple",_,Ln.lookup,i.typeIs,?_⟩;refine HT.cA i l m n (by rw[c];exact p) ?_ (by rw[c];exact j);rw[c];refine⟨.ref _,_,I.laid (λb A q=>Iu _ q) (IC _) ?_,rfl,q _ (I.hok.fresh (IC _))⟩;exact⟨Jd (rB g lo hi) j,_,(r.drop _).take _,QU.new _ _⟩
noncomputable def rD(K:Iw):R2:=λx y H Q=>∃a b d c,x=.ref a/\y=.ref b/\cx K H a d/\cx K H b c/\d≠[]/\d.length+c.length<=sizeLine/\
 (c=[]->Q (.ref a) H)/\(c≠[]->∀p,H p=none->Q (.ref p) (aI H p (.tup (d++c))))
theorem aH.nil_iff{a:List V}{b:List Iv}(r:aH a b):b=[]↔a=[]:=by
 cases r with
 | _=>simp
theorem op_catT:bO X (binaryOp .Add) (rD X.K):=by
 intro f s A H x y v u Q I j k h;obtain⟨a,b,B,C,rfl,rfl,l,m,n,g,o,p⟩:=h;cases j;cases k;obtain⟨r,d,p1,_⟩:=I.tuple l;obtain⟨i,c,p2,_⟩:=I.tuple m;refine HT.gF p1 p2 (λz=>n (d.nil_iff.mp z)) (λz=>⟨.ref a,H,I,rfl,o (c.nil_iff.mp z)⟩) (λz=>?_) (by rw[<-d.length,<-c.length];exact g);refine⟨.ref _,_,I.laid (λb D q=>Iu _ q) (IC _) ?_,rfl,p (λw=>z (c.nil_iff.mpr w)) _ (I.hok.fresh (IC _))⟩;exact⟨by rw[IT];exact g,_,d.append c,QU.new _ _⟩
end
noncomputable def ixN(n:Nat)(i:Int):Option Nat:=if 0<=i then(if i<n then some i.toNat else none) else if -(n:Int)<=i then some (i+n).toNat else none
noncomputable def atI{a:Type}(b:List a)(i:Int):Option a:=(ixN b.length i).bind λj=>b[j]?
theorem yN{n:Nat}{i:Int}{j:Nat}(h:ixN n i=some j):seqIndex? i n=some j/\j<n/\-(n:Int)<=i/\i<n:=by
 unfold ixN at h;by_cases b:0<=i
 .rw[if_pos b]at h;by_cases a:i<n
  .rw[if_pos a]at h;have e:_=j:=Jo h;exact⟨by rw[seqIndex_of b a,e],by omega,by omega,a⟩
  .rw[if_neg a]at h;cases h
 .rw[if_neg b]at h;by_cases a : -(n:Int)<=i
  .rw[if_pos a]at h;have e:=Jo h;exact⟨by rw[seqIndex_neg (by omega) a,e],by omega,a,by omega⟩
  .rw[if_neg a]at h;cases h
theorem rE{b:Type}{a:List b}{i:Int}{v:b}(h:atI a i=some v):∃j,seqIndex? i a.length=some j/\a[j]?=some v/\j<a.length/\-(a.length:Int)<=i/\i<a.length:=by
 unfold atI at h;cases e:ixN _ i with
 | none=>rw[e]at h;cases h
 | some j=>
   rw[e]at h;obtain⟨c,d,f,g⟩:=yN e;exact⟨j,c,h,d,f,g⟩
def rF(b:Expr):Prop:=∀o i,subscripted b false o i=operate [o,i] (getItem o i)
def hL(X:Cx)(r:R2):Prop:=
 ∀(c a:Expr)(b:List (Addr×Obj))(s:IA)(σ:St)(H:Hp)(x y:V)(v u:Iv)(Q:VK),Inv X b σ H s->RelV x v->RelV y u->r x y H Q->
  subscripted a false v u=operate [v,u] (getItem v u)->wpAny (model X.prog X.w) X.A (subscriptTail c a v u) (EP X b σ Q) X.xe s
def rG(X:Cx)(id:String)(r:V->List V->Hp->VK->Prop):Prop:=
 ∀(a:List (Addr×Obj))(s:IA)(σ:St)(H:Hp)(x:V)(b:List V)(v:Iv)(c:List Iv)(Q:VK),Inv X a σ H s->RelV x v->aH b c->r x b H Q->
  wpAny (model X.prog X.w) X.A (call (.builtin id) (v::c)) (EP X a σ Q) X.xe s
section
variable{X:Cx}{a b:Expr}{ta tb:TE}{pos:Pos}
theorem hL.or{r f:R2}(h:hL X r)(h':hL X f):hL X (λx y H Q=>r x y H Q\/f x y H Q):=by
 intro c d e s g H x y v u Q I i j q k;rcases q with q | q
 .exact h c d e s g H x y v u Q I i j q k
 .exact h' c d e s g H x y v u Q I i j q k
theorem yO{r:R2}(d:hL X r)(e:PE X a ta)(f:PE X b tb)(hs:rF b):PE X (.Subscript a b pos) (jC r ta tb):=by
 intro c s g H Q I h;exact Subscript_ (my e f I h λv u i x y j k l m q=>d a b c i g j x y v u Q k l m q (hs _ _))
noncomputable def rH(K:Iw):R2:=λx y H Q=>∃p c i v,x=.ref p/\y=.int i/\bu K H p c/\atI c i=some v/\Q v H
noncomputable def rJ(K:Iw):R2:=λx y H Q=>∃p c i v,x=.ref p/\y=.int i/\cx K H p c/\atI c i=some v/\Q v H
theorem ix_list:hL X (rH X.K):=by
 intro e f c s B H x y v u Q I C D h n;obtain⟨p,T,i,z,rfl,rfl,E,G,q⟩:=h;cases C;obtain⟨t,rfl⟩:=D;obtain⟨g,r,k,U⟩:=I.list E;obtain⟨j,d,J,Y,L,N⟩:=rE G;obtain⟨w,o,l⟩:=r.get J;have O:=r.length;have hn:=mE;have fin:EP X c B Q w s:=⟨z,H,I,l,q⟩;by_cases A:0<=i
 .have m:i.toNat=j:=by
   rw[seqIndex_of A N]at d;exact Jo d
  exact item_listR k.isList A (by omega) (by rw[m];simpa using o) fin n
 .have m:(i+(g.toArray.size)).toNat=j:=by
   rw[seqIndex_neg (by omega) L]at d;rw[IP,<-O];exact Jo d
  exact OY (x:=w) k.isList.typeIs slot_list_getitem.lookup
   (wpAny_getItem_list_neg k.isList (by omega) (by rw[IP]<;>omega) (by omega) (by rw[m];simpa using o) ⟨rfl,fin⟩) n
theorem yP:hL X (rJ X.K):=by
 intro d e c s k H x y v u Q I l m h n;obtain⟨p,J,i,z,rfl,rfl,o,A,q⟩:=h;cases l;obtain⟨t,rfl⟩:=m;obtain⟨B,r,g,L⟩:=I.tuple o;obtain⟨j,C,D,N,O,T⟩:=rE A;obtain⟨w,E,f⟩:=r.get D;have G:=r.length;have U:=mE;have fin:EP X c k Q w s:=⟨z,H,I,f,q⟩;exact OY g.typeIs slot_tuple_getitem.lookup
  (getItem_tuple g (by omega) (by omega) (by rw[IP,<-G];exact C) (by simpa using E) ⟨rfl,fin⟩) n
theorem yQ(lo c:Option Int)(n:Nat):(sliceBounds lo c none n).1=((HT.sIx n 0 lo:Nat):Int)/\(sliceBounds lo c none n).2.1=((HT.sIx n n c:Nat):Int)/\(sliceBounds lo c none n).2.2=1:=by
 refine⟨?_,?_,rfl⟩
 .cases lo with
  | none=>rfl
  | some i=>
    simp only[sliceBounds,HT.sIx,Na,show(1:Int) > 0 by decide,if_true];by_cases h:i<0
    .simp only[h,if_true]<;>omega
    .simp only[h,if_false]<;>omega
 .cases c with
  | none=>rfl
  | some i=>
    simp only[sliceBounds,HT.sIx,Na,if_true];by_cases h:i<0
    .simp only[h,if_true]<;>omega
    .simp only[h,if_false]<;>omega
theorem yR(c:List Iv)(lo d:Option Int):slicePick c.toArray lo d none=((c.drop (HT.sIx c.length 0 lo)).take (HT.sIx c.length c.length d - HT.sIx c.length 0 lo)).toArray:=by
 obtain⟨e,f,g⟩:=yQ lo d _;unfold slicePick;rw[e,f,g];simp only[sliceRange_one,pick_run]<;>rfl
noncomputable def yS(K:Iw):V->Option Int->Option Int->Hp->VK->Prop:=λx lo d H Q=>∃a c,x=.ref a/\bu K H a c/\∀p,H p=none->Q (.ref p) (aI H p (.lst (iA c lo d)))
theorem sl_list:iz X (yS X.K):=by
 intro d s p H x v u w lo f y Q I g i j k h;obtain⟨a,l,rfl,m,q⟩:=h;cases g;obtain⟨n,r,e,o⟩:=I.list m;have c:=r.length;refine⟨"list",_,slot_list_getitem.lookup,e.isList.typeIs,?_⟩;refine wpAny_getItem_list_slice e.isList i j k .none nofun ?_ (by rw[IP]<;>omega);rw[yR,<-c];refine⟨.ref _,_,I.laid (t':=_) (λb z q=>Iu _ q) (IC _) ?_,rfl,q _ (I.hok.fresh (IC _))⟩;exact⟨Jd (rB l lo f) o,_,0,(r.drop _).take _,IG _ rfl⟩
noncomputable def kI:V->Bool
 | .non=>true
 | .bl _=>true
 | .int _=>true
 | .str _=>true
 | _=>false
noncomputable def mM:V->V->Bool
 | .non,.non=>true
 | .bl a,.bl b=>a == b
 | .bl a,.int b=>(if a then 1 else 0) == b
 | .int a,.bl b=>a == (if b then 1 else 0)
 | .int a,.int b=>a == b
 | .str a,.str b=>a == b
 | _,_=>false
theorem yT{A:Jx}{s:IA}{y x:V}{u v:Iv}(e:RelV y u)(c:RelV x v)(g:kI y=true)(f:kI x=true):Ke A s u v (mM y x):=by
 cases y with
 | non=>
   cases e;cases x with
   | non=>cases c;exact Ke.same _
   | bl b=>cases c;exact Ke.none_bool b
   | int b=>obtain⟨t,rfl⟩:=c;exact Ke.none_int b t
   | str b=>obtain⟨t,rfl⟩:=c;exact Ke.none_str b t
   | _=>exact absurd (show false=true from f) Kd
 | bl a=>
   cases e;cases x with
   | non=>cases c;exact Ke.bool_none a
   | bl b=>cases c;exact Ke.bool_bool a b
   | int b=>obtain⟨t,rfl⟩:=c;exact Ke.bool_int a b t
   | str b=>obtain⟨t,rfl⟩:=c;exact Ke.bool_str a b t
   | _=>exact absurd (show false=true from f) Kd
 | int a=>
   obtain⟨d,rfl⟩:=e;cases x with
   | non=>cases c;exact Ke.int_none a d
   | bl b=>cases c;exact Ke.int_bool a d b
   | int b=>obtain⟨t,rfl⟩:=c;exact Ke.int_int a d b t
   | str b=>obtain⟨t,rfl⟩:=c;exact Ke.int_str a d b t
   | _=>exact absurd (show false=true from f) Kd
 | str a=>
   obtain⟨d,rfl⟩:=e;cases x with
   | non=>cases c;exact Ke.str_none a d
   | bl b=>cases c;exact Ke.str_bool a d b
   | int b=>obtain⟨t,rfl⟩:=c;exact Ke.str_int a d b t
   | str b=>obtain⟨t,rfl⟩:=c;exact Ke.str_str a d b t
   | _=>exact absurd (show false=true from f) Kd
 | _=>exact absurd (show false=true from g) Kd
theorem yU:bg X (.builtin "len") (λj H Q=>∃p e,j=[.ref p]/\(bu X.K H p e\/cx X.K H p e)/\Q (.int e.length) H):=by
 intro k s n H j o Q I r h;obtain⟨p,e,rfl,d,q⟩:=h;obtain⟨u,rfl,l⟩:=o6 r;cases l;have v:=mE;rcases d with d | d
 .obtain⟨f,g,i,m⟩:=I.list d;have c:=g.length;exact Calls.call_len_list i.isList (by simp only[IP]<;>omega) ⟨.int _,H,I.tok _,⟨s.toks+1,by rw[IP,c]⟩,q⟩
 .obtain⟨f,g,i,m⟩:=I.tuple d;have c:=g.length;exact len_tuple i (by simp only[IP]<;>omega) ⟨.int _,H,I.tok _,⟨s.toks+1,by rw[IP,c]⟩,q⟩
theorem bg.or{f:Iv}{r e:List V->Hp->VK->Prop}(h:bg X f r)(h':bg X f e):bg X f (λd H Q=>r d H Q\/e d H Q):=by
 intro c s g H d i Q I j q;rcases q with q | q
 .exact h c s g H d i Q I j q
 .exact h' c s g H d i Q I j q
theorem yV:bg X (.type "list") (λC H Q=>∃p g,C=[.ref p]/\(bu X.K H p g\/cx X.K H p g)/\∀l,H l=none->Q (.ref l) (aI H l (.lst g))):=by
 intro i s J H C N Q I r h;obtain⟨p,g,rfl,j,q⟩:=h;obtain⟨u,rfl,L⟩:=o6 r;cases L;have fin:∀(c:List Iv),aH g c->_<=sizeLine->∀(h':Heap)(d),_->
  h'.get? _=some { cls:=.type "list",dict:=none,data:=.seq _ d,slots:=#[] }->EP X i J Q _ { s with heap:=h' }:=λc f k h' d m e=>
  ⟨.ref _,_,I.laid m (IC _) (show aK _ X.w _ h' _ (.lst g)from⟨k,c,d,f,e⟩),rfl,q _ (I.hok.fresh (IC _))⟩
 rcases j with j | j
 .obtain⟨c,f,y,k⟩:=I.list j;have v:=f.length;obtain⟨o,z,A,n,B⟩:=y.isList;exact call_list_seq p (.inl rfl) z A B (λh' d m e=>fin c f k h' d m e) (by simp only[IP]<;>omega)
 .obtain⟨c,f,y,k⟩:=I.tuple j;have v:=f.length;obtain⟨o,z,A,n,B⟩:=y;exact call_list_seq p (.inr rfl) z A B (λh' d m e=>fin c f k h' d m e) (by simp only[IP]<;>omega)
def rK(K:Iw)(T:String)(x:V)(H:Hp):Prop:=match x with
 | .str _=>T="str"
 | .int _=>T="int"
 | .ref p=>(T="list"/\∃d,bu K H p d)\/(T="tuple"/\∃o,K.lookup p=some o/\o.cls=.type "tuple"/\o.dict=none)\/
  (T="dict"/\((∃c,H p=some (.dK c))\/∃c,H p=some (.dT c)))\/(T="set"/\∃S n,H p=some (.set S n))
 | _=>False
theorem yW{g:List (Addr×Obj)}{σ:St}{H:Hp}{s:IA}{T:String}{x:V}{v:Iv}(I:Inv X g σ H s)(r:RelV x v)(h:rK X.K T x H) :
 s.TypeIs v T/\∀a,v=.ref a->∃m,s.heap.get? a=some m/\m.dict=none:=by
 cases x with
 | str z=>
   obtain⟨t,rfl⟩:=r;cases(show T="str" from h);exact⟨typeIs_str s z t,λ_ e=>nomatch e⟩
 | int i=>
   obtain⟨t,rfl⟩:=r;cases(show T="int" from h);exact⟨typeIs_int s i t,λ_ e=>nomatch e⟩
 | ref p=>
   cases r;rcases h with⟨rfl,A,u⟩ | ⟨rfl,o,d,w,j⟩ | ⟨rfl,d⟩ | ⟨rfl,S,n,d⟩
   .obtain⟨y,_,q,_⟩:=I.list u;refine⟨q.isList.typeIs,λa e=>?_⟩;cases e;obtain⟨o,n,e,c,j,_⟩:=q;exact⟨o,e,j⟩
   .refine⟨⟨o,I.kIn p o d,w⟩,λa e=>?_⟩;cases e;exact⟨o,I.kIn _ o d,j⟩
   .have z:∃o,s.heap.get? p=some o/\o.ExactDict:=by
     rcases d with⟨k,d⟩ | ⟨k,d⟩
     .obtain⟨_,_,_,_,o,_,_,e,f,_⟩:=I.hok p _ d;exact⟨o,e,f⟩
     .obtain⟨_,_,_,_,o,_,_,e,f,_⟩:=I.hok p _ d;exact⟨o,e,f⟩
    obtain⟨o,e,f⟩:=z;refine⟨⟨o,e,f.1⟩,λa l=>?_⟩;cases l;exact⟨o,e,f.2.1⟩
   .obtain⟨o,_,_,_,e,f,_⟩:=I.hok p _ d;refine⟨⟨o,e,f.1⟩,λa l=>?_⟩;cases l;exact⟨o,e,f.2.1⟩
 | _=>exact Je h
noncomputable def yX(K:Iw)(T:String)(r:V->List V->Hp->VK->Prop)(e:TE)(t:TA):TE:=λc H Q=>e c H λx d=>rK K T x d/\t c d λf g=>r x f g Q
variable{o e:Expr}{es:List Expr}{to:TE}{t:TA}{name:Str}{apos cpos:Pos}{T id:String}{r:V->List V->Hp->VK->Prop}
theorem mN(l:PlainAttrs T)(slot:Slot T name id)(f:typeOf (.builtin id)=pure (.type "method_descriptor"))(m:rG X id r)(n:PE X o to)(p:PA X (e::es) t)
 (hbase:attributeBase o name X.env (eval o X.env)=eval o X.env:=by rfl)
 (hfew:((backTo cpos (starEach (e::es) X.env)).all (λx=>!x.1)&&(backToKw cpos (keywordEach [] X.env)).all (λx=>x.1.isSome)
  &&decide ((e::es).length+([]:List Nz).length+(if([]:List Nz).isEmpty then 0 else 1)<30))=true:=by rfl)
 (hline:(apos.endLine == cpos.line)=true:=by rfl) (hs:starEach (e::es) X.env=(false,eval e X.env)::starEach es X.env:=by rfl) (d:(backTo cpos (starEach es X.env)).any (·.1)=false:=by rfl) :
 PE X (.Call (.Attribute o name apos) (e::es) [] cpos) (yX X.K T r to t):=by
 intro c s g H Q I h;refine wpAny_Call_method_late hbase hfew hline rfl (aL (n c s g H _ I h) λv q u=>?_);obtain⟨x,w,i,j,y,z⟩:=u;obtain⟨A,B⟩:=yW i j y;refine⟨T,id,l,slot,f,A,B,?_⟩;have k:=p cpos c q g w _ i z;rw[hs]at k ⊢;refine Ly (by show(false||(backTo cpos _).any _)=false;rw[d]<;>rfl) (LU ?_);exact aL k λC D ⟨E,G,J,L,N⟩=>m c D g G x E v C Q J j L N
/- xs.append(e),list.index on a module's tuple .. are rG facts of 06m -/
end
def mO(X:Cx)(id:String)(r:V->List V->Hp->VK->Prop):Prop:=
 ∀(a:List (Addr×Obj))(s:IA)(σ:St)(H:Hp)(x:V)(b:List V)(v:Iv)(c:List Iv)(Q:VK),Inv X a σ H s->RelV x v->aH b c->r x b H Q->
  wpAny (model X.prog X.w) X.A (call (.builtin id) (v::c)) (EP X a σ Q) X.xe s
theorem aH.one:∀{x:V}{a:List Iv},aH [x] a->∃u,a=[u]/\RelV x u
 | _,_,.cons r .nil=>⟨_,rfl,r⟩
theorem aH.eraseIdx:∀{a:List V}{b:List Iv}(i:Nat),aH a b->aH (a.eraseIdx i) (b.eraseIdx i)
 | _,_,_,.nil=>.nil
 | _,_,0,.cons _ t=>t
 | _,_,i+1,.cons r t=>.cons r (aH.eraseIdx i t)
theorem rL{a:Type}:∀(l:List a)(i:Nat),(l.eraseIdx i).length<=l.length
 | [],_=>IC _
 | _::_,0=>Mh _
 | _::r,i+1=>Nat.succ_le_succ (rL r i)
section
variable{X:Cx}{pins:List (Addr×Obj)}{σ:St}{H:Hp}{s:IA}{l b:Addr}{xs ys zs:List V}
theorem Inv.lset{c a:List Iv}{n:Nat}{f:Array Iv->Array Iv}{t':Nat}(I:Inv X pins σ H s)(i:H l=some (.lst xs))
 (e:s.heap.get? l=some { cls:=.type "list",data:=.seq c.toArray n }) (j:f c.toArray=a.toArray) (k:aH ys a) (hz:ys.length<=sizeLine) :
 Inv X pins σ (aI H l (.lst ys)) { s with heap:=s.heap.update l (Nw f),toks:=t' }:=by
 have q:=PySem.IsL.update e f;rw[j]at q;refine I.write (by rw[i];exact trivial) (.inl rfl) (λp u m o=>(Kf _ _ (KP m)).trans o) ⟨_,q⟩ ?_;exact⟨hz,a,_,k,q⟩
theorem Inv.lnew{a:List Iv}{t':Nat}(I:Inv X pins σ H s)(f:aH ys a)(hz:ys.length<=sizeLine) :
 Inv X pins σ (aI H s.heap.objs.size (.lst ys)) { s with heap:=s.heap.push { cls:=.type "list",data:=.seq a.toArray },toks:=t' }:=
 I.laid (λ_ _ q=>Iu _ q) (IC _) ⟨hz,a,0,f,IG _ rfl⟩
theorem Inv.fresh(I:Inv X pins σ H s):H s.heap.objs.size=none:=I.hok.fresh (IC _)
theorem Inv.lstM(I:Inv X pins σ H s)(d:H l=some (.lst xs)):xs.length<=sizeLine/\∃(a:List Iv)(n:Nat),aH xs a/\xs.length=a.length/\s.heap.get? l=some { cls:=.type "list",data:=.seq a.toArray n }:=by
 obtain⟨z,a,n,r,e⟩:=I.hok l _ d;exact⟨z,a,n,r,r.length,e⟩
theorem yY{n:Nat}(h:n<=sizeLine):Oh n=false:=by
 exact decide_eq_false (by omega)
end
section
variable{X:Cx}
noncomputable def rAppend:V->List V->Hp->VK->Prop:=λx b H Q=>∃l a y,x=.ref l/\b=[y]/\H l=some (.lst a)/\a.length<sizeLine/\Q .non (aI H l (.lst (a++[y])))
theorem yZ:mO X "list.append" rAppend:=by
 intro a s i H x j v k Q I c d h;obtain⟨l,m,y,rfl,rfl,b,o,q⟩:=h;cases c;obtain⟨u,rfl,f⟩:=d.one;obtain⟨z,g,n,r,p,e⟩:=I.lstM b;refine Ql F.slot_list_append ⟨_,e,rfl⟩ F.entry_list_append (F.args_list_append_2 _ _) (PySem.list_append l _ n u (by rw[IP];omega)) ⟨e,?_⟩;refine⟨.non,_,I.lset b e (by simp) (r.append (.cons f .nil)) ?_,rfl,q⟩;rw[IT,Po];omega
noncomputable def rExtend:V->List V->Hp->VK->Prop:=λx d H Q=>∃l b a c,x=.ref l/\d=[.ref b]/\H l=some (.lst a)/\H b=some (.lst c)/\a.length+c.length<=sizeLine/\Q .non (aI H l (.lst (a++c)))
theorem za:mO X "list.extend" rExtend:=by
 intro g s B H x C v D Q I j k h;obtain⟨l,b,E,G,rfl,rfl,i,m,J,q⟩:=h;cases j;obtain⟨u,rfl,o⟩:=k.one;cases o;obtain⟨z,c,n,r,L,e⟩:=I.lstM i;obtain⟨N,a,p,w,y,A⟩:=I.lstM m;have f:c.toArray.size+a.toArray.size<=sizeLine:=by rw[IP,IP];omega
 have d:¬(!c.toArray.isEmpty&&Oh (c.toArray.size+a.toArray.size))=true:=by
  rw[yY f,Q2];exact Kd
 refine Ql F.slot_list_extend ⟨_,e,rfl⟩ F.entry_list_extend (F.args_list_extend_2 _ _)
  (AutoSeq1.list_extend_list_list_0 l _ n b _ p d (by omega) (by omega)) ⟨e,A,?_⟩
 refine⟨.non,_,I.lset i e (by simp) (r.append w) ?_,rfl,q⟩;rw[IT];omega
noncomputable def rPopAt:V->List V->Hp->VK->Prop:=λx b H Q=>∃l a i k y,x=.ref l/\b=[.int i]/\H l=some (.lst a)/\-(2 ^ 63)<=i/\i<2 ^ 63/\seqIndex? i a.length=some k/\a[k]?=some y/\Q y (aI H l (.lst (a.eraseIdx k)))
theorem zb:mO X "list.pop" rPopAt:=by
 intro b s E H x G v J Q I d f h;obtain⟨l,g,i,k,y,rfl,rfl,c,j,m,o,p,q⟩:=h;cases d;obtain⟨u,rfl,A⟩:=f.one;obtain⟨t,rfl⟩:=A;obtain⟨z,B,n,r,C,e⟩:=I.lstM c;obtain⟨w,D,a⟩:=r.get p;refine Ql F.slot_list_pop ⟨_,e,rfl⟩ F.entry_list_pop (F.args_list_pop_2 _ _)
  (MeetsSeq.list_pop_at l _ n i t k w (fitsIndex_both j m) (by rw[IP,<-C];exact o) (by rw[<-Lf];exact D) (by rw[IP];omega)) ⟨e,?_⟩
 refine⟨y,_,I.lset c e ?_ (r.eraseIdx k) ?_,a,q⟩
 .simp
 .have:=rL g k;omega
noncomputable def rCat:R2:=λx y H Q=>∃l b a c,x=.ref l/\y=.ref b/\H l=some (.lst a)/\H b=some (.lst c)/\a.length+c.length<=sizeLine/\∀p,H p=none->Q (.ref p) (aI H p (.lst (a++c)))
theorem zc:bO X (binaryOp .Add) rCat:=by
 intro d s w H x y v u Q I f g h;obtain⟨l,b,A,B,rfl,rfl,i,j,C,q⟩:=h;cases f;cases g;obtain⟨z,c,n,r,D,e⟩:=I.lstM i;obtain⟨E,a,G,k,m,o⟩:=I.lstM j;refine PySem.P.add_list e o ?_ (by rw[IP,IP];omega);have p:c.toArray++a.toArray=(c++a).toArray:=by simp
 rw[p];exact⟨.ref _,_,I.lnew (r.append k) (by rw[IT];omega),rfl,q _ I.fresh⟩
end
end L2
namespace Att
open PySem PySem.W PySem.Calls PyProof.Rows
theorem zd{P:Params}{h:Heap}:∀(ns:List Int)(vs:List Iv),WellAll P h vs (ns.map WData.int)->MZ vs ns:=by
 intro ns;induction ns with
 | nil=>
   intro vs w;cases w;exact .nil
 | cons n ns ih=>
   intro vs w;cases w with
   | cons a b=>
     cases a;exact .cons _ _ (ih _ b)
theorem ze{l:OpenLaw}{n:Nat}(p:l.most=some n){P:Params}{h:Heap}{args:List WData}{b:List Iv}
 (c:l.row.toRowW.claim.pre args=true) (j:WellAll P h b args) :
 ∃a m ns,b=[IS a]/\args=[WData.list (ns.map WData.int)]/\h.get? a=some { cls:=.type "list",data:=.seq m.toArray }/\MZ m ns/\ns.length<=n:=by
 have k:WShape.hasAll [] args [.list .int]=true:=(pre_splitW c).1;have s:l.pre.holds [] { args:=args }=true:=(pre_splitW c).2;obtain⟨d,r,rfl,u,v⟩:=hasAllW_cons k;obtain rfl:=hasAllW_nil v;obtain⟨B,rfl,w⟩:=hasW_list u;obtain⟨ns,rfl⟩:=items_int w;have e:ns.length<=n:=by
  have g:(WTm.not (.lt (.lit (.int (n:Int))) (.len (.arg 0)))).holds [] { args:=[.list (ns.map .int)] }=true:=by
   have g:=(holds_andW s).1;rw[p]at g;exact g
  have i:=condW_of g (w_not (w_lt w_lit (w_len_list (w_arg rfl))));rw[Iz]at i;refine Nat.le_of_not_lt λq=>?_;have x:(n:Int)<((ns.length)):=by omega
  first
   | (rw[decide_eq_true x]at i;exact absurd i (by simp))
   | (simp at i)
 cases j with
 | cons y z=>
   cases z;cases y with
   | list A f=>exact⟨_,_,ns,rfl,rfl,A,zd ns _ f,e⟩
theorem zf(l:OpenLaw)(args:List WData):l.row.toRowW.claim.post args (.bool true) args=true:=
 postW_of
  (show WShape.has [] _ .bool=true by first | rfl | decide | simp[WShape.has])
  (show(WTm.eq .res _).value [] { args:=args,res:=some _,after:=args }=some _ from w_eq_bool (w_res rfl) w_lit) rfl
theorem zg{l:OpenLaw}{n:Nat}{q:IV}{c:List Str}{XP:(Str->Option Iv)->Heap->Prop}{A:JB->Heap->Prop}{d:DefRec}
 (I:l.most=some n) (s:d.params.defaults=[])
 (call:∀(w:JB)(e b:IA)(mg u:Str->Option Iv)(i:Addr)(o:Obj)(v cd g:Iv)(a:Addr)(vs:List Iv)(ns:List Int),
  Ground q c [] XP w e mg u b.heap->A w b.heap->
  b.heap.get? i=some o->o.data=.func (docDef d.name d.params d.body d.scope v cd g)->b.heap.CodeRec cd d.name->mg d.name=some (.ref i)->
  b.heap.get? a=some { cls:=.type "list",data:=.seq vs.toArray }->MZ vs ns->ns.length<=n->b.gens=#[]->
  codeAny (model l.prog w) callerA (.call (.ref i) ⟨[.ref a],[]⟩) (λr p=>r=.ok (.ret (.bool true))/\OldK b.heap p.heap/\p.os=b.os/\Oz p.gens) b) :
 WalkO q c XP A l.row.toRowW d [] (λf vs=>PySem.call f vs):=by
 intro w e b mg u G Y i o v cd g J kV L N x C y O D E as j H Q z T;obtain rfl:J=.none:=Dflts.none C s;obtain rfl:kV=.none:=Dflts.noKw C;obtain⟨a,vs,ns,rfl,rfl,k,h,m⟩:=ze I j z;refine enter_call (KW (call w e b mg u i o v cd g a vs ns G Y L (fd_plain N) x y k h m O) λr p U=>?_);obtain⟨rfl,h2,h3,h4⟩:=U;exact⟨.inl ⟨.bool true,.bool true,[],rfl,λ_=>rfl,.bool true,zf l _,λ_=>⟨QL.nil,λ_ hm=>(nomatch hm)⟩⟩,h2,h3,h4⟩
end Att
namespace L2
open PySem PySem.Spec PyProof.Rows
theorem mP:∀{vs:List Iv}{ns:List Int},MZ vs ns->aH (ns.map V.int) vs
 | _,_,.nil=>.nil
 | _,_,.cons n t h=>.cons ⟨t,rfl⟩ (mP h)
def mQ(H:Hp):Prop:=∀b,H b=none\/∃o a,H b=some (.frz o (.lst a))
theorem zh{P:IV}{w:JB}{K:Iw}{mg O:Str->Option Iv}{CX:CXT}{k:Nat}{Q a:Addr}{fd:IY}{x:Str}{sp:Sp}{c:IA}{vs:List Iv}{ns:List Int}
 (KX:K.In c.heap) (y:c.heap.Ns mainGlobals mg) (f:c.heap.Ns builtinsNs O) (T:∀x:Str,x≠"__name__"->O x=bootBuiltins x) (A:c.heap.NoLimit) (hg:c.gens=#[])
 (L:c.heap.get? a=some { cls:=.type "list",data:=.seq vs.toArray }) (hi:MZ vs ns) (hl:ns.length<=sizeLine) (hr:aM k callerA)
 (F:∀g:Heap,K.In g->g.Ns mainGlobals mg->aE P w K mg g CX k Q fd [x] sp) (p:∀(s:IA)(u:Iv),QJ s fd ⟨[u],[]⟩ [(x,u)])
 (U:∀H:Hp,mQ H->bu K H a (ns.map V.int)->sp [.ref a] H (λv _=>v=.bl true) λ_ _ _=>False)
 (Y:∀H e i,CX [] H c (λ_ _ _=>False) e i->False) :
 codeAny (model P w) callerA (.call (.ref Q) ⟨[.ref a],[]⟩) (λr i=>r=.ok (.ret (.bool true))/\OldK c.heap i.heap/\i.os=c.os/\Oz i.gens) c:=by
 have rv:=mP hi;have C:=hi.length;have l:∀H:Hp,mQ H->bu K H a (ns.map V.int)->bI P w H c.heap->(∀b,H b≠none->b=a)->(H a≠none->K.lookup a=none)->
  codeAny (model P w) callerA (.call (.ref Q) ⟨[.ref a],[]⟩) (λr i=>r=.ok (.ret (.bool true))/\OldK c.heap i.heap/\i.os=c.os/\Oz i.gens) c:=by
  intro H hO hS D hA hK;have base_of:∀{b:Addr}{o:Obj},c.heap.get? b=some o->H b=none->(iW _ H).get? b=some o:=λe n=>wz e n;have a0:∀{b:Addr}{o:Obj}{es:Array Od}{N:Nat},c.heap.get? b=some o->o.data=.dict es N->H b=none:=λ{b o es N} e d=>by
   cases q:H b with
   | none=>rfl
   | some u=>
     have e':=hA b (by rw[q];simp);subst e';rw[L]at e;cases e;have d':=d;cases d'
  have j:∀{b:Addr}{m:Str->Option Iv},c.heap.Ns b m->(iW _ H).Ns b m:=λ{b m} ⟨o,es,N,e,d,r⟩=>⟨o,es,N,base_of e (a0 e d),d,r⟩;have E:=λb o e=>base_of (KX b o e) (by
   cases q:H b with
   | none=>rfl
   | some u=>
     have e':=hA b (by rw[q];simp);subst e';rw[hK (by rw[q];simp)]at e;cases e)
  have hM:Mod K mg _:=⟨E,j y,⟨O,j f,T⟩,let⟨mc,h1,h2⟩:=A;⟨mc,j h1,h2⟩⟩;have e0:eJ P w K mg _ callerA [] c H:=⟨rfl,hM,λb o e=>wA e,Pl (wy _ _),trivial,λb f=>absurd (show b∈([])from f) nofun,D,.of_eq hg⟩;refine KW ((F _ E (j y)).run callerA [] c H ⟨[.ref a],[]⟩ [.ref a] [.ref a] _ _ hr e0 (p c _) (.cons rfl .nil) (U H hO hS)) λr i h=>?_;cases r with
  | error e=>exact(Y H e i h).elim
  | ok fl=>
    cases fl with
    | next=>exact Je h
    | brk=>exact Je h
    | cont=>exact Je h
    | ret u=>
      obtain⟨v,H',os,G,un,I,r',q⟩:=h;have q':=q;subst q';obtain rfl:u=Qk true:=r';refine⟨rfl,OldK.of_keep λb o e=>?_,os,G⟩;cases q:H b with
      | none=>exact un.keep b o e q (by intro z;exact absurd (show b∈([])from z) nofun) nofun
      | some u=>
        rcases hO b with z | ⟨ob,xs,z⟩
        .rw[q]at z;cases z
        .have z2:=un.frzs b ob _ z;obtain⟨e1,_⟩:=D b _ z;obtain⟨e2,_⟩:=I b _ z2;rw[e]at e1;cases e1;exact e2
 cases hk:K.lookup a with
 | some o=>
   have e:=KX a o hk;rw[L]at e;cases e;refine l _ (λ_=>.inl rfl) (.inr ⟨_,_,_,hk,rfl,rfl,rfl,by rw[IP,C];exact hl,by simpa using rv⟩) (λb u z=>by have J:=z;cases J) nofun λz=>absurd rfl z
 | none=>
   refine l (λb=>if b=a then some _ else none) (λb=>?_) (.inl (.inr ⟨{ cls:=.type "list",data:=.seq vs.toArray },if_pos rfl⟩)) (λb u z=>?_) (λb z=>?_) λ_=>hk
   .by_cases f:b=a
    .exact .inr ⟨_,_,if_pos f⟩
    .exact .inl (if_neg f)
   .by_cases f:b=a
    .have J:=(if_pos f).symm.trans z;cases J;subst f;exact⟨L,by rw[Iz];exact hl,vs,_,rv,L⟩
    .have J:=(if_neg f).symm.trans z;cases J
   .by_cases f:b=a
    .exact f
    .exact absurd (if_neg f) z
abbrev aW:CXT:=λ_ _ _ _ _ _=>False
abbrev E0:XK:=λ_ _ _=>False
theorem kJ{X:Cx}:p9 aW X E0:=λ_ _ _ _ _ _ _ h=>h.elim
structure Fun(K:Iw)(x qual:Str)(st:Stmt)(f:Addr)(fd:IY):Prop where
 ex:∃(oc:Iv)(od:Option Addr)(kV doc pm:Iv)(an:Option Addr)(cdv ct:Iv)(osl:Array (Option Iv)),
  fd=Le x qual (N2 st) (G7 st) (B6 st) .none kV doc pm an cdv ct/\K.lookup f=some ⟨oc,od,.func fd,osl⟩/\MN K cdv qual=true
 kp:KU K (.ref f)=true
section
variable{P:IV}{w:JB}{K:Iw}{mg:Str->Option Iv}{base:Heap}
theorem Fun.ok{x b:Str}{st:Stmt}{f:Addr}{j:IY}{N ps:List Str}{k:Nat}{e:Sp}(F:Fun K x b st f j)(S:C6 N ps (B6 st))(len:∀vs H Q E,e vs H Q E->vs.length=ps.length)
 (d:∀(c:Iv)(A:Jx)(a:List Env)(s:IA)(H:Hp)(vs:List V)(Q:VK)(E:XK),aM k (A.deeper (envOfC b (B6 st) s.heap.objs.size f c))->e vs H Q E->
  ∃t,cf (u8 aW P w K mg base N b (B6 st) f c A a s H E).nox (G7 st) t/\t { nx:=λ_ l=>Q .non l,rt:=Q } (start N vs) H):aE P w K mg base aW (k+1) f j ps e:=by
 obtain⟨r,u,kV,m,v,y,c,z,n,rfl,lk,g⟩:=F.ex;refine mJ lk g S len λA a s H vs Q E o i=>?_;obtain⟨t,h,q⟩:=d c A a s H vs Q E o i;exact⟨t,h.nox,q⟩
theorem Fun.binds{x a:Str}{st:Stmt}{f:Addr}{i:IY}{ps:List Str}(F:Fun K x a st f i)
 (h:∀(kV b d:Iv)(e:Option Addr)(c ct:Iv)(g:List Iv),g.length=ps.length->bindArgs (Le x a (N2 st) (G7 st) (B6 st) .none kV b d e c ct) ⟨g,[]⟩=pure (ps.zip g)):Binds K i ps []:=by
 obtain⟨l,m,kV,b,d,e,c,ct,j,rfl,lk,k⟩:=F.ex;exact .all (h kV b d e c ct)
theorem zi{x a:Str}{st:Stmt}{f:Addr}{i:Iv}{j g:Option Addr}{e:Array (Option Iv)}{kV d h b ct:Iv}(l:K.lookup f=some ⟨i,j,.func (Le x a (N2 st) (G7 st) (B6 st) .none kV d h g b ct),e⟩)
 (c:MN K b a=true) (k:KU K (.ref f)=true):Fun K x a st f (Le x a (N2 st) (G7 st) (B6 st) .none kV d h g b ct):=⟨⟨i,j,kV,d,h,g,b,ct,e,rfl,l,c⟩,k⟩
end
section
variable{X:Cx}
theorem pv(i:Nat){x:Str}{pos:Pos}(b:X.N[i]?=some x:=by rfl)(c:iX X.env.scope x:=by first | exact QE rfl | exact Qg (QE rfl) | exact Qg (Qg rfl))(d:(x == ("__debug__" : Str))=false:=by decide)
 (a:(x == ("__classdict__" : Str))=false:=by decide):PE X (.Name x pos) (fU i):=wD b c d a
end
section
variable{κ:Type}[DecidableEq κ]
noncomputable def f7(a:List (κ×V))(k:κ):Option V:=(a.find? λb=>decide (b.1=k)).map (·.2)
noncomputable def Z5(a:List (κ×V))(k:κ)(v:V):List (κ×V):=
 if(a.any λb=>decide (b.1=k))=true then a.map (λb=>if b.1=k then(b.1,v) else b) else a++[(k,v)]
theorem u9{p:κ×V}{r:List (κ×V)}{k:κ}(e:p.1=k):f7 (p::r) k=some p.2:=by simp[f7,e]
theorem v6{p:κ×V}{r:List (κ×V)}{k:κ}(e:¬p.1=k):f7 (p::r) k=f7 r k:=by simp[f7,e]
theorem mR(k:κ):∀a:List (κ×V),(a.any λb=>decide (b.1=k))=(f7 a k).isSome
 | []=>rfl
 | p::r=>by
   rw[LP];by_cases e:p.1=k
   .simp only[u9 e,decide_eq_true e,Bool.true_or,Option.isSome_some]
   .rw[v6 e,decide_eq_false e,Bool.false_or];exact mR k r
theorem g9(a:List (κ×V))(k:κ)(v:V):(Z5 a k v).length<=a.length+1:=by
 unfold Z5;split
 .simp
 .simp
theorem bH.isSome_eq{o:Option V}{u:Option Iv}(r:bH o u):o.isSome=u.isSome:=by
 cases o with
 | none=>cases u with
   | none=>rfl
   | some _=>exact(show False from r).elim
 | some _=>cases u with
   | none=>exact(show False from r).elim
   | some _=>rfl
theorem bH.getD{o:Option V}{u:Option Iv}{d:V}{d':Iv}(r:bH o u)(a:RelV d d'):RelV (o.getD d) (u.getD d'):=by
 cases o with
 | none=>cases u with
   | none=>exact a
   | some _=>exact(show False from r).elim
 | some _=>cases u with
   | none=>exact(show False from r).elim
   | some _=>exact r
theorem KV.val{a:List (κ×V)}{vs:List (κ×Iv)}(r:KV a vs)(k:κ):bH (f7 a k) (valueAt vs k):=by
 induction r with
 | nil=>exact Lm
 | @cons p q i c h t ih=>
   obtain⟨f,g⟩:=h;by_cases e:p.1=k
   .have d:=f.symm.trans e;have b:valueAt (q::c) k=some q.2:=by simp[valueAt,d]
    rw[u9 e,b];exact g
   .have d:¬q.1=k:=λz=>e (f.trans z);have b:valueAt (q::c) k=valueAt c k:=by simp[valueAt,d]
    rw[v6 e,b];exact ih
theorem KV.any{a:List (κ×V)}{vs:List (κ×Iv)}(r:KV a vs)(k:κ):(a.any λb=>decide (b.1=k))=vs.any λb=>decide (b.1=k):=by
 induction r with
 | nil=>rfl
 | cons h t ih=>rw[LP,LP,ih,h.1]
theorem KV.repl{b:List (κ×V)}{vs:List (κ×Iv)}(r:KV b vs)(k:κ){y:V}{u:Iv}(d:RelV y u) :
 KV (b.map λa=>if a.1=k then(a.1,y) else a) (vs.map λa=>if a.1=k then(a.1,u) else a):=by
 induction r with
 | nil=>exact .nil
 | @cons p q g i h t ih=>
   rw[Jb,Jb];refine .cons ?_ ih;obtain⟨c,f⟩:=h;by_cases e:p.1=k
   .rw[if_pos e,if_pos (c.symm.trans e)];exact⟨c,d⟩
   .rw[if_neg e,if_neg (λz=>e (c.trans z))];exact⟨c,f⟩
theorem KV.put{a:List (κ×V)}{vs:List (κ×Iv)}(r:KV a vs)(k:κ){y:V}{u:Iv}(b:RelV y u):KV (Z5 a k y) (stored vs k u):=by
 unfold Z5 stored;rw[r.any k];by_cases e:(vs.any λc=>decide (c.1=k))=true
 .rw[if_pos e,if_pos e];exact r.repl k b
 .rw[if_neg e,if_neg e];exact Paired.snoc r ⟨rfl,b⟩
theorem KV.length{a:List (κ×V)}{vs:List (κ×Iv)}(r:KV a vs):a.length=vs.length:=Paired.length r
end
theorem ja{P:IV}{w:JB}{k:Key}{u:Iv}(r:RelV (kV k) u):(O1 P w).is k u=true:=by
 cases k with
 | inl i=>obtain⟨t,e⟩:=(show ∃t,u=Ph i t from r);subst e;exact wq P w i t
 | inr x=>obtain⟨t,e⟩:=(show ∃t,u=Qe x t from r);subst e;exact wu P w x t
theorem rM{P:IV}{w:JB}:∀{a:List Key}{b:List Iv},aH (a.map kV) b->ItemsAre (O1 P w) a b
 | [],_,r=>by rw[Pp]at r;cases r;exact .nil
 | k::a,_,r=>by
   rw[Jb]at r;cases r with
   | cons h t=>exact .cons (ja h) (rM t)
abbrev KT(H:Hp):List (List Key×V)->List (List Key×Addr×Iv)->Prop:=Paired λp q=>p.1=q.1/\H q.2.1=some (.tup (p.1.map kV))/\RelV p.2 q.2.2
theorem KT.val{H:Hp}{a:List (List Key×V)}{f:List (List Key×Addr×Iv)}(r:KT H a f)(k:List Key):bH (f7 a k) ((atKey f k).map (·.2)):=by
 induction r with
 | nil=>exact Lm
 | @cons p q j c h t ih=>
   obtain⟨g,_,i⟩:=h;by_cases e:p.1=k
   .have d:=g.symm.trans e;have b:atKey (q::c) k=some q.2:=by simp[atKey,d]
    rw[u9 e,b];exact i
   .have d:¬q.1=k:=λz=>e (g.trans z);have b:atKey (q::c) k=atKey c k:=by simp[atKey,d]
    rw[v6 e,b];exact ih
theorem KT.repl{H:Hp}{a:List (List Key×V)}{d:List (List Key×Addr×Iv)}(r:KT H a d)(k:List Key){y:V}{u:Iv}(g:RelV y u) :
 KT H (a.map λc=>if c.1=k then(c.1,y) else c) (d.map (putAt k u)):=by
 induction r with
 | nil=>exact .nil
 | @cons p q j l h t ih=>
   rw[Jb];refine .cons ?_ ih;obtain⟨b,f,i⟩:=h;unfold putAt;by_cases e:p.1=k
   .rw[if_pos e,if_pos (b.symm.trans e)];exact⟨b,f,g⟩
   .rw[if_neg e,if_neg (λz=>e (b.trans z))];exact⟨b,f,i⟩
theorem KT.put{H:Hp}{a:List (List Key×V)}{c:List (List Key×Addr×Iv)}(r:KT H a c)(k:List Key){b:Addr}{y:V}{u:Iv}(f:H b=some (.tup (k.map kV)))(d:RelV y u) :
 KT H (Z5 a k y) (storedH c k b u):=by
 have e:(a.any λg=>decide (g.1=k))=(atKey c k).isSome:=by
  rw[mR,(r.val k).isSome_eq,ML]
 unfold Z5 storedH;rw[e];by_cases q:(atKey c k).isSome=true
 .rw[if_pos q,if_pos q];exact r.repl k d
 .rw[if_neg q,if_neg q];exact Paired.snoc r ⟨rfl,f,d⟩
theorem KT.keeps{H H':Hp}{a:List (List Key×V)}{c:List (List Key×Addr×Iv)}(r:KT H a c)(e:∀b d,H b=some (.tup d)->H' b=some (.tup d)):KT H' a c:=
 Paired.mapP r λ_ _ z=>⟨z.1,e _ _ z.2.1,z.2.2⟩
section
variable{P:IV}{w:JB}{H:Hp}{h:Heap}{a:Addr}
theorem rN{u:HO}(ok:bI P w H h)(e:Rd H a u):aK P w H h a u:=e.ok ok
theorem iB{b:List (Key×V)}(ok:bI P w H h)(e:Rd H a (.dK b)):b.length<=sizeLine/\(a == sysModules)=false/\∃c,KV b c/\h.DictOf (O1 P w) a c:=
 show aK P w H h a _ from rN ok e
theorem zj{b:List (Key×V)}(ok:bI P w H h)(e:H a=some (.dK b)):b.length<=sizeLine/\(a == sysModules)=false/\∃c,KV b c/\h.DictOf (O1 P w) a c:=iB ok (.inl e)
theorem h9{b:List Key}(ok:bI P w H h)(e:H a=some (.tup (b.map kV))):(tupleKind (O1 P w)).is h b a:=by
 obtain⟨_,c,r,o,d,f,n,g⟩:=(show aK P w H h a _ from ok a _ e);exact⟨o,_,n,d,f,g,by simpa using rM r⟩
theorem iC{b:List (List Key×V)}(ok:bI P w H h)(e:Rd H a (.dT b)):b.length<=sizeLine/\(a == sysModules)=false/\
 ∃d,KT H b d/\h.DictOfH (tupleKind (O1 P w)) a d:=by
 obtain⟨z,y,d,r,o,g,i,j,k,n,s,u⟩:=(show aK P w H h a _ from rN ok e);refine⟨z,y,d,r,o,g,i,j,k,n,s,λx c=>?_,u⟩;have all:∀{l:List _}{m:List _},KT H l m->∀x∈m,(tupleKind (O1 P w)).is h x.1 x.2.1:=by
  intro l m q;induction q with
  | nil=>simp
  | @cons p q v A f t ih=>
    intro x c;rcases IH.mp c with e | c
    .subst e;exact h9 ok (by rw[<-f.1];exact f.2.1)
    .exact ih x c
 exact all r x c
theorem kK{b:List (List Key×V)}(ok:bI P w H h)(e:H a=some (.dT b)):b.length<=sizeLine/\(a == sysModules)=false/\
 ∃c,KT H b c/\h.DictOfH (tupleKind (O1 P w)) a c:=iC ok (.inl e)
end
def cq(H:Hp)(a:Addr)(y:V)(r:Option V):Prop:=
 (∃c k,Rd H a (.dK c)/\y=kV k/\r=f7 c k)\/∃c k b,Rd H a (.dT c)/\y=.ref b/\H b=some (.tup (k.map kV))/\r=f7 c k
def fV(H:Hp)(a:Addr)(y v:V)(H':Hp):Prop:=
 (∃c k,H a=some (.dK c)/\y=kV k/\c.length<sizeLine/\H'=aI H a (.dK (Z5 c k v)))\/
 ∃c k b,H a=some (.dT c)/\y=.ref b/\H b=some (.tup (k.map kV))/\c.length<sizeLine/\H'=aI H a (.dT (Z5 c k v))
theorem cq.t{H:Hp}{a b:Addr}{c:List (List Key×V)}{k:List Key}(e:H a=some (.dT c))(d:H b=some (.tup (k.map kV))):cq H a (.ref b) (f7 c k):=.inr ⟨c,k,b,.inl e,rfl,d,rfl⟩
theorem fV.t{H:Hp}{a b:Addr}{c:List (List Key×V)}{k:List Key}{v:V}(e:H a=some (.dT c))(d:H b=some (.tup (k.map kV)))(f:c.length<sizeLine) :
 fV H a (.ref b) v (aI H a (.dT (Z5 c k v))):=.inr ⟨c,k,b,e,rfl,d,f,rfl⟩
section
variable{X:Cx}{pins:List (Addr×Obj)}{σ:St}{H:Hp}{s:IA}{a:Addr}{y v:V}{u r:Iv}{o:Option V}{A:Jx}{E:Iv->IA->Prop}
theorem Inv.big(I:Inv X pins σ H s):sysModules<s.heap.objs.size:=by
 have h:=(I.mod.glob.keeps I.bk).lt;exact MR (by decide) h
theorem zk{Q:Iv->IA->Prop}(C:A.units+1<cLine)(I:Inv X pins σ H s)(g:cq H a y (some v))(x:RelV y u)(h:∀f B,Inv X pins σ H B->RelV v f->Q f B) :
 wpAny (model X.prog X.w) A (getItem (.ref a) u) Q E s:=by
 rcases g with⟨i,k,e,j,l⟩ | ⟨i,k,b,e,j,D,l⟩
 .subst j;obtain⟨z,G,L,c,m⟩:=iB I.hok e;obtain⟨f,n,d⟩:=bH.some_of (by rw[l];exact c.val k);exact wpAny_getItem_of (ja x) m.mapOf n (h f _ (I.tok _) d)
 .subst j;cases(show u=IS b from x);obtain⟨z,G,N,c,m⟩:=iC I.hok e;obtain⟨f,n,d⟩:=bH.some_of (by rw[l];exact c.val k);obtain⟨p,J,q⟩:=Jh.mp n;refine wpAny_getItem_heap (KI C) (h9 I.hok D) m J ?_;rw[q];exact h f _ (I.tok _) d
theorem zl{Q:Iv->IA->Prop}(p:A.units+1<cLine)(I:Inv X pins σ H s)(g:cq H a y o)(m:RelV y u)(h:∀n,Inv X pins σ H n->Q (.bool o.isSome) n) :
 wpAny (model X.prog X.w) A (compareOp .In u (.ref a)) Q E s:=by
 rcases g with⟨d,k,e,f,l⟩ | ⟨d,k,b,e,f,x,l⟩
 .subst f;obtain⟨z,i,B,c,j⟩:=iB I.hok e;refine wpAny_in_of (ja m) i j.mapOf ?_;rw[<-(c.val k).isSome_eq,<-l];exact h _ (I.tok _)
 .subst f;cases(show u=IS b from m);obtain⟨z,i,C,c,j⟩:=iC I.hok e;refine wpAny_in_heap (KI p) (h9 I.hok x) i j ?_;have q:=(c.val k).isSome_eq;rw[ML]at q;rw[<-q,<-l];exact h _ (I.tok _)
theorem mS{h':Heap}{t':Nat}{ob:HO}(I:Inv X pins σ H s)(e:jA (H a))(hs:JS a s.heap h')(he:∃q,h'.get? a=some q)(new:aK X.prog X.w (aI H a ob) h' a ob) :
 Inv X pins σ (aI H a ob) { s with heap:=h',toks:=t' }:=
 I.write e (.inl rfl) (λb q f z=>(hs.2 b f).trans z) he new
theorem zm{P:IV}{w:JB}{H':Hp}{h':Heap}{b:List (Key×V)}{vs:List (Key×Iv)}(z:b.length<=sizeLine)(d:(a == sysModules)=false)(c:KV b vs)(e:h'.DictOf (O1 P w) a vs) :
 aK P w H' h' a (.dK b):=⟨z,d,vs,c,e⟩
theorem zo{H':Hp}{Q:Unit->IA->Prop}(T:A.units+1<cLine)(I:Inv X pins σ H s)(g:fV H a y v H')(D:RelV y u)(G:RelV v r)(h:∀J,Inv X pins σ H' J->Q () J) :
 wpAny (model X.prog X.w) A (setItem (.ref a) u r) Q E s:=by
 rcases g with⟨d,k,e,m,l,n⟩ | ⟨d,k,b,e,m,L,l,n⟩
 .subst m n;obtain⟨z,p,U,f,x⟩:=zj I.hok e;have Y:U.length<=sizeLine:=by rw[<-f.length];exact z
  have B:(Z5 d k v).length<=sizeLine:=by have:=g9 d k v;omega
  refine wpAny_setItem_pairs (ja D) x λN i C=>h _ ?_;have he:∃q,N.get? a=some q:=let⟨q,_,_,j,_⟩:=i;⟨q,j⟩;exact mS I (by rw[e];exact Lm) C he (zm B p (f.put k G) i)
 .subst m n;cases(show u=IS b from D);obtain⟨z,p,xs,f,x⟩:=kK I.hok e;have Y:xs.length<=sizeLine:=by rw[<-Paired.length f];exact z
  have B:(Z5 d k v).length<=sizeLine:=by have:=g9 d k v;omega
  refine wpAny_setItem_heap (KI T) (h9 I.hok L) x λN i C=>h _ ?_;obtain⟨q,es,ep,j,h2,h3,h4,_,h5⟩:=i;refine mS I (by rw[e];exact Lm) C ⟨q,j⟩ ⟨B,p,_,(f.put k L G).keeps λc ys O=>?_,q,es,ep,j,h2,h3,h4,h5⟩;rw[aq (qG O e nofun)];exact O
end
def mT(i:Expr):Prop:=∀ov iv,subscripted i false ov iv=operate [ov,iv] (getItem ov iv)
theorem zp{prog:IV}{w:JB}{A:Jx}{E:Iv->IA->Prop}{s:IA}{g:Env}{b a:Expr}{pos:Pos}{T id:String}{Q:Iv->IA->Prop}
 (l:typeLookup (.type T) "__getitem__" = pure (some (.builtin id))) (hs:mT a)
 (h:wpAny (model prog w) A (eval b g) (λo e=>wpAny (model prog w) A (eval a g) (λi c=>c.TypeIs o T/\wpAny (model prog w) A (getItem o i) Q E c) E e) E s) :
 wpAny (model prog w) A (eval (.Subscript b a pos) g) Q E s:=by
 refine Subscript_ (Jt h (λo e j=>Jt j (λi c d=>?_) λ_ _ x=>x) λ_ _ x=>x);obtain⟨m,d⟩:=d;refine Ir ?_;refine Ir (NA m l ?_);have fin:wpAny (model prog w) A (subscripted a false o i) (λr f=>wpAny (model prog w) A (letTemporaryGo b o r>>=λ_=>pure r) Q E f) E c:=by
  rw[hs o i];exact wpAny_operating (Jt d (λr f k=>Ir (wpAny_letTemporaryGo (Iy k))) λ_ _ x=>x)
 first
  | exact Iy (Ir fin)
  | exact Ir _
  | exact Ir fin
theorem zt{X:Cx}{c:List (Addr×Obj)}{σ:St}{H:Hp}{s:IA}{a:Addr}{y:V}{o:Option V}(I:Inv X c σ H s)(g:cq H a y o):s.TypeIs (.ref a) "dict":=by
 rcases g with⟨d,k,e,_,_⟩ | ⟨d,k,b,e,_,_,_⟩
 .obtain⟨_,_,h,_,f⟩:=iB I.hok e;exact f.typeIs
 .obtain⟨_,_,i,_,f⟩:=iC I.hok e;exact f.typeIs
noncomputable def zu(d e:TE):TE:=λb H Q=>d b H λx f=>e b f λy c=>∃a v,x=.ref a/\cq c a y (some v)/\Q v c
noncomputable def rO(d e:TE):TE:=λb H Q=>d b H λy f=>e b f λx c=>∃a o,x=.ref a/\cq c a y o/\Q (.bl o.isSome) c
noncomputable def zv(d e tv:TE):TS:=λD b H=>tv b H λv f=>d b f λx g=>e b g λy h=>∃a c,x=.ref a/\fV h a y v c/\D.nx b c
section
variable{X:Cx}{o i e value:Expr}{pos pos' tpos:Pos}{td ty tv:TE}
theorem zw(j:X.A.units+1<cLine)(k:PE X o td)(l:PE X i ty)(hs:mT i):PE X (.Subscript o i pos) (zu td ty):=by
 intro b s d H Q I h;refine zp PySem.F.slot_dict_getitem.lookup hs (aL (k b s d H _ I h) λu m ⟨x,n,p,q,r⟩=>aL (l b m d n _ p r) λiv G w=>?_);obtain⟨y,z,f,B,a,v,C,g,D⟩:=w;subst C;obtain rfl:u=IS a:=q;exact⟨zt f g,zk j f g B λJ L E c=>⟨v,z,E,c,D⟩⟩
theorem rP(d:X.A.units+1<cLine)(f:PE X i ty)(j:PE X o td):PC X .In i o (rO ty td):=by
 intro b s c H Q I h;refine aL (f b s c H _ I h) λiv k ⟨y,l,m,n,p⟩=>aL (j b k c l _ m p) λu D q=>?_;obtain⟨x,r,v,w,a,ov,z,g,B⟩:=q;subst z;obtain rfl:u=IS a:=w;exact zl d v g n λE C=>⟨.bl _,r,C,rfl,B⟩
theorem zx(d:X.A.units+1<cLine)(f:PE X o td)(j:PE X i ty)(k:PE X value tv)(hs:swapsWith value (some (.Subscript o i pos')) pos.line X.env=pure false) :
 PS X (.Assign [.Subscript o i pos'] value pos) (zv td ty tv):=by
 intro b s c H D I h;refine wpAny_Assign_Subscript (aL (k b s c H _ I h) λr l ⟨v,m,n,p,q⟩=>aL (f b l c m _ n q) λu w ⟨x,z,B,C,E⟩=>aL (j b w c z _ B E) λiv U G=>?_) hs;obtain⟨y,Y,J,L,a,N,O,g,Q⟩:=G;subst O;obtain rfl:u=IS a:=C;exact zo d J g L p λs4 T=>⟨c,N,T,Q⟩
end
theorem zy{P:IV}{w:JB}{H:Hp}(h:Heap)(b:sysModules<h.objs.size):aK P w H (h.push { cls:=.type "dict",data:=.dict #[] }) h.objs.size (.dT []):=
 ⟨Kl _,beq_eq_false_iff_ne.mpr (KP (IL b)),[],.nil,_,#[],0,IG _ rfl,⟨rfl,rfl,rfl⟩,rfl,rfl,MO⟩
noncomputable def tDNewT:TE:=λ_ H Q=>∀p,H p=none->Q (.ref p) (aI H p (.dT []))
section
variable{X:Cx}{pos:Pos}
theorem zA:PE X (.Dict [] [] pos) tDNewT:=λa s b H Q I h=>
 wpAny_Dict_empty ⟨.ref _,_,I.laid (λ_ _ q=>Iu _ q) (IC _) (zy _ I.big),rfl,h _ (I.hok.fresh (IC _))⟩
end
structure M1(X:Cx)(o:Expr)(m:Str)(apos:Pos)(e:Expr)(cpos:Pos):Prop where
 base:attributeBase o m X.env (eval o X.env)=eval o X.env
 few:((backTo cpos (starEach [e] X.env)).all (λx=>!x.1)&&(backToKw cpos (keywordEach [] X.env)).all (λx=>x.1.isSome)
  &&decide (([e]:List Expr).length+([]:List Nz).length+(if([]:List Nz).isEmpty then 0 else 1)<30))=true
 line:(apos.endLine == cpos.line)=true
 trees:backTo cpos (starEach [e] X.env)=[(false,eval e X.env)]
structure M2(X:Cx)(o:Expr)(m:Str)(apos:Pos)(e f:Expr)(cpos:Pos):Prop where
 base:attributeBase o m X.env (eval o X.env)=eval o X.env
 few:((backTo cpos (starEach [e,f] X.env)).all (λx=>!x.1)&&(backToKw cpos (keywordEach [] X.env)).all (λx=>x.1.isSome)
  &&decide (([e,f]:List Expr).length+([]:List Nz).length+(if([]:List Nz).isEmpty then 0 else 1)<30))=true
 line:(apos.endLine == cpos.line)=true
 trees:backTo cpos (starEach [e,f] X.env)=[(false,eval e X.env),(false,eval f X.env)]
def kL(H:Hp)(a:Addr):Prop:=(∃b,Rd H a (.dK b))\/∃b,Rd H a (.dT b)
theorem mU{X:Cx}{f:List (Addr×Obj)}{σ:St}{H:Hp}{s:IA}{a:Addr}(I:Inv X f σ H s)(d:kL H a) :
 s.TypeIs (.ref a) "dict"/\(∀b,IS a=.ref b->∃c,s.heap.get? b=some c/\c.dict=none)/\(a == sysModules)=false:=by
 rcases d with⟨h,e⟩ | ⟨h,e⟩
 .obtain⟨_,i,l,_,g⟩:=iB I.hok e;refine⟨g.typeIs,λb q=>?_,i⟩;cases q;obtain⟨c,_,_,j,k,_⟩:=g;exact⟨c,j,k.2.1⟩
 .obtain⟨_,i,m,_,g⟩:=iC I.hok e;refine⟨g.typeIs,λb q=>?_,i⟩;cases q;obtain⟨c,_,_,j,k,_⟩:=g;exact⟨c,j,k.2.1⟩
section
variable{X:Cx}{pins:List (Addr×Obj)}{σ:St}{H:Hp}{s:IA}{a:Addr}{y d:V}{u r:Iv}{o:Option V}{A:Jx}{E:Iv->IA->Prop}
theorem zB{Q:Iv->IA->Prop}(v:A.units+1<cLine)(I:Inv X pins σ H s)(g:cq H a y o)(n:RelV y u)(h:∀p q,Inv X pins σ H q->RelV (o.getD .non) p->Q p q) :
 wpAny (model X.prog X.w) A (call (.builtin "dict.get") [.ref a,u]) Q E s:=by
 rcases g with⟨i,k,e,j,l⟩ | ⟨i,k,b,e,j,x,l⟩
 .subst j;obtain⟨z,m,C,c,f⟩:=iB I.hok e;refine Pq KD f.typeIs Lz (OC _ _) (meets_dict_get _ a (ja n) m) ⟨_,f.mapOf,h _ _ (I.tok _) ?_⟩;rw[l];exact(c.val k).getD rfl
 .subst j;cases(show u=IS b from n);obtain⟨z,m,B,c,f⟩:=iC I.hok e;refine Pq KD f.typeIs Lz (OC _ _) (meetsH_dict_get _ a b m) ⟨KI v,k,B,h9 I.hok x,f,h _ _ (I.tok _) ?_⟩;rw[l];exact(c.val k).getD rfl
theorem zC{Q:Iv->IA->Prop}(x:A.units+1<cLine)(I:Inv X pins σ H s)(g:cq H a y o)(n:RelV y u)(p:RelV d r)(h:∀q v,Inv X pins σ H v->RelV (o.getD d) q->Q q v) :
 wpAny (model X.prog X.w) A (call (.builtin "dict.get") [.ref a,u,r]) Q E s:=by
 rcases g with⟨i,k,e,j,l⟩ | ⟨i,k,b,e,j,B,l⟩
 .subst j;obtain⟨z,m,D,c,f⟩:=iB I.hok e;refine Pq KD f.typeIs Lz (OF _ _ _) (meets_dict_get_default _ a (ja n) m r) ⟨_,f.mapOf,h _ _ (I.tok _) ?_⟩;rw[l];exact(c.val k).getD p
 .subst j;cases(show u=IS b from n);obtain⟨z,m,C,c,f⟩:=iC I.hok e;refine Pq KD f.typeIs Lz (OF _ _ _) (meetsH_dict_get_default _ a b m r) ⟨KI x,k,C,h9 I.hok B,f,h _ _ (I.tok _) ?_⟩;rw[l];exact(c.val k).getD p
end
noncomputable def zD(e f:TE):TE:=λb H Q=>e b H λx c=>∃a,x=.ref a/\kL c a/\f b c λy d=>∃o,cq d a y o/\Q (o.getD .non) d
noncomputable def zE(e f g:TE):TE:=λb H Q=>e b H λx c=>∃a,x=.ref a/\kL c a/\f b c λy h=>g b h λz d=>∃o,cq d a y o/\Q (o.getD z) d
section
variable{X:Cx}{o e f:Expr}{apos cpos:Pos}{td ty tx:TE}
theorem zF(k:X.A.units+1<cLine)(l:PE X o td)(he:PE X e ty)(m:M1 X o "get" apos e cpos):PE X (.Call (.Attribute o "get" apos) [e] [] cpos) (zD td ty):=by
 intro b s i H Q I h;refine Oi m.base m.few m.line Mp KD Pr (aL (l b s i H _ I h) λu n p=>?_);obtain⟨x,q,j,r,a,v,d,w⟩:=p;subst v;obtain rfl:u=IS a:=r;obtain⟨z,B,_⟩:=mU j d;refine⟨z,B,?_⟩;rw[m.trees];refine Ly rfl (LU (KH (aL (he b n i q _ j w) λiv L ⟨y,C,D,E,ov,g,G⟩=>LO ?_)));exact zB k D g E λN O J c=>⟨_,C,J,c,G⟩
theorem zG(k:X.A.units+1<cLine)(l:PE X o td)(he:PE X e ty)(n:PE X f tx)(m:M2 X o "get" apos e f cpos):PE X (.Call (.Attribute o "get" apos) [e,f] [] cpos) (zE td ty tx):=by
 intro b s c H Q I h;refine Oi m.base m.few m.line Mp KD Pr (aL (l b s c H _ I h) λu p q=>?_);obtain⟨x,r,j,v,a,w,d,B⟩:=q;subst w;obtain rfl:u=IS a:=v;obtain⟨C,D,_⟩:=mU j d;refine⟨C,D,?_⟩;rw[m.trees];refine Ly rfl (LU (KH (aL (he b p c r _ j B) λiv E ⟨y,G,J,L,N⟩=>
  KH (aL (n b E c G _ J N) λfv s3 ⟨z,O,T,U,ov,g,Y⟩=>LO ?_))))
 exact zC k T g L U λw' s4 I4 i=>⟨_,O,I4,i,Y⟩
end
end L2
set_option maxRecDepth 100000
namespace Ws
noncomputable section
inductive PV where
 | non | bl (b:Bool) | int (i:Int) | str (x:PySem.Str) | tup (l:List PV) | ref (n:Nat)
inductive PO where
 | lst (l:List PV)
 | ro (l:List PV)
 | dI (kvs:List (Int×PV))
 | ins (c:Nat) (fs:List (Nat×PV))
   | dT (kvs:List (List Int×PV))
   | exc (c:Nat) (v:PV)
abbrev PHp:=List PO
inductive R (α:Type) where
 | ok (a:α) (A:PHp)
 | ex (c:Nat) (v:PV) (A:PHp)
 | no
abbrev M(a:Type):=PHp->R a
@[simp] noncomputable def ret{b:Type}(a:b):M b:=λA=>.ok a A
@[simp] noncomputable def stuck{a:Type}:M a:=λ_=>.no
@[simp] noncomputable def av{d e:Type}(m:M d)(f:d->M e):M e:=λA=>match m A with
  | .ok a b=>f a b
  | .ex c v b=>.ex c v b
  | .no=>.no
noncomputable def E3{a:Type}(P:Prop)(m:M a):M a:=@ite _ P (Lr P) m stuck
theorem L7{a:Type}{P:Prop}{m:M a}(h:P):E3 P m=m:=if_pos h
@[simp] theorem HX{a:Type}{m:M a}:E3 True m=m:=if_pos trivial
theorem C5{b:Type}{P:Prop}{m:M b}{A A':PHp}{a:b}(h:E3 P m A=.ok a A'):P/\m A=.ok a A':=by
 by_cases p:P
 .rw[L7 p]at h;exact⟨p,h⟩
 .rw[show E3 P m=stuck from if_neg p]at h;cases h
theorem aA{b c:Type}{m:M b}{f:b->M c}{A A':PHp}{a:b}(h:m A=.ok a A'):av m f A=f a A':=by simp_all
inductive rQ {α β:Type} (m:M α) (f:α->M β) (A A':PHp) (b:β):Prop
 | mk (a:α) (A1:PHp) (h0:m A=.ok a A1) (h1:f a A1=.ok b A'):rQ m f A A' b
theorem B0{d g:Type}{m:M d}{f:d->M g}{A A':PHp}{b:g}(h:av m f A=.ok b A'):rQ m f A A' b:=by
 unfold av at h;cases e:m A with
 | ok a i=>rw[e]at h;exact⟨a,i,e,h⟩
 | ex c v i=>simp_all
 | no=>simp_all
abbrev PSt:=List (Option PV)
abbrev ED:=PSt->M PV
abbrev TD:=PSt->M Bool
abbrev AD:=PSt->M (List PV)
abbrev Fun:=List PV->M PV
inductive Fl where
 | nx (σ:PSt) | rt (v:PV) | bk (σ:PSt) | ct (σ:PSt)
abbrev SD:=PSt->M Fl
abbrev GD:=PV->PSt->M PSt
@[irreducible] noncomputable def LIM:Nat:=100000
theorem J6{n:Nat}(h:n<=10000):n<=LIM:=by unfold LIM;omega
theorem c5{n:Nat}(h:n<10000):n<LIM:=by unfold LIM;omega
@[simp] theorem HY:0<=LIM:=Kl _
@[simp] theorem HZ:1<=LIM:=J6 (by omega)
@[simp] theorem Ia:2<=LIM:=J6 (by omega)
@[simp] theorem Ib:3<=LIM:=J6 (by omega)
@[simp] theorem Ic:4<=LIM:=J6 (by omega)
mutual
noncomputable def bC:PV->PV->Bool
 | .non,.non=>true
 | .bl a,.bl b=>a == b
 | .int i,.int j=>decide (i=j)
 | .str x,.str y=>decide (x=y)
 | .tup l,.tup m=>eqvs l m
 | _,_=>false
noncomputable def eqvs:List PV->List PV->Bool
 | [],[]=>true
 | x::a,y::b=>bC x y&&eqvs a b
 | _,_=>false
end
mutual
noncomputable def c6:PV->Bool
 | .non=>true
 | .int _=>true
 | .str _=>true
 | .tup l=>nices l
 | _=>false
noncomputable def nices:List PV->Bool
 | []=>true
 | x::a=>c6 x&&nices a
end
@[simp] noncomputable def i0:PV->Bool
  | .non=>true
  | .int _=>true
  | .str _=>true
  | _=>false
noncomputable def iD:PV->Bool
 | .tup l=>l.all i0
 | x=>i0 x
noncomputable def i3:PV->Bool
 | .tup l=>l.all iD
 | x=>i0 x
noncomputable def plain:PV->Bool
 | .tup l=>l.all i3
 | x=>i0 x
noncomputable def H9(l:List PV):Bool:=l.all plain
@[simp] theorem Ie(i:Int):plain (.int i)=true:=rfl
@[simp] theorem Ig:plain .non=true:=rfl
@[simp] noncomputable def alloc(o:PO):M PV:=λA=>.ok (.ref A.length) (A++[o])
@[simp] noncomputable def G2(n:Nat):M (List PV):=λA=>match A[n]? with
  | some (.lst l)=>.ok l A
  | some (.ro l)=>.ok l A
  | _=>.no
@[simp] noncomputable def S8(n:Nat):M (List PV):=λA=>match A[n]? with
  | some (.lst l)=>.ok l A
  | _=>.no
@[simp] noncomputable def put(n:Nat)(o:PO):M Unit:=λA=>.ok () (A.set n o)
@[simp] noncomputable def v7(n:Nat):M (Nat×List (Nat×PV)):=λA=>match A[n]? with
  | some (.ins c fs)=>.ok (c,fs) A
  | _=>.no
@[simp] noncomputable def O4(v:PV):M (List PV):=match v with
  | .ref n=>G2 n
  | .tup l=>ret l
  | _=>stuck
@[simp] noncomputable def aa(i:Nat):ED:=λa=>match a[i]? with
  | some (some v)=>ret v
  | _=>stuck
@[simp] noncomputable def eK(v:PV):ED:=λ_=>ret v
@[simp] noncomputable def aNil:AD:=λ_=>ret []
@[simp] noncomputable def ai(e:ED)(es:AD):AD:=λa=>av (e a) λx=>av (es a) λb=>ret (x::b)
@[simp] noncomputable def c7(es:AD):ED:=λb=>av (es b) λa=>E3 (a.length<=LIM) (ret (.tup a))
@[simp] noncomputable def X9(es:AD):ED:=λb=>av (es b) λa=>E3 (a.length<=LIM) (alloc (.lst a))
abbrev OD:=PV->PV->M PV
@[simp] noncomputable def C3(f:OD)(a b:ED):ED:=λc=>av (a c) λx=>av (b c) λy=>f x y
@[simp] noncomputable def U7:OD
  | .int i,.int j=>ret (.int (i+j))
  | .tup l,.tup m=>E3 (l≠[]/\l.length+m.length<=LIM) (ret (.tup (l++m)))
  | .ref n,.ref k=>av (S8 n) λl=>av (S8 k) λm=>E3 (l.length+m.length<=LIM) (alloc (.lst (l++m)))
  | _,_=>stuck
@[simp] noncomputable def kM:OD
  | .int i,.int j=>ret (.int (i - j))
  | _,_=>stuck
@[simp] noncomputable def fJ:OD
  | .int i,.int j=>E3 ((-(2 ^ 64)<i/\i<2 ^ 64)\/(-(2 ^ 64)<j/\j<2 ^ 64)) (ret (.int (i*j)))
  | _,_=>stuck
@[simp] noncomputable def f8:OD
  | .int i,.int j=>E3 (0<j) (ret (.int (i%j)))
  | _,_=>stuck
@[simp] noncomputable def v8:OD
  | .int i,.int j=>E3 (0<j/\j<1073741824) (ret (.int (i / j)))
  | _,_=>stuck
@[simp] noncomputable def fK:OD
  | .int i,.int j=>ret (.bl (decide (i<j)))
  | _,_=>stuck
@[simp] noncomputable def kN:OD
  | .int i,.int j=>ret (.bl (decide (i<=j)))
  | _,_=>stuck
@[simp] noncomputable def jD:OD
  | .int i,.int j=>ret (.bl (decide (j<i)))
  | _,_=>stuck
@[simp] noncomputable def rR:OD
  | .int i,.int j=>ret (.bl (decide (j<=i)))
  | _,_=>stuck
@[simp] noncomputable def rS:PV->PV->Bool
  | .bl _,.bl _=>true
  | _,_=>false
@[simp] noncomputable def jE(x y:PV):M Bool:=match x,y with
  | .ref n,.ref k=>av (G2 n) λl=>av (G2 k) λm=>E3 (H9 l=true/\H9 m=true) (ret (eqvs l m))
  | x,y=>E3 (rS x y=true\/(plain x=true/\plain y=true)) (ret (bC x y))
@[simp] noncomputable def cO:OD:=λx y=>av (jE x y) λb=>ret (.bl b)
@[simp] noncomputable def dH:OD:=λx y=>av (jE x y) λb=>ret (.bl (!b))
noncomputable def eE(x:PV)(l:List PV):Bool:=l.any λy=>bC y x
@[simp] noncomputable def eF:OD:=λx y=>av (O4 y) λl=>E3 (plain x=true/\H9 l=true) (ret (.bl (eE x l)))
@[simp] noncomputable def R3:OD:=λx y=>av (O4 y) λl=>E3 (plain x=true/\H9 l=true) (ret (.bl (!eE x l)))
@[simp] noncomputable def kO:PV->Bool
  | .non=>true
  | _=>false
@[simp] noncomputable def mV(a:ED):ED:=λb=>av (a b) λx=>ret (.bl (kO x))
@[simp] noncomputable def rT(a:ED):ED:=λb=>av (a b) λx=>ret (.bl (!kO x))
@[simp] noncomputable def kP(f g:OD)(a b c:ED):ED:=λd=>av (a d) λx=>av (b d) λy=>av (f x y) λz=>match z with
  | .bl true=>av (c d) λu=>g y u
  | .bl false=>ret (.bl false)
  | _=>stuck
@[simp] noncomputable def jF(v:PV):M Bool:=match v with
  | .bl b=>ret b
  | _=>stuck
@[simp] noncomputable def D3(e:ED):TD:=λa=>av (e a) jF
@[simp] noncomputable def tAnd(a b:TD):TD:=λd=>av (a d) λc=>if c=true then b d else ret false
@[simp] noncomputable def tOr(a b:TD):TD:=λd=>av (a d) λc=>if c=true then ret true else b d
@[simp] noncomputable def tNot(a:TD):TD:=λb=>av (a b) λc=>ret (!c)
@[simp] noncomputable def fc(a b:ED):ED:=λd=>av (av (a d) jF) λc=>if c=true then b d else ret (.bl false)
@[simp] noncomputable def mW(a b:ED):ED:=λd=>av (av (a d) jF) λc=>if c=true then ret (.bl true) else b d
@[simp] noncomputable def rV(a:ED):ED:=λb=>av (av (a b) jF) λc=>ret (.bl (!c))
@[simp] noncomputable def mX(t:TD)(a b:ED):ED:=λd=>av (t d) λc=>if c=true then a d else b d
noncomputable def ixN(n:Nat)(i:Int):Option Nat:=if 0<=i then(if i<n then some i.toNat else none) else if -(n:Int)<=i then some (i+n).toNat else none
noncomputable def atI{a:Type}(b:List a)(i:Int):Option a:=(ixN b.length i).bind λj=>b[j]?
@[simp] noncomputable def bh:OD:=λx y=>match y with
  | .int i=>av (O4 x) λl=>match atI l i with
    | some v=>ret v
    | none=>stuck
  | _=>stuck
noncomputable def U8(n d:Nat):Option Int->Nat
 | none=>d
 | some v=>if v<0 then(max (v+n) 0).toNat else(min v n).toNat
noncomputable def cut{b:Type}(a:List b)(lo c:Option Int):List b:=(a.drop (U8 a.length 0 lo)).take (U8 a.length a.length c - U8 a.length 0 lo)
abbrev LD:=PSt->M (Option Int)
@[simp] noncomputable def hU:LD:=λ_=>ret none
@[simp] noncomputable def gs(e:ED):LD:=λa=>av (e a) λx=>match x with
  | .int i=>ret (some i)
  | _=>stuck
@[simp] noncomputable def gG(a:ED)(lo d:LD):ED:=λc=>av (a c) λx=>av (lo c) λl=>av (d c) λh=>match x with
  | .ref n=>av (G2 n) λb=>alloc (.lst (cut b l h))
  | .tup b=>E3 (¬(U8 b.length 0 l=0/\U8 b.length b.length h=b.length)) (ret (.tup (cut b l h)))
  | _=>stuck
@[simp] noncomputable def v9(a:ED):ED:=λb=>av (a b) λx=>av (O4 x) λl=>ret (.int l.length)
@[simp] noncomputable def w4(a:ED):ED:=λb=>av (a b) λx=>av (O4 x) λl=>alloc (.lst l)
noncomputable def O5:List PV->Option (List Int)
 | []=>some []
 | .int i::r=>(O5 r).map (i :: ·)
 | _=>none
noncomputable def T3:List PV->Option (List (List Int))
 | []=>some []
 | .tup (x::l)::r=>match O5 (x::l),T3 r with
   | some z,some a=>some (z::a)
   | _,_=>none
 | _=>none
noncomputable def D0:List Int->List Int->Bool
 | _,[]=>false
 | [],_::_=>true
 | x::a,y::b=>if x=y then D0 a b else decide (x<y)
noncomputable def d8{c:Type}(lt:c->c->Bool)(a:c):List c->List c
 | []=>[a]
 | b::r=>if lt b a=true then b::d8 lt a r else a::b::r
noncomputable def D8{b:Type}(lt:b->b->Bool):List b->List b
 | []=>[]
 | a::r=>d8 lt a (D8 lt r)
noncomputable def hV(i j:Int):Bool:=decide (i<j)
noncomputable def m8(l:List PV):M (List PV):=E3 (l.length<64) (match O5 l with
    | some ns=>ret ((D8 hV ns).map .int)
    | none=>match T3 l with
      | some a=>ret ((D8 D0 a).map λt=>.tup (t.map .int))
      | none=>stuck)
@[simp] noncomputable def kQ(a:ED):ED:=λb=>av (a b) λx=>match x with
  | .ref n=>av (G2 n) λl=>av (m8 l) λm=>alloc (.lst m)
  | _=>stuck
inductive Ty where
 | int | bool | tuple | list
@[simp] noncomputable def jG(t:Ty)(v:PV):M Bool:=match t,v with
  | .int,.int _=>ret true
  | .int,.bl _=>ret true
  | .bool,.bl _=>ret true
  | .tuple,.tup _=>ret true
  | .list,.ref n=>av (S8 n) λ_=>ret true
  | _,.ref n=>av (S8 n) λ_=>ret false
  | _,_=>ret false
@[simp] noncomputable def hX(a:ED)(t:Ty):ED:=λc=>av (a c) λx=>av (jG t x) λb=>ret (.bl b)
@[simp] noncomputable def i4(f:Nat):List (Nat×PV)->Option PV
  | []=>none
  | (g,u)::r=>if g=f then some u else i4 f r
@[simp] noncomputable def K8(a:ED)(f:Nat):ED:=λb=>av (a b) λx=>match x with
  | .ref n=>av (v7 n) λo=>match i4 f o.2 with
    | some v=>ret v
    | none=>stuck
  | _=>stuck
@[simp] noncomputable def putFld(f:Nat)(v:PV):List (Nat×PV)->List (Nat×PV)
  | []=>[(f,v)]
  | (g,u)::r=>if g=f then(g,v)::r else(g,u)::putFld f v r
@[simp] noncomputable def sFld(a:ED)(f:Nat)(e:ED):SD:=λb=>av (e b) λv=>av (a b) λx=>match x with
  | .ref n=>av (v7 n) λo=>E3 (o.2.length<900) (av (put n (.ins o.1 (putFld f v o.2))) λ_=>ret (.nx b))
  | _=>stuck
@[simp] noncomputable def G3(f:Fun)(es:AD):ED:=λa=>av (es a) f
@[simp] noncomputable def iE(c:Nat)(a:Fun)(es:AD):ED:=λb=>av (es b) λd=>av (alloc (.ins c [])) λx=>av (a (x::d)) λ_=>ret x
@[simp] noncomputable def O2(c:Nat)(f:Fun)(a:ED)(es:AD):ED:=λb=>av (a b) λx=>match x with
  | .ref n=>av (v7 n) λo=>E3 (o.1=c) (av (es b) λd=>f (x::d))
  | _=>stuck
@[simp] noncomputable def m9(a e:ED):ED:=λb=>av (a b) λx=>match x with
  | .ref n=>av (S8 n) λ_=>av (e b) λv=>av (S8 n) λl=>E3 (l.length<LIM) (av (put n (.lst (l++[v]))) λ_=>ret .non)
  | _=>stuck
@[simp] noncomputable def gName(i:Nat):GD:=λv a=>ret (a.set i (some v))
abbrev GDs:=List PV->PSt->M PSt
@[simp] noncomputable def gNil:GDs:=λa b=>match a with
  | []=>ret b
  | _=>stuck
@[simp] noncomputable def gCons(g:GD)(r:GDs):GDs:=λb c=>match b with
  | v::w=>av (g v c) λa=>r w a
  | _=>stuck
@[simp] noncomputable def gTup(n:Nat)(g:GDs):GD:=λv a=>match v with
  | .tup l=>E3 (l.length=n) (g l a)
  | _=>stuck
inductive It where
 | rng (lo:Int) (n:Nat) | lst (n:Nat) | tup (l:List PV) | enm (n:Nat)
   | fix (l:List PV)
   | zip (x y:PV)
   | enk (k n:Nat)
abbrev ID:=PSt->M It
@[simp] noncomputable def V5(a:ED):ID:=λb=>av (a b) λx=>match x with
  | .ref n=>av (G2 n) λ_=>ret (.lst n)
  | .tup l=>ret (.tup l)
  | _=>stuck
@[simp] noncomputable def iRng1(a:ED):ID:=λb=>av (a b) λx=>match x with
  | .int j=>E3 (-(2 ^ 62)<=j/\j<2 ^ 62) (ret (.rng 0 j.toNat))
  | _=>stuck
@[simp] noncomputable def iRng2(a b:ED):ID:=λc=>av (a c) λx=>av (b c) λy=>match x,y with
  | .int i,.int j=>E3 ((-(2 ^ 62)<=i/\i<2 ^ 62)/\-(2 ^ 62)<=j/\j<2 ^ 62) (ret (.rng i (j - i).toNat))
  | _,_=>stuck
@[simp] noncomputable def kR(a:ED):ID:=λb=>av (a b) λx=>match x with
  | .ref n=>av (G2 n) λ_=>ret (.enm n)
  | _=>stuck
@[simp] noncomputable def item(J:It)(i:Nat):M (Option PV):=match J with
  | .rng lo n=>ret (if i<n then some (.int (lo+i)) else none)
  | .lst a=>av (G2 a) λl=>ret l[i]?
  | .tup l=>ret l[i]?
  | .enm a=>av (G2 a) λl=>ret (l[i]?.map λx=>.tup [.int i,x])
  | .fix l=>ret l[i]?
  | .zip x y=>av (O4 x) λl=>av (O4 y) λm=>ret (match l[i]?,m[i]? with
    | some u,some v=>some (.tup [u,v])
    | _,_=>none)
  | .enk k a=>av (G2 a) λl=>ret (l[i]?.map λx=>.tup [.int ((k+i:Nat):Int),x])
@[simp] noncomputable def q9(J:It):M Nat:=match J with
  | .rng _ n=>ret n
  | .lst a=>av (G2 a) λl=>ret l.length
  | .tup l=>ret l.length
  | .enm a=>av (G2 a) λl=>ret l.length
  | .fix l=>ret l.length
  | .zip x _=>av (O4 x) λl=>ret l.length
  | .enk _ a=>av (G2 a) λl=>ret l.length
@[simp] noncomputable def sPass:SD:=λa=>ret (.nx a)
@[simp] noncomputable def C9(a b:SD):SD:=λd=>av (a d) λf=>match f with
  | .nx c=>b c
  | o=>ret o
@[simp] noncomputable def Q7(e:ED):SD:=λa=>av (e a) λ_=>ret (.nx a)
@[simp] noncomputable def I9(e:ED):SD:=λa=>av (e a) λv=>ret (.rt v)
@[simp] noncomputable def bN(t:TD)(a b:SD):SD:=λd=>av (t d) λc=>if c=true then a d else b d
@[simp] noncomputable def K0(e:ED)(g:GD):SD:=λb=>av (e b) λv=>av (g v b) λa=>ret (.nx a)
@[simp] noncomputable def sNever:SD:=λ_=>stuck
noncomputable def mY(J:It)(g:GD)(a:SD):Nat->Nat->PSt->M Fl
 | 0,_,_=>stuck
 | f+1,i,d=>av (item J i) λx=>match x with
   | none=>ret (.nx d)
   | some v=>av (g v d) λc=>av (a c) λo=>match o with
     | .nx b=>mY J g a f (i+1) b
     | .ct b=>mY J g a f (i+1) b
     | .bk b=>ret (.nx b)
     | .rt v=>ret (.rt v)
theorem mZ:∃T:It->GD->SD->Nat->Nat->PSt->M Fl,(∀J g a i c,T J g a 0 i c=stuck)/\∀J g a f i c,T J g a (f+1) i c=av (item J i) λx=>match x with
 | none=>ret (.nx c)
 | some v=>av (g v c) λd=>av (a d) λo=>match o with
   | .nx b=>T J g a f (i+1) b
   | .ct b=>T J g a f (i+1) b
   | .bk b=>ret (.nx b)
   | .rt v=>ret (.rt v):=⟨mY,λ_ _ _ _ _=>rfl,λ_ _ _ _ _ _=>rfl⟩
noncomputable def turns:It->GD->SD->Nat->Nat->PSt->M Fl:=OR mZ
theorem rW(J:It)(g:GD)(a:SD)(i:Nat)(σ:PSt):turns J g a 0 i σ=stuck:=(KG mZ).1 J g a i σ
theorem T4(J:It)(g:GD)(a:SD)(f i:Nat)(σ:PSt):turns J g a (f+1) i σ=av (item J i) λx=>match x with
 | none=>ret (.nx σ)
 | some v=>av (g v σ) λc=>av (a c) λo=>match o with
   | .nx b=>turns J g a f (i+1) b
   | .ct b=>turns J g a f (i+1) b
   | .bk b=>ret (.nx b)
   | .rt v=>ret (.rt v):=(KG mZ).2 J g a f i σ
@[simp] noncomputable def w5(c:ID)(g:GD)(a:SD):SD:=λb=>av (c b) λJ=>av (q9 J) λn=>turns J g a (n+1) 0 b
noncomputable def nc(t:TD)(a:SD):Nat->PSt->M Fl
 | 0,_=>stuck
 | f+1,d=>av (t d) λc=>if c=true then av (a d) λo=>match o with
    | .nx b=>nc t a f b
    | .ct b=>nc t a f b
    | .bk b=>ret (.nx b)
    | .rt v=>ret (.rt v)
   else ret (.nx d)
theorem ng:∃T:TD->SD->Nat->PSt->M Fl,(∀t a d,T t a 0 d=stuck)/\∀t a f d,T t a (f+1) d=av (t d) λc=>if c=true then av (a d) λo=>match o with
 | .nx b=>T t a f b
 | .ct b=>T t a f b
 | .bk b=>ret (.nx b)
 | .rt v=>ret (.rt v)
 else ret (.nx d):=⟨nc,λ_ _ _=>rfl,λ_ _ _ _=>rfl⟩
noncomputable def i5:TD->SD->Nat->PSt->M Fl:=OR ng
theorem zH(t:TD)(a:SD)(σ:PSt):i5 t a 0 σ=stuck:=(KG ng).1 t a σ
theorem rX(t:TD)(a:SD)(f:Nat)(σ:PSt):i5 t a (f+1) σ=av (t σ) λc=>if c=true then av (a σ) λo=>match o with
 | .nx b=>i5 t a f b
 | .ct b=>i5 t a f b
 | .bk b=>ret (.nx b)
 | .rt v=>ret (.rt v)
 else ret (.nx σ):=(KG ng).2 t a f σ
@[simp] noncomputable def jH(t:TD)(a:SD):SD:=λb=>i5 t a LIM b
noncomputable def bT{a:Type}(b:List (Option Nat))(σ:List (Option a)):List (Option a):=b.map λo=>match o with
 | none=>none
 | some j=>σ.getD j none
noncomputable def nh(J:It)(g:GD)(t:TD)(e:ED):Nat->Nat->PSt->M (List PV)
 | 0,_,_=>stuck
 | f+1,i,b=>av (item J i) λx=>match x with
   | none=>ret []
   | some v=>av (g v b) λa=>av (t a) λc=>if c=true then av (e a) λy=>av (nh J g t e f (i+1) a) λd=>ret (y::d)
     else nh J g t e f (i+1) a
theorem ni:∃T:It->GD->TD->ED->Nat->Nat->PSt->M (List PV),(∀J g t e i b,T J g t e 0 i b=stuck)/\∀J g t e f i b,T J g t e (f+1) i b=av (item J i) λx=>match x with
 | none=>ret []
 | some v=>av (g v b) λa=>av (t a) λc=>if c=true then av (e a) λy=>av (T J g t e f (i+1) a) λd=>ret (y::d)
   else T J g t e f (i+1) a:=⟨nh,λ_ _ _ _ _ _=>rfl,λ_ _ _ _ _ _ _=>rfl⟩
noncomputable def c8:It->GD->TD->ED->Nat->Nat->PSt->M (List PV):=OR ni
theorem rY(J:It)(g:GD)(t:TD)(e:ED)(i:Nat)(σ:PSt):c8 J g t e 0 i σ=stuck:=(KG ni).1 J g t e i σ
theorem Y1(J:It)(g:GD)(t:TD)(e:ED)(f i:Nat)(σ:PSt):c8 J g t e (f+1) i σ=av (item J i) λx=>match x with
 | none=>ret []
 | some v=>av (g v σ) λa=>av (t a) λc=>if c=true then av (e a) λy=>av (c8 J g t e f (i+1) a) λb=>ret (y::b)
   else c8 J g t e f (i+1) a:=(KG ni).2 J g t e f i σ
@[simp] noncomputable def S9:TD:=λ_=>ret true
@[simp] noncomputable def L5(c:ID)(mk:PSt->PSt)(g:GD)(t:TD)(e:ED):ED:=λa=>av (c a) λJ=>av (q9 J) λn=>av (c8 J g t e (n+1) 0 (mk a)) λb=>E3 (b.length<=LIM) (alloc (.lst b))
@[simp] noncomputable def start(n:Nat)(vs:List PV):PSt:=vs.map some++LZ (n - vs.length) none
noncomputable def fin(o:Fl):M PV:=match o with
    | .rt v=>ret v
    | .nx _=>ret .non
    | _=>stuck
@[simp] theorem Ih(v:PV):fin (.rt v)=ret v:=rfl
@[simp] theorem Ii(σ:PSt):fin (.nx σ)=ret .non:=rfl
@[simp] noncomputable def fn(n p:Nat)(a:SD):Fun:=λb=>E3 (b.length=p) (av (a (start n b)) fin)
end
theorem ah{A B:PHp}{n:Nat}{o:PO}(h:A<+:B)(e:A[n]?=some o):B[n]?=some o:=by
 obtain⟨t,rfl⟩:=h;rw[Jf (IQ.mp e).1];exact e
theorem G8{A:PHp}{n:Nat}{o:PO}(e:A[n]?=some o):n<A.length:=(IQ.mp e).1
theorem Y2{A B:PHp}{n:Nat}{o:PO}(h:A<+:B)(e:A.length<=n):A<+:B.set n o:=by
 obtain⟨t,rfl⟩:=h;rw[List.set_append_right _ _ e];exact IJ _ _
theorem E4{A B:PHp}{o:PO}(h:A<+:B):A<+:B++[o]:=h.trans (IJ _ _)
theorem zI{A B:PHp}(h:A<+:B):A.length<=B.length:=h.length_le
theorem ax{A:PHp}{o:PO}:(A++[o])[A.length]?=some o:=by simp
theorem ao{A:PHp}{o p:PO}{n:Nat}(e:A[n]?=some p):(A++[o])[n]?=some p:=ah (IJ _ _) e
theorem D9{A:PHp}{o:PO}{n m:Nat}(h:m≠n):(A.set n o)[m]?=A[m]?:=by
 simp[KP h]
theorem aP{A:PHp}{o p:PO}{n:Nat}(h:A[n]?=some p):(A.set n o)[n]?=some o:=by
 simp[G8 h]
def Comes(r:R Fl)(P:PSt->PHp->Prop)(Q:PV->PHp->Prop):Prop:=
 (∃a A,r=.ok (.nx a) A/\P a A)\/∃v A,r=.ok (.rt v) A/\Q v A
def dW(r:R Fl)(P:PSt->PHp->Prop)(Q:PV->PHp->Prop):Prop:=
 (∃a A,(r=.ok (.nx a) A\/r=.ok (.ct a) A)/\P a A)\/∃v A,r=.ok (.rt v) A/\Q v A
theorem turns_inv{J:It}{g:GD}{a:SD}{n:Nat}(P:Nat->PSt->PHp->Prop)(Q:PV->PHp->Prop)
 (d:∀b A,P n b A->item J n A=.ok none A)
 (hs:∀i b A,i<n->P i b A->∃v,item J i A=.ok (some v) A/\dW (av (g v b) a A) (P (i+1)) Q) :
 ∀k i b A,i+k=n->P i b A->Comes (turns J g a (k+1) i b A) (P n) Q
 | 0,i,b,A,e,h=>by
   obtain rfl:i=n:=by omega
   refine .inl ⟨b,A,?_,h⟩;rw[T4,aA (d b A h)];rfl
 | k+1,i,b,A,e,h=>by
   obtain⟨v,p,t⟩:=hs i b A (by omega) h;have j:turns J g a (k+1+1) i b A=av (av (g v b) a) (λo=>match o with
    | .nx c=>turns J g a (k+1) (i+1) c
    | .ct c=>turns J g a (k+1) (i+1) c
    | .bk c=>ret (.nx c)
    | .rt v=>ret (.rt v)) A:=by
    rw[T4,aA p];show av _ _ A=_;unfold av;cases g v b A<;>rfl
   rw[j];rcases t with⟨c,l,f,m⟩ | ⟨u,l,f,m⟩
   .rcases f with f | f<;>(rw[aA f];exact turns_inv P Q d hs k _ c l (by omega) m)
   .rw[aA f];exact .inr ⟨u,l,rfl,m⟩
theorem zJ{e:ID}{g:GD}{b:SD}{a:Nat}{l:List PV}{σ:PSt}{A A1:PHp}(c:e σ A=.ok (.enm a) A1)(P:Nat->PSt->PHp->Prop)(Q:PV->PHp->Prop)(f:P 0 σ A1)
 (d:∀i σ A,P i σ A->G2 a A=.ok l A)
 (hs:∀(i:Nat) v σ A,l[i]?=some v->P i σ A->dW (av (g (.tup [.int i,v]) σ) b A) (P (i+1)) Q):Comes (w5 e g b σ A) (P l.length) Q:=by
 show Comes (av _ _ A) _ _;rw[aA c];show Comes (av (av _ _) _ A1) _ _;rw[aA (show av (G2 a) _ A1=.ok _ A1 by rw[aA (d 0 σ A1 f)];rfl)];refine turns_inv P Q (λσ A h=>?_) (λi σ A c h=>⟨.tup [.int i,l[i]],?_,hs i _ σ A (by simp) h⟩) _ 0 σ A1 (by simp) f
 .show av _ _ A=_;rw[aA (d _ _ _ h)];simp
 .show av _ _ A=_;rw[aA (d _ _ _ h)];simp[c]
theorem Comes.end{r:R Fl}{P:PSt->PHp->Prop}(h:Comes r P λ_ _=>False):∃a A,r=.ok (.nx a) A/\P a A:=by
 rcases h with h | ⟨_,_,_,h⟩
 .omega
 .simp_all
theorem dW.nx{r:R Fl}{P:PSt->PHp->Prop}{Q:PV->PHp->Prop}{σ:PSt}{A:PHp}(e:r=.ok (.nx σ) A)(h:P σ A):dW r P Q:=.inl ⟨σ,A,.inl e,h⟩
theorem Comes.mono{r:R Fl}{P b:PSt->PHp->Prop}{Q c:PV->PHp->Prop}(h:Comes r P Q)(d:∀a A,P a A->b a A)(f:∀v A,Q v A->c v A):Comes r b c:=by
 rcases h with⟨a,A,e,h⟩ | ⟨v,A,e,h⟩
 .exact .inl ⟨a,A,e,d _ _ h⟩
 .exact .inr ⟨v,A,e,f _ _ h⟩
theorem rZ{J:It}{g:GD}{t:TD}{e:ED}{l:List PV}{S:PSt->Prop}{p:PV->Bool}{f:PV->PV}{A:PHp}
 (c:∀i,item J i A=.ok l[i]? A)
 (h:∀v∈l,∀b,S b->∃a,g v b A=.ok a A/\S a/\t a A=.ok (p v) A/\(p v=true->e a A=.ok (f v) A)) :
 ∀k i b,i+k=l.length->S b->c8 J g t e (k+1) i b A=.ok (((l.drop i).filter p).map f) A
 | 0,i,b,n,d=>by
   have:l.length<=i:=by omega
   rw[Y1,aA (c i)];simp[MF this,this]
 | k+1,i,b,n,d=>by
   have j:i<l.length:=by omega
   obtain⟨a,o,q,r,s⟩:=h l[i] (JM j) b d;have ih:=rZ c h k (i+1) a (by omega) q;have u:=NX j;rw[Y1,aA (c i),IM j];show av _ _ A=_;rw[aA o,aA r,u];cases m:p l[i]with
   | true=>
     rw[if_pos rfl,aA (s m),aA ih,OG m];rfl
   | false=>
     rw[if_neg (by simp),ih,Mq (by simp_all)]
theorem sd{i:ID}{mk:PSt->PSt}{g:GD}{t:TD}{e:ED}{a:Nat}{l:List PV}{S:PSt->Prop}{p:PV->Bool}{f:PV->PV}{σ:PSt}{A A1:PHp}(j:i σ A=.ok (.lst a) A1)(k:G2 a A1=.ok l A1)(m:l.length<=LIM)(d:S (mk σ))
 (h:∀v∈l,∀σ,S σ->∃b,g v σ A1=.ok b A1/\S b/\t b A1=.ok (p v) A1/\(p v=true->e b A1=.ok (f v) A1)) :
 L5 i mk g t e σ A=.ok (.ref A1.length) (A1++[.lst ((l.filter p).map f)]):=by
 show av _ _ A=_;rw[aA j];show av (av _ _) _ A1=_;rw[aA (show av (G2 a) _ A1=.ok _ A1 by rw[aA k];rfl)];have c:=rZ (J:=.lst a) (by simp_all) h l.length 0 _ (by simp) d;rw[aA c,L7]
 .rfl
 .rw[Iz];exact Jd (JE _ _) m
theorem zK{n p:Nat}{a:SD}{vs:List PV}{A A':PHp}{v:PV}(b:vs.length=p)(h:a (start n vs) A=.ok (.rt v) A'):fn n p a vs A=.ok v A':=by
 show E3 _ _ A=_;rw[L7 b,aA h];rfl
theorem zL(A:PHp)(σ:PSt):X9 aNil σ A=.ok (.ref A.length) (A++[.lst []]):=by simp
theorem zM{e:ED}{σ:PSt}{A A1:PHp}{n:Nat}{l:List PV}(h:e σ A=.ok (.ref n) A1)(a:G2 n A1=.ok l A1):V5 e σ A=.ok (.lst n) A1:=by simp_all
theorem J3{A:PHp}{n:Nat}{l:List PV}(h:A[n]?=some (.lst l)):G2 n A=.ok l A:=by simp_all
theorem r6{A:PHp}{l:List PV}:G2 A.length (A++[.lst l])=.ok l (A++[.lst l]):=J3 ax
theorem se{A:PHp}{n:Nat}{l:List PV}(h:A[n]?=some (.lst l)):S8 n A=.ok l A:=by simp_all
mutual
theorem sf:∀x y:PV,c6 x=true->(bC x y=true↔x=y)
 | .non,y,_=>by cases y<;>simp[bC]
 | .bl _,_,h=>by simp[c6]at h
 | .int i,y,_=>by cases y<;>simp[bC]
 | .str s,y,_=>by cases y<;>simp[bC]
 | .tup l,y,h=>by
   cases y with
   | tup m=>simp only[PV.tup.injEq];exact eqvs_nice l m (by simpa[c6]using h)
   | _=>simp[bC]
 | .ref _,_,h=>by simp[c6]at h
theorem eqvs_nice:∀l m:List PV,nices l=true->(eqvs l m=true↔l=m)
 | [],m,_=>by cases m<;>simp[eqvs]
 | x::a,m,h=>by
   cases m with
   | nil=>simp[eqvs]
   | cons y b=>
     simp only[nices,Jc]at h;simp only[eqvs,Jc,Mr];rw[sf x y h.1,eqvs_nice a b h.2]
end
theorem U9{f:PV->Bool}(h:∀x,f x=true->c6 x=true):∀l:List PV,l.all f=true->nices l=true
 | [],_=>rfl
 | x::a,e=>by
   rw[Ms,Jc]at e;simp only[nices,Jc];exact⟨h x e.1,U9 h a e.2⟩
theorem jI(x:PV)(h:i0 x=true):c6 x=true:=by cases x<;>simp_all [c6]
theorem sg(x:PV)(h:iD x=true):c6 x=true:=by
 cases x with
 | tup l=>exact U9 jI l h
 | _=>exact jI _ h
theorem sh(x:PV)(h:i3 x=true):c6 x=true:=by
 cases x with
 | tup l=>exact U9 sg l h
 | _=>exact jI _ h
theorem c9(x:PV)(h:plain x=true):c6 x=true:=by
 cases x with
 | tup l=>exact U9 sh l h
 | _=>exact jI _ h
theorem si(x y:PV)(h:plain x=true):bC x y=true↔x=y:=sf x y (c9 x h)
theorem zN(l m:List PV)(h:H9 l=true):eqvs l m=true↔l=m:=eqvs_nice l m (U9 c9 l h)
theorem d0(l:List PV):H9 l=true↔∀x∈l,plain x=true:=Jg
theorem O6(ns:List Int):H9 (ns.map .int)=true:=by
 rw[d0];intro x a;obtain⟨i,_,rfl⟩:=IB.mp a;rfl
theorem cu{c:Type}(lt:c->c->Bool)(a:c):∀l:List c,(d8 lt a l).Perm (a::l)
 | []=>.refl _
 | b::r=>by
   unfold d8;split
   .exact((cu lt a r).cons b).trans (.swap a b r)
   .rfl
theorem K2{b:Type}(lt:b->b->Bool):∀l:List b,(D8 lt l).Perm l
 | []=>.refl _
 | a::r=>(cu lt a _).trans ((K2 lt r).cons a)
theorem W6(ns:List Int):O5 (ns.map .int)=some ns:=by
 induction ns with
 | nil=>rfl
 | cons i r ih=>simp[O5,ih]
theorem r8:∀(a:List (List Int)),(∀t∈a,t≠[])->T3 (a.map λt=>PV.tup (t.map .int))=some a
 | [],_=>rfl
 | t::r,h=>by
   have ih:=r8 r λu b=>h u (IF _ b);cases t with
   | nil=>exact absurd rfl (h [] IE)
   | cons x l=>
     have e:=W6 (x::l);simp only[Jb]at e;simp only[Jb,T3,e,ih]
theorem w6{a:List (List Int)}{A:PHp}(h:a.length<64)(b:∀t∈a,t≠[]):m8 (a.map λt=>PV.tup (t.map .int)) A=.ok ((D8 D0 a).map λt=>PV.tup (t.map .int)) A:=by
 unfold m8;rw[Iz,L7 h];cases a with
 | nil=>rfl
 | cons t r=>
   have e:O5 ((t::r).map λt=>PV.tup (t.map .int))=none:=by simp[O5]
   rw[r8 _ b];rfl
theorem w8{f:Type}{lt:f->f->Bool}(d:∀a b,lt a b=true->lt b a=false)(j:∀a b c,lt b a=false->lt c b=false->lt c a=false)(a:f) :
 ∀l:List f,l.Pairwise (λx y=>lt y x=false)->(d8 lt a l).Pairwise (λx y=>lt y x=false)
 | [],_=>by simp[d8]
 | b::r,h=>by
   rw[Jz]at h;unfold d8;split
   .rename_i g;rw[Jz];refine⟨λc e=>?_,w8 d j a r h.2⟩;rcases IH.mp ((cu lt a r).mem_iff.mp e)with rfl | e
    .exact d _ _ g
    .exact h.1 c e
   .rename_i g;have i:lt b a=false:=by simpa using g
    rw[Jz];refine⟨λc e=>?_,Jz.mpr h⟩;rcases IH.mp e with rfl | e
    .omega
    .exact j a b c i (h.1 c e)
theorem U3{e:Type}{lt:e->e->Bool}(d:∀a b,lt a b=true->lt b a=false)(f:∀a b c,lt b a=false->lt c b=false->lt c a=false) :
 ∀l:List e,(D8 lt l).Pairwise (λx y=>lt y x=false)
 | []=>by simp[D8]
 | a::r=>w8 d f a _ (U3 d f r)
theorem zO(l:List Int):(D8 hV l).Pairwise (·<=·):=by
 refine(U3 ?_ ?_ l).imp ?_
 .intro a b h;simp[hV]at *;omega
 .intro a b c d e;simp[hV]at *;omega
 .intro a b h;simp[hV]at h;exact h
theorem sj:∀{l m:List Int},l.Perm m->l.Pairwise (·<=·)->m.Pairwise (·<=·)->l=m
 | [],m,h,_,_=>(List.nil_perm.mp h).symm
 | x::l,[],h,_,_=>absurd h.length_eq (by simp)
 | x::l,y::m,h,a,b=>by
   rw[Jz]at a b;have e:x=y:=by
    have c:=h.mem_iff.mp IE;have d:=h.mem_iff.mpr IE;rcases IH.mp c with e | e
    .omega
    .grind
   subst e;rw[sj (List.perm_cons _ |>.mp h) a.2 b.2]
theorem nj{d:Type}{lt:d->d->Bool}(c:∀a b,lt a b=false->lt b a=false->a=b):∀{l m:List d},l.Perm m->l.Pairwise (λx y=>lt y x=false)->m.Pairwise (λx y=>lt y x=false)->l=m
 | [],m,h,_,_=>(List.nil_perm.mp h).symm
 | x::l,[],h,_,_=>absurd h.length_eq (by simp)
 | x::l,y::m,h,f,g=>by
   rw[Jz]at f g;have e:x=y:=by
    have j:=h.mem_iff.mp IE;have k:=h.mem_iff.mpr IE;rcases IH.mp j with e | e
    .omega
    .rcases IH.mp k with i | i
     .exact i.symm
     .exact c _ _ (g.1 x e) (f.1 y i) |>.symm ▸ rfl
   subst e;rw[nj c (List.perm_cons _ |>.mp h) f.2 g.2]
theorem nq:∀a b:List Int,D0 a b=true->D0 b a=false
 | _,[],h=>by simp[D0]at h
 | [],_::_,_=>rfl
 | x::c,y::d,h=>by
   simp only[D0]at h ⊢;by_cases e:x=y
   .subst e;simp only[if_true]at h ⊢;exact nq c d h
   .rw[if_neg e]at h;rw[if_neg (KP e)];simp at h ⊢;omega
theorem kS:∀a b:List Int,D0 a b=false->D0 b a=false->a=b
 | [],[],_,_=>rfl
 | [],_::_,h,_=>by simp[D0]at h
 | _::_,[],_,h=>by simp[D0]at h
 | x::d,y::f,h,c=>by
   simp only[D0]at h c;by_cases e:x=y
   .subst e;simp only[if_true]at h c;rw[kS d f h c]
   .grind
theorem nr:∀a b c:List Int,D0 b a=false->D0 c b=false->D0 c a=false
 | [],_,_,_,_=>by simp[D0]
 | _::_,[],_,h,_=>by simp[D0]at h
 | _::_,_::_,[],_,h=>by simp[D0]at h
 | x::f,y::g,z::i,h,d=>by
   simp only[D0]at h d ⊢;by_cases e:y=x
   .subst e;simp only[if_true]at h;by_cases j:z=y
    .subst j;simp only[if_true]at d ⊢;exact nr f g i h d
    .simp_all
   .grind
theorem sm(a:List (List Int)):(D8 D0 a).Pairwise (λx y=>D0 y x=false):=U3 nq nr a
@[simp] noncomputable def Ij(a:ED):ED:=λb=>av (a b) λx=>match x with
  | .ref n=>av (S8 n) λl=>match l[l.length - 1]? with
    | some y=>av (put n (.lst l.dropLast)) λ_=>ret y
    | none=>stuck
  | _=>stuck
noncomputable def i6:List PV->Option (List Bool)
 | []=>some []
 | .bl b::r=>(i6 r).map (b :: ·)
 | _=>none
@[simp] noncomputable def hY(a:ED):ED:=λb=>av (a b) λx=>match x with
  | .ref n=>av (G2 n) λl=>match i6 l with
    | some bs=>ret (.bl (bs.all id))
    | none=>stuck
  | _=>stuck
@[simp] noncomputable def nu(a:ED):ED:=λb=>av (a b) λx=>match x with
  | .ref n=>av (S8 n) λl=>match l with
    | y::r=>av (put n (.lst r)) λ_=>ret y
    | []=>stuck
  | _=>stuck
@[simp] noncomputable def w9(a:ED):ED:=λb=>av (a b) λx=>match x with
  | .ref n=>av (G2 n) λl=>E3 (l.length<=LIM) (ret (.tup l))
  | _=>stuck
@[simp] noncomputable def nv(a e:ED):ED:=λb=>av (a b) λx=>match x with
  | .ref n=>av (S8 n) λ_=>av (e b) λv=>match v with
    | .ref k=>av (S8 n) λl=>av (S8 k) λm=>E3 (l.length+m.length<=LIM) (av (put n (.lst (l++m))) λ_=>ret .non)
    | _=>stuck
  | _=>stuck
noncomputable def jb(l:List Int)(a:Int):List Int:=if l.any (·== a)=true then l else l++[a]
noncomputable def gu(ns:List Int):Nat:=(ns.foldl jb []).length
@[simp] noncomputable def ny(a:ED):ED:=λb=>av (a b) λx=>av (O4 x) λl=>match O5 l with
  | some ns=>E3 (ns.length<1000) (ret (.int (gu ns)))
  | none=>stuck
theorem metI_cases(l:List Int)(a:Int):(a∈l/\jb l a=l)\/(a∉l/\jb l a=l++[a]):=by
 unfold jb;by_cases h:a∈l
 .simp_all
 .simp_all
theorem x8:∀(r l:List Int),l.Nodup->(r.foldl jb l).length<=l.length+r.length/\((r.foldl jb l).length=l.length+r.length↔(l++r).Nodup)
 | [],l,h=>by simp[h]
 | a::r,l,h=>by
   rw[LK];rcases metI_cases l a with⟨c,e⟩ | ⟨c,e⟩
   .rw[e];obtain⟨d,b⟩:=x8 r l h;refine⟨by simp;omega,⟨λz=>by simp at z;omega,λz=>?_⟩⟩;exact absurd rfl ((Ju.mp z).2.2 a c a IE)
   .rw[e];have f:(l++[a]).Nodup:=by
     rw[Ju];exact⟨h,by simp,λx j y g z=>by simp at g;exact c (by simp_all)⟩
    obtain⟨d,b⟩:=x8 r _ f;have i:l++[a]++r=l++a::r:=by simp
    rw[i]at b;simp only[IT,J2,JN]at d b ⊢;exact⟨by omega,⟨λz=>b.mp (by omega),λz=>by have:=b.mpr z;omega⟩⟩
theorem so(ns:List Int):gu ns<=ns.length:=by have:=(x8 ns [] MO).1;simpa[gu]using this
theorem sr(ns:List Int):gu ns<ns.length↔¬ns.Nodup:=by
 have h:=(x8 ns [] MO).2;have a:=so ns;simp only[JN,Pu]at h;unfold gu at *;constructor
 .grind
 .grind
@[simp] noncomputable def kT(a b:ED):ID:=λc=>av (a c) λx=>av (b c) λy=>av (O4 x) λ_=>av (O4 y) λ_=>ret (.zip x y)
noncomputable section
noncomputable def dX{b:Type}(m:M b):M b:=λA=>match m A with
 | .ok a c=>.ok a c
 | _=>.no
theorem zP{b:Type}{m:M b}{A A':PHp}{a:b}(h:m A=.ok a A'):dX m A=.ok a A':=by unfold dX;rw[h]
noncomputable def r9(c:Nat)(f:Fun)(a:ED)(es:AD):ED:=λb=>av (dX (a b)) λx=>match x with
 | .ref n=>av (v7 n) λo=>E3 (o.1=c) (av (dX (es b)) λd=>f (x::d))
 | _=>stuck
noncomputable def fg(s:SD):SD:=λa=>dX (s a)
noncomputable def gH(t:TD):TD:=λa=>dX (t a)
noncomputable def i7(c:Nat)(es:AD):SD:=λa=>av (dX (es a)) λb A=>match b with
 | [v]=>.ex c v A
 | _=>.no
noncomputable def zQ(i:Nat):Fl->Fl
 | .nx a=>.nx (a.set i none)
 | .bk a=>.bk (a.set i none)
 | .ct a=>.ct (a.set i none)
 | .rt v=>.rt v
abbrev Hd:=Nat×Option Nat×SD
noncomputable def d3:List Hd->Nat->PV->PSt->M Fl
 | [],_,_,_=>stuck
 | (k,none,b)::r,c,v,a=>if gI c k=true then b a else d3 r c v a
 | (k,some i,b)::r,c,v,a=>if gI c k=true then av (alloc (.exc c v)) λx=>av (b (a.set i (some x))) λf=>ret (zQ i f) else d3 r c v a
noncomputable def jJ(es:List Nat)(b:SD)(hs:List Hd):SD:=λd A=>match b d A with
 | .ok f a=>.ok f a
 | .ex c v a=>E3 (c∈es) (d3 hs c v d) a
 | .no=>.no
@[simp] noncomputable def Ik(a b:ED):ED:=λc=>av (a c) λx=>av (b c) λy=>match x,y with
  | .int i,.int j=>ret (.int (if j > i then j else i))
  | _,_=>stuck
@[simp] noncomputable def nz:OD:=λx y=>match x,y with
  | .int i,.int j=>E3 (0<=j/\j<=1000/\i.natAbs<1000) (ret (.int (i ^ j.toNat)))
  | _,_=>stuck
end
noncomputable section
end
noncomputable section
end
noncomputable section
noncomputable def P5:PV->Option (List Int)
 | .tup l=>O5 l
 | _=>none
noncomputable def V9(n:Nat):M (List (List Int×PV)):=λA=>match A[n]? with
 | some (.dT m)=>.ok m A
 | _=>.no
noncomputable def L9:List (List Int×PV)->List Int->Option PV
 | [],_=>none
 | p::r,k=>if p.1=k then some p.2 else L9 r k
noncomputable def Y6(a:List (List Int×PV))(k:List Int)(x:PV):List (List Int×PV):=
 if(a.any λp=>decide (p.1=k))=true then a.map (λp=>if p.1=k then(p.1,x) else p) else a++[(k,x)]
noncomputable def iF(y d:ED):ED:=λa=>av (y a) λk=>av (d a) λx=>match P5 k,x with
 | some i,.ref n=>av (V9 n) λm=>ret (.bl (L9 m i).isSome)
 | _,_=>stuck
noncomputable def jK(d y e:ED):SD:=λa=>av (e a) λv=>av (d a) λx=>av (y a) λk=>match x,P5 k with
 | .ref n,some i=>av (V9 n) λm=>E3 (m.length<LIM) (av (put n (.dT (Y6 m i v))) λ_=>ret (.nx a))
 | _,_=>stuck
noncomputable def jc(d y:ED):ED:=λa=>av (d a) λx=>av (y a) λk=>match x,P5 k with
 | .ref n,some i=>av (V9 n) λm=>match L9 m i with
   | some v=>ret v
   | none=>stuck
 | _,_=>stuck
noncomputable def eTNew:ED:=λ_=>alloc (.dT [])
noncomputable def nA(d y:ED):ED:=λa=>av (d a) λx=>match x with
 | .ref n=>av (V9 n) λ_=>av (y a) λk=>match P5 k with
   | some i=>av (V9 n) λm=>ret ((L9 m i).getD .non)
   | _=>stuck
 | _=>stuck
noncomputable def nB(d y e:ED):ED:=λa=>av (d a) λx=>match x with
 | .ref n=>av (V9 n) λ_=>av (y a) λk=>av (e a) λv=>match P5 k with
   | some i=>av (V9 n) λm=>ret ((L9 m i).getD v)
   | _=>stuck
 | _=>stuck
noncomputable def kU:OD
 | .int i,.int j=>E3 (0<=j) (ret (.int (i / 2 ^ j.toNat)))
 | _,_=>stuck
noncomputable def nC:OD
 | .int i,.int j=>E3 (0<=j/\j<=1000000/\i.natAbs<2 ^ 64) (ret (.int (i*2 ^ j.toNat)))
 | _,_=>stuck
noncomputable def kW:OD
 | .int i,.int j=>ret (.int (Kc i j))
 | _,_=>stuck
end
noncomputable section
noncomputable def small:List (List Int):=((Jj 10).map λa=>(Jj 10).map λb=>[((a:Nat):Int),((b:Nat):Int)]).flatten
noncomputable def Il(a:ED):ED:=λb=>av (a b) λx=>match x with
 | .ref n=>av (V9 n) λm=>ret (.int m.length)
 | _=>stuck
noncomputable def nE(a:ED):ED:=λb=>av (a b) λx=>match x with
 | .ref n=>av (V9 n) λm=>E3 ((m.map (·.1)).Nodup/\∀p∈m,p.1∈small) (alloc (.dT m))
 | _=>stuck
end
noncomputable section
end
noncomputable section
end
noncomputable section
end
noncomputable section
end
noncomputable section
end
noncomputable section
end
noncomputable section
noncomputable def nF(a:ED):ED:=λb=>av (a b) λx=>match x with
 | .ref n=>av (V9 n) λm=>E3 (m.length<64/\∀p∈m,p.1≠[]) (alloc (.lst ((D8 D0 (m.map (·.1))).map λt=>.tup (t.map .int))))
 | _=>stuck
end
noncomputable section
end
noncomputable section
end
noncomputable section
end
noncomputable def jd(d y e:ED):ED:=λa=>av (d a) λx=>match x with
 | .ref n=>av (V9 n) λ_=>av (y a) λk=>av (e a) λv=>match P5 k with
   | some i=>av (V9 n) λm=>match L9 m i with
     | some w=>ret w
     | none=>E3 (m.length<LIM) (av (put n (.dT (Y6 m i v))) λ_=>ret v)
   | _=>stuck
 | _=>stuck
noncomputable def gJ(a:ED):ED:=λb=>av (a b) λx=>match x with
 | .ref n=>av (G2 n) λl=>match i6 l with
   | some bs=>ret (.bl (bs.any id))
   | none=>stuck
 | _=>stuck
noncomputable def gv:List PV->Option (List (List Int×PV))
 | []=>some []
 | .tup [k,v]::r=>(P5 k).bind λi=>(gv r).map ((i,v) :: ·)
 | _=>none
noncomputable def nG(a:ED):ED:=λc=>av (a c) λx=>match x with
 | .ref n=>av (S8 n) λl=>match gv l with
   | some m=>E3 (m.length<LIM) (alloc (.dT (m.foldl (λb p=>Y6 b p.1 p.2) [])))
   | none=>stuck
 | _=>stuck
noncomputable section
noncomputable def prs:List (List Int):=([0,1,2,3,4,5]:List Int).flatMap λa=>([0,1,2,3,4,5]:List Int).map λb=>[a,b]
noncomputable def je(T:List (List Int))(x:List Int):List (List Int):=if x∈T then T else T++[x]
noncomputable def hZ(l:List (List Int)):List (List Int):=l.foldl je []
end
noncomputable section
noncomputable def y0(a:ED):ED:=λc=>av (a c) λx=>match x with
 | .ref n=>av (S8 n) λl=>match T3 l with
   | some b=>E3 (b.length<64/\∀t∈b,t∈prs) (ret (.int (hZ b).length))
   | none=>stuck
 | _=>stuck
end
end Ws
namespace Ws
open PySem L2
noncomputable def zR:Expr->Bool
 | .Starred _ _=>true
 | _=>false
theorem E9{e:Expr}{es:List Expr}{a:Env}(h:zR e=false):starEach (e::es) a=(false,eval e a)::starEach es a:=by
 cases e<;>first | rfl | cases h
mutual
inductive RV (ρ:List Addr) (H:Hp):PV->V->Prop
 | non:RV ρ H .non .non
 | bl (b:Bool):RV ρ H (.bl b) (.bl b)
 | int (i:Int):RV ρ H (.int i) (.int i)
 | str (x:Str):RV ρ H (.str x) (.str x)
 | tup {l:List PV} {a:Addr} {vs:List V} (h:H a=some (.tup vs)) (r:RVs ρ H l vs):RV ρ H (.tup l) (.ref a)
 | ref {n:Nat} {a:Addr} (h:ρ[n]?=some a):RV ρ H (.ref n) (.ref a)
inductive RVs (ρ:List Addr) (H:Hp):List PV->List V->Prop
 | nil:RVs ρ H [] []
 | cons {x:PV} {v:V} {l:List PV} {vs:List V} (h:RV ρ H x v) (r:RVs ρ H l vs):RVs ρ H (x::l) (v::vs)
end
structure aG(ρ:List Addr)(H:Hp)(ρ':List Addr)(H':Hp):Prop where
 pre:ρ<+:ρ'
 tup:∀a vs,H a=some (.tup vs)->H' a=some (.tup vs)
 xd:∀a fs,H a=some (.xd fs)->H' a=some (.xd fs)
theorem aG.refl(a:List Addr)(H:Hp):aG a H a H:=⟨IU _,λ_ _ h=>h,λ_ _ h=>h⟩
theorem aG.trans{g d e:List Addr}{H i j:Hp}(a:aG g H d i)(b:aG d i e j):aG g H e j:=⟨a.pre.trans b.pre,λc f h=>b.tup c f (a.tup c f h),λc f h=>b.xd c f (a.xd c f h)⟩
theorem nH{c b:List Addr}{n:Nat}{a:Addr}(h:c<+:b)(e:c[n]?=some a):b[n]?=some a:=by
 obtain⟨t,rfl⟩:=h;rw[Jf (IQ.mp e).1];exact e
section
variable{ρ ρ':List Addr}{H H':Hp}
mutual
theorem RV.mono(e:aG ρ H ρ' H'):∀{x:PV}{v:V},RV ρ H x v->RV ρ' H' x v
 | _,_,.non=>.non
 | _,_,.bl b=>.bl b
 | _,_,.int i=>.int i
 | _,_,.str x=>.str x
 | _,_,.tup h r=>.tup (e.tup _ _ h) (RVs.mono e r)
 | _,_,.ref h=>.ref (nH e.pre h)
theorem RVs.mono(e:aG ρ H ρ' H'):∀{l:List PV}{vs:List V},RVs ρ H l vs->RVs ρ' H' l vs
 | _,_,.nil=>.nil
 | _,_,.cons h r=>.cons (RV.mono e h) (RVs.mono e r)
end
theorem RVs.length:∀{l:List PV}{vs:List V},RVs a H l vs->l.length=vs.length
 | _,_,.nil=>rfl
 | _,_,.cons _ r=>by simp[RVs.length r]
theorem RVs.get:∀{l:List PV}{vs:List V}{i:Nat}{x:PV},RVs a H l vs->l[i]?=some x->∃v,vs[i]?=some v/\RV a H x v
 | _,_,_,_,.nil,e=>by simp at e
 | _,_,0,_,.cons h _,e=>by simp at e;subst e;exact⟨_,rfl,h⟩
 | _,_,i+1,_,.cons _ r,e=>by
   obtain⟨v,b,c⟩:=RVs.get r (by simpa using e);exact⟨v,by simpa using b,c⟩
theorem RVs.get':∀{l:List PV}{vs:List V}{i:Nat}{v:V},RVs a H l vs->vs[i]?=some v->∃x,l[i]?=some x/\RV a H x v
 | _,_,_,_,.nil,e=>by simp at e
 | _,_,0,_,.cons h _,e=>by simp at e;subst e;exact⟨_,rfl,h⟩
 | _,_,i+1,_,.cons _ r,e=>by
   obtain⟨x,b,c⟩:=RVs.get' r (by simpa using e);exact⟨x,by simpa using b,c⟩
theorem RVs.append:∀{l m:List PV}{vs ws:List V},RVs a H l vs->RVs a H m ws->RVs a H (l++m) (vs++ws)
 | _,_,_,_,.nil,s=>s
 | _,_,_,_,.cons h r,s=>.cons h (RVs.append r s)
theorem RVs.take:∀{l:List PV}{vs:List V}(n:Nat),RVs a H l vs->RVs a H (l.take n) (vs.take n)
 | _,_,0,_=>by simpa using .nil
 | _,_,_+1,.nil=>.nil
 | _,_,n+1,.cons h r=>.cons h (RVs.take n r)
theorem RVs.drop:∀{l:List PV}{vs:List V}(n:Nat),RVs a H l vs->RVs a H (l.drop n) (vs.drop n)
 | _,_,0,r=>r
 | _,_,_+1,.nil=>.nil
 | _,_,n+1,.cons _ r=>RVs.drop n r
theorem RVs.ints(ns:List Int):RVs a H (ns.map .int) (ns.map .int):=by
 induction ns with
 | nil=>exact .nil
 | cons i r ih=>exact .cons (.int i) ih
end
def Fz(K:Iw)(H:Hp)(a:Addr)(c:List V):Prop:=
 (∃o,H a=some (.frz o (.lst c)))\/∃(o:Obj)(b:Array Iv)(n:Nat),K.lookup a=some o/\o.cls=.type "list"/\o.dict=none/\o.data=.seq b n/\b.size<=sizeLine/\aH c b.toList
theorem Fz.sq{K:Iw}{H:Hp}{a:Addr}{b:List V}(h:Fz K H a b):bu K H a b:=by
 rcases h with⟨o,h⟩ | h
 .exact .inl (.inr ⟨o,h⟩)
 .exact .inr h
noncomputable def W8:PO->Bool
 | .ro _=>false
 | _=>true
structure Pairs{κ κ':Type}(f:κ->κ')(ρ:List Addr)(H:Hp)(kvs:List (κ×PV))(kv:List (κ'×V)):Prop where
 keys:kv.map (·.1)=kvs.map λp=>f p.1
 vals:RVs ρ H (kvs.map (·.2)) (kv.map (·.2))
theorem Pairs.mono{d a:Type}{f:d->a}{g b:List Addr}{H H':Hp}{c:List (d×PV)}{i:List (a×V)}(h:Pairs f g H c i)(e:aG g H b H'):Pairs f b H' c i:=⟨h.keys,h.vals.mono e⟩
section
variable(K:Iw)(cm:Nat->Addr)
noncomputable def RO(f:List Addr)(H:Hp)(a:Addr):PO->Prop
 | .lst l=>∃g,H a=some (.lst g)/\RVs f H l g
 | .ro l=>∃g,Fz K H a g/\RVs f H l g
 | .dI e=>∃b,H a=some (.dK b)/\Pairs (JY:Int->Key) f H e b
 | .ins c fs=>(c<7/\∀p∈fs,p.1<19)/\∃i b,H a=some (.ins (cm c) i b)/\Pairs cy f H fs b
 | .dT e=>∃b,H a=some (.dT b)/\Pairs (NS JY:List Int->List Key) f H e b
 | .exc c v=>∃o d h,H a=some (.frz o (.own a))/\o.cls=.ref (cm c)/\o.dict=some d/\(∃vs:Array Iv,o.data=.fields vs/\vs[2]?=some .none)/\H d=some (.xd [("at",h)])/\RV f H v h
structure aQ(ρ:List Addr)(A:PHp)(H:Hp):Prop where
 len:ρ.length=A.length
 obj:∀(n:Nat)(o:PO)(a:Addr),A[n]?=some o->ρ[n]?=some a->RO K cm ρ H a o
 inj:∀(m n:Nat)(a:Addr)(o p:PO),ρ[m]?=some a->ρ[n]?=some a->A[m]?=some o->A[n]?=some p->W8 o=true->W8 p=true->m=n
end
section
variable{K:Iw}{cm:Nat->Addr}{ρ ρ':List Addr}{H H':Hp}{A:PHp}{a p:Addr}{o:PO}{n:Nat}
theorem RO.keep(r:RO K cm ρ H a o)(e:aG ρ H ρ' H')(b:∀u,H a=some u->H' a=some u):RO K cm ρ' H' a o:=by
 cases o with
 | lst l=>obtain⟨g,h,q⟩:=r;exact⟨g,b _ h,q.mono e⟩
 | ro l=>
   obtain⟨g,h,q⟩:=r;rcases h with⟨u,h⟩ | h
   .exact⟨g,.inl ⟨u,b _ h⟩,q.mono e⟩
   .exact⟨g,.inr h,q.mono e⟩
 | dI i=>obtain⟨f,h,q⟩:=r;exact⟨f,b _ h,q.mono e⟩
 | ins c fs=>obtain⟨j,k,f,h,q⟩:=r;exact⟨j,k,f,b _ h,q.mono e⟩
 | dT i=>obtain⟨f,h,q⟩:=r;exact⟨f,b _ h,q.mono e⟩
 | exc c v=>obtain⟨o,d,m,h,s,w,x,y,q⟩:=r;exact⟨o,d,m,b _ h,s,w,x,e.xd _ _ y,q.mono e⟩
theorem RO.some(r:RO K cm ρ H a o)(m:W8 o=true):∃u,H a=some u:=by
 cases o with
 | lst l=>obtain⟨f,h,q⟩:=r;exact⟨_,h⟩
 | ro l=>simp[W8]at m
 | dI b=>obtain⟨e,h,q⟩:=r;exact⟨_,h⟩
 | ins c fs=>obtain⟨_,g,e,h,q⟩:=r;exact⟨_,h⟩
 | dT b=>obtain⟨e,h,q⟩:=r;exact⟨_,h⟩
 | exc c v=>obtain⟨o,d,i,h,q⟩:=r;exact⟨_,h⟩
theorem R4{u:HO}(c:H p=none):∀b v,H b=some v->aI H p u b=some v:=λb v h=>by
 rw[aq (G5 h c)];exact h
theorem aG.same{u:HO}(b:H p=none):aG ρ H ρ (aI H p u):=⟨IU _,λa c h=>R4 b a _ h,λa c h=>R4 b a _ h⟩
theorem aG.new{u:HO}(b:H p=none):aG ρ H (ρ++[p]) (aI H p u):=⟨IJ _ _,λa c h=>R4 b a _ h,λa c h=>R4 b a _ h⟩
theorem aQ.grow(r:aQ K cm ρ A H)(e:aG ρ H ρ H')(c:∀b v,H b=some v->H' b=some v):aQ K cm ρ A H':=
 ⟨r.len,λn o a d f=>(r.obj n o a d f).keep e (c a),r.inj⟩
theorem aQ.tup{vs:List V}(r:aQ K cm ρ A H)(b:H p=none):aQ K cm ρ A (aI H p (.tup vs)):=r.grow (aG.same b) (R4 b)
theorem aQ.alloc{u:HO}(r:aQ K cm ρ A H)(B:H p=none)(C:RO K cm (ρ++[p]) (aI H p u) p o)(O:W8 o=true):aQ K cm (ρ++[p]) (A++[o]) (aI H p u):=by
 have e:aG ρ H _ (aI H p u):=aG.new B;have b:∀(n:Nat)(q:PO),ρ[n]?=some p->A[n]?=some q->W8 q=true->False:=λn q d c N=>by
  obtain⟨v,I⟩:=(r.obj n q p c d).some N;rw[B]at I;cases I
 have split:∀{D:Type}{l:List D}{x y:D}{n:Nat},(l++[x])[n]?=some y->l[n]?=some y\/(n=l.length/\y=x):=λ{D l x y n} h=>by
  by_cases C:n<l.length
  .rw[Jf C]at h;exact .inl h
  .rw[Kb (by omega)]at h;have:n - l.length=0:=by
    by_cases z:n - l.length=0
    .exact z
    .rw[JK (by simp;omega)]at h;cases h
   rw[this]at h;simp at h;exact .inr ⟨by omega,h.symm⟩
 refine⟨by simp[r.len],λn q a d c=>?_,λm n a q w d c k s J L=>?_⟩
 .rcases split d with d | ⟨rfl,rfl⟩
  .rcases split c with c | ⟨rfl,rfl⟩
   .exact(r.obj n q a d c).keep e (R4 B a)
   .rw[r.len,JK (IC _)]at d;cases d
  .rcases split c with c | ⟨_,rfl⟩
   .rw[<-r.len,JK (IC _)]at c;cases c
   .exact C
 .rcases split d with f | ⟨rfl,E⟩<;>rcases split c with g | ⟨rfl,G⟩
  .have i:A[m]?=some q:=by
    rcases split k with k | ⟨rfl,_⟩
    .exact k
    .rw[<-r.len,JK (IC _)]at f;cases f
   have j:A[n]?=some w:=by
    rcases split s with s | ⟨rfl,_⟩
    .exact s
    .rw[<-r.len,JK (IC _)]at g;cases g
   exact r.inj m n a q w f g i j J L
  .have i:A[m]?=some q:=by
    rcases split k with k | ⟨rfl,_⟩
    .exact k
    .rw[<-r.len,JK (IC _)]at f;cases f
   rw[G]at f;exact(b m q f i J).elim
  .have j:A[n]?=some w:=by
    rcases split s with s | ⟨rfl,_⟩
    .exact s
    .rw[<-r.len,JK (IC _)]at g;cases g
   rw[E]at g;exact(b n w g j L).elim
  .rfl
theorem aG.put{u:HO}(r:aQ K cm ρ A H)(i:ρ[n]?=some a)(j:A[n]?=some o)(m:W8 o=true):aG ρ H ρ (aI H a u):=by
 have e:∀b w,H b=some w->((∃f,w=.tup f)\/∃fs,w=.xd fs)->aI H a u b=some w:=λb w h g=>by
  have ne:b≠a:=by
   rintro rfl;have q:=r.obj n o b j i;cases o with
   | ro l=>simp[W8]at m
   | ins c fs=>obtain⟨_,s,k,z,_⟩:=q;rw[h]at z;cases z;rcases g with⟨_,y⟩ | ⟨_,y⟩<;>cases y
   | exc c v=>obtain⟨o,d,x,z,_⟩:=q;rw[h]at z;cases z;rcases g with⟨_,y⟩ | ⟨_,y⟩<;>cases y
   | _=>obtain⟨k,z,_⟩:=q;rw[h]at z;cases z;rcases g with⟨_,y⟩ | ⟨_,y⟩<;>cases y
  rw[aq ne];exact h
 exact⟨IU _,λb f h=>e b _ h (.inl ⟨_,rfl⟩),λb f h=>e b _ h (.inr ⟨_,rfl⟩)⟩
theorem aQ.put{u:HO}{E:PO}(r:aQ K cm ρ A H)(B:ρ[n]?=some a)(s:A[n]?=some o)(m:W8 o=true)(m':W8 E=true)(O:RO K cm ρ (aI H a u) a E):aQ K cm ρ (A.set n E) (aI H a u):=by
 have e:aG ρ H ρ (aI H a u):=aG.put r B s m;refine⟨by simp[r.len],λk q b h G=>?_,λi j b q Q T U Y e4 m1 m2=>?_⟩
 .by_cases g:k=n
  .subst g;rw[aP s]at h;cases h;rw[B]at G;cases G;exact O
  .rw[D9 g]at h;have J:=r.obj k q b h G;by_cases C:b=a
   .subst C;cases L:W8 q with
    | true=>exact absurd (r.inj k n b q o G B h s L m) g
    | false=>
      cases q with
      | ro l=>
        obtain⟨D,z,w⟩:=J;rcases z with⟨v,z⟩ | z
        .obtain⟨v',z'⟩:=(r.obj n o b s B).some m;have:=r.obj n o b s B;rw[z]at z';cases o with
         | lst l=>obtain⟨D,f,_⟩:=this;rw[z]at f;cases f
         | ro l=>simp[W8]at m
         | dI I=>obtain⟨D,f,_⟩:=this;rw[z]at f;cases f
         | ins c fs=>obtain⟨_,dx,D,f,_⟩:=this;rw[z]at f;cases f
         | dT I=>obtain⟨D,f,_⟩:=this;rw[z]at f;cases f
         | exc c v=>obtain⟨o,d,v',f,_⟩:=this;rw[z]at f;cases f
        .exact⟨D,.inr z,w.mono e⟩
      | _=>simp[W8]at L
   .exact J.keep e λv hv=>by rw[aq C];exact hv
 .have N:∀(k:Nat)(x:PO),(A.set n E)[k]?=some x->W8 x=true->∃y,A[k]?=some y/\W8 y=true:=λk x h hx=>by
   by_cases g:k=n
   .subst g;exact⟨o,s,m⟩
   .rw[D9 g]at h;exact⟨x,h,hx⟩
  obtain⟨y,y1,y2⟩:=N i q Y m1;obtain⟨z,z1,z2⟩:=N j Q e4 m2;exact r.inj i j b y z T U y1 z1 y2 z2
end
structure bP(ρ:List Addr)(H:Hp)(σp:PSt)(σ:L2.St):Prop where
 len:σ.length=σp.length
 get:∀(i:Nat)(p:PV),σp[i]?=some (some p)->∃v,σ[i]?=some (some v)/\RV ρ H p v
theorem bP.mono{c a:List Addr}{H H':Hp}{b:PSt}{σ:L2.St}(h:bP c H b σ)(e:aG c H a H'):bP a H' b σ:=
 ⟨h.len,λi p d=>let⟨v,f,g⟩:=h.get i p d;⟨v,f,g.mono e⟩⟩
theorem bP.set{d:List Addr}{H:Hp}{a:PSt}{σ:L2.St}(h:bP d H a σ)(i:Nat){x:PV}{v:V}(r:RV d H x v):bP d H (a.set i (some x)) (σ.set i (some v)):=by
 refine⟨by simp[h.len],λj p b=>?_⟩;by_cases c:i=j
 .subst c;by_cases e:i<a.length
  .rw[List.getElem?_set]at b;simp[e]at b;subst b;exact⟨v,by simp[h.len,e],r⟩
  .rw[JK (by simp;omega)]at b;cases b
 .rw[Ni c]at b ⊢;exact h.get j p b
section
variable(K:Iw)(cm:Nat->Addr)
inductive da (d:ED) (σ:L2.St) (H:Hp) (Q:VK):Prop
 | mk (ρ:List Addr) (A:PHp) (σp:PSt) (v:PV) (A':PHp) (h0:aQ K cm ρ A H) (h1:bP ρ H σp σ) (h2:d σp A=.ok v A') (h3:∀ρ' H' v',aG ρ H ρ' H'->aQ K cm ρ' A' H'->RV ρ' H' v v'->Q v' H'):da d σ H Q
inductive gw (d:TD) (σ:L2.St) (H:Hp) (Q:Bool->Hp->Prop):Prop
 | mk (ρ:List Addr) (A:PHp) (σp:PSt) (b:Bool) (A':PHp) (h0:aQ K cm ρ A H) (h1:bP ρ H σp σ) (h2:d σp A=.ok b A') (h3:∀ρ' H',aG ρ H ρ' H'->aQ K cm ρ' A' H'->Q b H'):gw d σ H Q
inductive gx (d:AD) (σ:L2.St) (H:Hp) (Q:List V->Hp->Prop):Prop
 | mk (ρ:List Addr) (A:PHp) (σp:PSt) (vs:List PV) (A':PHp) (h0:aQ K cm ρ A H) (h1:bP ρ H σp σ) (h2:d σp A=.ok vs A') (h3:∀ρ' H' vs',aG ρ H ρ' H'->aQ K cm ρ' A' H'->RVs ρ' H' vs vs'->Q vs' H'):gx d σ H Q
inductive jf (g:GD) (v:V) (σ:L2.St) (H:Hp) (Q:L2.St->Hp->Prop):Prop
 | mk (ρ:List Addr) (A:PHp) (σp:PSt) (x:PV) (σp':PSt) (A':PHp) (h0:aQ K cm ρ A H) (h1:bP ρ H σp σ) (h2:RV ρ H x v) (h3:g x σp A=.ok σp' A') (h4:∀ρ' H' σ',aG ρ H ρ' H'->aQ K cm ρ' A' H'->bP ρ' H' σp' σ'->Q σ' H'):jf g v σ H Q
inductive jL (g:GDs) (vs:List V) (σ:L2.St) (H:Hp) (Q:L2.St->Hp->Prop):Prop
 | mk (ρ:List Addr) (A:PHp) (σp:PSt) (xs:List PV) (σp':PSt) (A':PHp) (h0:aQ K cm ρ A H) (h1:bP ρ H σp σ) (h2:RVs ρ H xs vs) (h3:g xs σp A=.ok σp' A') (h4:∀ρ' H' σ',aG ρ H ρ' H'->aQ K cm ρ' A' H'->bP ρ' H' σp' σ'->Q σ' H'):jL g vs σ H Q
noncomputable def nI(D:u5)(c:List Addr)(H:Hp):Fl->Prop
 | .nx a=>∀b,bP c H a b->D.nx b H
 | .bk a=>∀b,bP c H a b->D.bk b H
 | .ct a=>∀b,bP c H a b->D.ct b H
 | .rt v=>∀d,RV c H v d->D.rt d H
inductive fW (s:SD) (D:u5) (σ:L2.St) (H:Hp):Prop
 | mk (ρ:List Addr) (A:PHp) (σp:PSt) (f:Fl) (A':PHp) (h0:aQ K cm ρ A H) (h1:bP ρ H σp σ) (h2:s σp A=.ok f A') (h3:∀ρ' H',aG ρ H ρ' H'->aQ K cm ρ' A' H'->nI D ρ' H' f):fW s D σ H
end
section
variable(X:Cx)(cm:Nat->Addr)
abbrev Pe(e:Expr)(d:ED):Prop:=PE X e (da X.K cm d)
abbrev Pt(e:Expr)(d:TD):Prop:=PT X e (gw X.K cm d)
abbrev Pw(e:Expr)(d:TD):Prop:=PW X e (gw X.K cm d)
abbrev Pa(e:List Expr)(d:AD):Prop:=PA X e (gx X.K cm d)
abbrev Ps(e:Stmt)(d:SD):Prop:=PS X e (fW X.K cm d)
abbrev ia(e:List Stmt)(d:SD):Prop:=cf X e (fW X.K cm d)
abbrev Pg(e:Expr)(d:GD):Prop:=L2.PG X e (jf X.K cm d)
end
section
variable{X:Cx}{cm:Nat->Addr}
theorem E1{e:Expr}{t t':TE}(h:PE X e t)(k:∀a H Q,t' a H Q->t a H Q):PE X e t':=λb s a H Q I q=>h b s a H Q I (k a H Q q)
theorem jg{e:Expr}{t t':TT}(h:PT X e t)(k:∀a H Q,t' a H Q->t a H Q):PT X e t':=λb s a H Q I q=>h b s a H Q I (k a H Q q)
theorem su{e:Expr}{t t':TT}(h:PW X e t)(k:∀a H Q,t' a H Q->t a H Q):PW X e t':=λw b s a H Q I q=>h w b s a H Q I (k a H Q q)
theorem sv{es:List Expr}{t t':TA}(h:PA X es t)(k:∀a H Q,t' a H Q->t a H Q):PA X es t':=λpos b s a H Q I q=>h pos b s a H Q I (k a H Q q)
theorem V6{st:Stmt}{t t':TS}(h:PS X st t)(k:∀D a H,t' D a H->t D a H):PS X st t':=λb s a H D I q=>h b s a H D I (k D a H q)
theorem kX{st:List Stmt}{t t':TS}(h:cf X st t)(k:∀D a H,t' D a H->t D a H):cf X st t':=λb s a H D I q=>h b s a H D I (k D a H q)
theorem sx{e:Expr}{t t':TG}(h:L2.PG X e t)(k:∀v a H Q,t' v a H Q->t v a H Q):L2.PG X e t':=λb s a H v u Q I r q=>h b s a H v u Q I r (k v a H Q q)
theorem sy{es:List Expr}{t t':TGs}(h:gr X es t)(k:∀v a H Q,t' v a H Q->t v a H Q):gr X es t':=λb s a H c d Q I r q=>h b s a H c d Q I r (k c a H Q q)
theorem zS{i:Nat}{e:Expr}(h:PE X e (fU i)):Pe X cm e (aa i):=E1 h λo H Q b=>by
 obtain⟨c,A,a,v,d,r,f,g,k⟩:=b;have:∃p,a[i]?=some (some p)/\v=p/\d=A:=by
  unfold aa at g;rcases j:a[i]? with _ | (_ | p)
  .simp_all
  .simp_all
  .simp_all
 obtain⟨p,l,rfl,rfl⟩:=this;obtain⟨u,m,n⟩:=f.get i _ l;exact⟨u,m,k c H u (aG.refl _ _) r n⟩
theorem jh{e:Expr}{x:PV}{u:V}(h:PE X e (tC u))(b:∀a H,RV a H x u):Pe X cm e (eK x):=E1 h λg H Q c=>by
 obtain⟨a,A,d,v,i,r,j,f,k⟩:=c;cases f;exact k a H u (aG.refl _ _) r (b a H)
theorem au{i:Int}{j pos}:Pe X cm (.Constant (.int i) j pos) (eK (.int i)):=jh qJ λ_ _=>.int i
theorem y7{b:Bool}{j pos}:Pe X cm (.Constant (.bool b) j pos) (eK (.bl b)):=jh wF λ_ _=>.bl b
theorem zT{j pos}:Pe X cm (.Constant .none j pos) (eK .non):=jh wG λ_ _=>.non
def S7(K:Iw)(cm:Nat->Addr)(f:OD)(r:R2):Prop:=∀b A H x y z d e g (Q:VK),aQ K cm b A H->RV b H x e->RV b H y g->f x y A=.ok z d->
 (∀a c h,aG b H a c->aQ K cm a d c->RV a c z h->Q h c)->r e g H Q
theorem kY{f:OD}{r:R2}{a b:ED}(B:S7 X.K cm f r){σ:L2.St}{H:Hp}{Q:VK}(h:da X.K cm (C3 f a b) σ H Q):jC r (da X.K cm a) (da X.K cm b) σ H Q:=by
 obtain⟨C,A,c,z,D,rl,q,d,k⟩:=h;obtain⟨x,s,E,d⟩:=B0 d;obtain⟨y,u,G,d⟩:=B0 d;exact⟨C,A,c,x,s,rl,q,E,λe U I v g i=>⟨e,s,c,y,u,g,q.mono v,G,λj J L w l m=>B j u J x y z D I L Q l (i.mono w) m d λn N O T o p=>k n N O ((v.trans w).trans T) o p⟩⟩
theorem D6{c:Operator}{f:OD}{r:R2}{a b:Expr}{d e:ED}{pos:Pos}(g:bO X (binaryOp c) r)(i:S7 X.K cm f r)(j:Pe X cm a d)(k:Pe X cm b e):Pe X cm (.BinOp a c b pos) (C3 f d e):=
 E1 (xM g j k) λl H Q h=>kY i h
theorem W0{c:Qv}{f:OD}{r:R2}{a b:Expr}{d e:ED}{pos:Pos}(g:bO X (compareOp c) r)(i:S7 X.K cm f r)(j:Pe X cm a d)(k:Pe X cm b e)(l:behindInMarks c b=false):Pe X cm (.Compare a [c] [b] pos) (C3 f d e):=
 E1 (xV g j k l) λm H Q h=>kY i h
theorem y8{d:ED}{t:TE}(h:∀σ H Q,da X.K cm d σ H Q->t σ H Q){σ:L2.St}{H:Hp}{Q:Bool->Hp->Prop}(q:gw X.K cm (D3 d) σ H Q):qX t σ H Q:=by
 obtain⟨j,A,e,b,r,rl,l,a,k⟩:=q;obtain⟨x,m,n,a⟩:=B0 a;refine h σ H _ ⟨j,A,e,x,m,rl,l,n,λf o s p g i=>?_⟩;cases x with
 | bl c=>
   cases a;cases i;exact⟨_,rfl,k f o p g⟩
 | _=>cases a
theorem aF{c:Qv}{f:OD}{r:R2}{a b:Expr}{d e:ED}{pos:Pos}(g:bO X (compareOp c) r)(i:S7 X.K cm f r)(j:Pe X cm a d)(k:Pe X cm b e)(l:behindInMarks c b=false):Pt X cm (.Compare a [c] [b] pos) (D3 (C3 f d e)):=
 jg (xW g j k l) λm H Q h=>y8 (λ_ _ _=>kY i) h
theorem M0{e:Expr}{d:ED}(h:Pe X cm e d)(he:∀whole,isTrue e X.env whole=(do let v <-whole;standAt e.pos;holding [v] (truthy v)):=by intro _;rfl):Pt X cm e (D3 d):=
 jg (wO h he) λa H Q q=>y8 (λ_ _ _ z=>z) q
theorem ji{f:OD}{g:Int->Int->PV}{g':Int->Int->V}{C:Int->Int->Prop}(h:∀x y A z a,f x y A=.ok z a->∃i j,x=.int i/\y=.int j/\C i j/\z=g i j/\a=A)(c:∀b H i j,RV b H (g i j) (g' i j))(K:Iw)(cm:Nat->Addr):S7 K cm f (rI C g'):=
 λb A H x y z a n o Q rl d e l k=>by
  obtain⟨i,j,rfl,rfl,m,rfl,rfl⟩:=h _ _ _ _ _ l;cases d;cases e;exact⟨i,j,rfl,rfl,m,k b H _ (aG.refl _ _) rl (c _ _ _ _)⟩
theorem jj{f:OD}{g:Int->Int->PV}{g':Int->Int->V}(h:∀x y A z a,f x y A=.ok z a->∃i j,x=.int i/\y=.int j/\z=g i j/\a=A)(c:∀b H i j,RV b H (g i j) (g' i j))(K:Iw)(cm:Nat->Addr):S7 K cm f (eD g'):=
 λb A H x y z a m n Q rl d e l k=>by
  obtain⟨i,j,rfl,rfl,rfl,rfl⟩:=h _ _ _ _ _ l;cases d;cases e;exact⟨i,j,rfl,rfl,k b H _ (aG.refl _ _) rl (c _ _ _ _)⟩
theorem sA:S7 X.K cm kM (eD λi j=>.int (i - j)):=jj (λx y A z a h=>by cases x<;>cases y<;>first | (cases h;exact⟨_,_,rfl,rfl,rfl,rfl⟩) | cases h) (λ_ _ _ _=>.int _) _ _
theorem cB:S7 X.K cm fK (eD λi j=>.bl (decide (i<j))):=jj (λx y A z a h=>by cases x<;>cases y<;>first | (cases h;exact⟨_,_,rfl,rfl,rfl,rfl⟩) | cases h) (λ_ _ _ _=>.bl _) _ _
theorem nJ:S7 X.K cm kN (eD λi j=>.bl (decide (i<=j))):=jj (λx y A z a h=>by cases x<;>cases y<;>first | (cases h;exact⟨_,_,rfl,rfl,rfl,rfl⟩) | cases h) (λ_ _ _ _=>.bl _) _ _
theorem nK:S7 X.K cm jD (eD λi j=>.bl (decide (j<i))):=jj (λx y A z a h=>by cases x<;>cases y<;>first | (cases h;exact⟨_,_,rfl,rfl,rfl,rfl⟩) | cases h) (λ_ _ _ _=>.bl _) _ _
theorem zU:S7 X.K cm rR (eD λi j=>.bl (decide (j<=i))):=jj (λx y A z a h=>by cases x<;>cases y<;>first | (cases h;exact⟨_,_,rfl,rfl,rfl,rfl⟩) | cases h) (λ_ _ _ _=>.bl _) _ _
theorem T5:S7 X.K cm f8 (rI (λ_ j=>0<j) λi j=>.int (i%j)):=ji (λx y A z a h=>by
 cases x<;>cases y<;>first | (obtain⟨c,h⟩:=C5 h;cases h;exact⟨_,_,rfl,rfl,c,rfl,rfl⟩) | cases h) (λ_ _ _ _=>.int _) _ _
theorem z0:S7 X.K cm v8 (rI qT λi j=>.int (i / j)):=ji (λx y A z a h=>by
 cases x<;>cases y<;>first | (obtain⟨c,h⟩:=C5 h;cases h;exact⟨_,_,rfl,rfl,c,rfl,rfl⟩) | cases h) (λ_ _ _ _=>.int _) _ _
theorem jk:S7 X.K cm fJ (rI gE λi j=>.int (i*j)):=ji (λx y A z a h=>by
 cases x<;>cases y<;>first | (obtain⟨c,h⟩:=C5 h;cases h;exact⟨_,_,rfl,rfl,c,rfl,rfl⟩) | cases h) (λ_ _ _ _=>.int _) _ _
end
section
variable{K:Iw}{ρ:List Addr}{H:Hp}{A:PHp}{n:Nat}{v:V}{l:List PV}
theorem M8{g:Nat->Addr}{A':PHp}(rl:aQ K g ρ A H)(r:RV ρ H (.ref n) v)(h:G2 n A=.ok l A'):A'=A/\∃a d,v=.ref a/\bu K H a d/\RVs ρ H l d:=by
 cases r with
 | ref i=>
   unfold G2 at h;rcases b:A[n]? with _ | o
   .rw[b]at h;cases h
   .have q:=rl.obj n o _ b i;cases o with
    | lst m=>rw[b]at h;cases h;obtain⟨d,e,f⟩:=q;exact⟨rfl,_,d,rfl,bu.of e,f⟩
    | ro m=>rw[b]at h;cases h;obtain⟨d,e,f⟩:=q;exact⟨rfl,_,d,rfl,e.sq,f⟩
    | dI m=>rw[b]at h;cases h
    | ins c m=>rw[b]at h;cases h
    | dT m=>rw[b]at h;cases h
    | exc c m=>rw[b]at h;cases h
theorem N5{f:Nat->Addr}{A':PHp}(rl:aQ K f ρ A H)(r:RV ρ H (.ref n) v)(h:S8 n A=.ok l A'):A'=A/\A[n]?=some (.lst l)/\∃a d,v=.ref a/\ρ[n]?=some a/\H a=some (.lst d)/\RVs ρ H l d:=by
 cases r with
 | ref e=>
   unfold S8 at h;rcases b:A[n]? with _ | o
   .rw[b]at h;cases h
   .have q:=rl.obj n o _ b e;cases o with
    | lst m=>rw[b]at h;cases h;obtain⟨d,g,i⟩:=q;exact⟨rfl,rfl,_,d,rfl,e,g,i⟩
    | ro m=>rw[b]at h;cases h
    | dI m=>rw[b]at h;cases h
    | ins c m=>rw[b]at h;cases h
    | dT m=>rw[b]at h;cases h
    | exc c m=>rw[b]at h;cases h
theorem jM{b:Nat->Addr}{c:Nat}{fs:List (Nat×PV)}{a:Addr}(rl:aQ K b ρ A H)(d:A[n]?=some (.ins c fs))(e:ρ[n]?=some a):c<7:=(rl.obj n _ _ d e).1.1
theorem z7{f:Nat->Addr}{A':PHp}{o:Nat×List (Nat×PV)}(rl:aQ K f ρ A H)(r:RV ρ H (.ref n) v)(h:v7 n A=.ok o A'):A'=A/\A[n]?=some (.ins o.1 o.2)/\∃a e d,v=.ref a/\ρ[n]?=some a/\H a=some (.ins (f o.1) e d)/\Pairs cy ρ H o.2 d/\∀p∈o.2,p.1<19:=by
 cases r with
 | ref g=>
   unfold v7 at h;rcases b:A[n]? with _ | o
   .rw[b]at h;cases h
   .have q:=rl.obj n o _ b g;cases o with
    | lst m=>rw[b]at h;cases h
    | ro m=>rw[b]at h;cases h
    | dI m=>rw[b]at h;cases h
    | ins c m=>rw[b]at h;cases h;obtain⟨i,e,d,j,k⟩:=q;exact⟨rfl,rfl,_,e,d,rfl,g,j,k,i.2⟩
    | dT m=>rw[b]at h;cases h
    | exc c m=>rw[b]at h;cases h
theorem i8{f:Nat->Addr}{x:PV}{A':PHp}(rl:aQ K f ρ A H)(r:RV ρ H x v)(h:O4 x A=.ok l A'):A'=A/\∃a b,v=.ref a/\(bu K H a b\/cx K H a b)/\RVs ρ H l b:=by
 cases x with
 | ref n=>
   obtain⟨e,a,b,c,d,g⟩:=M8 rl r h;exact⟨e,a,b,c,.inl d,g⟩
 | tup m=>
   cases h;cases r with
   | tup c d=>exact⟨rfl,_,_,rfl,.inr (cx.of c),d⟩
 | _=>cases h
theorem zV{b:Type}(a:List b)(i:Int):L2.atI a i=atI a i:=rfl
theorem RVs.at{a:List V}{i:Int}{x:PV}(r:RVs ρ H l a)(h:atI l i=some x):∃u,L2.atI a i=some u/\RV ρ H x u:=by
 rw[zV];unfold atI at h ⊢;rw[<-r.length];rcases e:ixN l.length i with _ | j
 .rw[e]at h;cases h
 .rw[e]at h;obtain⟨u,b,c⟩:=r.get (i:=j) h;exact⟨u,b,c⟩
theorem z8(n d:Nat)(o:Option Int):HT.sIx n d o=U8 n d o:=by
 cases o with
 | none=>rfl
 | some v=>
   have e:=HT.dG v n d;show HT.sIx n d _=if v<0 then(max (v+n) 0).toNat else(min v n).toNat;by_cases h:v<0
   .rw[if_pos h]at e ⊢;omega
   .rw[if_neg h]at e ⊢;omega
theorem RVs.slc{a:List V}(r:RVs ρ H l a)(lo b:Option Int):RVs ρ H (cut l lo b) (iA a lo b):=by
 unfold cut iA;rw[z8,z8,<-r.length];exact(r.drop _).take _
end
theorem W9{n:Nat}(h:n<=LIM):n<=sizeLine:=Jd h (by unfold LIM;decide)
theorem kZ{n:Nat}(h:n<LIM):n<sizeLine:=IZ h (by unfold LIM;decide)
section
variable{X:Cx}{cm:Nat->Addr}
noncomputable def sC(K:Iw):R2:=λx y H Q=>(∃i j,x=.int i/\y=.int j/\Q (.int (i+j)) H)\/(rD K x y H Q\/rCat x y H Q)
theorem L0:bO X (binaryOp .Add) (sC X.K):=op_add.or (op_catT.or zc)
theorem N9:S7 X.K cm U7 (sC X.K):=λo A H x y z L N O Q rl q r d k=>by
 cases x with
 | int i=>
   cases y with
   | int j=>cases d;cases q;cases r;exact .inl ⟨i,j,rfl,rfl,k o H _ (aG.refl _ _) rl (.int _)⟩
   | _=>cases d
 | tup l=>
   cases y with
   | tup m=>
     obtain⟨c,d⟩:=C5 d;cases d;cases q with
     | tup w f=>
       cases r with
       | tup D h=>
         refine .inr (.inl ⟨_,_,_,_,rfl,rfl,cx.of w,cx.of D,?_,?_,?_⟩)
         .intro e;subst e;have:=f.length;exact c.1 (List.length_eq_zero_iff.mp (by simpa using this))
         .rw[<-f.length,<-h.length];exact W9 c.2
         .refine⟨λz=>?_,λ_ p g=>?_⟩
          .subst z;cases h;refine k o H _ (aG.refl _ _) rl ?_;rw[Kh];exact .tup w f
          .refine k o _ _ (aG.same g) (rl.tup g) (.tup C7 ?_);exact(f.mono (aG.same g)).append (h.mono (aG.same g))
   | _=>cases d
 | ref n=>
   cases y with
   | ref m=>
     obtain⟨T,U,E,s⟩:=B0 d;obtain⟨rfl,_,a,B,rfl,_,G,f⟩:=N5 rl q E;obtain⟨l2,Y,I,u⟩:=B0 s;obtain⟨rfl,_,b,C,rfl,_,J,h⟩:=N5 rl r I;obtain⟨c,v⟩:=C5 u;cases v;refine .inr (.inr ⟨a,b,B,C,rfl,rfl,G,J,?_,λp g=>?_⟩)
     .rw[<-f.length,<-h.length];exact W9 c
     .have e:aG o H _ (aI H p (.lst (B++C))):=aG.new g;exact k _ _ _ e (rl.alloc g ⟨_,C7,(f.mono e).append (h.mono e)⟩ rfl) (.ref (by rw[<-rl.len];simp))
   | _=>cases d
 | _=>cases y<;>cases d
noncomputable def sD(K:Iw):R2:=λx y H Q=>rH K x y H Q\/rJ K x y H Q
theorem zW:hL X (sD X.K):=ix_list.or yP
theorem zX:S7 X.K cm bh (sD X.K):=λf A H x y z q r s Q rl m n g k=>by
 cases y with
 | int i=>
   obtain⟨l,v,o,b⟩:=B0 g;obtain⟨rfl,a,h,rfl,c,p⟩:=i8 rl m o;rcases e:atI l i with _ | u
   .rw[e]at b;cases b
   .rw[e]at b;cases b;cases n;obtain⟨w,j,d⟩:=p.at e;rcases c with c | c
    .exact .inl ⟨a,h,i,w,rfl,rfl,c,j,k f H w (aG.refl _ _) rl d⟩
    .exact .inr ⟨a,h,i,w,rfl,rfl,c,j,k f H w (aG.refl _ _) rl d⟩
 | _=>cases g
theorem aN{a b:Expr}{c d:ED}{pos:Pos}(e:Pe X cm a c)(f:Pe X cm b d)(hs:rF b):Pe X cm (.Subscript a b pos) (C3 bh c d):=
 E1 (yO zW e f hs) λg H Q h=>kY zX h
theorem sE{a:List Addr}{H:Hp}{x:PV}{v:V}(r:RV a H x v):decide (v=.non)=kO x:=by
 cases r<;>simp
theorem zY{a:Expr}{h:ED}{j:Nat}{pos b:Pos}(i:Pe X cm a h):Pt X cm (.Compare a [.Is] [.Constant .none j b] pos) (D3 (mV h)):=
 jg (mq (wL i)) λσ H Q q=>y8 (λσ H Q l=>by
  obtain⟨m,A,c,v,A',rl,n,d,k⟩:=l;obtain⟨x,s,o,d⟩:=B0 d;cases d;exact⟨m,A,c,x,A',rl,n,o,λe p u r f g=>k e p _ r f (by rw[sE g];exact .bl _)⟩) q
theorem zZ{a:Expr}{h:ED}{j:Nat}{pos b:Pos}(i:Pe X cm a h):Pt X cm (.Compare a [.IsNot] [.Constant .none j b] pos) (D3 (rT h)):=
 jg (mq (wM i)) λσ H Q q=>y8 (λσ H Q l=>by
  obtain⟨m,A,c,v,A',rl,n,d,k⟩:=l;obtain⟨x,s,o,d⟩:=B0 d;cases d;exact⟨m,A,c,x,A',rl,n,o,λe p u r f g=>k e p _ r f (by rw[sE g];exact .bl _)⟩) q
theorem z3{f g:OD}{r L:R2}{a b c:ED}(hf:S7 X.K cm f r)(hg:S7 X.K cm g L){σ:L2.St}{H:Hp}{Q:VK}(h:da X.K cm (kP f g a b c) σ H Q):qY r L (da X.K cm a) (da X.K cm b) (da X.K cm c) σ H Q:=by
 obtain⟨ρ,A,e,z,A',rl,o,d,k⟩:=h;obtain⟨x,N,e1,d⟩:=B0 d;obtain⟨y,O,e2,d⟩:=B0 d;obtain⟨m,T,e3,d⟩:=B0 d;refine⟨ρ,A,e,x,N,rl,o,e1,λp H1 vx U q s=>⟨p,N,e,y,O,q,o.mono U,e2,λv H2 Y x2 w j=>hf v O H2 x y m T vx Y _ w (s.mono x2) j e3 λl H3 v3 x3 n B=>?_⟩⟩;have i:=(U.trans x2).trans x3;cases m with
 | bl t=>
   cases B;refine⟨t,rfl,?_⟩;cases t with
   | true=>
     obtain⟨u,A4,e4,d⟩:=B0 d;exact⟨l,T,e,u,A4,n,o.mono i,e4,λC H4 v4 x4 D E=>hg C A4 H4 y u z A' Y v4 Q D ((j.mono x3).mono x4) E d λG H5 v5 x5 I J=>k G H5 v5 ((i.trans x4).trans x5) I J⟩
   | false=>
     cases d;exact k l H3 _ i n (.bl false)
 | _=>cases d
theorem sF{e d:Qv}{f g:OD}{r j:R2}{a b c:Expr}{k l m:ED}{pos:Pos}(n:bO X (compareOp e) r)(o:S7 X.K cm f r)(i:bO X (compareOp d) j)(p:S7 X.K cm g j)
 (q:Pe X cm a k) (s:Pe X cm b l) (u:Pe X cm c m) (v:lastMarks [e,d] [b,c]=false:=by with_unfolding_all rfl):Pe X cm (.Compare a [e,d] [b,c] pos) (kP f g k l m):=
 E1 (xX n i q s u v) λw H Q h=>z3 o p h
theorem R5{a:Expr}{t:TD}{pos:Pos}(h:Pt X cm a t):Pt X cm (.UnaryOp .Not a pos) (tNot t):=jg (wW h) λq H Q i=>by
 obtain⟨j,A,d,b,l,rl,m,e,k⟩:=i;obtain⟨c,r,n,e⟩:=B0 e;cases e;exact⟨j,A,d,c,l,rl,m,n,λf o p g=>k f o p g⟩
theorem bY{a:Expr}{t:TD}{pos:Pos}(h:Pt X cm a t):Pw X cm (.BoolOp .And [a] pos) t:=wQ h
theorem T6{a:Expr}{t:TD}{pos:Pos}(h:Pt X cm a t):Pw X cm (.BoolOp .Or [a] pos) t:=wR h
theorem jl{a b:Expr}{rest:List Expr}{t u:TD}{pos:Pos}(n:Pt X cm a t)(o:Pw X cm (.BoolOp .And (b::rest) pos) u):Pw X cm (.BoolOp .And (a::b::rest) pos) (tAnd t u):=
 su (wU n o) λy H Q p=>by
  obtain⟨q,A,d,z,r,rl,l,g,k⟩:=p;obtain⟨c,m,s,g⟩:=B0 g;refine⟨q,A,d,c,m,rl,l,s,λe v h f=>?_⟩;cases c with
  | true=>exact⟨e,m,d,z,r,f,l.mono h,g,λi w x j=>k i w (h.trans x) j⟩
  | false=>cases g;exact k e v h f
theorem Y3{a b:Expr}{rest:List Expr}{t u:TD}{pos:Pos}(n:Pt X cm a t)(o:Pw X cm (.BoolOp .Or (b::rest) pos) u):Pw X cm (.BoolOp .Or (a::b::rest) pos) (tOr t u):=
 su (wV n o) λy H Q p=>by
  obtain⟨q,A,d,z,r,rl,l,g,k⟩:=p;obtain⟨c,m,s,g⟩:=B0 g;refine⟨q,A,d,c,m,rl,l,s,λe v h f=>?_⟩;cases c with
  | true=>cases g;exact k e v h f
  | false=>exact⟨e,m,d,z,r,f,l.mono h,g,λi w x j=>k i w (h.trans x) j⟩
theorem nL{x:PV}{A A':PHp}{c:Bool}(h:jF x A=.ok c A'):x=.bl c/\A'=A:=by
 cases x with
 | bl b=>cases h;exact⟨rfl,rfl⟩
 | _=>cases h
theorem Y7{a:Expr}{d:ED}{pos:Pos}(h:Pe X cm a d):Pe X cm (.BoolOp .And [a] pos) d:=qL h
theorem z6{a:Expr}{d:ED}{pos:Pos}(h:Pe X cm a d):Pe X cm (.BoolOp .Or [a] pos) d:=qL h
theorem i9{a b:Expr}{rest:List Expr}{d u:ED}{pos:Pos}(p:Pe X cm a d)(q:Pe X cm (.BoolOp .And (b::rest) pos) u):Pe X cm (.BoolOp .And (a::b::rest) pos) (fc d u):=
 E1 (xa p q) λE H Q r=>by
  obtain⟨s,A,e,z,v,rl,o,h,k⟩:=r;obtain⟨c,G,i,h⟩:=B0 h;obtain⟨x,I,w,i⟩:=B0 i;obtain⟨rfl,rfl⟩:=nL i;refine⟨s,A,e,_,_,rl,o,w,λf y J j g l=>?_⟩;cases l;refine⟨c,rfl,?_⟩;cases c with
  | true=>exact⟨f,_,e,z,v,g,o.mono j,h,λm B C D n=>k m B C (j.trans D) n⟩
  | false=>cases h;exact k f y _ j g (.bl false)
theorem Aa{a b:Expr}{rest:List Expr}{d u:ED}{pos:Pos}(p:Pe X cm a d)(q:Pe X cm (.BoolOp .Or (b::rest) pos) u):Pe X cm (.BoolOp .Or (a::b::rest) pos) (mW d u):=
 E1 (xb p q) λE H Q r=>by
  obtain⟨s,A,e,z,v,rl,o,h,k⟩:=r;obtain⟨c,G,i,h⟩:=B0 h;obtain⟨x,I,w,i⟩:=B0 i;obtain⟨rfl,rfl⟩:=nL i;refine⟨s,A,e,_,_,rl,o,w,λf y J j g l=>?_⟩;cases l;refine⟨c,rfl,?_⟩;cases c with
  | true=>cases h;exact k f y _ j g (.bl true)
  | false=>exact⟨f,_,e,z,v,g,o.mono j,h,λm B C D n=>k m B C (j.trans D) n⟩
theorem Ab{a:Expr}{d:ED}{pos:Pos}(j:Pe X cm a d):Pe X cm (.UnaryOp .Not a pos) (rV d):=
 E1 (xc j) λr H Q l=>by
  obtain⟨m,A,b,z,s,rl,n,e,k⟩:=l;obtain⟨c,u,f,e⟩:=B0 e;obtain⟨x,v,o,f⟩:=B0 f;obtain⟨rfl,rfl⟩:=nL f;cases e;refine⟨m,A,b,_,_,rl,n,o,λg p w q h i=>?_⟩;cases i;exact⟨c,rfl,k g p _ q h (.bl _)⟩
theorem Ac{c a b:Expr}{t:TD}{d u:ED}{pos:Pos}(s:Pt X cm c t)(v:Pe X cm a d)(w:Pe X cm b u):Pe X cm (.IfExp c a b pos) (mX t d u):=
 E1 (xh s v w) λC H Q x=>by
  obtain⟨y,A,e,z,r,rl,m,j,k⟩:=x;obtain⟨c,n,B,j⟩:=B0 j;refine⟨y,A,e,c,n,rl,m,B,λh D l i=>?_⟩;cases c with
  | true=>exact⟨h,n,e,z,r,i,m.mono l,j,λf o p q g=>k f o p (l.trans q) g⟩
  | false=>exact⟨h,n,e,z,r,i,m.mono l,j,λf o p q g=>k f o p (l.trans q) g⟩
theorem ak:Pa X cm [] aNil:=sv rf λe H Q a=>by
 obtain⟨b,A,c,f,g,rl,h,d,k⟩:=a;cases d;exact k b H [] (aG.refl _ _) rl .nil
theorem af{e:Expr}{es:List Expr}{d:ED}{m:AD}(h:Pe X cm e d)(r:Pa X cm es m)(hs:starEach (e::es) X.env=(false,eval e X.env)::starEach es X.env:=by exact E9 rfl):Pa X cm (e::es) (ai d m):=
 sv (mG h r hs) λD H Q s=>by
  obtain⟨u,A,a,E,v,rl,n,b,k⟩:=s;obtain⟨x,o,w,b⟩:=B0 b;obtain⟨y,G,z,b⟩:=B0 b;cases b;exact⟨u,A,a,x,o,rl,n,w,λc I J p f g=>⟨c,o,a,y,v,f,n.mono p,z,λi B C q j l=>k i B _ (p.trans q) j (.cons (g.mono q) l)⟩⟩
theorem W2{es:List Expr}{l:AD}{f:Nat}{pos:Pos}(h:Pa X cm es l):Pe X cm (.Tuple es f pos) (c7 l):=
 E1 (yq h) λx H Q o=>by
  obtain⟨q,A,g,v,r,rl,s,b,k⟩:=o;obtain⟨u,y,w,b⟩:=B0 b;obtain⟨c,b⟩:=C5 b;cases b;refine⟨q,A,g,u,r,rl,s,w,λa m i f j d=>⟨by rw[<-d.length];exact W9 c,λp n=>?_⟩⟩;have e:aG a m a (aI m p (.tup i)):=aG.same n;exact k a _ _ (f.trans e) (j.tup n) (.tup C7 (d.mono e))
theorem bc{es:List Expr}{j:AD}{pos:Pos}(h:Pa X cm es j):Pe X cm (.List es pos) (X9 j):=
 E1 (yr h) λx H Q n=>by
  obtain⟨o,A,f,v,y,rl,q,a,k⟩:=n;obtain⟨r,s,u,a⟩:=B0 a;obtain⟨c,a⟩:=C5 a;cases a;refine⟨o,A,f,r,s,rl,q,u,λg l i w b d=>⟨by rw[<-d.length];exact W9 c,λp m=>?_⟩⟩;have e:aG g l _ (aI l p (.lst i)):=aG.new m;exact k _ _ _ (w.trans e) (b.alloc m ⟨_,C7,d.mono e⟩ rfl) (.ref (by rw[<-b.len];simp))
inductive jN (K:Iw) (cm:Nat->Addr) (d:LD) (σ:L2.St) (H:Hp) (Q:Option Int->Hp->Prop):Prop
 | mk (ρ:List Addr) (A:PHp) (σp:PSt) (v:Option Int) (A':PHp) (h0:aQ K cm ρ A H) (h1:bP ρ H σp σ) (h2:d σp A=.ok v A') (h3:∀ρ' H',aG ρ H ρ' H'->aQ K cm ρ' A' H'->Q v H'):jN K cm d σ H Q
theorem sG{e:Option Expr}{t t':L2.TO}(h:L2.PO X e t)(k:∀a H Q,t' a H Q->t a H Q):L2.PO X e t':=λb s a H Q I q=>h b s a H Q I (k a H Q q)
theorem dB:L2.PO X none (jN X.K cm hU):=sG yH λe H Q a=>by
 obtain⟨b,A,c,v,f,rl,g,d,k⟩:=a;cases d;exact k b H (aG.refl _ _) rl
theorem cP{e:Expr}{d:ED}(h:Pe X cm e d):L2.PO X (some e) (jN X.K cm (gs d)):=sG (yI h) λs H Q j=>by
 obtain⟨l,A,b,v,u,rl,m,n,k⟩:=j;obtain⟨x,o,p,a⟩:=B0 n;refine⟨l,A,b,x,o,rl,m,p,λc q w r f g=>?_⟩;cases x with
 | int i=>cases a;cases g;exact⟨i,rfl,k c q r f⟩
 | _=>cases a
theorem iG{e:Expr}{lo I:Option Expr}{d:ED}{dl J:LD}{Y pos:Pos}(he:Pe X cm e d)(hl:L2.PO X lo (jN X.K cm dl))(hu:L2.PO X I (jN X.K cm J)):Pe X cm (.Subscript e (.Slice lo I none Y) pos) (gG d dl J):=
 E1 (yK (sl_list.or yM) he hl hu) λσ H Q hq=>by
  obtain⟨ρ,A,f,v,A',rl,s,ev,k⟩:=hq;obtain⟨x,L,e1,u⟩:=B0 ev;obtain⟨l,N,e2,w⟩:=B0 u;obtain⟨h,A3,e3,g⟩:=B0 w;refine⟨ρ,A,f,x,L,rl,s,e1,λy H1 v1 z B C=>⟨y,L,f,l,N,B,s.mono z,e2,λD H2 E G=>⟨D,N,f,h,A3,G,(s.mono z).mono E,e3,λm O T b=>?_⟩⟩⟩;have o:=(z.trans E).trans T;have q:=C.mono (E.trans T);cases x with
  | ref n=>
    obtain⟨xs,A4,e4,i⟩:=B0 g;obtain⟨rfl,a,U,rfl,hs,r⟩:=M8 b q e4;cases i;refine .inl ⟨a,U,rfl,hs,λp j=>?_⟩;have e:aG m O _ (aI O p (.lst (iA U l h))):=aG.new j;exact k _ _ _ (o.trans e) (b.alloc j ⟨_,C7,(r.slc l h).mono e⟩ rfl) (.ref (by rw[<-b.len];simp))
  | tup xs=>
    obtain⟨c,i⟩:=C5 g;cases i;cases q with
    | tup ha r=>
      refine .inr ⟨_,_,rfl,cx.of ha,by rw[z8,z8,<-r.length];exact c,λp j=>?_⟩;exact k m _ _ (o.trans (aG.same j)) (b.tup j) (.tup C7 ((r.slc l h).mono (aG.same j)))
  | _=>cases g
theorem j0{d:ED}{f:PV->M PV}{r:List V->Hp->VK->Prop}{e:ED}(he:∀σ,e σ=av (d σ) f)
 (y:∀b A H x z c v (Q:VK),aQ X.K cm b A H->RV b H x v->f x A=.ok z c->(∀a g s,aG b H a g->aQ X.K cm a c g->RV a g z s->Q s g)->r [v] H Q)
 {σ:L2.St} {H:Hp} {Q:VK} (h:da X.K cm e σ H Q):mK r (gx X.K cm (ai d aNil)) σ H Q:=by
 obtain⟨b,A,i,z,c,rl,B,u,k⟩:=h;rw[he]at u;obtain⟨x,w,C,j⟩:=B0 u;refine⟨b,A,i,[x],w,rl,B,by show av _ _ A=_;rw[aA C];rfl,λl D E G m n=>?_⟩;cases n with
 | cons I J=>
   cases J;exact y l w D x z c _ Q m I j λo L N O p q=>k o L N (G.trans O) p q
theorem j3{e:Expr}{d:ED}{p pos:Pos}(he:Pe X cm e d)(c:Gl X "len")(f:X.mg "len" = none)(hs:starEach [e] X.env=(false,eval e X.env)::starEach [] X.env:=by exact E9 rfl):Pe X cm (.Call (.Name "len" p) [e] [] pos) (v9 d):=
 E1 (Z4 yU c f Qa (af he ak hs) (he:=hs)) λq H Q h=>j0 (λ_=>rfl) (λg A H x z A' v Q rl i j k=>by
  obtain⟨l,A1,m,b⟩:=B0 j;obtain⟨rfl,a,n,rfl,o,r⟩:=i8 rl i m;cases b;exact⟨a,n,rfl,o,k g H _ (aG.refl _ _) rl (by rw[<-r.length];exact .int _)⟩) h
theorem nM{e:Expr}{d:ED}{p pos:Pos}(he:Pe X cm e d)(g:Gl X "list")(i:X.mg "list" = none)(j:bootBuiltins "list" = some (.type "list"))(hs:starEach [e] X.env=(false,eval e X.env)::starEach [] X.env:=by exact E9 rfl):Pe X cm (.Call (.Name "list" p) [e] [] pos) (w4 d):=
 E1 (mL yV g i j (af he ak hs) (he:=hs)) λu H Q h=>j0 (λ_=>rfl) (λm A H x z A' v Q rl n o k=>by
  obtain⟨l,A1,q,b⟩:=B0 o;obtain⟨rfl,a,c,rfl,s,r⟩:=i8 rl n q;cases b;refine⟨a,c,rfl,s,λp f=>?_⟩;have e:aG m H _ (aI H p (.lst c)):=aG.new f;exact k _ _ _ e (rl.alloc f ⟨_,C7,r.mono e⟩ rfl) (.ref (by rw[<-rl.len];simp))) h
theorem Pairs.look{f:Nat->Str}{n:List Addr}{H:Hp}(o:∀i j,f i=f j->i<19->j<19->i=j):∀{c:List (Nat×PV)}{l:List (Str×V)}{i:Nat}{x:PV},Pairs f n H c l->(∀p∈c,p.1<19)->i<19->i4 i c=some x->∃v,l.lookup (f i)=some v/\RV n H x v
 | [],l,i,x,h,_,_,e=>by cases e
 | (g,u)::r,l,i,x,h,s,w,e=>by
   cases l with
   | nil=>have:=h.keys;simp at this
   | cons p q=>
     have k:=h.keys;simp only[Jb,Mr]at k;have y:=h.vals;cases y with
     | cons A B=>
       have C:=s _ IE;obtain⟨p1,D⟩:=p;by_cases d:g=i
       .subst d;simp at e;subst e;exact⟨D,by simp[show p1=f g from k.1],A⟩
       .have m:¬f i=p1:=λz=>d (o g i (by rw[z];exact k.1.symm) C w);simp only[i4,d]at e;obtain⟨v,a,b⟩:=Pairs.look o ⟨k.2,B⟩ (λp E=>s p (IF _ E)) w e;refine⟨v,?_,b⟩;rw[Nb,beq_eq_false_iff_ne.mpr m];exact a
end
theorem sH:∀i j,cy i=cy j->i<19->j<19->i=j:=by
 intro i j h b c;have a:∀i:_root_.Fin 19,∀j:_root_.Fin 19,cy i.1=cy j.1->i=j:=by decide +kernel
 exact congrArg (·.1) (a ⟨i,b⟩ ⟨j,c⟩ h)
section
variable{X:Cx}{cm:Nat->Addr}
theorem Ad{o:Expr}{d:ED}{f:Str}{i:Nat}{pos:Pos}(he:Pe X cm o d)(y:cy i=f)(z:i<19)(B:∀c,c<7->dS X.K (cm c))(C:∀c,c<7->bB X.K (cm c) f)
 (D:attributeBase o f X.env (eval o X.env)=eval o X.env:=by rfl):Pe X cm (.Attribute o f pos) (K8 d i):=
 E1 (yi he D) λσ H Q E=>by
  obtain⟨G,A,h,v,A',rl,I,J,k⟩:=E;obtain⟨x,L,N,j⟩:=B0 J;refine⟨G,A,h,x,L,rl,I,N,λl O v1 T b m=>?_⟩;cases x with
  | ref n=>
    obtain⟨o,A2,U,e⟩:=B0 j;obtain⟨rfl,r,a,Y,kv,rfl,g,hH,hp,hs⟩:=z7 b m U;rcases p:i4 i o.2 with _ | u
    .rw[p]at e;cases e
    .rw[p]at e;cases e;obtain⟨w,s,q⟩:=hp.look sH hs z p;rw[y]at s;exact⟨a,_,Y,kv,w,rfl,hH,B _ (jM b r g),C _ (jM b r g),s,k l O w T b q⟩
  | _=>simp_all
theorem Pairs.put{f:List Addr}{H:Hp}{i:Nat}{x:PV}{v:V}(n:i<19)(j:RV f H x v):∀{a:List (Nat×PV)}{c:List (Str×V)},Pairs cy f H a c->(∀p∈a,p.1<19)->Pairs cy f H (putFld i x a) (Z3 (cy i) v c)
 | [],c,h,_=>by
   cases c with
   | nil=>exact⟨rfl,.cons j .nil⟩
   | cons p q=>have:=h.keys;simp at this
 | (g,u)::r,c,h,o=>by
   cases c with
   | nil=>have:=h.keys;simp at this
   | cons p q=>
     have k:=h.keys;simp only[Jb,Mr]at k;have w:=h.vals;cases w with
     | cons y s=>
       obtain⟨p1,l⟩:=p;have A:=o _ IE;have d:p1=cy g:=k.1;by_cases b:g=i
       .subst b;have e:Z3 (cy g) v ((p1,l)::q)=(p1,v)::q:=by
         show(if p1=cy g then _ else _)=_;rw[if_pos d]
        rw[e];simp only[putFld];exact⟨by simp[d,k.2],.cons j s⟩
       .have m:¬p1=cy i:=λz=>b (sH g i (by rw[<-z];exact d.symm) A n);have e:Z3 (cy i) v ((p1,l)::q)=(p1,l)::Z3 (cy i) v q:=by
         show(if p1=cy i then _ else _)=_;rw[if_neg m]
        rw[e];simp only[putFld,b,if_false];have ih:=Pairs.put n j ⟨k.2,s⟩ λp B=>o p (IF _ B);exact⟨by simp only[Jb];rw[ih.keys,d],.cons y ih.vals⟩
theorem sI{i:Nat}{x:PV}(d:i<19):∀{b:List (Nat×PV)},(∀p∈b,p.1<19)->∀p∈putFld i x b,p.1<19
 | [],_,p,a=>by simp at a;subst a;exact d
 | (g,u)::r,c,p,a=>by
   unfold putFld at a;split at a
   .rcases IH.mp a with rfl | a
    .simp_all
    .exact c p (IF _ a)
   .rcases IH.mp a with rfl | a
    .exact c _ IE
    .exact sI d (λq e=>c q (IF _ e)) p a
theorem Ae{o b:Expr}{d e:ED}{f:Str}{i:Nat}{pos l:Pos}(ho:Pe X cm o d)(hv:Pe X cm b e)(hf:cy i=f)(Q:i<19)(hc:∀c,c<7->dS X.K (cm c))(hn:∀c,c<7->bB X.K (cm c) f)
 (hs:swapsWith b (some (.Attribute o f l)) pos.line X.env=pure false:=by rfl):Ps X cm (.Assign [.Attribute o f l] b pos) (sFld d i e):=
 V6 (yj ho hv hs) λD σ H hq=>by
  obtain⟨ρ,A,m,fl,A',rl,u,ev,k⟩:=hq;obtain⟨y,T,e1,v⟩:=B0 ev;obtain⟨x,A2,e2,p⟩:=B0 v;refine⟨ρ,A,m,y,T,rl,u,e1,λw H1 v1 z B C=>⟨w,T,m,x,A2,B,u.mono z,e2,λj U v2 E g G=>?_⟩⟩;cases x with
  | ref n=>
    obtain⟨o,A3,e3,I⟩:=B0 p;obtain⟨rfl,q,a,J,L,rfl,h,hH,Y,r⟩:=z7 g G e3;obtain⟨c,N⟩:=C5 I;cases N;have c1:L.length=o.2.length:=by have:=congrArg List.length Y.keys;simpa using this
    refine⟨a,cm o.1,J,L,rfl,hH,hc _ (jM g q h),hn _ (jM g q h),by omega,?_⟩;rw[<-hf];have s:aG j U j (aI U a (.ins (cm o.1) J (Z3 (cy i) v1 L))):=aG.put g h q rfl;have O:aQ X.K cm j (A3.set n (.ins o.1 _)) _:=
     g.put h q rfl rfl ⟨⟨jM g q h,sI Q r⟩,J,_,C7,(Y.mono s).put Q ((C.mono E).mono s) r⟩
    exact k j _ ((z.trans E).trans s) O σ (((u.mono z).mono E).mono s)
  | _=>cases p
theorem nN{o e:Expr}{d u:ED}{i b:Pos}(N:Pe X cm o d)(he:Pe X cm e u)
 (O:attributeBase o "append" X.env (eval o X.env)=eval o X.env:=by rfl) (hs:starEach [e] X.env=(false,eval e X.env)::starEach [] X.env:=by exact E9 rfl)
 (hfew:((backTo b (starEach [e] X.env)).all (λx=>!x.1)&&(backToKw b (keywordEach [] X.env)).all (λx=>x.1.isSome)&&decide ([e].length+([]:List Nz).length+(if([]:List Nz).isEmpty then 0 else 1)<30))=true:=by rfl)
 (hline:(i.endLine == b.line)=true:=by rfl):Pe X cm (.Call (.Attribute o "append" i) [e] [] b) (m9 d u):=
 E1 (mN Mt PySem.F.slot_list_append PySem.F.type_list_append yZ N (af he ak hs) (hbase:=O) (hfew:=hfew) (hline:=hline) (hs:=hs)) λσ H Q T=>by
  obtain⟨U,A,j,v,A',rl,G,Y,k⟩:=T;obtain⟨x,A1,e1,m⟩:=B0 Y;refine⟨U,A,j,x,A1,rl,G,e1,λr H1 v1 I p q=>?_⟩;cases x with
  | ref n=>
    obtain⟨l0,A2,e2,s⟩:=B0 m;obtain⟨rfl,hA,a,xs,rfl,hn,hH,r0⟩:=N5 p q e2;refine⟨.inl ⟨rfl,xs,bu.of hH⟩,?_⟩;obtain⟨y,A3,e3,w⟩:=B0 s;obtain⟨l,A4,e4,z⟩:=B0 w;obtain⟨c,B⟩:=C5 z;cases B;refine⟨r,_,j,[y],A3,p,G.mono I,by show av _ _ _=_;rw[aA e3];rfl,λC H2 a9 J f D=>?_⟩;cases D with
    | cons hv hr=>
      cases hr;obtain⟨rfl,g,a2,ys,e5,h,E,L⟩:=N5 f (q.mono J) e4;cases e5;refine⟨a,ys,_,rfl,rfl,E,by rw[<-L.length];exact kZ c,?_⟩;refine k C _ _ ((I.trans J).trans (aG.put f h g rfl)) (f.put h g rfl rfl ⟨_,C7,?_⟩) .non;exact(L.mono (aG.put f h g rfl)).append (.cons (hv.mono (aG.put f h g rfl)) .nil)
  | _=>cases m
theorem aC{i:Nat}{e:Expr}(h:L2.PG X e (L2.gName i)):Pg X cm e (gName i):=sx h λv l H Q b=>by
 obtain⟨c,A,d,x,a,m,rl,f,g,j,k⟩:=b;cases j;exact k c H _ (aG.refl _ _) rl (f.set i g)
theorem cQ:gr X [] (jL X.K cm gNil):=sy xu λi j H Q c=>by
 obtain⟨d,A,e,f,a,l,rl,g,h,b,k⟩:=c;cases f with
 | nil=>cases b;cases h;exact⟨rfl,k d H _ (aG.refl _ _) rl g⟩
 | cons y m=>cases b
theorem aS{e:Expr}{es:List Expr}{g:GD}{r:GDs}(s:Pg X cm e g)(u:gr X es (jL X.K cm r))(hs:(assignEach (e::es) X.env).map (·.2)=assign e X.env::(assignEach es X.env).map (·.2):=by rfl):gr X (e::es) (jL X.K cm (gCons g r)):=
 sy (xw s u hs) λO T H Q v=>by
  obtain⟨w,A,c,x,a,z,rl,B,C,o,k⟩:=v;cases x with
  | nil=>cases o
  | cons y D=>
    obtain⟨b,p,E,d⟩:=B0 o;cases C with
    | cons G I=>
      exact⟨_,_,rfl,w,A,c,y,b,p,rl,B,G,E,λf U J q h i=>⟨f,p,b,D,a,z,h,i,I.mono q,d,λj L l N m n=>k j L l (q.trans N) m n⟩⟩
theorem ib{es:List Expr}{j n:Nat}{g:GDs}{pos:Pos}(i:X.calm=true)(h:gr X es (jL X.K cm g))(m:(assignEach es X.env).length=n:=by rfl)(b:(assignEach es X.env).findIdx? (·.1)=none:=by rfl):Pg X cm (.Tuple es j pos) (gTup n g):=
 sx (xx i h m b) λv y H Q o=>by
  obtain⟨p,A,d,x,a,q,rl,s,u,f,k⟩:=o;cases x with
  | tup l=>
    obtain⟨c,e⟩:=C5 f;cases u with
    | tup w r=>exact⟨_,_,rfl,cx.of w,by rw[<-r.length];exact c,p,A,d,l,a,q,rl,s,r,e,k⟩
  | _=>cases f
theorem lg{st:Stmt}:Ps X cm st sNever:=V6 xq λD c H ⟨d,A,a,f,e,rl,g,b,k⟩=>by cases b
theorem J0:ia X cm [] sPass:=kX xl λD a H b=>by
 obtain⟨c,A,d,f,h,rl,e,g,k⟩:=b;cases g;exact k c H (aG.refl _ _) rl a e
theorem C4{st:Stmt}{s:SD}(h:Ps X cm st s):ia X cm [st] s:=mr h
theorem C2{st:Stmt}{rest:List Stmt}{s r:SD}(p:Ps X cm st s)(q:ia X cm rest r):ia X cm (st::rest) (C9 s r):=
 kX (qM p q) λD J H u=>by
  obtain⟨w,A,g,f,x,rl,y,z,k⟩:=u;obtain⟨o,m,B,a⟩:=B0 z;refine⟨w,A,g,o,m,rl,y,B,λb n h c=>?_⟩;cases o with
  | nx i=>exact λe d=>⟨b,m,i,f,x,c,d,a,λj C E l=>k j C (h.trans E) l⟩
  | rt v=>cases a;exact λG I=>k b n h c G I
  | _=>cases a;exact λe d=>k b n h c e d
theorem j4{e:Expr}{d:ED}{pos:Pos}(h:Pe X cm e d)(hs:swapsWith e none pos.line X.env=pure false:=by rfl):Ps X cm (.Expr e pos) (Q7 d):=
 V6 (qN h hs) λD l H m=>by
  obtain⟨n,A,a,f,o,rl,i,p,k⟩:=m;obtain⟨x,u,q,b⟩:=B0 p;cases b;exact⟨n,A,a,x,o,rl,i,q,λc r v j g s=>k c r j g l (i.mono j)⟩
theorem D4{e:Expr}{d:ED}{pos:Pos}(h:Pe X cm e d):Ps X cm (.Return (some e) pos) (I9 d):=
 V6 (xo h) λD u H j=>by
  obtain⟨l,A,a,f,m,rl,n,o,k⟩:=j;obtain⟨x,v,p,b⟩:=B0 o;cases b;exact⟨l,A,a,x,m,rl,n,p,λc q r s g i=>k c q s g r i⟩
theorem V7{c:Expr}{a b:List Stmt}{t:TD}{s u:SD}{pos:Pos}(r:Pt X cm c t)(v:ia X cm a s)(w:ia X cm b u):Ps X cm (.If c a b pos) (bN t s u):=
 V6 (qO r v w) λD E H y=>by
  obtain⟨z,A,d,f,q,rl,m,B,k⟩:=y;obtain⟨x,n,C,h⟩:=B0 B;refine⟨z,A,d,x,n,rl,m,C,λi G l j=>?_⟩;cases x with
  | true=>exact⟨i,n,d,f,q,j,m.mono l,h,λe o p g=>k e o (l.trans p) g⟩
  | false=>exact⟨i,n,d,f,q,j,m.mono l,h,λe o p g=>k e o (l.trans p) g⟩
theorem Af{d:ED}{g:GD}{q:TE}{r:TG}(he:∀σ H Q,da X.K cm d σ H Q->q σ H Q)(y:∀v σ H Q,jf X.K cm g v σ H Q->r v σ H Q){D:u5}{σ:L2.St}{H:Hp}(h:fW X.K cm (K0 d g) D σ H):qP q r D σ H:=by
 obtain⟨z,A,a,f,B,rl,s,C,k⟩:=h;obtain⟨x,u,E,b⟩:=B0 C;obtain⟨c,L,G,e⟩:=B0 b;cases e;exact he _ _ _ ⟨z,A,a,x,u,rl,s,E,λi N O w j l=>y _ _ _ _ ⟨i,u,a,x,c,B,j,s.mono w,l,G,λm I n J o p=>k m I (w.trans J) o n p⟩⟩
theorem G9{i:Nat}{x:Str}{e:Expr}{d:ED}{pos a:Pos}(c:X.N.Nodup)(f:X.N[i]?=some x)(g:L2.Loc X.env.scope x)(he:Pe X cm e d)(hs:swapsWith e (some (.Name x a)) pos.line X.env=pure false:=by rfl)
 (j:X.fn x=true\/X.env.scope.names.lookup x=some .local:=by first | exact .inl rfl | exact .inr rfl | assumption):Ps X cm (.Assign [.Name x a] e pos) (K0 d (gName i)):=
 V6 (xy c f g he hs j) λD σ H h=>Af (λ_ _ _ z=>z) (λv σ H Q l=>by
  obtain⟨m,A,n,x,b,A',rl,o,p,q,k⟩:=l;cases q;exact k m H _ (aG.refl _ _) rl (o.set i p)) h
end
inductive ba (K:Iw) (cm:Nat->Addr) (f:Fun) (n:Nat) (vs:List V) (H:Hp) (Q:VK) (_E:L2.XK):Prop
 | mk (ρ:List Addr) (A:PHp) (ps:List PV) (v:PV) (A':PHp) (h0:aQ K cm ρ A H) (h1:RVs ρ H ps vs) (h2:ps.length=n) (h3:f ps A=.ok v A') (h4:∀ρ' H' v',aG ρ H ρ' H'->aQ K cm ρ' A' H'->RV ρ' H' v v'->Q v' H'):ba K cm f n vs H Q _E
theorem bP.start0{b:List Addr}{H:Hp}{ps:List PV}{vs:List V}{N:List Str}(r:RVs b H ps vs):bP b H (Ws.start N.length ps) (L2.start N vs):=by
 have d:=r.length;refine⟨by unfold Ws.start L2.start;simp[d],λi p a=>?_⟩;unfold Ws.start at a;by_cases c:i<ps.length
 .rw[Jf (by simpa using c),Ja]at a;rcases e:ps[i]? with _ | q
  .rw[e]at a;cases a
  .rw[e]at a;cases a;obtain⟨v,f,g⟩:=r.get e;refine⟨v,?_,g⟩;unfold L2.start;rw[Jf (by simp;omega),Ja,f];rfl
 .rw[Kb (by simpa using c),OA]at a;split at a<;>cases a
section
variable{P:IV}{w:JB}{K:Iw}{mg:Str->Option Iv}{base:Heap}{cm:Nat->Addr}
theorem Ag{x b:Str}{st:Stmt}{f:Addr}{p:IY}{N ps:List Str}{k:Nat}{s:SD}(F:L2.Fun K x b st f p)(S:C6 N ps (B6 st))
 (d:∀(c:Iv)(A:Jx)(a:List Env)(j:IA)(H:Hp)(E:L2.XK),aM k (A.deeper (Jw b (B6 st) j.heap.objs.size f c))->
  cf (u8 aW P w K mg base N b (B6 st) f c A a j H E).nox (G7 st) (fW K cm s)) :
 aE P w K mg base aW (k+1) f p ps (ba K cm (fn N.length ps.length s) ps.length):=by
 refine F.ok S (λD H Q E ⟨q,A,r,v,Y,rl,l,y,_,_⟩=>by rw[<-l.length];exact y) λc A a j H D Q E G h=>⟨_,d c A a j H E G,?_⟩;obtain⟨q,B,r,v,B',rl,l,y,I,k⟩:=h;obtain⟨_,m⟩:=C5 I;obtain⟨o,J,L,e⟩:=B0 m;refine⟨q,B,Ws.start _ r,o,J,rl,bP.start0 l,L,λg z C i=>?_⟩;cases o with
 | nx O=>cases e;exact λT _=>k g z _ C i .non
 | rt u=>cases e;exact λU n=>k g z U C i n
 | _=>cases e
end
section
variable{X:Cx}{cm:Nat->Addr}
theorem Ah{f:Fun}{n:Nat}{m:AD}(r:∀o A v b,f o A=.ok v b->o.length=n){σ:L2.St}{H:Hp}{Q:VK}(h:da X.K cm (G3 f m) σ H Q):rg (ba X.K cm f n) [] E0 (gx X.K cm m) σ H Q:=by
 obtain⟨s,A,c,v,b,rl,u,w,k⟩:=h;obtain⟨p,q,x,a⟩:=B0 w;refine⟨s,A,c,p,q,rl,u,x,λd E y z e g=>?_⟩;rw[Kh];exact⟨d,q,p,v,b,e,g,r _ _ _ _ a,a,λi B C D j l=>k i B C (z.trans D) j l⟩
theorem nO{n p:Nat}{s:SD}{vs:List PV}{A A':PHp}{v:PV}(h:fn n p s vs A=.ok v A'):vs.length=p:=(C5 h).1
theorem Ai{f:Fun}{n k:Nat}{a:Addr}{d:IY}{ps:List Str}{x:Str}{e:Expr}{es:List Expr}{g:AD}{p pos:Pos}(F:aE X.prog X.w X.K X.mg X.base aW k a d ps (ba X.K cm f n))(j:∀i A v l,f i A=.ok v l->i.length=n)(m:aM k X.A)(o:Gl X x)(q:X.mg x=some (.ref a))(r:KU X.K (.ref a)=true)(s:L2.Binds X.K d ps [])
 (u:Pa X cm (e::es) g) (b:(x == ("__debug__" : Str))=false:=by decide) (he:starEach (e::es) X.env=(false,eval e X.env)::starEach es X.env:=by exact E9 rfl) (c:(backTo pos (starEach es X.env)).any (·.1)=false:=by rfl) :
 Pe X cm (.Call (.Name x p) (e::es) [] pos) (G3 f g):=
 E1 (yt F m o q r s .nil kJ u b he c) λy H Q h=>Ah j h
theorem sJ{c:Nat}{f:Fun}{n:Nat}{m:Str}{d:ED}{Y:AD}(hn:∀vs A v y,f vs A=.ok v y->vs.length=n)(hm:∀i,i<19->cy i≠m){σ:L2.St}{H:Hp}{Q:VK}(h:da X.K cm (O2 c f d Y) σ H Q) :
 mH (cm c) m (ba X.K cm f n) [] E0 (da X.K cm d) (gx X.K cm Y) σ H Q:=by
 obtain⟨ρ,A,b,v,y,rl,rs,ev,k⟩:=h;obtain⟨x,A1,e1,e⟩:=B0 ev;refine⟨ρ,A,b,x,A1,rl,rs,e1,λB H1 v1 x1 g r=>?_⟩;cases x with
 | ref j=>
   obtain⟨o,A2,e2,C⟩:=B0 e;obtain⟨rfl,hA,a,dx,D,rfl,b5,hH,hp,hs⟩:=z7 g r e2;obtain⟨hc,E⟩:=C5 C;obtain⟨xs,A3,e3,s⟩:=B0 E;subst hc;have G:D.lookup m=none:=by
    have I:∀(l:List (Str×V)),(∀z∈l.map (·.1),z≠m)->l.lookup m=none:=λl=>by
     induction l with
     | nil=>intro _;rfl
     | cons p q ih=>
       intro u;rw[Nb,beq_eq_false_iff_ne.mpr (λz=>u p.1 (by simp) z.symm)];exact ih λz w=>u z (by simp at w ⊢;exact .inr w)
    refine I D λz u=>?_;rw[hp.keys]at u;obtain⟨q,hq,rfl⟩:=IB.mp u;exact hm _ (hs q hq)
   refine⟨a,dx,D,rfl,hH,G,B,_,b,xs,A3,g,rs.mono x1,e3,λJ H2 d2 x2 L N=>?_⟩;rw[Kh];exact⟨J,A3,.ref j::xs,v,y,L,.cons (r.mono x2) N,hn _ _ _ _ s,s,λO H3 v3 x3 T U=>k O H3 v3 ((x1.trans x2).trans x3) T U⟩
 | _=>cases e
theorem Aj{c:Nat}{f:Fun}{n k:Nat}{l:Addr}{p:IY}{ps:List Str}{m:Str}{o e:Expr}{es:List Expr}{d:ED}{q:AD}{a pos:Pos}{s:Sem Bool}(u:Pe X cm o d)(x:dS X.K (cm c))(y:hJ X.K (cm c) m l)
 (F:aE X.prog X.w X.K X.mg X.base aW k l p ps (ba X.K cm f n)) (z:∀r A v B,f r A=.ok v B->r.length=n) (b:∀i,i<19->cy i≠m) (C:aM k X.A) (D:L2.Binds X.K p ps []) (E:Pa X cm (e::es) q)
 (g:starEach (e::es) X.env=(false,eval e X.env)::starEach es X.env:=by exact E9 rfl) (j:(backTo pos (starEach es X.env)).any (·.1)=false:=by rfl)
 (G:eval (.Call (.Attribute o m a) (e::es) [] pos) X.env=(do
  let ov <-eval o X.env
  standAt a.atName
  let(f,first) <-holding [ov] (getMethod ov m s)
  callWith pos f first (backTo pos (starEach (e::es) X.env)) (backToKw pos (keywordEach [] X.env))):=by rfl) :
 Pe X cm (.Call (.Attribute o m a) (e::es) [] pos) (O2 c f d q):=
 E1 (yw u x y F C D .nil kJ E g j G) λI H Q h=>sJ z b h
theorem Ak{c:Nat}{f:Fun}{n:Nat}{G:AD}(U:c<7)(Y:∀I A v i,f I A=.ok v i->I.length=n/\v=.non){σ:L2.St}{H:Hp}{Q:VK}(h:da X.K cm (iE c f G) σ H Q):rh (cm c) (ba X.K cm f n) [] E0 (gx X.K cm G) σ H Q:=by
 obtain⟨ρ,A,j,v,i,rl,rs,ev,k⟩:=h;obtain⟨J,l,e1,m⟩:=B0 ev;obtain⟨x,A2,e2,o⟩:=B0 m;cases e2;obtain⟨u,A3,L,p⟩:=B0 o;cases p;refine⟨ρ,A,j,J,l,rl,rs,e1,λa q a5 x1 b r x g hx d s=>?_⟩;rw[Kh];have w:aG a q a (aI q g (.own x)):=aG.same d;have y:=b.grow w (R4 d);have e:aI q g (.own x) x=none:=by rw[aq (KP s)];exact hx
 have N:aG a _ _ (aI _ x (.ins (cm c) g [])):=aG.new e;have z:aQ X.K cm _ (l++[.ins c []]) _:=y.alloc e ⟨⟨U,by simp⟩,g,[],C7,⟨rfl,.nil⟩⟩ rfl;have O:(a++[x])[l.length]?=some x:=by rw[<-b.len];simp
 obtain⟨B,rfl⟩:=Y _ _ _ _ L;refine⟨a++[x],_,.ref _::J,.non,i,z,.cons (.ref O) ((r.mono w).mono N),B,L,λC H4 v4 T D E=>?_⟩;cases E;exact⟨rfl,k C H4 _ (((x1.trans w).trans N).trans T) D (.ref (nH T.pre O))⟩
theorem Al{c:Nat}(l:c<7){f:Fun}{n k:Nat}{d:Addr}{g:IY}{ps:List Str}{x:Str}{e:Expr}{es:List Expr}{i:AD}{p pos:Pos}(Mk:L2.Mk X.K (cm c) d)(F:aE X.prog X.w X.K X.mg X.base aW k d g ps (ba X.K cm f n))(m:∀j A v o,f j A=.ok v o->j.length=n/\v=.non)(q:aM (k+1) X.A)
 (r:Gl X x) (s:X.mg x=some (.ref (cm c))) (u:L2.Binds X.K g ps []) (y:Pa X cm (e::es) i) (a:(x == ("__debug__" : Str))=false:=by decide) (he:starEach (e::es) X.env=(false,eval e X.env)::starEach es X.env:=by exact E9 rfl) (b:(backTo pos (starEach es X.env)).any (·.1)=false:=by rfl) :
 Pe X cm (.Call (.Name x p) (e::es) [] pos) (iE c f i):=
 E1 (yz Mk F q r s u .nil kJ y a he b) λz H Q h=>Ak l m h
noncomputable def nP(K:Iw)(a:Addr):L2.It:=
 ⟨λi H=>∃b x,bu K H a b/\b[i]?=some x,λi H x c=>∃y p,(∀b,bu K H a b->b[i]?=some y)/\H p=none/\x=.ref p/\c=aI H p (.tup [.int i,y]),λi H=>∃b,bu K H a b/\b.length<=i⟩
noncomputable def Am(K:Iw)(k:Nat)(a:Addr):L2.It:=
 ⟨λi H=>∃b x,bu K H a b/\b[i]?=some x,λi H x c=>∃y p,(∀b,bu K H a b->b[i]?=some y)/\H p=none/\x=.ref p/\c=aI H p (.tup [.int ((k+i:Nat):Int),y]),λi H=>∃b,bu K H a b/\b.length<=i⟩
noncomputable def An(vs:List V):L2.It:=⟨λi _=>i<vs.length,λi H x a=>a=H/\vs[i]?=some x,λi _=>vs.length<=i⟩
def fh(k:Bool)(K:Iw)(H:Hp)(a:Addr)(b:List V):Prop:=match k with
 | true=>cx K H a b
 | false=>bu K H a b
noncomputable def kindOf:PV->Bool
 | .tup _=>true
 | _=>false
noncomputable def nQ(K:Iw)(e f:Bool)(a b:Addr):L2.It:=
 ⟨λi H=>∃c d x y,fh e K H a c/\fh f K H b d/\c[i]?=some x/\d[i]?=some y,
  λi H v g=>∃x y p,(∀c,fh e K H a c->c[i]?=some x)/\(∀d,fh f K H b d->d[i]?=some y)/\H p=none/\v=.ref p/\g=aI H p (.tup [x,y]),
  λi H=>∃c d,fh e K H a c/\fh f K H b d/\(c.length<=i\/d.length<=i)⟩
theorem Z6{K:Iw}{c:List Addr}{H:Hp}{A:PHp}{l:List PV}{v:V}{x:PV}{A':PHp}(rl:aQ K cm c A H)(r:RV c H x v)(h:O4 x A=.ok l A'):A'=A/\∃a b,v=.ref a/\fh (kindOf x) K H a b/\RVs c H l b:=by
 cases x with
 | ref n=>
   obtain⟨e,a,b,d,f,g⟩:=M8 rl r h;exact⟨e,a,b,d,f,g⟩
 | tup m=>
   cases h;cases r with
   | tup d f=>exact⟨rfl,_,_,rfl,cx.of d,f⟩
 | _=>cases h
noncomputable def ic(K:Iw)(c:List Addr)(H:Hp):It->L2.It->Prop
 | .rng lo n,j=>j=jB lo n
 | .lst m,j=>∃a,c[m]?=some a/\j=kC K a
 | .tup l,j=>∃a d,H a=some (.tup d)/\RVs c H l d/\j=kD K a
 | .enm m,j=>∃a,c[m]?=some a/\j=nP K a
 | .fix l,j=>∃d,RVs c H l d/\j=An d
 | .zip x y,j=>∃a b,RV c H x (.ref a)/\RV c H y (.ref b)/\j=nQ K (kindOf x) (kindOf y) a b
 | .enk k m,j=>∃a,c[m]?=some a/\j=Am K k a
theorem ic.mono{K:Iw}{k f:List Addr}{H H':Hp}{J:It}{j:L2.It}(h:ic K k H J j)(e:aG k H f H'):ic K f H' J j:=by
 cases J with
 | rng lo n=>exact h
 | tup l=>obtain⟨a,g,c,d,i⟩:=h;exact⟨a,g,e.tup _ _ c,d.mono e,i⟩
 | fix l=>obtain⟨g,c,d⟩:=h;exact⟨g,c.mono e,d⟩
 | zip x y=>obtain⟨a,b,c,d,i⟩:=h;exact⟨a,b,c.mono e,d.mono e,i⟩
 | _=>obtain⟨a,c,d⟩:=h;exact⟨a,nH e.pre c,d⟩
inductive gK (K:Iw) (cm:Nat->Addr) (d:ID) (σ:L2.St) (H:Hp) (R:L2.It->Hp->Prop):Prop
 | mk (ρ:List Addr) (A:PHp) (σp:PSt) (J:It) (A':PHp) (h0:aQ K cm ρ A H) (h1:bP ρ H σp σ) (h2:d σp A=.ok J A') (h3:∀ρ' H' j,aG ρ H ρ' H'->aQ K cm ρ' A' H'->ic K ρ' H' J j->R j H'):gK K cm d σ H R
noncomputable def nR(K:Iw)(cm:Nat->Addr)(a:List Addr)(A:PHp)(H:Hp)(j:L2.It)(i:Nat):Option PV->Prop
 | none=>j.stop i H
 | some v=>j.go i H/\∀y b,j.yld i H y b->aG a H a b/\aQ K cm a A b/\RV a b v y
theorem sL{K:Iw}{G:List Addr}{H:Hp}{A A':PHp}{J:It}{j:L2.It}{i:Nat}{x:Option PV}(rl:aQ K cm G A H)(D:ic K G H J j)(e:item J i A=.ok x A') :
 A'=A/\nR K cm G A H j i x:=by
 cases J with
 | rng lo n=>
   cases e;cases D;refine⟨rfl,?_⟩;by_cases h:i<n
   .show nR K cm G A H _ i (if i<n then some (PV.int (lo+i)) else none);rw[if_pos h];refine⟨h,λy I g=>?_⟩;obtain⟨q,s⟩:=g;subst q;subst s;exact⟨aG.refl _ _,rl,.int _⟩
   .show nR K cm G A H _ i (if i<n then some (PV.int (lo+i)) else none);rw[if_neg h];exact Nat.le_of_not_lt h
 | fix l=>
   cases e;obtain⟨L,r,rfl⟩:=D;refine⟨rfl,?_⟩;rcases c:l[i]? with _ | v
   .show L.length<=i;rw[<-r.length];exact JQ.mp c
   .obtain⟨u,d,k⟩:=r.get c;refine⟨(IQ.mp d).1,λy I ⟨w,o⟩=>?_⟩;subst w;rw[d]at o;cases o;exact⟨aG.refl _ _,rl,k⟩
 | zip x y=>
   obtain⟨a,b,ra,rb,rfl⟩:=D;obtain⟨l,A1,q,s⟩:=B0 e;obtain⟨rfl,a',f,h1,N,r1⟩:=Z6 rl ra q;cases h1;obtain⟨m,A2,w,o⟩:=B0 s;obtain⟨rfl,b',O,E,Q,r2⟩:=Z6 rl rb w;cases E;cases o;refine⟨rfl,?_⟩;rcases c:l[i]? with _ | u
   .exact⟨f,O,N,Q,.inl (by rw[<-r1.length];exact JQ.mp c)⟩
   .rcases hj:m[i]? with _ | v
    .exact⟨f,O,N,Q,.inr (by rw[<-r2.length];exact JQ.mp hj)⟩
    .obtain⟨u',d,ru⟩:=r1.get c;obtain⟨v',hv,k⟩:=r2.get hj;refine⟨⟨f,O,u',v',N,Q,d,hv⟩,λz I g=>?_⟩;obtain⟨x',y',p,T,U,Y,g4,g5⟩:=g;have T:=T f N;have U:=U O Q;rw[d]at T;cases T;rw[hv]at U;cases U;subst g4;subst g5;exact⟨aG.same Y,rl.tup Y,.tup C7 (.cons (ru.mono (aG.same Y)) (.cons (k.mono (aG.same Y)) .nil))⟩
 | lst m=>
   obtain⟨a,B,rfl⟩:=D;obtain⟨l,A1,q,s⟩:=B0 e;obtain⟨rfl,b,f,hb,C,r⟩:=M8 rl (.ref B) q;cases hb;cases s;refine⟨rfl,?_⟩;rcases c:l[i]? with _ | v
   .exact⟨f,C,by rw[<-r.length];exact JQ.mp c⟩
   .obtain⟨u,d,k⟩:=r.get c;refine⟨⟨f,u,C,d⟩,λy I g=>?_⟩;obtain⟨w,o⟩:=g;subst w;have:=o f C;rw[d]at this;cases this;exact⟨aG.refl _ _,rl,k⟩
 | tup l=>
   obtain⟨a,L,B,r,rfl⟩:=D;cases e;refine⟨rfl,?_⟩;rcases c:l[i]? with _ | v
   .exact⟨L,cx.of B,by rw[<-r.length];exact JQ.mp c⟩
   .obtain⟨u,d,k⟩:=r.get c;refine⟨⟨L,u,cx.of B,d⟩,λy I g=>?_⟩;obtain⟨w,o⟩:=g;subst w;have:=o L (cx.of B);rw[d]at this;cases this;exact⟨aG.refl _ _,rl,k⟩
 | _=>
   obtain⟨a,B,rfl⟩:=D;obtain⟨l,A1,q,s⟩:=B0 e;obtain⟨rfl,b,f,hb,C,r⟩:=M8 rl (.ref B) q;cases hb;cases s;refine⟨rfl,?_⟩;rcases c:l[i]? with _ | v
   .exact⟨f,C,by rw[<-r.length];exact JQ.mp c⟩
   .obtain⟨u,d,k⟩:=r.get c;refine⟨⟨f,u,C,d⟩,λy I g=>?_⟩;obtain⟨y',p,E,h3,h4,h5⟩:=g;have E:=E f C;rw[d]at E;cases E;subst h4;subst h5;exact⟨aG.same h3,rl.tup h3,.tup C7 (.cons (.int _) (.cons (k.mono (aG.same h3)) .nil))⟩
theorem nS{J:It}{A A':PHp}{n:Nat}(h:q9 J A=.ok n A'):A'=A:=by
 have b:∀a,av (G2 a) (λl=>ret l.length) A=.ok n A'->A'=A:=λa h=>by
  obtain⟨l,f,c,e⟩:=B0 h;cases e;unfold G2 at c;rcases d:A[a]? with _ | o
  .rw[d]at c;cases c
  .cases o<;>rw[d]at c<;>cases c<;>rfl
 cases J with
 | lst m=>exact b m h
 | enm m=>exact b m h
 | enk k m=>exact b m h
 | zip x y=>
   cases x with
   | ref n=>
     exact b n h
   | tup l=>cases h;rfl
   | _=>cases h
 | _=>cases h;rfl
theorem gL{tg iter:Expr}{C:List Stmt}{it:ID}{g:GD}{b:SD}{pos:Pos}(hp:Qw (model X.prog X.w) X.A X.env X.xe)(hc:X.calm=true)(hi:L2.PI X tg iter (gK X.K cm it))(hg:Pg X cm tg g)(hb:ia X cm C b)
 (hs:∀x,foldedSetIterable iter X.env x=pure x:=by intro _;rfl):Ps X cm (.For tg iter C [] pos) (w5 it g b):=
 V6 (xJ hp hc hi hg hb hs) λD σ H hq=>by
  obtain⟨ρ,A,Q,f,A',rl,rs,ev,k⟩:=hq;obtain⟨J,A1,e1,a8⟩:=B0 ev;obtain⟨n,A2,e2,a9⟩:=B0 a8;obtain rfl:=nS e2;refine⟨ρ,A,Q,J,A2,rl,rs,e1,λE H1 j x1 b0 rj=>?_⟩;refine⟨λi m G T=>∃d B a,aG E H1 d T/\aQ X.K cm d B T/\bP d T a G/\turns J g b (m+1) i a B=.ok f A',⟨n,E,A2,Q,aG.refl _ _,b0,rs.mono x1,a9⟩,?_⟩;rintro i m G T ⟨d,B,a,x2,U,Y,a0⟩;rw[T4]at a0;obtain⟨x,B1,e3,a1⟩:=B0 a0;obtain⟨rfl,I⟩:=sL U (rj.mono x2) e3;cases x with
  | none=>
    cases a1;exact .inl ⟨I,k d T (x1.trans x2) U G Y⟩
  | some v=>
    refine .inr ⟨I.1,λa2 O=>∃e B3 c,aG E H1 e O/\aQ X.K cm e B3 O/\bP e O c a2/\turns J g b m (i+1) c B3=.ok f A',?_,λy O hy=>?_⟩
    .rintro a2 O ⟨e,B3,c,x3,L,b2,h⟩;cases m with
     | zero=>rw[rW]at h;cases h
     | succ m=>exact⟨m,JX _,e,B3,c,x3,L,b2,h⟩
    .obtain⟨x3,L,b3⟩:=I.2 y O hy;obtain⟨a3,B4,e4,h⟩:=B0 a1;obtain⟨o,B5,e5,p⟩:=B0 h;refine⟨d,B1,a,v,a3,B4,L,Y.mono x3,b3,e4,λc0 H4 h2 x4 c1 c2=>⟨c0,B4,a3,o,B5,c1,c2,e5,λq H5 x5 r=>?_⟩⟩;have s:=(((x2.trans x3).trans x4).trans x5);cases o with
     | nx z=>exact λN l=>⟨q,B5,z,s,r,l,p⟩
     | ct z=>exact λN l=>⟨q,B5,z,s,r,l,p⟩
     | bk z=>cases p;exact λN l=>k q H5 (x1.trans s) r N l
     | rt u=>cases p;exact λv' c3=>k q H5 (x1.trans s) r v' c3
theorem nT{c:Expr}{q:List Stmt}{t:TD}{b:SD}{pos:Pos}(hp:Qw (model X.prog X.w) X.A X.env X.xe)(hc:Pt X cm c t)(hb:ia X cm q b):Ps X cm (.While c q [] pos) (jH t b):=
 V6 (xB hp hc hb) λD σ H hq=>by
  obtain⟨N,A,O,f,Y,rl,rs,ev,k⟩:=hq;refine⟨λm s J=>∃e B a,aG N H e J/\aQ X.K cm e B J/\bP e J a s/\i5 t b m a B=.ok f Y,⟨LIM,N,A,O,aG.refl _ _,rl,rs,ev⟩,?_⟩;rintro m s J ⟨e,B,a,x1,Q,v,i⟩;cases m with
  | zero=>rw[zH]at i;cases i
  | succ m=>
    rw[rX]at i;obtain⟨x,B1,e1,C⟩:=B0 i;refine⟨e,B,a,x,B1,Q,v,e1,λE H2 L G=>?_⟩;cases x with
    | false=>
      cases C;exact k E H2 (x1.trans L) G s (v.mono L)
    | true=>
      obtain⟨o,T,e2,j⟩:=B0 C;refine⟨λI y=>∃d B3 r,aG N H d y/\aQ X.K cm d B3 y/\bP d y r I/\i5 t b m r B3=.ok f Y,λI y h=>⟨m,JX _,h⟩,E,B1,a,o,T,G,v.mono L,e2,λd y x3 l=>?_⟩;have n:=(x1.trans L).trans x3;cases o with
      | nx p=>exact λz g=>⟨d,T,p,n,l,g,j⟩
      | ct p=>exact λz g=>⟨d,T,p,n,l,g,j⟩
      | bk p=>cases j;exact λz g=>k d y n l z g
      | rt u=>cases j;exact λv' U=>k d y n l v' U
theorem nU{c iter:Expr}{t t':L2.TI}(h:L2.PI X c iter t)(k:∀a H R,t' a H R->t a H R):L2.PI X c iter t':=λb s a H R I q=>h b s a H R I (k a H R q)
theorem dc{l a:Expr}{d:ED}{p pos:Pos}(m:Gl X "range")(n:X.mg "range" = none)(o:Pe X cm a d)(hs:starEach [a] X.env=[(false,eval a X.env)]:=by rfl):L2.PI X l (.Call (.Name "range" p) [a] [] pos) (gK X.K cm (iRng1 d)):=
 nU (xF m n (af o ak hs) hs) λE H R q=>by
  obtain⟨r,A,e,J,G,rl,s,u,k⟩:=q;obtain⟨x,v,w,b⟩:=B0 u;refine⟨r,A,e,[x],v,rl,s,by show av _ _ A=_;rw[aA w];rfl,λf y z B g h=>?_⟩;cases x with
  | int i=>
    obtain⟨c,j⟩:=C5 b;cases j;cases h with
    | cons C D=>cases D;cases C;exact⟨i,rfl,c.1,c.2,k f y _ B g rfl⟩
  | _=>cases b
theorem Ao{w a b:Expr}{d e:ED}{p pos:Pos}(z:Gl X "range")(B:X.mg "range" = none)(C:Pe X cm a d)(D:Pe X cm b e)(hs:starEach [a,b] X.env=[(false,eval a X.env),(false,eval b X.env)]:=by rfl)(f:starEach [b] X.env=[(false,eval b X.env)]:=by rfl):L2.PI X w (.Call (.Name "range" p) [a,b] [] pos) (gK X.K cm (iRng2 d e)):=
 nU (xG z B (af C (af D ak f) (by rw[hs,f])) hs f) λσ H R E=>by
  obtain⟨G,A,h,J,A',rl,I,L,k⟩:=E;obtain⟨x,u,N,l⟩:=B0 L;obtain⟨y,v,O,g⟩:=B0 l;refine⟨G,A,h,[x,y],v,rl,I,by show av _ _ A=_;rw[aA N];show av (av _ _) _ u=_;rw[aA (show av _ _ u=.ok [y] v by rw[aA O];rfl)];rfl,λm Q T U n o=>?_⟩;cases x with
  | int i=>
    cases y with
    | int j=>
      obtain⟨c,q⟩:=C5 g;cases q;cases o with
      | cons Y hr=>
        cases hr with
        | cons r s=>cases s;cases Y;cases r;exact⟨i,j,rfl,⟨c.1.1,c.1.2,c.2.1,c.2.2⟩,k m Q _ U n rfl⟩
    | _=>cases g
  | _=>cases g
noncomputable def Ap(K:Iw)(d:TE):L2.TI:=λe H R=>d e H λx b=>(∃a,x=.ref a/\(∃c,bu K b a c)/\R (kC K a) b)\/(∃a,x=.ref a/\(∃c,cx K b a c)/\R (kD K a) b)
theorem Aq{r l:Expr}{k:TE}(u:PE X l k):L2.PI X r l (Ap X.K k):=by
 intro f s w H R I h;refine aL (u f s w H _ I h) λv d y=>?_;obtain⟨x,m,c,n,z⟩:=y;rcases z with⟨a,e,⟨A,g⟩,q⟩ | ⟨a,e,⟨A,g⟩,q⟩
 .subst e;cases n;obtain⟨i,B,p,C⟩:=c.list g;refine KY p.isList ?_;refine⟨d.heap.objs.size,[d.heap.objs.size],_,_,m,rfl,c.kept λb o e=>Iu _ e,qQ a _,⟨_,IG _ rfl,rfl,rfl⟩,λb j=>?_,q⟩;have e:b=d.heap.objs.size:=by simpa using j
  subst e;exact c.fpOk (IC _) (c.hok.fresh (IC _))
 .subst e;cases n;obtain⟨i,B,p,C⟩:=c.tuple g;refine Mo (show d.heap.IsTuple a _ from p) ?_;refine⟨d.heap.objs.size,[d.heap.objs.size],_,_,m,rfl,c.kept λb o e=>Iu _ e,qR a _,⟨_,IG _ rfl,rfl,rfl⟩,λb j=>?_,q⟩;have e:b=d.heap.objs.size:=by simpa using j
  subst e;exact c.fpOk (IC _) (c.hok.fresh (IC _))
theorem aU{o l:Expr}{d:ED}(p:Pe X cm l d):L2.PI X o l (gK X.K cm (V5 d)):=nU (Aq p) λE H R q=>by
 obtain⟨s,A,g,J,G,rl,u,v,k⟩:=q;obtain⟨x,w,y,b⟩:=B0 v;refine⟨s,A,g,x,w,rl,u,y,λf i I j c e=>?_⟩;cases x with
 | ref n=>
   obtain⟨l,L,z,h⟩:=B0 b;obtain⟨rfl,a,B,rfl,C,r⟩:=M8 c e z;cases h;cases e with
   | ref D=>exact .inl ⟨a,rfl,⟨B,C⟩,k f i _ j c ⟨a,D,rfl⟩⟩
 | tup l=>
   cases b;cases e with
   | tup m r=>exact .inr ⟨_,rfl,⟨_,cx.of m⟩,k f i _ j c ⟨_,_,m,r,rfl⟩⟩
 | _=>cases b
end
section
variable{ρ:List Addr}{H:Hp}
mutual
theorem RV.uniq:∀{x y:PV}{v:V},RV ρ H x v->RV ρ H y v->c6 x=true->c6 y=true->x=y
 | _,_,_,.non,h,_,_=>by cases h;rfl
 | _,_,_,.bl b,_,n,_=>by simp[c6]at n
 | _,_,_,.int i,h,_,_=>by cases h;rfl
 | _,_,_,.str z,h,_,_=>by cases h;rfl
 | _,_,_,.tup d e,h,f,c=>by
   cases h with
   | tup a g=>
     rw[d]at a;cases a;rw[RVs.uniq e g (by simpa[c6]using f) (by simpa[c6]using c)]
   | ref a=>simp[c6]at c
 | _,_,_,.ref _,_,n,_=>by simp[c6]at n
theorem RVs.uniq:∀{l m:List PV}{vs:List V},RVs ρ H l vs->RVs ρ H m vs->nices l=true->nices m=true->l=m
 | _,_,_,.nil,h,_,_=>by cases h;rfl
 | _,_,_,.cons c d,h,a,b=>by
   cases h with
   | cons e f=>
     simp only[nices,Jc]at a b;rw[RV.uniq c e a.1 b.1,RVs.uniq d f a.2 b.2]
end
end
theorem lh:∀{l m:List PV},l.length≠m.length->eqvs l m=false
 | [],[],h=>absurd rfl h
 | [],_::_,_=>rfl
 | _::_,[],_=>rfl
 | x::a,y::b,h=>by
   have:a.length≠b.length:=by simpa using h
   simp[eqvs,lh this]
theorem lj:∀{l m:List PV},l.length=m.length->eqvs l m=(Jj l.length).all λj=>bC (l.getD j .non) (m.getD j .non)
 | [],[],_=>rfl
 | [],_::_,h=>by simp at h
 | _::_,[],h=>by simp at h
 | x::a,y::b,h=>by
   have e:a.length=b.length:=by simpa using h
   rw[J2,MG,Ms,List.all_map];simp only[eqvs,lj e];rfl
theorem nV{l m:List PV}:eqvs l m=((Jj (min l.length m.length)).all (λj=>bC (l.getD j .non) (m.getD j .non))&&l.length == m.length):=by
 by_cases h:l.length=m.length
 .rw[lj h,h];simp
 .rw[lh h,beq_eq_false_iff_ne.mpr h,Q2]
section
variable{X:Cx}{pins:List (Addr×Obj)}{σ:L2.St}{H:Hp}{s:IA}{ρ:List Addr}{A:Jx}
open PySem.SeqAt
theorem lq{x y:PV}{a b:V}{u v:Iv}(d:RV ρ H x a)(f:RV ρ H y b)(i:i0 x=true)(j:i0 y=true)(g:L2.RelV a u)(h:L2.RelV b v):EqAt A s u v (bC x y):=by
 have c:=yT (A:=A) (s:=s) g h (by cases d<;>simp_all [kI]) (by cases f<;>simp_all [kI]);have e:mM a b=bC x y:=by
  cases d<;>cases f<;>simp_all [mM,bC]<;>(try (exact(MS _ _)))
 rw[<-e];exact c
theorem nW{f:PV->Bool}{l m:List PV}{a b:Addr}{vs ws:List V}(I:L2.Inv X pins σ H s)(C:H a=some (.tup vs))(n:H b=some (.tup ws))(o:RVs ρ H l vs)(p:RVs ρ H m ws)(q:l.all f=true)(D:m.all f=true)(r:∀x,f x=true->c6 x=true)(U:A.units<cLine)
 (ih:∀x y E G u v,RV ρ H x E->RV ρ H y G->f x=true->f y=true->L2.RelV E u->L2.RelV G v->EqAt A.in1 s u v (bC x y)) :
 (a≠b->RcAt A s (.ref a) (.ref b) (eqvs l m))/\RcAt A s (.ref a) (.ref b) (eqvs l m)/\EqAt A s (.ref a) (.ref b) (eqvs l m):=by
 obtain⟨_,g,w,Y⟩:=I.hok a _ C;obtain⟨_,c,d,z⟩:=I.hok b _ n;have B:RcAt A s (.ref a) (.ref b) (eqvs l m):=by
  have h:=RcAt.tuples (e:=λj=>bC (l.getD j .non) (m.getD j .non)) Y z U (λj J L=>by
   have l1:j<vs.length:=by rw[w.length];exact J
   have l2:j<ws.length:=by rw[d.length];exact L
   obtain⟨x,N,rx⟩:=o.get' (i:=j) (v:=vs[j]) (by simp);obtain⟨y,O,ry⟩:=p.get' (i:=j) (v:=ws[j]) (by simp);obtain⟨u,Q,ru⟩:=w.get (i:=j) (x:=vs[j]) (by simp);obtain⟨v,T,rv⟩:=d.get (i:=j) (x:=ws[j]) (by simp);have d1:l.getD j .non=x:=by rw[IW,N];rfl
   have d2:m.getD j .non=y:=by rw[IW,O];rfl
   have q1:g.toArray[j]=u:=by
    rw[IM J]at Q;simpa using Jo Q
   have q2:c.toArray[j]=v:=by
    rw[IM L]at T;simpa using Jo T
   rw[d1,d2,q1,q2];exact ih x y _ _ u v rx ry (Jg.mp q x (Jn N)) (Jg.mp D y (Jn O)) ru rv)
  rw[nV];have z1:g.toArray.size=l.length:=by rw[IP,<-w.length,o.length]
  have z2:c.toArray.size=m.length:=by rw[IP,<-d.length,p.length]
  rw[z1,z2]at h;exact h
 refine⟨λ_=>B,B,?_⟩;by_cases k:a=b
 .subst k;rw[C]at n;cases n;have e:=RVs.uniq o p (U9 r l q) (U9 r m D);subst e;rw[(eqvs_nice l l (U9 r l q)).mpr rfl];exact EqAt.same _
 .exact EqAt.of_refs k B
theorem P6{x y:PV}{o p:V}{u v:Iv}(I:L2.Inv X pins σ H s)(q:RV ρ H x o)(w:RV ρ H y p)(c:A.units<cLine)(d:L2.RelV o u)(e:L2.RelV p v)
 (h:(∃l,x=.tup l/\i0 y=true)\/(∃m,y=.tup m/\i0 x=true)):EqAt A s u v (bC x y)/\RcAt A s u v (bC x y)/\Mc A s u v (!bC x y):=by
 rcases h with⟨l,rfl,f⟩ | ⟨m,rfl,g⟩
 .cases q with
  | tup j r=>
    obtain⟨_,k,z,a⟩:=I.hok _ _ j;cases d;cases w with
    | non=>cases e;exact⟨EqAt.tuple_none a c,RcAt.tuple_none a c,Mc.tuple_none a c⟩
    | int i=>obtain⟨t,rfl⟩:=e;exact⟨EqAt.tuple_int _ _ a c,RcAt.tuple_int _ _ a c,Mc.tuple_int _ _ a c⟩
    | str i=>obtain⟨t,rfl⟩:=e;exact⟨EqAt.tuple_str _ _ a c,RcAt.tuple_str _ _ a c,Mc.tuple_str _ _ a c⟩
    | bl b=>simp at f
    | tup n B=>simp at f
    | ref n=>simp at f
 .cases w with
  | tup j r=>
    obtain⟨_,k,z,a⟩:=I.hok _ _ j;cases e;cases q with
    | non=>cases d;exact⟨EqAt.none_tuple a c,RcAt.none_tuple a c,Mc.none_tuple a c⟩
    | int i=>obtain⟨t,rfl⟩:=d;exact⟨EqAt.int_tuple _ _ a c,RcAt.int_tuple _ _ a c,Mc.int_tuple _ _ a c⟩
    | str i=>obtain⟨t,rfl⟩:=d;exact⟨EqAt.str_tuple _ _ a c,RcAt.str_tuple _ _ a c,Mc.str_tuple _ _ a c⟩
    | bl b=>simp at g
    | tup n B=>simp at g
    | ref n=>simp at g
theorem aR(A:Jx)(n:Nat)(h:A.units+(n+1)<cLine):A.in1.units+n<cLine:=by
 show _+1+n<cLine;omega
theorem Ar(I:L2.Inv X pins σ H s)(A:Jx)(w:A.units+1<cLine)(x y:PV)(e f:V)(u v:Iv)(a:RV ρ H x e)(b:RV ρ H y f)(g:iD x=true)(h:iD y=true)(c:L2.RelV e u)(d:L2.RelV f v):EqAt A s u v (bC x y):=by
 cases x with
 | tup l=>
   cases y with
   | tup m=>
     cases a with
     | tup i j=>
       cases b with
       | tup k n=>
         cases c;cases d;exact(nW I i k j n g h jI (by omega) (λx y e f u v a b o p q r=>lq a b o p q r)).2.2
   | _=>exact(P6 I a b (by omega) c d (.inl ⟨_,rfl,h⟩)).1
 | _=>
   cases y with
   | tup m=>exact(P6 I a b (by omega) c d (.inr ⟨_,rfl,g⟩)).1
   | _=>exact lq a b g h c d
theorem sM(I:L2.Inv X pins σ H s)(A:Jx)(w:A.units+2<cLine)(x y:PV)(c d:V)(u v:Iv)(a:RV ρ H x c)(b:RV ρ H y d)(g:i3 x=true)(h:i3 y=true)(e:L2.RelV c u)(f:L2.RelV d v):EqAt A s u v (bC x y):=by
 cases x with
 | tup l=>
   cases y with
   | tup m=>
     cases a with
     | tup i j=>
       cases b with
       | tup k n=>
         cases e;cases f;exact(nW I i k j n g h sg (by omega) (λx y c d u v a b o p q r=>Ar I _ (aR A 1 (by omega)) x y c d u v a b o p q r)).2.2
   | _=>exact(P6 I a b (by omega) e f (.inl ⟨_,rfl,h⟩)).1
 | _=>
   cases y with
   | tup m=>exact(P6 I a b (by omega) e f (.inr ⟨_,rfl,g⟩)).1
   | _=>exact lq a b g h e f
theorem nX(I:L2.Inv X pins σ H s)(A:Jx)(w:A.units+3<cLine)(x y:PV)(c d:V)(u v:Iv)(a:RV ρ H x c)(b:RV ρ H y d)(g:plain x=true)(h:plain y=true)(e:L2.RelV c u)(f:L2.RelV d v):EqAt A s u v (bC x y):=by
 cases x with
 | tup l=>
   cases y with
   | tup m=>
     cases a with
     | tup i j=>
       cases b with
       | tup k n=>
         cases e;cases f;exact(nW I i k j n g h sh (by omega) (λx y c d u v a b o p q r=>sM I _ (aR A 2 (by omega)) x y c d u v a b o p q r)).2.2
   | _=>exact(P6 I a b (by omega) e f (.inl ⟨_,rfl,h⟩)).1
 | _=>
   cases y with
   | tup m=>exact(P6 I a b (by omega) e f (.inr ⟨_,rfl,g⟩)).1
   | _=>exact lq a b g h e f
end
end Ws
namespace Ws
open PySem PySem.SeqAt L2
section
variable{X:Cx}{cm:Nat->Addr}{pins:List (Addr×Obj)}{σ:L2.St}{H:Hp}{s:IA}{ρ:List Addr}{A:Jx}
theorem sN{x y:PV}{f g:V}{u v:Iv}(h:RV ρ H x f)(b:RV ρ H y g)(k:i0 x=true)(c:i0 y=true)(d:L2.RelV f u)(a:L2.RelV g v):RcAt A s u v (bC x y)/\Mc A s u v (!bC x y):=by
 have l:∀(i j:Int),(i == j)=decide _:=λi j=>by rw[MS]
 have m:∀(i j:Str),(i == j)=decide _:=λi j=>by rw[MS]
 cases h with
 | non=>
   cases d;cases b with
   | non=>cases a;exact⟨RcAt.none_none,Mc.none_none⟩
   | int i=>obtain⟨t,rfl⟩:=a;exact⟨RcAt.none_int _ _,Mc.none_int _ _⟩
   | str i=>obtain⟨t,rfl⟩:=a;exact⟨RcAt.none_str _ _,Mc.none_str _ _⟩
   | _=>simp at c
 | int i=>
   obtain⟨t,rfl⟩:=d;cases b with
   | non=>cases a;exact⟨RcAt.int_none _ _,Mc.int_none _ _⟩
   | int j=>obtain⟨e,rfl⟩:=a;exact⟨RcAt.int_int _ _ _ _,Mc.int_int _ _ _ _⟩
   | str j=>obtain⟨e,rfl⟩:=a;exact⟨RcAt.int_str _ _ _ _,Mc.int_str _ _ _ _⟩
   | _=>simp at c
 | str i=>
   obtain⟨t,rfl⟩:=d;cases b with
   | non=>cases a;exact⟨RcAt.str_none _ _,Mc.str_none _ _⟩
   | int j=>obtain⟨e,rfl⟩:=a;exact⟨RcAt.str_int _ _ _ _,Mc.str_int _ _ _ _⟩
   | str j=>obtain⟨e,rfl⟩:=a;exact⟨RcAt.str_str _ _ _ _,Mc.str_str _ _ _ _⟩
   | _=>simp at c
 | _=>simp at k
theorem nY{f:PV->Bool}{l m:List PV}{vs ws:List V}{b a:List Iv}(r:RVs ρ H l vs)(w:RVs ρ H m ws)(g:aH vs b)(c:aH ws a)(z:l.all f=true)(B:m.all f=true)
 (ih:∀x y h k u v,RV ρ H x h->RV ρ H y k->f x=true->f y=true->L2.RelV h u->L2.RelV k v->EqAt A s u v (bC x y)) :
 ∀j (d:j<b.toArray.size) (e:j<a.toArray.size),EqAt A s b.toArray[j] a.toArray[j] (bC (l.getD j .non) (m.getD j .non)):=λj d e=>by
 have O:j<vs.length:=by rw[g.length];exact d
 have l2:j<ws.length:=by rw[c.length];exact e
 obtain⟨x,n,C⟩:=r.get' (i:=j) (v:=vs[j]) (by simp);obtain⟨y,o,D⟩:=w.get' (i:=j) (v:=ws[j]) (by simp);obtain⟨u,p,E⟩:=g.get (i:=j) (x:=vs[j]) (by simp);obtain⟨v,q,G⟩:=c.get (i:=j) (x:=ws[j]) (by simp);have I:l.getD j .non=x:=by rw[IW,n];rfl
 have J:m.getD j .non=y:=by rw[IW,o];rfl
 have L:b.toArray[j]=u:=by
  rw[IM d]at p;simpa using Jo p
 have N:a.toArray[j]=v:=by
  rw[IM e]at q;simpa using Jo q
 rw[I,J,L,N];exact ih x y _ _ u v C D (Jg.mp z x (Jn n)) (Jg.mp B y (Jn o)) E G
noncomputable def iH(K:Iw)(g:Bool->Bool):R2:=λd e H Q=>∃(ρ:List Addr),
 (∃x y,RV ρ H x d/\RV ρ H y e/\plain x=true/\plain y=true/\Q (.bl (g (bC x y))) H)\/(∃b c,d=.bl b/\e=.bl c/\Q (.bl (g (b == c))) H)\/
 (∃a b l m f h,d=.ref a/\e=.ref b/\bu K H a f/\bu K H b h/\RVs ρ H l f/\RVs ρ H m h/\H9 l=true/\H9 m=true/\Q (.bl (g (eqvs l m))) H)
theorem sO(hr:X.A.units+64<cLine){r w:V}{u v:Iv}{Q:VK}{g:Bool->Bool}(I:L2.Inv X pins σ H s)(n:L2.RelV r u)(o:L2.RelV w v)(h:iH X.K g r w H Q):∃b,RcAt X.A s u v b/\Mc X.A s u v (!b)/\Q (.bl (g b)) H:=by
 obtain⟨ρ,h⟩:=h;rcases h with⟨x,y,f,i,O,T,q⟩ | ⟨b,c,rfl,rfl,q⟩ | ⟨a,b,l,m,xs,ys,rfl,rfl,z,B,G,J,p1,p2,q⟩
 .refine⟨bC x y,?_,?_,q⟩<;>
  (cases x with
  | tup l=>
    cases y with
    | tup m=>
      cases f with
      | tup ha G=>
        cases i with
        | tup hb J=>
          cases n;cases o;obtain⟨_,C,L,D⟩:=I.hok _ _ ha;obtain⟨_,k,j,e⟩:=I.hok _ _ hb;have p:C.toArray.size=l.length:=by rw[IP,<-L.length,G.length]
          have E:k.toArray.size=m.length:=by rw[IP,<-j.length,J.length]
          have N:=nY G J L j (show l.all i3=true from O) (show m.all i3=true from T) (λx y r w u v f i z B U Y=>sM I _ (aR X.A 2 (by omega)) x y r w u v f i z B U Y);first
           | (have h:=RcAt.tuples D e (by omega) N
              rw[p,E,<-nV]at h;exact h)
           | (have h:=Mc.tuples D e (by omega) N
              rw[p,E,<-nV]at h;exact h)
    | _=>first | exact(P6 I f i (by omega) n o (.inl ⟨_,rfl,T⟩)).2.1 | exact(P6 I f i (by omega) n o (.inl ⟨_,rfl,T⟩)).2.2
  | _=>
    cases y with
    | tup m=>first | exact(P6 I f i (by omega) n o (.inr ⟨_,rfl,O⟩)).2.1 | exact(P6 I f i (by omega) n o (.inr ⟨_,rfl,O⟩)).2.2
    | _=>first | exact(sN f i O T n o).1 | exact(sN f i O T n o).2)
 .cases n;cases o;exact⟨b == c,RcAt.bool_bool _ _,Mc.bool_bool _ _,q⟩
 .cases n;cases o;obtain⟨C,L,D,_⟩:=I.list z;obtain⟨k,j,e,_⟩:=I.list B;have p:C.toArray.size=l.length:=by rw[IP,<-L.length,G.length]
  have E:k.toArray.size=m.length:=by rw[IP,<-j.length,J.length]
  refine⟨eqvs l m,?_,?_,q⟩
  .by_cases d:l.length=m.length
   .have N:=nY G J L j p1 p2 (λx y r w u v f i z B U Y=>nX I _ (aR X.A 3 (by omega)) x y r w u v f i z B U Y);have h:=RcAt.lists D.isList e.isList (by rw[p,E,d]) (by omega) N;rw[p,<-lj d]at h;exact h
   .rw[lh d];exact RcAt.lists_lengths D.isList e.isList (by rw[p,E];exact bne_iff_ne.mpr d) (by omega)
  .by_cases d:l.length=m.length
   .have N:=nY G J L j p1 p2 (λx y r w u v f i z B U Y=>nX I _ (aR X.A 3 (by omega)) x y r w u v f i z B U Y);have h:=Mc.lists D.isList e.isList (by rw[p,E,d]) (by omega) N;rw[p,<-lj d]at h;exact h
   .rw[lh d];exact Mc.lists_lengths D.isList e.isList (by rw[p,E];exact bne_iff_ne.mpr d) (by omega)
theorem O7(a:X.A.units+64<cLine):bO X (compareOp .Eq) (iH X.K id):=by
 intro pins s σ H x y v u Q I c d q;obtain⟨b,e,_,f⟩:=sO a I c d q;exact e _ _ _ _ ⟨.bl b,H,I,rfl,f⟩
theorem X0(a:X.A.units+64<cLine):bO X (compareOp .NotEq) (iH X.K not):=by
 intro pins s σ H x y v u Q I c d q;obtain⟨b,_,e,f⟩:=sO a I c d q;exact e _ _ _ _ ⟨.bl _,H,I,rfl,f⟩
theorem lr{x y:PV}{B i:PHp}{b:Bool}{j o:V}{Q:VK}{g:Bool->Bool}(rl:aQ X.K cm ρ B H)(d:RV ρ H x j)(e:RV ρ H y o)(h:jE x y B=.ok b i)(q:Q (.bl (g b)) H):i=B/\iH X.K g j o H Q:=by
 have f:∀x y,RV ρ H x j->RV ρ H y o->E3 (rS x y=true\/(plain x=true/\plain y=true)) (ret (bC x y)) B=.ok b i->i=B/\iH X.K g j o H Q:=λx y d e h=>by
  obtain⟨c,h⟩:=C5 h;cases h;refine⟨rfl,ρ,?_⟩;rcases c with c | c
  .cases x with
   | bl u=>
     cases y with
     | bl v=>cases d;cases e;exact .inr (.inl ⟨u,v,rfl,rfl,q⟩)
     | _=>simp at c
   | _=>simp at c
  .exact .inl ⟨x,y,d,e,c.1,c.2,q⟩
 cases x with
 | ref n=>
   cases y with
   | ref k=>
     obtain⟨l,O,w,z⟩:=B0 h;obtain⟨rfl,a,C,rfl,D,r⟩:=M8 rl d w;obtain⟨m,T,E,G⟩:=B0 z;obtain⟨rfl,I,J,rfl,p,L⟩:=M8 rl e E;obtain⟨c,N⟩:=C5 G;cases N;exact⟨rfl,ρ,.inr (.inr ⟨a,I,l,m,C,J,rfl,rfl,D,p,r,L,c.1,c.2,q⟩)⟩
   | _=>exact f _ _ d e h
 | _=>cases y<;>exact f _ _ d e h
theorem V0:S7 X.K cm cO (iH X.K id):=λρ B H x y z i j l Q rl c d f k=>by
 obtain⟨b,m,e,a⟩:=B0 f;cases a;have h:=(lr (g:=id) (Q:=λ_ _=>True) rl c d e trivial).1;subst h;exact(lr rl c d e (k ρ H _ (aG.refl _ _) rl (.bl b))).2
theorem j5:S7 X.K cm dH (iH X.K not):=λρ B H x y z i j l Q rl c d f k=>by
 obtain⟨b,m,e,a⟩:=B0 f;cases a;have h:=(lr (g:=not) (Q:=λ_ _=>True) rl c d e trivial).1;subst h;exact(lr rl c d e (k ρ H _ (aG.refl _ _) rl (.bl _))).2
noncomputable def lu(K:Iw)(b:Bool):R2:=λd e H Q=>∃(ρ:List Addr)(x:PV)(a:Addr)(l:List PV)(c:List V),RV ρ H x d/\e=.ref a/\(bu K H a c\/cx K H a c)/\RVs ρ H l c/\plain x=true/\H9 l=true/\Q (.bl (if b then !eE x l else eE x l)) H
noncomputable def nZ(ρ:List Addr)(H:Hp)(x:PV)(u:Iv):Bool:=@decide (∃y a,L2.RelV a u/\RV ρ H y a/\plain y=true/\bC y x=true) (Lr _)
theorem sP{x y:PV}{a:V}{u:Iv}(b:L2.RelV a u)(c:RV ρ H y a)(d:plain y=true):nZ ρ H x u=bC y x:=by
 cases e:bC y x with
 | true=>exact@decide_eq_true _ (Lr _) ⟨y,a,b,c,d,e⟩
 | false=>
   refine@decide_eq_false _ (Lr _) λg=>?_;obtain⟨z,k,h,i,j,f⟩:=g;have:=h.inj b;subst this;have:=RV.uniq i c (c9 _ j) (c9 _ d);subst this;rw[e]at f;cases f
theorem j6{x:PV}:∀{l:List PV}{b:List V}{c:List Iv},RVs ρ H l b->aH b c->H9 l=true->c.any (nZ ρ H x)=eE x l
 | _,_,_,.nil,.nil,_=>rfl
 | _,_,_,.cons h r,.cons d e,p=>by
   have a:=p;unfold H9 at a;rw[Ms,Jc]at a;rw[LP,sP d h a.1,j6 r e a.2];rfl
theorem j7{x:PV}{d:V}{v:Iv}(I:L2.Inv X pins σ H s)(A:Jx)(b:A.units+3<cLine)(e:RV ρ H x d)(f:plain x=true)(g:L2.RelV d v):∀{l:List PV}{i:List V}{j:List Iv},RVs ρ H l i->aH i j->H9 l=true->∀u∈j,EqAt A s u v (nZ ρ H x u)
 | _,_,_,.nil,.nil,_=>λu b=>by cases b
 | _,_,_,.cons h r,.cons k m,p=>λu c=>by
   have a:=p;unfold H9 at a;rw[Ms,Jc]at a;rcases IH.mp c with rfl | c
   .rw[sP k h a.1];exact nX I A b _ _ _ _ _ _ h e a.1 f k g
   .exact j7 I A b e f g r m a.2 u c
theorem j8(o:X.A.units+64<cLine):bO X (compareOp .In) (lu X.K false):=by
 intro pins s σ H x y v u Q I i m h;obtain⟨ρ,z,a,l,p,j,rfl,b,r,k,d,q⟩:=h;cases m;rcases b with b | b
 .obtain⟨e,c,f,n⟩:=I.list b;refine in_listAt _ f.isList (λw g=>j7 I _ (aR X.A 3 (by omega)) j k i r c d w (by simpa using g)) ⟨.bl _,H,I,rfl,?_⟩;rw[Nc,j6 r c d];exact q
 .obtain⟨e,c,f,n⟩:=I.tuple b;refine in_tupleAt _ f (λw g=>j7 I _ (aR X.A 3 (by omega)) j k i r c d w (by simpa using g)) ⟨.bl _,H,I,rfl,?_⟩;rw[Nc,j6 r c d];exact q
theorem T7(o:X.A.units+64<cLine):bO X (compareOp .NotIn) (lu X.K true):=by
 intro pins s σ H x y v u Q I i m h;obtain⟨ρ,z,a,l,p,j,rfl,b,r,k,d,q⟩:=h;cases m;rcases b with b | b
 .obtain⟨e,c,f,n⟩:=I.list b;refine notIn_listAt _ f.isList (λw g=>j7 I _ (aR X.A 3 (by omega)) j k i r c d w (by simpa using g)) ⟨.bl _,H,I,rfl,?_⟩;rw[Nc,j6 r c d];exact q
 .obtain⟨e,c,f,n⟩:=I.tuple b;refine notIn_tupleAt _ f (λw g=>j7 I _ (aR X.A 3 (by omega)) j k i r c d w (by simpa using g)) ⟨.bl _,H,I,rfl,?_⟩;rw[Nc,j6 r c d];exact q
theorem ie:S7 X.K cm eF (lu X.K false):=λρ B H x y z m n o Q rl e f g k=>by
 obtain⟨l,p,h,b⟩:=B0 g;obtain⟨rfl,a,i,rfl,j,r⟩:=i8 rl f h;obtain⟨c,d⟩:=C5 b;cases d;exact⟨ρ,x,a,l,i,e,rfl,j,r,c.1,c.2,k ρ H _ (aG.refl _ _) rl (.bl _)⟩
theorem X1:S7 X.K cm R3 (lu X.K true):=λρ B H x y z m n o Q rl e f g k=>by
 obtain⟨l,p,h,b⟩:=B0 g;obtain⟨rfl,a,i,rfl,j,r⟩:=i8 rl f h;obtain⟨c,d⟩:=C5 b;cases d;exact⟨ρ,x,a,l,i,e,rfl,j,r,c.1,c.2,k ρ H _ (aG.refl _ _) rl (.bl _)⟩
noncomputable def jO:Ty->String
 | .int=>"int"
 | .bool=>"bool"
 | .tuple=>"tuple"
 | .list=>"list"
structure lx(K:Iw):Prop where
 t (a b:String) (ha:a∈["NoneType","bool","int","str","list","tuple"]) (hb:b∈["int","bool","tuple","list"]):PySem.W.kitOne K (.type a) (.type b)=some (a == b||(a == "bool"&&b == "int"))
noncomputable def As(K:Iw)(t:Ty):List V->Hp->VK->Prop:=λb H Q=>∃v a,b=[v,.ty (jO t)]/\a∈["NoneType","bool","int","str","list","tuple"]/\fb K H v (.type a)/\Q (.bl (a == jO t||(a == "bool"&&jO t == "int"))) H
theorem Au(a:lx X.K)(t:Ty):bg X (.builtin "isinstance") (As X.K t):=by
 intro pins s σ H i j Q I r h;obtain⟨v,d,rfl,e,b,q⟩:=h;obtain⟨u,w,rfl,f,c⟩:=qZ r;cases c;exact yk I f b (a.t d _ e (by cases t<;>simp[jO])) λg=>⟨.bl _,H,I.tok g,rfl,q⟩
theorem jm{e:Expr}{d:ED}{t:Ty}{j:Str}{p m pos:Pos}(w:lx X.K)(he:Pe X cm e d)(N:Gl X "isinstance")(O:X.mg "isinstance" = none)(y:Gl X j)(B:X.mg j=none)(C:bootBuiltins j=some (.type (jO t)))
 (hs:starEach [e,.Name j m] X.env=(false,eval e X.env)::starEach [.Name j m] X.env:=by exact E9 rfl) (D:starEach [Expr.Name j m] X.env=(false,eval (.Name j m) X.env)::starEach [] X.env:=by exact E9 rfl) (T:(backTo pos (starEach [Expr.Name j m] X.env)).any (·.1)=false:=by rfl)
 (L:j≠"__name__":=by decide) (E:(j == ("__debug__" : Str))=false:=by decide) :
 Pe X cm (.Call (.Name "isinstance" p) [e,.Name j m] [] pos) (hX d t):=
 E1 (Z4 (Au w t) N O PyProof.Rows.boot_isinstance (mG he (mG (wI (v:=.ty _) y B C rfl L E) rf D) hs) (he:=hs)) λσ H Q U=>by
  obtain⟨ρ,A,G,v,A',rl,Y,ev,k⟩:=U;obtain⟨x,A1,e1,I⟩:=B0 ev;obtain⟨b,A2,o,J⟩:=B0 I;cases J;refine⟨ρ,A,G,x,A1,rl,Y,e1,λg q v1 u f h=>?_⟩;cases x with
  | non=>cases h;cases t<;>cases o<;>exact⟨_,"NoneType",rfl,by simp,.non,k g q _ u f (.bl _)⟩
  | bl c=>cases h;cases t<;>cases o<;>exact⟨_,"bool",rfl,by simp,.bl c,k g q _ u f (.bl _)⟩
  | int i=>cases h;cases t<;>cases o<;>exact⟨_,"int",rfl,by simp,.int i,k g q _ u f (.bl _)⟩
  | str z=>cases h;cases t<;>cases o<;>exact⟨_,"str",rfl,by simp,.str z,k g q _ u f (.bl _)⟩
  | tup l=>
    cases h with
    | tup ha r=>cases t<;>cases o<;>exact⟨_,"tuple",rfl,by simp,.tup ha,k g q _ u f (.bl _)⟩
  | ref n=>
    cases t<;>
    (obtain⟨l,A3,e3,e4⟩:=B0 o
     obtain⟨rfl,hA,a,xs,rfl,L,hH,r⟩:=N5 f h e3;cases e4;exact⟨_,"list",rfl,by simp,.lst hH,k g q _ u f (.bl _)⟩)
end
end Ws
namespace Ws
open PySem L2
theorem sQ{X:Cx}{a:List (Addr×Obj)}{σ:L2.St}{H:Hp}{s:IA}{h':Heap}{t':Nat}{fp:List Addr}{T:Addr}{o:HO}(I:L2.Inv X a σ H s)(i:∀b∈fp,o0 X a H b)
 (k:∀b u,b∉fp->s.heap.get? b=some u->h'.get? b=some u) (j:s.heap.objs.size<=T) (new:aK X.prog X.w (aI H T o) h' T o):L2.Inv X a σ (aI H T o) { s with heap:=h',toks:=t' }:=by
 have f:=I.hok.fresh j;have neT:∀b u,s.heap.get? b=some u->b≠T:=λb u e=>IL (IZ (II e) j);have g:∀b u,H b=some u->b∉fp:=λb u e z=>by rw[(i b z).1]at e;cases e
 refine I.step (λb h=>?_) (λb u _ _ d e _=>k b u d e) (λb u _ _ d e _=>⟨u.slots,k b u d e⟩) (λb u d e n=>by rw[aq (neT b u e)];exact n) (λb u d e=>⟨u,k b u d e⟩)
  (λb x e=>by rw[aq (G5 e f)];exact e) (λb u x e=>by rw[aq (G5 e f)];exact e) (λb N e=>⟨#[],by rw[aq (G5 e f),e];simp⟩) (λm A=>?_) (λb u e=>?_) I.bare
 .obtain⟨_,B,_,C,D,E⟩:=i b h;exact⟨C,B,D,E⟩
 .obtain⟨y,G,J,L,r⟩:=A;exact⟨y,G,J,k _ y (λz=>(i _ z).2.1 rfl) L,r⟩
 .by_cases h:b=T
  .subst h;rw[C7]at e;cases e;exact new
  .rw[aq h]at e;refine(I.hok b u e).stay (λc v d q=>k c v ?_ q) (λc q=>by rw[aq (G5 q f)];exact q) λc x q=>by rw[aq (G5 q f)];exact q
   rcases d with rfl | d
   .exact g c u e
   .exact g c _ d
theorem sR{X:Cx}{a:List (Addr×Obj)}{σ:L2.St}{H:Hp}{s:IA}{h':Heap}{t':Nat}{fp:List Addr}(I:L2.Inv X a σ H s)(g:∀b∈fp,o0 X a H b)
 (k:∀b u,b∉fp->s.heap.get? b=some u->h'.get? b=some u):L2.Inv X a σ H { s with heap:=h',toks:=t' }:=by
 have f:∀b u,H b=some u->b∉fp:=λb u e z=>by rw[(g b z).1]at e;cases e
 refine I.step (λb o=>?_) (λb u _ _ d e _=>k b u d e) (λb u _ _ d e _=>⟨u.slots,k b u d e⟩) (λb u d e n=>n) (λb u d e=>⟨u,k b u d e⟩)
  (λb j e=>e) (λb u j e=>e) (λb E e=>⟨#[],by rw[e];simp⟩) (λm p=>?_) (λb u e=>?_) I.bare
 .obtain⟨_,w,_,x,y,A⟩:=g b o;exact⟨x,w,y,A⟩
 .obtain⟨l,B,C,D,r⟩:=p;exact⟨l,B,C,k _ l (λz=>(g _ z).2.1 rfl) D,r⟩
 .refine(I.hok b u e).stay (λc v d q=>k c v ?_ q) (λc q=>q) λc j q=>q;rcases d with rfl | d
  .exact f c u e
  .exact f c _ d
theorem Av{P:IV}{w:JB}{K:Iw}{elts:List Expr}{x1:Nat}{pos:Pos}(a e it:Addr)(hei:e≠it):iy P w K (.Tuple elts x1 pos) (nP K a) [e,it] e (λi h=>(∃old,IsEnum h e it i old)/\h.IsListIter it a i) where
 mem:=by simp
 obj:=λi h st b hb=>by
  obtain⟨⟨old,he⟩,o,e1,c,d⟩:=st;rcases IH.mp hb with rfl | hb
  .exact⟨_,he,λv z=>by cases z⟩
  .have e2:b=it:=by simpa using hb
   subst e2;exact⟨o,e1,λv z=>by rw[d]at z;cases z⟩
 keep:=λi h h' st k=>by
  obtain⟨⟨old,he⟩,hit⟩:=st;exact⟨⟨old,k e (by simp) _ he⟩,hit.at λo x=>k it (by simp) o x⟩
 item:=by
  intro X hP hw hK hc i pins s σ H E I hf st hg;subst hP hw hK;obtain⟨xs,x,hq,hx⟩:=hg;obtain⟨its,rv,p,hz⟩:=I.list hq;obtain⟨u,hu,ru⟩:=rv.get hx;obtain⟨⟨old,he⟩,hit⟩:=st;have el:=II he;refine wpAny_pyNext_enum_item he hit p.isList (by simpa using hu) hei λh' ho hit' hT hsz hk=>?_;refine⟨.ref _,rfl,wpAny_letOwnedTupleGo_enum ho λh2 he2 hs2=>?_⟩;have sb:∀b u,b≠e->h'.get? b=some u->h2.get? b=some u:=λb u hb q=>(hs2.2 b hb).trans q;have hTe:=KS el;have I2:L2.Inv X pins σ (aI H s.heap.objs.size (.tup [.int i,x])) { s with heap:=h2,toks:=s.toks+1 }:=by
   refine sQ I hf (λb u hb q=>?_) (IC _) ?_
   .have h1:b≠e:=λz=>hb (by simp[z]);have h2:b≠it:=λz=>hb (by simp[z]);exact sb b u h1 (hk b u h1 h2 q)
   .exact⟨by show 2<=sizeLine;decide,[.int i _,u],.cons ⟨_,rfl⟩ (.cons ru .nil),_,sb _ _ hTe hT,rfl,_,rfl⟩
  refine⟨.ref _,aI H _ _,I2,rfl,⟨x,_,λys hy=>by rw[I.list_inj hy hq];exact hx,I.hok.fresh (IC _),rfl,rfl⟩,⟨⟨u,by exact_mod_cast he2⟩,hit'.at λo y=>sb it o hei.symm y⟩,λb hb=>?_⟩
  .rw[aq]
   .exact(hf b hb).1
   .rcases IH.mp hb with rfl | hb
    .exact hTe.symm
    .have e2:b=it:=by simpa using hb
     subst e2;obtain⟨_,y,_⟩:=hit;exact IL (II y)
 done:=by
  intro X hP hw hK hc i pins s σ H E I hf st hg;subst hP hw hK;obtain⟨xs,hq,hx⟩:=hg;obtain⟨its,rv,p,hz⟩:=I.list hq;obtain⟨⟨old,he⟩,hit⟩:=st;have hl:=rv.length;exact wpAny_pyNext_enum_end (I.ok.hd hc) he hit p.isList (by simp;omega) λh' eb=>⟨rfl,sR I hf λb u hb q=>eb b u (λz=>hb (by simp[z])) q⟩
 self:=λ_ _ _ _ _ st h=>by
  obtain⟨⟨old,he⟩,_⟩:=st;exact wpAny_pyIter_enum he h
section
variable{X:Cx}{cm:Nat->Addr}
theorem sS{l:Expr}{d:ED}{f:List Expr}{z:Nat}{g p pos:Pos}(U:Gl X "enumerate")(Y:X.mg "enumerate" = none)(hl:Pe X cm l d)(hs:starEach [l] X.env=(false,eval l X.env)::starEach [] X.env:=by exact E9 rfl):L2.PI X (.Tuple f z g) (.Call (.Name "enumerate" p) [l] [] pos) (gK X.K cm (kR d)):=by
 intro i s σ H R I h;obtain⟨ρ,A,B,J,A',rl,rs,ev,k⟩:=h;obtain⟨x,A1,e1,j⟩:=B0 ev;refine PyProof.Rows.Call_ (V4 I U Y PyProof.Rows.boot_enumerate (L1 (aL ((af hl ak hs) pos i s σ H (λO c=>∃a w,O=[.ref a]/\bu X.K c a w/\R (nP X.K a) c) I ⟨ρ,A,B,[x],A1,rl,rs,by show av _ _ A=_;rw[aA e1];rfl,λC c a7 z o D=>?_⟩) λus e zq=>?_) hs rfl))
 .cases x with
  | ref n=>
    obtain⟨m,A2,e2,E⟩:=B0 j;cases D with
    | cons Q hr=>
      cases hr;obtain⟨rfl,a,w,rfl,G,r⟩:=M8 o Q e2;cases E;cases Q with
      | ref hn=>exact⟨a,w,rfl,G,k C c _ z o ⟨a,hn,rfl⟩⟩
  | _=>cases j
 .obtain⟨O,c,y,r1,q1⟩:=zq;obtain⟨a,w,rfl,G,q⟩:=q1;obtain⟨u,rfl,rx⟩:=o6 r1;cases rx;obtain⟨c0,rv,pl,hz⟩:=y.list G;refine call_enumerate_list pl.isList λh' T L c2 kp=>?_;refine wpAny_pyIter_enum T ?_;have I2:=y.kept (t':=e.toks) kp;refine⟨e.heap.objs.size+1,[e.heap.objs.size+1,e.heap.objs.size],_,_,c,rfl,I2,Av a _ _ (Nat.succ_ne_self _),⟨⟨_,T⟩,L⟩,λb N=>?_,q⟩;have v:e.heap.objs.size<=b:=by
   rcases IH.mp N with rfl | N
   .simp
   .have:b=e.heap.objs.size:=by simpa using N
    exact Pl this.symm
  exact y.fpOk v (y.hok.fresh v)
end
structure cj(P:IV)(w:JB)(K:Iw)(mg:Str->Option Iv)(base:Heap)(cm:Nat->Addr)(x:Str)(k:Nat)(ps:List Str)(f:Fun)(n:Nat):Prop where
 ex:∃(fa:Addr)(fd:IY),aE P w K mg base aW k fa fd ps (ba K cm f n)/\mg x=some (.ref fa)/\KU K (.ref fa)=true/\L2.Binds K fd ps []
 len:∀vs A v A',f vs A=.ok v A'->vs.length=n
structure f9(P:IV)(w:JB)(K:Iw)(mg:Str->Option Iv)(base:Heap)(cm:Nat->Addr)(c:Nat)(m:Str)(k:Nat)(ps:List Str)(f:Fun)(n:Nat):Prop where
 ex:∃(fa:Addr)(fd:IY),aE P w K mg base aW k fa fd ps (ba K cm f n)/\hJ K (cm c) m fa/\L2.Binds K fd ps []
 len:∀vs A v A',f vs A=.ok v A'->vs.length=n
structure jP(P:IV)(w:JB)(K:Iw)(mg:Str->Option Iv)(base:Heap)(cm:Nat->Addr)(c:Nat)(x:Str)(k:Nat)(ps:List Str)(f:Fun)(n:Nat):Prop where
 ex:∃(fa:Addr)(fd:IY),aE P w K mg base aW k fa fd ps (ba K cm f n)/\L2.Mk K (cm c) fa/\mg x=some (.ref (cm c))/\L2.Binds K fd ps []
 len:∀vs A v A',f vs A=.ok v A'->vs.length=n/\v=.non
section
variable{X:Cx}{cm:Nat->Addr}
theorem az{f:Fun}{n k d:Nat}{ps:List Str}{x:Str}{e:Expr}{es:List Expr}{g:AD}{p pos:Pos}(D:cj X.prog X.w X.K X.mg X.base cm x k ps f n)(h:k<=d)(i:aM d X.A)(j:Gl X x)
 (l:Pa X cm (e::es) g) (a:(x == ("__debug__" : Str))=false:=by decide) (he:starEach (e::es) X.env=(false,eval e X.env)::starEach es X.env:=by exact E9 rfl) (b:(backTo pos (starEach es X.env)).any (·.1)=false:=by rfl) :
 Pe X cm (.Call (.Name x p) (e::es) [] pos) (G3 f g):=by
 obtain⟨q,r,F,m,c,o⟩:=D.ex;exact Ai F D.len (i.mono h) j m c o l a he b
theorem aZ{c:Nat}{f:Fun}{n k j:Nat}{ps:List Str}{m:Str}{o e:Expr}{es:List Expr}{d:ED}{l:AD}{a pos:Pos}{p:Sem Bool}(D:f9 X.prog X.w X.K X.mg X.base cm c m k ps f n)(q:k<=j)(r:aM j X.A)(s:dS X.K (cm c))(u:Pe X cm o d)(v:Pa X cm (e::es) l)(b:∀i,i<19->cy i≠m)
 (g:starEach (e::es) X.env=(false,eval e X.env)::starEach es X.env:=by exact E9 rfl) (h:(backTo pos (starEach es X.env)).any (·.1)=false:=by rfl)
 (x:eval (.Call (.Attribute o m a) (e::es) [] pos) X.env=(do
  let ov <-eval o X.env
  standAt a.atName
  let(f,first) <-holding [ov] (getMethod ov m p)
  callWith pos f first (backTo pos (starEach (e::es) X.env)) (backToKw pos (keywordEach [] X.env))):=by rfl) :
 Pe X cm (.Call (.Attribute o m a) (e::es) [] pos) (O2 c f d l):=by
 obtain⟨B,C,F,y,z⟩:=D.ex;exact Aj u s y F D.len b (r.mono q) z v g h x
theorem n2{c:Nat}{f:Fun}{n k d:Nat}{ps:List Str}{x:Str}{e:Expr}{es:List Expr}{g:AD}{p pos:Pos}(D:jP X.prog X.w X.K X.mg X.base cm c x k ps f n)(h:k+1<=d)(i:aM d X.A)
 (j:Gl X x) (l:Pa X cm (e::es) g) (a:(x == ("__debug__" : Str))=false:=by decide) (he:starEach (e::es) X.env=(false,eval e X.env)::starEach es X.env:=by exact E9 rfl) (b:(backTo pos (starEach es X.env)).any (·.1)=false:=by rfl) (m:c<7:=by decide) :
 Pe X cm (.Call (.Name x p) (e::es) [] pos) (iE c f g):=by
 obtain⟨s,u,F,o,q,r⟩:=D.ex;exact Al m o F D.len (i.mono h) j q r l a he b
theorem sT{x:Str}{i:Int}{pos:Pos}(b:Gl X x)(a:∃t,X.mg x=some (.int i t))(c:(x == ("__debug__" : Str))=false:=by decide):Pe X cm (.Name x pos) (eK (.int i)):=by
 obtain⟨t,a⟩:=a;exact jh (qK b a (show L2.RelV (.int i) _ from⟨t,rfl⟩) c) λ_ _=>.int i
end
structure L4(K:Iw)(mg:Str->Option Iv)(cm:Nat->Addr):Prop where
 kit:lx K
 cls:∀c,c<7->dS K (cm c)
 na:∀c i,i<19->c<7->bB K (cm c) (cy i)
 b_len:mg "len" = none
 b_range:mg "range" = none
 b_list:mg "list" = none
 b_sorted:mg "sorted" = none
 b_isinstance:mg "isinstance" = none
 b_int:mg "int" = none
 b_bool:mg "bool" = none
 b_tuple:mg "tuple" = none
 b_enumerate:mg "enumerate" = none
 b_reversed:mg "reversed" = none
 b_max:mg "max" = none
 b_min:mg "min" = none
 b_all:mg "all" = none
 b_any:mg "any" = none
 b_set:mg "set" = none
 b_zip:mg "zip" = none
 b_dict:mg "dict" = none
section
variable{prog:IV}{w:JB}{A:Jx}{R:Qo->IA->Prop}{s:IA}
abbrev sU(b:List Expr)(a:Env):Sem Bool:=forIn b true λc r=>if r=true then do let ok <-isTrue c a (eval c a);pure (ForInStep.yield ok) else pure (ForInStep.yield r)
theorem Aw{p a iter:Expr}{q:List Expr}{o:Oy}{pos:Pos}{E u:Iv}{e:Env}(I:Nat->IA->Prop)
 (y:∀n s,I n s->wpAny (model prog w) A (pyNext E) (λr b=>match r with
  | none=>R (.ok .next) b
  | some v=>wpAny (model prog w) A (letOwnedTupleGo a E v) (λ_ f=>wpAny (model prog w) A (assign a e v) (λ_ g=>
   wpAny (model prog w) A (sU q e) (λok c=>
    if ok=true then wpAny (model prog w) A (eval p e) (λx i=>
     wpAny (model prog w) A (call (.builtin "list.append") [u,x]) (λ_ j=>∃m,m<n/\I m j) (λ_ _=>False) i) (λ_ _=>False) c
    else ∃m,m<n/\I m c) (λ_ _=>False) g) (λ_ _=>False) f) (λ_ _=>False) b) (λ_ _=>False) s)
 (n:Nat) (h:I n s):codeAny (model prog w) A (.compLoop (.ListComp p [⟨a,iter,q,0⟩] o pos) 0 E u e) R s:=by
 refine codeAny_loop rfl I (λn s G=>?_) n h;show wpAny _ A _ _ _ s;refine wpAny_noted ?_;rw[compTurn_list];refine Ir (OH (Ir (Jt (y n s G) (λr b k=>?_) λ_ _ d=>d.elim)));cases r with
 | none=>exact Iy k
 | some v=>
   refine Ir (Jt k (λ_ f z=>?_) λ_ _ d=>d.elim);refine Ir (Jt z (λ_ g B=>Ir (Jt B (λok c l=>?_) λ_ _ d=>d.elim)) λ_ _ d=>d.elim);cases ok with
   | false=>exact Iy ⟨rfl,l⟩
   | true=>
     exact Ir (Ir (Jt l (λx i C=>Ir (Jt C (λ_ j D=>Iy (Iy ⟨rfl,D⟩)) λ_ _ d=>d.elim)) λ_ _ d=>d.elim))
end
noncomputable def fj(X:Cx)(N:List Str)(scope:Oy)(cl:List (Str×Addr))(C:Addr)(s₀:IA)(H₀:Hp)(fp:List Addr):Cx where
 prog:=X.prog
 w:=X.w
 K:=X.K
 mg:=X.mg
 base:=X.base
 A:=X.A
 N:=N
 s₀:=s₀
 H₀:=H₀
 env:=compEnvC scope cl C X.env
 outer:=X.stack
 stack:=X.stack
 ex:=fp
 fn:=λ_=>false
 calm:=X.calm
 pn:=[]
 xe:=λ_ _=>False
inductive aX (X:Cx) (scope:Oy) (cl:List (Str×Addr)):List Str->List (Option Nat)->Prop where
 | nil:aX X scope cl [] []
 | own {x:Str} {N:List Str} {js:List (Option Nat)} (h:aX X scope cl N js):aX X scope cl (x::N) (none::js)
 | free {x:Str} {j:Nat} {N:List Str} {js:List (Option Nat)} (h1:X.N[j]?=some x) (h2:X.env.kindOf x=some .cell\/X.env.kindOf x=some .free) (h3:iX X.env.scope x) (h4:cl.lookup x=X.env.cells.lookup x) (h5:(relabel scope X.env).names.lookup x=some .cell\/(relabel scope X.env).names.lookup x=some .free) (h:aX X scope cl N js):aX X scope cl (x::N) (some j::js)
theorem aX.len{X:Cx}{a:Oy}{c:List (Str×Addr)}:∀{N:List Str}{b:List (Option Nat)},aX X a c N b->b.length=N.length
 | _,_,.nil=>rfl
 | _,_,.own h=>by simp[h.len]
 | _,_,.free _ _ _ _ _ h=>by simp[h.len]
theorem aX.get{X:Cx}{f:Oy}{l:List (Str×Addr)}:∀{N:List Str}{m:List (Option Nat)}{i j:Nat}{x:Str},aX X f l N m->N[i]?=some x->m[i]?=some (some j)->X.N[j]?=some x/\(X.env.kindOf x=some .cell\/X.env.kindOf x=some .free)/\iX X.env.scope x/\l.lookup x=X.env.cells.lookup x/\((relabel f X.env).names.lookup x=some .cell\/(relabel f X.env).names.lookup x=some .free)
 | _,_,_,_,_,.nil,h,_=>by simp at h
 | _,_,0,_,_,.own _,_,h=>by simp at h
 | _,_,i+1,_,_,.own h,g,k=>aX.get h (by simpa using g) (by simpa using k)
 | _,_,0,_,_,.free a b c d e _,g,k=>by simp at g k;subst g;subst k;exact⟨a,b,c,d,e⟩
 | _,_,i+1,_,_,.free _ _ _ _ _ h,g,k=>aX.get h (by simpa using g) (by simpa using k)
theorem sV{c:Type}{b:List (Option Nat)}{σ:List (Option c)}{i:Nat}{v:c}(h:(bT b σ)[i]?=some (some v)):∃j,b[i]?=some (some j)/\σ[j]?=some (some v):=by
 unfold bT at h;rw[Ja]at h;rcases e:b[i]? with _ | (_ | j)
 .rw[e]at h;cases h
 .rw[e]at h;cases h
 .rw[e]at h;refine⟨j,rfl,?_⟩;have a:σ.getD j none=some v:=Jo h;rw[IW]at a;rcases d:σ[j]? with _ | o
  .rw[d]at a;cases a
  .rw[d]at a;exact congrArg some a
theorem bP.bst{b:List Addr}{H:Hp}{a:PSt}{σ:L2.St}(h:bP b H a σ)(c:List (Option Nat)):bP b H (Ws.bT c a) (Ws.bT c σ):=by
 refine⟨by simp[Ws.bT],λi p d=>?_⟩;obtain⟨j,e,f⟩:=sV d;obtain⟨v,g,k⟩:=h.get j p f;refine⟨v,?_,k⟩;unfold Ws.bT;rw[Ja,e];show some (σ.getD j none)=_;rw[IW,g];rfl
structure jQ(X:Cx)(scope:Oy)(cl:List (Str×Addr)):Prop where
 kind:scope.kind=.function
 clos:closureFor scope X.env=pure cl
 nocell:∀y∈scope.names,y.2≠.cell
 names:∀y∈scope.names,y.2=.local->scope.names.lookup y.1=some .local
 sub:∀p∈cl,X.env.cells.lookup p.1=some p.2
 has:∀y∈scope.names,y.2=.free->(cl.lookup y.1).isSome=true
theorem Ax{X:Cx}{a:Oy}{f:List (Str×Addr)}(S:jQ X a f){x:Str}(h:(relabel a X.env).names.lookup x=some .cell\/(relabel a X.env).names.lookup x=some .free):∃c,f.lookup x=some c:=by
 have d:∀k,(x,k)∈(relabel a X.env).names->k=.cell\/k=.free->∃c,f.lookup x=some c:=λk j l=>by
  obtain⟨⟨n,m⟩,g,e⟩:=IB.mp j;dsimp only at e;have b:n=x/\m=.free:=by
   split at e
   .rename_i i;cases e;simp only[Jc,beq_iff_eq]at i;exact⟨rfl,i.1.1⟩
   .cases e;rcases l with rfl | rfl
    .exact absurd rfl (S.nocell _ g)
    .simp
  obtain⟨rfl,rfl⟩:=b;exact Of.mp (S.has _ g rfl)
 rcases h with h | h
 .exact d _ (JU h) (.inl rfl)
 .exact d _ (JU h) (.inr rfl)
section
variable{X:Cx}{cm:Nat->Addr}{pins:List (Addr×Obj)}{σ:L2.St}{H:Hp}{s:IA}
theorem Ay{N:List Str}{G:List (Option Nat)}{a:Oy}{n:List (Str×Addr)}{C:Addr}{fp:List Addr}{h':Heap}{t':Nat}{m:Str->Option Iv}(S:jQ X a n)(Fr:aX X a n N G)(I:L2.Inv X pins σ H s)(k:∀b∈fp,o0 X pins H b)(r:∀b∈fp,b<s.heap.objs.size)
 (w:s.heap.objs.size<=C) (J:∀b u,s.heap.get? b=some u->h'.get? b=some u) (A:h'.Ns C m):L2.Inv (fj X N a n C s H fp) [] (Ws.bT G σ) H { s with heap:=h',toks:=t' }:=by
 have B:L2.Inv X pins σ H { s with heap:=h',toks:=t' }:=I.kept J;have sub:=λx c e=>S.sub (x,c) (JU e);refine⟨⟨I.ok.mod,S.kind,I.ok.glob,I.ok.blt,w,λx y c D E=>I.ok.inj x y c (sub x c D) (sub y c E),λx L=>Ax S L,λx c h=>(nomatch h),I.ok.hd,I.ok.frames,.inl rfl,λb d=>⟨IL (IZ (r b d) w),λx c e=>(k b d).2.2.2.2.1 x c (sub x c e)⟩,
  I.bs,Jd I.ok.bsz I.sz,λb o e d=>?_,λb d O=>?_,I.stack,I.stkFree⟩,rfl,I.bare,Un.kept J,⟨m,A,λi x v D E h3=>?_⟩,λx c e=>B.cell x c (sub x c e),I.hok.fresh w,λx c e=>I.freeC x c (sub x c e),λp Q=>absurd (show p∈([])from Q) (by simp),B.hok,by simp[Ws.bT,Fr.len,fj]⟩
 .rcases(k b d).2.2.2.1 with z | z
  .exact I.ok.noex b o e z
  .exact absurd (IZ (II e) (Jd I.ok.bsz z)) (Ks _)
 .rcases IH.mp (I.stkSub b O)with z | z
  .exact(k b d).2.1 z
  .exact(k b d).2.2.1 z
 .obtain⟨j,T,U⟩:=sV E;obtain⟨Y,l,a3,a4,a5⟩:=Fr.get D T;obtain⟨m0,_,hl⟩:=B.loc;obtain⟨u,ru,lk⟩:=hl j x v Y U a3;refine⟨u,ru,?_⟩;rcases lk with⟨q,_⟩ | ⟨_,c,e1,e2⟩
  .rcases l with l | l<;>(rw[l]at q;cases q)
  .exact .inr ⟨a5,c,a4.trans e1,e2⟩
theorem Az{D:Addr}{o:HO}{fp:List Addr}(I:L2.Inv X pins σ H s)(a:o0 X pins H D)(new:aK X.prog X.w (aI H D o) s.heap D o):L2.Inv X pins σ (aI H D o) s:=by
 have i:=a.1;have ne:∀b u,H b=some u->b≠D:=λb u e z=>by rw[z,i]at e;cases e
 obtain⟨l,g,d,p,os⟩:=s;refine I.step (ch:=[D]) (λb f=>?_) (λb u _ _ _ e _=>e) (λb u _ _ _ e _=>⟨u.slots,e⟩) (λb u j e n=>by rw[aq (λz=>j (by simp[z]))];exact n) (λb u _ e=>⟨u,e⟩)
  (λb h e=>by rw[aq (ne b _ e)];exact e) (λb u h e=>by rw[aq (ne b _ e)];exact e) (λb r e=>⟨#[],by rw[aq (ne b _ e),e];simp⟩) (λm k=>k) (λb u e=>?_) I.bare
 .have e:b=D:=by simpa using f
  subst e;exact⟨a.2.2.2.1,a.2.1,a.2.2.2.2.1,a.2.2.2.2.2⟩
 .by_cases f:b=D
  .subst f;rw[C7]at e;cases e;exact new
  .rw[aq f]at e;exact(I.hok b u e).stay (λc v _ q=>q) (λc q=>by rw[aq (ne c _ q)];exact q) λc h q=>by rw[aq (ne c _ q)];exact q
end
section
variable{X:Cx}{cm:Nat->Addr}
def jR(X:Cx)(b:List Expr)(t:TT):Prop:=
 ∀(a:List (Addr×Obj))(s:IA)(σ:L2.St)(H:Hp)(Q:Bool->Hp->Prop),L2.Inv X a σ H s->t σ H Q->wpAny (model X.prog X.w) X.A (sU b X.env) (TP X a σ Q) X.xe s
theorem Q5:jR X [] (gw X.K cm S9):=λa s g H Q I c=>by
 obtain⟨d,A,e,b,h,rl,i,f,k⟩:=c;cases f;exact wpAny_tests_nil ⟨H,I,k d H (aG.refl _ _) rl⟩
theorem j9{c:Expr}{t:TD}(h:Pt X cm c t):jR X [c] (gw X.K cm t):=λa s b H Q I q=>wpAny_tests_one (h a s b H Q I q)
structure sW(C:Cx->Prop)(Z:Hp->Prop)(P:IV)(w:JB)(K:Iw)(tg:Expr)(J:L2.It)(fp:List Addr)(it:Addr)(tn:Nat->Heap->Prop):Prop where
 obj:∀i h,tn i h->∀b∈fp,∃o,h.get? b=some o/\∀v,o.data≠.cell v
 keep:∀i h h',tn i h->(∀b∈fp,∀o,h.get? b=some o->h'.get? b=some o)->tn i h'
 item:∀(X:Cx),X.prog=P->X.w=w->X.K=K->C X->∀(i:Nat)(pins:List (Addr×Obj))(s:IA)(σ:L2.St)(H:Hp)(E:Iv->IA->Prop),L2.Inv X pins σ H s->(∀b∈fp,o0 X pins H b)->tn i s.heap->J.go i H->
  wpAny (model P w) X.A (pyNext (.ref it)) (λr s1=>∃u,r=some u/\
   wpAny (model P w) X.A (letOwnedTupleGo tg (.ref it) u) (λ_ s2=>∃x H',L2.Inv X pins σ H' s2/\L2.RelV x u/\J.yld i H x H'/\tn (i+1) s2.heap/\∀b∈fp,H' b=none) E s1) E s
 done:∀(X:Cx),X.prog=P->X.w=w->X.K=K->C X->∀(i:Nat)(pins:List (Addr×Obj))(s:IA)(σ:L2.St)(H:Hp)(E:Iv->IA->Prop),L2.Inv X pins σ H s->(∀b∈fp,o0 X pins H b)->tn i s.heap->J.stop i H->Z H->
  wpAny (model P w) X.A (pyNext (.ref it)) (λr s1=>r=none/\L2.Inv X pins σ H s1) E s
 self:∀(A:Jx)(i:Nat)(s:IA)(Q:Iv->IA->Prop)(E:Iv->IA->Prop),tn i s.heap->Q (.ref it) s->wpAny (model P w) A (pyIter (.ref it)) Q E s
theorem sX{P:IV}{w:JB}{K:Iw}{g:Expr}{J:L2.It}{fp:List Addr}{h:Addr}{k:Nat->Heap->Prop}(T:iy P w K g J fp h k):sW (λX=>X.calm=true) (λ_=>True) P w K g J fp h k:=
 ⟨T.obj,T.keep,T.item,λX a b c d i e s l H E I f t j _=>T.done X a b c d i e s l H E I f t j,T.self⟩
theorem sY{i1 tg iter:Expr}{i2:List Expr}{a:Oy}{pos:Pos}{cl:List (Str×Addr)}{N:List Str}{js:List (Option Nat)}{g:GD}{t:TD}{e:ED}{G:List (Addr×Obj)}{σ:L2.St}{H:Hp}{s:IA}
 {it:Addr} {fp:List Addr} {tn:Nat->Heap->Prop} {j:L2.It} {J:It} {ρ:List Addr} {A A':PHp} {j2:PSt} {n:Nat} {ys:List PV} {RR:Iv->Addr->Qo->IA->Prop} {E:Iv->IA->Prop}
 {C Z:_} {W:PHp->Prop} (hC:∀Y:Cx,Y.calm=X.calm->Y.A=X.A->C Y) (hz:∀{h H' B},aG ρ H h H'->aQ X.K cm h B H'->W B->Z H') (s4:W A) (kg:∀v σ B U B',g v σ B=.ok U B'->W B->W B') (kt:∀σ B b B',t σ B=.ok b B'->W B->W B') (ke:∀σ B v B',e σ B=.ok v B'->W B->W B') (S:jQ X a cl) (Fr:aX X a cl N js)
 (hg:∀C s0 H0 fp,L2.PG (fj X N a cl C s0 H0 fp) tg (jf X.K cm g)) (ht:∀C s0 H0 fp,jR (fj X N a cl C s0 H0 fp) i2 (gw X.K cm t)) (he:∀C s0 H0 fp,PE (fj X N a cl C s0 H0 fp) i1 (da X.K cm e))
 (I:L2.Inv X G σ H s) (T:sW C Z X.prog X.w X.K tg j fp it tn) (st:tn 0 s.heap) (hf:∀b∈fp,o0 X G H b) (rj:ic X.K ρ H J j) (rl:aQ X.K cm ρ A H) (rs:bP ρ H j2 σ)
 (ev:c8 J g t e (n+1) 0 (Ws.bT js j2) A=.ok ys A') (hy:ys.length<=LIM)
 (t1:∀D C s' m,s'.heap.Ns C m->C≠X.env.locals->(∀n7,JS C s'.heap n7->∃h H',aG ρ H h H'/\aQ X.K cm h (A'++[.lst ys]) H'/\h[A'.length]?=some D/\L2.Inv X G σ H' { s' with heap:=n7 }/\o0 X G H' C)->RR (.ref D) C (.ok .next) s') :
 wpAny (model X.prog X.w) X.A (newList []) (λo1 a3=>wpAny (model X.prog X.w) X.A (newFunctionEnv a X.env.globals cl [] X.env.qual none .none (some X.env)) (λh1 o2=>
  codeAny (model X.prog X.w) X.A (.compStart (.ListComp i1 [⟨tg,iter,i2,0⟩] a pos) 0 (.ref it) o1 { h1 with scope:=relabel a X.env }) (RR o1 h1.locals) o2) E a3) E s:=by
 refine Lo (wpAny_newFunctionEnv S.nocell (by intro y hy;simp at hy) (λa4 a0 Q=>?_) S.kind);dsimp only at a0 Q ⊢;generalize k0:s.heap.push { cls:=.type "list",dict:=none,data:=.seq ([]:List Iv).toArray }=H2 at a0 Q ⊢;have k1:H2.objs.size=s.heap.objs.size+1:=by rw[<-k0,JH]
 have k2:∀b∈fp,b<s.heap.objs.size:=λb d=>by
  obtain⟨o,ho,_⟩:=T.obj 0 _ st b d;exact II ho
 have d1:s.heap.objs.size≠H2.objs.size:=by rw[k1];exact IL (JX _)
 have O:s.heap.objs.size<=H2.objs.size:=by rw[k1];exact Mh _
 have old:∀b o,s.heap.get? b=some o->a4.get? b=some o:=λb o q=>Q.extBut b o (by rw[k1];exact IL (Ko (II q))) (Iu _ (k0 ▸ Iu _ q));have p0:a4.PlainList s.heap.objs.size #[]:=⟨_,Q.extBut _ _ d1 (Iu _ (k0 ▸ IG _ rfl))⟩;generalize a8:s.heap.objs.size=D at *;generalize F1:H2.objs.size=C at *
 let Y:=fj X N a cl C s H fp
 have d2:∀b∈fp,b≠D:=λb d=>IL (k2 b d);have e0:∀b o,s.heap.get? b=some o->b<D:=λb o q=>by rw[<-a8];exact II q
 have nD:D∉frs X.stack:=λz=>by
  obtain⟨_,o,ho,_⟩:=I.stack.mem z;exact Ks _ (e0 _ _ ho)
 have k3:∀x c,X.env.cells.lookup x=some c->c<D:=λx c q=>by
  obtain⟨v,o,ho,_⟩:=I.cell x c q;exact e0 _ _ ho
 have h3:∀x c,cl.lookup x=some c->X.env.cells.lookup x=some c:=λx c q=>S.sub (x,c) (JU q);have p2:∀(ps:List (Addr×Obj))(H':Hp),(∀p∈ps,∀b∈fp,p.1≠b)->(∀b∈fp,H' b=none)->∀b∈fp,o0 Y ps H' b:=λps H' t2 hn b d=>
  ⟨hn b d,IL (IZ (k2 b d) O),λhz=>(IH.mp (I.stkSub b hz)).elim (hf b d).2.1 (hf b d).2.2.1,.inl d,λx c q=>(hf b d).2.2.2.2.1 x c (h3 x c q),λp hp=>t2 p (by simpa[Y,fj]using hp) b d⟩
 have I0:L2.Inv Y [] (Ws.bT js σ) H { s with heap:=a4,toks:=s.toks+([]:List (Str×Iv)).length }:=Ay S Fr I hf (λb d=>by rw[a8];exact k2 b d) (by rw[a8];exact O) old a0;have p4:tn 0 a4:=T.keep 0 _ _ st λb d o q=>old b o q;have h5:∀a3:IA,a3={ s with heap:=a4,toks:=s.toks+([]:List (Str×Iv)).length }->
  codeAny (model X.prog X.w) X.A (.compLoop (.ListComp i1 [⟨tg,iter,i2,0⟩] a pos) 0 (.ref it) (.ref D) (compEnvC a cl C X.env)) (RR (.ref D) C) a3:=by
  rintro a3 rfl;refine Aw (λm s'=>∃i U H' h B b1 b2 a5 l f,L2.Inv Y [] U H' s'/\tn i s'.heap/\(∀b∈fp,H' b=none)/\aG ρ H h H'/\aQ X.K cm h B H'/\bP h H' b1 U/\c8 J g t e (m+1) i b1 B=.ok b2 A'/\
   s'.heap.PlainList D (LL f)/\H' D=none/\aH l f/\RVs h H' a5 l/\a5++b2=ys/\W B) ?_ n ⟨0,_,H,ρ,A,Ws.bT js j2,ys,[],[],[],I0,p4,λb d=>(hf b d).1,aG.refl _ _,rl,rs.bst js,ev,p0,by rw[<-a8];exact I.hok.fresh (IC _),.nil,.nil,rfl,s4⟩
  rintro m s' ⟨i,U,H',h,B,b1,b2,a5,l,f,I1,p5,u0,x1,g2,v0,p8,pl,g3,va,ra,e3,k4⟩;obtain⟨L,v1⟩:=id pl;have dD:∀v,({ cls:=.type "list",data:=.seq f.toArray L }:Obj).data≠.cell v:=λv z=>nomatch z;have I2:L2.Inv Y [(D,{ cls:=.type "list",data:=.seq f.toArray L })] U H' s':=I1.pins_of λp hp=>by
   have e:p=(D,{ cls:=.type "list",data:=.seq f.toArray L }):=by simpa using hp
   subst e;exact⟨v1,g3,d1,nD,dD⟩
  have f2:=p2 [(D,{ cls:=.type "list",data:=.seq f.toArray L })] H' (λp hp b d=>by
   have e:p=(D,{ cls:=.type "list",data:=.seq f.toArray L }):=by simpa using hp
   subst e;exact(d2 b d).symm) u0
  rw[Y1]at p8;obtain⟨x,B1,e1,q1⟩:=B0 p8;obtain⟨rfl,k5⟩:=sL g2 (rj.mono x1) e1;cases x with
  | none=>
    cases q1;rw[Kh]at e3;subst e3;refine aL (T.done Y rfl rfl rfl (hC Y rfl rfl) i _ s' U H' (λ_ _=>False) I2 f2 p5 k5 (hz x1 g2 k4)) λr s1 zq=>?_;obtain⟨hr,I3⟩:=zq;subst hr;have v3:=I3.pin (D,{ cls:=.type "list",data:=.seq f.toArray L }) (by simp);obtain⟨mC,v4,_⟩:=id I3.loc;refine t1 D C s1 mC v4 (λz=>?_) λh2 sb=>?_
    .have:=I.lt;rw[<-z,a8]at this;exact absurd (IZ this O) (Ks _)
    .have ch:∀b∈fp,(b∈X.ex\/X.s₀.heap.objs.size<=b)/\b≠X.env.locals/\(∀x c,X.env.cells.lookup x=some c->c≠b)/\∀p∈X.pn++G,p.1≠b:=λb d=>⟨(hf b d).2.2.2.1,(hf b d).2.1,(hf b d).2.2.2.2.1,(hf b d).2.2.2.2.2⟩;have IX:L2.Inv X G σ H' s1:=I.call' I3.os I3.base I3.hok I3.bare ch;have c0:∀(g4:Hp) b,D<=b->g4 b=none->o0 X G g4 b:=λg4 b d hn=>by
      rw[<-a8]at d;exact I.fpOk (H':=g4) d hn
     have v5:L2.Inv X G σ H' { s1 with heap:=h2 }:=IX.turned (t':=s1.toks) (λb o d q=>(sb.2 b d).trans q) I3.free (c0 H' C O I3.free).2.1 (c0 H' C O I3.free).2.2.2.1 (c0 H' C O I3.free).2.2.2.2.1 (c0 H' C O I3.free).2.2.2.2.2;have e9:l.length<=sizeLine:=by rw[<-ra.length];exact W9 hy
     have w0:L2.Inv X G σ (aI H' D (.lst l)) { s1 with heap:=h2 }:=Az (fp:=fp) v5 (c0 H' D (IC _) g3) ⟨e9,f,L,va,(sb.2 D d1).trans v3.1⟩;have ex:aG h H' (h++[D]) (aI H' D (.lst l)):=aG.new g3;refine⟨h++[D],aI H' D (.lst l),x1.trans ex,g2.alloc g3 ⟨l,C7,ra.mono ex⟩ rfl,by rw[<-g2.len];simp,w0,c0 _ C O ?_⟩;rw[aq (KP d1)];exact I3.free
  | some v=>
    refine aL (T.item Y rfl rfl rfl (hC Y rfl rfl) i _ s' U H' (λ_ _=>False) I2 f2 p5 k5.1) λr s1 zq=>?_;obtain⟨u,hr,h4⟩:=zq;subst hr;refine aL h4 λ_ s2 zq=>?_;obtain⟨xv,H3,I3,ru,w2,g5,w3⟩:=zq;obtain⟨x2,w7,x0⟩:=k5.2 xv H3 w2;have f3:=p2 [(D,{ cls:=.type "list",data:=.seq f.toArray L })] H3 (λp hp b d=>by
     have e:p=(D,{ cls:=.type "list",data:=.seq f.toArray L }):=by simpa using hp
     subst e;exact(d2 b d).symm) w3
    have I4:=I3.pinned f3 (T.obj _ _ g5);obtain⟨c1,B4,e4,x9⟩:=B0 q1;obtain⟨b5,B5,e5,c2⟩:=B0 x9;refine aL (hg C s H fp _ s2 U H3 xv u (λa6 H5=>∃a7,aG h H3 a7 H5/\aQ X.K cm a7 B4 H5/\bP a7 H5 c1 a6) I4 ru ⟨h,B1,b1,v,c1,B4,w7,v0.mono x2,x0,e4,λa7 H5 a6 x5 k7 c3=>⟨a7,x5,k7,c3⟩⟩) λ_ s5 zq=>?_;obtain⟨a6,H5,I5,a7,x5,k7,c3⟩:=zq;refine aL (ht C s H fp _ s5 a6 H5 (λb H6=>b=b5/\∃a1,aG a7 H5 a1 H6/\aQ X.K cm a1 B5 H6) I5 ⟨a7,B4,c1,b5,B5,k7,c3,e5,λa1 H6 x6 g6=>⟨rfl,a1,x6,g6⟩⟩) λok s6 zq=>?_;obtain⟨H6,I6,y4,a1,x6,g6⟩:=zq;subst y4;have l0:aG h H' a1 H6:=(x2.trans x5).trans x6;have f0:∀{f1:L2.St}{H7:Hp}{s7:IA},L2.Inv Y ([(D,{ cls:=.type "list",data:=.seq f.toArray L })]++kE fp s2.heap) f1 H7 s7->(s7.heap.get? D=some { cls:=.type "list",data:=.seq f.toArray L }/\H7 D=none)/\(∀b∈fp,H7 b=none)/\(∀b∈fp,∀o,s2.heap.get? b=some o->s7.heap.get? b=some o):=λ{f1 H7 s7} I7=>by
     have p1:=I7.pin (D,{ cls:=.type "list",data:=.seq f.toArray L }) (Jp _ (JR _ (by simp)));refine⟨⟨p1.1,p1.2.1⟩,λb d=>?_,λb d o q=>?_⟩
     .obtain⟨o,q,_⟩:=T.obj _ _ g5 b d;exact(I7.pin (b,o) (Jp _ (Jp _ (b8 d q)))).2.1
     .exact(I7.pin (b,o) (Jp _ (Jp _ (b8 d q)))).1
    have f4:∀{ps:List (Addr×Obj)}{f1:L2.St}{H7:Hp}{s7:IA},L2.Inv Y ps f1 H7 s7->L2.Inv Y [] f1 H7 s7:=λI7=>I7.pins_of λp hp=>absurd hp (by simp);cases ok with
    | false=>
      rw[if_neg (by simp)];rw[if_neg (by simp)]at c2;cases m with
      | zero=>rw[rY]at c2;cases c2
      | succ m=>
        obtain⟨⟨u1,u2⟩,u3,u4⟩:=f0 I6;exact⟨m,JX _,i+1,a6,H6,a1,B5,c1,b2,a5,l,f,f4 I6,T.keep _ _ _ g5 u4,u3,x1.trans l0,g6,c3.mono x6,c2,⟨L,u1⟩,u2,va,ra.mono l0,e3,kt _ _ _ _ e5 (kg _ _ _ _ _ e4 k4)⟩
    | true=>
      rw[if_pos rfl];rw[if_pos rfl]at c2;obtain⟨y,B7,e7,z2⟩:=B0 c2;obtain⟨q2,B8,e8,z4⟩:=B0 z2;cases z4;refine aL (he C s H fp _ s6 a6 H6 (λyv H7=>∃b0,aG a1 H6 b0 H7/\aQ X.K cm b0 B7 H7/\RV b0 H7 y yv) I6 ⟨a1,B5,c1,y,B7,g6,c3.mono x6,e7,λb0 H7 yv x7 l1 l3=>⟨b0,x7,l1,l3⟩⟩) λyu s7 zq=>?_;obtain⟨yv,H7,I7,ry,b0,x7,l1,l3⟩:=zq;obtain⟨⟨u1,u2⟩,u3,u4⟩:=f0 I7;have e9:f.length<=sizeLine:=by
       rw[<-va.length,<-ra.length];refine W9 (Jd ?_ hy);rw[<-e3,IT];exact Ld _ _
      refine wpAny_list_append_plain (items:=f.toArray) ⟨L,u1⟩ (λh8 z5 q3=>?_) (by rw[IP];exact e9);have I8:L2.Inv Y [] a6 H7 { s7 with heap:=h8 }:=(f4 I7).turned (t':=s7.toks) (λb o d q=>(q3.2 b d).trans q) u2 d1 (.inr (by show s.heap.objs.size<=D;rw[a8];exact IC _)) (λx c q=>IL (k3 x c (h3 x c q))) (λp hp=>absurd (show p∈([]:List (Addr×Obj))from hp) (by simp));cases m with
      | zero=>rw[rY]at e8;cases e8
      | succ m=>
        have q4:=l0.trans x7;refine⟨m,JX _,i+1,a6,H7,b0,B7,c1,q2,a5++[y],l++[yv],f++[yu],I8,T.keep _ _ _ g5 λb d o q=>(q3.2 b (d2 b d)).trans (u4 b d o q),u3,x1.trans q4,l1,(c3.mono x6).mono x7,e8,by simpa using z5,u2,va.append (.cons ry .nil),(ra.mono q4).append (.cons l3 .nil),by rw[<-e3];simp,ke _ _ _ _ e7 (kt _ _ _ _ e5 (kg _ _ _ _ _ e4 k4))⟩
 exact codeAny_compStart_list (h5 _ rfl) (T.self X.A 0 _ _ _ p4 (h5 _ rfl))
theorem M3{i B iter:Expr}{l:List Expr}{a:Oy}{pos:Pos}{o:List (Str×Addr)}{N:List Str}(js:List (Option Nat)){it:ID}{g:GD}{t:TD}{e:ED}(hc:X.calm=true)(S:jQ X a o)(Fr:aX X a o N js)(hi:L2.PI X B iter (gK X.K cm it))
 (hg:∀C p q f,L2.PG (fj X N a o C p q f) B (jf X.K cm g)) (ht:∀C p q f,jR (fj X N a o C p q f) l (gw X.K cm t)) (he:∀C p q f,PE (fj X N a o C p q f) i (da X.K cm e))
 (hs:∀x,foldedSetIterable iter X.env x=pure x:=by intro _;rfl):Pe X cm (.ListComp i [⟨B,iter,l,0⟩] a pos) (L5 it (Ws.bT js) g t e):=by
 intro r s σ H Q I ⟨ρ,A,E,v,A',rl,rs,ev,k⟩;obtain⟨J,A1,e1,G⟩:=B0 ev;obtain⟨n,A2,e2,L⟩:=B0 G;obtain rfl:=nS e2;obtain⟨ys,A3,e3,O⟩:=B0 L;obtain⟨c,U⟩:=C5 O;cases U;refine Oj rfl hs S.clos S.kind S.names (Jt (hi r s σ H (λj u=>∃b,aG ρ H b u/\aQ X.K cm b A2 u/\ic X.K b u J j) I ⟨ρ,A,E,J,A2,rl,rs,e1,λb u j y d Y=>⟨b,y,d,Y⟩⟩) (λxv s1 h1=>Jt h1 (λc4 s2 h2=>?_) λ_ _ z=>z) λ_ _ z=>z);obtain⟨d2,f,tn,j,u,rfl,I1,T,st,hf,b,y,d,Y⟩:=h2;refine sY (W:=λ_=>True) (λ_ h _=>h.trans hc) (λ_ _ _=>trivial) trivial (λ_ _ _ _ _ _ z=>z) (λ_ _ _ _ _ z=>z) (λ_ _ _ _ _ z=>z) S Fr hg ht he I1 (sX T) st hf Y d (rs.mono y) e3 c λD C s' m hn e6 w=>⟨m,hn,λa0 sb=>?_⟩;obtain⟨a1,H2,x2,a2,hD,I2,_⟩:=w a0 sb;exact⟨.ref D,H2,I2,rfl,k a1 H2 _ (y.trans x2) a2 (.ref hD)⟩
theorem sZ{u tg iter:Expr}{w:List Expr}{a:Oy}{pos f py:Pos}{y:Str}{i:Nat}{L:List (Str×Addr)}{N:List Str}(js:List (Option Nat)){it:ID}{g:GD}{t:TD}{e:ED}(hc:X.calm=true)(S:jQ X a L)(Fr:aX X a L N js)(hi:L2.PI X tg iter (gK X.K cm it))
 (hg:∀C O Q G,L2.PG (fj X N a L C O Q G) tg (jf X.K cm g)) (ht:∀C O Q G,jR (fj X N a L C O Q G) w (gw X.K cm t)) (he:∀C O Q G,PE (fj X N a L C O Q G) u (da X.K cm e))
 (hN:X.N.Nodup) (a4:X.N[i]?=some y) (hy:L2.Loc X.env.scope y)
 (a5:swapsWith (.ListComp u [⟨tg,iter,w,0⟩] a pos) (some (.Name y py)) f.line X.env=pure true:=by rfl)
 (a6:X.fn y=true\/X.env.scope.names.lookup y=some .local:=by first | exact .inl rfl | exact .inr rfl)
 (hs:∀x,foldedSetIterable iter X.env x=pure x:=by intro _;rfl):Ps X cm (.Assign [.Name y py] (.ListComp u [⟨tg,iter,w,0⟩] a pos) f) (K0 (L5 it (Ws.bT js) g t e) (gName i)):=by
 intro l s σ H Dn I ⟨ρ,A,a8,fl,A',rl,rs,ev,k⟩;obtain⟨v,A0,e0,b0⟩:=B0 ev;obtain⟨g5,A9,e9,b1⟩:=B0 b0;cases e9;cases b1;obtain⟨J,A1,e1,b2⟩:=B0 e0;obtain⟨n,A2,e2,b3⟩:=B0 b2;obtain rfl:=nS e2;obtain⟨ys,A3,e3,b5⟩:=B0 b3;obtain⟨c,c0⟩:=C5 b5;cases c0;rw[exec_Assign_Name_used _ _ _ _ a5];refine Ir (OH (Ir ?_));refine Ir (Jt (Oj rfl hs S.clos S.kind S.names (Jt (hi l s σ H (λj U=>∃d,aG ρ H d U/\aQ X.K cm d A2 U/\ic X.K d U J j) I ⟨ρ,A,a8,J,A2,rl,rs,e1,λd U j Y B rj=>⟨d,Y,B,rj⟩⟩) (λxv s1 h1=>Jt h1 (λh7 s2 h2=>?_) λ_ _ z=>z) λ_ _ z=>z)) (λ_ s' hq=>Iy (Iy hq)) λ_ _ z=>z);obtain⟨i2,G,tn,j,U,rfl,I1,T,st,hf,d,Y,B,rj⟩:=h2;refine sY (W:=λ_=>True) (λ_ h _=>h.trans hc) (λ_ _ _=>trivial) trivial (λ_ _ _ _ _ _ z=>z) (λ_ _ _ _ _ z=>z) (λ_ _ _ _ _ z=>z) S Fr hg ht he I1 (sX T) st hf rj B (rs.mono Y) e3 c λD C s' m hn k1 a0=>?_;obtain⟨c2,H2,x2,c4,hD,I2,r⟩:=a0 _ (.refl ..);obtain⟨oC,es,ep,d1,a1,rC⟩:=id hn;have I3:L2.Inv X (l++[(C,oC)]) σ H2 s':=L2.Inv.pins_of (I:=I2) λp E=>by
  rcases Jm.mp E with E | E
  .exact I2.pin p (Jp _ E)
  .have e:p=(C,oC):=by simpa using E
   subst e;exact⟨d1,r.1,r.2.1,r.2.2.1,λv z=>by rw[a1]at z;cases z⟩
 refine wpAny_assign_Name (mn I3 hN a4 hy (show L2.RelV (.ref D) _ from rfl) (λs3 I4=>?_) a6);have pC:=I4.pin (C,oC) (by simp);refine⟨m,⟨oC,es,ep,pC.1,a1,rC⟩,λh4 sb=>?_⟩;have I5:=I4.pins_of λp E=>I4.pin p (Jp _ (JR _ E));have I6:=I5.turned (t':=s3.toks) (λb o hb q=>(sb.2 b hb).trans q) r.1 r.2.1 r.2.2.2.1 r.2.2.2.2.1 r.2.2.2.2.2;exact⟨σ.set i _,H2,I6,k c2 H2 (Y.trans x2) c4 _ (((rs.mono Y).mono x2).set i (.ref hD))⟩
end
theorem aB{a:Type}{P:a->Prop}:∀x∈([]:List a),P x:=by simp
theorem ag{b:Type}{P:b->Prop}{a:b}{l:List b}(h:P a)(r:∀x∈l,P x):∀x∈a::l,P x:=λx c=>(IH.mp c).elim (λe=>e ▸ h) (r x)
end Ws
namespace Ws
open PySem PySem.W PyProof.Rows L2
noncomputable def fk{b:Type}(n:Nat)(lt:Nat->Nat->Bool):KasT b->(b->Prop)->Prop
 | .ret a,Q=>Q a
 | .ask i j k,Q=>i<n/\j<n/\fk n lt (k (lt i j)) Q
theorem Z7{b c:Type}{n:Nat}{lt:Nat->Nat->Bool}{f:b->KasT c}{Q:c->Prop}:∀{t:KasT b},fk n lt t (λa=>fk n lt (f a) Q)->fk n lt (t.bind f) Q
 | .ret _,h=>h
 | .ask _ _ k,⟨d,e,g⟩=>⟨d,e,Z7 (t:=k _) g⟩
theorem tf{c:Type}{n:Nat}{lt:Nat->Nat->Bool}{b:Nat->Nat->(Bool->IA->Prop)->IA->Prop}{G:c->IA->Prop}{s:IA}(e:∀i j C,i<n->j<n->C (lt i j) s->b i j C s):∀{t:KasT c}{Q:c->Prop},fk n lt t Q->(∀a,Q a->G a s)->t.kasWp b G s
 | .ret a,Q,h,d=>d a h
 | .ask i j k,Q,⟨f,g,l⟩,d=>e i j _ f g (tf e (t:=k _) l d)
section
variable{n:Nat}{α:Type}{key:Nat->α}{lt:Nat->Nat->Bool}
structure Ord(key:Nat->α)(lt:Nat->Nat->Bool):Prop where
 asym:∀a b,lt a b=true->lt b a=false
 tr:∀a b c,lt b a=false->lt c b=false->lt c a=false
 tot:∀a b,lt a b=false->lt b a=false->key a=key b
 cong:∀a b c d,key a=key b->key c=key d->lt a c=lt b d
structure Pm(n:Nat)(p:Array Nat):Prop where
 size:p.size=n
 perm:p.Perm (LL (Jj n))
theorem Pm.bd{p:Array Nat}(h:Pm n p)(b:0<n)(i:Nat):p.getD i 0<n:=by
 by_cases a:i<p.size
 .have e:p.getD i 0=p[i]:=by simp[Array.getD,a]
  rw[e];have c:p[i]∈p.toList:=by simp
  have:=(NI.mp h.perm).mem_iff.mp c;simpa using this
 .have e:p.getD i 0=0:=by simp[Array.getD,a]
  rw[e];exact b
theorem jS{p q:Array Nat}{i j:Nat}(h:p[i]?=q[j]?):p.getD i 0=q.getD j 0:=by
 rw[NB,NB,h]
theorem Pm.rev{p:Array Nat}(h:Pm n p)(i j:Nat):Pm n (QM p i j):=⟨by unfold QM;rw[mirror_size];exact h.size,(mirror_perm _ _ _ _).trans h.perm⟩
theorem oa{p:Array Nat}{i j:Nat}(a:j<=p.size)(k:Nat):(QM p i j).getD k 0=if i<=k/\k<j then p.getD (i+j - 1 - k) 0 else p.getD k 0:=by
 have e:=getElem?_mirror_all (i:=i) a k;by_cases h:i<=k/\k<j
 .rw[if_pos h]at e ⊢;exact jS e
 .rw[if_neg h]at e ⊢;exact jS e
theorem Pm.bub{p:Array Nat}(h:Pm n p)(i d:Nat):Pm n (bubble p i d):=⟨by rw[bubble_size];exact h.size,(bubble_perm _ _ _).trans h.perm⟩
theorem tj{p:Array Nat}{a d:Nat}(hs:a<p.size)(f:d<=a)(k:Nat):(bubble p a d).getD k 0=if k=a - d then p.getD a 0 else if a - d<k/\k<=a then p.getD (k - 1) 0 else p.getD k 0:=by
 have e:=getElem?_bubble hs d f k;by_cases b:k=a - d
 .rw[if_pos b]at e ⊢;exact jS e
 .rw[if_neg b]at e ⊢;by_cases c:a - d<k/\k<=a
  .rw[if_pos c]at e ⊢;exact jS e
  .rw[if_neg c]at e ⊢;exact jS e
def fL(lt:Nat->Nat->Bool)(p:Array Nat)(m:Nat):Prop:=∀i j,i<=j->j<m->lt (p.getD j 0) (p.getD i 0)=false
def ig(lt:Nat->Nat->Bool)(p:Array Nat)(m:Nat):Prop:=∀i j,i<=j->j<m->lt (p.getD i 0) (p.getD j 0)=false
variable(O:Ord key lt)(hn:0<n)
include O hn
theorem Ord.irr(a:Nat):lt a a=false:=by
 cases h:lt a a with
 | false=>rfl
 | true=>have:=O.asym a a h;rw[h]at this;exact this
theorem AA{p:Array Nat}{m:Nat}(h:fL lt p m)(a:m=0\/lt (p.getD m 0) (p.getD (m - 1) 0)=false):fL lt p (m+1):=λi j b d=>by
 by_cases e:j=m
 .subst e;by_cases c:i=j
  .subst c;exact O.irr hn _
  .rcases a with a | a
   .omega
   .exact O.tr _ _ _ (h i _ (by omega) (by omega)) a
 .exact h i j b (by omega)
theorem k8{p:Array Nat}{m:Nat}(h:ig lt p m)(a:m=0\/lt (p.getD (m - 1) 0) (p.getD m 0)=false):ig lt p (m+1):=λi j b d=>by
 by_cases e:j=m
 .subst e;by_cases c:i=j
  .subst c;exact O.irr hn _
  .rcases a with a | a
   .omega
   .exact O.tr _ _ _ a (h i _ (by omega) (by omega))
 .exact h i j b (by omega)
theorem og{p:Array Nat}(i:Pm n p){Q:Nat->Prop}:∀f m,1<=m->fL lt p m->(∀e,m<=e->e<=m+f->fL lt p e->(e<m+f->lt (p.getD e 0) (p.getD (e - 1) 0)=true)->Q e)->fk n lt (kas_asc p f m) Q
 | 0,m,_,g,h=>h m (IC _) (IC _) g λz=>by omega
 | f+1,m,k,g,h=>by
   refine⟨i.bd hn m,i.bd hn (m - 1),?_⟩;cases j:lt (p.getD m 0) (p.getD (m - 1) 0)with
   | true=>exact h m (IC _) (by omega) g λ_=>j
   | false=>
     simp only[Jl,if_false];exact og i f (m+1) (by omega) (AA O hn g (.inr j)) λe a b c d=>h e (by omega) (by omega) c λz=>d (by omega)
theorem oh{p:Array Nat}{i j:Nat}(a:j<=p.size)(he:∀k,i<=k->k<j->key (p.getD k 0)=key (p.getD (j - 1) 0))(k:Nat):key ((QM p i j).getD k 0)=key (p.getD k 0):=by
 rw[oa a];by_cases h:i<=k/\k<j
 .rw[if_pos h,he _ (by omega) (by omega),he k h.1 h.2]
 .rw[if_neg h]
theorem oi{p q:Array Nat}{m:Nat}(h:∀k,key (p.getD k 0)=key (q.getD k 0))(b:ig lt q m):ig lt p m:=λi j a c=>by rw[O.cong _ _ _ _ (h i) (h j)];exact b i j a c
def oj(key:Nat->α)(p:Array Nat)(m q:Nat):Prop:=q+1<=m/\∀k,m - (q+1)<=k->k<m->key (p.getD k 0)=key (p.getD (m - 1) 0)
omit O hn in
theorem om{p:Array Nat}{m:Nat}(h:1<=m):oj key p m 0:=⟨h,λk a b=>by rw[show k=m - 1 by omega]⟩
theorem ly{Q:Array Nat×Nat×Nat->Prop}:∀f (p:Array Nat) m q,Pm n p->m+f<=n->ig lt p m->oj key p m q->(∀o g r,Pm n o->m<=g->g<=m+f->ig lt o g->oj key o g r->Q (o,g,r))->fk n lt (kas_desc f p m q) Q
 | 0,p,m,q,l,w,s,u,h=>h p m q l (IC _) (IC _) s u
 | f+1,p,m,q,l,w,s,u,h=>by
   refine⟨l.bd hn m,l.bd hn (m - 1),?_⟩;have A:=u.1;cases x:lt (p.getD m 0) (p.getD (m - 1) 0)with
   | true=>
     simp only[if_true];by_cases y:q > 0
     .rw[if_pos y];have z:=oh O hn (p:=p) (i:=m - (q+1)) (j:=m) (by rw[l.size];omega) u.2;refine ly f _ (m+1) 0 (l.rev _ _) (by omega) ?_ (om (by omega)) λo g r a b c d e=>h o g r a (by omega) (by omega) d e;exact oi O hn z (k8 O hn s (.inr (O.asym _ _ x)))
     .rw[if_neg y];exact ly f p (m+1) 0 l (by omega) (k8 O hn s (.inr (O.asym _ _ x))) (om (by omega)) λo g r a b c d e=>h o g r a (by omega) (by omega) d e
   | false=>
     simp only[Jl,if_false];refine⟨l.bd hn (m - 1),l.bd hn m,?_⟩;cases v:lt (p.getD (m - 1) 0) (p.getD m 0)with
     | true=>exact h p m q l (IC _) (by omega) s u
     | false=>
       simp only[Jl,if_false];refine ly f p (m+1) (q+1) l (by omega) (k8 O hn s (.inr v)) ⟨by omega,λk B C=>?_⟩ λo g r a b c d e=>h o g r a (by omega) (by omega) d e;rw[Nat.add_sub_cancel];by_cases e:k=m
       .rw[e]
       .rw[u.2 k (by omega) (by omega)];exact O.tot _ _ v x
theorem tm{p:Array Nat}{m:Nat}(f:Pm n p)(k:1<=m)(e:m<=n)(l:ig lt p m){Q:Nat×Array Nat->Prop}(h:∀d g,Pm n g->1<=d->d<=n->fL lt g d->Q (d,g)):fk n lt (kas_tail3 m n p) Q:=by
 refine Z7 ?_;have o:fL lt (QM p 0 m) m:=λi j q r=>by
  rw[oa (by rw[f.size];exact e),oa (by rw[f.size];exact e),if_pos ⟨by omega,r⟩,if_pos ⟨by omega,by omega⟩];exact l _ _ (by omega) (by omega)
 exact og O hn (f.rev 0 m) _ m k o λd a b c _=>h d _ (f.rev 0 m) (by omega) (by omega) c
theorem tp{p:Array Nat}{m:Nat}(j:Pm n p)(r:1<=m)(k:m<n)(l:ig lt p (m+1)){Q:Nat×Array Nat->Prop}(h:∀f g,Pm n g->1<=f->f<=n->fL lt g f->Q (f,g)):fk n lt (kas_descPart m n p) Q:=by
 refine Z7 (ly O hn _ p _ 0 j (by omega) l (om (by simp)) λg f o a b c d e=>?_);by_cases i:o > 0
 .rw[if_pos i];have q:=oh O hn (by rw[a.size];omega) e.2;exact tm O hn (a.rev _ _) (by omega) (by omega) (oi O hn q d) h
 .rw[if_neg i];exact tm O hn a (by omega) (by omega) d h
theorem AB{p:Array Nat}(f:Pm n p)(A:2<=n){Q:Nat×Array Nat->Prop}(h:∀q r,Pm n r->1<=q->q<=n->fL lt r q->Q (q,r)):fk n lt (kas_count n p) Q:=by
 refine Z7 (og O hn f _ 1 (IC _) (λi j l s=>by rw[show i=j by omega];exact O.irr hn _) λm a b c d=>?_);by_cases u:(m == n)=true
 .rw[if_pos u];exact h m p f a (by omega) c
 .rw[if_neg u];have o:m<n:=by have:m≠n:=λz=>u (by simp[z]);omega
  have e:=d (by omega);by_cases v:m > 1
  .rw[if_pos v];refine⟨f.bd hn 0,f.bd hn _,?_⟩;cases w:lt _ _ with
   | true=>exact h m p f a (by omega) c
   | false=>
     have g:∀k,0<=k->k<m->key _=key _:=λk _ x=>by
      refine O.tot _ _ ?_ (c k (m - 1) (by omega) (by omega));exact O.tr _ _ _ w (c 0 k (by omega) x)
     have y:=oh O hn (by rw[f.size];omega) g;refine tp O hn (f.rev 0 m) a o (oi O hn y (k8 O hn (λi j l s=>?_) (.inr (O.asym _ _ e)))) h;rw[O.cong _ _ _ _ (g i (by simp) (by omega)) (g j (by simp) s)];exact O.irr hn _
  .rw[if_neg v];have:m=1:=by omega
   subst this;refine tp O hn f a o (k8 O hn (λi j l s=>by rw[show i=j by omega];exact O.irr hn _) (.inr (O.asym _ _ e))) h
theorem ou{p:Array Nat}(d:Pm n p){k:Nat}(g:fL lt p k){Q:Nat->Prop}:∀f l r,l<=r->r<=k->r - l<=f->(∀i,i<l->lt (p.getD k 0) (p.getD i 0)=false)->(∀i,r<=i->i<k->lt (p.getD k 0) (p.getD i 0)=true)->
 (∀j,j<=k->(∀i,i<j->lt (p.getD k 0) (p.getD i 0)=false)->(∀i,j<=i->i<k->lt (p.getD k 0) (p.getD i 0)=true)->Q j)->fk n lt (kas_place p k f l r) Q
 | 0,l,r,q,c,v,m,o,h=>h l (by omega) m λi a b=>o i (by omega) b
 | f+1,l,r,q,c,v,m,o,h=>by
   unfold kas_place;by_cases s:l>=r
   .rw[if_pos s];exact h l (by omega) m λi a b=>o i (by omega) b
   .rw[if_neg s];refine⟨d.bd hn k,d.bd hn _,?_⟩;cases u:lt (p.getD k 0) (p.getD ((l+r) / 2) 0)with
    | true=>
      simp only[if_true];refine ou d g f l ((l+r) / 2) (by omega) (by omega) (by omega) m (λi a b=>?_) h;cases e:lt (p.getD k 0) (p.getD i 0)with
      | true=>rfl
      | false=>
        have:=O.tr _ _ _ (g ((l+r) / 2) i a b) e;rw[u]at this;exact this.symm
    | false=>
      simp only[Jl,if_false];refine ou d g f ((l+r) / 2+1) r (by omega) c (by omega) (λi a=>?_) o h;exact O.tr _ _ _ (g i ((l+r) / 2) (by omega) (by omega)) u
theorem tq{Q:Array Nat->Prop}:∀f (p:Array Nat) k,Pm n p->k+f=n->fL lt p k->(∀r,Pm n r->fL lt r n->Q r)->fk n lt (kas_bin f p k) Q
 | 0,p,k,e,v,d,h=>h p e (by rw[<-v];exact d)
 | f+1,p,k,e,v,d,h=>by
   refine Z7 (ou O hn e d k 0 k (by omega) (by omega) (by omega) (λi a=>by omega) (λi a b=>by omega) λl z w x=>?_);refine tq f _ (k+1) (e.bub _ _) (by omega) (λi j s A=>?_) h;have g:k<p.size:=by rw[e.size];omega
   have u:k - (k - l)=l:=by omega
   rw[tj g (by omega),tj g (by omega),u];by_cases m:j=l
   .rw[if_pos m];by_cases c:i=l
    .rw[if_pos c];exact O.irr hn _
    .rw[if_neg c,if_neg (by omega)];exact w i (by omega)
   .rw[if_neg m];by_cases o:l<j/\j<=k
    .rw[if_pos o];by_cases c:i=l
     .rw[if_pos c];exact O.asym _ _ (x (j - 1) (by omega) (by omega))
     .rw[if_neg c];by_cases q:l<i/\i<=k
      .rw[if_pos q];exact d (i - 1) (j - 1) (by omega) (by omega)
      .rw[if_neg q];exact d i (j - 1) (by omega) (by omega)
    .rw[if_neg o];have y:j<l:=by omega
     rw[if_neg (by omega),if_neg (by omega)];exact d i j s (by omega)
theorem AE(g:2<=n){Q:Array Nat->Prop}(h:∀e,Pm n e->fL lt e n->Q e):fk n lt (kas_sort n) Q:=by
 refine Z7 (AB O hn ⟨by simp,.refl _⟩ g λm p a b c d=>?_);by_cases f:m<n
 .rw[if_pos f,Nat.max_eq_left b];exact tq O hn _ p m a (by omega) d h
 .rw[if_neg f];have:m=n:=by omega
  subst this;exact h p a d
end
noncomputable def gy(fin:Bool):List Int->List Int->Bool
 | x::a,y::b=>if x=y then gy fin a b else decide (x<y)
 | _,_=>fin
theorem tu:∀a b:List Int,gy (decide (a.length<b.length)) a b=D0 a b
 | [],[]=>rfl
 | [],_::_=>by simp[gy,D0]
 | _::_,[]=>by simp[gy,D0]
 | x::a,y::b=>by
   simp only[gy,D0,J2,Nat.add_lt_add_iff_right];rw[tu a b]
section
variable{prog:IV}{w:JB}{A:Jx}{E:Iv->IA->Prop}{s:IA}
theorem tw{fin:Bool}{Q:Bool->IA->Prop}:∀{vs b:List Iv}{ns d:List Int}(i:Nat),MZ vs ns->MZ b d->Q (gy fin ns d) s->KatLex prog w A true fin Q (vs.zip b) i s
 | _,_,_,_,i,.nil,_,h=>by simpa[gy]using kat_nil h
 | _,_,_,_,i,.cons _ _ _,.nil,h=>by simpa[gy]using kat_nil h
 | _,_,_,_,i,.cons a t f,.cons c u g,h=>by
   rw[List.zip_cons_cons];refine kat_cons (wpAny_eqBool_int ?_);by_cases e:a=c
   .subst e;simp only[gy,if_true]at h;rw[beq_self_eq_true];exact kat_yes (tw (i+1) f g h)
   .rw[beq_eq_false_iff_ne.mpr e];simp only[gy,e,if_false]at h;refine kat_no ?_;cases j:(true&&i == 0)with
    | true=>exact oneLt_int h
    | false=>exact kat_one _ _ (lt_int h)
def TupAt(h:Heap)(v:Iv)(t:List Int):Prop:=∃a o b n,v=.ref a/\h.get? a=some o/\o.cls=.type "tuple"/\o.data=.seq b n/\MZ b.toList t/\t≠[]
theorem ow{h:Heap}:∀{vs:List Iv}{b:List (List Int)}{i:Nat},Paired (TupAt h) vs b->i<vs.length->TupAt h (vs.getD i .none) (b.getD i [])
 | _,_,_,.nil,a=>by simp at a
 | _,_,0,.cons r _,_=>r
 | _,_,i+1,.cons _ t,a=>by
   have:=ow (i:=i) t (by simpa using a);simpa using this
theorem tz{h:Heap}:∀{vs:List Iv}{j:List (List Int)},Paired (TupAt h) vs j->∃fs,KatTups h vs fs/\fs.length=vs.length/\∀f∈fs,∃i t,f=Ph i t
 | _,_,.nil=>⟨[],KatTups.nil,rfl,by simp⟩
 | _,_,.cons r t=>by
   obtain⟨a,o,c,n,rfl,l,m,p,b,d⟩:=r;obtain⟨fs,k,q,u⟩:=tz t;cases e:c.toList with
   | nil=>rw[e]at b;cases b;exact absurd rfl d
   | cons v r=>
     rw[e]at b;cases b with
     | cons i x y=>
       refine⟨.int i x::fs,KatTups.cons l m p (by rw[<-Lf,e];rfl) k,by simp[q],λf g=>?_⟩;rcases IH.mp g with rfl | g
       .exact⟨_,_,rfl⟩
       .exact u f g
theorem AF(b:List (List Int)):Ord (λi=>b.getD i []) (λi j=>D0 (b.getD i []) (b.getD j [])):=
 ⟨λ_ _ h=>nq _ _ h,λ_ _ _ h a=>nr _ _ _ h a,λ_ _ h a=>kS _ _ h a,λ_ _ _ _ h a=>congr (congrArg D0 h) a⟩
def W5(a:List (List Int))(n:Nat)(p:List Nat):Prop:=p.Perm (Jj n)/\(p.map λi=>a.getD i []).Pairwise (λx y=>D0 y x=false)
theorem k9{a:Addr}{vs:List Iv}{u:List (List Int)}{n:Nat}{P:PySem.Fin->IA->Prop}(D:s.heap.get? a=some (seqObj "list" vs.toArray n))(ht:Paired (TupAt s.heap) vs u)(U:vs.length<64)
 (h:∀p,W5 u vs.length p->P (.done (.ret .none)) { s with heap:=sortedHeap s.heap a vs (LL (p.map λi=>vs.getD i Km)) }) :
 wpAny (model prog w) A (KL.«list.sort» ⟨[.ref a],[]⟩) P E s:=by
 rw[list_sort_plain];have ha:=II D;refine Ir (listItems_at D rfl ?_);refine Ir (Qh D rfl ?_);obtain⟨Y,G⟩:∃Y,(s.heap.update a _).get? a=some (seqObj "list" #[] Y):=⟨_,get?_update_seq D (λ_=>#[])⟩;refine Ir (Qy G rfl ?_);refine Ir (wpAny_newTuple ?_);refine Ir (Qi ?_);refine JC ?_;have l:(((s.heap.update a (Nw λ_=>#[])).push (seqObj "tuple" vs.toArray 0)).push (seqObj "list" #[] 0)).get? a=some (seqObj "list" #[] Y):=by
  rw[MM _ _ _ (by rw[size_push',Nd];exact IL (Ko ha)),MM _ _ _ (by rw[Nd];exact IL ha)];exact G
 dsimp only;have a0:vs.toArray.size=vs.length:=by simp
 have a5:∀v t,TupAt s.heap v t->TupAt (((s.heap.update a (Nw λ_=>#[])).push (seqObj "tuple" vs.toArray 0)).push (seqObj "list" #[] 0)) v t:=λv t hq=>by
  obtain⟨b,o,y,k,e,q,c,d,r⟩:=hq;have hb:b≠a:=by
   rintro rfl;rw[D]at q;cases q;exact absurd (Iv.type.inj (show Iv.type "list" = Iv.type "tuple" from c)) (by decide)
  exact⟨b,o,y,k,e,Iu _ (Iu _ (by rw[Qb _ _ _ _ hb];exact q)),c,d,r⟩
 have z:=L2.Paired.mapP ht a5;by_cases B:vs.toArray.size<2
 .rw[if_pos B,if_pos B];refine Ir (Iy ?_);refine Ir (Iy ?_);dsimp only;refine Ir (Qy l rfl ?_);refine Ir (Qh l rfl ?_ (hsz2:=by rw[Array.size_map];show(pairsOf vs).size<=_;rw[pairsOf_size,MI];omega));simp only[bne_self_eq_false];have x:W5 u vs.length (Jj vs.length):=by
   refine⟨.refl _,?_⟩;rw[a0]at B;match hl:vs.length,B with
   | 0,_=>simp
   | 1,_=>simp
  have g:(arrOf (SortSt.mk' general' (vs.toArray.zip vs.toArray) #[] 7 none)).map (·.2)=LL ((Jj vs.length).map λi=>vs.getD i Km):=by
   apply Nf.mp;show((vs.toArray.zip _).map _).toList=_;apply List.ext_getElem
   .simp
   .intro i h1 B;have H:i<vs.length:=by simpa using h1
    simp[H]
  have:=h _ x;rw[<-g]at this;exact Iy this
 .rw[if_neg B,if_neg B];have I:2<=vs.length:=by omega
  obtain⟨fs,hk,c4,a6⟩:=tz z;refine Ir (kat_kind hk (by omega) (λv hv=>by
   obtain⟨i,t,rfl⟩:=a6 v hv;exact Looks.of_pure rfl) rfl ?_)
  have ev:(kas_sort vs.length).kasWp (kas_ask prog w A (tuples' (Iv.type "int" != Iv.type "tuple")) vs) (λp J=>W5 u vs.length p.toList/\J={ s with heap:=((s.heap.update a (Nw λ_=>#[])).push (seqObj "tuple" vs.toArray 0)).push (seqObj "list" #[] 0) }) { s with heap:=((s.heap.update a (Nw λ_=>#[])).push (seqObj "tuple" vs.toArray 0)).push (seqObj "list" #[] 0) }:=by
   refine tf (λi j C H T hC=>?_) (AE (AF u) (by omega) I λp x L=>?_) λp x=>⟨x,rfl⟩
   .obtain⟨b,o,y,k,e,q,c,d,r,_⟩:=ow z H;obtain⟨b',o',N,k',e',q',c',d',r',_⟩:=ow z T;unfold kas_ask;rw[e,e'];refine kat_lt q d q' d' (tw 0 r r' ?_);have z1:y.size=(u.getD i []).length:=by rw[<-r.length];simp
    have z2:N.size=(u.getD j []).length:=by rw[<-r'.length];simp
    rw[z1,z2,tu];exact hC
   .refine⟨by simpa using NI.mp x.perm,?_⟩;rw[Kv,Jy];intro i j H T e7;have:=L i j (by omega) (by rw[<-x.size];simpa using T);have a7:i<p.size:=by simpa using H
    have a8:j<p.size:=by simpa using T
    simpa[a7,a8]using this
  refine Ir (Jt (kat_run (Q:=λm J=>∃p:Array Nat,_=_/\arrOf m=p.map _/\failedOf m=none/\W5 u _ _/\J={ s with heap:=((s.heap.update a _).push _).push _ })
   rfl I U (λp' m J a1 a2 a3 a4=>⟨p',a1,a2,a3,a4.1,a4.2⟩) ev) ?_ λ_ _ e=>e)
  rintro⟨⟨⟩,m⟩ J ⟨p,x,a9,hf,O,rfl⟩;have g:=kat_snds rfl a9;have b3:(LL (p.toList.map λi=>vs.getD i Km)).size=vs.length:=by rw[IP,Iz,Ku,x]
  refine Ir (Qy l rfl ?_);rw[g];refine Ir (Qh l rfl ?_ (hsz2:=by rw[MI];omega));rw[hf];simp only[bne_self_eq_false];exact Iy (h _ O)
theorem AG{l:Addr}{vs:List Iv}{j:List (List Int)}{Q:Iv->IA->Prop}(n:s.heap.IsList l vs.toArray)(u:Paired (TupAt s.heap) vs j)(f:vs.length<64)
 (h:∀p,W5 j vs.length p->Q (.ref (s.heap.objs.size+1)) { s with heap:=sortedAll s.heap vs (LL (p.map λi=>vs.getD i Km)) }) :
 wpAny (model prog w) A (call (.builtin "sorted") [.ref l]) Q E s:=by
 refine NY kind_sorted plain_sorted entry_sorted (args_sorted1 _) ?_;refine Ir (Iy ?_);refine Ir (collect_list n ?_);refine Ir (Qi ?_);have a:((s.heap.push (seqObj "list" #[] 0)).update s.heap.objs.size (Nw (·++vs.toArray))).objs.size=s.heap.objs.size+1:=by
  rw[Nd,size_push']
 have d:(((s.heap.push (seqObj "list" #[] 0)).update s.heap.objs.size (Nw (·++vs.toArray))).push (seqObj "list" vs.toArray 0)).get? (s.heap.objs.size+1)=some (seqObj "list" vs.toArray 0):=by
  rw[<-a];exact IG _ rfl
 rw[a];have keep:∀b o,s.heap.get? b=some o->(((s.heap.push _).update _ _).push (seqObj "list" vs.toArray 0)).get? b=some o:=λb o q=>by
  have c:=II q;rw[MM _ _ _ (by rw[a];exact IL (Ko c)),Qb _ _ _ _ (IL c),MM _ _ _ (IL c)];exact q
 refine Ir (JC (JL slot_list_sort ⟨_,d,rfl⟩ entry_list_sort (k9 d (L2.Paired.mapP u λv t ⟨b,o,g,k,e,q,r⟩=>⟨b,o,g,k,e,keep b o q,r⟩) f λp x=>⟨_,rfl,?_⟩) (args_list_sort _)));exact Iy ⟨_,rfl,h p x⟩
end
section
variable{X:Cx}{cm:Nat->Addr}
noncomputable def AH(K:Iw):List V->Hp->VK->Prop:=λb H Q=>∃a ns,b=[.ref a]/\bu K H a (ns.map V.int)/\ns.length<64/\∀l,H l=none->Q (.ref l) (aI H l (.lst ((D8 hV ns).map V.int)))
theorem call_sortI:bg X (.builtin "sorted") (AH X.K):=by
 intro i s A H B C Q I r h;obtain⟨a,ns,rfl,l,m,q⟩:=h;obtain⟨u,rfl,n⟩:=o6 r;cases n;obtain⟨d,p,v,D⟩:=I.list l;have j:=b9 p;have E:=j.length;refine sorted_ints v.isList j (by omega) λf w x y z=>?_;have e:=sj (y.trans (K2 _ _).symm) z (zO ns);subst e;obtain⟨c,g⟩:=sortedAll_at _ d f;have k:(D8 hV ns).length=_:=(K2 _ _).length_eq;refine⟨.ref _,_,I.laid (λb o e=>sortedAll_old e) (Mh _) ?_,rfl,q _ (I.hok.fresh (Mh _))⟩;refine⟨by rw[Iz,MI];omega,_,c,mP x,?_⟩;exact g
def fm(H:Hp)(x:V)(t:List Int):Prop:=∃b,x=.ref b/\H b=some (.tup (t.map V.int))/\t≠[]
noncomputable def AI(K:Iw):List V->Hp->VK->Prop:=λd H Q=>∃a b c,d=[.ref a]/\bu K H a b/\Paired (fm H) b c/\b.length<64/\∀l p,W5 c b.length p->H l=none->Q (.ref l) (aI H l (.lst (p.map λi=>b.getD i .non)))
theorem lz{a:List (Addr×Obj)}{σ:L2.St}{H:Hp}{s:IA}(I:L2.Inv X a σ H s):∀{f:List V}{c:List Iv}{g:List (List Int)},aH f c->Paired (fm H) f g->Paired (TupAt s.heap) c g
 | _,_,_,.nil,.nil=>.nil
 | _,_,_,.cons r t,.cons h k=>by
   refine .cons ?_ (lz I t k);obtain⟨b,rfl,i,e⟩:=h;cases r;obtain⟨_,d,j,l,m,o,n,p⟩:=I.hok b _ i;exact⟨b,l,d.toArray,n,rfl,m,o,p,by simpa using b9 j,e⟩
theorem oy{b:List V}{a:List Iv}(r:aH b a):∀p:List Nat,(∀i∈p,i<b.length)->aH (p.map λi=>b.getD i .non) (p.map λi=>a.getD i .none)
 | [],_=>.nil
 | i::p,h=>by
   have c:=h i IE;obtain⟨u,d,e⟩:=r.get (i:=i) (x:=b[i]) (by simp[c]);refine .cons ?_ (oy r p λj f=>h j (IF _ f));have g:b.getD i .non=b[i]:=by simp[c]
   have k:a.getD i .none=u:=by rw[IW,d];rfl
   show L2.RelV (b.getD i .non) (a.getD i .none);rw[g,k];exact e
theorem AJ:bg X (.builtin "sorted") (AI X.K):=by
 intro k s D H E G Q I r h;obtain⟨a,l,m,rfl,n,v,w,q⟩:=h;obtain⟨u,rfl,x⟩:=o6 r;cases x;obtain⟨f,g,y,J⟩:=I.list n;have z:=g.length;refine AG y.isList (lz I g v) (by omega) λp A=>?_;have d:W5 m l.length p:=by rw[z];exact A
 obtain⟨c,j⟩:=sortedAll_at _ f _;have B:p.length=l.length:=by rw[d.1.length_eq];simp
 refine⟨.ref _,_,I.laid (λb o e=>sortedAll_old e) (Mh _) ?_,rfl,q _ p d (I.hok.fresh (Mh _))⟩;refine⟨by rw[Iz];omega,p.map λi=>f.getD i _,c,oy g p λi C=>?_,j⟩;have:=d.1.mem_iff.mp C;simpa using this
theorem X2:∀{l:List PV}{ns:List Int},O5 l=some ns->l=ns.map .int
 | [],ns,h=>by simp[O5]at h;subst h;rfl
 | x::r,ns,h=>by
   cases x with
   | int i=>
     simp only[O5,Jh]at h;obtain⟨m,a,rfl⟩:=h;rw[X2 a];rfl
   | _=>simp[O5]at h
theorem s8:∀{l:List PV}{c:List (List Int)},T3 l=some c->l=c.map (λt=>PV.tup (t.map .int))/\∀t∈c,t≠[]
 | [],c,h=>by simp[T3]at h;subst h;simp
 | x::r,c,h=>by
   cases x with
   | tup m=>
     cases m with
     | nil=>simp[T3]at h
     | cons y i=>
       unfold T3 at h;rcases d:O5 (y::i)with _ | z
       .rw[d]at h;cases h
       .rcases e:T3 r with _ | j
        .rw[d,e]at h;cases h
        .rw[d,e]at h;cases h;obtain⟨a,b⟩:=s8 e;have g:=X2 d;refine⟨by rw[a,g];rfl,λt f=>?_⟩;rcases IH.mp f with rfl | f
         .rintro rfl;simp at g
         .exact b t f
   | _=>simp[T3]at h
theorem RVs.ints_inv{b:List Addr}{H:Hp}:∀{ns:List Int}{a:List V},RVs b H (ns.map .int) a->a=ns.map V.int
 | [],_,h=>by cases h;rfl
 | i::ns,_,h=>by cases h with | cons h r=>cases h;rw[RVs.ints_inv r];rfl
theorem oz{e:List Addr}{H:Hp}:∀{b:List (List Int)}{c:List V},RVs e H (b.map λt=>PV.tup (t.map .int)) c->(∀t∈b,t≠[])->Paired (fm H) c b
 | [],_,h,_=>by cases h;exact .nil
 | t::b,_,h,a=>by
   cases h with
   | cons h r=>
     cases h with
     | tup d f=>
       rw[RVs.ints_inv f]at d;exact .cons ⟨_,rfl,d,a t IE⟩ (oz r λu g=>a u (IF _ g))
theorem oA{b:List Addr}{H:Hp}{l:List PV}{a:List V}(r:RVs b H l a):∀p:List Nat,(∀i∈p,i<l.length)->RVs b H (p.map λi=>l.getD i .non) (p.map λi=>a.getD i .non)
 | [],_=>.nil
 | i::p,h=>by
   have c:=h i IE;obtain⟨u,d,e⟩:=r.get (i:=i) (x:=l[i]) (by simp[c]);refine .cons ?_ (oA r p λj f=>h j (IF _ f));have g:l.getD i .non=l[i]:=by simp[c]
   have k:a.getD i .non=u:=by rw[IW,d];rfl
   show RV b H (l.getD i .non) (a.getD i .non);rw[g,k];exact e
theorem tD{b:Type}(a:List b)(d:b){p:List Nat}(c:p.Perm (Jj a.length)):(p.map λi=>a.getD i d).Perm a:=by
 refine(c.map _).trans ?_;have:(Jj a.length).map (λi=>a.getD i d)=a:=by
  apply List.ext_getElem
  .simp
  .intro i f e;simp[e]
 rw[this]
theorem tE{e:Expr}{d:ED}{p pos:Pos}(hr:X.A.units+64<cLine)(he:Pe X cm e d)(L:Gl X "sorted")(N:X.mg "sorted" = none)(hs:starEach [e] X.env=(false,eval e X.env)::starEach [] X.env:=by exact E9 rfl):Pe X cm (.Call (.Name "sorted" p) [e] [] pos) (kQ d):=
 E1 (Z4 (call_sortI.or AJ) L N Ol (af he ak hs) (he:=hs)) λσ H Q h=>j0 (λ_=>rfl) (λG A H x z A' v Q rl O I k=>by
  cases x with
  | ref n=>
    obtain⟨l,A1,T,w⟩:=B0 I;obtain⟨rfl,a,y,rfl,J,r⟩:=M8 rl O T;obtain⟨m,A2,U,g⟩:=B0 w;obtain⟨j,c⟩:=C5 U;rcases b:O5 l with _ | ns
    .rcases B:T3 l with _ | f
     .rw[b,B]at c;cases c
     .rw[b,B]at c;cases c;cases g;obtain⟨rfl,C⟩:=s8 B;have E:y.length=f.length:=by rw[<-r.length];simp
      refine .inr ⟨a,y,f,rfl,J,oz r C,by rw[<-r.length];exact j,λD p s o=>?_⟩;rw[E]at s;have Y:=nj kS ((tD f [] s.1).trans (K2 _ _).symm) s.2 (sm f);have q:∀i∈p,i<_:=λi b=>by simpa using s.1.mem_iff.mp b
      have ep:(D8 D0 f).map (λt=>PV.tup (t.map .int))=p.map λi=>(f.map λt=>PV.tup (t.map .int)).getD i .non:=by
       rw[<-Y,J1];refine Kx λi b=>?_;have:=q i b;simp[this]
      have u:aG G H _ (aI H D (.lst (p.map λi=>y.getD i .non))):=aG.new o;refine k _ _ _ u (rl.alloc o ⟨_,C7,?_⟩ rfl) (.ref (by rw[<-rl.len];simp));rw[ep];exact(oA r p λi b=>by rw[Iz];exact q i b).mono u
    .rw[b]at c;cases c;cases g;have E:=X2 b;subst E;have hx:=RVs.ints_inv r;subst hx;refine .inl ⟨a,ns,rfl,J,by simpa using j,λD o=>?_⟩;have u:aG G H _ (aI H D (.lst ((D8 hV ns).map V.int))):=aG.new o;exact k _ _ _ u (rl.alloc o ⟨_,C7,RVs.ints _⟩ rfl) (.ref (by rw[<-rl.len];simp))
  | _=>cases I) h
end
end Ws
namespace Ws
open PySem L2
theorem AK(K:Iw):lx K:=⟨λa b c d=>by
 simp only[IH,JO,or_false]at c d;rcases c with rfl | rfl | rfl | rfl | rfl | rfl<;>rcases d with rfl | rfl | rfl | rfl<;>with_unfolding_all rfl⟩
def s9(s:SD):Prop:=∀a A v b,s a A≠.ok (.rt v) b
theorem L3{a b:SD}(d:s9 a)(e:s9 b):s9 (C9 a b):=λi A v j h=>by
 obtain⟨o,k,f,c⟩:=B0 h;cases o with
 | nx g=>exact e _ _ _ _ c
 | rt u=>exact d _ _ _ _ f
 | _=>cases c
theorem lA{t:TD}{a b:SD}(e:s9 a)(f:s9 b):s9 (bN t a b):=λg A v i h=>by
 obtain⟨c,j,k,d⟩:=B0 h;cases c with
 | true=>exact e _ _ _ _ d
 | false=>exact f _ _ _ _ d
theorem lB:s9 sPass:=λa A v b h=>by cases h
theorem n0:s9 sNever:=λa A v b h=>by cases h
theorem tF{e:ED}{g:GD}:s9 (K0 e g):=λc A v d h=>by
 obtain⟨x,f,i,a⟩:=B0 h;obtain⟨y,j,k,b⟩:=B0 a;cases b
theorem O3{a e:ED}{f:Nat}:s9 (sFld a f e):=λi A v j h=>by
 obtain⟨x,k,l,c⟩:=B0 h;obtain⟨y,m,p,b⟩:=B0 c;cases y with
 | ref n=>
   obtain⟨o,q,r,d⟩:=B0 b;obtain⟨_,g⟩:=C5 d;cases g
 | _=>cases b
theorem oB{n p:Nat}{s:SD}(hs:s9 s){vs:List PV}{A A':PHp}{v:PV}(h:fn n p s vs A=.ok v A'):v=.non:=by
 obtain⟨_,b⟩:=C5 h;obtain⟨o,e,c,a⟩:=B0 b;cases o with
 | nx d=>cases a;rfl
 | rt u=>exact absurd c (hs _ _ _ _)
 | _=>cases a
noncomputable def oE(K:Iw):Sp:=λb H Q _=>∃(a:Addr)(ns:List Int),b=[.ref a]/\bu K H a (ns.map V.int)/\ns.length<=63/\mQ H/\∀c,Q (.bl true) c
theorem AL{K:Iw}{j:Nat->Addr}{f:Fun}(h:∀ns:List Int,∃g,f [.ref 0] [.ro (ns.map .int)]=.ok (.bl true) g)(vs:List V)(H:Hp)(Q:VK)(E:L2.XK)(q:oE K vs H Q E):ba K j f 1 vs H Q E:=by
 obtain⟨a,ns,rfl,c,_,l,k⟩:=q;obtain⟨g,e⟩:=h ns;have r:Fz K H a (ns.map V.int):=by
  rcases c with(c | c) | c
  .rcases l a with z | ⟨o,y,z⟩<;>(rw[c]at z;cases z)
  .exact .inl c
  .exact .inr c
 refine⟨[a],[.ro _],[.ref 0],.bl true,g,⟨rfl,λn o b d i=>?_,λm n b o p d i s u A B=>?_⟩,.cons (.ref rfl) .nil,rfl,e,λv w C _ _ x=>by cases x;exact k w⟩
 .cases n with
  | zero=>simp at d i;subst d;subst i;exact⟨_,r,RVs.ints ns⟩
  | succ n=>simp at d
 .cases m with
  | zero=>cases n with
    | zero=>rfl
    | succ n=>simp at u
  | succ m=>simp at s
end Ws
namespace Ws
open PySem PySem.W
theorem AM{f:String->Option KL}{p:IV}{w:JB}{m:Nat}{e:Option Iv}:∀(n:Nat)(S:LV)(t:Qp)(R:LV),
 oF (stepOk m e) (stepT (denote f) p w) n S t=some R->topRun f p w m e n S.abs t=some R.abs:=by
 intro n;induction n with
 | zero=>intro S t R h;cases h
 | succ n ih=>
   intro S t R h;unfold topRun;have d:@Bool.rec (λ_=>Option LV) _ _ _=some R:=h;cases a:through t with
   | true=>rw[a]at d;cases d;rfl
   | false=>
     rw[a]at d;cases b:stepOk m e t with
     | false=>rw[b]at d;cases d
     | true=>
       rw[b]at d;cases c:stepT _ p w S t with
       | none=>rw[c]at d;cases d
       | some r=>
         rw[c]at d;obtain⟨g,i⟩:=r;rw[stepT_spec c];exact ih g i R d
theorem AN(w:JB)(os:QN):(oG w os).abs=⟨Mu w.params,#[],Qm,Qz,os⟩:=by kernel_rfl
theorem AO(P:Params):((Mu P).isNs mainGlobals,(Mu P).objs.size,(Mu P).nsMap mainGlobals "__annotations__")=(true,11,some (.ref 6)):=by kernel_rfl
noncomputable def ij(h:Heap):Frag:=(Jj h.objs.size).filterMap λa=>(h.get? a).map λo=>(a,o)
theorem oH{h:Heap}:∀(l:List Nat){a:Addr}{o:Obj},(l.filterMap λa=>(h.get? a).map λo=>(a,o)).lookup a=some o->h.get? a=some o
 | [],_,_,e=>by cases e
 | b::l,a,o,e=>by
   rw[Kk]at e;cases q:h.get? b with
   | none=>rw[q]at e;exact oH l e
   | some x=>
     rw[q]at e;change ((b,x)::_).lookup a=some o at e;rw[Nb]at e;by_cases z:(a == b)=true
     .rw[z]at e;cases e;rw[beq_iff_eq.mp z];exact q
     .have c:(a == b)=false:=by simpa using z
      rw[c]at e;exact oH l e
theorem AQ(h:Heap):(ij h).In h:=λa o e=>oH _ e
theorem AR(S:LV):ij S.abs.heap=jT S:=by
 have g:S.abs.heap.objs.size=S.n:=absHeap_size ..;unfold ij jT;rw[g];have e:∀l:List Nat,(∀a∈l,a<S.n)->(l.filterMap λa=>(S.abs.heap.get? a).map λo=>(a,o))=l.filterMap λa=>(alive ((S.tree.get a).getD default)).map λo=>(a,o):=by
  intro l;induction l with
  | nil=>intro _;rfl
  | cons a l ih=>
    intro h;have f:S.abs.heap.get? a=alive ((S.tree.get a).getD default):=by
     show(absHeap _ S.n _).get? a=_;unfold Heap.get?;rw[absHeap_at,if_pos (h a (.head _))];cases(S.tree.get a).getD default with
     | mk c d i k=>cases i<;>rfl
    rw[Kk,Kk,f,ih λb j=>h b (.tail _ j)]
 exact e _ λa f=>JG.mp f
noncomputable def Kw(p:IV)(N:Nat)(w:JB):Frag:=match openEnds treeTable p w N with
 | some s=>ij s.heap
 | none=>[]
theorem AS{p f:IV}{q:IV->IV}{a:List Str}{Xt:IV->IA->Bool}{N:Nat}{v:Type}{ob:Frag->v}{va:IV->v}
 {ok:Nat->Option Iv->Qp->Bool} {st:(Code->Sem Fin)->IV->JB->LV->Qp->Option (LV×Qp)} {x:(String->Option KL)->Code->Sem Fin} {y:String->Option KL}
 {z:IV->List Str->List Str->(IA->Bool)->Bool->IA->_}
 (C:p=f) (i:stepOk=ok) (j:stepT=st) (l:denote=x) (m:treeTable=y) (n:openSeen=z)
 (D:∀w:JB,(fencedOpening treeTable p w N).map (λs=>(s.heap,s.gens,s.drawn,s.toks))=some (Mu w.params,#[],Qm,Qz))
 (E:∀(w:JB)(os:QN),(oF (ok 11 (some (.ref 6))) (st (x y) f w) N (oG w os) (topStub f)).map (λS=>(lk z f (q f) a (Xt f) w S.abs,ob (jT S)))=some ((true,openGood (q f) a),va f)) :
 LeftO p (q p) a (Xt p) (λs=>ij s.heap) (Kw p N) N/\∀w,ob (Kw p N w)=va p:=by
 subst C i j l m n;have g:∀w,∃s,openEnds treeTable p w N=some s/\openSeen (q p) a (importedModules p.main.body) (Xt p) true s=openGood (q p) a/\ob (ij s.heap)=va p:=by
  intro w;obtain⟨⟨h,L,d,k,os⟩,e,A⟩:=Jh.mp (D w);simp only[Qj]at A;obtain⟨rfl,rfl,rfl,rfl⟩:=A;obtain⟨S,r,c⟩:=Jh.mp (E w os);simp only[lk,Qj]at c;obtain⟨⟨G,o⟩,u⟩:=c;have B:=AM N _ _ _ r;rw[AN]at B;have b:=AO w.params;simp only[Qj]at b;obtain⟨H,I,J⟩:=b;refine⟨S.abs,?_,o,by rw[AR];exact u⟩;unfold openEnds;rw[e];show topFrom treeTable p w N _=_;unfold topFrom;rw[H,I,J,B];show(match staticsOk _ _ _&&namesBound p _&&gensDone _&&laidKept _ _ with | true=>some _ | false=>none)=_;rw[G]
 refine⟨λw=>?_,λw=>?_⟩
 .obtain⟨s,e,o,_⟩:=g w;rw[e];unfold Kw;rw[e];exact congrArg some (Prod.ext o rfl)
 .obtain⟨s,e,_,u⟩:=g w;unfold Kw;rw[e];exact u
noncomputable def AU:Stmt->Pos
 | .FunctionDef _ _ _ _ _ _ _ _ _ p=>p
 | _=>⟨0,0,0,0⟩
theorem AV{l:OpenLaw}{q:IV}{loose:List Str}{N:Nat}{d:DefRec}
 (left:LeftO l.row.prog q loose (λs=>xlAt q [] s&&recOk (RowW.records l.row.toRowW) s) (λs=>ij s.heap) (Kw l.row.prog N) N)
 (hdef:defOf q l.row.name=some (d,[])) (hp:l.row.prog.theDef l.row.name=some (d.params,d.body,d.scope)) (hk:kwWritten? d.params.kwonlyargs d.params.kw_defaults=some [])
 (hwr:(!l.row.writes||l.row.records.isEmpty)=true) (k1:l.row.wellSaid=true) (ok:(chainsOk q&&opensWell l.row.prog&&(frees l.row.toRowW&&l.row.within.isEmpty))=true) (hb:l.row.prog.bare) (hw:l.row.toRowW.promised)
 (call:WalkO q loose (XL q []) (λw h=>(Kw l.row.prog N w).In h) l.row.toRowW d [] λf vs=>PySem.call f vs):l.row.Holds:=
 holds_open left (λw s e=>by rw[<-e];exact AQ _) (λw h h' x k=>x.keeps k) (λs e=>xl_of s (Nj.mp e).1) XL.keeps hdef hp hk (λs e=>recFacts_of (Nj.mp e).2) hwr k1 ok hb hw call
theorem p1{d e:Type}{a c:d}{b f:e}(h:(a,b)=(c,f)):a=c:=(Prod.mk.inj h).1
end Ws
namespace Ws
open PySem L2
theorem AX{l:PySem.W.OpenLaw}{q:IV}{j:List Str}{XP:(Str->Option Iv)->Heap->Prop}{A:JB->Heap->Prop}{d:DefRec}{K:JB->Iw}{k:Nat}{x:Str}(I:l.most=some 63)(r:d.params.defaults=[])(J:aM k PySem.callerA)
 (B:∀(w:JB)(h:Heap),A w h->(K w).In h)
 (F:∀(w:JB)(mg:Str->Option Iv)(p:Addr)(h:Heap),(K w).In h->h.Ns mainGlobals mg->mg d.name=some (.ref p)->
  ∃v:IY,(∀(s:IA)(u:Iv),QJ s v ⟨[u],[]⟩ [(x,u)])/\∀c:Heap,(K w).In c->c.Ns mainGlobals mg->aE l.prog w (K w) mg c aW k p v [x] (oE (K w))) :
 PySem.W.WalkO q j XP A l.row.toRowW d [] (λf C=>PySem.call f C):=by
 refine Att.zg I r λw D E mg mb p o pm cd L a C ns G Y ho hd N y n m i O=>?_;obtain⟨v,Q,U⟩:=F w mg p _ (B w _ Y) G.T.g y;exact zh (B w _ Y) G.T.g G.T.b G.T.builtins G.T.nolimit O n m (Jd i (by decide)) J U Q (λH hO hS=>⟨a,ns,rfl,hS,i,hO,λ_=>rfl⟩) λH e s' z=>z
end Ws
open PySem PySem.Spec PyProof.Rows
namespace Ws
open PySem L2
section
variable{ρ:List Addr}{H:Hp}{K:Iw}{A:PHp}{n:Nat}{v:V}
theorem Pairs.cons_inv{c a:Type}{f:c->a}{p:c×PV}{r:List (c×PV)}{d:List (a×V)}(h:Pairs f ρ H (p::r) d):∃u b,d=(f p.1,u)::b/\RV ρ H p.2 u/\Pairs f ρ H r b:=by
 obtain⟨k,v⟩:=h;cases d with
 | nil=>cases k
 | cons q t=>
   obtain⟨g,u⟩:=q;simp only[Jb,Mr]at k;cases v with
   | cons e i=>exact⟨u,t,by rw[<-k.1],e,k.2,i⟩
theorem Pairs.nil_inv{c a:Type}{f:c->a}{b:List (a×V)}(h:Pairs f ρ H [] b):b=[]:=by
 obtain⟨k,v⟩:=h;cases b with
 | nil=>rfl
 | cons q t=>cases k
theorem Pairs.cons'{b a:Type}{f:b->a}{p:b×PV}{u:V}{r:List (b×PV)}{c:List (a×V)}(h:RV ρ H p.2 u)(t:Pairs f ρ H r c):Pairs f ρ H (p::r) ((f p.1,u)::c):=
 ⟨by rw[Jb,Jb,t.keys],.cons h t.vals⟩
end
end Ws
namespace Ws
open PySem PySem.W PyProof.Rows L2
section
variable{X:Cx}{cm:Nat->Addr}
theorem jU{M:QR}{A:Jx}{E:Iv->IA->Prop}{s:IA}{e:Expr}{a:Env}{pos:Pos}{Q:List Iv->IA->Prop}(hs:starEach [e] a=(false,eval e a)::starEach [] a)(h:wpAny M A (eval e a) (λu b=>Q [u] b) E s):wpAny M A (spliced (backTo pos (starEach [e] a))) Q E s:=by
 rw[hs];exact KH (aL h λu b q=>LO q)
theorem AY{σ:L2.St}{H:Hp}{Q:List V->Hp->Prop}(h:gx X.K cm aNil σ H Q):tNil σ H Q:=by
 obtain⟨a,A,b,d,e,rl,f,c,k⟩:=h;cases c;exact k a H [] (aG.refl _ _) rl .nil
theorem cC{c:Nat}{f:Fun}{n k q:Nat}{ps:List Str}{m:Str}{o:Expr}{d:ED}{b pos:Pos}{r:Sem Bool}(D:f9 X.prog X.w X.K X.mg X.base cm c m k ps f n)(s:k<=q)(u:aM q X.A)(x:dS X.K (cm c))(y:Pe X cm o d)(e:∀i,i<19->cy i≠m)
 (z:eval (.Call (.Attribute o m b) [] [] pos) X.env=(do
  let ov <-eval o X.env
  standAt b.atName
  let(f,first) <-holding [ov] (getMethod ov m r)
  callWith pos f first (backTo pos (starEach [] X.env)) (backToKw pos (keywordEach [] X.env))):=by rfl) :
 Pe X cm (.Call (.Attribute o m b) [] [] pos) (O2 c f d aNil):=by
 obtain⟨fa,fd,F,B,C⟩:=D.ex;refine E1 (yx y x B F (u.mono s) C .nil kJ z) λσ H Q h=>?_;obtain⟨E,A,g,v,G,rl,I,J,k⟩:=sJ D.len e h;exact⟨E,A,g,v,G,rl,I,J,λj L N O l p=>by
  obtain⟨a,T,fs,U,Y,h3,h4⟩:=k j L N O l p;exact⟨a,T,fs,U,Y,h3,AY h4⟩⟩
end
structure eL(K:Iw)(x qual:Str)(st:Stmt)(f:Addr)(fd:IY)(items:Array Iv):Prop where
 ex:∃(T:Addr)(oc:Iv)(od:Option Addr)(kV doc pm:Iv)(an:Option Addr)(cdv ct:Iv)(osl:Array (Option Iv))(tc:Iv)(td:Option Addr)(tn:Nat)(ts:Array (Option Iv)),
  fd=Le x qual (N2 st) (G7 st) (B6 st) (.ref T) kV doc pm an cdv ct/\K.lookup f=some ⟨oc,od,.func fd,osl⟩/\MN K cdv qual=true/\K.lookup T=some ⟨tc,td,.seq items tn,ts⟩
 kp:KU K (.ref f)=true
section
variable{P:IV}{w:JB}{K:Iw}{mg:Str->Option Iv}{base:Heap}{cm:Nat->Addr}
theorem eL.binds{x a:Str}{st:Stmt}{f:Addr}{j:IY}{items:Array Iv}{ps:List Str}{e:List Iv}(F:eL K x a st f j items)(n:Nat)(r:n+e.length=ps.length)
 (h:∀(T:Addr)(kV b g:Iv)(i:Option Addr)(c ct:Iv)(d:List Iv),d.length=n->∃k,bindArgs (Le x a (N2 st) (G7 st) (B6 st) (.ref T) kV b g i c ct) ⟨d,[]⟩=(seqItems? (.ref T)>>=k)/\k (some items)=pure (ps.zip (d++e))):L2.Binds K j ps e:=by
 obtain⟨T,u,v,kV,b,g,i,c,ct,l,y,z,A,B,rfl,lk,m,lt⟩:=F.ex;intro s d X o;obtain⟨k,p,q⟩:=h T kV b g i c ct d (by rw[IT]at o;omega);exact binds_K X rfl lt rfl p q
theorem AZ{x a:Str}{st:Stmt}{f T:Addr}{items:Array Iv}{i:Iv}{j g:Option Addr}{e:Array (Option Iv)}{kV d h b ct:Iv}{m:Iv}{n:Option Addr}{o:Nat}{p:Array (Option Iv)}
 (l:K.lookup f=some ⟨i,j,.func (Le x a (N2 st) (G7 st) (B6 st) (.ref T) kV d h g b ct),e⟩) (c:MN K b a=true) (k:KU K (.ref f)=true) (lt:K.lookup T=some ⟨m,n,.seq items o,p⟩) :
 eL K x a st f (Le x a (N2 st) (G7 st) (B6 st) (.ref T) kV d h g b ct) items:=⟨⟨T,i,j,kV,d,h,g,b,ct,e,m,n,o,p,rfl,l,c,lt⟩,k⟩
theorem Ba{x b:Str}{st:Stmt}{f:Addr}{q:IY}{items:Array Iv}{N ps:List Str}{k:Nat}{s:SD}(F:eL K x b st f q items)(S:C6 N ps (B6 st))
 (d:∀(c:Iv)(A:Jx)(a:List Env)(j:IA)(H:Hp)(E:L2.XK),aM k (A.deeper (Jw b (B6 st) j.heap.objs.size f c))->
  cf (u8 aW P w K mg base N b (B6 st) f c A a j H E).nox (G7 st) (fW K cm s)) :
 aE P w K mg base aW (k+1) f q ps (ba K cm (fn N.length ps.length s) ps.length):=by
 obtain⟨T,oc,od,kV,G,pm,an,c,ct,I,tc,td,tn,ts,rfl,lk,l,lt⟩:=F.ex;refine mJ lk l S (λJ H Q E ⟨r,A,y,v,A',rl,m,z,_,_⟩=>by rw[<-m.length];exact z) λA a j H J Q E L h=>⟨_,(d c A a j H E L).nox,?_⟩;obtain⟨r,B,y,v,B',rl,m,z,O,k⟩:=h;obtain⟨_,n⟩:=C5 O;obtain⟨o,U,Y,e⟩:=B0 n;refine⟨r,B,Ws.start _ y,o,U,rl,bP.start0 m,Y,λg C D i=>?_⟩;cases o with
 | nx a0=>cases e;exact λa1 _=>k g C _ D i .non
 | rt u=>cases e;exact λv' p=>k g C v' D i p
 | _=>cases e
end
section
variable{X:Cx}{cm:Nat->Addr}
theorem oI:∀{bs:List Bool}{a:List Iv},aH (bs.map V.bl) a->∀(i:Nat)(v:Iv),a[i]?=some v->∃b,bs[i]?=some b/\v=.bool b
 | [],_,.nil,i,v,h=>by simp at h
 | b::bs,_,.cons r t,0,v,h=>by
   cases r;simp at h;subst h;exact⟨b,rfl,rfl⟩
 | b::bs,_,.cons r t,i+1,v,h=>oI t i v (by simpa using h)
theorem Bb(bs:List Bool):((Jj bs.length).all λi=>(bs[i]?).getD true)=bs.all id:=by
 induction bs with
 | nil=>rfl
 | cons b r ih=>
   rw[J2,MG,Ms,List.all_map,Ms,<-ih];rfl
noncomputable def Bc(K:Iw):List V->Hp->VK->Prop:=λb H Q=>∃(a:Addr)(bs:List Bool),b=[.ref a]/\bu K H a (bs.map V.bl)/\Q (.bl (bs.all id)) H
theorem Bd(c:X.calm=true):bg X (.builtin "all") (Bc X.K):=by
 intro n s G H J L Q I r h;obtain⟨a,bs,rfl,w,q⟩:=h;obtain⟨u,rfl,x⟩:=o6 r;cases x;obtain⟨f,p,y,N⟩:=I.list w;have d:=y.isList;have k:a<s.heap.objs.size:=by
  obtain⟨_,e,_⟩:=d;exact II e
 have g:f.length=bs.length:=by
  have:=p.length;simpa using this.symm
 refine call_all_walk (KY d ⟨s.heap.objs.size,[s.heap.objs.size,a],[s.heap.objs.size],_,_,_,λi=>(bs[i]?).getD true,rfl,
  QV.list (A:=X.A.in1) (I.ok.hd c) _ a (IL k) _,⟨⟨_,IG _ rfl,rfl,rfl⟩,d.push _⟩,?_,?_⟩)
 .intro i v z B O C l;obtain⟨b,m,rfl⟩:=oI p i v (by simpa using C);have j:B ((bs[i]?).getD true) z:=l;rw[m]at j;exact Kn j
 .intro T U D;have m:f.toArray.size=bs.length:=by exact g
  rw[m,Bb];exact⟨.bl _,H,I.kept (λb o e=>D b o (λE=>by rw[IK.mp E]at e;exact absurd (II e) (Ks _)) (Iu _ e)),rfl,q⟩
theorem oJ:∀{l:List PV}{bs:List Bool},i6 l=some bs->l=bs.map .bl
 | [],bs,h=>by simp[i6]at h;subst h;rfl
 | x::r,bs,h=>by
   cases x with
   | bl b=>
     simp only[i6,Jh]at h;obtain⟨m,a,rfl⟩:=h;rw[oJ a];rfl
   | _=>simp[i6]at h
theorem oK:∀{c:List Addr}{H:Hp}{bs:List Bool}{a:List V},RVs c H (bs.map PV.bl) a->a=bs.map V.bl
 | _,_,[],_,.nil=>rfl
 | _,_,b::bs,_,.cons h t=>by cases h;rw[oK t];rfl
theorem jn{e:Expr}{d:ED}{p pos:Pos}(c:X.calm=true)(he:Pe X cm e d)(j:Gl X "all")(m:X.mg "all" = none)(hs:starEach [e] X.env=(false,eval e X.env)::starEach [] X.env:=by exact E9 rfl):Pe X cm (.Call (.Name "all" p) [e] [] pos) (hY d):=
 E1 (Z4 (Bd c) j m rfl (af he ak hs) (he:=hs)) λu H Q h=>j0 (λ_=>rfl) (λo A H x z A' v Q rl q g k=>by
  cases x with
  | ref n=>
    obtain⟨l,A1,r,b⟩:=B0 g;obtain⟨rfl,a,w,rfl,s,i⟩:=M8 rl q r;cases f:i6 l with
    | none=>rw[f]at b;cases b
    | some bs=>
      rw[f]at b;cases b;rw[oJ f]at i;exact⟨a,bs,rfl,by rw[<-oK i];exact s,k o H _ (aG.refl _ _) rl (.bl _)⟩
  | _=>cases g) h
theorem oM:∀{b:List Addr}{H:Hp}{ns:List Int}{a:List V},RVs b H (ns.map PV.int) a->a=ns.map V.int
 | _,_,[],_,.nil=>rfl
 | _,_,i::ns,_,.cons h t=>by cases h;rw[oM t];rfl
theorem dC{i:Int}{j:Nat}{pos a:Pos}:Pe X cm (.UnaryOp .USub (.Constant (.int i) j pos) a) (eK (.int (-i))):=
 E1 (xN xT qJ) λf H Q b=>by
  obtain⟨c,A,d,v,g,rl,h,e,k⟩:=b;cases e;exact⟨i,rfl,k c H _ (aG.refl _ _) rl (.int _)⟩
theorem Be{o e:Expr}{d:ED}{h b:Pos}(I:Pe X cm o d)(he:Pe X cm e (eK (.int 0)))
 (J:attributeBase o "pop" X.env (eval o X.env)=eval o X.env:=by rfl) (hs:starEach [e] X.env=(false,eval e X.env)::starEach [] X.env:=by exact E9 rfl)
 (hfew:((backTo b (starEach [e] X.env)).all (λx=>!x.1)&&(backToKw b (keywordEach [] X.env)).all (λx=>x.1.isSome)&&decide ([e].length+([]:List Nz).length+(if([]:List Nz).isEmpty then 0 else 1)<30))=true:=by rfl)
 (hline:(h.endLine == b.line)=true:=by rfl):Pe X cm (.Call (.Attribute o "pop" h) [e] [] b) (nu d):=
 E1 (mN Mt PySem.F.slot_list_pop PySem.F.type_list_pop zb I (af he ak hs) (hbase:=J) (hfew:=hfew) (hline:=hline) (hs:=hs)) λσ H Q L=>by
  obtain⟨N,A,i,v,A',rl,C,O,k⟩:=L;obtain⟨x,T,U,j⟩:=B0 O;refine⟨N,A,i,x,T,rl,C,U,λq H1 v1 D l m=>?_⟩;cases x with
  | ref n=>
    obtain⟨Y,A2,E,p⟩:=B0 j;have s:=E;obtain⟨rfl,hA,a,xs,rfl,hn,hH,r0⟩:=N5 l m E;refine⟨.inl ⟨rfl,xs,bu.of hH⟩,q,_,i,[.int 0],_,l,C.mono D,rfl,λu H2 a3 G c w=>?_⟩;cases w with
    | cons hv hr=>
      cases hr;cases hv;obtain⟨_,f,a2,ys,e5,g,z,r2⟩:=N5 c (m.mono G) s;cases e5;cases Y with
      | nil=>cases p
      | cons y r=>
        cases p;cases r2 with
        | cons hy B=>
          refine⟨a,_,0,0,_,rfl,rfl,z,by omega,by omega,by unfold seqIndex?;simp,rfl,?_⟩;refine k u _ _ ((D.trans G).trans (aG.put c g f rfl)) (c.put g f rfl rfl ⟨_,C7,?_⟩) (hy.mono (aG.put c g f rfl));exact B.mono (aG.put c g f rfl)
  | _=>cases j
end
end Ws
namespace Ws
open PySem PySem.W PyProof.Rows L2
section
variable{X:Cx}{cm:Nat->Addr}
noncomputable def Bf(K:Iw):List V->Hp->VK->Prop:=λc H Q=>∃(a:Addr)(b:List V),c=[.ref a]/\bu K H a b/\∀p,H p=none->Q (.ref p) (aI H p (.tup b))
theorem Bg:bg X (.type "tuple") (Bf X.K):=by
 intro d s v H w x Q I r h;obtain⟨a,j,rfl,k,q⟩:=h;obtain⟨u,rfl,l⟩:=o6 r;cases l;obtain⟨c,f,m,g⟩:=I.list k;have n:=f.length;refine call_tuple_list m.isList (λy p=>?_) (by rw[IP,<-n];exact g);have i:=I.kept (t':=s.toks) p;exact⟨.ref _,_,i.laid (o:=.tup j) (λb o e=>Iu _ e) (IC _) ⟨g,c,f,_,IG _ rfl,rfl,_,rfl⟩,rfl,q _ (i.hok.fresh (IC _))⟩
theorem tH{e:Expr}{d:ED}{p pos:Pos}(he:Pe X cm e d)(r:Gl X "tuple")(s:X.mg "tuple" = none)(b:bootBuiltins "tuple" = some (.type "tuple"))(hs:starEach [e] X.env=(false,eval e X.env)::starEach [] X.env:=by exact E9 rfl):Pe X cm (.Call (.Name "tuple" p) [e] [] pos) (w9 d):=
 E1 (mL Bg r s b (af he ak hs) (he:=hs)) λB H Q h=>j0 (λ_=>rfl) (λf A H x z A' v Q rl u j k=>by
  cases x with
  | ref n=>
    obtain⟨l,A1,w,g⟩:=B0 j;obtain⟨rfl,a,m,rfl,y,b⟩:=M8 rl u w;obtain⟨c,i⟩:=C5 g;cases i;refine⟨a,m,rfl,y,λp o=>?_⟩;have q:aG f H f (aI H p (.tup m)):=aG.same o;exact k f _ _ q (rl.tup o) (.tup C7 (b.mono q))
  | _=>cases j) h
theorem Bh{o e:Expr}{d u:ED}{p f:Pos}(ho:Pe X cm o d)(he:Pe X cm e u)
 (hb:attributeBase o "extend" X.env (eval o X.env)=eval o X.env:=by rfl) (hs:starEach [e] X.env=(false,eval e X.env)::starEach [] X.env:=by exact E9 rfl)
 (hfew:((backTo f (starEach [e] X.env)).all (λx=>!x.1)&&(backToKw f (keywordEach [] X.env)).all (λx=>x.1.isSome)&&decide ([e].length+([]:List Nz).length+(if([]:List Nz).isEmpty then 0 else 1)<30))=true:=by rfl)
 (hline:(p.endLine == f.line)=true:=by rfl):Pe X cm (.Call (.Attribute o "extend" p) [e] [] f) (nv d u):=
 E1 (mN Mt PySem.F.slot_list_extend PySem.F.type_list_extend za ho (af he ak hs) (hbase:=hb) (hfew:=hfew) (hline:=hline) (hs:=hs)) λσ H Q hq=>by
  obtain⟨ρ,A,q,v,A',rl,O,ev,k⟩:=hq;obtain⟨x,A1,e1,r⟩:=B0 ev;refine⟨ρ,A,q,x,A1,rl,O,e1,λB H1 v1 T s w=>?_⟩;cases x with
  | ref n=>
    obtain⟨l0,A2,e2,C⟩:=B0 r;obtain⟨rfl,hA,a,xs,rfl,hn,hH,r0⟩:=N5 s w e2;refine⟨.inl ⟨rfl,xs,bu.of hH⟩,?_⟩;obtain⟨y,A3,e3,z⟩:=B0 C;refine⟨B,_,q,[y],A3,s,O.mono T,by show av _ _ _=_;rw[aA e3];rfl,λD H2 b5 U g E=>?_⟩;cases E with
    | cons hv hr=>
      cases hr;cases y with
      | ref j=>
        obtain⟨l,A4,e4,G⟩:=B0 z;obtain⟨rfl,h,a2,ys,e5,i,I,Y⟩:=N5 g (w.mono U) e4;cases e5;obtain⟨m,A5,e6,J⟩:=B0 G;obtain⟨rfl,d2,b,zs,rfl,e7,L,r3⟩:=N5 g hv e6;obtain⟨c,N⟩:=C5 J;cases N;refine⟨a,b,ys,zs,rfl,rfl,I,L,by rw[<-Y.length,<-r3.length];exact W9 c,?_⟩;refine k D _ _ ((T.trans U).trans (aG.put g i h rfl)) (g.put i h rfl rfl ⟨_,C7,?_⟩) .non;exact(Y.mono (aG.put g i h rfl)).append (r3.mono (aG.put g i h rfl))
      | _=>cases z
  | _=>cases r
end
section
variable{prog:IV}{w:JB}{A:Jx}{E:Iv->IA->Prop}{s:IA}
theorem Bi{c t:Addr}{i:Nat}{a:Array Iv}{x:Iv}{Q:Iv->IA->Prop}(e:s.heap.IsTupleIter c t i)(k:s.heap.IsTuple t a)(l:a[i]?=some x)
 (m:∀f,f.IsTupleIter c t (i+1)->JS c s.heap f->Q x { s with heap:=f }):wpAny (model prog w) A (Lh (.ref c)) Q E s:=by
 obtain⟨o,d,n,b⟩:=id e;obtain⟨p,g,_,q,h⟩:=k;refine Ir (JZ e.typeIs Lb (JL Lb e.typeIs NC ?_ (Np _)));show wpAny _ _ (field _ 0>>=_) _ _ s;refine Ir (JJ d b (x:=.ref t) rfl ?_);refine Ir (JJ d b rfl ?_);refine Ir (Kr g h ?_);simp only[LQ,l];refine Ir (Lw d b (by simp) (Iy ⟨x,rfl,Iy (m _ ⟨_,JF _ d (Lg (JT b _)),(Om ..).trans n,by rw[JT b];simp[rawInt]⟩ (JI ..))⟩))
theorem Bj{c t:Addr}{i:Nat}{b:Array Iv}{Q:Iv->IA->Prop}(l:A.handled=none)(d:s.heap.IsTupleIter c t i)(p:s.heap.IsTuple t b)(q:b[i]?=none)
 (r:∀f e,QA c s.heap f->(∃o,f.get? e=some o/\o.cls=.type "StopIteration")->E (.ref e) { s with heap:=f }):wpAny (model prog w) A (Lh (.ref c)) Q E s:=by
 obtain⟨o,g,u,h⟩:=id d;obtain⟨v,j,_,y,k⟩:=p;refine Ir (JZ d.typeIs Lb (JL Lb d.typeIs NC ?_ (Np _)));show wpAny _ _ (field _ 0>>=_) _ _ s;refine Ir (JJ g h (x:=.ref t) rfl ?_);refine Ir (JJ g h rfl ?_);refine Ir (Kr j k ?_);simp only[LQ,q];refine Ir (Oo (Ir (Lw g h (by simp) ?_)));refine Ir ?_;refine Ir (m:=firstArgMember _ _) (QC (a:=Km) rfl ?_);refine Lo ?_ (by size_fits);refine Ir (wpAny_handled ?_);first | rw[show _=none from l] | rw[l]
 refine Ir (Iy (wpAny_throw ?_));exact r _ _ (((JI ..).extBut.push _).push _) ⟨_,IG _ rfl,rfl⟩
def bb(k:Bool)(h:Heap)(a l:Addr)(i:Nat):Prop:=match k with
 | true=>h.IsTupleIter a l i
 | false=>h.IsListIter a l i
def SeqAt(k:Bool)(h:Heap)(l:Addr)(a:Array Iv):Prop:=match k with
 | true=>h.IsTuple l a
 | false=>h.IsList l a
theorem bb.at{k:Bool}{h h':Heap}{a l:Addr}{i:Nat}(x:bb k h a l i)(e:∀o,h.get? a=some o->h'.get? a=some o):bb k h' a l i:=by
 cases k with
 | true=>exact Heap.IsTupleIter.at x e
 | false=>exact Heap.IsListIter.at x e
theorem SeqAt.at{k:Bool}{h h':Heap}{l:Addr}{a:Array Iv}(x:SeqAt k h l a)(e:∀o,h.get? l=some o->h'.get? l=some o):SeqAt k h' l a:=by
 cases k with
 | true=>obtain⟨o,b,c⟩:=x;exact⟨o,e o b,c⟩
 | false=>exact Heap.IsList.at x e
theorem bb.obj{k:Bool}{h:Heap}{a l:Addr}{i:Nat}(x:bb k h a l i):∃o b,h.get? a=some o/\o.data=.fields b:=by
 cases k with
 | _=>obtain⟨o,c,_,d⟩:=x;exact⟨o,_,c,d⟩
theorem SeqAt.lt{k:Bool}{h:Heap}{l:Addr}{a:Array Iv}(x:SeqAt k h l a):l<h.objs.size:=by
 cases k with
 | _=>obtain⟨o,b,_⟩:=x;exact II b
theorem n4{k:Bool}{b t:Addr}{i:Nat}{a:Array Iv}{x:Iv}{Q:Iv->IA->Prop}(d:bb k s.heap b t i)(e:SeqAt k s.heap t a)(f:a[i]?=some x)
 (g:∀c,bb k c b t (i+1)->JS b s.heap c->Q x { s with heap:=c }):wpAny (model prog w) A (Lh (.ref b)) Q E s:=by
 cases k with
 | true=>exact Bi d e f g
 | false=>exact wpAny_nextOf_list_item d e f g
theorem lC{k:Bool}{b t:Addr}{i:Nat}{a:Array Iv}{Q:Iv->IA->Prop}(d:A.handled=none)(f:bb k s.heap b t i)(g:SeqAt k s.heap t a)(h:a[i]?=none)
 (j:∀c e,QA b s.heap c->(∃o,c.get? e=some o/\o.cls=.type "StopIteration")->E (.ref e) { s with heap:=c }):wpAny (model prog w) A (Lh (.ref b)) Q E s:=by
 cases k with
 | true=>exact Bj d f g h j
 | false=>exact wpAny_nextOf_list_end d f g h j
noncomputable def jV(k:Bool)(l:Addr):Obj:={ cls:=.type (match k with | true=>"tuple_iterator" | false=>"list_iterator"),data:=.fields #[.ref l,.int 0 0] }
theorem tI(k:Bool)(h:Heap)(l:Addr):bb k (h.push (jV k l)) h.objs.size l 0:=by
 cases k with
 | _=>exact⟨_,IG _ rfl,rfl,rfl⟩
theorem tJ{k:Bool}{l:Addr}{a:Array Iv}{Q:Iv->IA->Prop}(b:SeqAt k s.heap l a)(c:Q (.ref s.heap.objs.size) { s with heap:=s.heap.push (jV k l) }):wpAny (model prog w) A (pyIter (.ref l)) Q E s:=by
 cases k with
 | true=>exact Mo b c
 | false=>exact KY b c
def oN(h:Heap)(z TI TO:Addr):Prop:=∃(a:Iv)(e:Bool),(a=.none\/∃T:Addr,a=rawInt T)/\h.get? z=some { cls:=.type "zip",dict:=none,data:=.fields #[a,.bool e,.bool false,.ref TI,.ref TO],slots:=#[] }
abbrev lD(d:Iv)(e:Bool)(TI TO:Addr):Obj:={ cls:=.type "zip",dict:=none,data:=.fields #[d,.bool e,.bool false,.ref TI,.ref TO],slots:=#[] }
structure fq(k1 k2:Bool)(z TI TO i1 i2 l1 l2:Addr)(i:Nat)(h:Heap):Prop where
 zr:oN h z TI TO
 ti:QG h TI (.ref i1) (.ref i2)
 to:∃a b,QG h TO a b
 j1:bb k1 h i1 l1 i
 j2:bb k2 h i2 l2 i
abbrev Kp(z TO a b:Addr)(h h':Heap):Prop:=∀c o,c≠z->c≠TO->c≠a->c≠b->h.get? c=some o->h'.get? c=some o
structure ZA(z TI TO i1 i2 l1 l2:Addr):Prop where
 TIz:TI≠z
 TOz:TO≠z
 i1z:i1≠z
 i2z:i2≠z
 TITO:TI≠TO
 TIi1:TI≠i1
 TIi2:TI≠i2
 TOi1:TO≠i1
 TOi2:TO≠i2
 i12:i1≠i2
 l1z:l1≠z
 l1TO:l1≠TO
 l1i1:l1≠i1
 l1i2:l1≠i2
 l2z:l2≠z
 l2TO:l2≠TO
 l2i1:l2≠i1
 l2i2:l2≠i2
theorem fq.keep{f g:Bool}{z TI TO c d j l2:Addr}{i:Nat}{h h':Heap}(S:fq f g z TI TO c d j l2 i h)(k:∀b∈[z,TI,TO,c,d],∀o,h.get? b=some o->h'.get? b=some o):fq f g z TI TO c d j l2 i h':=by
 obtain⟨⟨l,m,n,p⟩,q,⟨a,b,r⟩,u,v⟩:=S;exact⟨⟨l,m,n,k z (by simp) _ p⟩,k TI (by simp) _ q,⟨a,b,k TO (by simp) _ r⟩,u.at λo e=>k c (by simp) o e,v.at λo e=>k d (by simp) o e⟩
theorem Bk{a:Addr}{Q:Option Obj->IA->Prop}(h:Q (s.heap.get? a) s):wpAny (model prog w) A (loadIfAlive a) Q E s:=λ_ _ _=>h
theorem tK{z TI TO:Addr}{Q:Bool->IA->Prop}(hz:oN s.heap z TI TO)(h:∀b c d a,c.get? z=some (lD d a TI TO)->(b=false->∃T:Addr,d=rawInt T)->JS z s.heap c->Q b { s with heap:=c }) :
 wpAny (model prog w) A (KL.SmallTypes.ownedTupleIsFree (.ref z)) Q E s:=by
 obtain⟨d,a,j,hz⟩:=hz;rcases j with rfl | ⟨T,rfl⟩
 .exact Ir (JJ hz rfl rfl (Iy (h true _ _ _ hz (by simp) ⟨rfl,λ_ _=>rfl⟩)))
 .refine Ir (JJ hz rfl rfl ?_);refine Ir (Bk ?_);by_cases i:(s.heap.get? ((T:Int).toNat)).isNone=true
  .rw[if_pos i];exact Iy (h true _ _ _ hz (by simp) ⟨rfl,λ_ _=>rfl⟩)
  .rw[if_neg i];refine Ir (JJ hz rfl (x:=.bool a) rfl ?_);cases a with
   | true=>
     exact Iy (h false _ _ _ hz (λ_=>⟨T,rfl⟩) ⟨rfl,λ_ _=>rfl⟩)
   | false=>
     refine Ir (Kt hz (by simp) λk e f=>Iy (h false k _ true e (λ_=>⟨T,rfl⟩) f))
theorem Bl{k1 k2:Bool}{z TI TO i1 i2 l1 l2:Addr}{k:Nat}{xs ys:Array Iv}{x y:Iv}{Q:Iv->IA->Prop}(D:ZA z TI TO i1 i2 l1 l2)(S:fq k1 k2 z TI TO i1 i2 l1 l2 k s.heap)
 (e6:SeqAt k1 s.heap l1 xs) (e7:SeqAt k2 s.heap l2 ys) (hx:xs[k]?=some x) (hy:ys[k]?=some y)
 (hQ:∀h',fq k1 k2 z TI TO i1 i2 l1 l2 (k+1) h'->QG h' s.heap.objs.size x y->Kp z TO i1 i2 s.heap h'->Q (.ref s.heap.objs.size) { s with heap:=h' }) :
 wpAny (model prog w) A (KL.«zip.__next__» ⟨[.ref z],[]⟩) (λfin s'=>∃v,fin=.done (.ret v)/\Q v s') E s:=by
 obtain⟨hz,a2,⟨a,b,e8⟩,h1,h2⟩:=S;obtain⟨g0,g1,_,b5⟩:=id hz;show wpAny _ _ (field _ 2>>=_) _ _ _;refine Ir (JJ b5 rfl (x:=.bool false) rfl ?_);refine Ir (JJ b5 rfl rfl ?_);refine Ir (Kr a2 rfl ?_);refine Ir (tK hz λfr h0 f0 f1 a3 e9 m=>?_);have a0:=m.extBut _ _ D.TOz e8;have j1:=h1.at λo e=>m.extBut _ _ D.i1z e;have j2:=h2.at λo e=>m.extBut _ _ D.i2z e;have q1:=e6.at λo e=>m.extBut _ _ D.l1z e;have q2:=e7.at λo e=>m.extBut _ _ D.l2z e;cases fr with
 | true=>
   simp only[if_true];refine Ir (Oo ?_);refine Ir (JJ a3 rfl rfl ?_);refine Ir (Kt a3 (by simp) λc0 p g=>?_);replace p:c0.get? z=some _:=p;refine Ir ?_;simp only[List.zipIdx_cons,List.zipIdx_nil,List.forIn_cons,List.forIn_nil];refine Ir (Ir (OI ?_));refine Ir (n4 (j1.at λo e=>g.extBut _ _ D.i1z e) (q1.at λo e=>g.extBut _ _ D.l1z e) hx λd1 q d=>Iy ?_);have C:=d.extBut _ _ D.TOi1 (g.extBut _ _ D.TOz a0);refine Ir (Kr C rfl ?_);refine Ir (Nk C λd2 n h=>?_);replace n:QG d2 TO x b:=n;refine Ir (QD (Iy ?_));refine Ir (Ir (OI ?_));refine Ir (n4 (j2.at λo e=>h.extBut _ _ D.TOi2.symm (d.extBut _ _ D.i12.symm (g.extBut _ _ D.i2z e))) (q2.at λo e=>h.extBut _ _ D.l2TO (d.extBut _ _ D.l2i1 (g.extBut _ _ D.l2z e))) hy λG r f=>Iy ?_);have H:=f.extBut _ _ D.TOi2 n;refine Ir (Kr H rfl ?_);refine Ir (Nk H λl i j=>?_);replace i:QG l TO x y:=i;refine Ir (QD (Iy (Iy ?_)));refine Ir (Kr i rfl ?_);have a4:l.objs.size=s.heap.objs.size:=by rw[j.1,f.1,h.1,d.1,g.1,m.1]
   have J:=j.extBut _ _ D.TOz.symm (f.extBut _ _ D.i2z.symm (h.extBut _ _ D.TOz.symm (d.extBut _ _ D.i1z.symm p)));have L:Kp z TO i1 i2 _ l:=λc o I c2 c3 c4 e=>
    j.extBut _ _ c2 (f.extBut _ _ c4 (h.extBut _ _ c2 (d.extBut _ _ c3 (g.extBut _ _ I (m.extBut _ _ I e)))))
   have a8:=q.at λo e=>j.extBut _ _ D.TOi1.symm (f.extBut _ _ D.i12 (h.extBut _ _ D.TOi1.symm e));have a9:=r.at λo e=>j.extBut _ _ D.TOi2.symm e;have a1:=II J;show wpAny _ _ (KL.SmallTypes.ownedTupleHandOut (.ref z) (.ref l.objs.size)>>=_) _ _ _;refine Ir ?_;have b0:(l.push { cls:=.type "tuple",data:=.seq #[x,y] }).get? z=some _:=Iu _ J;refine Ir (Kt b0 (by simp) λe0 u N=>?_);replace u:e0.get? z=some (lD _ f1 TI TO):=u;refine Kt u (by simp) λO B U=>?_;replace B:O.get? z=some _:=B;have up:∀c o,c≠z->l.get? c=some o->O.get? c=some o:=λc o I e=>U.extBut _ _ I (N.extBut _ _ I (Iu _ e));have Y:=U.extBut _ _ (KS a1) (N.extBut _ _ (KS a1) (IG _ rfl));refine Iy ⟨_,rfl,?_⟩;rw[a4]at Y ⊢;exact hQ O ⟨⟨_,_,.inr ⟨_,rfl⟩,B⟩,up _ _ D.TIz (L _ _ D.TIz D.TITO D.TIi1 D.TIi2 a2),⟨_,_,up _ _ D.TOz i⟩,a8.at λo e=>up _ o D.i1z e,a9.at λo e=>up _ o D.i2z e⟩ Y λc o I c2 c3 c4 e=>up c o I (L c o I c2 c3 c4 e)
 | false=>
   obtain⟨T,hT⟩:=e9 rfl;refine Ir ?_;refine Ir (Ir (JC ?_));refine Ir (n4 j1 q1 hx λd1 q d=>Iy (Iy ?_));refine Ir (Ir (JC ?_));refine Ir (n4 (j2.at λo e=>d.extBut _ _ D.i12.symm e) (q2.at λo e=>d.extBut _ _ D.l2i1 e) hy λG r f=>Iy (Iy (Iy ?_)));refine Ir (wpAny_newTuple ?_ (by show 2<=sizeLine;decide));have a4:G.objs.size=s.heap.objs.size:=by rw[f.1,d.1,m.1]
   refine Iy ⟨_,rfl,?_⟩;have hk:Kp z TO i1 i2 _ G:=λc o I c2 c3 c4 e=>f.extBut _ _ c4 (d.extBut _ _ c3 (m.extBut _ _ I e));have b1:=f.extBut _ _ D.i2z.symm (d.extBut _ _ D.i1z.symm a3);have hp:QG _ G.objs.size x y:=IG _ rfl;rw[a4]at hp ⊢;refine hQ _ ⟨⟨_,_,.inr ⟨T,hT⟩,Iu _ b1⟩,Iu _ (hk _ _ D.TIz D.TITO D.TIi1 D.TIi2 a2),⟨a,b,Iu _ (f.extBut _ _ D.TOi2 (d.extBut _ _ D.TOi1 a0))⟩,
    q.at λo e=>Iu _ (f.extBut _ _ D.i12 e),r.at λo e=>Iu _ e⟩ hp λc o I c2 c3 c4 e=>Iu _ (hk c o I c2 c3 c4 e)
theorem Bm{k1 k2:Bool}{z TI TO i1 i2 l1 l2:Addr}{k:Nat}{xs ys:Array Iv}{Q:Fin->IA->Prop}(hh:A.handled=none)(D:ZA z TI TO i1 i2 l1 l2)(S:fq k1 k2 z TI TO i1 i2 l1 l2 k s.heap)
 (b1:SeqAt k1 s.heap l1 xs) (b2:SeqAt k2 s.heap l2 ys) (B:xs[k]?=none\/ys[k]?=none)
 (hE:∀h' e,Kp z TO i1 i2 s.heap h'->(∃o,h'.get? e=some o/\o.cls=.type "StopIteration")->E (.ref e) { s with heap:=h' }) :
 wpAny (model prog w) A (KL.«zip.__next__» ⟨[.ref z],[]⟩) Q E s:=by
 obtain⟨hz,b5,⟨a,b,c0⟩,h1,h2⟩:=S;obtain⟨g0,g1,_,O⟩:=id hz;show wpAny _ _ (field _ 2>>=_) _ _ _;refine Ir (JJ O rfl (x:=.bool false) rfl ?_);refine Ir (JJ O rfl rfl ?_);refine Ir (Kr b5 rfl ?_);refine Ir (tK hz λfr h0 f0 f1 T f3 i=>?_);have U:=i.extBut _ _ D.TOz c0;have j1:=h1.at λo e=>i.extBut _ _ D.i1z e;have j2:=h2.at λo e=>i.extBut _ _ D.i2z e;have q1:=b1.at λo e=>i.extBut _ _ D.l1z e;have q2:=b2.at λo e=>i.extBut _ _ D.l2z e;cases fr with
 | true=>
   simp only[if_true];refine Ir (Oo ?_);refine Ir (JJ T rfl rfl ?_);refine Ir (Kt T (by simp) λY j f=>?_);replace j:Y.get? z=some (lD .ellipsis f1 TI TO):=j;refine Ir ?_;simp only[List.zipIdx_cons,List.zipIdx_nil,List.forIn_cons,List.forIn_nil];refine Ir (Ir (OI ?_));cases H:xs[k]? with
   | none=>
     refine Ir (lC hh (j1.at λo e=>f.extBut _ _ D.i1z e) (q1.at λo e=>f.extBut _ _ D.l1z e) H λn e d I=>?_);obtain⟨oe,m,q⟩:=I;have r:=d _ _ D.i1z.symm j;have J:e≠z:=λx=>by subst x;rw[r]at m;cases m;simp at q
     refine Kt r (by simp) λC _ g=>hE C e (λc o u _ L _ x=>g.extBut _ _ u (d _ _ L (f.extBut _ _ u (i.extBut _ _ u x)))) ⟨oe,g.extBut _ _ J m,q⟩
   | some x=>
     have hy:ys[k]?=none:=by rcases B with h | h;· rw[H]at h;cases h
                             .exact h
     refine Ir (n4 (j1.at λo e=>f.extBut _ _ D.i1z e) (q1.at λo e=>f.extBut _ _ D.l1z e) H λn N d=>Iy ?_);have p:=d.extBut _ _ D.TOi1 (f.extBut _ _ D.TOz U);refine Ir (Kr p rfl ?_);refine Ir (Nk p λC a7 g=>?_);refine Ir (QD (Iy ?_));refine Ir (Ir (OI ?_));refine Ir (lC hh (j2.at λo e=>g.extBut _ _ D.TOi2.symm (d.extBut _ _ D.i12.symm (f.extBut _ _ D.i2z e))) (q2.at λo e=>g.extBut _ _ D.l2TO (d.extBut _ _ D.l2i1 (f.extBut _ _ D.l2z e))) hy λG e l I=>?_);obtain⟨oe,m,q⟩:=I;have v:=l _ _ D.i2z.symm (g.extBut _ _ D.TOz.symm (d.extBut _ _ D.i1z.symm j));have J:e≠z:=λx=>by subst x;rw[v]at m;cases m;simp at q
     refine Kt v (by simp) λa0 _ y=>hE a0 e (λc o u c2 L c4 x=>y.extBut _ _ u (l _ _ c4 (g.extBut _ _ c2 (d.extBut _ _ L (f.extBut _ _ u (i.extBut _ _ u x)))))) ⟨oe,y.extBut _ _ J m,q⟩
 | false=>
   refine Ir ?_;refine Ir (Ir (JC ?_));cases H:xs[k]? with
   | none=>exact Ir (lC hh j1 q1 H λn e d I=>hE n e (λc o u _ L _ x=>d _ _ L (i.extBut _ _ u x)) I)
   | some x=>
     have hy:ys[k]?=none:=by rcases B with h | h;· rw[H]at h;cases h
                             .exact h
     refine Ir (n4 j1 q1 H λn N d=>Iy (Iy ?_));refine Ir (Ir (JC ?_));exact Ir (lC hh (j2.at λo e=>d.extBut _ _ D.i12.symm e) (q2.at λo e=>d.extBut _ _ D.l2i1 e) hy λG e l I=>hE G e (λc o u _ L c4 x=>l _ _ c4 (d.extBut _ _ L (i.extBut _ _ u x))) I)
theorem Bn{e f:Bool}{z TI TO b c d l2:Addr}{k:Nat}{j l:Array Iv}{x y:Iv}{Q:Option Iv->IA->Prop}(D:ZA z TI TO b c d l2)(S:fq e f z TI TO b c d l2 k s.heap)
 (g:SeqAt e s.heap d j) (i:SeqAt f s.heap l2 l) (o:j[k]?=some x) (p:l[k]?=some y)
 (q:∀a,fq e f z TI TO b c d l2 (k+1) a->QG a s.heap.objs.size x y->Kp z TO b c s.heap a->Q (some (.ref s.heap.objs.size)) { s with heap:=a }) :
 wpAny (model prog w) A (pyNext (.ref z)) Q E s:=by
 have n:s.TypeIs (.ref z) "zip":=by obtain⟨_,_,_,h⟩:=S.zr;exact⟨_,h,rfl⟩
 refine Ir (OJ (JZ n Mv (JL Mv n F.entry_zip_next (Bl D S g i o p λa r u v=>Iy (q a r u v)) (F.args_zip_next_1 _))))
theorem Bo{j l:Bool}{z TI TO b c d l2:Addr}{k:Nat}{m n:Array Iv}{Q:Option Iv->IA->Prop}(r:A.handled=none)(D:ZA z TI TO b c d l2)(S:fq j l z TI TO b c d l2 k s.heap)
 (f:SeqAt j s.heap d m) (g:SeqAt l s.heap l2 n) (a:m[k]?=none\/n[k]?=none) (u:∀i,Kp z TO b c s.heap i->Q none { s with heap:=i }) :
 wpAny (model prog w) A (pyNext (.ref z)) Q E s:=by
 have q:s.TypeIs (.ref z) "zip":=by obtain⟨_,_,_,h⟩:=S.zr;exact⟨_,h,rfl⟩
 refine Ir (OJ (JZ q Mv (JL Mv q F.entry_zip_next (Bm r D S f g a λi e v x=>?_) (F.args_zip_next_1 _))));obtain⟨o,y,B⟩:=x;exact Ir (OS ⟨o,y,B⟩ isSubtype_stop (Iy (u _ v)))
theorem Bp{q r:Bool}{g:Expr}{z TI TO h i j l2 T:Addr}{k:Nat}{Q:Unit->IA->Prop}(H:∀u p,g≠.List u p)(D:ZA z TI TO h i j l2)(S:fq q r z TI TO h i j l2 k s.heap)
 (v:∀f,fq q r z TI TO h i j l2 k f->JS z s.heap f->Q () { s with heap:=f }) :
 wpAny (model prog w) A (letOwnedTupleGo g (.ref z) (.ref T)) Q E s:=by
 have y:=v _ S ⟨rfl,λ_ _=>rfl⟩;cases g with
 | Tuple B N pos=>
   obtain⟨⟨I,C,O,G⟩,l,⟨a,b,m⟩,J,L⟩:=S;refine Ir (wpAny_load G ?_);by_cases c:(["enumerate","zip","dict_itemiterator","dict_reverseitemiterator","odict_iterator","itertools.zip_longest","itertools.pairwise"].contains "zip"&&(#[I,.bool C,.bool false,.ref TI,.ref TO])[0]? == some (rawInt T))=true
   .show wpAny _ _ (if _ then _ else _) Q E s;rw[if_pos c];refine Kt G (by simp) λf n d=>v f ⟨⟨.none,C,.inl rfl,n⟩,d.extBut _ _ D.TIz l,⟨a,b,d.extBut _ _ D.TOz m⟩,J.at λo e=>d.extBut _ _ D.i1z e,L.at λo e=>d.extBut _ _ D.i2z e⟩ d
   .show wpAny _ _ (if _ then _ else _) Q E s;rw[if_neg c];exact Iy y
 | List u p=>exact absurd rfl (H _ _)
 | _=>exact Iy y
theorem tL{z TI TO:Addr}{Q:Iv->IA->Prop}(hz:oN s.heap z TI TO)(h:Q (.ref z) s):wpAny (model prog w) A (pyIter (.ref z)) Q E s:=by
 have a:s.TypeIs (.ref z) "zip":=by obtain⟨_,_,_,h⟩:=hz;exact⟨_,h,rfl⟩
 refine wpAny_pyIter_slot a F.slot_zip_iter (JL F.slot_zip_iter a F.entry_zip_iter ?_ (F.args_zip_iter_1 _));exact Iy ⟨_,rfl,"zip",_,a,Mv.lookup,h⟩
end
section
variable{X:Cx}{cm:Nat->Addr}
theorem jo{k:Bool}{c:List (Addr×Obj)}{σ:L2.St}{H:Hp}{s:IA}{a:Addr}{d:List V}(I:L2.Inv X c σ H s)(h:fh k X.K H a d):∃b:List Iv,aH d b/\SeqAt k s.heap a b.toArray:=by
 cases k with
 | true=>obtain⟨b,r,p,_⟩:=I.tuple h;exact⟨b,r,p⟩
 | false=>obtain⟨b,r,p,_⟩:=I.list h;exact⟨b,r,p.isList⟩
theorem tM{k:Bool}{b:List (Addr×Obj)}{σ:L2.St}{H:Hp}{s:IA}{a:Addr}{c d:List V}(I:L2.Inv X b σ H s)(h:fh k X.K H a c)(h':fh k X.K H a d):c=d:=by
 cases k with
 | true=>exact I.tuple_inj h h'
 | false=>exact I.list_inj h h'
end
theorem Bq{P:IV}{w:JB}{K:Iw}{tg:Expr}(ht:∀es p,tg≠.List es p)(k1 k2:Bool)(a b z TI TO i1 i2:Addr)(D:ZA z TI TO i1 i2 a b) :
 iy P w K tg (nQ K k1 k2 a b) [z,TI,TO,i1,i2] z (λi h=>fq k1 k2 z TI TO i1 i2 a b i h) where
 mem:=by simp
 obj:=λi h S c hc=>by
  obtain⟨⟨f0,f1,_,hz⟩,ti,⟨x,y,to⟩,j1,j2⟩:=S;simp only[IH,JO,or_false]at hc;rcases hc with rfl | rfl | rfl | rfl | rfl
  .exact⟨_,hz,λv z=>by cases z⟩
  .exact⟨_,ti,λv z=>by cases z⟩
  .exact⟨_,to,λv z=>by cases z⟩
  .obtain⟨o,vs,h1,h2⟩:=j1.obj;exact⟨o,h1,λv z=>by rw[h2]at z;cases z⟩
  .obtain⟨o,vs,h1,h2⟩:=j2.obj;exact⟨o,h1,λv z=>by rw[h2]at z;cases z⟩
 keep:=λi h h' S k=>S.keep k
 item:=by
  intro X hP hw hK hc i pins s σ H E I hf S hg;subst hP hw hK;obtain⟨xs,ys,x,y,hq1,hq2,hx,hy⟩:=hg;obtain⟨its1,r1,p1⟩:=jo I hq1;obtain⟨its2,r2,p2⟩:=jo I hq2;obtain⟨u,hu,ru⟩:=r1.get hx;obtain⟨v,hv,rv⟩:=r2.get hy;refine Bn D S p1 p2 (by simpa using hu) (by simpa using hv) λh' S' hT hk=>?_;refine⟨.ref _,rfl,Bp ht D S' λh2 S2 hs2=>?_⟩;have zlt:z<s.heap.objs.size:=by obtain⟨_,_,_,e⟩:=S.zr;exact II e
  have I2:L2.Inv X pins σ (aI H s.heap.objs.size (.tup [x,y])) { s with heap:=h2 }:=by
   refine sQ I hf (λb u hb q=>?_) (IC _) ?_
   .have n1:b≠z:=λe=>hb (by simp[e]);exact hs2.extBut _ _ n1 (hk b u n1 (λe=>hb (by simp[e])) (λe=>hb (by simp[e])) (λe=>hb (by simp[e])) q)
   .exact⟨by show 2<=sizeLine;decide,[u,v],.cons ru (.cons rv .nil),_,hs2.extBut _ _ (KS zlt) hT,rfl,_,rfl⟩
  refine⟨.ref _,aI H _ _,I2,rfl,⟨x,y,_,λzs hz=>by rw[tM I hz hq1];exact hx,λzs hz=>by rw[tM I hz hq2];exact hy,I.hok.fresh (IC _),rfl,rfl⟩,S2,λb hb=>?_⟩;rw[aq]
  .exact(hf b hb).1
  .intro e;subst e;have:∃o,s.heap.get? s.heap.objs.size=some o:=by
    obtain⟨⟨f0,f1,_,hz⟩,ti,⟨x,y,to⟩,j1,j2⟩:=S;simp only[IH,JO,or_false]at hb;rcases hb with e | e | e | e | e
    .rw[e];exact⟨_,hz⟩
    .rw[e];exact⟨_,ti⟩
    .rw[e];exact⟨_,to⟩
    .rw[e];obtain⟨o,vs,h1,h2⟩:=j1.obj;exact⟨o,h1⟩
    .rw[e];obtain⟨o,vs,h1,h2⟩:=j2.obj;exact⟨o,h1⟩
   obtain⟨o,ho⟩:=this;exact absurd (II ho) (Ks _)
 done:=by
  intro X hP hw hK hc i pins s σ H E I hf S hg;subst hP hw hK;obtain⟨xs,ys,hq1,hq2,hx⟩:=hg;obtain⟨its1,r1,p1⟩:=jo I hq1;obtain⟨its2,r2,p2⟩:=jo I hq2;have l1:=r1.length;have l2:=r2.length;refine Bo (I.ok.hd hc) D S p1 p2 ?_ λh' hk=>⟨rfl,sR I hf λb u hb q=>hk b u (λe=>hb (by simp[e])) (λe=>hb (by simp[e])) (λe=>hb (by simp[e])) (λe=>hb (by simp[e])) q⟩;rcases hx with hx | hx
  .left;simp;omega
  .right;simp;omega
 self:=λ_ _ _ _ _ S h=>tL S.zr h
abbrev lE(a:Bool)(h:Heap)(b:Addr):Heap:=h.push (jV a b)
abbrev lF(a b:Bool)(h:Heap)(c l2:Addr):Heap:=(lE a h c).push (jV b l2)
abbrev lG(a d:Bool)(h:Heap)(b l2:Addr):Heap:=(lF a d h b l2).push { cls:=.type "tuple",data:=.seq #[.ref h.objs.size,.ref (lE a h b).objs.size] }
abbrev lH(b c:Bool)(h:Heap)(d l2:Addr):Heap:=(lG b c h d l2).push { cls:=.type "tuple",data:=.seq #[.none,.none] }
abbrev jq(a b:Bool)(h:Heap)(c l2:Addr):Heap:=(lH a b h c l2).push (lD .none false (lF a b h c l2).objs.size (lG a b h c l2).objs.size)
theorem Br(b c:Bool)(a l2:Addr)(l m:Array Iv) :
 Meets (KL.«zip.__new__» ⟨[.type "zip",.ref a,.ref l2],[]⟩) (λ_ R s=>SeqAt b s.heap a l/\SeqAt c s.heap l2 m/\R (.ok (.ret (.ref (lH b c s.heap a l2).objs.size))) { s with heap:=jq b c s.heap a l2 }):=
 .of_wp λp w A R s h=>by
  obtain⟨q,g,d,r,os⟩:=s;obtain⟨f,i,h⟩:=h;have u:=sub_zip;have j:SeqAt b (IA.heap ⟨q,g,d,r,os⟩) a l:=f;have k:SeqAt c (IA.heap ⟨q.push (jV b a),g,d,r,os⟩) l2 m:=i.at λo e=>Iu _ e
  wp_walk using tJ j,tJ k
  exact⟨_,rfl,h⟩
section
variable{prog:IV}{w:JB}{A:Jx}{E:Iv->IA->Prop}{s:IA}
theorem Bs{b d:Bool}{a l2:Addr}{n p:Array Iv}{Q:Iv->IA->Prop}(f:SeqAt b s.heap a n)(g:SeqAt d s.heap l2 p)
 (h:∀i,fq b d (s.heap.objs.size+4) (s.heap.objs.size+2) (s.heap.objs.size+3) s.heap.objs.size (s.heap.objs.size+1) a l2 0 i->(∀c o,s.heap.get? c=some o->i.get? c=some o)->Q (.ref (s.heap.objs.size+4)) { s with heap:=i }) :
 wpAny (model prog w) A (call (.type "zip") [.ref a,.ref l2]) Q E s:=by
 refine callType_new F.called_zip rfl (F.typeCall_zip_2 _ _) (F.newCall_zip_2 _ _) (λobj=>F.args_object_init_3 obj _ _) F.entry_zip_new (Br b d a l2 n p) ⟨f,g,?_⟩;have j:(lE b s.heap a).objs.size=_+1:=JH ..;have k:(lF b d s.heap a l2).objs.size=s.heap.objs.size+2:=by rw[JH,j]
 have l:(lG b d s.heap a l2).objs.size=s.heap.objs.size+3:=by rw[JH,k]
 have r:(lH b d s.heap a l2).objs.size=s.heap.objs.size+4:=by rw[JH,l]
 have m:(jq b d _ a l2).get? (lH b d s.heap a l2).objs.size=some _:=IG _ rfl;have u:(jq b d _ a l2).get? (lG b d s.heap a l2).objs.size=some _:=Iu _ (IG _ rfl);have v:(jq b d _ a l2).get? (lF b d s.heap a l2).objs.size=some _:=Iu _ (Iu _ (IG _ rfl));have y:bb d (jq b d _ a l2) (lE b s.heap a).objs.size l2 0:=(tI d _ l2).at λo e=>Iu _ (Iu _ (Iu _ e));have z:bb b (jq b d _ a l2) _ a 0:=(tI b s.heap a).at λo e=>Iu _ (Iu _ (Iu _ (Iu _ e)));rw[k,l,r]at m;rw[j,k]at v;rw[l]at u;rw[j]at y;rw[r];exact⟨⟨_,m,rfl⟩,h _ ⟨⟨_,_,.inl rfl,m⟩,v,⟨_,_,u⟩,z,y⟩ λc o x=>Iu _ (Iu _ (Iu _ (Iu _ (Iu _ x))))⟩
end
section
variable{X:Cx}{cm:Nat->Addr}
theorem ik{a b U:Expr}{d e:ED}{p pos:Pos}(ht:∀es p,U≠.List es p)(hg:Gl X "zip")(hm:X.mg "zip" = none)(ha:Pe X cm a d)(hb:Pe X cm b e)
 (hs:starEach [a,b] X.env=(false,eval a X.env)::starEach [b] X.env:=by exact E9 rfl) (n:starEach [b] X.env=(false,eval b X.env)::starEach [] X.env:=by exact E9 rfl):L2.PI X U (.Call (.Name "zip" p) [a,b] [] pos) (gK X.K cm (kT d e)):=by
 intro o s σ H R I h;obtain⟨ρ,A,C,J,A',rl,rs,ev,k⟩:=h;obtain⟨x,Y,e1,D⟩:=B0 ev;obtain⟨y,A2,e2,E⟩:=B0 D;refine QT (V4 I hg hm (show bootBuiltins "zip" = some _ from by rfl) (callWith_type1 (aL ((af ha (af hb ak n) hs) pos o s σ H (λvs f=>∃a z b B,vs=[.ref a,.ref b]/\fh (kindOf x) X.K f a z/\fh (kindOf y) X.K f b B/\R (nQ X.K (kindOf x) (kindOf y) a b) f) I ⟨ρ,A,C,[x,y],A2,rl,rs,by show av _ _ A=_;rw[aA e1];show av (av _ _) _ Y=_;rw[aA (show av _ _ Y=.ok [y] A2 by rw[aA e2];rfl)];rfl,λG f e0 x1 g L=>?_⟩) λus i zq=>?_) hs (by rw[n];rfl)))
 .cases L with
  | cons hv hr=>
    cases hr with
    | cons u N=>
      cases N;obtain⟨l,A3,e3,O⟩:=B0 E;obtain⟨rfl,a,z,rfl,Q,r⟩:=Z6 g hv e3;obtain⟨m,A4,e4,T⟩:=B0 O;obtain⟨rfl,b,B,rfl,j,r2⟩:=Z6 g u e4;cases T;exact⟨a,z,b,B,rfl,Q,j,k G f _ x1 g ⟨a,b,hv,u,rfl⟩⟩
 .obtain⟨vs,f,v,r1,q1⟩:=zq;obtain⟨a,z,b,B,rfl,Q,j,q⟩:=q1;cases r1 with
  | cons h1 t1=>
    cases t1 with
    | cons h2 t2=>
      cases t2;cases h1;cases h2;obtain⟨a4,r1,p1⟩:=jo v Q;obtain⟨a5,r2,p2⟩:=jo v j;refine Bs p1 p2 λh' S kp=>?_;refine tL S.zr ?_;have I2:=v.kept (t':=i.toks) kp;have la:=p1.lt;have lb:=p2.lt;refine⟨i.heap.objs.size+4,[i.heap.objs.size+4,i.heap.objs.size+2,i.heap.objs.size+3,_,i.heap.objs.size+1],_,_,f,rfl,I2,Bq ht _ _ a b _ _ _ _ _ ?_,S,λc hc=>?_,q⟩
      .have la:@LT.lt Nat _ a _:=la;have lb:@LT.lt Nat _ b _:=lb;constructor<;>first | exact IL (by omega) | exact KS (by simp)
      .have w:i.heap.objs.size<=c:=by
        simp only[IH,JO,or_false]at hc;rcases hc with rfl | rfl | rfl | rfl | rfl
        .simp
        .simp
        .simp
        .simp
        .simp
       exact v.fpOk w (v.hok.fresh w)
end
abbrev fX(led:Bool):Obj:={ cls:=.type "set",dict:=none,data:=.set #[] 0 (.fresh 0 0 led) }
section
variable{prog:IV}{w:JB}{A:Jx}{E:Iv->IA->Prop}{s:IA}
set_option maxHeartbeats 3200000 in
theorem Bt{l:Addr}{a:Array Iv}{ns:List Int}{Q:Iv->IA->Prop}(hh:A.handled=none)(hl:s.heap.IsTuple l a)(hi:MZ a.toList ns)(J:a.size+1<scanBound)
 (h:∀(h':Heap)(L:Nat),h'.SetOf (intKind prog w) s.heap.objs.size (λO=>(firstMet (λi=>ns.getD i 0) a.size).any (·== O)) (firstMet (λi=>ns.getD i 0) a.size).length->(∀b o,b<s.heap.objs.size->s.heap.get? b=some o->h'.get? b=some o)->Q (.ref s.heap.objs.size) { s with heap:=h',toks:=L }) :
 wpAny (model prog w) A (call (.type "set") [.ref l]) Q E s:=by
 obtain⟨c,tl,a9⟩:=Jq.mro;have T:=Jq.made;have b0:=Jq.sub;refine MK (ND ?_);show wpAny _ _ (callAny (.type "set") _) _ _ _;refine Iy ⟨Mw _ (by decide +kernel),Lp OK ?_⟩;rw[Jx.under_plain (Px "set" [.ref l] []) rfl];have h1:=Jq.notType;have h2:=Jq.canCreate;have d1:=OZ (.ref l);repeat (any_goals (first | assumption | wp_step))
 refine KW (code_set_new_1 (.ref l) (E:=E) (Q₁:=λobj j=>∃led:Bool,obj=.ref s.heap.objs.size/\j={ s with heap:=s.heap.push (fX led) }) λled=>⟨led,rfl,rfl⟩) λr j U=>?_;cases r with
 | error e=>exact U
 | ok fl=>
   cases fl with
   | ret obj=>
     obtain⟨led,rfl,rfl⟩:=U;have hS:(s.heap.push (fX led)).get? s.heap.objs.size=some (fX led):=IG _ rfl;have hT:Mx { s with heap:=s.heap.push (fX led) } (.ref s.heap.objs.size) "set":=⟨_,hS,rfl⟩;have e1:=Jq.init.lookup;have e2:=Jq.init.bind (.ref s.heap.objs.size);repeat (any_goals (first | assumption | wp_step))
     refine KW (Nl (R:=wants (λr k=>r=.none/\∃h' L,k={ s with heap:=h',toks:=L }/\
      h'.SetOf (intKind prog w) s.heap.objs.size (λO=>(firstMet (λi=>ns.getD i 0) a.size).any (·== O)) (firstMet (λi=>ns.getD i 0) a.size).length/\
      (∀b o,b<s.heap.objs.size->s.heap.get? b=some o->h'.get? b=some o)) E) Jq.init.plain Pb (check_set_init_1 hT ?_)) λu k d=>?_
     .obtain⟨ol,x,y,nl,hdl⟩:=hl;obtain⟨b3,m,Y,g⟩:=ol;simp only at y hdl;subst y;subst hdl;have z:(s.heap.push (fX led)).get? l=some { cls:=.type "tuple",dict:=m,data:=.seq a nl,slots:=g }:=Iu _ x;have c0:=PySem.F.sub_tuple_set;have c1:=PySem.F.sub_tuple_frozenset;have e4:(Iv.type "tuple" == Iv.type "dict")=false:=by decide
      have C:(s.heap.push (fX led)).IsTuple l a:=⟨_,z,rfl,nl,rfl⟩;unfold KL.«set.__init__» noKeywords Nq;generalize a1:pyIter=PI
      wp_walk
      subst a1;refine Mo C ?_;refine Ir (wpAny_runValue ?_);have D:l<s.heap.objs.size:=II x;have a2:A.in1.in1.in1.handled=none:=by simp[hh]
      have G:l≠(s.heap.push (fX led)).objs.size:=by
       rw[JH];exact IL (Ko D)
      have a3:s.heap.objs.size∉[(s.heap.push (fX led)).objs.size,l]:=by
       rw[JH];simp only[IH,IK,JO,or_false,not_or];exact⟨IL (JX _),KS D⟩
      have H:∀(i:Nat)(v:Iv),a[i]?=some v->∃t,v=.int ((λi=>ns.getD i 0) i) t:=λi v hv=>MZ.int_at hi i v (by rw[Lf];exact hv);refine codeAny_set_update_loopS ((QV.tuple a2 _ l G a).toS) s.heap.objs.size a3 (λi=>ns.getD i 0) H J (a.size - 0) 0 _ (by omega) (Kl _)
       ⟨⟨_,IG _ rfl,rfl,rfl⟩,(C.push _)⟩ ?hS0 ?hR
      case hS0=>
       have I:((s.heap.push (fX led)).push { cls:=.type "tuple_iterator",data:=.fields #[.ref l,.int 0 0] }).get? s.heap.objs.size=some (fX led):=Iu _ hS;exact SetOf_congr ((setObjOf_fresh (knd:=intKind prog w) led).setOf I (by unfold scanBound;omega)) (λ_=>rfl) rfl
      case hR=>
       intro s' N n;obtain⟨h',g',d',a4,a5⟩:=s';have eg:g'=s.gens:=N.gens;have ed:d'=s.drawn:=N.drawn;have eo:a5=s.os:=N.os;subst eg;subst ed;subst eo;show wpAny _ _ _ _ _ _;refine Iy ?_;show wpAny _ _ (PySem.ret Km) _ _ _;refine Iy ⟨rfl,h',a4,rfl,n,λb o J e=>?_⟩;have a6:b≠s.heap.objs.size:=IL J;have a7:b≠(s.heap.push (fX led)).objs.size:=by
        rw[JH];exact IL (Ko J)
       exact N.heap b o (by simp only[IH,IK,JO,or_false,not_or];exact⟨a6,a7⟩) (Iu _ (Iu _ e))
     .cases u with
      | error e=>exact d
      | ok p=>
        cases p with
        | ret r=>
          obtain⟨rfl,h',L,rfl,n,a8⟩:=d;repeat (any_goals (first | assumption | wp_step))
          exact h _ _ n a8
        | _=>exact d.elim
   | _=>exact U.elim
end
theorem Bu(ns:List Int):(firstMet (λi=>ns.getD i 0) ns.length).length=gu ns:=by
 unfold firstMet gu;have e:(Jj ns.length).map (λi=>ns.getD i 0)=ns:=by
  refine List.ext_getElem? λk=>?_;rw[Ja];by_cases a:k<ns.length
  .simp[a]
  .simp[a]
 rw[e];rfl
section
variable{X:Cx}{cm:Nat->Addr}
theorem Bv{e:Expr}{d:ED}{p1 T q1 U:Pos}(j:X.calm=true)(he:Pe X cm e d)(Y:Gl X "len")(a0:X.mg "len" = none)(a1:Gl X "set")(a2:X.mg "set" = none)
 (C:starEach [e] X.env=(false,eval e X.env)::starEach [] X.env:=by exact E9 rfl)
 (D:starEach [.Call (.Name "set" T) [e] [] U] X.env=(false,eval (.Call (.Name "set" T) [e] [] U) X.env)::starEach [] X.env:=by rfl) :
 Pe X cm (.Call (.Name "len" p1) [.Call (.Name "set" T) [e] [] U] [] q1) (ny d):=by
 intro r s σ H Q I h;obtain⟨ρ,A,a3,v,A',rl,rs,ev,k⟩:=h;obtain⟨x,A1,e1,a4⟩:=B0 ev;refine QT (V4 I Y a0 Qa (callWith_builtin1 (jU D ?_) D rfl));refine QT (V4 I a1 a2 (show bootBuiltins "set" = some _ from by rfl) (callWith_type1 (jU C ?_) C rfl));refine aL (he r s σ H (λv z=>∃(a:Addr)(ns:List Int),v=.ref a/\fh (kindOf x) X.K z a (ns.map V.int)/\ns.length<1000/\Q (.int (gu ns)) z) I ⟨ρ,A,a3,x,A1,rl,rs,e1,λa5 z v1 x1 E a6=>?_⟩) λu G zq=>?_
 .obtain⟨l,A2,e2,m⟩:=B0 a4;obtain⟨rfl,a,xs,rfl,hH,r0⟩:=Z6 E a6 e2;cases p:O5 l with
  | none=>rw[p]at m;cases m
  | some ns=>
    rw[p]at m;obtain⟨c,a7⟩:=C5 m;cases a7;rw[X2 p]at r0;exact⟨a,ns,rfl,by rw[<-oM r0];exact hH,c,k a5 z _ x1 E (.int _)⟩
 .obtain⟨w1,z,J,r1,a,ns,ew,O,L,q⟩:=zq;subst ew;obtain rfl:u=IS a:=r1;have fin:∀(y)(B:Nat)(n:Nat),n=ns.length->y.SetOf (intKind X.prog X.w) G.heap.objs.size (λk'=>(firstMet (λi=>ns.getD i 0) n).any (·== k')) (firstMet (λi=>ns.getD i 0) n).length->
   (∀b o,b<G.heap.objs.size->G.heap.get? b=some o->y.get? b=some o)->wpAny (model X.prog X.w) X.A (call (.builtin "len") [.ref G.heap.objs.size]) (EP X r σ Q) X.xe { G with heap:=y,toks:=B }:=by
   intro y B n hn f g;subst hn;obtain⟨o,es,ep,t,ho,hex,hd,_,_,_,hf,a9⟩:=f;have hn:es.size=gu ns:=by rw[a9];exact Bu ns
   have f5:=so ns;refine call_len_set ho hex hd hf (by omega) ?_;rw[hn];exact⟨.int _,z,J.kept (λb ob e=>g b ob (II e) e),⟨_,rfl⟩,q⟩
  cases hk:kindOf x with
  | true=>
    rw[hk]at O;obtain⟨b0,ri,pl,hz⟩:=J.tuple O;have p:=b9 ri;have N:=p.length;refine Bt (J.ok.hd j) pl (by simpa using p) (by rw[IP,N];exact IZ (Nat.succ_lt_succ L) (by decide)) λy B f g=>fin y B _ (by rw[IP,N]) f g
  | false=>
    rw[hk]at O;obtain⟨b0,ri,pl,hz⟩:=J.list O;have p:=b9 ri;have N:=p.length;refine call_set_list (J.ok.hd j) pl.isList (by simpa using p) (by rw[IP,N];exact IZ (Nat.succ_lt_succ L) (by decide)) λy B f g=>fin y B _ (by rw[IP,N]) f g
end
end Ws
namespace Ws
open PySem PySem.W PyProof.Rows PySem.Calls
structure lI(h:Heap)(C:Addr)(newId:String):Prop where
 obj:∃nm q N bs bm hdct sn sub ab col dd k0 k1 k2 k3 k5,h.get? C=some (excClassObj nm q C N bs bm hdct sn sub ab col dd k0 k1 k2 k3 k5 newId)/\bm.contains (.type "ValueError")=true/\bm.contains (.type "BaseException")=true/\bm.contains (.type "AttributeError")=false/\bm.contains (.type "NameError")=false
abbrev iI(C t:Addr):Obj:={ cls:=.ref C,data:=.fields #[.ref t,.none,.none,.none,.bool false,.none] }
section
variable{prog:IV}{w:JB}{A:Jx}{R:Qo->IA->Prop}{h:Heap}{g:Array PN}{d:Drawn}{t:Nat}{os:QN}{C fI:Addr}{rest:List Iv}
theorem VEF:ExcBaseFacts "ValueError" "ValueError.__new__" "ValueError.__init__" [.type "ValueError",.type "Exception",.type "BaseException",.type "object"]:=PySem.F.excBase_ValueError
theorem Bw(Y:lI h C "ValueError.__new__")(n:R (.ok (.ret (.ref (h.objs.size+1)))) ⟨(h.push { cls:=.type "tuple",data:=.seq rest.toArray }).push (iI C h.objs.size),g,d,t,os⟩)(c:rest.length<=sizeLine) :
 codeAny (model prog w) A (.call (.builtin "ValueError.__new__") ⟨.ref C::rest,[]⟩) R ⟨h,g,d,t,os⟩:=by
 obtain⟨v,q,N,bs,e,m,x,sub,y,o,z,B,D,E,G,H,a,r,I,s,u⟩:=Y.obj;have b:(IS C::e).contains (.type "ValueError")=true:=by rw[KJ,r,MT]
 have f:(IS C::e).contains (.type "AttributeError")=false:=by rw[KJ,s];rfl
 have i:(IS C::e).contains (.type "NameError")=false:=by rw[KJ,u];rfl
 have j:=VEF.noStar;refine codeAny_call_builtin_code (Mw _ VEF.quiet) ?_;simp only[checkBuiltinCall,VEF.newKind,VEF.newSplit,VEF.newRow];repeat (first | refine Kq a ?_ | (refine La a ?_;rw[b]) | refine wpAny_staticBase_exc a ?_ | refine wpAny_madeBy_exc a ?_ | simp only[bne_self_eq_false,Jl,if_false] | wp_step)
 have k:=VEF.ends;refine codeAny_builtinAt VEF.entry ?_;unfold KL.«BaseException.__new__»;refine PySem.wpAt_bind ?_;show PySem.wpAt _ _ _ (stack>>=_) _ _ _;refine PySem.wpAt_bind (PySem.wpAt_stack λp below=>Qc ?_)
 wp_walk
 refine Qc ?_;rw[VEF.owner];repeat (first | with_reducible refine wpAny_madeHere_exc VEF.canon a ?_ | with_reducible refine Kq a ?_ | (with_reducible refine La a ?_;first | rw[b] | rw[f] | rw[i]) | wp_step)
 show R _ _;rw[JH];exact n
theorem Bx(Y:lI h C "ValueError.__new__")(p:Looks (model prog w) h (typeLookup (.ref C) "__init__") (some (.ref fI)))(s:∀a,Looks (model prog w) h (bindSpecial (.ref fI) a) (.ref fI,[a]))(f:rest.length<=sizeLine)
 (u:codeAny (model prog w) (A.under (.builtin "type.__call__" ⟨.ref C::rest,[]⟩)) (.call (.ref fI) ⟨.ref (h.objs.size+1)::rest,[]⟩) (InitBack (h.objs.size+1) R) ⟨(h.push { cls:=.type "tuple",data:=.seq rest.toArray }).push (iI C h.objs.size),g,d,t,os⟩) :
 codeAny (model prog w) A (.call (.ref C) ⟨rest,[]⟩) R ⟨h,g,d,t,os⟩:=by
 have x:=Y;obtain⟨G,q,N,bs,y,n,H,sub,I,B,J,L,O,Q,T,U,j,c1,c2,c3,c4⟩:=Y.obj;have f1:=tc_lookup;have f2:=tc_bind (.ref C);have hT:(⟨h,g,d,t,os⟩:IA).TypeIs (.ref C) "type":=⟨_,j,rfl⟩;refine ND ?_;show wpAny _ _ (callAny (.ref C) _) _ _ _;repeat (any_goals (first | assumption | with_reducible refine Kq j ?_ | wp_step))
 refine⟨rfl,?_⟩;refine codeAny_call_builtin_at (Mw _ (by decide +kernel)) entry_typeCall (wpAny_check_type_call_sub j ?_);repeat (first | with_reducible refine Kq j ?_ | with_reducible refine wpAny_madeBy_exc j ?_ | with_reducible refine MK ?_ | wp_step)
 refine Bw (rest:=rest) x ?_ f;show wpAny _ _ _ _ _ _;have l:∀b o,h.get? b=some o->((h.push { cls:=.type "tuple",data:=.seq rest.toArray }).push (iI C h.objs.size)).get? b=some o:=λb o e=>Iu _ (Iu _ e);have i:=l _ _ j;have k:((h.push { cls:=.type "tuple",data:=.seq rest.toArray }).push (iI C h.objs.size)).get? (h.objs.size+1)=some (iI C h.objs.size):=by heap_get
 have m:(IS C::y).contains (.ref C)=true:=by simp
 unfold isInstance;repeat (first | with_reducible refine Kq k ?_ | (with_reducible refine La i ?_;rw[m]) | wp_step)
 have D:=p.keeps l;have E:=(s (.ref (h.objs.size+1))).keeps l;show wpAny _ _ (typeLookup (.ref C) "__init__") _ _ _;refine D.here ?_;refine JC (Ir (E.here ?_));refine Ir (MK ?_);refine KW u λr s' z=>?_;rcases r with e | (v | _ | _ | _)<;>first | exact z | exact z.elim | skip
 obtain⟨rfl,z⟩:=z;exact Iy (Iy z)
end
end Ws
namespace Ws
open PySem PySem.W PyProof.Rows PySem.Calls Builtin Builtin.ObjectAttr
noncomputable def jW:List Iv:=[.type "ValueError",.type "Exception",.type "BaseException",.type "object"]
noncomputable def U4:List Iv->Bool
 | .ref _::r=>U4 r
 | l=>l == jW
theorem By(a:Iv):refuseLoop a "__setattr__" jW=pure ():=rfl
theorem tN(a:Iv):∀{l:List Iv},U4 l=true->refuseLoop a "__setattr__" l=pure ()
 | .ref c::r,e=>by rw[refuseLoop_ref];exact tN a (by cases r<;>exact e)
 | [],e=>by cases e
 | .type n::r,e=>by rw[show Iv.type n::r=jW from beq_iff_eq.mp e];exact By a
 | .none::r,e=>by cases e
 | .bool _::r,e=>by cases e
 | .int _ _::r,e=>by cases e
 | .str _ _::r,e=>by cases e
 | .bytes _ _::r,e=>by cases e
 | .float _ _::r,e=>by cases e
 | .builtin _::r,e=>by cases e
 | .ellipsis::r,e=>by cases e
 | .notImplemented::r,e=>by cases e
theorem tO:∀{l:List Iv},U4 l=true->l.contains (.type "object")=true
 | .ref c::r,e=>by rw[KJ,tO (l:=r) (by cases r<;>exact e),MT]
 | [],e=>by cases e
 | .type n::r,e=>by rw[show Iv.type n::r=jW from beq_iff_eq.mp e];rfl
 | .none::r,e=>by cases e
 | .bool _::r,e=>by cases e
 | .int _ _::r,e=>by cases e
 | .str _ _::r,e=>by cases e
 | .bytes _ _::r,e=>by cases e
 | .float _ _::r,e=>by cases e
 | .builtin _::r,e=>by cases e
 | .ellipsis::r,e=>by cases e
 | .notImplemented::r,e=>by cases e
section
variable{prog:IV}{w:JB}{A:Jx}{E:Iv->IA->Prop}{R:Qo->IA->Prop}{s:IA}{K:Frag}{x C:Addr}{ox:Obj}{cd:ClassData}{name:Str}{v:Iv}
theorem Bz{U:Tok}(X:K.In s.heap)(I:InstAt s.heap x ox C none)(H:clsIn K C=some cd)(G:U4 cd.mro=true)(hh:cd.hasDict=true)(ht:findIn K (.ref C) name=some none){vs:Array Iv}(d:ox.data=.fields vs)(f:ox.dict=none)
 (h:∀i,i.get? x=some { ox with dict:=some s.heap.objs.size }->i.Ns1 s.heap.objs.size (λy=>if y=name then some v else none)->(∀b o,b≠x->s.heap.get? b=some o->i.get? b=some o)->R (.ok (.ret .none)) { s with heap:=i,toks:=s.toks+1 }) :
 codeAny (model prog w) A (.call (.builtin "object.__setattr__") ⟨[.ref x,.str name U,v],[]⟩) R s:=by
 have k:=PySem.F.store_object;have ne:cd.mro.isEmpty=false:=by cases q:cd.mro with
  | nil=>rw[q]at G;cases G
  | cons _ _=>rfl
 have sub:Looks (model prog w) _ (isInstance _ _) true:=I.type.andThen (looks_mroIn X (by unfold mroIn;rw[H,OT,if_neg (by rw[ne];decide),tO G]));refine Nl k.slot.plain k.entry (@check_slot _ _ _ s "object.__setattr__" "object" "__setattr__" _ [.str name U,v] [] _ k.kind k.split sub (k.args _ _ v) ?_);have hm:Looks (model prog w) _ (mroOf (.ref C)) _:=(looks_clsIn X H).andThen .now;rw[osa_eq,refuse_eq];refine Ir (Ir (I.type.here (Ir (hm.here ?_))));rw[tN _ G];refine Iy (Ir (I.type.here (Ir ((looks_findIn X ht).here (Ir (Iy ?_))))));obtain⟨J,l,hn,_⟩:=I;obtain⟨oc,a4,a5,m⟩:=ox;dsimp only at l d f;subst l d f;refine Ir (Iy (Ir (Ir (wpAny_loadPart J (Ir ((looks_clsIn X H).here ?_))))));rw[hh];refine Ir (wpAny_alloc ?_);have n:(s.heap.push { cls:=Iv.type "dict",data:=MU #[] }).get? x=some { cls:=.ref C,data:=.fields vs,slots:=m }:=Iu _ J;have g:=II J;refine Ir (wpAny_update n ?_);refine Iy ?_;have L:(s.heap.push { cls:=Iv.type "dict",data:=MU #[] }).get? _=some { cls:=Iv.type "dict",data:=MU #[] }:=IG _ rfl;have p:((s.heap.push { cls:=Iv.type "dict",data:=MU #[] }).update x λo=>{ cls:=o.cls,dict:=some s.heap.objs.size,data:=o.data,slots:=o.slots }).get? s.heap.objs.size=some { cls:=Iv.type "dict",data:=MU #[] }:=by
  rw[Kf _ _ (IL g)];exact L
 have r:((s.heap.push { cls:=Iv.type "dict",data:=MU #[] }).update x λo=>{ cls:=o.cls,dict:=some s.heap.objs.size,data:=o.data,slots:=o.slots }).get? x=some { cls:=.ref C,dict:=some s.heap.objs.size,data:=.fields vs,slots:=m }:=by
  rw[JF _ n rfl]
 have u:((s.heap.push { cls:=Iv.type "dict",data:=MU #[] }).update x λo=>{ cls:=_,dict:=some _,data:=_,slots:=_ }).Ns1 _ _:=⟨_,#[],_,p,rfl,(λe he=>absurd he (by simp)),QL.nil,λ_=>rfl⟩;have kp:∀b o,b≠x->s.heap.get? b=some o->((s.heap.push { cls:=Iv.type "dict",data:=MU #[] }).update x λo=>{ cls:=o.cls,dict:=some s.heap.objs.size,data:=o.data,slots:=o.slots }).get? b=some o:=λb o N e=>by
  rw[Kf _ _ (KP N)];exact Iu _ e
 generalize(s.heap.push { cls:=Iv.type "dict",data:=MU #[] }).update x _=h2 at p r u kp;refine Ir (Iy (Ir ?_));refine wpAny_nsSet1 (s:={ s with heap:=h2 }) u λi B D=>?_;obtain⟨oD,a8,a9,O,Q,T⟩:=B.count (NN.cons name v (ns:=[]) (λ_ z=>absurd rfl z));refine Ir (wpAny_lookBehind O (by rw[Q];exact pastItsLine_dict (Jd T (by simp))) ?_);refine Iy (h _ ((D.2 _ (IL g)).trans r) B λb o N e=>?_);exact(D.2 _ (IL (II e))).trans (kp b o N e)
end
end Ws
namespace Ws
open PySem PySem.W PyProof.Rows PySem.Calls L2
noncomputable def tP:Option Addr->Iv
 | none=>.none
 | some T=>.ref T
inductive lJ (C:Addr) (d tb:Option Addr) (e:Addr) (h:Heap):Prop
 | mk (oe) (vs) (h0:h.get? e=some oe) (h1:oe.cls=.ref C) (h2:oe.dict=d) (h3:oe.data=.fields vs) (h4:vs[1]?=some (tP tb)) (h5:vs[2]?=some .none):lJ C d tb e h
noncomputable def XO(C:Addr)(d a:Option Addr)(e:Addr):HO:=.ext (lJ C d a e)
inductive oO (T:Addr) (fl:Iv) (h:Heap):Prop
 | mk (oT) (ts) (h0:h.get? T=some oT) (h1:oT.data=.fields ts) (h2:ts[3]?=some fl):oO T fl h
noncomputable def TO(T:Addr)(a:Iv):HO:=.ext (oO T a)
theorem oP{P:IV}{w:JB}{H:Hp}{h:Heap}{C e:Addr}{d a:Option Addr}(x:lJ C d a e h):aK P w H h e (XO C d a e):=by
 obtain⟨b,p,c,q⟩:=id x;refine⟨x,⟨b,c⟩,λr s y k=>?_⟩;obtain⟨o,f,g,i,j,l,m,n⟩:=y;exact⟨o,f,k _ g,i,j,l,m,n⟩
theorem oQ{P:IV}{w:JB}{H:Hp}{h:Heap}{T:Addr}{a:Iv}(x:oO T a h):aK P w H h T (TO T a):=by
 obtain⟨b,i,c,j⟩:=id x;refine⟨x,⟨b,c⟩,λl m y k=>?_⟩;obtain⟨o,d,e,f,g⟩:=y;exact⟨o,d,k _ e,f,g⟩
theorem oR{X:Cx}{a:List (Addr×Obj)}{σ:L2.St}{H:Hp}{s:IA}{C e:Addr}{d b:Option Addr}(I:L2.Inv X a σ H s)(h:H e=some (XO C d b e)):lJ C d b e s.heap:=(I.hok e _ h).1
structure XK(K:Iw)(C fI:Addr):Prop where
 obj:∃nm q N bs bm hdct sn sub ab col dd k0 k1 k2 k3 k5,K.lookup C=some (excClassObj nm q C N bs bm hdct sn sub ab col dd k0 k1 k2 k3 k5 "ValueError.__new__")/\U4 bm=true/\hdct=true
 init:findIn K (.ref C) "__init__" = some (some (.ref fI))
 fn:isFn K (.ref fI)=true
 kp:keepIn K (.ref C)=true
 sa:findIn K (.ref C) "__setattr__" = some (some (.builtin "object.__setattr__"))
 na:findIn K (.ref C) "at" = some none
theorem oS:∀{l:List Iv},U4 l=true->l.contains (.type "ValueError")=true/\l.contains (.type "BaseException")=true/\l.contains (.type "AttributeError")=false/\l.contains (.type "NameError")=false
 | .ref c::r,e=>by
   obtain⟨a,b,d,f⟩:=oS (l:=r) (by cases r<;>exact e);refine⟨?_,?_,?_,?_⟩<;>rw[KJ]<;>first | rw[a] | rw[b] | rw[d] | rw[f]
   .exact MT _
   .exact MT _
   .rfl
   .rfl
 | [],e=>by cases e
 | .type n::r,e=>by rw[show Iv.type n::r=jW from beq_iff_eq.mp e];exact⟨rfl,rfl,rfl,rfl⟩
 | .none::r,e=>by cases e
 | .bool _::r,e=>by cases e
 | .int _ _::r,e=>by cases e
 | .str _ _::r,e=>by cases e
 | .bytes _ _::r,e=>by cases e
 | .float _ _::r,e=>by cases e
 | .builtin _::r,e=>by cases e
 | .ellipsis::r,e=>by cases e
 | .notImplemented::r,e=>by cases e
theorem XK.cls{K:Iw}{C c:Addr}{h:Heap}(x:XK K C c)(X:K.In h):lI h C "ValueError.__new__":=by
 obtain⟨d,q,N,bs,e,a,f,sub,g,b,i,j,k,l,m,n,o,p,_⟩:=x.obj;exact⟨d,q,N,bs,e,a,f,sub,g,b,i,j,k,l,m,n,X _ _ o,oS p⟩
theorem XK.cd{K:Iw}{C b:Addr}(x:XK K C b):∃cd,clsIn K C=some cd/\U4 cd.mro=true/\cd.hasDict=true:=by
 obtain⟨g,q,N,bs,h,a,i,sub,j,c,k,l,m,n,o,p,d,e,f⟩:=x.obj;refine⟨_,by unfold clsIn;rw[d],?_,f⟩;exact e
theorem oU{P:IV}{w:JB}{fs:List Addr}{H H':Hp}{h h':Heap}(ch:List Addr)(ok:bI P w H h)(r:∀b∈ch,∃d,H b=some (.ext d))(m:∀b∈fs,H b=none)
 (k:∀b u,b∉ch->b∉fs->h.get? b=some u->h'.get? b=some u) (j:∀b u,b∈fs->h.get? b=some u->∃j,h'.get? b=some { u with slots:=j })
 (C:∀b∈ch,∃o,h'.get? b=some o) (f:∀b u,b∉ch->H b=some u->H' b=some u) (x:∀b,b<h.objs.size->H b=none->H' b=none)
 (new:∀b u,b∈ch\/h.objs.size<=b->H' b=some u->aK P w H' h' b u):Un fs [] H H' h h'/\bI P w H' h':=by
 have p:∀b,H b=none->b∉ch:=λb n z=>by obtain⟨d,e⟩:=r b z;rw[n]at e;cases e
 have i:∀b u,H b=some u->b∉fs:=λb u e z=>by rw[m b z]at e;cases e
 have nx:∀b u,H b=some u->(∀d,u≠.ext d)->b∉ch:=λb u e q z=>by obtain⟨d,y⟩:=r b z;rw[e]at y;exact q d (Jo y)
 refine⟨⟨λb o e n a _=>k b o (p b n) a e,λb o e n a _=>j b o a e,λb o e n _=>x b (II e) n,λb o e _=>?_,λb D e=>f b _ (nx b _ e (by intro d q;cases q)) e,λb o u e=>f b _ (nx b _ e (by simp)) e,λb G e=>⟨#[],by rw[f b _ (nx b _ e (by simp)) e];simp⟩⟩,λb u e=>?_⟩
 .by_cases a:b∈ch
  .exact C b a
  .by_cases A:b∈fs
   .obtain⟨s,q⟩:=j b o A e;exact⟨_,q⟩
   .exact⟨o,k b o a A e⟩
 .by_cases a:b∈ch
  .exact new b u (.inl a) e
  .by_cases E:h.objs.size<=b
   .exact new b u (.inr E) e
   .rcases l:H b with _ | v
    .rw[x b (by omega) l]at e;cases e
    .have B:=f b v a l;rw[e]at B;cases B;refine(ok b u l).stay (λc o g q=>k c o ?_ ?_ q) (λc q=>f c _ (nx c _ q (by simp)) q) λc D q=>f c _ (nx c _ q (by intro d z;cases z)) q
     .rcases g with rfl | g
      .exact a
      .exact nx c _ g (by simp)
     .rcases g with rfl | g
      .exact i _ _ l
      .exact i _ _ g
section
variable{X:Cx}{o value:Expr}{pos pos':Pos}{to tv:TE}
noncomputable def tQ(K:Iw)(to tv:TE):TS:=λD a H=>tv a H λy c=>to a c λx b=>∃e C f,x=.ref e/\b e=some (XO C none none e)/\XK K C f/\∀d,b d=none->d≠e->D.nx a (aI (aI b e (XO C (some d) none e)) d (.xd [("at",y)]))
theorem BA(N:PE X o to)(O:PE X value tv)(hs:swapsWith value (some (.Attribute o "at" pos')) pos.line X.env=pure false):PS X (.Assign [.Attribute o "at" pos'] value pos) (tQ X.K to tv):=by
 intro d s k H D I h;refine MJ (aL (O d s k H _ I h) λu Q ⟨y,T,U,Y,q⟩=>aL (N d Q k T _ U q) λov A zq=>?_) hs;obtain⟨x,H2,g,rx,e,C,fI,ex,l,m,q2⟩:=zq;subst ex;obtain rfl:ov=IS e:=rx;obtain⟨oe,vs,B,E,G,n,h5,h6⟩:=oR g l;obtain⟨cd,c1,c2,c3⟩:=m.cd;have J:InstAt _ e oe C none:=⟨B,E,by unfold notCls;rw[n],by rw[G];trivial⟩;refine set_plain g.kIn J m.sa (Bz g.kIn J c1 c2 c3 m.na n G λh' L g2 g3=>?_);have j:=g.hok.fresh (IC _);have p:=KS (II B);refine⟨k,_,?_,q2 _ j p⟩;have r:=Y;obtain⟨u1,u2⟩:=oU (fs:=[]) (H':=aI (aI H2 e (XO C (some A.heap.objs.size) none e)) _ (.xd [("at",y)])) [e] g.hok (λb a=>by
  rw[IK.mp a];exact⟨_,l⟩) (λ_ z=>nomatch z) (λb o a _ q=>g3 b o (λz=>a (by simp[z])) q) (λ_ _ z=>nomatch z) (λb a=>by rw[IK.mp a];exact⟨_,L⟩)
  (λb v a q=>by rw[aq (G5 q j),aq (λz=>a (by simp[z]))];exact q)
  (λb a q=>by rw[aq (IL a),aq (λz=>by rw[z,l]at q;cases q)];exact q)
  (λb v a q=>by
   by_cases i:b=A.heap.objs.size
   .rw[i,C7]at q;cases q;rw[i];refine⟨_,g2,λf=>?_⟩;by_cases w:f="at"
    .subst w;exact r
    .have:=beq_eq_false_iff_ne.mpr w;simp[Mg,w,this,bH]
   .rw[aq i]at q;by_cases c:b=e
    .rw[c,C7]at q;cases q;rw[c];exact oP ⟨_,vs,L,E,rfl,n,h5,h6⟩
    .rw[aq c]at q;rcases a with a | a
     .exact absurd (IK.mp a) c
     .rw[g.hok.fresh a]at q;cases q)
 exact g.un (u1.mono (λ_ z=>nomatch z) λ_ z=>z) u2
end
theorem BB(f:Array Iv->Array Iv)(o:Obj):(KQ f o).dict=o.dict:=by
 obtain⟨c,d,a,b⟩:=o;cases a<;>rfl
inductive V1 (fl:Iv) (H:Hp) (e C:Addr) (v:V):Prop
 | mk (d) (tb) (h0:H e=some (XO C (some d) tb e)) (h1:H d=some (.xd [("at",v)])) (h2:∀T,tb=some T->H T=some (TO T fl)/\T≠e):V1 fl H e C v
def cv(H H':Hp):Prop:=∀b u,H b=some u->(∀a,u≠.ext a)->H' b=some u
theorem cv.refl(H:Hp):cv H H:=λ_ _ e _=>e
theorem cv.trans{H d f:Hp}(a:cv H d)(b:cv d f):cv H f:=λc u e n=>b c u (a c u e n) n
section
variable{M:QR}{A:Jx}{E:Iv->IA->Prop}{s:IA}{P:IV}{w:JB}
theorem tR{base:Heap}{g:Env}{c:List Env}{L e:Addr}{D:Obj}{vs:Array Iv}{i:Iv}{j:Bool}{Q:Unit->IA->Prop}
 (G:A.frames=some (g::c)) (hl:s.heap.FunFrames base (g::c)) (hf:g.frame=some L)
 (he:s.heap.get? e=some D) (H:D.data=.fields vs) (I:1<vs.size)
 (h:∀y T oT ts,(∀b o,b≠e->b∉frs (g::c)->s.heap.get? b=some o->y.get? b=some o)->(∀b o,b≠e->b∈frs (g::c)->s.heap.get? b=some o->∃J,y.get? b=some { o with slots:=J })->
  s.heap.objs.size<=T->y.get? e=some (KQ (·.setIfInBounds 1 (IS T)) D)->y.get? T=some oT->oT.data=.fields ts->ts[3]?=some (rawInt L)->Q () { s with heap:=y }) :
 wpAny M A (do let a <-frameOf g;let n <-entryPlaceOf L j;let b <-EntryCells.newEntry i a .none (rawInt L) .none n;setField (.ref e) 1 b) Q E s:=by
 have z:e∉(g::c).filterMap _:=λhm=>by
  obtain⟨_,o,C,N⟩:=hl.mem hm;rw[he]at C;injection C with C;subst C;exact N vs H
 refine Ir (wpAny_frameOf_fun G hl hf λd f=>?_);refine Ir (wpAny_entryPlaceOf λn O=>?_);refine Ir (Lo ?_ (O.sizeOk5 _ _ _ _ _));have k:=(f.2.1 e z).trans he;have l:=Iu { cls:=.type "traceback",dict:=none,data:=.fields ([i,.ref L,.none,rawInt L,.none]++(if n.isEmpty then LZ 6 Km else n)).toArray } k;have U:=KS (II k);have u:=JT H (·.setIfInBounds 1 (IS d.objs.size));have v:=JF _ l (Lg u);have x:=(Kf (d.push { cls:=.type "traceback",dict:=none,data:=.fields ([i,.ref L,.none,rawInt L,.none]++(if n.isEmpty then LZ 6 Km else n)).toArray })
  (KQ (·.setIfInBounds 1 (IS d.objs.size))) (KP U)).trans (IG d rfl)
 have keep:∀b o,b≠e->d.get? b=some o->
  ((d.push { cls:=.type "traceback",dict:=none,data:=.fields ([i,.ref L,.none,rawInt L,.none]++(if n.isEmpty then LZ 6 Km else n)).toArray }).update e (KQ (·.setIfInBounds 1 (IS d.objs.size)))).get? b=some o:=
  λb o m B=>by
   rw[Kf _ _ (KP m)];exact Iu _ B
 refine Lw l H I (h _ _ _ _ (λb o m Y B=>keep b o m ((f.2.1 b Y).trans B)) (λb o m _ B=>?_) (by rw[f.1];exact IC _) v x rfl rfl);obtain⟨J,q⟩:=f.2.2 b o B;exact⟨J,keep b _ m q⟩
theorem oV{J:Iv}{H:Hp}{e C:Addr}{v:V}{Q:Unit->IA->Prop}(ok:bI P w H s.heap)(f:V1 J H e C v)
 (h:∀m H',Un [] [] H H' s.heap m->bI P w H' m->V1 .none H' e C v->cv H H'->Q () { s with heap:=m }):wpAny M A (setFlight (.ref e) none) Q E s:=by
 obtain⟨d,L,p,l,N⟩:=f;obtain⟨oe,vs,y,g2,g3,B,D,g6⟩:=(ok e _ p).1;cases L with
 | none=>
   refine Ir (JJ y B D ?_);exact Iy (h _ H Un.refl ok ⟨d,none,p,l,λT z=>nomatch z⟩ (cv.refl H))
 | some T=>
   obtain⟨k,G⟩:=N T rfl;obtain⟨oT,ts,I,r,O⟩:=(ok T _ k).1;have g:=(Lc.mp O).1;refine Ir (JJ y B D ?_);have j:∀b,b≠T->(s.heap.update T (KQ (·.setIfInBounds 3 ((none:Option Addr).elim Km λf=>rawInt f)))).get? b=s.heap.get? b:=λb a=>Kf _ _ (KP a);have i:=JF (KQ (·.setIfInBounds 3 ((none:Option Addr).elim Km λf=>rawInt f))) I (Lg (JT r _));obtain⟨U,Y⟩:=oU (fs:=[]) (H':=aI H T (TO T .none)) [T] ok
    (λb a=>by rw[IK.mp a];exact⟨_,k⟩) (λ_ z=>nomatch z) (λb o a _ q=>(j b (λz=>a (by simp[z]))).trans q) (λ_ _ z=>nomatch z) (λb a=>by rw[IK.mp a];exact⟨_,i⟩)
    (λb u a q=>by rw[aq (λz=>a (by simp[z]))];exact q) (λb _ q=>by rw[aq (λz=>by rw[z,k]at q;cases q)];exact q)
    (λb u a q=>by
     by_cases c:b=T
     .rw[c,C7]at q;cases q;rw[c];exact oQ ⟨_,_,i,JT r _,by simp[g]⟩
     .rw[aq c]at q;rcases a with a | a
      .exact absurd (IK.mp a) c
      .rw[ok.fresh a]at q;cases q)
   refine Lw I r g (h _ _ U Y ⟨d,some T,by rw[aq (KP G)];exact p,by rw[aq (λz=>by rw[z,k]at l;cases l)];exact l,λT' z=>?_⟩ λb u q n=>?_)
   .cases z;exact⟨C7,G⟩
   .rw[aq (λz=>by rw[z,k]at q;exact n _ (Jo q).symm)];exact q
theorem tS{base:Heap}{i:Env}{c:List Env}{L e C:Addr}{H:Hp}{v:V}{Q:Unit->IA->Prop}(O:A.frames=some (i::c))(hl:s.heap.FunFrames base (i::c))(hf:i.frame=some L)
 (y:∀b∈frs (i::c),H b=none) (ok:bI P w H s.heap) (f:V1 .none H e C v)
 (h:∀h' H',Un (frs (i::c)) [] H H' s.heap h'->bI P w H' h'->V1 (rawInt L) H' e C v->cv H H'->Q () { s with heap:=h' }):wpAny M A (noteFrame (.ref e) i) Q E s:=by
 obtain⟨d,tb,m,f2,f3⟩:=f;obtain⟨oe,vs,g1,g2,g3,g4,g5,g6⟩:=(ok e _ m).1;have B:=(Lc.mp g5).1;unfold noteFrame;simp only[hf];refine Ir (JJ g1 g4 g5 ?_);have fin:∀(ch:List Addr)(h0 h':Heap)(T:Addr)(N:Obj)(D:Array Iv),(∀b∈ch,∃φ,H b=some (.ext φ))->e∈ch->(∀b∈ch,b≠e->∃o,h'.get? b=some o/\∀u,H b=some u->aK P w (aI (aI H e (XO C (some d) (some T) e)) T (TO T (rawInt L))) h' b u)->
  (∀b o,b∉ch->b∉frs (i::c)->s.heap.get? b=some o->h'.get? b=some o)->(∀b o,b∈frs (i::c)->s.heap.get? b=some o->∃sl,h'.get? b=some { o with slots:=sl })->
  s.heap.objs.size<=T->h'.get? e=some (KQ (·.setIfInBounds 1 (IS T)) oe)->h'.get? T=some N->N.data=.fields D->D[3]?=some (rawInt L)->Q () { s with heap:=h' }:=by
  intro ch h0 h' T N D hx b0 Y hk hs hT he b1 b2 b3;have l:=ok.fresh hT;have a0:T≠e:=λz=>by rw[z,m]at l;cases l
  obtain⟨u1,u2⟩:=oU (H':=aI (aI H e (XO C _ (some T) e)) T (TO T _)) ch ok hx y hk hs
   (λb a=>by
    by_cases j:b=e
    .rw[j];exact⟨_,he⟩
    .obtain⟨o,q,_⟩:=Y b a j;exact⟨o,q⟩)
   (λb u a q=>by rw[aq (G5 q l),aq (λz=>a (by rw[z];exact b0))];exact q)
   (λb a q=>by rw[aq (IL (IZ a hT)),aq (λz=>by rw[z,m]at q;cases q)];exact q)
   (λb u a q=>by
    by_cases G:b=T
    .rw[G,C7]at q;cases q;rw[G];exact oQ ⟨_,_,b1,b2,b3⟩
    .rw[aq G]at q;by_cases j:b=e
     .rw[j,C7]at q;cases q;rw[j];exact oP ⟨_,_,he,(Om _ _).trans g2,(BB _ _).trans g3,JT g4 _,by simp[B,tP],by rw[Array.getElem?_setIfInBounds_ne (by simp)];exact g6⟩
     .rw[aq j]at q;rcases a with a | a
      .obtain⟨o,_,r⟩:=Y b a j;exact r u q
      .rw[ok.fresh a]at q;cases q)
  refine h h' _ u1 u2 ⟨d,some T,by rw[aq (KP a0)];exact C7,?_,λT' z=>?_⟩ λb u q n=>?_
  .rw[aq (G5 f2 l),aq (λz=>by rw[z,m]at f2;cases f2)];exact f2
  .cases z;exact⟨C7,a0⟩
  .rw[aq (G5 q l),aq (λz=>by rw[z,m]at q;exact n _ (Jo q).symm)];exact q
 have fe:e∉frs _:=λz=>by rw[y e z]at m;cases m
 cases tb with
 | none=>
   refine tR O hl hf g1 g4 B λh' T N D k1 k2 k3 k4 k5 k6 k7=>fin [e] s.heap h' T N D (λb a=>by rw[IK.mp a];exact⟨_,m⟩) (by simp) (λb a z=>absurd (IK.mp a) z) (λb o a I q=>k1 b o (λz=>a (by simp[z])) I q) (λb o a q=>k2 b o (λz=>fe (by rw[<-z];exact a)) a q) k3 k4 k5 k6 k7
 | some p=>
   obtain⟨f4,f5⟩:=f3 p rfl;obtain⟨N,D,t1,t2,t3⟩:=(ok p _ f4).1;have x:=(Lc.mp t3).1;have fT:p∉frs _:=λz=>by rw[y p z]at f4;cases f4
   refine Ir (JJ t1 t2 t3 ?_);refine Ir (Lw t1 t2 x ?_);have g:∀b,b≠p->(s.heap.update p (KQ (·.setIfInBounds 3 Km))).get? b=s.heap.get? b:=λb a=>Kf _ _ (KP a);have a3:=JF (KQ (·.setIfInBounds 3 Km)) t1 (Lg (JT t2 _));have k:∀b o,s.heap.get? b=some o->(∀vs,o.data≠.fields vs)->b≠p:=λb o a J q=>by
    rw[q,t1]at a;injection a with a;subst a;exact J D t2
   refine tR O (hl.of_keeps λb o a J=>⟨o,(g b (k b o a J)).trans a,rfl⟩) hf ((g e (KP f5)).trans g1) g4 B λh' T d1 d2 k1 k2 k3 k4 k5 k6 k7=>fin [e,p] s.heap h' T d1 d2 (λb a=>?_) (by simp) (λb a z=>?_) (λb o a I q=>?_) (λb o a q=>?_) ?_ k4 k5 k6 k7
   .rcases IH.mp a with rfl | a
    .exact⟨_,m⟩
    .rw[IK.mp a];exact⟨_,f4⟩
   .obtain rfl:b=p:=by
     rcases IH.mp a with a | a
     .exact absurd a z
     .exact IK.mp a
    have q:=k1 b _ z fT a3;refine⟨_,q,λu hu=>?_⟩;rw[f4]at hu;cases hu;exact oQ ⟨_,_,q,JT t2 _,by simp[x]⟩
   .exact k1 b o (λz=>a (by simp[z])) I ((g b (λz=>a (by simp[z]))).trans q)
   .exact k2 b o (λz=>fe (by rw[<-z];exact a)) a ((g b (λz=>fT (by rw[<-z];exact a))).trans q)
   .have:=k3;rw[Nd]at this;exact this
theorem BC{base:Heap}{c:Env}{a:List Env}{L e C:Addr}{H:Hp}{v:V}{Q:Unit->IA->Prop}(g:A.frames=some (c::a))(l:s.heap.FunFrames base (c::a))(m:c.frame=some L)
 (i:∀b∈frs (c::a),H b=none) (ok:bI P w H s.heap) (f:V1 .none H e C v)
 (h:∀j d,Un (frs (c::a)) [] H d s.heap j->bI P w d j->V1 .none d e C v->cv H d->Q () { s with heap:=j }):wpAny M A (leaving c (.ref e)) Q E s:=by
 refine Ir (tS g l m i ok f λG I n o p q=>?_);exact oV o p λr u x y B D=>h r u (n.trans (x.mono nofun λ_ z=>z)) y B (q.trans D)
end
section
variable(K:Iw)(cm:Nat->Addr)
def de(f:List Addr)(H:Hp)(c:Nat)(v:PV)(A':PHp)(g:Addr->Hp->Prop):Prop:=∀b d a e,aG f H b d->aQ K cm b A' d->RV b d v e->V1 .none d a (cm c) e->g a d
noncomputable def dY(e:List Addr)(H:Hp)(g:Addr->Hp->Prop)(Q:VK):R PV->Prop
 | .ok v d=>∀a b f,aG e H a b->aQ K cm a d b->RV a b v f->Q f b
 | .ex c v d=>de K cm e H c v d g
 | .no=>False
inductive oW (XQ:Addr->Hp->Prop) (d:ED) (σ:L2.St) (H:Hp) (Q:VK):Prop
 | mk (ρ:List Addr) (A:PHp) (σp:PSt) (h0:aQ K cm ρ A H) (h1:bP ρ H σp σ) (h2:dY K cm ρ H XQ Q (d σp A)):oW XQ d σ H Q
inductive gM (f:Fun) (n:Nat) (vs:List V) (H:Hp) (Q:VK) (E:L2.XK):Prop
 | mk (ρ:List Addr) (A:PHp) (ps:List PV) (h0:aQ K cm ρ A H) (h1:RVs ρ H ps vs) (h2:ps.length=n) (h3:dY K cm ρ H (λa H'=>E (.ref a) none H') Q (f ps A)):gM f n vs H Q E
noncomputable def cU(e:List Addr)(H:Hp)(g:Addr->Hp->Prop)(D:u5):R Fl->Prop
 | .ok f b=>∀a d,aG e H a d->aQ K cm a b d->nI D a d f
 | .ex c v b=>de K cm e H c v b g
 | .no=>False
inductive o4 (XE:Addr->Hp->Prop) (s:SD) (D:u5) (σ:L2.St) (H:Hp):Prop
 | mk (ρ:List Addr) (A:PHp) (σp:PSt) (h0:aQ K cm ρ A H) (h1:bP ρ H σp σ) (h2:cU K cm ρ H XE D (s σp A)):o4 XE s D σ H
end
section
variable{K:Iw}{cm:Nat->Addr}{ρ ρ1:List Addr}{H H1:Hp}{XQ:Addr->Hp->Prop}{Q:VK}{D:u5}
theorem de.ext{c:Nat}{v:PV}{A':PHp}(h:de K cm ρ H c v A' XQ)(x:aG ρ H ρ1 H1):de K cm ρ1 H1 c v A' XQ:=λb d a e y r g f=>h b d a e (x.trans y) r g f
theorem dY.ext{r:R PV}(h:dY K cm ρ H XQ Q r)(x:aG ρ H ρ1 H1):dY K cm ρ1 H1 XQ Q r:=by
 cases r with
 | ok v b=>exact λa d e y rl f=>h a d e (x.trans y) rl f
 | ex c v b=>exact de.ext h x
 | no=>exact h
theorem cU.ext{r:R Fl}(h:cU K cm ρ H XQ D r)(x:aG ρ H ρ1 H1):cU K cm ρ1 H1 XQ D r:=by
 cases r with
 | ok v b=>exact λa d y rl=>h a d (x.trans y) rl
 | ex c v b=>exact de.ext h x
 | no=>exact h
theorem cv.ext{H':Hp}(c:cv H H'):aG ρ H ρ H':=⟨IU _,λa b h=>c a _ h (by simp),λa b h=>c a _ h (by simp)⟩
theorem BD{H':Hp}{a:Addr}{o:PO}(r:RO K cm ρ H a o)(c:cv H H'):RO K cm ρ H' a o:=by
 have e:aG ρ H ρ H':=c.ext;cases o with
 | lst l=>obtain⟨f,h,q⟩:=r;exact⟨f,c _ _ h (by intro b z;cases z),q.mono e⟩
 | ro l=>
   obtain⟨f,h,q⟩:=r;rcases h with⟨u,h⟩ | h
   .exact⟨f,.inl ⟨u,c _ _ h (by intro b z;cases z)⟩,q.mono e⟩
   .exact⟨f,.inr h,q.mono e⟩
 | ins i fs=>obtain⟨j,k,g,h,q⟩:=r;exact⟨j,k,g,c _ _ h (by intro b z;cases z),q.mono e⟩
 | exc i v=>obtain⟨o,d,m,h,n,p,s,w,q⟩:=r;exact⟨o,d,m,c _ _ h (by intro b z;cases z),n,p,s,c _ _ w (by intro b z;cases z),q.mono e⟩
 | _=>obtain⟨g,h,q⟩:=r;exact⟨g,c _ _ h (by intro b z;cases z),q.mono e⟩
theorem aQ.calm{H':Hp}{A:PHp}(r:aQ K cm ρ A H)(c:cv H H'):aQ K cm ρ A H':=⟨r.len,λn o a b d=>BD (r.obj n o a b d) c,r.inj⟩
end
noncomputable def ft(P:IV)(w:JB):CXT:=λb H s E e c=>∃a C v d,e=.ref a/\c.os=s.os/\Oz c.gens/\Un (frs b) [] H d s.heap c.heap/\bI P w d c.heap/\V1 .none d a C v/\E (.ref a) none d
inductive iJ (X:Cx) (pins:List (Addr×Obj)) (σ:L2.St) (XQ:Addr->Hp->Prop) (e:Iv) (s':IA):Prop
 | mk (a) (C) (v) (H') (h0:e=.ref a) (h1:L2.Inv X pins σ H' s') (h2:V1 .none H' a C v) (h3:XQ a H'):iJ X pins σ XQ e s'
def jX(X:Cx)(c:Nat->Addr)(e:Expr)(d:ED):Prop:=
 ∀(a:List (Addr×Obj))(s:IA)(σ:L2.St)(H:Hp)(Q:VK)(b:Addr->Hp->Prop),L2.Inv X a σ H s->oW X.K c b d σ H Q->wpAny (model X.prog X.w) X.A (eval e X.env) (EP X a σ Q) (iJ X a σ b) s
section
variable{X:Cx}{cm:Nat->Addr}{pins:List (Addr×Obj)}{σ:L2.St}{H:Hp}{s s':IA}
theorem BE{E:L2.XK}{e:Iv}(I:L2.Inv X pins σ H s)(h:ft X.prog X.w X.stack H s E e s'):iJ X pins σ (λa i=>E (.ref a) none i) e s':=by
 obtain⟨a,C,v,i,rfl,os,c,un,j,f,q⟩:=h;obtain⟨l,g,d,t,k⟩:=s';obtain rfl:k=s.os:=os;exact⟨a,C,v,i,rfl,I.call un j c (λb z=>absurd z (by simp)),f,q⟩
theorem BF{k:Nat}{f:Addr}{g:IY}{ps:List Str}{i:Sp}{Q:VK}{E:L2.XK}{b:List Iv}{vs:List V}(F:aE X.prog X.w X.K X.mg X.base (ft X.prog X.w) k f g ps i)(j:aM k X.A)(l:L2.Binds X.K g ps [])
 (I:L2.Inv X pins σ H s) (r:aH vs b) (h:i vs H Q E):wpAny (model X.prog X.w) X.A (call (.ref f) b) (EP X pins σ Q) (iJ X pins σ λa m=>E (.ref a) none m) s:=by
 have n:b.length=ps.length:=by rw[<-r.length];exact F.len _ _ _ _ h
 have c:=l s b I.kIn (by rw[Kh];exact n);rw[Kh]at c;refine MK (KW (F.run X.A _ s H ⟨b,[]⟩ b vs Q E j I.env0 c r h) λr s' d=>?_);cases r with
 | error e=>exact BE I d
 | ok o=>
   cases o with
   | ret u=>exact I.after d
   | next=>exact Je d
   | brk=>exact Je d
   | cont=>exact Je d
theorem BG{d:Addr->Hp->Prop}{e:Iv}(h:iJ X pins σ (λa c=>∃b,IS a=.ref b/\d b c) e s'):iJ X pins σ d e s':=by
 obtain⟨a,C,v,c,f,I,g,b,i,j⟩:=h;cases i;exact⟨a,C,v,c,f,I,g,j⟩
end
section
variable{X:Cx}{cm:Nat->Addr}
theorem BH{c:Nat}{f:Fun}{n k:Nat}{fa:Addr}{fd:IY}{ps:List Str}{m:Str}{o e:Expr}{es:List Expr}{d:ED}{ds:AD}{C pos:Pos}{pl:Sem Bool}(ho:PE X.nox o (da X.K cm d))(hc:dS X.K (cm c))(hm:hJ X.K (cm c) m fa)
 (F:aE X.prog X.w X.K X.mg X.base (ft X.prog X.w) k fa fd ps (gM X.K cm f n)) (hn:∀vs A,f vs A≠.no->vs.length=n) (b5:∀i,i<19->cy i≠m) (hr:aM k X.A) (hb:L2.Binds X.K fd ps []) (ha:PA X.nox (e::es) (gx X.K cm ds))
 (c0:starEach (e::es) X.env=(false,eval e X.env)::starEach es X.env:=by exact E9 rfl) (c1:(backTo pos (starEach es X.env)).any (·.1)=false:=by rfl)
 (ht:eval (.Call (.Attribute o m C) (e::es) [] pos) X.env=(do
  let ov <-eval o X.env
  standAt C.atName
  let(f,first) <-holding [ov] (getMethod ov m pl)
  callWith pos f first (backTo pos (starEach (e::es) X.env)) (backToKw pos (keywordEach [] X.env))):=by rfl) :
 jX X cm (.Call (.Attribute o m C) (e::es) [] pos) (r9 c f d ds):=by
 intro O s σ H Q XQ I ⟨ρ,A,D,rl,rs,g⟩;unfold r9 av dX at g;rcases hd:d D A with⟨x,A1⟩ | ⟨c',v,A1⟩ | _
 case ex=>rw[hd]at g;exact Je g
 case no=>rw[hd]at g;exact Je g
 rw[hd]at g;refine MQ (Jt (ho O s σ H (λv1 T=>∃y,aG ρ H y T/\aQ X.K cm y A1 T/\RV y T x v1) (I.wish _) ⟨ρ,A,D,x,A1,rl,rs,hd,λy T v1 x1 J L=>⟨y,x1,J,L⟩⟩) (λu s1 zq=>?_) λ_ _ z=>Je z) ht;obtain⟨x',T,I1,rx,y,x1,J,L⟩:=zq;cases x with
 | ref j=>
   rcases hi:v7 j A1 with⟨ob,A2⟩ | ⟨c',v,A2⟩ | _
   case ex=>simp only[av]at g;unfold v7 at hi;split at hi<;>cases hi
   case no=>simp only[av]at g;rw[hi]at g;exact Je g
   obtain⟨rfl,hA,a,dx,kv,rfl,g5,hH,hp,hs⟩:=z7 J L hi;have G:dY X.K cm ρ H XQ Q (av (v7 j) (λo=>E3 (o.1=c) (av (dX (ds D)) λvs=>f (.ref j::vs))) A2):=g;rw[aA hi]at G;have h:=G;clear g G;by_cases U:ob.1=c
   case neg=>rw[show E3 _ _=stuck from if_neg U]at h;exact Je h
   rw[L7 U]at h;subst U;have c3:kv.lookup m=none:=by
    have c4:∀(l:List (Str×V)),(∀z∈l.map (·.1),z≠m)->l.lookup m=none:=λl=>by
     induction l with
     | nil=>simp
     | cons p q ih=>
       intro hz;rw[Nb,beq_eq_false_iff_ne.mpr (λz=>hz p.1 (by simp) z.symm)];exact ih λz a4=>hz z (by simp at a4 ⊢;exact .inr a4)
    refine c4 kv λz hz=>?_;rw[hp.keys]at hz;obtain⟨q,hq,rfl⟩:=IB.mp hz;exact b5 _ (hs q hq)
   obtain rfl:u=IS a:=rx;refine p6 I1.unwish hH hc hm c3 ?_;unfold av dX at h;rcases N:ds D A2 with⟨xs,Y⟩ | ⟨c',v,Y⟩ | _
   case ex=>rw[N]at h;exact Je h
   case no=>rw[N]at h;exact Je h
   rw[N]at h;have g:dY X.K cm ρ H XQ Q (f _ Y):=h;refine LG I.ok.mod.kin hm.kp (Jt (ha pos O s1 σ T (λa5 H2=>∃B,aG y T B H2/\aQ X.K cm B Y H2/\RVs B H2 xs a5) I1 ⟨y,A2,D,xs,Y,J,rs.mono x1,N,λB H2 a5 x2 a0 a1=>⟨B,x2,a0,a1⟩⟩) (λus s2 ⟨vs,H2,I2,r,B,x2,a0,a1⟩=>⟨I2.kIn,?_⟩) λ_ _ z=>Je z) c0 c1;refine Jt (BF (vs:=.ref a::vs) (E:=λe _ H'=>∃b,e=.ref b/\XQ b H') F hr hb I2.unwish (.cons rfl r) ⟨B,Y,.ref j::xs,a0,.cons (L.mono x2) a1,hn _ Y (λz=>by rw[z]at g;exact g),?_⟩) (λ_ _ z=>z) λ_ _ z=>BG z;have o2:=(g.ext x1).ext x2;revert o2;cases f _ Y with
   | ok v A'=>exact λz=>z
   | ex c v A'=>simp
   | no=>exact λz=>z
 | _=>exact Je g
end
def lK(X:Cx)(c:Addr->Hp->Prop):Prop:=∀(b:List (Addr×Obj))(σ:L2.St)(H:Hp)(s:IA)(a C:Addr)(v:V),L2.Inv X b σ H s->V1 .none H a C v->c a H->X.xe (.ref a) s
section
variable{X:Cx}{cm:Nat->Addr}{XE:Addr->Hp->Prop}
theorem noX_inv{c:Type}{m:M c}{A:PHp}{r:R c}(h:dX m A=r):(∃a b,m A=.ok a b/\r=.ok a b)\/r=.no:=by
 unfold dX at h;rcases d:m A with⟨a,b⟩ | _ | _<;>rw[d]at h
 .exact .inl ⟨a,b,rfl,h.symm⟩
 .exact .inr h.symm
 .exact .inr h.symm
theorem BI{st:Stmt}{t:TS}(h:PS X.nox st t):PS X st t:=λa s b H D I c=>
 Jt (h a s b H D (I.wish _) c) (λ_ _ q=>q.unwish) λ_ _ z=>Je z
theorem jY{st:Stmt}{s:SD}(h:PS X.nox st (fW X.K cm s)):PS X st (o4 X.K cm XE (fg s)):=V6 (BI h) λD i H c=>by
 obtain⟨a,A,b,rl,d,o⟩:=c;rcases noX_inv rfl with⟨f,g,e,q⟩ | q
 .have o:cU X.K cm a H XE D (dX _ A):=o;rw[q]at o;exact⟨a,A,b,f,g,rl,d,e,o⟩
 .have o:cU X.K cm a H XE D (dX _ A):=o;rw[q]at o;exact Je o
theorem jZ{st:List Stmt}{s:SD}(h:cf X.nox st (fW X.K cm s)):cf X st (o4 X.K cm XE (fg s)):=kX (cf.nox h) λD i H c=>by
 obtain⟨a,A,b,rl,d,o⟩:=c;rcases noX_inv rfl with⟨f,g,e,q⟩ | q
 .have o:cU X.K cm a H XE D (dX _ A):=o;rw[q]at o;exact⟨a,A,b,f,g,rl,d,e,o⟩
 .have o:cU X.K cm a H XE D (dX _ A):=o;rw[q]at o;exact Je o
theorem U5{st:Stmt}{s:SD}(h:PS X st (o4 X.K cm XE s)):cf X [st] (o4 X.K cm XE s):=mr h
theorem V2{st:Stmt}{rest:List Stmt}{s r:SD}(l:PS X st (o4 X.K cm XE s))(m:cf X rest (o4 X.K cm XE r)):cf X (st::rest) (o4 X.K cm XE (C9 s r)):=
 kX (qM l m) λD y H n=>by
  obtain⟨p,A,e,rl,q,o⟩:=n;refine⟨p,A,e,rl,q,?_⟩;unfold C9 av at o;rcases u:s e A with⟨f,j⟩ | ⟨c,v,j⟩ | _<;>rw[u]at o
  .intro a k h b;cases f with
   | nx i=>exact λg d=>⟨a,j,i,b,d,cU.ext o h⟩
   | rt v=>exact λw x=>o a k h b w x
   | _=>exact λg d=>o a k h b g d
  .exact o
  .exact o
theorem jr{c:Expr}{a b:List Stmt}{t:TD}{s u:SD}{pos:Pos}(j:PT X.nox c (gw X.K cm t))(k:cf X a (o4 X.K cm XE s))(l:cf X b (o4 X.K cm XE u)):PS X (.If c a b pos) (o4 X.K cm XE (bN (gH t) s u)):=
 V6 (qO (PT.nox j) k l) λD r H m=>by
  obtain⟨n,A,d,rl,h,o⟩:=m;unfold bN gH av at o;rcases noX_inv rfl with⟨x,i,p,q⟩ | q<;>rw[q]at o
  .refine⟨n,A,d,x,i,rl,h,p,λe v g f=>?_⟩;cases x with
   | true=>exact⟨e,i,d,f,h.mono g,cU.ext o g⟩
   | false=>exact⟨e,i,d,f,h.mono g,cU.ext o g⟩
  .exact Je o
theorem BJ{e:Expr}{d:ED}(i:lK X XE)(h:jX X cm e d):PE X e (oW X.K cm XE d):=λb s g H Q I ⟨j,A,c,rl,k,o⟩=>
 Jt (h b s g H Q XE I ⟨j,A,c,rl,k,o⟩) (λ_ _ z=>z) λr l ⟨a,C,v,m,n,p,f,q⟩=>by subst n;exact i b g m l a C v p f q
theorem tT{e:Expr}{d:ED}{pos:Pos}(k:lK X XE)(h:jX X cm e d)(hs:swapsWith e none pos.line X.env=pure false:=by rfl):PS X (.Expr e pos) (o4 X.K cm XE (Q7 d)):=
 V6 (qN (BJ k h) hs) λD l H m=>by
  obtain⟨n,A,a,rl,i,o⟩:=m;refine⟨n,A,a,rl,i,?_⟩;unfold Q7 av at o;rcases hs:d a A with⟨f,p⟩ | ⟨c,v,p⟩ | _<;>rw[hs]at o
  .exact λb q s j g r=>o b q j g l (i.mono j)
  .exact o
  .exact o
end
theorem BK{fs:List Addr}{L:Addr}{m H H':Hp}{i h h':Heap}(a:Un fs [] m H i h)(b:Un (L::fs) [] H H' h h')(q:i.objs.size<=L):Un fs [] m H' i h':=by
 have ne:∀b o,i.get? b=some o->b≠L:=λb o e=>IL (IZ (II e) q);refine⟨λc o e n g d=>?_,λc o e n g d=>?_,λc o e n d=>?_,λc o e d=>?_,λc p e=>b.tups c p (a.tups c p e),λc o u e=>b.frzs c o u (a.frzs c o u e),λc r e=>?_⟩
 .exact b.keep c o (a.keep c o e n g d) (a.free c o e n d) (λz=>(IH.mp z).elim (ne c o e) g) d
 .obtain⟨w,f⟩:=a.slot c o e n g d;obtain⟨j,k⟩:=b.slot c _ f (a.free c o e n d) (IF _ g) d;exact⟨j,k⟩
 .obtain⟨l,f⟩:=a.there c o e d;exact b.free c l f (a.free c o e n d) d
 .obtain⟨l,f⟩:=a.there c o e d;exact b.there c l f d
 .obtain⟨s,f⟩:=a.tbls c r e;obtain⟨v,k⟩:=b.tbls c _ f;exact⟨s++v,by rw[k,NO]⟩
def lL(E:L2.XK)(a:Addr)(H':Hp):Prop:=∃C v,V1 .none H' a C v/\∀b,cv H' b->V1 .none b a C v->E (.ref a) none b
section
variable{P:IV}{w:JB}{K:Iw}{mg:Str->Option Iv}{base:Heap}{cm:Nat->Addr}
theorem t0{N:List Str}{e:Str}{b:Oy}{f:Addr}{h:Iv}{A:Jx}{d:List Env}{k:IA}{l:Hp}{E:L2.XK}:lK (u8 (ft P w) P w K mg base N e b f h A d k l E) (lL E):=by
 intro i n H s a o p I _ ⟨C,v,m,q⟩;refine BC (P:=P) (w:=w) I.ok.frames I.stack rfl I.stkFree I.hok m λr j u ok g c=>?_;refine⟨a,C,v,j,rfl,I.os,I.bare,?_,ok,g,q j c g⟩;exact BK I.base (u.mono I.stkSub λ_ z=>z) (IC _)
theorem BL{n p:Nat}{s:SD}{i:List PV}{B:PHp}{y:List Addr}{H:Hp}{Q:VK}{E:L2.XK}(h:dY K cm y H (λa f=>E (.ref a) none f) Q (fn n p s i B)) :
 cU K cm y H (lL E) { nx:=λ_ f=>Q .non f,rt:=Q } (s (Ws.start n i) B):=by
 unfold fn at h;by_cases z:i.length=p
 case neg=>rw[show E3 _ _=stuck from if_neg z]at h;exact Je h
 rw[L7 z]at h;unfold av at h;rcases A:s _ B with⟨o,C⟩ | ⟨c,v,C⟩ | _<;>rw[A]at h
 .cases o with
  | nx D=>exact λb j k d G _=>h b j _ k d .non
  | rt u=>exact λb j k d g l=>h b j g k d l
  | _=>exact Je h
 .exact λm f a g x rl I q=>⟨cm c,g,q,λr calm e=>h m r a g (x.trans calm.ext) (rl.calm calm) (I.mono calm.ext) e⟩
 .exact h
theorem BM{x b:Str}{st:Stmt}{f:Addr}{j:IY}{N ps:List Str}{k:Nat}{s:SD}(F:L2.Fun K x b st f j)(S:C6 N ps (B6 st))
 (d:∀(c:Iv)(A:Jx)(a:List Env)(e:IA)(H:Hp)(E:L2.XK),aM k (A.deeper (Jw b (B6 st) e.heap.objs.size f c))->
  cf (u8 (ft P w) P w K mg base N b (B6 st) f c A a e H E) (G7 st) (o4 K cm (lL E) s)) :
 aE P w K mg base (ft P w) (k+1) f j ps (gM K cm (fn N.length ps.length s) ps.length):=by
 obtain⟨v,y,kV,p,z,C,c,D,q,rfl,lk,g⟩:=F.ex;refine mJ lk g S (λr H Q E ⟨l,A,m,rl,i,n,_⟩=>by rw[<-i.length];exact n) λA a e H r Q E u h=>⟨_,d c A a e H E u,?_⟩;obtain⟨l,B,m,rl,i,n,o⟩:=h;exact⟨l,B,Ws.start _ m,rl,bP.start0 i,BL o⟩
end
theorem BN{n p:Nat}{s:SD}{vs:List PV}{A:PHp}(h:fn n p s vs A≠.no):vs.length=p:=by
 by_cases a:vs.length=p
 .exact a
 .exfalso;apply h;show E3 _ _ A=_;rw[show E3 _ _=stuck from if_neg a];rfl
structure ka(P:IV)(w:JB)(K:Iw)(mg:Str->Option Iv)(base:Heap)(cm:Nat->Addr)(c:Nat)(m:Str)(k:Nat)(ps:List Str)(f:Fun)(n:Nat):Prop where
 ex:∃(fa:Addr)(fd:IY),aE P w K mg base (ft P w) k fa fd ps (gM K cm f n)/\hJ K (cm c) m fa/\L2.Binds K fd ps []
 len:∀vs A,f vs A≠.no->vs.length=n
section
variable{X:Cx}{cm:Nat->Addr}
theorem oX{c:Nat}{f:Fun}{n k j:Nat}{ps:List Str}{m:Str}{o e:Expr}{es:List Expr}{d:ED}{l:AD}{a pos:Pos}{p:Sem Bool}(D:ka X.prog X.w X.K X.mg X.base cm c m k ps f n)(q:k<=j)(r:aM j X.A)(s:dS X.K (cm c))(u:PE X.nox o (da X.K cm d))(v:PA X.nox (e::es) (gx X.K cm l))(b:∀i,i<19->cy i≠m)
 (g:starEach (e::es) X.env=(false,eval e X.env)::starEach es X.env:=by exact E9 rfl) (h:(backTo pos (starEach es X.env)).any (·.1)=false:=by rfl)
 (x:eval (.Call (.Attribute o m a) (e::es) [] pos) X.env=(do
  let ov <-eval o X.env
  standAt a.atName
  let(f,first) <-holding [ov] (getMethod ov m p)
  callWith pos f first (backTo pos (starEach (e::es) X.env)) (backToKw pos (keywordEach [] X.env))):=by rfl) :
 jX X cm (.Call (.Attribute o m a) (e::es) [] pos) (r9 c f d l):=by
 obtain⟨B,C,F,y,z⟩:=D.ex;exact BH u s y F D.len b (r.mono q) z v g h x
end
noncomputable def jt(K:Iw):Sp:=λa H Q _=>∃e C b v,a=[.ref e,v]/\H e=some (XO C none none e)/\XK K C b/\∀d,H d=none->d≠e->Q .non (aI (aI H e (XO C (some d) none e)) d (.xd [("at",v)]))
theorem BO{P:IV}{w:JB}{K:Iw}{mg:Str->Option Iv}{base:Heap}{x b:Str}{st:Stmt}{f:Addr}{j:IY}{k:Nat}{N:List Str}(F:L2.Fun K x b st f j)(S:C6 N N (B6 st))(m:N.length=2)
 (g:∀(c:Iv)(A:Jx)(a:List Env)(i:IA)(H:Hp)(E:L2.XK),aM k (A.deeper (Jw b (B6 st) i.heap.objs.size f c))->
  cf (u8 aW P w K mg base N b (B6 st) f c A a i H E).nox (G7 st) (tQ K (fU 0) (fU 1))) :
 aE P w K mg base aW (k+1) f j N (jt K):=by
 refine F.ok S (λn H Q E ⟨e,C,l,v,h,_⟩=>by rw[h,m];rfl) λc A a i H n Q E o h=>⟨_,g c A a i H E o,?_⟩;obtain⟨e,C,l,v,rfl,p,q,r⟩:=h;have s:(L2.start N [V.ref e,v])[0]?=some (some (V.ref e)):=by unfold L2.start;simp
 have u:(L2.start N [V.ref e,v])[1]?=some (some v):=by unfold L2.start;simp
 exact⟨v,u,.ref e,s,e,C,l,rfl,p,q,λd y z=>r d y z⟩
section
variable{X:Cx}{pins:List (Addr×Obj)}{σ:L2.St}{H:Hp}{s:IA}{E:Iv->IA->Prop}
theorem BP{C n:Addr}{z:IY}{k:Nat}{ps:List Str}{v:V}{u:Iv}{Q:VK}(m:XK X.K C n)(F:aE X.prog X.w X.K X.mg X.base aW k n z ps (jt X.K))(G:aM (k+1) X.A)(J:L2.Binds X.K z ps [])
 (I:L2.Inv X pins σ H s) (r:L2.RelV v u) (h:∀e d,H e=none->H d=none->d≠e->Q (.ref e) (aI (aI H e (XO C (some d) none e)) d (.xd [("at",v)]))) :
 wpAny (model X.prog X.w) X.A (call (.ref C) [u]) (EP X pins σ Q) E s:=by
 have L:∀b o,s.heap.get? b=some o->(s.heap.push { cls:=.type "tuple",data:=.seq [u].toArray }).get? b=some o:=λb o e=>Iu _ e;have N:((s.heap.push { cls:=.type "tuple",data:=.seq [u].toArray }).push (iI C s.heap.objs.size)).get? (s.heap.objs.size+1)=some (iI C s.heap.objs.size):=by heap_get
 have O:=I.kept (t':=s.toks) L;have p:=O.laid (a:=s.heap.objs.size+1) (o:=XO C none none _) (t':=s.toks) (λb o q=>Iu _ q) (Pl (JH _ _))
  (oP ⟨_,_,N,rfl,rfl,rfl,rfl,rfl⟩)
 have x:=I.hok.fresh (Mh _);have i:jt X.K [.ref _,v] _ (λw T=>w=.non/\Q _ T) E0:=
  ⟨s.heap.objs.size+1,C,n,v,rfl,C7,m,λd B j=>⟨rfl,by
   rw[wx];exact h _ d x (by rw[aq j]at B;exact B) j⟩⟩
 have D:aH [V.ref _,v] [IS (s.heap.objs.size+1),u]:=.cons rfl (.cons r .nil);have U:[IS (s.heap.objs.size+1),u].length=ps.length:=by
  have e:=D.length;rw[F.len _ _ _ _ i]at e;exact e.symm
 have y:=J _ [IS _,u] p.kIn (by exact U);obtain⟨hh,g,d,t,os⟩:=s;refine MK (Bx (m.cls I.kIn) (PR I.kIn m.init) (λl=>PySem.W.bind_fn I.kIn l (beq_iff_eq.mp m.fn)) (by simp[sizeLine]) (KW (F.run _ _ _ _ ⟨[IS _,u],[]⟩ _ _ _ _ (G.make C [u] [])
  (p.env0.make C [u] []) y D i) λr s' c=>?_))
 cases r with
 | error e=>exact Je c
 | ok Y=>
   cases Y with
   | ret u=>
     obtain⟨v,H',I3,rv,ev,q3⟩:=p.after c;subst ev;exact⟨rv,⟨V.ref _,H',I3,rfl,q3⟩⟩
   | next=>exact Je c
   | brk=>exact Je c
   | cont=>exact Je c
end
section
variable{M:QR}{A:Jx}{E:Iv->IA->Prop}{env:Env}
theorem BQ{s:IA}{x:Sem Iv}{C:Addr}{Q:Flow->IA->Prop}(p:A.handled=none)
 (h:wpAny M A x (λv a=>∃e i j,v=.ref e/\lI a.heap C "ValueError.__new__"/\a.heap.get? e=some i/\i.cls=.ref C/\i.data=.fields j/\j[1]?=some .none/\E (.ref e) a) E s) :
 wpAny M A (raiseStmt env (some x) none) Q E s:=by
 unfold raiseStmt;refine Ir (Jt h (λv a c=>?_) λ_ _ x=>x);obtain⟨e,i,j,rfl,r,l,f,m,u,w⟩:=c;obtain⟨B,q,N,bs,y,n,D,sub,G,z,H,I,J,L,O,T,o,_,b,_⟩:=r.obj;have k:(IS C::y).contains (.type "BaseException")=true:=by rw[KJ,b,MT]
 obtain⟨U,g,d,Y,os⟩:=a;repeat (first | (with_reducible refine Kq l ?_;first | rw[f] | rw[m]) | with_reducible refine Kq o ?_ | (with_reducible refine La o ?_;rw[k]) | with_reducible refine JJ l m u ?_ | wp_step)
 exact wpAny_raiseNew_none p w
end
structure iK(P:IV)(w:JB)(K:Iw)(mg:Str->Option Iv)(base:Heap)(cm:Nat->Addr)(c:Nat)(x:Str)(k:Nat):Prop where
 ex:∃(fI:Addr)(fd:IY)(ps:List Str),aE P w K mg base aW k fI fd ps (jt K)/\XK K (cm c) fI/\mg x=some (.ref (cm c))/\L2.Binds K fd ps []
section
variable{X:Cx}{cm:Nat->Addr}{XE:Addr->Hp->Prop}
theorem BR{H:Hp}{C e d:Addr}{v:V}(he:H e=none)(b:H d=none)(a:d≠e):V1 .none (aI (aI H e (XO C (some d) none e)) d (.xd [("at",v)])) e C v:=
 ⟨d,none,by rw[aq (KP a),C7],C7,λT z=>nomatch z⟩
theorem l4{c k k':Nat}{x:Str}{e:Expr}{ds:AD}{np f pos:Pos}(hx:lK X XE)(hc:X.calm=true)(D:iK X.prog X.w X.K X.mg X.base cm c x k)(hk:k+1<=k')(hr:aM k' X.A)(hg:Gl X x)
 (ha:PA X.nox [e] (gx X.K cm ds)) (y:(x == ("__debug__" : Str))=false:=by decide) (he:starEach [e] X.env=(false,eval e X.env)::starEach [] X.env:=by exact E9 rfl) (B:(backTo f (starEach [] X.env)).any (·.1)=false:=by rfl) :
 PS X (.Raise (some (.Call (.Name x np) [e] [] f)) none pos) (o4 X.K cm XE (i7 c ds)):=by
 intro h s σ H D' I ⟨ρ,A,E,rl,rs,o⟩;obtain⟨fI,fd,ps,F,G,hm,hb⟩:=D.ex;rw[arm_exec_Raise];refine Ir (OH (BQ (C:=cm c) (I.ok.hd hc) (Ir (Jt ?_ (λv s3 l=>Ir (OH (Iy l))) λ_ _ x=>x))));unfold i7 av at o;rcases noX_inv rfl with⟨J,A1,e1,q⟩ | q<;>rw[q]at o
 case inr=>exact Je o
 refine LF (u6 I hg hm ?_ y);refine LG I.ok.mod.kin G.kp (Jt (ha f h s σ H (λm g=>∃b,aG ρ H b g/\aQ X.K cm b A1 g/\RVs b g J m) (I.wish _) ⟨ρ,A,E,J,A1,rl,rs,e1,λb g v1 L i j=>⟨b,L,i,j⟩⟩) (λus s1 ⟨m,g,I1,r,b,L,i,j⟩=>⟨I1.kIn,?_⟩) λ_ _ z=>Je z) he B;rcases J with _ | ⟨v,_ | ⟨w',t⟩⟩
 .exact Je o
 .cases j with
  | cons rv rn=>
    rename_i u t';cases rn;cases r with
    | cons r1 r2=>
      rename_i u' t';cases r2;refine Jt (BP (Q:=λz H2=>∃a d,z=.ref a/\g a=none/\g d=none/\d≠a/\H2=aI (aI g a (XO _ (some d) none a)) d _) G F (hr.mono hk) hb I1.unwish r1 λa d N n l=>⟨a,d,rfl,N,n,l,rfl⟩) (λz s2 zq=>?_) λ_ _ z=>z;obtain⟨z',H2,O,rz,a,d,N,n,l,T,h5⟩:=zq;subst N;obtain rfl:z=IS a:=rz;subst h5;have fl:V1 .none _ a (cm c) u:=BR n l T;have p:aI g a (XO (cm c) (some d) none a) d=none:=by rw[aq T];exact l
      have U:aG b g b (aI g a (XO (cm c) (some d) none a)):=aG.same n;have Y:aG b _ b (aI _ d (.xd [("at",u)])):=aG.same p;have a0:=(i.grow U (R4 n)).grow Y (R4 p);obtain⟨oe,ws,y1,y2,y3,y4,y5,y6⟩:=oR O (by rw[aq (KP T),C7]);exact⟨a,oe,ws,rfl,G.cls O.kIn,y1,y2,y4,y5,hx h σ _ s2 a _ u O fl (o b _ a u ((L.trans U).trans Y) a0 ((rv.mono U).mono Y) fl)⟩
 .exact Je o
end
theorem tU{K:Iw}{C C' n:Addr}(x:XK K C n):∃d q N bs c a e sub f b g h i j k l,K.lookup C=some (excClassObj d q C N bs c a e sub f b g h i j k l "ValueError.__new__")/\U4 c=true/\(IS C::c).contains (.ref C')=ju K C C':=by
 obtain⟨d,q,N,bs,c,a,e,sub,f,b,g,h,i,j,k,l,m,o,_⟩:=x.obj;refine⟨d,q,N,bs,c,a,e,sub,f,b,g,h,i,j,k,l,m,o,?_⟩;unfold ju;rw[m]
section
variable{M:QR}{A:Jx}{E:Iv->IA->Prop}{s:IA}
theorem BS{K:Iw}{C C' w i e:Addr}{p:Obj}{Q:Bool->IA->Prop}(b:K.In s.heap)(x:XK K C w)(y:XK K C' i)(he:s.heap.get? e=some p)(c:p.cls=.ref C)(j:Q (ju K C C') s):wpAny M A (excMatches (.ref e) (.ref C')) Q E s:=by
 obtain⟨nm,q,N,bs,z,r,sn,sub,ab,B,dd,k0,k1,k2,k3,k5,D,ho,G⟩:=tU (C':=C') x;obtain⟨H,q',N',I,k,l,J,u,L,v,O,T,U,Y,a0,a1,m,n,_⟩:=tU (C':=C') y;have hC:=b _ _ D;have h:=b _ _ m;have a:=(oS n).2.1;have o:(IS C'::k).contains (.type "BaseException")=true:=by rw[KJ,a,MT]
 have f:=tc_notTuple;rw[<-G]at j;obtain⟨hp,g,d,t,os⟩:=s;unfold excMatches;repeat (first | (with_reducible refine Kq he ?_;rw[c]) | with_reducible refine Kq h ?_ | (with_reducible refine La h ?_;rw[o]) | with_reducible refine La hC ?_ | wp_step)
 cases hb:(IS C::z).contains (.ref C')<;>(rw[hb]at j;wp_walk;exact j)
end
abbrev kb(X:Cx)(a:Addr):Cx:={ X with A:=X.A.mark (some (.ref a)),calm:=false,xe:=λ_ _=>False }
section
variable{X:Cx}{pins:List (Addr×Obj)}{σ:L2.St}{H:Hp}{s:IA}{a:Addr}
theorem tV(I:L2.Inv X pins σ H s)(a:Addr):L2.Inv (kb X a) pins σ H s:=
 ⟨⟨I.ok.mod,I.ok.kind,I.ok.glob,I.ok.blt,I.ok.above,I.ok.inj,I.ok.has,I.ok.cab,(λz=>by cases z),I.ok.frames,I.ok.stk,I.ok.exf,I.ok.bs,I.ok.bsz,I.ok.noex,I.ok.exfs,I.ok.funs,I.ok.frf⟩,I.os,I.bare,I.base,I.loc,I.cell,I.free,I.freeC,I.pin,I.hok,I.len⟩
theorem lM(O:X.Ok)(I:L2.Inv (kb X a) pins σ H s):L2.Inv X pins σ H s:=⟨O,I.os,I.bare,I.base,I.loc,I.cell,I.free,I.freeC,I.pin,I.hok,I.len⟩
theorem BU{D:u5}{f:Flow}(O:X.Ok)(h:SP (kb X a) pins D f s):SP X pins D f s:=by
 cases f with
 | next=>obtain⟨b,c,I,q⟩:=h;exact⟨b,c,lM O I,q⟩
 | brk=>obtain⟨b,c,I,q⟩:=h;exact⟨b,c,lM O I,q⟩
 | cont=>obtain⟨b,c,I,q⟩:=h;exact⟨b,c,lM O I,q⟩
 | ret u=>obtain⟨v,b,c,I,r,q⟩:=h;exact⟨v,b,c,lM O I,r,q⟩
end
structure oY(K:Iw)(cm:Nat->Addr)(es:List Nat):Prop where
 xk:∀c∈es,∃fI,XK K (cm c) fI
 sub:∀c∈es,∀k∈es,ju K (cm c) (cm k)=gI c k
section
variable{X:Cx}{cm:Nat->Addr}
def PH(X:Cx)(cm:Nat->Addr)(es:List Nat)(hs:List Nr)(j:List Hd):Prop:=
 ∀(b:List (Addr×Obj))(s:IA)(σ:L2.St)(H:Hp)(D:u5)(E:Iv->IA->Prop)(a:Addr)(c:Nat)(i:V)(g:List Addr)(A:PHp)(e:PSt)(v:PV)(f:Fl)(A':PHp),L2.Inv X b σ H s->V1 .none H a (cm c) i->c∈es->
  aQ X.K cm g A H->bP g H e σ->RV g H v i->d3 j c v e A=.ok f A'->(∀d h,aG g H d h->aQ X.K cm d A' h->nI D d h f)->wpAny (model X.prog X.w) X.A (handleBy (.ref a) X.env hs) (SP X b D) E s
theorem BV{es:List Nat}{hs:List Nr}:PH X cm es hs []:=by
 intro b s g H D E a c h i A d v f j I l m rl n o e k;cases e
theorem BW{es:List Nat}{hs:List Nr}{G:List Hd}{k:Nat}{x:Str}{U pos:Pos}{e:Stmt}{g:List Stmt}{b:SD}(o:oY X.K cm es)(J:k∈es)(Y:Gl X x)(hm:X.mg x=some (.ref (cm k)))
 (hb:∀a,cf (kb X a) (e::g) (fW X.K cm b)) (hr:PH X cm es hs G) (p:(x == ("__debug__" : Str))=false:=by decide) :
 PH X cm es (.ExceptHandler (some (.Name x U)) none (e::g) pos::hs) ((k,none,b)::G):=by
 intro h s L H D E a c v' N A j v f O I n r rl Q rv l T;obtain⟨fI,xk⟩:=o.xk c r;obtain⟨a6,y⟩:=o.xk k J;obtain⟨d,tb,f1,f2,f3⟩:=id n;obtain⟨oe,vs,y1,y2,y3,y4,y5,y6⟩:=oR I f1;refine wpAny_handleBy_cons (codeAny_handlers_test (u6 (X:=kb X a) (tV I a) Y hm ?_ p)) (by intro q;cases q);refine BS I.kIn xk y y1 y2 ?_;rw[o.sub c r k J];unfold d3 at l;cases m:gI c k with
 | true=>
   rw[m,if_pos rfl]at l;refine codeAny_handlers_suite ?_;refine oV (P:=X.prog) (w:=X.w) I.hok n λh' H' u ok b1 i=>?_;have I2:=I.un (t':=s.toks) (u.mono (λ_ z=>nomatch z) λ_ z=>z) ok;refine Jt (hb a h _ L H' D (tV I2 a) ⟨N,A,j,f,O,rl.calm i,Q.mono i.ext,l,λB H1 x1 C=>T B H1 (i.ext.trans x1) C⟩) (λn s2 q=>?_) λ_ _ z=>Je z;exact BU I.ok q
 | false=>
   rw[m,if_neg (by simp)]at l;exact hr h s L H D E a c v' N A j v f O I n r rl Q rv l T
end
structure XG(K:Iw)(C:Addr):Prop where
 ga:findIn K (.ref C) "__getattribute__" = some (some (.builtin "BaseException.__getattribute__"))
 gt:findIn K (.ref C) "__getattr__" = some none
 hd:hasDictIn K C=true
 cl:findIn K (.ref C) "__class__" = some (some (.builtin "object.__class__"))
 cg:specialIn K (.builtin "object.__class__") "__get__" = some (some (.builtin "getset_descriptor.__get__"))
 ct:takesIn K (.builtin "object.__class__")=some true
 mo:mroIn K C (.type "object")=some true
structure BX(K:Iw)(cm:Nat->Addr)(es:List Nat):Prop where
 xg:∀c∈es,XG K (cm c)
 kit:∀c∈es,∀k∈es,kitOne K (.ref (cm c)) (.ref (cm k))=some (gI c k)
 kitV:∀c∈es,kitOne K (.ref (cm c)) (.type "ValueError")=some true
def tW(X:Cx)(c:Nat->Addr)(st:Stmt)(d:SD):Prop:=
 ∀(a:List (Addr×Obj))(s:IA)(σ:L2.St)(H:Hp)(D:u5)(b:Addr->Hp->Prop),L2.Inv X a σ H s->o4 X.K c b d D σ H->wpAny (model X.prog X.w) X.A (exec st X.env) (SP X a D) (iJ X a σ b) s
section
variable{X:Cx}{cm:Nat->Addr}
theorem BY{e:Expr}{d:ED}{pos:Pos}(h:jX X cm e d)(hs:swapsWith e none pos.line X.env=pure false:=by rfl):tW X cm (.Expr e pos) (Q7 d):=by
 intro a s g H D n I ⟨p,A,b,rl,l,o⟩;refine wpAny_Expr_any (Jt (h a s g H _ n I ⟨p,A,b,rl,l,?_⟩) (λv y ⟨x,i,q,B,r⟩=>⟨g,i,q,r⟩) λ_ _ z=>z) I.quiet hs;unfold Q7 av at o;rcases hs:d b A with⟨f,u⟩ | ⟨c,v,u⟩ | _<;>rw[hs]at o
 .exact λj i C m k w=>o j i m k g (l.mono m)
 .exact o
 .exact o
theorem BZ{es:List Nat}{st:Stmt}{h₀:Nr}{hs:List Nr}{pos:Pos}{b:SD}{G:List Hd}(i:X.stack=X.env::X.outer/\X.env.frame=some X.env.locals)(hb:tW X cm st b)(hh:PH X cm es (h₀::hs) G) :
 Ps X cm (.Try [st] (h₀::hs) [] [] pos) (jJ es b G):=by
 intro g s Q H D I ⟨T,A,e,f,U,rl,Y,h,k⟩;refine wpAny_Try_except (OQ (Jt (hb g s Q H D (λa r=>∃c v d j o,aG T H d r/\aQ X.K cm d j r/\RV d r v o/\V1 .none r a (cm c) o/\c∈es/\d3 G c v e j=.ok f U) I ⟨T,A,e,rl,Y,?_⟩) (λu y q=>?_) λh y zq=>?_))
 .unfold jJ at h;rcases J:b e A with⟨f1,j⟩ | ⟨c,v,j⟩ | _<;>rw[J]at h
  .cases h;exact k
  .obtain⟨L,h⟩:=C5 h;exact λl H' a o B m n u=>⟨c,v,l,j,o,B,m,n,u,L,h⟩
  .cases h
 .cases u with
  | next=>exact LJ (LJ q)
  | _=>exact q
 .obtain⟨a,C,v0,r,h1,p,_,c,v,d,j,o,B,m,n,u,L,N⟩:=zq;subst h1;have w:=p.ok.frames;have hl:=p.stack;have x:=p.stkFree;rw[i.1]at w hl x;refine tS w hl i.2 x p.hok u λh2 H2 u2 o2 f2 c2=>?_;have I2:=p.call (t':=y.toks) (d':=y.drawn) (ch:=[]) (by rw[i.1];exact u2) o2 p.bare (λb z=>absurd z nofun);refine oV o2 f2 λh3 H3 u3 o3 f3 c3=>?_;have I3:=I2.un (t':=y.toks) (u3.mono nofun λ_ z=>z) o3;have E:=c2.trans c3;exact hh g _ Q H3 D X.xe a c o d j e v f U I3 f3 L (m.calm E) ((Y.mono B).mono E.ext) (n.mono E.ext) N λl H' x' O=>k l H' ((B.trans E.ext).trans x') O
end
end Ws
namespace Ws
open PySem L2
section
variable{X:Cx}{cm:Nat->Addr}
theorem Ca:S7 X.K cm nz (rI kG λi j=>.int (i ^ j.toNat)):=ji (λx y A z a h=>by
 cases x<;>cases y<;>first | (obtain⟨c,h⟩:=C5 h;cases h;exact⟨_,_,rfl,rfl,⟨c.1,by omega⟩,rfl,rfl⟩) | cases h) (λ_ _ _ _=>.int _) _ _
end
end Ws
namespace Ws
open PySem L2
theorem tX{i j:List Int}(h:i.map (JY:Int->Key)=j.map JY):i=j:=(List.map_inj_right λ_ _ z=>JY.inj z).mp h
section
variable{ρ:List Addr}{H:Hp}{K:Iw}{A:PHp}{n:Nat}{v:V}
abbrev PT2(ρ:List Addr)(H:Hp)(m:List (List Int×PV))(a:List (List Key×V)):Prop:=Pairs (NS JY:List Int->List Key) ρ H m a
theorem PT2.len{m:List (List Int×PV)}{a:List (List Key×V)}(h:PT2 ρ H m a):m.length=a.length:=by
 have:=congrArg List.length h.keys;simpa using this.symm
theorem PT2.val:∀{m:List (List Int×PV)}{a:List (List Key×V)}(i:List Int),PT2 ρ H m a->(L9 m i=none/\f7 a (i.map JY)=none)\/∃x u,L9 m i=some x/\f7 a (i.map JY)=some u/\RV ρ H x u
 | [],a,i,h=>by obtain rfl:=h.nil_inv;exact .inl ⟨rfl,rfl⟩
 | p::r,a,i,h=>by
   obtain⟨u,b,rfl,c,t⟩:=h.cons_inv;unfold L9;by_cases e:p.1=i
   .rw[if_pos e,u9 (by rw[e])];exact .inr ⟨_,_,rfl,rfl,c⟩
   .rw[if_neg e,v6 (λz=>e (tX z))];exact PT2.val i t
theorem PT2.some_eq{m:List (List Int×PV)}{c:List (List Key×V)}(i:List Int)(h:PT2 ρ H m c):(f7 c (i.map JY)).isSome=(L9 m i).isSome:=by
 rcases PT2.val i h with⟨a,b⟩ | ⟨x,u,a,b,_⟩<;>rw[a,b]<;>rfl
theorem tY(i:List Int):∀m:List (List Int×PV),(m.any λp=>decide (p.1=i))=(L9 m i).isSome
 | []=>rfl
 | p::r=>by
   unfold L9;rw[LP];by_cases e:p.1=i
   .rw[if_pos e,decide_eq_true e];rfl
   .rw[if_neg e,decide_eq_false e,Bool.false_or];exact tY i r
theorem PT2.repl{x:PV}{u:V}(b:RV ρ H x u)(i:List Int):∀{m:List (List Int×PV)}{a:List (List Key×V)},PT2 ρ H m a->PT2 ρ H (m.map λp=>if p.1=i then(p.1,x) else p) (a.map λp=>if p.1=(i.map JY) then(p.1,u) else p)
 | [],a,h=>by obtain rfl:=h.nil_inv;exact⟨rfl,.nil⟩
 | p::r,a,h=>by
   obtain⟨w,c,rfl,d,t⟩:=h.cons_inv;have ih:=PT2.repl b i t;rw[Jb,Jb];by_cases e:p.1=i
   .rw[if_pos e,if_pos (by rw[e])];exact Pairs.cons' b ih
   .rw[if_neg e,if_neg (λz=>e (tX z))];exact Pairs.cons' d ih
theorem PT2.snoc{x:PV}{u:V}(b:RV ρ H x u)(i:List Int):∀{m:List (List Int×PV)}{a:List (List Key×V)},PT2 ρ H m a->PT2 ρ H (m++[(i,x)]) (a++[(i.map JY,u)])
 | [],a,h=>by obtain rfl:=h.nil_inv;exact Pairs.cons' b ⟨rfl,.nil⟩
 | p::r,a,h=>by
   obtain⟨w,c,rfl,d,t⟩:=h.cons_inv;exact Pairs.cons' d (PT2.snoc b i t)
theorem PT2.put{x:PV}{u:V}(c:RV ρ H x u)(i:List Int){m:List (List Int×PV)}{b:List (List Key×V)}(h:PT2 ρ H m b):PT2 ρ H (Y6 m i x) (Z5 b (i.map JY) u):=by
 unfold Y6 Z5;have e:(b.any λp=>decide (p.1=(i.map JY)))=(m.any λp=>decide (p.1=i)):=by
  rw[tY,mR];exact h.some_eq i
 rw[e];by_cases a:(m.any λp=>decide (p.1=i))=true
 .rw[if_pos a,if_pos a];exact h.repl c i
 .rw[if_neg a,if_neg a];exact h.snoc c i
theorem O8{e:Nat->Addr}{m:List (List Int×PV)}{A':PHp}(rl:aQ K e ρ A H)(r:RV ρ H (.ref n) v)(h:V9 n A=.ok m A'):A'=A/\A[n]?=some (.dT m)/\∃a c,v=.ref a/\ρ[n]?=some a/\H a=some (.dT c)/\PT2 ρ H m c:=by
 cases r with
 | ref d=>
   unfold V9 at h;rcases b:A[n]? with _ | o
   .rw[b]at h;cases h
   .have q:=rl.obj n o _ b d;cases o with
    | dT m=>rw[b]at h;cases h;obtain⟨f,g,i⟩:=q;exact⟨rfl,rfl,_,f,rfl,d,g,i⟩
    | _=>rw[b]at h;cases h
end
theorem X3{d:List Addr}{H:Hp}{a:PV}{j:List Int}{v:V}(h:P5 a=some j)(r:RV d H a v):∃b,v=.ref b/\H b=some (.tup ((j.map JY).map L2.kV)):=by
 cases a with
 | tup l=>
   cases r with
   | tup e c=>
     rw[X2 h]at c;have:=oM c;refine⟨_,rfl,?_⟩;rw[e,this];congr 2;simp[L2.kV]
 | _=>cases h
section
variable{X:Cx}{cm:Nat->Addr}
theorem tZ{y d:ED}{σ:L2.St}{H:Hp}{Q:VK}(h:da X.K cm (iF y d) σ H Q):rO (da X.K cm y) (da X.K cm d) σ H Q:=by
 obtain⟨D,A,e,v,Y,rl,u,E,k⟩:=h;obtain⟨w,z,G,i⟩:=B0 E;obtain⟨x,I,J,c⟩:=B0 i;refine⟨D,A,e,w,z,rl,u,G,λl H1 v1 B o p=>⟨l,z,e,x,I,o,u.mono B,J,λq L v2 C f r=>?_⟩⟩;rcases g:P5 w with _ | j<;>rw[g]at c
 .cases c
 cases x with
 | ref n=>
   obtain⟨m,A3,N,s⟩:=B0 c;obtain⟨rfl,hA,a,kv,rfl,hn,O,T⟩:=O8 f r N;cases s;obtain⟨b,rfl,U⟩:=X3 g (p.mono C);refine⟨a,_,rfl,cq.t O U,?_⟩;rw[T.some_eq j];exact k q L _ (B.trans C) f (.bl _)
 | _=>cases c
theorem ua{i o:Expr}{y d:ED}{pos:Pos}(a:X.A.units+1<cLine)(b:Pe X cm i y)(c:Pe X cm o d)(e:behindInMarks .In o=false:=by rfl):Pe X cm (.Compare i [.In] [o] pos) (iF y d):=
 E1 (wN (rP a b c) e) λf H Q h=>tZ h
theorem Cb{i o:Expr}{y d:ED}{pos:Pos}(a:X.A.units+1<cLine)(b:Pe X cm i y)(c:Pe X cm o d)(e:behindInMarks .In o=false:=by rfl):Pt X cm (.Compare i [.In] [o] pos) (D3 (iF y d)):=
 jg (mq (rP a b c) e) λf H Q h=>y8 (λ_ _ _=>tZ) h
theorem ub{o i g:Expr}{d y e:ED}{pos p:Pos}(hu:X.A.units+1<cLine)(ho:Pe X cm o d)(hi:Pe X cm i y)(hv:Pe X cm g e)(hs:swapsWith g (some (.Subscript o i p)) pos.line X.env=pure false:=by rfl) :
 Ps X cm (.Assign [.Subscript o i p] g pos) (jK d y e):=
 V6 (zx hu ho hi hv hs) λD σ H hq=>by
  obtain⟨ρ,A,q,f,A',rl,u,ev,k⟩:=hq;obtain⟨w,A1,e1,E⟩:=B0 ev;obtain⟨x,A2,e2,G⟩:=B0 E;obtain⟨kx,A3,e3,h⟩:=B0 G;refine⟨ρ,A,q,w,A1,rl,u,e1,λI H1 v1 v J L=>⟨I,A1,q,x,A2,J,u.mono v,e2,λN H2 v2 z O Q=>⟨N,A2,q,kx,A3,O,(u.mono v).mono z,e3,λl H3 v3 B r T=>?_⟩⟩⟩;rcases s:P5 kx with _ | j<;>rw[s]at h
  .cases x<;>cases h
  cases x with
  | ref n=>
    obtain⟨m,A4,e4,U⟩:=B0 h;obtain⟨rfl,hA,a,kv,rfl,hn,hH,hp⟩:=O8 r (Q.mono B) e4;obtain⟨c,Y⟩:=C5 U;cases Y;obtain⟨b,rfl,hb⟩:=X3 s T;refine⟨a,_,rfl,fV.t hH hb (by rw[<-hp.len];exact kZ c),?_⟩;have C:aG l H3 l (aI H3 a (.dT (Z5 kv (j.map JY) v1))):=aG.put r hn hA rfl;have a0:aQ X.K cm l (A4.set n (.dT _)) _:=
     r.put hn hA rfl rfl ⟨_,C7,PT2.put ((((L.mono z).mono B)).mono C) j (hp.mono C)⟩
    exact k l _ (((v.trans z).trans B).trans C) a0 σ ((((u.mono v).mono z).mono B).mono C)
  | _=>cases h
theorem lN{o i:Expr}{d y:ED}{pos:Pos}(L:X.A.units+1<cLine)(N:Pe X cm o d)(O:Pe X cm i y)(hs:mT i):Pe X cm (.Subscript o i pos) (jc d y):=
 E1 (zw L N O hs) λσ H Q T=>by
  obtain⟨U,A,f,v,A',rl,C,Y,k⟩:=T;obtain⟨x,D,e1,l⟩:=B0 Y;obtain⟨E,A2,e2,c⟩:=B0 l;refine⟨U,A,f,x,D,rl,C,e1,λp H1 v1 G q r=>⟨p,D,f,E,A2,q,C.mono G,e2,λs H2 v2 I g w=>?_⟩⟩;rcases h:P5 E with _ | j<;>rw[h]at c
  .cases x<;>cases c
  cases x with
  | ref n=>
    obtain⟨m,A3,e3,e⟩:=B0 c;obtain⟨rfl,hA,a,kv,rfl,hn,hH,hp⟩:=O8 g (r.mono I) e3;obtain⟨b,rfl,hb⟩:=X3 h w;rcases hp.val j with⟨B,J⟩ | ⟨z,u,B,J,ru⟩
    .rw[B]at e;cases e
    .rw[B]at e;cases e;exact⟨a,u,rfl,by rw[<-J];exact cq.t hH hb,k s H2 _ (G.trans I) g ru⟩
  | _=>cases c
theorem lO{pos:Pos}:Pe X cm (.Dict [] [] pos) eTNew:=
 E1 zA λf H Q ⟨b,A,c,v,g,rl,h,d,k⟩ p a=>by
  cases d;have e:aG b H _ (aI H p (.dT [])):=aG.new a;exact k _ _ _ e (rl.alloc a ⟨_,C7,⟨rfl,.nil⟩⟩ rfl) (.ref (by rw[<-rl.len];simp))
theorem Cc{o e:Expr}{d y:ED}{c f:Pos}(Y:X.A.units+1<cLine)(ho:Pe X cm o d)(he:Pe X cm e y)(m:M1 X o "get" c e f:=by exact⟨rfl,rfl,rfl,rfl⟩):Pe X cm (.Call (.Attribute o "get" c) [e] [] f) (nA d y):=
 E1 (zF Y ho he m) λσ H Q hq=>by
  obtain⟨ρ,A,i,v,A',rl,O,ev,k⟩:=hq;obtain⟨x,A1,e1,l⟩:=B0 ev;refine⟨ρ,A,i,x,A1,rl,O,e1,λz H1 v1 B p r=>?_⟩;cases x with
  | ref n=>
    obtain⟨m0,A2,e2,C⟩:=B0 l;obtain⟨rfl,hA,a,kv,rfl,hn,hH,hp⟩:=O8 p r e2;refine⟨a,rfl,.inr ⟨kv,.inl hH⟩,?_⟩;obtain⟨T,A3,e3,g⟩:=B0 C;refine⟨z,_,i,T,A3,p,O.mono B,e3,λs U v2 D h E=>?_⟩;rcases w:P5 T with _ | j<;>rw[w]at g
    .cases g
    obtain⟨m1,A5,e5,G⟩:=B0 g;obtain⟨rfl,b3,a2,b5,e6,c1,I,J⟩:=O8 h (r.mono D) e5;cases e6;cases G;obtain⟨b,rfl,hb⟩:=X3 w E;refine⟨_,cq.t I hb,?_⟩;rcases J.val j with⟨L,N⟩ | ⟨q,u,L,N,ru⟩
    .rw[L]at k;rw[N];exact k s U _ (B.trans D) h .non
    .rw[L]at k;rw[N];exact k s U _ (B.trans D) h ru
  | _=>cases l
theorem Cd{o e f:Expr}{d y z:ED}{c g:Pos}(hu:X.A.units+1<cLine)(ho:Pe X cm o d)(he:Pe X cm e y)(hf:Pe X cm f z)(m:M2 X o "get" c e f g:=by exact⟨rfl,rfl,rfl,rfl⟩):Pe X cm (.Call (.Attribute o "get" c) [e,f] [] g) (nB d y z):=
 E1 (zG hu ho he hf m) λσ H Q hq=>by
  obtain⟨ρ,A,h,v,A',rl,I,ev,k⟩:=hq;obtain⟨x,A1,e1,p⟩:=B0 ev;refine⟨ρ,A,h,x,A1,rl,I,e1,λJ H1 v1 D r s=>?_⟩;cases x with
  | ref n=>
    obtain⟨m0,A2,e2,L⟩:=B0 p;obtain⟨rfl,hA,a,kv,rfl,hn,hH,hp⟩:=O8 r s e2;refine⟨a,rfl,.inr ⟨kv,.inl hH⟩,?_⟩;obtain⟨kx,A3,e3,N⟩:=B0 L;obtain⟨w,A4,e4,i⟩:=B0 N;refine⟨J,_,h,kx,A3,r,I.mono D,e3,λO H2 v2 E T U=>⟨O,A3,h,w,A4,T,(I.mono D).mono E,e4,λB H3 v3 G l Y=>?_⟩⟩;rcases C:P5 kx with _ | j<;>rw[C]at i
    .cases i
    obtain⟨m1,A5,e5,a0⟩:=B0 i;obtain⟨rfl,e8,a2,e9,e6,f1,a1,a3⟩:=O8 l ((s.mono E).mono G) e5;cases e6;cases a0;obtain⟨b,rfl,hb⟩:=X3 C (U.mono G);refine⟨_,cq.t a1 hb,?_⟩;rcases a3.val j with⟨h1,h2⟩ | ⟨q,u,h1,h2,ru⟩
    .rw[h1]at k;rw[h2];exact k B H3 _ ((D.trans E).trans G) l Y
    .rw[h1]at k;rw[h2];exact k B H3 _ ((D.trans E).trans G) l ru
  | _=>cases p
end
end Ws
namespace Ws
open PySem PySem.W PyProof.Rows PySem.Spec
noncomputable def eW(es:Array (Int×Iv))(c:Nat)(t:Jr):Obj:={ cls:=.type "set",dict:=none,data:=.set es c t }
section
variable{prog:IV}{w:JB}{A:Jx}{R:Qo->IA->Prop}{E:Iv->IA->Prop}{s:IA}
theorem Ce(a:Iv){Q₁:Iv->IA->Prop}
 (h:Q₁ (.ref s.heap.objs.size) { s with heap:=s.heap.push (eW #[] 0 (.fresh 0 0 (!w.params.followText "set-order"))) }) :
 codeAny (model prog w) A (.call (.builtin "set.__new__") ⟨[.type "set",a],[]⟩) (wants Q₁ E) s:=by
 refine ND ?_;show wpAny _ A.in1 (do checkBuiltinCall "set.__new__" ⟨[.type "set",a],[]⟩;again (.builtin "set.__new__" ⟨[.type "set",a],[]⟩)) _ _ s;refine Ir (QC (PySem.F.newCall_set_1 a) (Iy ⟨Nt F.plain_set_new _,Lp F.entry_set_new ?_⟩));rw[Nm F.plain_set_new _];unfold KL.«set.__new__» KL.Frozenset.newClass;have c:=sub_set_self;obtain⟨e,g,d,f,os⟩:=s;dsimp only
 wp_walk
 refine wpAny_askSetting (Iy ?_);dsimp only;simp only[newObj];refine Ir (wpAny_alloc (Iy ?_));exact Iy h
end
end Ws
namespace Ws
open PySem PySem.W PyProof.Rows L2
section
variable{X:Cx}{cm:Nat->Addr}
theorem uc:S7 X.K cm kU (rI (λ_ j=>0<=j) λi j=>.int (i / 2 ^ j.toNat)):=ji (λx y A z a h=>by
 cases x<;>cases y<;>first | (obtain⟨c,h⟩:=C5 h;cases h;exact⟨_,_,rfl,rfl,c,rfl,rfl⟩) | cases h) (λ_ _ _ _=>.int _) _ _
theorem Cf:S7 X.K cm nC (rI kG λi j=>.int (i*2 ^ j.toNat)):=ji (λx y A z a h=>by
 cases x<;>cases y<;>first | (obtain⟨c,h⟩:=C5 h;cases h;exact⟨_,_,rfl,rfl,c,rfl,rfl⟩) | cases h) (λ_ _ _ _=>.int _) _ _
theorem ud:S7 X.K cm kW (eD λi j=>.int (KL.bitAnd i j)):=jj (λx y A z a h=>by
 cases x<;>cases y<;>first | (cases h;exact⟨_,_,rfl,rfl,rfl,rfl⟩) | cases h) (λ_ _ _ _=>.int _) _ _
end
end Ws
namespace Ws
open PySem PySem.W PyProof.Rows L2
theorem fu:typeLookup (.type "list") "keys" = pure none:=rfl
theorem Cg{prog:IV}{w:JB}{A:Jx}{E:Iv->IA->Prop}{s:IA}{a:Addr}{o:Obj}{q:Array Iv}{k:Nat}{b:Str}{Q:Option Iv->IA->Prop}
 (r:s.heap.get? a=some o) (u:o.cls=.type "list") (f:o.data=.seq q k) (v:o.dict=none) (i:typeLookup (.type "list") b=pure none) (j:(["__module__","__name__","__qualname__","__doc__","__annotations__"]:List Str).contains b=false) (C:A.handled=none)
 (h:∀n x e,Heap.NewExcOf s.heap n e "AttributeError"->Q none { s with heap:=n,toks:=x }) (p:b.length+100<=sizeLine:=by size_fits) :
 wpAny (model prog w) A (getAttr? (.ref a) b) Q E s:=by
 obtain⟨c,D,G,H⟩:=o;simp only at u f v;subst u f v;obtain⟨I,g,d,x,os⟩:=s;have B:∀l,(⟨I,g,d,l,os⟩:IA).TypeIs (.ref a) "list":=λ_=>⟨_,r,rfl⟩;have J:=sub_AttributeError;have L:=Mm.lookup;have N:=Mm.bind (.ref a);have O:=am_list_getattr_none;unfold getAttr? getAttrBy? getAttrBy;repeat (any_goals (first | assumption | exact B _ | ((with_reducible show wpAny _ _ (call (Iv.builtin "list.__getattribute__") _ _) _ _ _);refine Ql Mm (B _) am_entry_list_getattribute (F.args_list_getattribute_2 _ _) (meets_getattribute_miss_list a q k H b _ i j p) ⟨r,C,λn l e m=>?_⟩) | wp_step))
 obtain⟨T,U,Y⟩:=m.there;show wpAny _ _ (getattributeRaised _ _ _ _ _ _ _) _ _ _;unfold getattributeRaised;repeat (any_goals (first | assumption | wp_step))
 exact h _ _ _ m.of
theorem ue:entryFor table "dict.update.loop" = some KL.«dict.update.loop»:=entryFor_of_tree rfl
theorem uf:plainId "dict.update.loop" = true:=by decide +kernel
theorem Ci{c a:Type}{m:Type->Type}[Monad m][LawfulMonad m](d:Array c)(b:a)(f:c->a->m (ForInStep a)):forIn d b f=forIn d.toList b f:=by simp
section
variable{prog:IV}{w:JB}{A:Jx}{E:Iv->IA->Prop}{s:IA}
theorem Cj{j:String}{d:Addr}{o:Obj}{es:Array Od}{k:Nat}{Q:Array Od->IA->Prop}(l:s.heap.get? d=some o)(m:o.data=.dict es k)
 (n:∀e∈es.toList,∃a,e.key=.ref a/\s.TypeIs (.ref a) "tuple") (p:∀e∈es.toList,(es.filter (·.hash == e.hash)).size<=1) (h:Q es s):wpAny (model prog w) A (KL.Dict.entriesForEmpty j d) Q E s:=by
 refine Ir (Ky l m ?_);refine Ir ?_;rw[Ci];refine Ng _ (λc _ g=>g=s/\∀e∈c,e∈_) _ ?_ ?_ _ _ ⟨rfl,λe f=>f⟩
 .rintro e c b g ⟨rfl,i⟩;have f:=i e IE;obtain⟨a,q,r⟩:=n e f;refine Ir ?_;rw[q];refine Ir (NA r PySem.F.slot_tuple_eq.lookup (Iy ?_));rw[if_pos (by decide),if_neg (by have:=p e f;omega)];exact Iy ⟨rfl,λx u=>i x (IF _ u)⟩
 .rintro b g ⟨rfl,_⟩;exact Iy h
abbrev TK(prog:IV)(w:JB):HeapKind prog w (List Key):=tupleKind (O1 prog w)
theorem Ck{o:Addr}{l:List (List Key×Addr×Iv)}{Q:Iv->IA->Prop}(J:(o == sysModules)=false)(ho:s.heap.DictOfH (TK prog w) o l)(a5:l.length<=sizeLine)
 (u:∀x∈l,(l.filter λy=>(TK prog w).hash y.1 == (TK prog w).hash x.1).length<=1)
 (h:∀L,L.DictOfH (TK prog w) s.heap.objs.size l->JS s.heap.objs.size (s.heap.push { cls:=.type "dict",data:=.dict #[] }) L->Q (.ref s.heap.objs.size) { s with heap:=L }) :
 wpAny (model prog w) A (call (.type "dict") [.ref o]) Q E s:=by
 obtain⟨oo,j,ep,v,hc,g,d,hk,hn⟩:=id ho;have z:=Py d;refine callType_codes (Q₁:=λobj k=>obj=.ref _/\k={ s with heap:=s.heap.push { cls:=.type "dict",data:=.dict #[] } }) Pc (NJ _) OL (kt_code_dict_new _ ⟨rfl,rfl⟩) ?_;rintro obj k ⟨rfl,rfl⟩;have i:(s.heap.push { cls:=.type "dict",data:=.dict #[] }).get? _=some { cls:=.type "dict",data:=.dict #[] }:=IG _ rfl;have B:Mx { s with heap:=s.heap.push { cls:=.type "dict",data:=.dict #[] } } (.ref _) "dict":=⟨_,i,rfl⟩;have c:(s.heap.push { cls:=.type "dict",data:=.dict #[] }).get? o=some oo:=Iu _ v;have m:Mx { s with heap:=s.heap.push { cls:=.type "dict",data:=.dict #[] } } (.ref o) "dict":=⟨_,c,hc.1⟩;have N:s.heap.objs.size≠o:=λe=>absurd (II v) (by rw[e];exact Ks _);refine⟨B,Oq _ _,?_⟩;refine Ir ?_;refine Ir (LM B ?_);refine Iy ?_;show wpAny _ _ (OM "dict.__init__" _ _ [] .none) _ _ _;refine Ir (NR m ?_);refine Ir ?_;refine Ir ?_;refine Ir (OS m isSubtype_dict_dict ?_);refine Ir (NA m MH.lookup (Iy ?_));refine Ir (Iy ?_);unfold KL.Dict.mergeDict;rw[if_neg (by simpa using N)];unfold MV;rw[if_neg (by rw[J];exact Kd)];refine Ir (Iy ?_);refine Ir (Ky c g ?_);cases p:l with
 | nil=>
   subst p;have C:j=#[]:=Nf.mp (by rw[d];rfl);subst C;rw[if_neg (by simp)];refine Ir (NF c g ?_);refine Ir (Ky c g ?_);refine Ir ?_;rw[Std.Legacy.Range.forIn_eq_forIn_range'];refine Iy ?_;refine Iy ?_;refine Ir (Iy (Iy ⟨rfl,h _ ?_ (JS.refl _ _)⟩));exact⟨_,_,_,i,⟨rfl,rfl,rfl⟩,rfl,rfl,λx q=>by simp at q,MO⟩
 | cons O xr=>
   have T:O∈l:=by rw[p];exact IE
   have r:∀e∈j.toList,∃a,e.key=.ref a/\Mx { s with heap:=s.heap.push { cls:=.type "dict",data:=.dict #[] } } (.ref a) "tuple":=by
    intro e I;rw[d]at I;obtain⟨x,q,rfl⟩:=IB.mp I;obtain⟨U,D,n,Y,h2,_⟩:=hk x q;exact⟨x.2.1,rfl,U,Iu _ Y,h2⟩
   have G:(decide (j.size<=8)&&j.all λe=>(keyPart e.key).isSome)=false:=by
    rw[Bool.and_eq_false_iff];refine .inr ?_;rw[<-Array.all_toList,List.all_eq_false];refine⟨entryOfKey _ O,by rw[d];exact IB.mpr ⟨O,T,rfl⟩,?_⟩;simp[entryOfKey,keyPart]
   rw[G];refine Ir (Ky i rfl ?_);refine Ir (Cj c g r (λe I=>?_) ?_)
   .have H:=I;rw[d]at H;obtain⟨x,q,rfl⟩:=IB.mp H;have:=u x q;rw[<-Ku,Array.toList_filter,d,My,Iz];exact this
   .have a1:j.isEmpty=false:=by
     cases hh:j.isEmpty with
     | false=>rfl
     | true=>
       have:j.size=0:=by simpa using hh
       rw[z,p]at this;simp at this
    rw[a1];refine Ir (wpAny_updateDictKeysTo i rfl ?_ (by omega));refine Iy ?_;refine Ir (Iy (Iy ⟨rfl,h _ ?_ (JI ..)⟩));have a2:Obj.ExactDict { cls:=.type "dict",data:=.dict #[] }:=⟨rfl,rfl,rfl⟩;refine⟨_,j,_,JF _ i (Qd (LW rfl _)),a2.mapDictKeys _,LW rfl _,d,λx q=>?_,hn⟩;refine(TK prog w).keeps (?_) i rfl (JI ..);obtain⟨U,D,n,Y,h2⟩:=hk x q;exact⟨U,D,n,Iu _ Y,h2⟩
end
noncomputable def hashK(k:List Int):Int:=reduceHash (KL.Tuple.tupleHashOf (k.map hashInt))
theorem Cm(P:IV)(w:JB)(k:List Int):(TK P w).hash (k.map JY)=hashK k:=by
 show reduceHash _=_;rw[J1];rfl
theorem Cn:(small.map hashK).Nodup:=by decide +kernel
theorem ug{a b:List Int}(c:a∈small)(d:b∈small)(h:hashK a=hashK b):a=b:=by
 obtain⟨i,e,rfl⟩:=Jk.mp c;obtain⟨j,f,rfl⟩:=Jk.mp d;have:=(Lu (h₀:=by simpa using e) (h₁:=by simpa using f) Cn).mp (by simpa using h);subst this;rfl
theorem Co{P:IV}{w:JB}{d:List (List Int)}(hs:∀k∈d,k∈small):∀{c:List (List Key×Addr×Iv)},c.map (·.1)=d.map (NS JY)->d.Nodup->∀x∈c,(c.filter λy=>(TK P w).hash y.1 == (TK P w).hash x.1).length<=1:=by
 intro c m o x r;have f:(c.map λy=>(TK P w).hash y.1).Nodup:=by
  have e:(c.map λy=>(TK P w).hash y.1)=d.map hashK:=by
   have:(c.map λy=>(TK P w).hash y.1)=(c.map (·.1)).map (TK P w).hash:=by rw[J1];rfl
   rw[this,m,J1];exact Kx λk _=>Cm P w k
  rw[e];have g:∀l:List _,(∀k∈l,k∈small)->l.Nodup->(l.map hashK).Nodup:=by
   intro l;induction l with
   | nil=>intro _ _;simp
   | cons a l ih=>
     intro h n;rw[Ki]at n;rw[Jb,Ki];refine⟨λz=>?_,ih (λk p=>h k (IF _ p)) n.2⟩;obtain⟨b,j,e⟩:=IB.mp z;exact n.1 (ug (h b (IF _ j)) (h a IE) e ▸ j)
  exact g d hs o
 have i:∀(l:List (List _×Addr×Iv))(v:Int),(l.map λy=>(TK P w).hash y.1).Nodup->(l.filter λy=>(TK P w).hash y.1 == v).length<=1:=by
  intro l v;induction l with
  | nil=>intro _;simp
  | cons a l ih=>
    intro n;rw[Jb,Ki]at n;by_cases e:(TK P w).hash a.1=v
    .have:l.filter (λy=>(TK P w).hash y.1 == v)=[]:=by
      rw[List.filter_eq_nil_iff];intro y q z;exact n.1 (IB.mpr ⟨y,q,by rw[eq_of_beq z,e]⟩)
     rw[OG (by simpa using e),this];simp
    .rw[Mq (by simpa using e)];exact ih n.2
 exact i c _ f
theorem Cp{H:Hp}{a:List (List Key×V)}{b:List (List Key×Addr×Iv)}(r:KT H a b):a.map (·.1)=b.map (·.1):=by
 induction r with
 | nil=>rfl
 | cons h _ ih=>rw[Jb,Jb,ih,h.1]
section
variable{X:Cx}{cm:Nat->Addr}
theorem Cq:bg X (.type "dict") (λi H Q=>∃(a:Addr)(d:List (List Key×V))(j:List (List Int)),i=[.ref a]/\H a=some (.dT d)/\d.map (·.1)=j.map (NS JY)/\j.Nodup/\(∀k∈j,k∈small)/\∀l,H l=none->Q (.ref l) (aI H l (.dT d))):=by
 intro w s σ H i us Q I r h;obtain⟨a,d,j,rfl,y,m,A,n,q⟩:=h;obtain⟨u,rfl,B⟩:=o6 r;cases B;obtain⟨z,C,i,f,D⟩:=kK I.hok y;have E:=Paired.length f;refine Ck C D (by rw[<-E];exact z) (Co n (by rw[<-Cp f];exact m) A) λh' p G=>?_;obtain⟨J,L,N,O,T,U,Y,_,h5⟩:=p;have g:=I.hok.fresh (IC _);refine⟨.ref _,_,I.laid (o:=.dT d) (λb o x=>(G.2 b (IL (II x))).trans (Iu _ x)) (IC _) ⟨z,beq_eq_false_iff_ne.mpr (KP (IL I.big)),i,KT.keeps f (λc ys v=>?_),J,L,N,O,T,U,Y,h5⟩,rfl,q _ g⟩;rw[aq (λe=>by rw[e,g]at v;cases v)];exact v
theorem Cr{e:Expr}{d:ED}{p pos:Pos}(he:Pe X cm e d)(q:Gl X "dict")(r:X.mg "dict" = none)(hs:starEach [e] X.env=(false,eval e X.env)::starEach [] X.env:=by exact E9 rfl):Pe X cm (.Call (.Name "dict" p) [e] [] pos) (nE d):=
 E1 (mL Cq q r (show bootBuiltins "dict" = some _ from by rfl) (af he ak hs) (he:=hs)) λC H Q h=>j0 (λ_=>rfl) (λs A H x z A' v Q rl u i k=>by
  cases x with
  | ref n=>
    obtain⟨m,A1,w,f⟩:=B0 i;obtain⟨rfl,E,a,j,rfl,G,y,b⟩:=O8 rl u w;obtain⟨c,g⟩:=C5 f;cases g;refine⟨a,j,m.map _,rfl,y,by rw[b.keys,J1];rfl,c.1,λk B=>?_,λD l=>?_⟩
    .obtain⟨p,b,rfl⟩:=IB.mp B;exact c.2 p b
    .have o:aG s H _ (aI H D (.dT j)):=aG.new l;exact k _ _ _ o (rl.alloc l ⟨_,C7,b.mono o⟩ rfl) (.ref (by rw[<-rl.len];simp))
  | _=>cases i) h
end
def gz(h:Heap)(d:Addr)(es:Array Od)(a:Nat):Prop:=∃o,h.get? d=some o/\o.ExactDict/\o.data=.dict es a
theorem gz.at{h h':Heap}{d:Addr}{es:Array Od}{a:Nat}(x:gz h d es a)(k:∀o,h.get? d=some o->h'.get? d=some o):gz h' d es a:=let⟨o,b,r⟩:=x;⟨o,k o b,r⟩
end Ws
namespace Ws
open PySem PySem.W PyProof.Rows L2
section
variable{X:Cx}{cm:Nat->Addr}
theorem uh{x:Str}{j pos}:Pe X cm (.Constant (.str x) j pos) (eK (.str x)):=jh wH λ_ _=>.str x
end
theorem oZ{J:It}{g:GD}{b:SD}(c:s9 b):∀(f i:Nat)(σ:PSt)(A:PHp)(v:PV)(A':PHp),turns J g b f i σ A≠.ok (.rt v) A'
 | 0,i,σ,A,v,A',h=>by rw[rW]at h;cases h
 | f+1,i,σ,A,v,A',h=>by
   rw[T4]at h;obtain⟨x,k,l,h⟩:=B0 h;cases x with
   | none=>cases h
   | some y=>
     obtain⟨e,m,n,h⟩:=B0 h;obtain⟨o,d,j,h⟩:=B0 h;cases o with
     | nx a=>exact oZ c f (i+1) a d v A' h
     | ct a=>exact oZ c f (i+1) a d v A' h
     | bk a=>cases h
     | rt z=>exact c _ _ _ _ j
theorem Cs{a:ID}{g:GD}{b:SD}(c:s9 b):s9 (w5 a g b):=λd A v e h=>by
 obtain⟨J,f,i,h⟩:=B0 h;obtain⟨n,j,k,h⟩:=B0 h;exact oZ c _ _ _ _ _ _ h
theorem Ct{d y e:ED}:s9 (jK d y e):=λf A v g h=>by
 obtain⟨j,k,l,h⟩:=B0 h;obtain⟨b,o,p,h⟩:=B0 h;obtain⟨c,q,r,h⟩:=B0 h;cases b with
 | ref n=>
   cases a:P5 c with
   | none=>rw[a]at h;cases h
   | some i=>
     rw[a]at h;obtain⟨m,s,u,h⟩:=B0 h;obtain⟨_,h⟩:=C5 h;cases h
 | _=>cases h
section
variable{prog:IV}{w:JB}{A:Jx}{E:Iv->IA->Prop}{s:IA}{d:Addr}{es:Array Od}{ep:Nat}
theorem gz.type(a:gz s.heap d es ep):s.TypeIs (.ref d) "dict":=let⟨o,b,c,_⟩:=a;⟨o,b,c.1⟩
theorem Cu{Q:Iv->IA->Prop}(lo:(d == sysModules)=false)(c:gz s.heap d es ep)
 (h:Q (.ref s.heap.objs.size) { s with heap:=s.heap.push { cls:=.type "dict_keyiterator",data:=.fields #[.ref d,.int 0 0,.int es.size 0,.int ep 0] } }):wpAny (model prog w) A (pyIter (.ref d)) Q E s:=by
 have b:=c.type;obtain⟨o,g,i,a⟩:=id c;refine wpAny_pyIter_slot b MH (JL MH b PySem.F.entry_dict_iter ?_ (PySem.F.args_dict_iter_1 _));refine Ir ?_;refine Ir (LM b (show wpAny _ _ _ _ _ s from Iy ?_));refine(show wpAny _ _ (MV d>>=_) _ _ s from ?_);unfold MV;rw[if_neg (by rw[lo];simp)];refine Ir (Iy (Ir (Ky g a (Ir (NF g a ?_)))));refine Ir (Lo (Iy ⟨_,rfl,"dict_keyiterator",_,⟨_,IG _ rfl,rfl⟩,JP.lookup,?_⟩));simpa[rawInt]using h
theorem Cv{c:Addr}{i:Nat}{Q:Option Iv->IA->Prop}(a:s.heap.IsKeyIter c d i es.size ep)(m:gz s.heap d es ep)(h:i<es.size)
 (n:∀j,j.IsKeyIter c d (i+1) es.size ep->JS c s.heap j->Q (some es[i].key) { s with heap:=j }):wpAny (model prog w) A (pyNext (.ref c)) Q E s:=by
 obtain⟨o,k,p,g⟩:=id a;obtain⟨r,e,q,f⟩:=id m;have own:Nu "dict_keyiterator" = false:=by decide
 refine Ir (OJ (JZ a.typeIs JP
  (JL JP a.typeIs Mi ?_ (Md _))))
 refine Ir (Iy (Ir (Ir ?_)));first | refine Ir (KN a.typeIs (Iy ?_)) | refine Ir _
 refine Ir (wpAny_fieldsOf k g ?_);show wpAny _ _ (if _=true then _ else _) _ _ s;refine Ir (Iy (Ir (Ky e f ?_)));rw[if_neg (by simp)];refine Ir (Iy (Ir (NF e f ?_)));rw[if_neg (by simp)];refine Iy ?_;simp only[if_false,LQ,NZ h];refine Ir ?_;first | refine Ir (KN a.typeIs (Iy ?_)) | refine Ir _
 refine Ir (Pz a.typeIs ?_);show wpAny _ _ (setField _ 1 _>>=_) _ _ s;refine Ir (Lw k g (by simp) ?_);have b:(s.heap.update c (KQ (·.setIfInBounds 1 (rawInt ((i:Int)+1))))).IsKeyIter c d (i+1) es.size ep:=
  ⟨_,JF _ k (Lg (JT g _)),(Om ..).trans p,by rw[JT g];simp[rawInt]⟩
 refine Ir (JC ?_);refine Ir (Pz b.typeIs ?_);exact Iy (Iy ⟨_,rfl,Iy (n _ b (JI ..))⟩)
theorem Cw{f:Addr}{Q:Option Iv->IA->Prop}(k:A.handled=none)(b:s.heap.IsKeyIter f d es.size es.size ep)(l:gz s.heap d es ep)
 (n:∀g,QA f s.heap g->Q none { s with heap:=g }):wpAny (model prog w) A (pyNext (.ref f)) Q E s:=by
 obtain⟨o,i,q,j⟩:=id b;obtain⟨r,c,p,e⟩:=id l;have own:Nu "dict_keyiterator" = false:=by decide
 refine Ir (OJ (JZ b.typeIs JP
  (JL JP b.typeIs Mi ?_ (Md _))))
 refine Ir (Iy (Ir (Ir ?_)));first | refine Ir (KN b.typeIs (Iy ?_)) | refine Ir _
 refine Ir (wpAny_fieldsOf i j ?_);show wpAny _ _ (if _=true then _ else _) _ _ s;refine Ir (Iy (Ir (Ky c e ?_)));rw[if_neg (by simp)];refine Ir (Iy (Ir (NF c e ?_)));rw[if_neg (by simp)];refine Iy ?_;simp only[if_false,LQ,Pd (IC es.size)];refine Ir ?_;first | refine Ir (KN b.typeIs (Iy ?_)) | refine Ir _
 show wpAny _ _ (setField _ 0 .none>>=_) _ _ s;refine Ir (Lw i j (by simp) ?_);refine Ir ?_;refine Ir (m:=firstArgMember _ _) (QC (a:=Km) rfl ?_);refine Lo ?_ (by size_fits);refine Ir (wpAny_handled ?_);rw[show _=none from k];refine Ir (Iy (wpAny_throw ?_));refine Ir (OS ⟨_,IG _ rfl,rfl⟩ isSubtype_stop ?_);exact Iy (n _ (((JI ..).extBut.push _).push _))
theorem Cy(hh:A.handled=none)(I:Addr)(hne:d≠I):QV prog w A I [I,d] [I] es.size (λi v=>(es[i]?).map (·.key)=some v) (λi h=>h.IsKeyIter I d i es.size ep/\gz h d es ep) where
 sub:=λb hb=>by simp at hb;simp[hb]
 frame:=λ_ _ _ st hk=>⟨st.1.at λo e=>hk I (by simp) o e,st.2.at λo e=>hk d (by simp) o e⟩
 item:=λi s Q E hi st hQ=>by
  refine Cv st.1 st.2 hi λh' hit' hs'=>?_;exact hQ _ h' _ (by rw[NZ hi];rfl) ⟨hit',st.2.at λo e=>hs'.extBut d o hne e⟩ λb o hb e=>hs'.extBut b o (λh=>hb (by simp[h])) e
 done:=λs Q E st hQ=>Cw hh st.1 st.2 λh' he'=>hQ h' _ λb o hb e=>he' b o (λh=>hb (by simp[h])) e
 self:=λ_ _ _ _ st hQ=>wpAny_pyIter_keyiter st.1 hQ
theorem Cz(lo:(d == sysModules)=false):KdlSrc prog w "dict" d d es.size (λi v=>(es[i]?).map (·.key)=some v) (λh=>gz h d es ep) where
 type:=λ_ hm=>hm.type
 there:=λ_ hm=>⟨let⟨_,ho,_⟩:=hm;II ho,let⟨_,ho,_⟩:=hm;II ho⟩
 keep:=λ_ _ hm hk=>hm.at λo e=>hk d (.inl rfl) o e
 notList:=by decide
 notTuple:=by decide
 hint:=λ_ _ _ _ hm hq=>kdl_hint_dict hm.type hq
 iter:=λ_ _ hh hm=>⟨_,_,(λ_ _ hq=>Cu lo hm hq),Cy hh _ (IL (let⟨_,ho,_⟩:=hm;II ho)),⟨⟨_,IG _ rfl,rfl,rfl⟩,hm.at λo e=>Iu _ e⟩⟩
end
section
variable{X:Cx}{cm:Nat->Addr}
noncomputable def rSortDT:List V->Hp->VK->Prop:=λe H Q=>∃(a:Addr)(b:List (List Key×V))(c:List (List Int)),e=[.ref a]/\H a=some (.dT b)/\b.map (·.1)=c.map (NS (JY:Int->Key))/\(∀t∈c,t≠[])/\c.length<64/\
 ∀(l:Addr)(p:List Nat)(d:List V),Paired (fm H) d c->W5 c d.length p->H l=none->Q (.ref l) (aI H l (.lst (p.map λi=>d.getD i .non)))
theorem CA{H:Hp}:∀{b:List (List Key×V)}{d:List (List Key×Addr×Iv)}{a:List (List Int)},KT H b d->b.map (·.1)=a.map (NS (JY:Int->Key))->(∀t∈a,t≠[])->Paired (fm H) (d.map λq=>V.ref q.2.1) a:=by
 intro b d a r;induction r generalizing a with
 | nil=>
   intro e _;cases a with
   | nil=>exact .nil
   | cons t a=>cases e
 | @cons p q _ _ h _ ih=>
   intro e c;cases a with
   | nil=>cases e
   | cons t a=>
     rw[Jb]at e;injection e with f g;refine .cons ⟨_,rfl,?_,c t IE⟩ (ih g λu i=>c u (IF _ i));rw[h.2.1,f,J1];rfl
theorem CB(w:X.calm=true):bg X (.builtin "sorted") rSortDT:=by
 intro a7 s σ H B us Q I r h;obtain⟨a,J,L,rfl,hH,f,N,b5,q⟩:=h;obtain⟨u,rfl,rx⟩:=o6 r;cases rx;obtain⟨z,hd,B,x,dd⟩:=kK I.hok hH;obtain⟨oo,es,ep,O,hc,C,y,T,U⟩:=id dd;have g:=Py y;have Y:=Paired.length x;have l:J.length=L.length:=by
  have:=congrArg List.length f;simpa using this
 have hT:=CA x f N;refine NY kind_sorted plain_sorted entry_sorted (args_sorted1 _) ?_;refine Ir (Iy ?_);refine Ir (kdu_collect (Cz hd) (I.ok.hd w) ⟨oo,O,hc,C⟩ (by rw[g,<-Y];exact z) λh' tk d hk n=>?_);have m:d.toList=B.map λq=>IS q.2.1:=by
  refine List.ext_getElem? λj=>?_;rw[Lf];cases hj:d[j]? with
  | none=>
    have D:d.size<=j:=by simpa using hj
    rw[n.1,g]at D;rw[JK (by simpa using D)]
  | some v=>
    have D:(es[j]?).map _=some v:=n.2 j v hj;rw[entry_at y j,Option.map_map]at D;rw[Ja];exact D.symm
 have E:d.toList.length=L.length:=by rw[m,Iz,<-Y,l]
 have I1:=I.kept (t':=tk) hk;have hv:aH (B.map λq=>V.ref q.2.1) d.toList:=by
  rw[m];clear m E hT y Y x dd g T U;induction B with
  | nil=>exact .nil
  | cons q r ih=>exact .cons rfl ih
 refine Ir (Qi ?_ (by omega));have A:(h'.push _).get? _=some (seqObj "list" d.toList.toArray 0):=IG _ rfl;have a2:=lz I1 hv hT;refine Ir (JC (JL slot_list_sort ⟨_,A,rfl⟩ entry_list_sort (k9 A (L2.Paired.mapP a2 λv t ⟨b,o,a3,k,e,q,r⟩=>⟨b,o,a3,k,e,Iu _ q,r⟩) (by omega) λp hp=>⟨_,rfl,?_⟩) (args_list_sort _)));refine Iy ⟨_,rfl,?_⟩;have a4:(B.map λq=>V.ref q.2.1).length=d.toList.length:=by rw[m];simp
 have G:W5 L (B.map λq=>V.ref q.2.1).length p:=by rw[a4];exact hp
 obtain⟨c,a5⟩:=sortedHeap_at A;have a6:p.length=d.toList.length:=by rw[hp.1.length_eq];simp
 refine⟨.ref _,_,I1.laid (λb o e2=>?_) (IC _) ?_,rfl,q _ p _ hT G (I1.hok.fresh (IC _))⟩
 .have l:=II e2;rw[sortedHeap_old (IL l) (by rw[size_push'];exact Ko l)];exact Iu _ e2
 .refine⟨by rw[Iz,a6];omega,p.map λi=>d.toList.getD i _,c,oy hv p λi hi=>?_,a5⟩;have:=G.1.mem_iff.mp hi;simpa using this
theorem CC{e:Expr}{d:ED}{p pos:Pos}(c:X.calm=true)(he:Pe X cm e d)(J:Gl X "sorted")(L:X.mg "sorted" = none)(hs:starEach [e] X.env=(false,eval e X.env)::starEach [] X.env:=by exact E9 rfl):Pe X cm (.Call (.Name "sorted" p) [e] [] pos) (nF d):=
 E1 (Z4 (CB c) J L Ol (af he ak hs) (he:=hs)) λσ H Q h=>j0 (λ_=>rfl) (λy A H x z A' v Q rl N B k=>by
  cases x with
  | ref n=>
    obtain⟨m,A1,O,o⟩:=B0 B;obtain⟨rfl,hA,a,T,rfl,hn,U,Y⟩:=O8 rl N O;obtain⟨⟨r,s⟩,u⟩:=C5 o;cases u;refine⟨a,T,m.map _,rfl,U,by rw[Y.keys,J1];rfl,λt ht=>?_,by simpa using r,λD p C w hs E=>?_⟩
    .obtain⟨q,hq,rfl⟩:=IB.mp ht;exact s q hq
    generalize m.map _=g at w hs k;have j:=Paired.length w;rw[j]at hs;have G:=nj kS ((tD g [] hs.1).trans (K2 _ _).symm) hs.2 (sm g);have f:∀i∈p,i<_:=λi l=>by simpa using hs.1.mem_iff.mp l
    have hr:RVs y H (g.map λt=>PV.tup (t.map .int)) C:=by
     clear hs G f j k;induction w with
     | nil=>exact .nil
     | cons h _ ih=>
       obtain⟨b,rfl,hb,_⟩:=h;exact .cons (.tup hb (RVs.ints _)) ih
    have ep:(D8 D0 g).map (λt=>PV.tup (t.map .int))=p.map λi=>(g.map λt=>PV.tup (t.map .int)).getD i .non:=by
     rw[<-G,J1];refine Kx λi l=>?_;have:=f i l;simp[this]
    have I:aG y H _ (aI H D (.lst (p.map λi=>C.getD i .non))):=aG.new E;refine k _ _ _ I (rl.alloc E ⟨_,C7,?_⟩ rfl) (.ref (by rw[<-rl.len];simp));rw[ep];exact(oA hr p λi l=>by rw[Iz];exact f i l).mono I
  | _=>cases B) h
end
end Ws
namespace Ws
open PySem PySem.W PyProof.Rows PySem.Builtin PySem.Builtin.Str L2
section
variable{X:Cx}{cm:Nat->Addr}
theorem pa{x z:Str}{pos:Pos}(b:Gl X x)(a:∃t,X.mg x=some (.str z t))(c:(x == ("__debug__" : Str))=false:=by decide):Pe X cm (.Name x pos) (eK (.str z)):=by
 obtain⟨t,a⟩:=a;exact jh (qK b a (show L2.RelV (.str z) _ from⟨t,rfl⟩) c) λ_ _=>.str z
end
end Ws
namespace Ws
open PySem PySem.W PyProof.Rows L2
section
variable{prog:IV}{w:JB}{K:Type}[DecidableEq K]{knd:HeapKind prog w K}{A:Jx}{E:Iv->IA->Prop}{s:IA}
theorem CD{d a:Addr}{e:List (K×Addr×Iv)}{k:K}{v:Iv}{Q:Iv->IA->Prop}(G:knd.room A)(b:knd.is s.heap k a)(L:s.heap.DictOfH knd d e)(z:e.length<=sizeLine)
 (f:∀p,atKey e k=some p->Q p.2 { s with toks:=s.toks+knd.draws k })
 (g:atKey e k=none->∀B,B.DictOfH knd d (storedH e k a v)->JS d s.heap B->Q v { s with heap:=B,toks:=s.toks+knd.draws k }) :
 wpAny (model prog w) A (dictSetDefault d (.ref a) v) Q E s:=by
 obtain⟨o,N,O,m,T,i,c,q,C⟩:=L;have r:=Py c;refine JC ?_;refine Ir (knd.pyHash G b ?_);refine Ir (wpAny_dictFind_heap G b m i c q C (λh=>?_) λj p u=>?_)
 .have I:=atKey_none_of_get h;have l:storedH e k a v=e++[(k,a,v)]:=by
   unfold storedH;rw[I];rfl
  refine Ir (Oo ?_);refine Ir (wpAny_updateDictKeys (hz:=by rw[r];exact z) m i (Iy (g I _ ⟨_,_,O+1,JF _ m (Qd (LW i _)),
   T.mapDictKeys _,LW i _,?_,λx n=>?_,?_⟩ (JI ..))))
  .rw[l,Js,<-c,Array.toList_push];rfl
  .rw[l]at n;rcases Jm.mp n with n | n
   .exact knd.keeps (q x n) m i (JI ..)
   .cases IK.mp n;exact knd.keeps b m i (JI ..)
  .rw[l,Js];refine Ju.mpr ⟨C,by simp,?_⟩;intro a1 U b1 J Y;rw[Jb,Pp,IK]at J;obtain⟨y,hy,ey⟩:=IB.mp U;obtain⟨j,u⟩:=List.getElem?_of_mem hy;refine h j y.2 ?_;rw[u,show k=y.1 from J.symm.trans (Y.symm.trans ey.symm)]
 .refine Ir (Ky m i ?_);have D:N[j]?=some (entryOfKey knd (k,p)):=by rw[entry_at c j,u];rfl
  rw[D];exact Ir (Oo (Iy (f p (atKey_of_get C u))))
theorem CF{d a:Addr}{e:List (K×Addr×Iv)}{k:K}{dflt:Iv}{Q:Iv->IA->Prop}(n:(d == sysModules)=false)(o:knd.room A.in1)(f:knd.is s.heap k a)(j:s.heap.DictOfH knd d e)(h:e.length<=sizeLine)
 (b:∀p,atKey e k=some p->∀i,Q p.2 { s with toks:=i })
 (c:atKey e k=none->∀g i,g.DictOfH knd d (storedH e k a dflt)->JS d s.heap g->Q dflt { s with heap:=g,toks:=i }) :
 wpAny (model prog w) A (call (.builtin "dict.setdefault") [.ref d,.ref a,dflt]) Q E s:=by
 have m:=j.typeIs;refine JL Nv m PySem.F.entry_dict_setdefault ?_ (PySem.F.args_dict_setdefault_3 _ _ _);refine Ir ?_;refine Ir (LM m ?_);refine Iy ?_;show wpAny _ _ (if _=true then _ else _) _ _ s;rw[if_neg (by rw[n];exact Kd)];refine Ir (CD o f j h (λp q=>?_) λr g u v=>?_)
 .exact Iy ⟨_,rfl,b p q _⟩
 .exact Iy ⟨_,rfl,c r g _ u v⟩
end
section
variable{X:Cx}{cm:Nat->Addr}{o e f:Expr}{apos cpos:Pos}{td ty tx:TE}
noncomputable def CG(td ty tx:TE):TE:=λg H Q=>td g H λx h=>∃a,x=.ref a/\kL h a/\ty g h λy i=>tx g i λz d=>∃c k b,d a=some (.dT c)/\y=.ref b/\d b=some (.tup (k.map L2.kV))/\
 (∀v,f7 c k=some v->Q v d)/\(f7 c k=none->c.length<sizeLine/\Q z (aI d a (.dT (Z5 c k z))))
theorem CH(U:X.A.units+1<cLine)(Y:PE X o td)(he:PE X e ty)(hf:PE X f tx)(m:M2 X o "setdefault" apos e f cpos):PE X (.Call (.Attribute o "setdefault" apos) [e,f] [] cpos) (CG td ty tx):=by
 intro g s q H Q I h;refine Oi m.base m.few m.line Mp Nv PySem.F.type_dict_setdefault (aL (Y g s q H _ I h) λu s1 zq=>?_);obtain⟨x,H1,D,rx,a,ex,d,q1⟩:=zq;subst ex;obtain rfl:u=IS a:=rx;obtain⟨t1,t2,_⟩:=mU D d;refine⟨t1,t2,?_⟩;rw[m.trees];refine Ly rfl (LU (KH (aL (he g s1 q H1 _ D q1) λiv s2 ⟨y,H2,I2,ry,q2⟩=>
  KH (aL (hf g s2 q H2 _ I2 q2) λfv s3 ⟨z,H3,n,E,i,k,b,r,ey,G,q3,J⟩=>LO ?_))))
 subst ey;cases(show iv=IS b from ry);obtain⟨zz,L,xs,j,dd⟩:=kK n.hok r;have hl:=Paired.length j;refine CF (knd:=TK _ X.w) L (KI U) (h9 n.hok G) dd (by rw[<-hl];exact zz) (λp hp tk=>?_) λh0 h' tk B hs=>?_
 .have:=j.val k;rw[hp]at this;cases l:f7 i k with
  | none=>rw[l]at this;exact this.elim
  | some v=>rw[l]at this;exact⟨v,H3,n.kept (λ_ _ e=>e),this,q3 v l⟩
 .have:=j.val k;rw[h0]at this;cases l:f7 i k with
  | some v=>rw[l]at this;exact this.elim
  | none=>
    have e2:=(J l).1;have C:(Z5 i k z).length<=sizeLine:=by have:=g9 i k z;omega
    obtain⟨N,es,ep,O,h2,h3,h4,_,h5⟩:=B;refine⟨z,_,mS (ob:=.dT _) n (by rw[r];exact Lm) hs ⟨N,O⟩ ⟨C,L,_,KT.keeps (j.put k G E) (λc ys T=>?_),N,es,ep,O,h2,h3,h4,h5⟩,E,(J l).2⟩;rw[aq (qG T r nofun)];exact T
theorem ui{d y x:ED}(hu:X.A.units+1<cLine)(ho:Pe X cm o d)(he:Pe X cm e y)(hf:Pe X cm f x)(m:M2 X o "setdefault" apos e f cpos:=by exact⟨rfl,rfl,rfl,rfl⟩):Pe X cm (.Call (.Attribute o "setdefault" apos) [e,f] [] cpos) (jd d y x):=
 E1 (CH hu ho he hf m) λσ H Q hq=>by
  obtain⟨ρ,A,p,v,A',rl,rs,ev,k⟩:=hq;obtain⟨xv,A1,e1,B⟩:=B0 ev;refine⟨ρ,A,p,xv,A1,rl,rs,e1,λa1 H1 v1 O C D=>?_⟩;cases xv with
  | ref n=>
    obtain⟨m0,A2,e2,a2⟩:=B0 B;obtain⟨rfl,hA,a,kv,rfl,hn,hH,hp⟩:=O8 C D e2;obtain⟨kx,A3,e3,a4⟩:=B0 a2;obtain⟨z,A4,e4,q⟩:=B0 a4;refine⟨a,rfl,.inr ⟨kv,.inl hH⟩,a1,_,p,kx,A3,C,rs.mono O,e3,λa5 H2 v2 T a6 a7=>⟨a5,A3,p,z,A4,a6,(rs.mono O).mono T,e4,λg H3 v3 U h E=>?_⟩⟩;rcases G:P5 kx with _ | j<;>rw[G]at q
    .cases q
    obtain⟨mm,A5,e5,i⟩:=B0 q;obtain⟨rfl,I,a3,J,e6,L,a8,l⟩:=O8 h ((D.mono T).mono U) e5;cases e6;obtain⟨b,rfl,hb⟩:=X3 G (a7.mono U);refine⟨J,j.map _,b,a8,rfl,hb,λw r=>?_,λr=>?_⟩
    .rcases PT2.val j l with⟨N,s⟩ | ⟨w',u,N,s,g3⟩
     .rw[s]at r;cases r
     .rw[s]at r;cases r;rw[N]at i;cases i;exact k g _ _ ((O.trans T).trans U) h g3
    .rcases PT2.val j l with⟨N,s⟩ | ⟨w',u,N,s,g3⟩
     .rw[N]at i;obtain⟨c,a9⟩:=C5 i;cases a9;have Y:aG g H3 g (aI H3 a (.dT (Z5 J (j.map JY) v3))):=aG.put h L I rfl;exact⟨by rw[<-l.len];exact kZ c,k g _ _ (((O.trans T).trans U).trans Y) (h.put L I rfl rfl ⟨_,C7,PT2.put (E.mono Y) j (l.mono Y)⟩) (E.mono Y)⟩
     .rw[s]at r;cases r
  | _=>cases B
end
section
variable{X:Cx}{cm:Nat->Addr}
theorem CI(bs:List Bool):((Jj bs.length).any λi=>(bs[i]?).getD true)=bs.any id:=by
 induction bs with
 | nil=>rfl
 | cons b r ih=>
   rw[J2,MG,LP,List.any_map,LP,<-ih];rfl
noncomputable def CJ(K:Iw):List V->Hp->VK->Prop:=λb H Q=>∃(a:Addr)(bs:List Bool),b=[.ref a]/\bu K H a (bs.map V.bl)/\Q (.bl (bs.any id)) H
theorem CK(c:X.calm=true):bg X (.builtin "any") (CJ X.K):=by
 intro n s G H J L Q I r h;obtain⟨a,bs,rfl,w,q⟩:=h;obtain⟨u,rfl,x⟩:=o6 r;cases x;obtain⟨f,p,y,N⟩:=I.list w;have d:=y.isList;have k:a<s.heap.objs.size:=by
  obtain⟨_,e,_⟩:=d;exact II e
 have g:f.length=bs.length:=by
  have:=p.length;simpa using this.symm
 refine call_any_walk (KY d ⟨s.heap.objs.size,[s.heap.objs.size,a],[s.heap.objs.size],_,_,_,λi=>(bs[i]?).getD true,rfl,
  QV.list (A:=X.A.in1) (I.ok.hd c) _ a (IL k) _,⟨⟨_,IG _ rfl,rfl,rfl⟩,d.push _⟩,?_,?_⟩)
 .intro i v z B O C l;obtain⟨b,m,rfl⟩:=oI p i v (by simpa using C);have j:B ((bs[i]?).getD true) z:=l;rw[m]at j;exact Kn j
 .intro T U D;have m:f.toArray.size=bs.length:=by exact g
  rw[m,CI];exact⟨.bl _,H,I.kept (λb o e=>D b o (λE=>by rw[IK.mp E]at e;exact absurd (II e) (Ks _)) (Iu _ e)),rfl,q⟩
theorem lP{e:Expr}{d:ED}{p pos:Pos}(c:X.calm=true)(he:Pe X cm e d)(j:Gl X "any")(m:X.mg "any" = none)(hs:starEach [e] X.env=(false,eval e X.env)::starEach [] X.env:=by exact E9 rfl):Pe X cm (.Call (.Name "any" p) [e] [] pos) (gJ d):=
 E1 (Z4 (CK c) j m rfl (af he ak hs) (he:=hs)) λu H Q h=>j0 (λ_=>rfl) (λo A H x z A' v Q rl q g k=>by
  cases x with
  | ref n=>
    obtain⟨l,A1,r,b⟩:=B0 g;obtain⟨rfl,a,w,rfl,s,i⟩:=M8 rl q r;cases f:i6 l with
    | none=>rw[f]at b;cases b
    | some bs=>
      rw[f]at b;cases b;rw[oJ f]at i;exact⟨a,bs,rfl,by rw[<-oK i];exact s,k o H _ (aG.refl _ _) rl (.bl _)⟩
  | _=>cases g) h
end
end Ws
namespace Ws
open PySem PySem.W PyProof.Rows L2
noncomputable def foldH{K:Type}[DecidableEq K](ws:List (K×Addr×Iv)):List (K×Addr×Iv):=ws.foldl (λa p=>storedH a p.1 p.2.1 p.2.2) []
theorem CL{K:Type}[DecidableEq K](ws:List (K×Addr×Iv))(p:K×Addr×Iv):foldH (ws++[p])=storedH (foldH ws) p.1 p.2.1 p.2.2:=by
 unfold foldH;rw[List.foldl_append];rfl
theorem CM{K:Type}[DecidableEq K](b:List (K×Addr×Iv))(k:K)(a:Addr)(v:Iv):(storedH b k a v).length<=b.length+1:=by
 unfold storedH;split<;>simp
theorem uj{K:Type}[DecidableEq K](ws:List (K×Addr×Iv)):(foldH ws).length<=ws.length:=by
 have b:∀(l a:List (K×Addr×Iv)),(l.foldl (λa p=>storedH a p.1 p.2.1 p.2.2) a).length<=a.length+l.length:=by
  intro l;induction l with
  | nil=>simp
  | cons p l ih=>
    intro a;have c:=ih (storedH a p.1 p.2.1 p.2.2);have d:=CM a p.1 p.2.1 p.2.2;simp only[LK,J2];omega
 simpa[foldH]using b ws []
theorem CN{K:Type}[DecidableEq K](ws:List (K×Addr×Iv)):∀x∈foldH ws,∃q∈ws,x.1=q.1/\x.2.1=q.2.1:=by
 have d:∀(l a:List (K×Addr×Iv)),∀x∈l.foldl (λa p=>storedH a p.1 p.2.1 p.2.2) a,(∃q∈a,x.1=q.1/\x.2.1=q.2.1)\/∃q∈l,x.1=q.1/\x.2.1=q.2.1:=by
  intro l;induction l with
  | nil=>intro a x c;exact .inl ⟨x,c,rfl,rfl⟩
  | cons p l ih=>
    intro a x c;rcases ih _ x c with⟨q,b,e⟩ | ⟨q,b,e⟩
    .have b:q∈storedH a p.1 _ _:=b;unfold storedH at b;split at b
     .obtain⟨g,f,rfl⟩:=IB.mp b;refine .inl ⟨g,f,?_⟩;unfold putAt at e;split at e<;>exact e
     .rcases Jm.mp b with z | z
      .exact .inl ⟨q,z,e⟩
      .cases IK.mp z;exact .inr ⟨p,IE,e⟩
    .exact .inr ⟨q,IF _ b,e⟩
 intro x c;rcases d ws [] x c with⟨q,b,_⟩ | h
 .cases b
 .exact h
theorem lQ{P:IV}{w:JB}{h h':Heap}{k:List Key}{a:Addr}(c:(TK P w).is h k a)(d:∀o,h.get? a=some o->h'.get? a=some o):(TK P w).is h' k a:=by
 obtain⟨e,b,n,f,g⟩:=c;exact⟨e,b,n,d _ f,g⟩
theorem d4{P:IV}{w:JB}{h h':Heap}{D:Addr}{a:List (List Key×Addr×Iv)}(b:h.DictOfH (TK P w) D a)(c:∀o,h.get? D=some o->h'.get? D=some o)(d:∀x∈a,(TK P w).is h' x.1 x.2.1):h'.DictOfH (TK P w) D a:=by
 obtain⟨o,e,f,g,i,j,k,_,l⟩:=b;exact⟨o,e,f,c _ g,i,j,k,d,l⟩
theorem uk{P:IV}{w:JB}{h:Heap}{ws:List (List Key×Addr×Iv)}(b:∀j (a:j<ws.length),(TK P w).is h ws[j].1 ws[j].2.1)(i:Nat):∀x∈foldH (ws.take i),(TK P w).is h x.1 x.2.1:=by
 intro x c;obtain⟨q,d,e,f⟩:=CN _ x c;obtain⟨j,a,rfl⟩:=List.getElem_of_mem (LX d);rw[e,f];exact b j a
section
variable{prog:IV}{w:JB}{A:Jx}{R:Qo->IA->Prop}{E:Iv->IA->Prop}{s:IA}
theorem CO{I D:Addr}{fp x:List Addr}{G:Array PN->Array PN->Prop}{P:Nat->Iv->Prop}{St:Nat->IA->Prop}{ws:List (List Key×Addr×Iv)}
 (W:WalksS prog w A.in1 I fp x G ws.length P St) (y:D∉fp) (res:Iv) (z:Nat->Addr) (U:∀i v,P i v->v=.ref (z i)) (B:∀i,i<ws.length->z i≠D/\z i∉x) (q:∀i (hi:i<ws.length),ws[i].2.1≠D/\ws[i].2.1∉x) (hu:(TK prog w).room A.in1) (hz:ws.length<=sizeLine) :
 ∀(k i:Nat)(s:IA),ws.length - i=k->i<=ws.length->St i s->s.heap.DictOfH (TK prog w) D (foldH (ws.take i))->
  (∀j (c:j<ws.length),s.heap.IsTuple (z j) #[.ref ws[j].2.1,ws[j].2.2]/\(TK prog w).is s.heap ws[j].1 ws[j].2.1)->
  (∀g,Moved (D::x) G s g->g.heap.DictOfH (TK prog w) D (foldH ws)->R (.ok (.ret res)) g)->
  codeAny (model prog w) A (.builtin "dict.update.loop" ⟨[.ref D,.ref I,rawInt i,res],[]⟩) R s:=by
 have C:=λh=>y (W.sub _ h);have n:∀b∈x,b∈D::x:=λb H=>IF _ H;intro k;induction k with
 | zero=>
   intro i s hk hi u T f Y;have a0:i=ws.length:=by omega
   subst a0;rw[KO]at T;refine Lp ue ?_;refine Ir (W.done s _ _ u λg p=>?_);refine Iy (Y g (p.mono n) ?_);refine d4 T (λo d=>p.heap D o C d) ?_;have:=uk (i:=ws.length) λj c=>lQ (f j c).2 λo d=>p.heap _ o (q j c).2 d;rw[KO]at this;exact this
 | succ k ih=>
   intro i s hk hi u T f Y;have l:i<ws.length:=by omega
   refine Lp ue ?_;refine Ir (W.item i s _ _ l u λv g hP J p=>?_);obtain rfl:=U i v hP;have a:∀j _,g.heap.IsTuple (z j) #[.ref ws[j].2.1,ws[j].2.2]/\(TK prog w).is g.heap ws[j].1 ws[j].2.1:=by
    intro j c;obtain⟨⟨o,d,r⟩,h2⟩:=f j c;exact⟨⟨o,p.heap _ o (B j c).2 d,r⟩,lQ h2 λo d=>p.heap _ o (q j c).2 d⟩
   have a2:=d4 T (λo d=>p.heap D o C d) (uk (i:=i) λj c=>(a j c).2);obtain⟨⟨ot,L,a3,nt,a4⟩,N⟩:=a i l;have hT:g.TypeIs (.ref _) "tuple":=⟨ot,L,a3⟩;refine Ir (JC ?_);refine Ir (wpAny_tryCatch ?_);refine Ir (NR hT ?_);refine Ir (Kr L a4 ?_);refine Iy ?_;refine JC ?_;refine wpAny_dictSet_heap hu N a2 (λh' a5 m=>?_) (by have:=uj (ws.take i);have:(ws.take i).length<=ws.length:=(by rw[JD];omega);omega);have a6:ws.take (i+1)=ws.take i++[ws[i]]:=by rw[KC,IM l];rfl
   have hc:((i:Int)+1)=((i+1)):=by push_cast;rfl
   refine Iy ⟨Nt uf _,ih (i+1) _ (by omega) l (W.frame _ g _ _ J (Ld _ _) λb H o e=>?_) (by rw[a6,CL];exact a5) (λj c=>?_) λa7 O Q=>?_⟩
   .rw[m.2 b (λh:b=D=>y (by rw[<-h];exact H))];exact e
   .obtain⟨⟨o,d,r⟩,h2⟩:=a j c;exact⟨⟨o,by rw[m.2 _ (B j c).1];exact d,r⟩,lQ h2 λo d=>by rw[m.2 _ (q j c).1];exact d⟩
   .refine Y a7 (Moved.trans W.gtrans ((p.mono n).then_heap (Ld _ _) λb o H e=>?_) O) Q;rw[m.2 b (λh:b=D=>H (by rw[h];exact IE))];exact e
theorem CP{l:Addr}{items:Array Iv}{ws:List (List Key×Addr×Iv)}{Q:Iv->IA->Prop}(hh:A.handled=none)(hu:(TK prog w).room A.in1.in1)(hl:PlainL s.heap l items)(U:Nat->Addr)(H:items.size=ws.length)(hz:ws.length<=sizeLine)
 (p:∀j (hj:j<ws.length),items[j]?=some (.ref (U j))/\s.heap.IsTuple (U j) #[.ref ws[j].2.1,ws[j].2.2]/\(TK prog w).is s.heap ws[j].1 ws[j].2.1)
 (h:∀I tk,I.DictOfH (TK prog w) s.heap.objs.size (foldH ws)->(∀b o,s.heap.get? b=some o->I.get? b=some o)->Q (.ref s.heap.objs.size) { s with heap:=I,toks:=tk }) :
 wpAny (model prog w) A (call (.type "dict") [.ref l]) Q E s:=by
 refine callType_codes (Q₁:=λobj u=>obj=.ref _/\u={ s with heap:=s.heap.push { cls:=.type "dict",data:=.dict #[] } }) Pc (NJ _) OL (kt_code_dict_new _ ⟨rfl,rfl⟩) ?_;rintro obj u ⟨rfl,rfl⟩;have c:(s.heap.push { cls:=.type "dict",data:=.dict #[] }).DictOfH (TK prog w) _ []:=⟨_,#[],0,IG _ rfl,⟨rfl,rfl,rfl⟩,rfl,rfl,λx J=>(nomatch J),MO⟩;obtain⟨ol,n,L,C,a0,g⟩:=id hl;have k:(s.heap.push { cls:=.type "dict",data:=.dict #[] }).get? l=some _:=Iu _ L;have hT:Mx { s with heap:=s.heap.push { cls:=.type "dict",data:=.dict #[] } } (.ref l) "list":=⟨_,k,C⟩;refine⟨c.typeIs,Oq _ _,?_⟩;refine Ir ?_;refine Ir (LM c.typeIs ?_);refine Iy ?_;show wpAny _ _ (OM "dict.__init__" _ _ [] .none) _ _ _;refine Ir (NR hT ?_);refine Ir (Cg k C g a0 fu rfl (by simpa using hh) λG c0 e1 ne=>?_);refine Ir (Oo ?_);have N:G.IsList l items:=⟨_,ne.keeps _ _ k,C,n,g⟩;refine Ir (KY N ?_);have a:s.heap.objs.size<G.objs.size:=by
  obtain⟨o,_,_,m,_⟩:=c;exact II (ne.keeps _ _ m)
 have D:G.DictOfH (TK prog w) s.heap.objs.size (foldH (ws.take 0)):=by
  exact d4 c (λo m=>ne.keeps _ _ m) λx J=>nomatch J
 have O:=II L;have T:=IL (MR O a);have WW:=(QV.list (prog:=prog) (w:=w) (A:=A.in1.in1) (by simpa using hh) _ l T items).toS;rw[H]at WW;have a1:s.heap.objs.size∉[G.objs.size,l]:=by
  simp only[IH,JO,or_false,not_or];exact⟨IL a,KS O⟩
 have y:∀i,i<ws.length->U i<s.heap.objs.size:=by
  intro i d;obtain⟨_,⟨o,m,_⟩,_⟩:=p i d;exact II m
 have B:∀i (d:i<ws.length),ws[i].2.1<s.heap.objs.size:=by
  intro i d;obtain⟨_,_,ot,c1,n,G,h2⟩:=p i d;exact II G
 refine Iy ⟨Nt uf _,CO WW a1 .none U (λi v hv=>?_) (λi d=>⟨IL (y i d),?_⟩) (λi d=>⟨IL (B i d),?_⟩) hu hz ws.length 0 _ rfl (Kl _)
  ⟨⟨_,IG _ rfl,rfl,rfl⟩,N.push _⟩ ?_ (λj hj=>?_) λs' Y hD=>?_⟩
 .have d:i<ws.length:=by
   rcases Nat.lt_or_ge i _ with z | z
   .rw[<-H];exact z
   .rw[Pd z]at hv;cases hv
  have:=(p i d).1;rw[hv]at this;exact Jo this
 .rw[IK];exact IL (MR (y i d) a)
 .rw[IK];exact IL (MR (B i d) a)
 .exact d4 D (λo m=>Iu _ m) λx J=>nomatch J
 .obtain⟨_,⟨o,m,r⟩,h2⟩:=p j hj;exact⟨⟨o,Iu _ (ne.keeps _ _ (Iu _ m)),r⟩,lQ h2 λo m=>Iu _ (ne.keeps _ _ (Iu _ m))⟩
 .obtain⟨I,g',d',a3,a4⟩:=s';have eg:g'=s.gens:=Y.gens;have ed:d'=s.drawn:=Y.drawn;have eo:a4=s.os:=Y.os;subst eg;subst ed;subst eo;refine⟨rfl,h I a3 hD λb o e=>?_⟩;have hb:=II e;refine Y.heap b o ?_ (Iu _ (ne.keeps _ _ (Iu _ e)));simp only[IH,JO,or_false,not_or];exact⟨IL hb,IL (MR hb a)⟩
end
abbrev TripT:=Addr×Addr×List Int×V
def lR(H:Hp)(t:TripT):Prop:=H t.1=some (.tup [.ref t.2.1,t.2.2.2])/\H t.2.1=some (.tup ((t.2.2.1.map JY).map L2.kV))
theorem um{j:List Addr}{H:Hp}:∀{l:List PV}{d:List V}{m:List (List Int×PV)},RVs j H l d->gv l=some m->∃a:List TripT,d=a.map (λt=>V.ref t.1)/\(∀t∈a,lR H t)/\m.map (·.1)=a.map (·.2.2.1)/\RVs j H (m.map (·.2)) (a.map (·.2.2.2))
 | [],d,m,r,h=>by
   cases r;cases h;exact⟨[],rfl,by simp,rfl,.nil⟩
 | x::l,d,m,r,h=>by
   cases r with
   | cons f n=>
     match x,f,h with
     | .tup [k,v],f,h=>
       rcases e:P5 k with _ | i
       .simp[gv,e]at h
       rcases g:gv l with _ | C
       .simp[gv,e,g]at h
       .simp only[gv,e,g,PB,OT,Option.some.injEq]at h;subst h;obtain⟨a,o,p,q,s⟩:=um n g;cases f with
        | tup u c=>
          cases c with
          | cons w c=>
            obtain⟨b,rfl,y⟩:=X3 e w;cases c with
            | cons A c=>
              cases c;refine⟨(_,b,i,_)::a,by rw[o];rfl,λt B=>?_,by simp[q],.cons A s⟩;rcases IH.mp B with z | z
              .subst z;exact⟨u,y⟩
              .exact p t z
noncomputable def t4(b:List TripT)(a:List (List Key×V)):List (List Key×V):=b.foldl (λa t=>Z5 a (t.2.2.1.map JY) t.2.2.2) a
theorem uo{d:List Addr}{H:Hp}:∀(m:List (List Int×PV))(a:List TripT)(b:List (List Int×PV))(c:List (List Key×V)),m.map (·.1)=a.map (·.2.2.1)->RVs d H (m.map (·.2)) (a.map (·.2.2.2))->PT2 d H b c->PT2 d H (m.foldl (λf p=>Y6 f p.1 p.2) b) (t4 a c)
 | [],[],b,c,_,_,h=>h
 | [],_::_,_,_,e,_,_=>by simp at e
 | _::_,[],_,_,e,_,_=>by simp at e
 | p::m,t::a,b,c,e,r,h=>by
   simp only[Jb,Mr]at e;cases r with
   | cons g i=>
     show PT2 d H (m.foldl _ (Y6 b p.1 p.2)) (t4 a (Z5 c (t.2.2.1.map JY) t.2.2.2));rw[<-e.1];exact uo m a _ _ e.2 i (PT2.put g p.1 h)
def uq(s:IA)(t:TripT)(q:List Key×Addr×Iv):Prop:=q.1=t.2.2.1.map JY/\q.2.1=t.2.1/\L2.RelV t.2.2.2 q.2.2/\s.heap.IsTuple t.1 #[.ref q.2.1,q.2.2]
section
variable{X:Cx}{cm:Nat->Addr}{pins:List (Addr×Obj)}{σ:L2.St}{H:Hp}{s:IA}
theorem ur(I:L2.Inv X pins σ H s):∀(a:List TripT),(∀t∈a,lR H t)->∃b:List (List Key×Addr×Iv),b.length=a.length/\∀j (c:j<b.length) (d:j<a.length),uq s a[j] b[j]
 | [],_=>⟨[],rfl,λj c=>absurd c (by simp)⟩
 | t::a,h=>by
   obtain⟨b,e,f⟩:=ur I a λx g=>h x (IF _ g);obtain⟨_,i,k,l⟩:=I.hok _ _ (h t IE).1;obtain⟨m,n,rfl,o,p⟩:=qZ k;cases(show m=IS t.2.1 from o);refine⟨(t.2.2.1.map JY,t.2.1,n)::b,by simp[e],λj c d=>?_⟩;cases j with
   | zero=>exact⟨rfl,rfl,p,l⟩
   | succ j=>exact f j (by simpa using c) (by simpa using d)
theorem uu:∀(a:List TripT)(ws:List (List Key×Addr×Iv))(b:List (List Key×V))(c:List (List Key×Addr×Iv)),ws.length=a.length->(∀j (f:j<ws.length) (g:j<a.length),uq s a[j] ws[j])->(∀t∈a,lR H t)->KT H b c->KT H (t4 a b) (ws.foldl (λd p=>storedH d p.1 p.2.1 p.2.2) c)
 | [],[],b,c,_,_,_,h=>h
 | [],_::_,_,_,e,_,_,_=>by simp at e
 | _::_,[],_,_,e,_,_,_=>by simp at e
 | t::a,q::ws,b,c,e,i,k,h=>by
   have o:=i 0 (by simp) (by simp);obtain⟨l,m,n,_⟩:=o;simp only[List.getElem_cons_zero]at l m n;show KT H (t4 a (Z5 b (t.2.2.1.map JY) t.2.2.2)) (ws.foldl _ (storedH c q.1 q.2.1 q.2.2));refine uu a ws _ _ (by simpa using e) (λj f g=>by have:=i (j+1) (by simpa using f) (by simpa using g);simpa using this) (λx r=>k x (IF _ r)) ?_;rw[l,m];exact h.put _ (k t IE).2 n
theorem CQ{e:Expr}{d:ED}{p q:Pos}(B:X.calm=true)(hu:X.A.units+64<cLine)(he:Pe X cm e d)(hg:Gl X "dict")(hm:X.mg "dict" = none)
 (hs:starEach [e] X.env=(false,eval e X.env)::starEach [] X.env:=by exact E9 rfl) :
 Pe X cm (.Call (.Name "dict" p) [e] [] q) (nG d):=by
 intro pins s σ H Q I h;obtain⟨ρ,A,N,v,A',rl,rs,ev,k⟩:=h;obtain⟨x,A1,e1,G⟩:=B0 ev;refine QT (V4 I hg hm (show bootBuiltins "dict" = some _ from by rfl) (callWith_type1 (jU hs ?_) hs rfl));refine aL (he pins s σ H (λv w=>∃(a:Addr)(f:List TripT),v=.ref a/\bu X.K w a (f.map λt=>V.ref t.1)/\(∀t∈f,lR w t)/\f.length<=sizeLine/\∀l,w l=none->Q (.ref l) (aI w l (.dT (t4 f [])))) I ⟨ρ,A,N,x,A1,rl,rs,e1,λO w v1 x1 C T=>?_⟩) λu s1 zq=>?_
 .cases x with
  | ref n=>
    obtain⟨l,A2,U,i⟩:=B0 G;obtain⟨rfl,hA,a,xs,rfl,hn,hH,r0⟩:=N5 C T U;cases Y:gv l with
    | none=>rw[Y]at i;cases i
    | some m=>
      rw[Y]at i;obtain⟨c,a0⟩:=C5 i;cases a0;obtain⟨f,f1,f2,f3,f4⟩:=um r0 Y;have hl:f.length=m.length:=by
       have:=congrArg List.length f3;simpa using this.symm
      refine⟨a,f,rfl,by rw[<-f1];exact bu.of hH,f2,by rw[hl];exact NP (kZ c),λD hD=>?_⟩;have ex:aG O w _ (aI w D (.dT (t4 f []))):=aG.new hD;refine k _ _ _ (x1.trans ex) (C.alloc hD ⟨_,C7,?_⟩ rfl) (.ref (by rw[<-C.len];simp));exact uo m f [] [] f3 (f4.mono ex) ⟨rfl,.nil⟩
  | _=>cases G
 .obtain⟨w1,w,y,r1,a,f,ew,hq,E,hz,qq⟩:=zq;subst ew;obtain rfl:u=IS a:=r1;obtain⟨a1,ri,pl,_⟩:=y.list hq;obtain⟨ws,g,w2⟩:=ur y f E;have J:a1.length=f.length:=by rw[<-ri.length];simp
  refine CP (y.ok.hd B) (KI (aR X.A 1 (by omega))) pl (λj=>(f.getD j (0,0,[],.non)).1) (by rw[IP,J,g]) (by rw[g];exact hz) (λj hj=>?_) λh' tk dd hk=>?_
  .have r:j<f.length:=by rw[<-g];exact hj
   have e0:f.getD j (0,0,[],.non)=f[j]:=by simp[r]
   rw[e0];obtain⟨g1,g2,g3,g4⟩:=w2 j hj r;refine⟨?_,g4,?_⟩
   .obtain⟨u,hu,ru⟩:=ri.get (by rw[Ja,IM r];rfl);cases(show u=IS f[j].1 from ru);simpa using hu
   .rw[g1,g2];exact h9 y.hok (E _ (JM r)).2
  .have L:=uu f ws [] [] g w2 E .nil;have a2:(t4 f []).length<=sizeLine:=by
    rw[Paired.length L];exact Jd (uj ws) (by rw[g];exact hz)
   obtain⟨qo,es,ep,a3,h2,h3,h4,_,h5⟩:=dd;refine⟨.ref _,_,y.laid (o:=.dT _) (λb o U=>hk b o U) (IC _) ⟨a2,beq_eq_false_iff_ne.mpr (KP (IL y.big)),_,KT.keeps L (λc ys ec=>?_),qo,es,ep,a3,h2,h3,h4,h5⟩,rfl,qq _ (y.hok.fresh (IC _))⟩;rw[aq (λz=>by rw[z,y.hok.fresh (IC _)]at ec;cases ec)];exact ec
end
end Ws
namespace Ws
open PySem L2
section
variable{P:IV}{w:JB}{K:Iw}{mg:Str->Option Iv}{base:Heap}{cm:Nat->Addr}{x qual:Str}{st:Stmt}{f:Addr}{fd:IY}{items:Array Iv}{N ps:List Str}{k:Nat}{s:SD}
theorem pb{n:Nat}(h:n+64<cLine):n+1<cLine:=NT (Nat.add_le_add_left (by simp) _) h
theorem D5(F:L2.Fun K x qual st f fd)(S:C6 N ps (B6 st))
 (e:∀(b:Iv)(A:Jx)(a:List Env)(c:IA)(H:Hp)(E:L2.XK),aM k (A.deeper (Jw qual (B6 st) c.heap.objs.size f b))->(A.deeper (Jw qual (B6 st) c.heap.objs.size f b)).units+64<cLine->(A.deeper (Jw qual (B6 st) c.heap.objs.size f b)).units+1<cLine->
  cf (u8 aW P w K mg base N qual (B6 st) f b A a c H E).nox (G7 st) (fW K cm s)) :
 aE P w K mg base aW (k+1) f fd ps (ba K cm (fn N.length ps.length s) ps.length):=Ag F S λb A a c H E d=>e b A a c H E d d.units (pb d.units)
theorem CS(F:eL K x qual st f fd items)(S:C6 N ps (B6 st))
 (e:∀(b:Iv)(A:Jx)(a:List Env)(c:IA)(H:Hp)(E:L2.XK),aM k (A.deeper (Jw qual (B6 st) c.heap.objs.size f b))->(A.deeper (Jw qual (B6 st) c.heap.objs.size f b)).units+64<cLine->(A.deeper (Jw qual (B6 st) c.heap.objs.size f b)).units+1<cLine->
  cf (u8 aW P w K mg base N qual (B6 st) f b A a c H E).nox (G7 st) (fW K cm s)) :
 aE P w K mg base aW (k+1) f fd ps (ba K cm (fn N.length ps.length s) ps.length):=Ba F S λb A a c H E d=>e b A a c H E d d.units (pb d.units)
theorem pd(F:L2.Fun K x qual st f fd)(S:C6 N ps (B6 st))
 (e:∀(b:Iv)(A:Jx)(a:List Env)(c:IA)(H:Hp)(E:L2.XK),aM k (A.deeper (Jw qual (B6 st) c.heap.objs.size f b))->(A.deeper (Jw qual (B6 st) c.heap.objs.size f b)).units+64<cLine->(A.deeper (Jw qual (B6 st) c.heap.objs.size f b)).units+1<cLine->
  cf (u8 (ft P w) P w K mg base N qual (B6 st) f b A a c H E) (G7 st) (o4 K cm (lL E) s)) :
 aE P w K mg base (ft P w) (k+1) f fd ps (gM K cm (fn N.length ps.length s) ps.length):=BM F S λb A a c H E d=>e b A a c H E d d.units (pb d.units)
end
section
variable{X:Cx}{cm:Nat->Addr}{o value:Expr}{d e:ED}{f:Str}{pos pos':Pos}
theorem aj(i:Nat){x:Str}(b:X.N[i]?=some x:=by rfl)(c:iX X.env.scope x:=by first | exact QE rfl | exact Qg (QE rfl) | exact Qg (Qg rfl))(g:(x == ("__debug__" : Str))=false:=by decide)
 (a:(x == ("__classdict__" : Str))=false:=by decide):Pe X cm (.Name x pos) (aa i):=zS (L2.pv i b c g a)
theorem uv{K:Iw}{mg:Str->Option Iv}{i:Nat}(B:L4 K mg cm)(a:cy i=f)(b:i<19):∀c,c<7->bB K (cm c) f:=λc h=>a ▸ B.na c i b h
theorem aO(i:Nat){mg:Str->Option Iv}(B:L4 X.K mg cm)(he:Pe X cm o d)(a:cy i=f:=by rfl)(b:i<19:=by decide)(c:attributeBase o f X.env (eval o X.env)=eval o X.env:=by rfl):Pe X cm (.Attribute o f pos) (K8 d i):=Ad he a b B.cls (uv B a b) c
theorem t5(i:Nat){mg:Str->Option Iv}(B:L4 X.K mg cm)(c:Pe X cm o d)(g:Pe X cm value e)(a:cy i=f:=by rfl)(b:i<19:=by decide)(hs:swapsWith value (some (.Attribute o f pos')) pos.line X.env=pure false:=by rfl):Ps X cm (.Assign [.Attribute o f pos'] value pos) (sFld d i e):=Ae c g a b B.cls (uv B a b) hs
end
end Ws
local macro_rules | `(tactic| walk_at "sc")=>`(tactic| exact⟨rfl,rfl,rfl,by decide +kernel,rfl,by decide +kernel,by decide +kernel⟩)
local macro_rules | `(tactic| walk_at "fb")=>`(tactic| first | exact(λ_=>rfl) | exact(λh=>nomatch h))
local macro_rules | `(tactic| walk_at "o2")=>`(tactic| first | exact QE rfl | exact Qg rfl)
local macro_rules | `(tactic| walk_at "o3")=>`(tactic| first | exact QE rfl | exact Qg (QE rfl) | exact Qg (Qg rfl))
namespace Ws
open PySem SetTable
noncomputable def fY(m:Nat)(p:QQ):QQ:=advance { mask:=m,place:=#[],dummies:=#[],finger:=0,led:=true,moves:=0,plain:=true } p
noncomputable def CT(m:Nat)(h:Int):QQ:=probeStart { mask:=m,place:=#[],dummies:=#[],finger:=0,led:=true,moves:=0,plain:=true } h
noncomputable def fw(m:Nat)(h:Int):Nat->QQ
 | 0=>CT m h
 | k+1=>fY m (fw m h k)
noncomputable def pos(m:Nat)(h:Int)(k:Nat):Nat:=(fw m h k).j
theorem uw(t:Jr)(p:QQ):t.advance p=fY t.mask p:=rfl
theorem CU(m:Nat)(p:QQ):(fY m p).dummy=p.dummy:=by
 unfold fY advance;split<;>rfl
theorem ux(m:Nat)(h:Int):∀k,(fw m h k).dummy=none
 | 0=>rfl
 | k+1=>by show(fY m _).dummy=none;rw[CU];exact ux m h k
theorem pe{l:List Nat}(hs:l.Pairwise (·< ·))(j:Nat):∀(fuel lo a:Nat),a<=l.length->a - lo<=fuel->lo<=a->(∀i (h:i<l.length),i<lo->l[i]<j)->(∀i (h:i<l.length),a<=i->j<=l[i])->
 lo<=Qt l.toArray j fuel lo a/\Qt l.toArray j fuel lo a<=a/\(∀i (h:i<l.length),i<Qt l.toArray j fuel lo a->l[i]<j)/\(∀i (h:i<l.length),Qt l.toArray j fuel lo a<=i->j<=l[i])
 | 0,lo,a,m,n,o,c,d=>by
   have:lo=a:=by omega
   subst this;exact⟨IC _,IC _,c,d⟩
 | fuel+1,lo,a,m,n,o,c,d=>by
   unfold Qt;by_cases b:lo<a
   .rw[if_pos b];have g:(lo+a) / 2<l.length:=by omega
    have e:l.toArray.getD ((lo+a) / 2) j=l[(lo+a) / 2]:=by simp[g]
    simp only[e];by_cases f:l[(lo+a) / 2]<j
    .rw[if_pos f];have r:=pe hs j fuel ((lo+a) / 2+1) a m (by omega) (by omega) (λi h k=>by
      by_cases e:i=(lo+a) / 2
      .subst e;exact f
      .exact MR (Jy.mp hs i _ h g (by omega)) f) d
     exact⟨by omega,r.2⟩
    .rw[if_neg f];have r:=pe hs j fuel lo ((lo+a) / 2) (by omega) (by omega) (by omega) c (λi h k=>by
      by_cases e:i=(lo+a) / 2
      .subst e;omega
      .have:=Jy.mp hs _ i g h (by omega);omega)
     exact⟨r.1,by omega,r.2.2⟩
   .rw[if_neg b];have:lo=a:=by omega
    subst this;exact⟨IC _,IC _,c,d⟩
theorem uy{l:List Nat}(hs:l.Pairwise (·< ·))(j:Nat):below l.toArray j<=l.length/\(∀i (h:i<l.length),i<below l.toArray j->l[i]<j)/\(∀i (h:i<l.length),below l.toArray j<=i->j<=l[i]):=by
 have r:=pe hs j l.length 0 l.length (IC _) (by omega) (Kl _) (λi h a=>by omega) (λi h a=>by omega);unfold below;simp only[IP];exact r.2
theorem CV{l:List Nat}(hs:l.Pairwise (·< ·)){i:Nat}(h:i<l.length):below l.toArray l[i]=i:=by
 obtain⟨d,a,b⟩:=uy hs l[i];rcases Nat.lt_trichotomy (below l.toArray l[i]) i with c | c | c
 .have:=b _ (by omega) (IC _);have:=Jy.mp hs _ i (by omega) h c;omega
 .exact c
 .have:=a i h c;omega
theorem CW{l:List Nat}(hs:l.Pairwise (·< ·)){j:Nat}(h:j∉l):l[below l.toArray j]?≠some j:=λe=>h (Jn e)
theorem pf{t:Jr}{l:List Nat}(a:t.place=l.toArray)(hs:l.Pairwise (·< ·)){i:Nat}(h:i<l.length):t.slot l[i]=.live i:=by
 unfold slot;rw[a];simp[CV hs h,h]
theorem CY{t:Jr}{l:List Nat}(a:t.place=l.toArray)(b:t.dummies=#[])(hs:l.Pairwise (·< ·)){j:Nat}(h:j∉l):t.slot j=.empty:=by
 unfold slot;rw[a,b];have:(l.toArray[below l.toArray j]? == some j)=false:=by
  rw[List.getElem?_toArray];exact beq_eq_false_iff_ne.mpr (CW hs h)
 simp only[this];rfl
theorem CZ{t:Jr}{l:List Nat}{f:Nat->Int}{h:Int}(b:t.place=l.toArray)(d:t.dummies=#[])(hs:l.Pairwise (·< ·))(g:∀i,i<l.length->f i≠h){k:Nat}(m:pos t.mask h k∉l)(n:∀i<k,pos t.mask h i∈l) :
 ∀(a i:Nat),i<=k->k - i<a->QP t f h a (fw t.mask h i)=some (.empty (pos t.mask h k) none):=by
 intro a;induction a with
 | zero=>intro i _ h;omega
 | succ a ih=>
   intro i r o;unfold QP;by_cases e:i=k
   .subst e;have:t.slot (fw t.mask h i).j=.empty:=CY b d hs m;rw[this];simp only[ux];rfl
   .obtain⟨q,c,p⟩:=Jk.mp (n i (by omega));have:t.slot (fw t.mask h i).j=.live q:=by
     have:=pf b hs c;rw[p]at this;exact this
    rw[this];simp only[beq_iff_eq,g q c,if_false];rw[uw];exact ih (i+1) (by omega) (by omega)
theorem C0{t:Jr}{l:List Nat}{f:Nat->Int}{h:Int}(d:t.place=l.toArray)(hs:l.Pairwise (·< ·)){z:Nat}(hz:z<l.length)(b:f z=h)(o:∀i,i<l.length->f i=h->i=z){k:Nat}(g:pos t.mask h k=l[z])(p:∀i<k,pos t.mask h i∈l/\pos t.mask h i≠l[z]) :
 ∀(a i:Nat),i<=k->k - i<a->∃nx,QP t f h a (fw t.mask h i)=some (.candidate l[z] z nx):=by
 intro a;induction a with
 | zero=>intro i _ h;omega
 | succ a ih=>
   intro i w r;unfold QP;by_cases e:i=k
   .subst e;have:t.slot (fw t.mask h i).j=.live z:=by
     have:=pf d hs hz;rw[<-g]at this;exact this
    rw[this];simp only[b,beq_self_eq_true,if_true];exact⟨_,by rw[<-g];rfl⟩
   .obtain⟨s,u⟩:=p i (by omega);obtain⟨q,m,n⟩:=Jk.mp s;have:t.slot (fw t.mask h i).j=.live q:=by
     have:=pf d hs m;rw[n]at this;exact this
    rw[this];have c:f q≠h:=λv=>by
     have:=o q m v;subst this;exact u n.symm
    simp only[beq_iff_eq,c,if_false];rw[uw];exact ih (i+1) (by omega) (by omega)
noncomputable def kc(es:Array (Int×Iv))(i:Nat):Int:=(es[i]?.map (·.1)).getD 0
noncomputable def cov(m:Nat):Nat:=10*Jr.turns m
def ph(m:Nat)(h:Int):Prop:=∀j≤m,∃k<cov m,pos m h k=j
structure eG(t:Jr)(es:Array (Int×Iv))(Z:List (Nat×Int×Iv)):Prop where
 place:t.place=(Z.map (·.1)).toArray
 ents:es=(Z.map (·.2)).toArray
 dum:t.dummies=#[]
 srt:(Z.map (·.1)).Pairwise (·< ·)
 le:∀z∈Z,z.1<=t.mask
 way:∀z∈Z,∃k<cov t.mask,pos t.mask z.2.1 k=z.1/\∀i<k,pos t.mask z.2.1 i∈Z.map (·.1)/\pos t.mask z.2.1 i≠z.1
 uni:(Z.map (·.2.1)).Nodup
 room:Z.length<=t.mask
theorem uz{P:Nat->Prop}[DecidablePred P]:∀{n:Nat},P n->∃k≤n,P k/\∀i<k,¬P i
 | 0,h=>⟨0,IC _,h,λi z=>absurd z (by omega)⟩
 | n+1,h=>by
   by_cases c:∃i≤n,P i
   .obtain⟨i,a,b⟩:=c;obtain⟨k,e,d⟩:=uz b;exact⟨k,by omega,d⟩
   .exact⟨n+1,IC _,h,λi a z=>c ⟨i,by omega,z⟩⟩
theorem uA{l:List Nat}{m:Nat}{h:Int}(C:ph m h)(p:l.length<=m):∃k<cov m,pos m h k∉l/\∀i<k,pos m h i∈l:=by
 have:∃j≤m,j∉l:=by
  refine Kj λz=>?_;have b:Jj (m+1) ⊆ l:=λj a=>Kj λy=>z ⟨j,by simpa[Nat.lt_succ_iff]using a,y⟩;have:=List.nodup_range.length_le_of_subset b;simp at this;omega
 obtain⟨j,a,c⟩:=this;obtain⟨k,q,e⟩:=C j a;obtain⟨d,r,f,g⟩:=uz (P:=λk=>pos m h k∉l) (n:=k) (by rw[e];exact c);exact⟨d,by omega,f,λi o=>Kj λz=>g i o z⟩
theorem pj{t:Jr}{es:Array (Int×Iv)}{Z:List (Nat×Int×Iv)}(T:eG t es Z){i:Nat}(h:i<Z.length):kc es i=Z[i].2.1:=by
 unfold kc;rw[T.ents];simp[h]
theorem eG.free{t:Jr}{es:Array (Int×Iv)}{Z:List (Nat×Int×Iv)}(T:eG t es Z){h:Int}(C:ph t.mask h)(e:h∉Z.map (·.2.1)) :
 ∃k<cov t.mask,pos t.mask h k∉Z.map (·.1)/\(∀i<k,pos t.mask h i∈Z.map (·.1))/\t.probe (kc es) h (t.probeStart h)=some (.empty (pos t.mask h k) none):=by
 obtain⟨k,b,c,d⟩:=uA (l:=Z.map (·.1)) C (by simpa using T.room);refine⟨k,b,c,d,?_⟩;exact CZ T.place T.dum T.srt (λi f=>by
  have a:i<Z.length:=by simpa using f
  rw[pj T a];intro z;exact e (IB.mpr ⟨Z[i],JM a,z⟩)) c d _ 0 (Kl _) (by rw[Qq];exact b)
theorem eG.met{t:Jr}{es:Array (Int×Iv)}{Z:List (Nat×Int×Iv)}(T:eG t es Z){i:Nat}(b:i<Z.length) :
 ∃nx,t.probe (kc es) Z[i].2.1 (t.probeStart Z[i].2.1)=some (.candidate Z[i].1 i nx):=by
 obtain⟨k,d,g,l⟩:=T.way Z[i] (JM b);have m:i<(Z.map (·.1)).length:=by simpa using b
 have e:(Z.map (·.1))[i]=Z[i].1:=by simp
 have:=C0 (f:=kc es) (h:=Z[i].2.1) T.place T.srt m (pj T b) (λj c he=>by
  have a:j<Z.length:=by simpa using c
  rw[pj T a]at he;exact(Lu (h₀:=by simpa using a) (h₁:=by simpa using b) T.uni).mp (by simpa using he)) (k:=k) (by rw[e];exact g) (λj c=>by rw[e];exact l j c)
  (10*Jr.turns t.mask) 0 (Kl _) (by rw[Qq];exact d)
 rw[e]at this;exact this
noncomputable def gA(Z:List (Nat×Int×Iv))(z:Nat×Int×Iv):List (Nat×Int×Iv):=Z.take (below (Z.map (·.1)).toArray z.1)++z::Z.drop (below (Z.map (·.1)).toArray z.1)
theorem mem_insZ{Z:List (Nat×Int×Iv)}{z y:Nat×Int×Iv}:y∈gA Z z↔y=z\/y∈Z:=by
 unfold gA;rw[Jm,IH];have:=MW (below (Z.map (·.1)).toArray z.1) Z;constructor
 .rintro(h | h | h)
  .exact .inr (LX h)
  .exact .inl h
  .exact .inr (PU h)
 .rintro(h | h)
  .exact .inr (.inl h)
  .rw[<-this,Jm]at h;rcases h with h | h
   .exact .inl h
   .exact .inr (.inr h)
theorem T8(Z:List (Nat×Int×Iv))(z:Nat×Int×Iv):(gA Z z).Perm (z::Z):=by
 unfold gA;have e:=MW (below (Z.map (·.1)).toArray z.1) Z;refine List.perm_middle.trans ?_;rw[e]
theorem uB{a:Type}{l:List a}{p:Nat}{x:a}:Ka l.toArray p x=(l.take p++x::l.drop p).toArray:=by
 unfold Ka;apply Nf.mp;simp;exact LA (by simp)
theorem eG.put{t:Jr}{es:Array (Int×Iv)}{Z:List (Nat×Int×Iv)}(T:eG t es Z){h:Int}{x:Iv}{k:Nat}(p:k<cov t.mask)(m:pos t.mask h k∉Z.map (·.1))(n:∀i<k,pos t.mask h i∈Z.map (·.1))(q:pos t.mask h k<=t.mask)(r:h∉Z.map (·.2.1))(s:Z.length<t.mask) :
 eG (t.put (pos t.mask h k)).1 (Ka es (t.put (pos t.mask h k)).2 (h,x)) (gA Z (pos t.mask h k,h,x)):=by
 have u:(t.put (pos t.mask h k)).2=below (Z.map (·.1)).toArray (pos t.mask h k):=by show below t.place _=_;rw[T.place]
 have v:Jr.has #[] (pos t.mask h k)=false:=rfl;obtain⟨J,w,A⟩:=uy T.srt (pos t.mask h k);refine⟨?_,?_,?_,?_,?_,?_,?_,?_⟩
 .show Ka t.place (below t.place _) _=_;rw[T.place,uB];unfold gA;simp[ON,Mz]
 .rw[u,T.ents,uB];unfold gA;simp[ON,Mz]
 .show(if Jr.has t.dummies _ then _ else t.dummies)=#[];rw[T.dum,v];rfl
 .unfold gA;rw[Js,Jb,ON,Mz,LY];have g:=T.srt;rw[<-MW (below (Z.map (·.1)).toArray (pos t.mask h k)) (Z.map (·.1)),LY]at g;obtain⟨g,B,C⟩:=g;have lo:∀a∈(Z.map (·.1)).take (below (Z.map (·.1)).toArray (pos t.mask h k)),a<pos t.mask h k:=λa b=>by
   obtain⟨i,d,rfl⟩:=Jk.mp b;rw[JD]at d;rw[LR];exact w i (by omega) (by omega)
  have D:∀a∈(Z.map (·.1)).drop (below (Z.map (·.1)).toArray (pos t.mask h k)),pos t.mask h k<a:=λa b=>by
   have j:a≠pos t.mask h k:=λz=>m (z ▸ PU b);obtain⟨i,d,rfl⟩:=Jk.mp b;rw[MY]at d;rw[List.getElem_drop]at j ⊢;have:=A (below (Z.map (·.1)).toArray (pos t.mask h k)+i) (by omega) (by omega);omega
  refine⟨g,Jz.mpr ⟨D,B⟩,λa b c l=>?_⟩;rcases IH.mp l with rfl | l
  .exact lo a b
  .exact C a b c l
 .intro z f;rcases mem_insZ.mp f with rfl | f
  .exact q
  .exact T.le z f
 .have sub:∀a∈Z.map (·.1),a∈(gA Z (pos t.mask h k,h,x)).map (·.1):=λa b=>by
   obtain⟨y,E,rfl⟩:=IB.mp b;exact IB.mpr ⟨y,mem_insZ.mpr (.inr E),rfl⟩
  intro z f;rcases mem_insZ.mp f with rfl | f
  .exact⟨k,p,rfl,λi d=>⟨sub _ (n i d),λe=>m (by have:=n i d;rw[show pos t.mask h i=pos t.mask h k from e]at this;exact this)⟩⟩
  .obtain⟨G,H,I,o⟩:=T.way z f;exact⟨G,H,I,λi d=>⟨sub _ (o i d).1,(o i d).2⟩⟩
 .refine(((T8 Z _).map (·.2.1)).nodup_iff).mpr ?_;rw[Jb,Ki];exact⟨r,T.uni⟩
 .rw[(T8 Z _).length_eq];exact s
noncomputable def bt(m:Nat)(h:Int):Nat->Nat×Nat
 | 0=>(bits h%(m+1),bits h)
 | r+1=>leap m (bt m h r).1 (bt m h r).2
noncomputable def rl(m i:Nat):Nat:=runEnd m i - i
noncomputable def idx(m:Nat)(h:Int):Nat->Nat
 | 0=>0
 | r+1=>idx m h r+rl m (bt m h r).1+1
theorem pk(m i:Nat):i<=runEnd m i/\runEnd m i<=i+9:=by unfold runEnd;split<;>omega
theorem Dc{m:Nat}{h:Int}:∀r,(bt m h r).1<=m
 | 0=>Ot (Nat.mod_lt _ (Nat.succ_pos _))
 | r+1=>Ot (Nat.mod_lt _ (Nat.succ_pos _))
theorem lS{m:Nat}{h:Int}(r:Nat){d:Nat}(a:d<=rl m (bt m h r).1):(bt m h r).1+d<=m:=by
 have:=Dc (m:=m) (h:=h) r;unfold rl runEnd at a;split at a<;>omega
theorem Dd{m:Nat}{p:QQ}(h:0<p.more):fY m p={ p with j:=p.j+1,more:=p.more - 1 }:=by
 unfold fY advance;rw[if_pos h]
theorem De{m:Nat}{p:QQ}(h:p.more=0):fY m p={ p with j:=(leap m p.i p.perturb).1,more:=rl m (leap m p.i p.perturb).1,i:=(leap m p.i p.perturb).1,perturb:=(leap m p.i p.perturb).2 }:=by
 unfold fY advance;rw[if_neg (by omega)];rfl
theorem pw{m:Nat}{h:Int}:∀r d,d<=rl m (bt m h r).1->fw m h (idx m h r+d)=⟨(bt m h r).1+d,rl m (bt m h r).1 - d,(bt m h r).1,(bt m h r).2,none⟩
 | 0,0,_=>rfl
 | r+1,0,_=>by
   have e:=pw (m:=m) (h:=h) r (rl m (bt m h r).1) (IC _);show fw m h (idx m h r+rl m (bt m h r).1+1)=_;show fY m (fw m h (idx m h r+rl m (bt m h r).1))=_;rw[e,De (by simp)];rfl
 | r,d+1,a=>by
   have e:=pw (m:=m) (h:=h) r d (by omega);show fY m (fw m h (idx m h r+d))=_;rw[e,Dd (by show 0<rl m _ - d;omega)];simp only[QQ.mk.injEq,true_and,and_true];omega
theorem n5{m:Nat}{h:Int}{r d:Nat}(a:d<=rl m (bt m h r).1):pos m h (idx m h r+d)=(bt m h r).1+d:=by
 unfold pos;rw[pw r d a]
theorem px{m:Nat}{h:Int}:∀r,idx m h r<=10*r
 | 0=>IC _
 | r+1=>by
   have:=px (m:=m) (h:=h) r;have:=pk m (bt m h r).1;unfold idx rl;omega
def eM(m:Nat)(h:Int):Prop:=∀j≤m,∃r<Jr.turns m,(bt m h r).1<=j/\j<=runEnd m (bt m h r).1
theorem eM.all{m:Nat}{h:Int}(C:eM m h):ph m h:=λj a=>by
 obtain⟨r,b,c,d⟩:=C j a;have:=px (m:=m) (h:=h) r;have:=pk m (bt m h r).1;refine⟨idx m h r+(j - (bt m h r).1),?_,?_⟩
 .unfold cov;omega
 .rw[n5 (by unfold rl;omega)];omega
theorem pz{m:Nat}{h:Int}(k:Nat):pos m h k<=m:=by
 have a:∀k,∃r d,k=idx m h r+d/\d<=rl m (bt m h r).1:=by
  intro k;induction k with
  | zero=>exact⟨0,0,rfl,Kl _⟩
  | succ k ih=>
    obtain⟨r,d,rfl,b⟩:=ih;by_cases e:d=rl m (bt m h r).1
    .exact⟨r+1,0,by subst e;rfl,Kl _⟩
    .exact⟨r,d+1,rfl,by omega⟩
 obtain⟨r,d,rfl,b⟩:=a k;rw[n5 b];exact lS r b
theorem uC{m:Nat}{h:Int}{a:Array (Option Nat)}{l:List Nat}(o:∀j≤m,(a.getD j (some 0)).isNone=true↔j∉l):∀(fuel r:Nat),(∀i<idx m h r,pos m h i∈l)->(∃f,r<=f/\f<r+fuel/\∃d≤rl m (bt m h f).1,(bt m h f).1+d∉l)->
 ∃k,layClean.free m a fuel (bt m h r).1 (bt m h r).2=some (pos m h k)/\k<10*(r+fuel)/\pos m h k∉l/\∀i<k,pos m h i∈l
 | 0,r,_,s=>by obtain⟨f,E,G,_⟩:=s;omega
 | fuel+1,r,u,s=>by
   have y:=px (m:=m) (h:=h) r;have A:=pk m (bt m h r).1;unfold layClean.free;rcases n:(Jj (runEnd m (bt m h r).1+1 - (bt m h r).1)).find? (λk=>(a.getD ((bt m h r).1+k) (some 0)).isNone)with _ | d
   .rw[List.find?_eq_none]at n;have all:∀d≤rl m (bt m h r).1,(bt m h r).1+d∈l:=λd p=>Kj λz=>by
     refine n d (JG.mpr (by unfold rl at p;omega)) ?_;exact(o _ (lS r p)).mpr z
    have b:∀i<idx m h (r+1),pos m h i∈l:=λi v=>by
     by_cases c:i<idx m h r
     .exact u i c
     .have:i - idx m h r<=rl m (bt m h r).1:=by unfold idx at v;omega
      have e:i=idx m h r+(i - idx m h r):=by omega
      rw[e,n5 this];exact all _ this
    have c:∃f,r+1<=f/\f<r+1+fuel/\∃d≤rl m (bt m h f).1,(bt m h f).1+d∉l:=by
     obtain⟨f,H,I,d,w,x⟩:=s;by_cases e:f=r
     .subst e;exact absurd (all d w) x
     .exact⟨f,by omega,by omega,d,w,x⟩
    obtain⟨k,B,J,C⟩:=uC o fuel (r+1) b c;exact⟨k,B,by omega,C⟩
   .have p:=List.find?_some n;have L:=JG.mp (List.mem_of_find?_eq_some n);have g:d<=rl m (bt m h r).1:=by unfold rl;omega
    refine⟨idx m h r+d,by rw[n5 g],by unfold rl at g;omega,?_,λi v=>?_⟩
    .rw[n5 g];exact(o _ (lS r g)).mp p
    .by_cases c:i<idx m h r
     .exact u i c
     .have D:i - idx m h r<d:=by omega
      have e:i=idx m h r+(i - idx m h r):=by omega
      rw[e,n5 (by omega)];refine Kj λz=>?_;have q:=(List.find?_range_eq_some.mp n).2.2 _ D;rw[(o _ (lS r (by omega:i - idx m h r<=rl m (bt m h r).1))).mpr z]at q;cases q
structure Lay(m:Nat)(hs:List Int)(owner:Array (Option Nat))(J:List Nat):Prop where
 size:owner.size=m+1
 len:J.length=hs.length
 nd:J.Nodup
 le:∀j∈J,j<=m
 own:∀j≤m,owner.getD j (some 0)=J.findIdx? (·== j)
 way:∀i (h:i<hs.length) (h':i<J.length),∃k<cov m,pos m hs[i] k=J[i]/\∀i'<k,pos m hs[i] i'∈J.take i
abbrev pA(m:Nat)(b:Option (Array (Option Nat)×Nat))(h:Int):Option (Array (Option Nat)×Nat):=do
 let(a,k) <-b
 let j <-layClean.free m a (Jr.turns m) (bits h%(m+1)) (bits h)
 pure (a.setIfInBounds j (some k),k+1)
theorem Lay.step{m:Nat}{hs:List Int}{f:Array (Option Nat)}{J:List Nat}(L:Lay m hs f J){h:Int}(C:eM m h)(G:hs.length<=m) :
 ∃g H,pA m (some (f,hs.length)) h=some (g,hs.length+1)/\Lay m (hs++[h]) g H:=by
 have w:∀j≤m,(f.getD j (some 0)).isNone=true↔j∉J:=λj l=>by
  rw[L.own j l,Oa,List.findIdx?_eq_none_iff];constructor
  .intro z y;exact absurd (z j y) (by simp)
  .intro z x I;simpa using λe:x=j=>z (e ▸ I)
 have hex:∃p,0<=p/\p<0+Jr.turns m/\∃d≤rl m (bt m h p).1,(bt m h p).1+d∉J:=by
  obtain⟨k,hk,N,_⟩:=uA C.all (by rw[L.len];exact G);obtain⟨r,hr,A,B⟩:=C (pos m h k) (pz k);exact⟨r,Kl _,by omega,pos m h k - (bt m h r).1,by unfold rl;omega,by rw[show(bt m h r).1+(pos m h k - (bt m h r).1)=pos m h k by omega];exact N⟩
 obtain⟨k,O,k2,D,Q⟩:=uC w (Jr.turns m) 0 (λi q=>absurd q (MA _)) hex;refine⟨f.setIfInBounds (pos m h k) (some hs.length),J++[pos m h k],?_,?_⟩
 .show(do let j <-layClean.free m f (Jr.turns m) (bits h%(m+1)) (bits h);pure (f.setIfInBounds j (some hs.length),hs.length+1))=_;have:layClean.free m f (Jr.turns m) (bits h%(m+1)) (bits h)=some (pos m h k):=O;rw[this];rfl
 .have T:=pz (m:=m) (h:=h) k;refine⟨by simp[L.size],by simp[L.len],?_,?_,?_,?_⟩
  .rw[Ju];exact⟨L.nd,by simp,λa U b E=>by simp at E;subst E;exact λe=>D (e ▸ U)⟩
  .intro j l;rcases Jm.mp l with l | l
   .exact L.le j l
   .simp at l;subst l;exact T
  .intro j l;rw[List.findIdx?_append,<-L.own j l];have n:j<f.size:=by rw[L.size];omega
   by_cases e:pos m h k=j
   .subst e;have z:f.getD (pos m h k) (some 0)=none:=Oa.mp ((w _ l).mpr D);rw[z];simp[n,L.len]
   .have:(f.setIfInBounds (pos m h k) (some hs.length)).getD j (some 0)=f.getD j (some 0):=by
     simp[Array.getElem_setIfInBounds,n,e]
    rw[this];simp[List.findIdx?_cons,e]
  .intro i q Y;by_cases c:i<hs.length
   .obtain⟨k',A,B,q3⟩:=L.way i c (by rw[L.len];exact c);have o:(hs++[h])[i]=hs[i]:=Ou c;have s:(J++[pos m h k])[i]=J[i]'(by rw[L.len];exact c):=Ou _;refine⟨k',A,by rw[o,s];exact B,λu v=>?_⟩;rw[o,Lv (by rw[L.len];omega)];exact q3 u v
   .have:i=hs.length:=by simp at q;omega
    subst this;have o:(hs++[h])[hs.length]=h:=by simp
    have s:(J++[pos m h k])[hs.length]=pos m h k:=by
     rw[List.getElem_append_right (by rw[L.len];exact IC _)];simp
    refine⟨k,by unfold cov;omega,by rw[o,s],λu v=>?_⟩;rw[o,<-L.len,List.take_left']
    .exact Q u v
    .rfl
theorem uD{m:Nat}:∀(hs ps:List Int)(a:Array (Option Nat))(J:List Nat),(∀h∈hs,eM m h)->ps.length+hs.length<=m+1->Lay m ps a J->
 ∃b d,hs.foldl (pA m) (some (a,ps.length))=some (b,ps.length+hs.length)/\Lay m (ps++hs) b d
 | [],ps,a,J,_,_,L=>⟨a,J,rfl,by simpa using L⟩
 | h::hs,ps,a,J,C,e,L=>by
   simp only[J2]at e;obtain⟨f,g,i,j⟩:=L.step (C h IE) (by omega);obtain⟨k,l,c,L2⟩:=uD hs (ps++[h]) f g (λx n=>C x (IF _ n)) (by simp;omega) j;refine⟨k,l,?_,by simpa using L2⟩;rw[LK,i];simp only[IT,J2,JN]at c;rw[c];simp;omega
noncomputable def fM(m:Nat)(J:List Nat)(es:List (Int×Iv)):List (Nat×Int×Iv):=(Jj (m+1)).filterMap λj=>(J.findIdx? (·== j)).bind λi=>es[i]?.map (j,·)
theorem lT{b c:Type}{f g:b->Option c}:∀{l:List b},(∀x∈l,f x=g x)->l.filterMap f=l.filterMap g
 | [],_=>rfl
 | a::l,h=>by rw[Kk,Kk,h a IE,lT λx d=>h x (IF _ d)]
theorem pB{J:List Nat}(a:J.Nodup){i j:Nat}:J.findIdx? (·== j)=some i↔J[i]?=some j:=by
 rw[List.findIdx?_eq_some_iff_getElem,IQ];constructor
 .rintro⟨h,e,_⟩;exact⟨h,by simpa using e⟩
 .rintro⟨h,e⟩;refine⟨h,by simpa using e,λk b z=>?_⟩;have:J[k]=J[i]:=by rw[e];simpa using z
  exact absurd ((Lu a).mp this) (by omega)
theorem lU{m:Nat}{J:List Nat}{es:List (Int×Iv)}(c:J.Nodup)(d:∀j∈J,j<=m){z:Nat×Int×Iv}:z∈fM m J es↔∃i:Nat,J[i]?=some z.1/\es[i]?=some z.2:=by
 unfold fM;rw[NQ];constructor
 .rintro⟨j,g,e⟩;obtain⟨i,a,b⟩:=MB.mp e;obtain⟨v,f,rfl⟩:=Jh.mp b;exact⟨i,(pB c).mp a,f⟩
 .rintro⟨i,a,b⟩;refine⟨z.1,JG.mpr (Nat.lt_succ_of_le (d _ (Jn a))),?_⟩;rw[(pB c).mpr a];show es[i]?.map (z.1,·)=some z;rw[b];rfl
theorem uE{m:Nat}{J:List Nat}{es:List (Int×Iv)}:((fM m J es).map (·.1)).Pairwise (·< ·):=by
 unfold fM;rw[Kv,List.pairwise_filterMap];refine Pf.imp λ{a b} c x e y f=>?_;obtain⟨i,k,g⟩:=MB.mp e;obtain⟨v,l,rfl⟩:=Jh.mp g;obtain⟨n,h,d⟩:=MB.mp f;obtain⟨o,j,rfl⟩:=Jh.mp d;exact c
theorem pD{m:Nat}{J:List Nat}{es:List (Int×Iv)}(c:J.Nodup)(d:∀j∈J,j<=m)(n:J.length=es.length):((fM m J es).map (·.2)).Perm es:=by
 have f:(fM m J es).Nodup:=by
  have:=(uE (m:=m) (J:=J) (es:=es)).imp (λ{a b} (h:a<b)=>IL h);exact(Kv.mp this).imp λh e=>h (congrArg _ e)
 have g:(J.zip es).Nodup:=by
  have h:((J.zip es).map (·.1)).Nodup:=by rw[show(J.zip es).map (·.1)=J from List.map_fst_zip (by omega)];exact c
  exact(Kv.mp h).imp λh e=>h (congrArg _ e)
 have p:(fM m J es).Perm (J.zip es):=(List.perm_ext_iff_of_nodup f g).mpr λz=>by
  rw[lU c d,PF];constructor
  .rintro⟨i,k,l⟩;exact⟨i,by rw[Li];exact⟨k,l⟩⟩
  .rintro⟨i,h⟩;rw[Li]at h;exact⟨i,h⟩
 have:=p.map (·.2);rw[show(J.zip es).map (·.2)=es from List.map_snd_zip (by omega)]at this;exact this
theorem Df{m:Nat}:∀j≤m,(Array.replicate (m+1) (none:Option Nat)).getD j (some 0)=([]:List Nat).findIdx? (·== j):=λj a=>by
 have:j<m+1:=by omega
 simp[this]
theorem eG.relay{t:Jr}{es:Array (Int×Iv)}{Z:List (Nat×Int×Iv)}(T:eG t es Z){wanted m:Nat}(N:sizeAbove wanted=m+1)(C:∀z∈Z,eM m z.2.1)(O:Z.length<=m) :
 ∃f order B,t.relaid (es.map (·.1)) wanted=some (f,order)/\f.mask=m/\f.led=t.led/\f.plain=t.plain/\eG f (order.filterMap (es[·]?)) B/\(B.map (·.2)).Perm (Z.map (·.2)):=by
 obtain⟨a,J,e,L⟩:=uD (m:=m) (Z.map (·.2.1)) [] (Array.replicate (m+1) none) [] (λh Q=>by obtain⟨z,hz,rfl⟩:=IB.mp Q;exact C z hz) (by simp;omega)
  ⟨by simp,rfl,by simp,by simp,Df,λi h=>absurd h (MA _)⟩
 simp only[List.nil_append,JN,Pu]at e L;have w:es.toList=Z.map (·.2):=by rw[T.ents]
 have g:J.length=(Z.map (·.2)).length:=by rw[L.len];simp
 have own:∀j∈Jj (m+1),a.getD j none=J.findIdx? (·== j):=λj d=>by
  rw[<-L.own j (Ot (JG.mp d))];have:j<a.size:=by rw[L.size];exact JG.mp d
  simp[this]
 have l:layClean m (es.map (·.1))=some a:=by
  have:es.map (·.1)=(Z.map (·.2.1)).toArray:=by rw[T.ents];simp
  rw[this];unfold layClean;rw[List.foldl_toArray];show(List.foldl (pA m) _ _).map _=_;rw[e];rfl
 have c:(Jj (m+1)).filterMap (λj=>(a.getD j none).map (j,·))=(Jj (m+1)).filterMap λj=>(J.findIdx? (·== j)).map (j,·):=lT λj d=>by rw[own j d]
 have n:∀{j i:Nat},J.findIdx? (·== j)=some i->∃v,(Z.map (·.2))[i]?=some v:=λ{j i} h=>by
  have:=IQ.mp ((pB L.nd).mp h);exact⟨_,IM (by rw[<-g];exact this.1)⟩
 refine⟨{ mask:=m,place:=(((Jj (m+1)).filterMap λj=>(J.findIdx? (·== j)).map (j,·)).map (·.1)).toArray,dummies:=#[],finger:=t.finger,led:=t.led,moves:=t.movedTo m,plain:=t.plain },(((Jj (m+1)).filterMap λj=>(J.findIdx? (·== j)).map (j,·)).map (·.2)).toArray,fM m J (Z.map (·.2)),?_,rfl,rfl,rfl,?_,pD L.nd L.le g⟩
 .unfold relaid laid;rw[N,Nat.add_sub_cancel,l];simp only[Option.bind_eq_bind,OT,c];rfl
 .refine⟨?_,?_,rfl,uE,?_,?_,?_,?_⟩
  .show LL _=LL _;congr 1;unfold fM;rw[NU,NU];refine lT λj d=>?_;rcases x:J.findIdx? (·== j)with _ | i
   .rfl
   .obtain⟨v,r⟩:=n x;show some j=((Z.map (·.2))[i]?.map (j,·)).map (·.1);rw[r];rfl
  .apply Nf.mp;rw[Array.toList_filterMap];show List.filterMap _ (NS _ _)=NS _ _;unfold fM;rw[List.filterMap_map,List.filterMap_filterMap,NU];refine lT λj d=>?_;rcases x:J.findIdx? (·== j)with _ | i
   .rfl
   .obtain⟨v,r⟩:=n x;have:es[i]?=some v:=by rw[<-Lf,w];exact r
    show es[i]?=((Z.map (·.2))[i]?.map (j,·)).map (·.2);rw[r,this];rfl
  .intro z hz;obtain⟨i,y,_⟩:=(lU L.nd L.le).mp hz;exact L.le _ (Jn y)
  .intro z hz;obtain⟨i,y,A⟩:=(lU L.nd L.le).mp hz;obtain⟨D,E⟩:=IQ.mp y;have o:i<(Z.map (·.2.1)).length:=by rw[<-L.len];exact D
   obtain⟨k,U,G,H⟩:=L.way i o D;have Y:(Z.map (·.2.1))[i]=z.2.1:=by
    have hz:i<Z.length:=by simpa using o
    rw[Ja,IM hz]at A;simp at A ⊢;rw[A]
   rw[Y]at G H;refine⟨k,U,by rw[G,E],λI h'=>?_⟩;have b:=H I h';constructor
   .obtain⟨q,s,u⟩:=Jk.mp (LX b);have b3:q<(Z.map (·.2)).length:=by rw[<-g];exact s
    exact IB.mpr ⟨(pos m z.2.1 I,(Z.map (·.2))[q]),(lU L.nd L.le).mpr ⟨q,by rw[IM s,u],IM b3⟩,rfl⟩
   .intro e3;obtain⟨q,s,u⟩:=Jk.mp b;rw[JD]at s;rw[LR]at u;have:J[q]=J[i]:=by rw[u,E];exact e3
    exact absurd ((Lu L.nd).mp this) (by omega)
  .have p:=(pD L.nd L.le g).map (·.1);have e4:(Z.map (·.2)).map (·.1)=Z.map (·.2.1):=by simp
   rw[e4]at p;have e5:((fM m J (Z.map (·.2))).map (·.2)).map (·.1)=(fM m J (Z.map (·.2))).map (·.2.1):=by simp
   rw[e5]at p;exact p.nodup_iff.mpr T.uni
  .have:=(pD L.nd L.le g).length_eq;simp at this;rw[this];exact O
end Ws
namespace Ws
open PySem PySem.W PyProof.Rows PySem.Spec PySem.Calls L2
noncomputable def runs(m:Nat):Nat->Nat->Nat->List Nat
 | 0,_,_=>[]
 | n+1,i,p=>i::runs m n (Jr.leap m i p).1 (Jr.leap m i p).2
theorem uF{m:Nat}{h:Int}:∀n r,∀i∈runs m n (bt m h r).1 (bt m h r).2,∃b<r+n,(bt m h b).1=i
 | 0,r,i,a=>by cases a
 | n+1,r,i,a=>by
   rcases IH.mp a with rfl | a
   .exact⟨r,by omega,rfl⟩
   .obtain⟨b,d,c⟩:=uF n (r+1) i a;exact⟨b,by omega,c⟩
noncomputable def lV(m:Nat)(h:Int):Bool:=let l:=runs m (Jr.turns m) (Jr.bits h%(m+1)) (Jr.bits h);(Jj (m+1)).all λj=>l.any λi=>Nat.ble i j&&Nat.ble j (Jr.runEnd m i)
theorem pE{m:Nat}{h:Int}(e:lV m h=true):eM m h:=λj a=>by
 have:=Jg.mp e j (JG.mpr (Nat.lt_succ_of_le a));obtain⟨i,b,q⟩:=List.any_eq_true.mp this;obtain⟨r,c,rfl⟩:=uF (m:=m) (h:=h) _ 0 i b;rw[Jc]at q;exact⟨r,by omega,PJ q.1,PJ q.2⟩
theorem Dg:prs.all (λp=>lV 7 (hashK p)&&lV 31 (hashK p)&&lV 127 (hashK p))=true:=by decide +kernel
theorem uG{p:List Int}(h:p∈prs){m:Nat}(a:m=7\/m=31\/m=127):eM m (hashK p):=by
 have:=Jg.mp Dg p h;simp only[Jc]at this;rcases a with rfl | rfl | rfl
 .exact pE this.1.1
 .exact pE this.1.2
 .exact pE this.2
section
variable{prog:IV}{w:JB}{A:Jx}{E:Iv->IA->Prop}{s:IA}
theorem uH:∀{vs:List Iv}{ns:List Int},MZ vs ns->ItemsAre (intKind prog w) ns vs
 | _,_,.nil=>.nil
 | _,_,.cons n t h=>.cons (intKind_is _ _ _ _) (uH h)
theorem n6{h:Heap}{a:Addr}{t:List Int}(x:TupAt h (.ref a) t):IsTupleKey (intKind prog w) h t a:=by
 obtain⟨b,o,c,n,e,d,f,g,i,j⟩:=x;cases e;exact⟨o,c,n,d,f,g,uH i⟩
theorem Dh{a:Addr}{t:List Int}{Q:Int->IA->Prop}(b:A.units<cLine)(x:TupAt s.heap (.ref a) t)(h:Q (hashK t) { s with toks:=s.toks+(t.length+1) }):wpAny (model prog w) A (pyHash (.ref a)) Q E s:=
 wpAny_pyHash_tuple (knd:=intKind prog w) b (n6 x) h
theorem uI{a b:Addr}{t:List Int}{Q:Bool->IA->Prop}(c:A.units<cLine)(x:TupAt s.heap (.ref a) t)(y:TupAt s.heap (.ref b) t)(h:Q true s):wpAny (model prog w) A (eqBool (.ref a) (.ref b)) Q E s:=
 wpAny_eqBool_tuple (knd:=intKind prog w) c (n6 x) (n6 y) (by simpa using h)
theorem uJ{a:Addr}{t:List Int}{Q:Bool->IA->Prop}(x:TupAt s.heap (.ref a) t)(h:Q true s):wpAny (model prog w) A (eqIsQuiet 8 (.ref a)) Q E s:=
 wpAny_eqIsQuiet_tuple (knd:=intKind prog w) (n6 x) h
theorem pF:∀{vs:List Iv}{ns:List Int},MZ vs ns->∀v∈vs,∃n t,v=.int n t
 | _,_,.cons n t h,v,a=>by
   rcases IH.mp a with rfl | a
   .exact⟨n,t,rfl⟩
   .exact pF h v a
theorem Di{a:Addr}{t:List Int}{Q:Bool->IA->Prop}(x:TupAt s.heap (.ref a) t)(h:Q true s):wpAny (model prog w) A (hashByValue 8 (.ref a)) Q E s:=by
 have k:=(n6 (prog:=prog) (w:=w) x).typeIs;obtain⟨b,o,f,n,e,l,q,m,p,y⟩:=x;cases e;unfold hashByValue;refine Ir (NA k F.slot_tuple_hash.lookup ?_);show wpAny _ _ (seqItems? (.ref a)>>=_) _ _ s;refine Ir (Kr l m ?_);refine Ir ?_;show wpAny _ _ (forIn f _ _) _ _ s;rw[<-Array.forIn_toList];refine Ng _ (λc r g=>r.1=none/\g=s/\∀v∈c,∃n t,v=.int n t) _ ?_ ?_ _ _ ⟨rfl,rfl,pF p⟩
 .rintro v c r g ⟨i,rfl,d⟩;obtain⟨n,t,rfl⟩:=d v IE;refine Ir (Iy ?_);simp only[OO,Jl,if_false];exact Iy ⟨rfl,rfl,λu j=>d u (IF _ j)⟩
 .rintro⟨z,B⟩ g ⟨i,rfl,_⟩;simp only at i;subst i;exact Iy h
theorem uK{a:Addr}{t:List Int}{Q:Bool->IA->Prop}(x:TupAt s.heap (.ref a) t)(h:Q false s):wpAny (model prog w) A (ofAClassStatement 8 (.ref a)) Q E s:=by
 have k:=(n6 (prog:=prog) (w:=w) x).typeIs;obtain⟨b,o,f,n,e,l,q,m,p,y⟩:=x;cases e;unfold ofAClassStatement;refine Ir (NR k ?_);show wpAny _ _ (pure true>>=_) _ _ s;refine Ir (Iy ?_);simp only[OO,Jl,if_false];refine Ir (Kr l m ?_);show wpAny _ _ (forIn f _ _>>=_) _ _ s;refine Ir ?_;rw[<-Array.forIn_toList];refine Ng _ (λc r g=>r.1=none/\g=s/\∀v∈c,∃n t,v=.int n t) _ ?_ ?_ _ _ ⟨rfl,rfl,pF p⟩
 .rintro v c r g ⟨i,rfl,d⟩;obtain⟨n,t,rfl⟩:=d v IE;refine Ir (Iy ?_);simp only[Jl,if_false];exact Iy ⟨rfl,rfl,λu j=>d u (IF _ j)⟩
 .rintro⟨z,B⟩ g ⟨i,rfl,_⟩;simp only at i;subst i;exact Iy h
theorem Dj{a:Addr}{t:List Int}{l:List Iv}{Q:Bool->IA->Prop}(x:TupAt s.heap (.ref a) t)(j:∀v∈l,∃b e,v=.ref b/\TupAt s.heap (.ref b) e)(h:Q false s):wpAny (model prog w) A (searchCouldBeSeen (.ref a) l) Q E s:=by
 unfold searchCouldBeSeen;refine Ir ?_;refine Ng _ (λc r f=>r.1=none/\f=s/\∀v∈c,∃b e,v=.ref b/\TupAt s.heap (.ref b) e) _ ?_ ?_ _ _ ⟨rfl,rfl,j⟩
 .rintro v c r f ⟨g,rfl,d⟩;obtain⟨b,e,rfl,y⟩:=d v IE;have nx:∀u∈c,∃b e,u=.ref b/\TupAt f.heap (.ref b) e:=λu i=>d u (IF _ i);dsimp only;split
  .exact Iy ⟨rfl,rfl,nx⟩
  .refine Ir (uJ x ?_);simp only[OO,Jl,if_false];refine Ir (uJ y ?_);simp only[OO,Jl,if_false];refine Ir (uK x ?_);simp only[Jl,if_false];refine Ir (uK y ?_);simp only[Jl,if_false];exact Iy ⟨rfl,rfl,nx⟩
 .rintro⟨k,m⟩ f ⟨g,rfl,_⟩;simp only at g;subst g;exact Iy h
end
def fx(m n:Nat):Prop:=(m=7/\n<=4)\/(m=31/\n<=18)\/(m=127/\n<=76)
structure bU(led:Bool)(h:Heap)(a:Addr)(es:Array (Int×Iv))(ep:Nat)(t:Jr)(T:List (List Int×Iv)):Prop where
 obj:h.get? a=some (eW es ep t)
 tab:∃Z,eG t es Z/\(Z.map (·.2)).Perm (T.map λp=>(hashK p.1,p.2))
 msk:fx t.mask T.length
 el:∀p∈T,p.1∈prs/\TupAt h p.2 p.1
 nd:(T.map (·.1)).Nodup
 led:t.led=led
 pln:t.plain=true
theorem uL{p:List Int}(h:p∈prs):p∈small:=(by decide +kernel:∀p∈prs,p∈small) p h
theorem TupAt.same{h h':Heap}{v:Iv}{t:List Int}{a:Addr}{es:Array (Int×Iv)}{g:Nat}{i:Jr}(x:TupAt h v t)(j:h.get? a=some (eW es g i))(hs:JS a h h'):TupAt h' v t:=by
 obtain⟨b,o,c,n,e,d,k,f,l⟩:=x;refine⟨b,o,c,n,e,?_,k,f,l⟩;rw[hs.2 b λz=>by rw[z,j]at d;cases d;cases f];exact d
theorem pG{t:Jr}{es:Array (Int×Iv)}{Z:List (Nat×Int×Iv)}{T:List (List Int×Iv)}(a:(Z.map (·.2)).Perm (T.map λp=>(hashK p.1,p.2))):Z.length=T.length:=by
 have:=a.length_eq;simpa using this
theorem eG.size{t:Jr}{es:Array (Int×Iv)}{Z:List (Nat×Int×Iv)}(T:eG t es Z):es.size=Z.length:=by rw[T.ents];simp
theorem eG.fits{t:Jr}{es:Array (Int×Iv)}{Z:List (Nat×Int×Iv)}(T:eG t es Z):t.fits es.size=true:=by
 unfold Jr.fits Jr.fill;rw[T.size,T.place,T.dum];simp;exact T.room
theorem fx.even{m n:Nat}(h:fx m n):(m%2 == 0)=false:=by rcases h with⟨rfl,_⟩ | ⟨rfl,_⟩ | ⟨rfl,_⟩<;>rfl
theorem fx.mask{m n:Nat}(h:fx m n):m=7\/m=31\/m=127:=by rcases h with⟨h,_⟩ | ⟨h,_⟩ | ⟨h,_⟩<;>simp[h]
section
variable{prog:IV}{w:JB}{A:Jx}{E:Iv->IA->Prop}{s:IA}{a b:Addr}{es:Array (Int×Iv)}{ep:Nat}{t:Jr}{T:List (List Int×Iv)}{led:Bool}{p:List Int}
theorem bU.hashes{h:Heap}(S:bU led h a es ep t T){Z:List (Nat×Int×Iv)}(c:(Z.map (·.2)).Perm (T.map λp=>(hashK p.1,p.2))){z:Nat×Int×Iv}(hz:z∈Z):∃q∈T,z.2=(hashK q.1,q.2):=by
 have:=c.mem_iff.mp (IB.mpr ⟨z,hz,rfl⟩);obtain⟨q,d,e⟩:=IB.mp this;exact⟨q,d,e.symm⟩
theorem bU.old{Q:Bool->IA->Prop}(S:bU led s.heap a es ep t T)(G:A.units<cLine)(x:TupAt s.heap (.ref b) p)(J:p∈T.map (·.1))(h:Q false s) :
 wpAny (model prog w) A (setAddHashed a (.ref b) (hashK p)) Q E s:=by
 obtain⟨Z,m,d⟩:=S.tab;obtain⟨q,H,rfl⟩:=IB.mp J;obtain⟨L,f⟩:=S.el q H;have N:=d.mem_iff.mpr (IB.mpr ⟨q,H,rfl⟩);obtain⟨z,O,e⟩:=IB.mp N;obtain⟨i,I,rfl⟩:=Jk.mp O;obtain⟨nx,g⟩:=m.met I;have U:Z[i].2.1=hashK q.1:=by rw[e]
 rw[U]at g;have n:=m.fits;have j:es[i]?=some (hashK q.1,q.2):=by rw[m.ents];simp[I,e]
 obtain⟨c,k⟩:∃c,q.2=.ref c:=let⟨c,_,_,_,k,_⟩:=f;⟨c,k⟩;rw[k]at f j;unfold setAddHashed setAddHashedIn;refine JC (Ir (Kz S.obj rfl n ?_));dsimp only;rw[show byScan (IS b) es=false from rfl];simp only[Jl,if_false];refine Ir ?_;unfold setSearch setSearchFrom;refine Ir (Kz S.obj rfl n ?_);dsimp only;rw[show t.gaveWay=false from S.msk.even];simp only[Jl,if_false,Na]
 erw [g]
 simp only[j];split
 .refine Ir (Dj x (λv Y=>?_) ?_)
  .obtain⟨e',o,rfl⟩:=IB.mp Y;have:=Array.mem_filter.mp (PQ.mp o);have r:e'∈Z.map (·.2):=by have:=this.1;rw[m.ents]at this;simpa using this
   obtain⟨z',u,rfl⟩:=IB.mp r;obtain⟨B,C,D⟩:=S.hashes d u;obtain⟨_,y⟩:=S.el B C;obtain⟨c',l⟩:∃c,B.2=.ref c:=let⟨c,_,_,_,k,_⟩:=y;⟨c,k⟩;exact⟨c',B.1,by rw[D,l],l ▸ y⟩
  .simp only[Jl,if_false];exact Ir (JC (uI G f x (Ir (Kz S.obj rfl n (Iy (Iy h))))))
 .exact Ir (JC (uI G f x (Ir (Kz S.obj rfl n (Iy (Iy h))))))
theorem fx.full{m n:Nat}(h:fx m n)(d:n<76)(e:(n+1)*5>=m*3):∃c,Jr.sizeAbove (Jr.grown (n+1))=c+1/\fx c (n+1):=by
 rcases h with⟨rfl,h⟩ | ⟨rfl,h⟩ | ⟨rfl,h⟩
 .obtain rfl:n=4:=by omega
  exact⟨31,by decide +kernel,.inr (.inl ⟨rfl,by omega⟩)⟩
 .obtain rfl:n=18:=by omega
  exact⟨127,by decide +kernel,.inr (.inr ⟨rfl,by omega⟩)⟩
 .omega
theorem fx.less{m n:Nat}(h:fx m n)(c:¬(n+1)*5>=m*3):fx m (n+1):=by
 rcases h with⟨rfl,h⟩ | ⟨rfl,h⟩ | ⟨rfl,h⟩
 .exact .inl ⟨rfl,by omega⟩
 .exact .inr (.inl ⟨rfl,by omega⟩)
 .exact .inr (.inr ⟨rfl,by omega⟩)
theorem fx.lt{m n:Nat}(h:fx m n):n<m:=by rcases h with⟨rfl,h⟩ | ⟨rfl,h⟩ | ⟨rfl,h⟩<;>omega
theorem bU.new{Q:Bool->IA->Prop}(S:bU led s.heap a es ep t T)(x:TupAt s.heap (.ref b) p)(L:p∈prs)(hn:p∉T.map (·.1))(hl:T.length<76)
 (h:∀v N O t',JS a s.heap v->bU led v a N O t' (T++[(p,.ref b)])->Q true { s with heap:=v }) :
 wpAny (model prog w) A (setAddHashed a (.ref b) (hashK p)) Q E s:=by
 obtain⟨Z,I,f⟩:=S.tab;have c:Z.length=T.length:=pG (t:=t) (es:=es) f;have hh:hashK p∉Z.map (·.2.1):=λz=>by
  obtain⟨y,J,e⟩:=IB.mp z;obtain⟨q,l,e2⟩:=S.hashes f J;rw[e2]at e;exact hn (IB.mpr ⟨q,l,ug (uL (S.el q l).1) (uL L) e⟩)
 obtain⟨k,hk,h1,h2,U⟩:=I.free (uG L S.msk.mask).all hh;have j:=I.put (x:=.ref b) hk h1 h2 (pz k) hh (by rw[c];exact S.msk.lt);have Y:=I.fits;have B:((gA Z (pos t.mask (hashK p) k,hashK p,IS b)).map (·.2)).Perm ((T++[(p,IS b)]).map λp=>(hashK p.1,p.2)):=by
  refine((T8 Z _).map _).trans ?_;rw[Jb,Js];exact(f.cons _).trans (List.perm_append_singleton _ _).symm
 have D:((T++[(p,IS b)]).map (·.1)).Nodup:=by
  rw[Js,Ju];exact⟨S.nd,by simp,λy J z hz e=>by simp at hz;rw[e,hz]at J;exact hn J⟩
 have C:∀v,JS a s.heap v->∀q∈T++[(p,IS b)],q.1∈prs/\TupAt v q.2 q.1:=λv hs q l=>by
  rcases Jm.mp l with l | l
  .exact⟨(S.el q l).1,(S.el q l).2.same S.obj hs⟩
  .simp at l;subst l;exact⟨L,x.same S.obj hs⟩
 unfold setAddHashed setAddHashedIn;refine JC (Ir (Kz S.obj rfl Y ?_));dsimp only;rw[show byScan (IS b) es=false from rfl];simp only[Jl,if_false];refine Ir ?_;unfold setSearch setSearchFrom;refine Ir (Kz S.obj rfl Y ?_);dsimp only;rw[show t.gaveWay=false from S.msk.even];simp only[Jl,if_false,Na]
 erw [U]
 refine Iy ?_;dsimp only;refine Ir (Kz S.obj rfl Y ?_);dsimp only;rw[show(t.put (pos t.mask (hashK p) k)).1.plain=true from S.pln];simp only[if_true];refine Ir (Di x ?_);simp only[if_true];have G:es.size=T.length:=by rw[I.size,c]
 have m:=j.size;rw[(T8 Z _).length_eq,J2,c]at m;refine Ir (wpAny_storeSet_of S.obj rfl ?_ (by rw[m,MI];omega));have o:=JF (Obj.putSet (Ka es (t.put (pos t.mask (hashK p) k)).2 (hashK p,IS b)) (t.put (pos t.mask (hashK p) k)).1) S.obj rfl;have i:=JI s.heap a (Obj.putSet (Ka es (t.put (pos t.mask (hashK p) k)).2 (hashK p,IS b)) (t.put (pos t.mask (hashK p) k)).1);have n:(t.put (pos t.mask (hashK p) k)).1.fill=T.length+1:=by
  unfold Jr.fill;rw[j.place,j.dum];simp[(T8 Z _).length_eq,c]
 have g:(t.put (pos t.mask (hashK p) k)).1.mask=t.mask:=rfl;by_cases d:(T.length+1)*5>=t.mask*3
 .obtain⟨m',e1,M2⟩:=S.msk.full hl d;have ht:(t.put (pos t.mask (hashK p) k)).1.tooFull=true:=by unfold Jr.tooFull;rw[n,g];exact decide_eq_true d
  rw[ht];simp only[Bool.not_false,Bool.true_and,if_true];obtain⟨t2,order,Z2,q1,q2,q3,q4,H,q5⟩:=j.relay (wanted:=Jr.grown (es.size+1)) (by rw[G];exact e1) (λz hz=>by
   have:=B.mem_iff.mp (IB.mpr ⟨z,hz,rfl⟩);obtain⟨q,l,e⟩:=IB.mp this;rw[<-e];exact uG (C _ i q l).1 M2.mask) (by rw[(T8 Z _).length_eq,J2,c];exact NP M2.lt)
  refine Ir ?_;unfold setRelay;refine Ir (Kz o rfl j.fits ?_);dsimp only;rw[if_neg (by rw[G,e1,MI];rcases M2.mask with rfl | rfl | rfl<;>decide)];have r:(order.filterMap ((Ka es (t.put (pos t.mask (hashK p) k)).2 (hashK p,IS b))[·]?)).size=T.length+1:=by
   rw[H.size];have:=q5.length_eq;simp only[Iz,(T8 Z _).length_eq,J2,c]at this;exact this
  refine Ir ?_;rw[q1];show wpAny _ _ (if((order.filterMap ((Ka es (t.put (pos t.mask (hashK p) k)).2 (hashK p,IS b))[·]?)).size != (Ka es (t.put (pos t.mask (hashK p) k)).2 (hashK p,IS b)).size)=true then _ else _) _ _ _;rw[r,m];rw[if_neg (by simp)];refine Iy ?_;dsimp only;refine wpAny_storeSet_of o rfl ?_ (by rw[r,MI];omega);refine Iy ?_;have u:=i.trans (JI _ a (Obj.putSet (order.filterMap ((Ka es (t.put (pos t.mask (hashK p) k)).2 (hashK p,IS b))[·]?)) t2));exact h _ _ _ _ u ⟨JF _ o rfl,⟨Z2,H,q5.trans B⟩,by rw[q2];simpa using M2,C _ u,D,by rw[q3];exact S.led,by rw[q4];exact S.pln⟩
 .have ht:(t.put (pos t.mask (hashK p) k)).1.tooFull=false:=by unfold Jr.tooFull;rw[n,g];exact decide_eq_false d
  rw[ht];simp only[Bool.not_false,Q2,Jl,if_false];refine Iy ?_;exact h _ _ _ _ i ⟨o,⟨_,j,B⟩,by simpa[g]using S.msk.less d,C _ i,D,S.led,S.pln⟩
end
noncomputable def fN(T:List (List Int×Iv))(x:List Int×Iv):List (List Int×Iv):=if x.1∈T.map (·.1) then T else T++[x]
noncomputable def setTL(l:List (List Int×Iv)):List (List Int×Iv):=l.foldl fN []
theorem Dk(l:List (List Int×Iv))(x:List Int×Iv):setTL (l++[x])=fN (setTL l) x:=by
 unfold setTL;rw[List.foldl_append];rfl
theorem addT_sub{T:List (List Int×Iv)}{x y:List Int×Iv}(h:y∈fN T x):y∈T\/y=x:=by
 unfold fN at h;split at h
 .exact .inl h
 .simpa using h
theorem uM{l:List (List Int×Iv)}:∀y∈setTL l,y∈l:=by
 have b:∀(l T:List (List Int×Iv))(y:List Int×Iv),y∈l.foldl fN T->y∈T\/y∈l:=by
  intro l;induction l with
  | nil=>intro T y h;exact .inl h
  | cons a r ih=>
    intro T y h;rcases ih _ y h with h | h
    .rcases addT_sub h with h | h
     .exact .inl h
     .exact .inr (h ▸ IE)
    .exact .inr (IF _ h)
 intro y h;rcases b l [] y h with h | h
 .cases h
 .exact h
theorem uN{l:List (List Int×Iv)}:(setTL l).length<=l.length:=by
 have b:∀(l T:List (List Int×Iv)),(l.foldl fN T).length<=T.length+l.length:=by
  intro l;induction l with
  | nil=>intro T;exact IC _
  | cons a r ih=>
    intro T;refine Jd (ih _) ?_;unfold fN;split<;>simp<;>omega
 unfold setTL;simpa using b l []
theorem uO{h h':Heap}{v:Iv}{t:List Int}(x:TupAt h v t)(k:∀c o,v=.ref c->h.get? c=some o->h'.get? c=some o):TupAt h' v t:=by
 obtain⟨b,o,a,n,e,d,f⟩:=x;exact⟨b,o,a,n,e,k b o e d,f⟩
theorem uP{h:Heap}:∀{vs:List Iv}{b:List (List Int)},Paired (TupAt h) vs b->∀p∈b.zip vs,TupAt h p.2 p.1
 | _,_,.nil,p,a=>by cases a
 | _,_,.cons r t,p,a=>by
   rcases IH.mp a with rfl | a
   .exact r
   .exact uP t p a
section
variable{prog:IV}{w:JB}{A:Jx}{R:Qo->IA->Prop}{E:Iv->IA->Prop}{s:IA}
theorem bU.at{led:Bool}{h h':Heap}{a:Addr}{es:Array (Int×Iv)}{b:Nat}{t:Jr}{T:List (List Int×Iv)}(S:bU led h a es b t T)(d:h'.get? a=some (eW es b t))(e:∀p∈T,TupAt h' p.2 p.1):bU led h' a es b t T:=
 ⟨d,S.tab,S.msk,λp c=>⟨(S.el p c).1,e p c⟩,S.nd,S.led,S.pln⟩
theorem Dl{I:Addr}{fp C:List Addr}{G:Array PN->Array PN->Prop}{P:Nat->Iv->Prop}{St:Nat->IA->Prop}{L:List (List Int×Iv)}{led:Bool}(hu:A.units+8<cLine)(hn:∀p∈L,p.1∈prs)(b3:L.length<76)
 (W:WalksS prog w A.in1 I fp C G L.length P St) (S:Addr) (a0:S∉fp) (a1:∀i v,P i v->v=(L.getD i ([],.none)).2) (hw:∀p∈L,∀c,p.2=.ref c->c∉C) :
 ∀(k i:Nat)(s:IA)(es:Array (Int×Iv))(U:Nat)(t:Jr),L.length - i=k->i<=L.length->St i s->
  bU led s.heap S es U t (setTL (L.take i))->(∀p∈L,TupAt s.heap p.2 p.1)->
  (∀a D H t',Moved (S::C) G s a->bU led a.heap S D H t' (setTL L)->R (.ok (.ret .none)) a)->
  codeAny (model prog w) A (.builtin "set.update.loop" ⟨[.ref S,.ref I],[]⟩) R s:=by
 have a2:S∉C:=λh=>a0 (W.sub _ h);have j:∀b∈C,b∈S::C:=λb J=>IF _ J;have kp:∀{s a:IA},Moved C G s a->(∀p∈L,TupAt s.heap p.2 p.1)->∀p∈L,TupAt a.heap p.2 p.1:=λu hT p z=>uO (hT p z) λc o e g=>u.heap c o (hw p z c e) g;intro k;induction k with
 | zero=>
   intro i s es U t hk hi N Y hT hR;have f:i=L.length:=by omega
   subst f;rw[KO]at Y;refine Lp OP ?_;rw[Nm Ls _];show wpAny _ A.in1 (pyNext (.ref I)>>=_) _ _ s;refine Ir (W.done s _ _ N λa u=>?_);show wpAny _ A.in1 (PySem.ret Km) _ _ a;exact Iy (hR a es U t (u.mono j) (Y.at (u.heap S _ a2 Y.obj) λp z=>kp u hT p (uM p z)))
 | succ k ih=>
   intro i s es U t hk hi N Y hT hR;have d:i<L.length:=by omega
   refine Lp OP ?_;rw[Nm Ls _];show wpAny _ A.in1 (pyNext (.ref I)>>=_) _ _ s;refine Ir (W.item i s _ _ d N λv a hP B u=>?_);have b0:L.getD i ([],.none)=L[i]:=by simp[d]
   have hv:=a1 i v hP;rw[b0]at hv;have x:=kp u hT;have hx:=x L[i] (JM d);obtain⟨c,ec⟩:∃c,L[i].2=.ref c:=let⟨c,_,_,_,ec,_⟩:=hx;⟨c,ec⟩;rw[ec]at hv hx;subst hv;have y:bU led a.heap S es U t (setTL (L.take i)):=Y.at (u.heap S _ a2 Y.obj) λp z=>x p (LX (uM p z));show wpAny _ A.in1 (holding [IS c] (setAdd S (.ref c))>>=_) _ _ a;refine Ir (JC ?_);unfold setAdd;refine JC ?_;refine Ir (Dh (by rw[OU];omega) hx ?_);have a5:setTL (L.take (i+1))=fN (setTL (L.take i)) L[i]:=by
    rw[KC,IM d];exact Dk _ _
   have a6:(setTL (L.take i)).length<76:=NT uN (by simp;omega);by_cases f:L[i].1∈(setTL (L.take i)).map (·.1)
   .refine bU.old (s:={ a with toks:=a.toks+(L[i].1.length+1) }) y (by rw[OU];omega) hx f ?_;have l:setTL (L.take (i+1))=setTL (L.take i):=by rw[a5];unfold fN;rw[if_pos f]
    refine Iy ⟨Nt Ls _,ih (i+1) _ es U t (by omega) d (W.frame _ a _ _ B (Ld _ _) λb J o e=>e) (by rw[l];exact y) x λO m n Q q r=>?_⟩;exact hR O m n Q (Moved.trans W.gtrans ((u.mono j).then_heap (Ld _ _) λb o J e=>e) q) r
   .refine bU.new (s:={ a with toks:=a.toks+(L[i].1.length+1) }) y hx (hn _ (JM d)) f a6 λh' D H t' T b2=>?_;have l:setTL (L.take (i+1))=setTL (L.take i)++[(L[i].1,.ref c)]:=by rw[a5];unfold fN;rw[if_neg f,<-ec]
    refine Iy ⟨Nt Ls _,ih (i+1) _ D H t' (by omega) d (W.frame _ a _ _ B (Ld _ _) λb J o e=>?_) (by rw[l];exact b2) (λp z=>(x p z).same y.obj T) λO m n Q q r=>?_⟩
    .rw[T.2 b (λh:b=S=>a0 (by rw[<-h];exact J))];exact e
    .refine hR O m n Q (Moved.trans W.gtrans ((u.mono j).then_heap (Ld _ _) λb o J e=>?_) q) r;rw[T.2 b (λh:b=S=>J (by rw[h];exact IE))];exact e
set_option maxHeartbeats 3200000 in
theorem Dm{l:Addr}{items:Array Iv}{d:List (List Int)}{Q:Iv->IA->Prop}(hu:A.units+32<cLine)(hn:∀p∈d,p∈prs)(C:d.length<76)
 (hh:A.handled=none) (hl:s.heap.IsList l items) (hi:Paired (TupAt s.heap) items.toList d)
 (h:∀(h':Heap)(tk:Nat)(es:Array (Int×Iv))(ep:Nat)(t:Jr),bU (!w.params.followText "set-order") h' s.heap.objs.size es ep t (setTL (d.zip items.toList))->
  (∀b o,b<s.heap.objs.size->s.heap.get? b=some o->h'.get? b=some o)->Q (.ref s.heap.objs.size) { s with heap:=h',toks:=tk }) :
 wpAny (model prog w) A (call (.type "set") [.ref l]) Q E s:=by
 have j:items.size=d.length:=by have:=hi.length;rwa [Ku]at this
 have u:(d.zip items.toList).length=d.length:=by
  have e:items.toList.length=d.length:=by rw[Ku];exact j
  rw[List.length_zip,e,Nat.min_self]
 have G:∀p∈d.zip items.toList,TupAt s.heap p.2 p.1:=uP hi;obtain⟨c,tl,d1⟩:=Jq.mro;have a4:=Jq.made;have d2:=Jq.sub;refine MK (ND ?_);show wpAny _ _ (callAny (.type "set") _) _ _ _;refine Iy ⟨Mw _ (by decide +kernel),Lp OK ?_⟩;rw[Jx.under_plain (Px "set" [.ref l] []) rfl];have h1:=Jq.notType;have h2:=Jq.canCreate;have f4:=OZ (.ref l);repeat (any_goals (first | assumption | wp_step))
 generalize H:(!w.params.followText "set-order")=led at *;refine KW (Ce (.ref l) (E:=E) (Q₁:=λobj m=>obj=.ref s.heap.objs.size/\m={ s with heap:=s.heap.push (eW #[] 0 (.fresh 0 0 led)) }) (by rw[H];exact⟨rfl,rfl⟩)) λr m hr=>?_;cases r with
 | error e=>exact hr
 | ok fl=>
   cases fl with
   | ret obj=>
     obtain⟨rfl,rfl⟩:=hr;have hS:(s.heap.push (eW #[] 0 (.fresh 0 0 led))).get? s.heap.objs.size=some (eW #[] 0 (.fresh 0 0 led)):=IG _ rfl;have hT:Mx { s with heap:=s.heap.push (eW #[] 0 (.fresh 0 0 led)) } (.ref s.heap.objs.size) "set":=⟨_,hS,rfl⟩;have g1:=Jq.init.lookup;have g2:=Jq.init.bind (.ref s.heap.objs.size);repeat (any_goals (first | assumption | wp_step))
     refine KW (Nl (R:=wants (λr q=>r=.none/\∃h' tk es ep t,q={ s with heap:=h',toks:=tk }/\
      bU led h' s.heap.objs.size es ep t (setTL (d.zip items.toList))/\
      (∀b o,b<s.heap.objs.size->s.heap.get? b=some o->h'.get? b=some o)) E) Jq.init.plain Pb (check_set_init_1 hT ?_)) λI q a=>?_
     .obtain⟨ol,J,L,nl,hdl⟩:=hl;obtain⟨e3,x,a6,k⟩:=ol;simp only at L hdl;subst L;subst hdl;have N:(s.heap.push (eW #[] 0 (.fresh 0 0 led))).get? l=some { cls:=.type "list",dict:=x,data:=.seq items nl,slots:=k }:=Iu _ J;have e6:=PySem.F.sub_list_set;have e7:=PySem.F.sub_list_frozenset;have g4:(Iv.type "list" == Iv.type "dict")=false:=by decide
      have O:(s.heap.push (eW #[] 0 (.fresh 0 0 led))).IsList l items:=⟨_,N,rfl,nl,rfl⟩;unfold KL.«set.__init__» noKeywords Nq;generalize a8:pyIter=PI
      wp_walk
      subst a8;refine KY O ?_;refine Ir (wpAny_runValue ?_);have T:l<s.heap.objs.size:=II J;have a9:A.in1.in1.in1.handled=none:=by simp[hh]
      have U:l≠(s.heap.push (eW #[] 0 (.fresh 0 0 led))).objs.size:=by
       rw[JH];exact IL (Ko T)
      have b0:s.heap.objs.size∉[(s.heap.push (eW #[] 0 (.fresh 0 0 led))).objs.size,l]:=by
       rw[JH];simp only[IH,IK,JO,or_false,not_or];exact⟨IL (JX _),KS T⟩
      have Y:∀(i:Nat)(v:Iv),items[i]?=some v->v=((d.zip items.toList).getD i ([],.none)).2:=λi v hv=>by
       obtain⟨b1,e⟩:=Lc.mp hv;have h3:i<(d.zip items.toList).length:=by rw[u,<-j];exact b1
       rw[IW,IM h3];simp[e]
      have a0:∀p∈d.zip items.toList,∀c,p.2=.ref c->c<s.heap.objs.size:=λp y c e=>by
       obtain⟨b,o,h0,n,e2,g,_⟩:=G p y;rw[e]at e2;cases e2;exact II g
      have WW:=(QV.list (prog:=prog) (w:=w) a9 (s.heap.push (eW #[] 0 (.fresh 0 0 led))).objs.size l U items).toS;rw[j,<-u]at WW;refine Dl (led:=led) (by simp only[OU];omega) (λp y=>hn _ (Ny y).1) (by rw[u];exact C) WW s.heap.objs.size
       b0 Y (λp y c e=>by simp only[IK];rw[JH];exact IL (Ko (a0 p y c e))) ((d.zip items.toList).length - 0) 0 _ #[] 0 (.fresh 0 0 led) (by omega) (Kl _)
       ⟨⟨_,IG _ rfl,rfl,rfl⟩,(O.push _)⟩ ⟨Iu _ hS,⟨[],⟨rfl,rfl,rfl,.nil,nofun,nofun,.nil,Kl _⟩,.refl _⟩,.inl ⟨rfl,Kl _⟩,nofun,.nil,rfl,rfl⟩
       (λp y=>uO (G p y) λc o _ g=>Iu _ (Iu _ g)) ?hR
      case hR=>
       intro s' b2 b3 t' hm z;obtain⟨h',g',d',b5,c0⟩:=s';have eg:g'=s.gens:=hm.gens;have ed:d'=s.drawn:=hm.drawn;have eo:c0=s.os:=hm.os;subst eg;subst ed;subst eo;show wpAny _ _ _ _ _ _;refine Iy ?_;show wpAny _ _ (PySem.ret Km) _ _ _;refine Iy ⟨rfl,h',b5,b2,b3,t',rfl,z,λb o hb e=>?_⟩;have c1:b≠s.heap.objs.size:=IL hb;have c2:b≠(s.heap.push (eW #[] 0 (.fresh 0 0 led))).objs.size:=by
        rw[JH];exact IL (Ko hb)
       exact hm.heap b o (by simp only[IH,IK,JO,or_false,not_or];exact⟨c1,c2⟩) (Iu _ (Iu _ e))
     .cases I with
      | error e=>exact a
      | ok B=>
        cases B with
        | ret r=>
          obtain⟨rfl,h',tk,es,ep,t,rfl,z,c3⟩:=a;repeat (any_goals (first | assumption | wp_step))
          exact h _ _ _ _ _ z c3
        | _=>exact a.elim
   | _=>exact hr.elim
end
theorem Dp(l:List (List Int×Iv)):(setTL l).map (·.1)=hZ (l.map (·.1)):=by
 have b:∀(l T:List (List Int×Iv)),(l.foldl fN T).map (·.1)=(l.map (·.1)).foldl je (T.map (·.1)):=by
  intro l;induction l with
  | nil=>intro T;rfl
  | cons a r ih=>
    intro T;rw[LK,ih,Jb,LK];congr 1;unfold fN je;by_cases h:a.1∈T.map (·.1)
    .rw[if_pos h,if_pos h]
    .rw[if_neg h,if_neg h];simp
 exact b l []
theorem Dq:∀{b:List (List Int)}{a:List Iv},b.length=a.length->(b.zip a).map (·.1)=b:=λh=>List.map_fst_zip (by omega)
section
variable{X:Cx}{cm:Nat->Addr}
theorem Dr{e:Expr}{d:ED}{p1 G q1 J:Pos}(m:X.calm=true)(hu:X.A.units+64<cLine)(he:Pe X cm e d)(L:Gl X "len")(N:X.mg "len" = none)(O:Gl X "set")(T:X.mg "set" = none)
 (p:starEach [e] X.env=(false,eval e X.env)::starEach [] X.env:=by exact E9 rfl)
 (r:starEach [.Call (.Name "set" G) [e] [] J] X.env=(false,eval (.Call (.Name "set" G) [e] [] J) X.env)::starEach [] X.env:=by rfl) :
 Pe X cm (.Call (.Name "len" p1) [.Call (.Name "set" G) [e] [] J] [] q1) (y0 d):=by
 intro w s σ H Q I h;obtain⟨ρ,A,U,v,A',rl,rs,ev,k⟩:=h;obtain⟨x,A1,e1,y⟩:=B0 ev;refine QT (V4 I L N Qa (callWith_builtin1 (jU r ?_) r rfl));refine QT (V4 I O T (show bootBuiltins "set" = some (.type "set")from by rfl) (callWith_type1 (jU p ?_) p rfl));refine aL (he w s σ H (λv o=>∃(a:Addr)(z:List V)(g:List (List Int)),v=.ref a/\bu X.K o a z/\Paired (fm o) z g/\g.length<64/\(∀t∈g,t∈prs)/\Q (.int (hZ g).length) o) I ⟨ρ,A,U,x,A1,rl,rs,e1,λY o v1 x1 B a0=>?_⟩)
  λu s1 ⟨w1,o,E,r1,a,z,g,ew,hq,C,a9,a1,q⟩=>?_
 .cases x with
  | ref n=>
    obtain⟨l,A2,e2,j⟩:=B0 y;obtain⟨rfl,hA,a,z,rfl,hn,hH,r0⟩:=N5 B a0 e2;cases hi:T3 l with
    | none=>rw[hi]at j;cases j
    | some g=>
      rw[hi]at j;obtain⟨c,a4⟩:=C5 j;cases a4;obtain⟨rfl,a5⟩:=s8 hi;exact⟨a,z,g,rfl,bu.of hH,oz r0 a5,c.1,c.2,k Y o _ x1 B (.int _)⟩
  | _=>cases y
 .subst ew;obtain rfl:u=IS a:=r1;obtain⟨a6,ri,pl,hz⟩:=E.list hq;have hl:g.length=a6.length:=by rw[<-C.length];exact ri.length
  refine Dm (by omega) a1 (by omega) (E.ok.hd m) pl.isList (by simpa using lz E ri C) λh' tk es ep t hS D=>?_;simp only[List.toList_toArray]at hS;obtain⟨Z,TB,i⟩:=id hS.tab;have hn:es.size=(hZ g).length:=by
   rw[TB.size,pG (t:=t) (es:=es) i,<-Iz (f:=(·.1)),Dp,Dq hl]
  have hd:(hZ g).length<64:=by
   rw[<-hn,TB.size,pG (t:=t) (es:=es) i];exact NT uN (by rw[List.length_zip];omega)
  refine call_len_set (s:={ s1 with heap:=h',toks:=tk }) hS.obj ⟨rfl,rfl,rfl⟩ rfl TB.fits (by omega) ?_;rw[hn];exact⟨.int (hZ g).length,o,E.kept (h':=h') (t':=tk+1+1) (λb ob e=>D b ob (II e) e),⟨_,rfl⟩,q⟩
end
end Ws
namespace Ws
abbrev XP:=Nat->PV->PHp->Prop
def Wp{d:Type}(m:M d)(A:PHp)(Q:d->PHp->Prop)(E:XP):Prop:=match m A with
 | .ok a b=>Q a b
 | .ex c v b=>E c v b
 | .no=>False
abbrev NoX:XP:=λ_ _ _=>False
section
variable{α β:Type}{m:M α}{f:α->M β}{A A' A1 B:PHp}{a:α}{E E':XP}{σ σ':PSt}
theorem w_eq{Q:α->PHp->Prop}(h:m A=.ok a A')(q:Q a A'):Wp m A Q E:=by unfold Wp;rw[h];exact q
theorem kd{Q:α->PHp->Prop}(h:Wp m A Q NoX):∃a A',m A=.ok a A'/\Q a A':=by
 unfold Wp at h;cases e:m A with
 | ok a A'=>rw[e]at h;exact⟨a,A',rfl,h⟩
 | _=>rw[e]at h;exact h.elim
theorem bJ{Q b:α->PHp->Prop}(h:Wp m A Q E)(d:∀a A',Q a A'->b a A')(he:∀c v A',E c v A'->E' c v A'):Wp m A b E':=by
 unfold Wp at h ⊢;cases e:m A with
 | ok a A'=>simp_all
 | ex c v A'=>simp_all
 | no=>simp_all
theorem ae{Q b:α->PHp->Prop}(h:Wp m A Q E)(c:∀a A',Q a A'->b a A'):Wp m A b E:=bJ h c λ_ _ _ z=>z
theorem uQ{Q b:α->PHp->Prop}(h:Wp m A Q NoX)(c:∀a A',Q a A'->b a A'):Wp m A b E:=bJ h c λ_ _ _ z=>z.elim
theorem jv{Q:α->PHp->Prop}(q:Q a A):Wp (ret a) A Q E:=q
theorem B9{Q:β->PHp->Prop}(h:Wp m A (λa A1=>Wp (f a) A1 Q E) E):Wp (av m f) A Q E:=by
 unfold Wp at h ⊢;unfold av;cases e:m A with
 | _=>rw[e]at h;exact h
theorem C8{P:Prop}{Q:α->PHp->Prop}(p:P)(h:Wp m A Q E):Wp (E3 P m) A Q E:=by rw[L7 p];exact h
variable{Q:PV->PHp->Prop}{e e1 e2 e3:ED}{es:AD}{v x y:PV}{i j:Int}{k n:Nat}{l:List PV}
theorem w_var(h:σ[k]?=some (some v))(q:Q v A):Wp (aa k σ) A Q E:=w_eq (by simp_all) q
theorem Ds(q:Q v A):Wp (eK v σ) A Q E:=q
theorem uR{Q:List PV->PHp->Prop}(q:Q [] A):Wp (aNil σ) A Q E:=q
theorem uS{Q:List PV->PHp->Prop}(h:Wp (e σ) A (λx A1=>Wp (es σ) A1 (λb c=>Q (x::b) c) E) E):Wp (ai e es σ) A Q E:=
 B9 (ae h λ_ _ d=>B9 (ae d λ_ _ g=>g))
theorem Dt(h:Wp (es σ) A (λb A1=>b.length<=LIM/\Q (.tup b) A1) E):Wp (c7 es σ) A Q E:=B9 (ae h λ_ _ ⟨c,d⟩=>C8 c d)
theorem Du(h:Wp (es σ) A (λb A1=>b.length<=LIM/\Q (.ref A1.length) (A1++[.lst b])) E):Wp (X9 es σ) A Q E:=B9 (ae h λ_ _ ⟨c,d⟩=>C8 c d)
theorem lW{f:OD}(h:Wp (e1 σ) A (λx A1=>Wp (e2 σ) A1 (λy b=>Wp (f x y) b Q E) E) E):Wp (C3 f e1 e2 σ) A Q E:=B9 (ae h λ_ _ c=>B9 c)
theorem Dv(q:Q (.int (i+j)) A):Wp (U7 (.int i) (.int j)) A Q E:=q
theorem iL{l m:List PV}(h:l≠[]/\l.length+m.length<=LIM)(q:Q (.tup (l++m)) A):Wp (U7 (.tup l) (.tup m)) A Q E:=C8 h q
theorem iM{Q:List PV->PHp->Prop}(h:A[n]?=some (.lst l))(q:Q l A):Wp (S8 n) A Q E:=w_eq (se h) q
theorem pH{n k:Nat}{l m:List PV}(b:A[n]?=some (.lst l))(c:A[k]?=some (.lst m))(d:l.length+m.length<=LIM)(q:Q (.ref A.length) (A++[.lst (l++m)])):Wp (U7 (.ref n) (.ref k)) A Q E:=
 B9 (iM b (B9 (iM c (C8 d q))))
theorem Dw(q:Q (.int (i - j)) A):Wp (kM (.int i) (.int j)) A Q E:=q
theorem w_mul(h:(-(2 ^ 64)<i/\i<2 ^ 64)\/(-(2 ^ 64)<j/\j<2 ^ 64))(q:Q (.int (i*j)) A):Wp (fJ (.int i) (.int j)) A Q E:=C8 h q
theorem w_mod(h:0<j)(q:Q (.int (i%j)) A):Wp (f8 (.int i) (.int j)) A Q E:=C8 h q
theorem iN(h:0<j/\j<1073741824)(q:Q (.int (i / j)) A):Wp (v8 (.int i) (.int j)) A Q E:=C8 h q
theorem w_lt(q:Q (.bl (decide (i<j))) A):Wp (fK (.int i) (.int j)) A Q E:=q
theorem Dx(q:Q (.bl (decide (j<i))) A):Wp (jD (.int i) (.int j)) A Q E:=q
theorem Dy(q:Q (.bl (decide (i=j))) A):Wp (cO (.int i) (.int j)) A Q E:=B9 (C8 (.inr ⟨rfl,rfl⟩) q)
theorem uT(q:Q (.bl (!decide (i=j))) A):Wp (dH (.int i) (.int j)) A Q E:=B9 (C8 (.inr ⟨rfl,rfl⟩) q)
theorem uU{l m:List PV}(h:plain (.tup l)=true/\plain (.tup m)=true)(q:Q (.bl (eqvs l m)) A):Wp (cO (.tup l) (.tup m)) A Q E:=B9 (C8 (.inr h) q)
theorem Dz{l m:List PV}(h:plain (.tup l)=true/\plain (.tup m)=true)(q:Q (.bl (!eqvs l m)) A):Wp (dH (.tup l) (.tup m)) A Q E:=B9 (C8 (.inr h) q)
theorem DA(b:plain x=true)(c:plain y=true)(q:Q (.bl (bC x y)) A):Wp (cO x y) A Q E:=by
 cases x with
 | ref n=>cases b
 | _=>exact B9 (C8 (.inr ⟨b,c⟩) q)
theorem DB(b:plain x=true)(c:plain y=true)(q:Q (.bl (!bC x y)) A):Wp (dH x y) A Q E:=by
 cases x with
 | ref n=>cases b
 | _=>exact B9 (C8 (.inr ⟨b,c⟩) q)
theorem Q4{Q:List PV->PHp->Prop}(h:A[n]?=some (.lst l))(q:Q l A):Wp (G2 n) A Q E:=w_eq (J3 h) q
theorem uV{Q:List PV->PHp->Prop}(h:A[n]?=some (.ro l))(q:Q l A):Wp (G2 n) A Q E:=w_eq (by simp_all) q
theorem fZ{n k:Nat}{l m:List PV}(b:A[n]?=some (.lst l))(c:A[k]?=some (.lst m))(d:H9 l=true/\H9 m=true)(q:Q (.bl (eqvs l m)) A):Wp (cO (.ref n) (.ref k)) A Q E:=
 B9 (B9 (Q4 b (B9 (Q4 c (C8 d q)))))
theorem il{n k:Nat}{l m:List PV}(b:A[n]?=some (.lst l))(c:A[k]?=some (.lst m))(d:H9 l=true/\H9 m=true)(q:Q (.bl (!eqvs l m)) A):Wp (dH (.ref n) (.ref k)) A Q E:=
 B9 (B9 (Q4 b (B9 (Q4 c (C8 d q)))))
theorem uW(b:A[n]?=some (.lst l))(c:plain x=true/\H9 l=true)(q:Q (.bl (eE x l)) A):Wp (eF x (.ref n)) A Q E:=B9 (Q4 b (C8 c q))
theorem DC(b:plain x=true/\H9 l=true)(q:Q (.bl (eE x l)) A):Wp (eF x (.tup l)) A Q E:=B9 (jv (C8 b q))
theorem uX(b:A[n]?=some (.lst l))(c:plain x=true/\H9 l=true)(q:Q (.bl (!eE x l)) A):Wp (R3 x (.ref n)) A Q E:=B9 (Q4 b (C8 c q))
theorem DD(b:plain x=true/\H9 l=true)(q:Q (.bl (!eE x l)) A):Wp (R3 x (.tup l)) A Q E:=B9 (jv (C8 b q))
theorem DE(h:Wp (e σ) A (λx A1=>Q (.bl (kO x)) A1) E):Wp (mV e σ) A Q E:=B9 h
variable{QB:Bool->PHp->Prop}{t t1 t2:TD}{b:Bool}
theorem DF(q:QB true A):Wp (S9 σ) A QB E:=q
theorem uY(h:Wp (e σ) A (λx A1=>∃b,x=.bl b/\QB b A1) E):Wp (D3 e σ) A QB E:=B9 (ae h λx A1 ⟨b,c,q⟩=>by subst c;exact q)
theorem DG(h:Wp (t1 σ) A (λb A1=>(b=true->Wp (t2 σ) A1 QB E)/\(b=false->QB false A1)) E):Wp (tAnd t1 t2 σ) A QB E:=B9 (ae h λb A1 c=>by
 obtain⟨d,g⟩:=c;cases b with
 | true=>exact d rfl
 | false=>exact g rfl)
theorem DH(h:Wp (t1 σ) A (λb A1=>(b=true->QB true A1)/\(b=false->Wp (t2 σ) A1 QB E)) E):Wp (tOr t1 t2 σ) A QB E:=B9 (ae h λb A1 c=>by
 obtain⟨d,g⟩:=c;cases b with
 | true=>exact d rfl
 | false=>exact g rfl)
theorem DI(h:Wp (t σ) A (λb A1=>QB (!b) A1) E):Wp (tNot t σ) A QB E:=B9 h
theorem DJ(h:Wp (e1 σ) A (λx A1=>∃b,x=.bl b/\((b=true->Wp (e2 σ) A1 Q E)/\(b=false->Q (.bl false) A1))) E):Wp (fc e1 e2 σ) A Q E:=B9 (B9 (ae h λx A1 c=>by
 obtain⟨b,d,g,o⟩:=c;subst d;cases b with
 | true=>exact g rfl
 | false=>exact o rfl))
theorem DK(h:Wp (e1 σ) A (λx A1=>∃b,x=.bl b/\((b=true->Q (.bl true) A1)/\(b=false->Wp (e2 σ) A1 Q E))) E):Wp (mW e1 e2 σ) A Q E:=B9 (B9 (ae h λx A1 c=>by
 obtain⟨b,d,g,o⟩:=c;subst d;cases b with
 | true=>exact g rfl
 | false=>exact o rfl))
theorem DL(h:Wp (t σ) A (λb A1=>(b=true->Wp (e1 σ) A1 Q E)/\(b=false->Wp (e2 σ) A1 Q E)) E):Wp (mX t e1 e2 σ) A Q E:=B9 (ae h λb A1 c=>by
 obtain⟨d,g⟩:=c;cases b with
 | true=>exact d rfl
 | false=>exact g rfl)
theorem kf(c:A[n]?=some (.lst l))(d:atI l i=some v)(q:Q v A):Wp (bh (.ref n) (.int i)) A Q E:=B9 (Q4 c (by rw[d];exact q))
theorem kh(c:A[n]?=some (.ro l))(d:atI l i=some v)(q:Q v A):Wp (bh (.ref n) (.int i)) A Q E:=B9 (uV c (by rw[d];exact q))
theorem dZ(c:atI l i=some v)(q:Q v A):Wp (bh (.tup l) (.int i)) A Q E:=by
 refine w_eq ?_ q;simp[c]
theorem DM(h:Wp (e σ) A (λx A1=>Wp (O4 x) A1 (λl c=>Q (.int l.length) c) E) E):Wp (v9 e σ) A Q E:=B9 (ae h λ_ _ d=>B9 d)
theorem eN{Q:List PV->PHp->Prop}(h:A[n]?=some (.lst l))(q:Q l A):Wp (O4 (.ref n)) A Q E:=Q4 h q
theorem iO{Q:List PV->PHp->Prop}(h:A[n]?=some (.ro l))(q:Q l A):Wp (O4 (.ref n)) A Q E:=uV h q
theorem iP{Q:List PV->PHp->Prop}(q:Q l A):Wp (O4 (.tup l)) A Q E:=q
theorem ee(h:Wp (e σ) A (λx A1=>Wp (O4 x) A1 (λl c=>Q (.ref c.length) (c++[.lst l])) E) E):Wp (w4 e σ) A Q E:=B9 (ae h λ_ _ d=>B9 d)
theorem DN(h:Wp (e σ) A (λx A1=>∃n l,x=.ref n/\A1[n]?=some (.lst l)/\l.length<=LIM/\Q (.tup l) A1) E):Wp (w9 e σ) A Q E:=B9 (ae h λx A1 c=>by
 obtain⟨n,l,d,g,o,q⟩:=c;subst d;exact B9 (Q4 g (C8 o q)))
variable{QO:Option Int->PHp->Prop}{lo hi:LD}
theorem DO(q:QO none A):Wp (hU σ) A QO E:=q
theorem DP(h:Wp (e σ) A (λx A1=>∃i,x=.int i/\QO (some i) A1) E):Wp (gs e σ) A QO E:=B9 (ae h λx A1 ⟨i,c,q⟩=>by subst c;exact q)
theorem DQ(h:Wp (e σ) A (λx A1=>Wp (lo σ) A1 (λl o=>Wp (hi σ) o (λh d=>(∃n c,x=.ref n/\G2 n d=.ok c d/\Q (.ref d.length) (d++[.lst (cut c l h)]))\/
 ∃c,x=.tup c/\¬(U8 c.length 0 l=0/\U8 c.length c.length h=c.length)/\Q (.tup (cut c l h)) d) E) E) E):Wp (gG e lo hi σ) A Q E:=
 B9 (ae h λ_ _ p=>B9 (ae p λ_ _ r=>B9 (ae r λ_ _ s=>by
  rcases s with⟨n,c,rfl,g,q⟩ | ⟨c,rfl,g,q⟩
  .exact B9 (w_eq g q)
  .exact C8 g q)))
theorem pI:∀bs:List Bool,i6 (bs.map PV.bl)=some bs
 | []=>rfl
 | b::r=>by show(i6 _).map _=_;rw[pI r];rfl
theorem DR(h:Wp (e σ) A (λx A1=>∃(n:Nat)(bs:List Bool),x=.ref n/\A1[n]?=some (.lst (bs.map PV.bl))/\Q (.bl (bs.all id)) A1) E):Wp (hY e σ) A Q E:=B9 (ae h λx A1 c=>by
 obtain⟨n,bs,d,g,q⟩:=c;subst d;refine B9 (Q4 g ?_);rw[pI];exact q)
theorem DS(h:Wp (e σ) A (λx A1=>Wp (O4 x) A1 (λl A2=>∃ns,l=ns.map PV.int/\ns.length<1000/\Q (.int (gu ns)) A2) E) E):Wp (ny e σ) A Q E:=B9 (ae h λx A1 c=>B9 (ae c λl A2 d=>by
 obtain⟨ns,g,o,q⟩:=d;subst g;rw[W6];exact C8 o q))
theorem uZ{e1 e2:ED}(h:Wp (e1 σ) A (λx A1=>∃n l,x=.ref n/\A1[n]?=some (.lst l)/\Wp (e2 σ) A1 (λv c=>∃l2,c[n]?=some (.lst l2)/\l2.length<LIM/\Q .non (c.set n (.lst (l2++[v])))) E) E):Wp (m9 e1 e2 σ) A Q E:=
 B9 (ae h λx A1 d=>by
  obtain⟨n,l,g,o,p⟩:=d;subst g;exact B9 (iM o (B9 (ae p λv c ⟨l2,r,s,q⟩=>B9 (iM r (C8 s q))))))
theorem DU(h:Wp (e σ) A (λx A1=>∃n c fs v,x=.ref n/\A1[n]?=some (.ins c fs)/\i4 k fs=some v/\Q v A1) E):Wp (K8 e k σ) A Q E:=
 B9 (ae h λx A1 d=>by
  obtain⟨n,c,fs,v,g,p,o,q⟩:=d;subst g;refine B9 (w_eq (a:=(c,fs)) (A':=A1) (by simp_all) ?_);rw[o];exact q)
theorem DV{f:Fun}(h:Wp (es σ) A (λc A1=>Wp (f c) A1 Q E) E):Wp (G3 f es σ) A Q E:=B9 h
theorem DW{c:Nat}{f:Fun}(h:Wp (e σ) A (λx A1=>∃n fs,x=.ref n/\A1[n]?=some (.ins c fs)/\Wp (es σ) A1 (λd g=>Wp (f (.ref n::d)) g Q E) E) E):Wp (O2 c f e es σ) A Q E:=
 B9 (ae h λx A1 o=>by
  obtain⟨n,fs,p,r,q⟩:=o;subst p;exact B9 (w_eq (a:=(c,fs)) (by simp_all) (C8 rfl (B9 q))))
theorem DX{c:Nat}{f:Fun}(h:Wp (es σ) A (λd A1=>Wp (f (.ref A1.length::d)) (A1++[.ins c []]) (λ_ g=>Q (.ref A1.length) g) E) E):Wp (iE c f es σ) A Q E:=
 B9 (ae h λd A1 o=>B9 (w_eq rfl (B9 o)))
variable{QF:Fl->PHp->Prop}{s s1 s2:SD}{g:GD}{QS:PSt->PHp->Prop}
theorem X4(q:QF (.nx σ) A):Wp (sPass σ) A QF E:=q
theorem cR(h:Wp (s1 σ) A (λo A1=>match o with | .nx σ'=>Wp (s2 σ') A1 QF E | o=>QF o A1) E):Wp (C9 s1 s2 σ) A QF E:=B9 (ae h λo A1 c=>by
 cases o with
 | nx σ'=>omega
 | _=>exact c)
theorem pJ(h:Wp (e σ) A (λ_ A1=>QF (.nx σ) A1) E):Wp (Q7 e σ) A QF E:=B9 h
theorem dJ(h:Wp (e σ) A (λv A1=>QF (.rt v) A1) E):Wp (I9 e σ) A QF E:=B9 h
theorem vb(h:Wp (t σ) A (λb A1=>(b=true->Wp (s1 σ) A1 QF E)/\(b=false->Wp (s2 σ) A1 QF E)) E):Wp (bN t s1 s2 σ) A QF E:=B9 (ae h λb A1 c=>by
 obtain⟨d,o⟩:=c;cases b with
 | true=>exact d rfl
 | false=>exact o rfl)
theorem ef(h:Wp (e σ) A (λv A1=>Wp (g v σ) A1 (λσ' c=>QF (.nx σ') c) E) E):Wp (K0 e g σ) A QF E:=B9 (ae h λ_ _ d=>B9 d)
theorem ki(q:QS (σ.set k (some v)) A):Wp (gName k v σ) A QS E:=q
theorem DY(q:QS σ A):Wp (gNil [] σ) A QS E:=q
theorem DZ{r:GDs}{vs:List PV}(h:Wp (g v σ) A (λσ' A1=>Wp (r vs σ') A1 QS E) E):Wp (gCons g r (v::vs) σ) A QS E:=B9 h
theorem iQ{r:GDs}(c:l.length=n)(h:Wp (r l σ) A QS E):Wp (gTup n r (.tup l) σ) A QS E:=C8 c h
theorem D1(h:Wp (e2 σ) A (λv A1=>Wp (e1 σ) A1 (λx A2=>∃n c fs,x=.ref n/\A2[n]?=some (.ins c fs)/\fs.length<900/\QF (.nx σ) (A2.set n (.ins c (putFld k v fs)))) E) E):Wp (sFld e1 k e2 σ) A QF E:=
 B9 (ae h λv A1 d=>B9 (ae d λx A2 o=>by
  obtain⟨n,c,fs,p,u,r,q⟩:=o;subst p;exact B9 (w_eq (a:=(c,fs)) (by simp_all) (C8 r q))))
theorem Ea{n p:Nat}{vs:List PV}(d:vs.length=p)(h:Wp (s (start n vs)) A (λo A1=>match o with | .rt v=>Q v A1 | .nx _=>Q .non A1 | _=>False) E):Wp (fn n p s vs) A Q E:=
 C8 d (B9 (ae h λo A1 c=>by
  cases o with
  | rt v=>exact c
  | nx σ'=>exact c
  | bk σ'=>simp_all
  | ct σ'=>exact c.elim))
abbrev jw(P:PSt->PHp->Prop)(QF:Fl->PHp->Prop):Fl->PHp->Prop:=λo A=>match o with
 | .nx σ=>P σ A
 | .ct σ=>P σ A
 | .bk σ=>QF (.nx σ) A
 | .rt v=>QF (.rt v) A
theorem lX{J:It}{n:Nat}(P:Nat->PSt->PHp->Prop)(c:∀σ A,P n σ A->item J n A=.ok none A/\QF (.nx σ) A)
 (hs:∀i σ A,i<n->P i σ A->∃v,item J i A=.ok (some v) A/\Wp (g v σ) A (λq A1=>Wp (s q) A1 (jw (P (i+1)) QF) E) E) :
 ∀k i σ A,i+k=n->P i σ A->∀m,k<m->Wp (turns J g s m i σ) A QF E
 | _,_,_,_,_,_,0,r=>absurd r (MA _)
 | 0,i,σ,A,e,h,m+1,r=>by
   obtain rfl:i=n:=by omega
   obtain⟨u,p⟩:=c σ A h;rw[T4];exact B9 (w_eq u p)
 | k+1,i,σ,A,e,h,m+1,r=>by
   obtain⟨v,z,t⟩:=hs i σ A (by omega) h;rw[T4];refine B9 (w_eq z ?_);refine B9 (ae t λq A1 u=>B9 (ae u λo w p=>?_));cases o with
   | nx d=>exact lX P c hs k _ d w (by omega) p m (by omega)
   | ct d=>exact lX P c hs k _ d w (by omega) p m (by omega)
   | bk d=>exact p
   | rt v=>exact p
theorem pK{o:ID}(P:Nat->PSt->PHp->Prop)(h:Wp (o σ) A (λJ A1=>∃lo n,J=.rng lo n/\P 0 σ A1/\(∀(i:Nat) σ B,i<n->P i σ B->Wp (g (.int (lo+i)) σ) B (λc p=>Wp (s c) p (jw (P (i+1)) QF) E) E)/\∀σ B,P n σ B->QF (.nx σ) B) E) :
 Wp (w5 o g s σ) A QF E:=B9 (ae h λJ A1 q=>by
 obtain⟨lo,n,r,u,hs,he⟩:=q;subst r;exact B9 (jv (lX P (λσ B d=>⟨by simp,he σ B d⟩) (λi σ B hi d=>⟨_,by simp[hi],hs i σ B hi d⟩) n 0 σ A1 (by simp) u _ (JX _))))
theorem kj{p:ID}(P:Nat->PSt->PHp->Prop)(h:Wp (p σ) A (λJ A1=>∃a l,J=.lst a/\P 0 σ A1/\(∀i σ B,P i σ B->G2 a B=.ok l B)/\(∀(i:Nat) v σ B,l[i]?=some v->P i σ B->Wp (g v σ) B (λd r=>Wp (s d) r (jw (P (i+1)) QF) E) E)/\∀σ B,P l.length σ B->QF (.nx σ) B) E) :
 Wp (w5 p g s σ) A QF E:=B9 (ae h λJ A1 u=>by
 obtain⟨a,l,w,q,o,hs,he⟩:=u;subst w;refine B9 (B9 (w_eq (o 0 σ A1 q) (jv ?_)));refine lX P (λσ B c=>⟨by show av _ _ B=_;rw[aA (o _ σ B c)];simp,he σ B c⟩) (λi σ B hi c=>?_) _ 0 σ A1 (by simp) q _ (JX _);exact⟨l[i],by show av _ _ B=_;rw[aA (o _ σ B c),IM hi];rfl,hs i l[i] σ B (IM hi) c⟩)
theorem pL(P:Nat->PSt->PHp->Prop)(hs:∀m σ A,P m σ A->Wp (t σ) A (λb A1=>(b=true->Wp (s σ) A1 (jw (λσ' A'=>∃d,d<m/\P d σ' A') QF) E)/\(b=false->QF (.nx σ) A1)) E) :
 ∀f m σ A,m<f->P m σ A->Wp (i5 t s f σ) A QF E
 | 0,m,σ,A,u,_=>absurd u (by simp)
 | f+1,m,σ,A,u,h=>by
   rw[rX];refine B9 (ae (hs m σ A h) λb A1 z=>?_);obtain⟨C,D⟩:=z;cases b with
   | false=>exact D rfl
   | true=>
     refine B9 (ae (C rfl) λo w p=>?_);cases o with
     | nx c=>obtain⟨d,q,r⟩:=p;exact pL P hs f d c w (by omega) r
     | ct c=>obtain⟨d,q,r⟩:=p;exact pL P hs f d c w (by omega) r
     | bk c=>exact p
     | rt v=>exact p
theorem pM(P:Nat->PSt->PHp->Prop){m:Nat}(d:m<10000)(h:P m σ A)(hs:∀m σ A,P m σ A->Wp (t σ) A (λb A1=>(b=true->Wp (s σ) A1 (jw (λσ' A'=>∃c,c<m/\P c σ' A') QF) E)/\(b=false->QF (.nx σ) A1)) E) :
 Wp (jH t s σ) A QF E:=pL P hs LIM m σ A (c5 d) h
theorem pN{J:It}{g:GD}{t:TD}{e:ED}{l:List PV}{q:List PV->PHp->Prop}(P:Nat->List PV->PSt->PHp->Prop)(p:∀i d σ B,P i d σ B->item J i B=.ok l[i]? B)
 (hs:∀i v d σ B,l[i]?=some v->P i d σ B->Wp (g v σ) B (λo C=>Wp (t o) C (λc r=>(c=true->Wp (e o) r (λy u=>P (i+1) (d++[y]) o u) E)/\(c=false->P (i+1) d o r)) E) E)
 (he:∀d σ B,P l.length d σ B->q d B):∀k i d σ B,i<=l.length->l.length<i+k->P i d σ B->Wp (c8 J g t e k i σ) B (λw G=>q (d++w) G) E
 | 0,i,d,σ,B,H,D,_=>absurd D (by omega)
 | k+1,i,d,σ,B,H,D,h=>by
   rw[Y1];refine B9 (w_eq (p i d σ B h) ?_);cases z:l[i]? with
   | none=>
     have:l.length=i:=by have:=JQ.mp z;omega
     subst this;show q _ B;rw[Kh];exact he d σ B h
   | some v=>
     have hi:=(IQ.mp z).1;refine B9 (ae (hs i v d σ B z h) λo C I=>B9 (ae I λc r L=>?_));obtain⟨N,O⟩:=L;cases c with
     | true=>
       refine B9 (ae (N rfl) λy u T=>B9 (ae (pN P p hs he k _ _ o u hi (by omega) T) λw U Y=>?_));show q _ U;rw[show d++_=d++[y]++w by simp];exact Y
     | false=>exact pN P p hs he k _ d o r hi (by omega) (O rfl)
theorem pO{r:ID}{mk:PSt->PSt}{g:GD}{t:TD}{e:ED}(h:Wp (r σ) A (λJ A1=>∃(l:List PV)(n:Nat)(P:Nat->List PV->PSt->PHp->Prop),q9 J A1=.ok n A1/\l.length<=n/\P 0 [] (mk σ) A1/\(∀i d σ B,P i d σ B->item J i B=.ok l[i]? B)/\
 (∀i v d σ B,l[i]?=some v->P i d σ B->Wp (g v σ) B (λo w=>Wp (t o) w (λc u=>(c=true->Wp (e o) u (λy z=>P (i+1) (d++[y]) o z) E)/\(c=false->P (i+1) d o u)) E) E)/\
 ∀d σ B,P l.length d σ B->d.length<=LIM/\Q (.ref B.length) (B++[.lst d])) E):Wp (L5 r mk g t e σ) A Q E:=
 B9 (ae h λJ A1 ⟨l,n,P,C,N,D,p,G,H⟩=>B9 (w_eq C (B9 (ae (pN P p G H _ 0 [] _ A1 (Kl _) (by omega) D) λO B q=>by
  obtain⟨I,L⟩:=q;exact C8 I L))))
theorem U6{D:ID}{mk:PSt->PSt}{g:GD}{t:TD}{e:ED}{l:List PV}(S:PSt->Prop)(p:PV->Bool)(f:PV->PV)(h:Wp (D σ) A (λJ A1=>∃n,q9 J A1=.ok n A1/\l.length<=n/\l.length<=LIM/\S (mk σ)/\(∀i,item J i A1=.ok l[i]? A1)/\
 (∀v σ,v∈l->S σ->Wp (g v σ) A1 (λd G=>G=A1/\S d/\Wp (t d) A1 (λc H=>H=A1/\c=p v/\(c=true->Wp (e d) A1 (λy I=>I=A1/\y=f v) E)) E) E)/\
 Q (.ref A1.length) (A1++[.lst ((l.filter p).map f)])) E):Wp (L5 D mk g t e σ) A Q E:=
 pO (ae h λJ A1 ⟨n,O,T,U,Y,u,hs,he⟩=>⟨l,n,λi o σ B=>B=A1/\S σ/\o=((l.take i).filter p).map f,O,T,⟨rfl,Y,by simp⟩,λi o σ B ⟨q,_⟩=>by rw[q];exact u i,λi v o σ B L w=>by
  obtain⟨q,h2,r⟩:=w;subst q;refine ae (hs v σ (Jn L) h2) λd G z=>?_;obtain⟨e1,N,h5⟩:=z;subst e1;refine ae h5 λc H z=>?_;obtain⟨e2,h6,h7⟩:=z;subst e2;have tk:l.take (i+1)=l.take i++[v]:=by rw[KC,L];rfl
  refine⟨λC=>ae (h7 C) λy I ⟨e3,h8⟩=>⟨e3,N,?_⟩,λC=>⟨rfl,N,?_⟩⟩
  .simp_all
  .rw[tk,LH,r,Mq (by rw[<-h6,C];simp)];simp,λo σ B w=>by
  obtain⟨q,_,r⟩:=w;subst q;rw[LA (IC _)]at r;subst r;exact⟨by rw[Iz];exact Jd (JE _ _) U,he⟩⟩)
theorem P7{n:Nat}{l:List PV}(h:A[n]?=some (.lst l)):q9 (.lst n) A=.ok l.length A:=by simp_all
theorem P8{n:Nat}{l:List PV}(h:A[n]?=some (.lst l))(i:Nat):item (.lst n) i A=.ok l[i]? A:=by simp_all
theorem pP(n i:Nat):item (.rng 0 n) i A=.ok ((Jj n).map λ(k:Nat)=>PV.int (k:Int))[i]? A:=by
 by_cases hi:i<n<;>simp[hi]
noncomputable def g7:List PV->List PV->List PV
 | x::c,y::d=>.tup [x,y]::g7 c d
 | _,_=>[]
theorem pQ:∀(l m:List PV)(i:Nat),(match l[i]?,m[i]? with | some u,some v=>some (.tup [u,v]) | _,_=>none)=(g7 l m)[i]?
 | [],m,i=>by simp[g7]
 | x::c,[],i=>by cases h:(x::c)[i]?<;>simp[g7]
 | x::c,y::d,0=>by simp[g7]
 | x::c,y::d,i+1=>by simpa[g7]using pQ c d i
theorem vc:∀(l m:List PV),(g7 l m).length<=l.length
 | [],m=>by simp[g7]
 | x::c,[]=>by simp[g7]
 | x::c,y::d=>by simpa[g7]using vc c d
theorem Eb(l m:List PV)(i:Nat):item (.zip (.tup l) (.tup m)) i A=.ok (g7 l m)[i]? A:=by
 rw[<-pQ];rfl
theorem Ec{n k:Nat}{l m:List PV}(c:A[n]?=some (.lst l))(d:A[k]?=some (.lst m))(i:Nat):item (.zip (.ref n) (.ref k)) i A=.ok (g7 l m)[i]? A:=by
 rw[<-pQ];show av (G2 n) _ A=_;rw[aA (J3 c)];show av (G2 k) _ A=_;rw[aA (J3 d)];rfl
theorem Ed{α:Type}{c:List α}{j:Nat}(h:j<c.length):atI c (j:Int)=some c[j]:=by
 unfold atI ixN;simp[h]
end
noncomputable def pv(p:Int×Int):PV:=.tup [.int p.1,.int p.2]
noncomputable def aJ(ps:List (Int×Int)):List PV:=ps.map pv
theorem Ee(p:Int×Int):plain (pv p)=true:=rfl
theorem pR(ps:List (Int×Int)):H9 (aJ ps)=true:=by
 rw[d0];intro x a;obtain⟨p,_,rfl⟩:=IB.mp a;rfl
theorem Ef{p q:Int×Int}(h:pv p=pv q):p=q:=by
 obtain⟨a,b⟩:=p;simp[pv]at h;simp[h]
theorem pS(p:Int×Int)(ps:List (Int×Int)):eE (pv p) (aJ ps)=decide (p∈ps):=by
 induction ps with
 | nil=>rfl
 | cons q r ih=>
   have e:bC (pv q) (pv p)=decide (q=p):=by
    by_cases h:q=p
    .subst h;simp[(si _ (pv q) rfl).mpr rfl]
    .have:¬bC _ _=true:=λz=>h (Ef ((si _ _ rfl).mp z));simp[h,this]
   show(bC _ _||eE _ (aJ r))=_;rw[ih,e];by_cases h:q=p<;>by_cases a:p∈r<;>simp[h,a];intro z;exact h z.symm
theorem vd{ps:List (Int×Int)}{v:PV}(h:v∈aJ ps):∃p∈ps,v=pv p:=by
 obtain⟨p,a,rfl⟩:=IB.mp h;exact⟨p,a,rfl⟩
noncomputable def ip:PV->Int
 | .tup [.int a,.int b]=>a
 | _=>0
noncomputable def gN:PV->Int
 | .tup [.int a,.int b]=>b
 | _=>0
@[simp] theorem Im(p:Int×Int):ip (pv p)=p.1:=rfl
@[simp] theorem Io(p:Int×Int):gN (pv p)=p.2:=rfl
theorem lY(x:Int)(M:List Int):eE (.int x) (M.map .int)=decide (x∈M):=by
 induction M with
 | nil=>rfl
 | cons a r ih=>
   have:eE _ ((a::r).map .int)=(bC _ _||eE (.int x) _):=rfl;rw[this,ih];show(decide _||decide _)=_;by_cases h:a=x
   .simp_all
   .have b:¬x=a:=λz=>h z.symm;simp[h,b]
section
variable{A:PHp}{Q:PV->PHp->Prop}{E:XP}{n:Nat}{x a b:Int}{M:List Int}{ps:List (Int×Int)}
theorem w_inI(c:A[n]?=some (.lst (M.map .int)))(q:Q (.bl (decide (x∈M))) A):Wp (eF (.int x) (.ref n)) A Q E:=uW c ⟨rfl,O6 _⟩ (by rw[lY];exact q)
theorem gb(c:A[n]?=some (.lst (M.map .int)))(q:Q (.bl (!decide (x∈M))) A):Wp (R3 (.int x) (.ref n)) A Q E:=uX c ⟨rfl,O6 _⟩ (by rw[lY];exact q)
theorem gc(q:Q (.bl (decide (x∈M))) A):Wp (eF (.int x) (.tup (M.map .int))) A Q E:=DC ⟨rfl,O6 _⟩ (by rw[lY];exact q)
theorem fy(q:Q (.bl (!decide (x∈M))) A):Wp (R3 (.int x) (.tup (M.map .int))) A Q E:=DD ⟨rfl,O6 _⟩ (by rw[lY];exact q)
theorem iq(c:A[n]?=some (.lst (aJ ps)))(q:Q (.bl (decide ((a,b)∈ps))) A):Wp (eF (.tup [.int a,.int b]) (.ref n)) A Q E:=uW c ⟨rfl,pR _⟩ (by rw[show PV.tup [.int a,.int b]=pv (a,b)from rfl,pS];exact q)
theorem eh(c:A[n]?=some (.lst (aJ ps)))(q:Q (.bl (!decide ((a,b)∈ps))) A):Wp (R3 (.tup [.int a,.int b]) (.ref n)) A Q E:=uX c ⟨rfl,pR _⟩ (by rw[show PV.tup [.int a,.int b]=pv (a,b)from rfl,pS];exact q)
theorem X5(l:List Int):plain (.tup (l.map .int))=true:=by
 show(l.map _).all i3=true;rw[Jg];intro x c;obtain⟨y,_,rfl⟩:=IB.mp c;rfl
theorem Eg{c:PV->PHp->Prop}{e:ED}{σ:PSt}{t:Ty}(h:Wp (e σ) A (λx d=>Wp (jG t x) d (λb f=>c (.bl b) f) E) E):Wp (hX e t σ) A c E:=B9 (ae h λ_ _ g=>B9 g)
theorem gO{c:Bool->PHp->Prop}{t:Ty}{x:PV}{b:Bool}(h:jG t x A=.ok b A)(q:c b A):Wp (jG t x) A c E:=w_eq h q
theorem gP{c:Bool->PHp->Prop}{l:List PV}(h:A[n]?=some (.lst l))(q:c true A):Wp (jG .list (.ref n)) A c E:=B9 (iM h q)
theorem n8(l m:List Int):eqvs (l.map .int) (m.map .int)=decide (l=m):=by
 have h:=zN (l.map .int) (m.map .int) (O6 _);have inj:l.map _=m.map _↔l=m:=⟨λz=>by
  have:=congrArg O5 z;rw[W6,W6]at this;exact Jo this,λz=>by rw[z]⟩
 cases e:eqvs _ _ with
 | true=>exact(decide_eq_true (inj.mp (h.mp e))).symm
 | false=>simp_all
theorem Eh{l:List Int}(q:Q (.bl (decide (l=[]))) A):Wp (cO (.tup (l.map .int)) (.tup [])) A Q E:=uU ⟨X5 _,rfl⟩ (by rw[show([])=([]).map .int from rfl,n8];exact q)
theorem Ei{l:List Int}(q:Q (.bl (!decide (l=[]))) A):Wp (dH (.tup (l.map .int)) (.tup [])) A Q E:=Dz ⟨X5 _,rfl⟩ (by rw[show([])=([]).map .int from rfl,n8];exact q)
theorem iR{n k:Nat}{l:List Int}(c:A[n]?=some (.lst (l.map .int)))(d:A[k]?=some (.lst []))(q:Q (.bl (decide (l=[]))) A):Wp (cO (.ref n) (.ref k)) A Q E:=fZ c d ⟨O6 _,rfl⟩ (by rw[show([])=([]).map .int from rfl,n8];exact q)
theorem ve{l m:List Int}(q:Q (.bl (decide (l=m))) A):Wp (cO (.tup (l.map .int)) (.tup (m.map .int))) A Q E:=uU ⟨X5 _,X5 _⟩ (by rw[n8];exact q)
end
section
variable{A:PHp}{E:XP}{σ:PSt}{e e1 e2:ED}
theorem Ej{P R:Prop}(h:P):(true=true->P)/\(true=false->R):=by simp_all
theorem Ek{P R:Prop}(h:R):(false=true->P)/\(True->R):=by simp_all
theorem El{P R:Prop}(h:R):((!true)=true->P)/\((!true)=false->R):=by simp_all
theorem vf{P R:Prop}(h:R):(false=true->P)/\(false=false->R):=by simp_all
theorem Em{A:PHp}{n:Nat}{l:List PV}{R:Nat->List PV->Prop}(h:A[n]?=some (.lst l))(q:R n l):∃a b,PV.ref n=.ref a/\A[a]?=some (.lst b)/\R a b:=⟨n,l,rfl,h,q⟩
theorem pT{A:PHp}{n:Nat}{l:List PV}{R:List PV->Prop}(h:A[n]?=some (.lst l))(q:R l):∃a,A[n]?=some (.lst a)/\R a:=⟨l,h,q⟩
theorem Eo{A:PHp}{n c:Nat}{l:List (Nat×PV)}{R:Nat->List (Nat×PV)->Prop}(h:A[n]?=some (.ins c l))(q:R n l):∃a b,PV.ref n=.ref a/\A[a]?=some (.ins c b)/\R a b:=⟨n,l,rfl,h,q⟩
theorem pU{A:PHp}{n c:Nat}{l:List (Nat×PV)}{R:Nat->Nat->List (Nat×PV)->Prop}(h:A[n]?=some (.ins c l))(q:R n c l):∃a b d,PV.ref n=.ref a/\A[a]?=some (.ins b d)/\R a b d:=⟨n,c,l,rfl,h,q⟩
theorem Ep{A:PHp}{n c k:Nat}{l:List (Nat×PV)}{v:PV}{R:PV->Prop}(h:A[n]?=some (.ins c l))(f:i4 k l=some v)(q:R v):∃a g b d,PV.ref n=.ref a/\A[a]?=some (.ins g b)/\i4 k b=some d/\R d:=⟨n,c,l,v,rfl,h,f,q⟩
theorem pV{A:PHp}{n:Nat}{l:List PV}{R:Nat->Prop}{b:Prop}(h:A[n]?=some (.lst l))(q:R n):(∃a c,PV.ref n=.ref a/\G2 a A=.ok c A/\R a)\/b:=.inl ⟨n,l,rfl,J3 h,q⟩
theorem pW{l:List PV}{R:List PV->Prop}{b:Prop}(q:R l):b\/∃a,PV.tup l=.tup a/\R a:=.inr ⟨l,rfl,q⟩
theorem Er{A:PHp}{n:Nat}{l:List PV}(h:A[n]?=some (.ro l)):G2 n A=.ok l A:=by simp_all
theorem pX{A:PHp}{n:Nat}{l:List PV}{R:Nat->List PV->Prop}{c:Prop}(h:A[n]?=some (.lst l))(q:R n l):(∃a b,PV.ref n=.ref a/\G2 a A=.ok b A/\R a b)\/c:=.inl ⟨n,l,rfl,J3 h,q⟩
theorem pY{A:PHp}{n:Nat}{l:List PV}{R:Nat->List PV->Prop}{c:Prop}(h:A[n]?=some (.ro l))(q:R n l):(∃a b,PV.ref n=.ref a/\G2 a A=.ok b A/\R a b)\/c:=.inl ⟨n,l,rfl,Er h,q⟩
theorem pZ{A:PHp}{n:Nat}{l:List PV}{R:Nat->Prop}(h:A[n]?=some (.lst l))(q:R n):∃a b,PV.ref n=.ref a/\G2 a A=.ok b A/\R a:=⟨n,l,rfl,J3 h,q⟩
variable{QI:It->PHp->Prop}
theorem Es(h:Wp (e σ) A (λx a=>(∃n l,x=.ref n/\G2 n a=.ok l a/\QI (.lst n) a)\/∃l,x=.tup l/\QI (.tup l) a) E):Wp (V5 e σ) A QI E:=B9 (ae h λx a b=>by
 rcases b with⟨n,l,rfl,c,q⟩ | ⟨l,rfl,q⟩
 .exact B9 (w_eq c q)
 .exact q)
theorem Et(h:Wp (e σ) A (λx A1=>∃n:Nat,x=.int n/\n<=1000000/\QI (.rng 0 n) A1) E):Wp (iRng1 e σ) A QI E:=B9 (ae h λx A1 a=>by
 obtain⟨n,b,c,q⟩:=a;subst b;have d:=Qr.mpr c;refine C8 ⟨Qs (by simp) (LC n),NV d (by simp)⟩ (jv ?_);exact q)
theorem Eu(h:Wp (e1 σ) A (λx c=>Wp (e2 σ) c (λy A2=>∃a b:Nat,x=.int a/\y=.int b/\(a<=1000000/\b<=1000000)/\QI (.rng a (b - a)) A2) E) E):Wp (iRng2 e1 e2 σ) A QI E:=
 B9 (ae h λx c f=>B9 (ae f λy A2 g=>by
  obtain⟨a,b,i,j,d,q⟩:=g;subst i;subst j;have k:=Qr.mpr d.1;have l2:=Qr.mpr d.2;refine C8 ⟨⟨Qs (by decide) (LC a),NV k (by decide)⟩,Qs (by decide) (LC b),NV l2 (by decide)⟩ (jv ?_);have:((b:Int) - a).toNat=b - a:=by omega
  rw[this];exact q))
theorem Ew(h:Wp (e1 σ) A (λx a=>Wp (e2 σ) a (λy b=>Wp (O4 x) b (λ_ c=>Wp (O4 y) c (λ_ d=>QI (.zip x y) d) E) E) E) E):Wp (kT e1 e2 σ) A QI E:=
 B9 (ae h λ_ _ f=>B9 (ae f λ_ _ g=>B9 (ae g λ_ _ i=>B9 i)))
theorem Ex(h:Wp (e σ) A (λx A1=>∃n l,x=.ref n/\G2 n A1=.ok l A1/\QI (.enm n) A1) E):Wp (kR e σ) A QI E:=B9 (ae h λx A1 a=>by
 obtain⟨n,l,b,c,q⟩:=a;subst b;exact B9 (w_eq c q))
end
end Ws
local macro_rules | `(tactic| walk_at "st")=>`(tactic| first
 | assumption
 | exact Ws.ax
 | (refine Ws.ao ?_;walk_at "st")
 | (refine Ws.ah (by assumption) ?_;walk_at "st"))
local macro_rules | `(tactic| walk_at "lim")=>`(tactic| first
 | (refine Ws.J6 ?_;(try simp only[Iz,IT,J2,JN]);omega)
 | (refine Ws.c5 ?_;(try simp only[Iz,IT,J2,JN]);omega))
local macro_rules | `(tactic| walk_at "s1")=>`(tactic| first
 | with_reducible first
   | refine Ws.cR ?_
   | refine Ws.ef ?_
   | refine Ws.vb ?_
   | refine Ws.pJ ?_
   | refine Ws.dJ ?_
   | refine Ws.w_retN ?_
   | refine Ws.X4 ?_
   | refine Ws.D1 ?_
   | refine Ws.uY ?_
   | refine Ws.DG ?_
   | refine Ws.DH ?_
   | refine Ws.DI ?_
   | refine Ws.lW ?_
   | refine Ws.w_chain ?_
   | refine Ws.DJ ?_
   | refine Ws.DK ?_
   | refine Ws.w_not ?_
   | refine Ws.DL ?_
   | refine Ws.DE ?_
   | refine Ws.w_notN ?_
   | refine Ws.uS ?_
   | refine Ws.Dt ?_
   | refine Ws.Du ?_
   | refine Ws.DV ?_
   | refine Ws.DW ?_
   | refine Ws.DX ?_
   | refine Ws.DU ?_
   | refine Ws.DM ?_
   | refine Ws.ee ?_
   | refine Ws.DN ?_
   | refine Ws.DQ ?_
   | refine Ws.w_cut2 ?_
   | refine Ws.DP ?_
   | refine Ws.uZ ?_
   | refine Ws.Eg ?_
   | refine Ws.DR ?_
   | refine Ws.DS ?_
   | refine Ws.w_revT ?_
   | refine Ws.w_isF ?_
   | refine Ws.Ew ?_
   | refine Ws.Es ?_
   | refine Ws.Et ?_
   | refine Ws.Eu ?_
   | refine Ws.Ex ?_)
local macro_rules | `(tactic| walk_at "s2")=>`(tactic| first
 | ((with_reducible apply Ws.w_var);(·rfl))
 | with_reducible first
   | refine Ws.Ds ?_
   | refine Ws.DF ?_
   | refine Ws.uR ?_
   | refine Ws.ki ?_
   | refine Ws.DY ?_
   | refine Ws.DZ ?_
 | ((with_reducible apply Ws.iQ);(·rfl))
 | with_reducible first
   | refine Ws.Dv ?_
   | refine Ws.w_add2 ?_
   | refine Ws.Dw ?_
 | ((with_reducible apply Ws.w_mod);(·omega))
 | ((with_reducible apply Ws.iN);(·omega))
 | with_reducible first
   | refine Ws.w_lt ?_
   | refine Ws.w_le ?_
   | refine Ws.Dx ?_
   | refine Ws.w_ge ?_
   | refine Ws.Dy ?_
   | refine Ws.uT ?_
   | refine Ws.w_eqB ?_
   | refine Ws.w_neB ?_
   | refine Ws.DO ?_
 | ((with_reducible apply Ws.w_inI);(·walk_at "st"))
 | ((with_reducible apply Ws.gb);(·walk_at "st"))
 | with_reducible refine Ws.gc ?_
 | with_reducible refine Ws.fy ?_
 | ((with_reducible apply Ws.iq);(·walk_at "st"))
 | ((with_reducible apply Ws.eh);(·walk_at "st"))
 | ((with_reducible apply Ws.gP);(·walk_at "st"))
 | ((with_reducible apply Ws.gO);(·rfl))
 | with_reducible first
   | refine Ws.Eh ?_
   | refine Ws.Ei ?_
   | refine Ws.ve ?_
   | refine Ws.w_neTI ?_
 | ((with_reducible apply Ws.iR);(·walk_at "st");(·walk_at "st"))
 | ((with_reducible refine Ws.iP ?_);(try dsimp only);(try rw[Iz]))
 | ((with_reducible apply Ws.eN);(·walk_at "st");(try dsimp only);(try rw[Iz]))
 | ((with_reducible apply Ws.iO);(·walk_at "st"))
 | ((with_reducible apply Ws.kf);(·walk_at "st");(·walk_at "ix"))
 | ((with_reducible apply Ws.kh);(·walk_at "st");(·walk_at "ix"))
 | ((with_reducible apply Ws.dZ);(·walk_at "ix")))
local macro_rules | `(tactic| walk_at "ix")=>`(tactic| first
 | assumption
 | rfl
 | exact Ws.atl (by omega))
local macro_rules | `(tactic| walk_at "s3")=>`(tactic| first
 | with_reducible first
   | refine Ws.Ej ?_
   | refine Ws.vf ?_
   | refine Ws.El ?_
   | refine Ws.brNF ?_
   | refine Ws.brT' ?_
   | refine Ws.Ek ?_
 | with_reducible refine⟨_,rfl,?_⟩
 | ((with_reducible apply Ws.Em);(·walk_at "st"))
 | ((with_reducible apply Ws.pT);(·walk_at "st"))
 | ((with_reducible apply Ws.Eo);(·walk_at "st"))
 | ((with_reducible apply Ws.pU);(·walk_at "st"))
 | ((with_reducible apply Ws.Ep);(·walk_at "st");(·rfl))
 | ((with_reducible apply Ws.pV);(·walk_at "st"))
 | ((with_reducible apply Ws.pZ);(·walk_at "st"))
 | ((with_reducible apply Ws.pX);(·walk_at "st"))
 | ((with_reducible apply Ws.pY);(·walk_at "st"))
 | with_reducible apply Ws.pW
 | ((with_reducible refine And.intro ?h1 ?_);(case h1=>first | walk_at "lim" | omega)))
local macro_rules | `(tactic| walk_at "s")=>`(tactic| (first | walk_at "s1" | walk_at "s2" | walk_at "s3");(try dsimp only[List.set,Ws.jw]))
local macro_rules | `(tactic| walk_at "fn")=>`(tactic| (refine Ws.Ea (by rfl) ?_;simp only[Ws.start,Jb,Pp,J2,JN,Nat.reduceAdd,Nat.reduceSub,LZ,List.cons_append,List.nil_append]))
local macro_rules | `(tactic| walk_at "go")=>`(tactic| repeat walk_at "s")
namespace Ws
noncomputable def M4:Fun:=fn 1 1
 (I9 (fc (hX (aa 0) .int) (rV (hX (aa 0) .bool))))
noncomputable def K4:Fun:=fn 2 2
 (I9 (fc (G3 M4 (ai (aa 1) aNil)) (kP kN fK (eK (.int 0)) (aa 1) (aa 0))))
noncomputable def G6:Fun:=fn 1 1
 (I9 (fc (G3 M4 (ai (aa 0) aNil)) (kP kN kN (eK (.int 2)) (aa 0) (eK (.int 6)))))
noncomputable def L8:Fun:=fn 2 2
 (C9 (bN (tOr (tNot (D3 (hX (aa 1) .tuple))) (D3 (C3 dH (v9 (aa 1)) (eK (.int 2)))))
 (I9 (eK (.bl false)))
 sPass)
 (I9 (fc (G3 K4 (ai (aa 0) (ai (C3 bh (aa 1) (eK (.int 0))) aNil))) (fc (G3 K4 (ai (aa 0) (ai (C3 bh (aa 1) (eK (.int 1))) aNil))) (C3 dH (C3 bh (aa 1) (eK (.int 0))) (C3 bh (aa 1) (eK (.int 1))))))))
noncomputable def P9:SD:=
 (bN (tOr (tNot (D3 (G3 L8 (ai (aa 0) (ai (aa 3) aNil))))) (D3 (C3 eF (aa 3) (gG (aa 1) hU (gs (aa 2))))))
 (I9 (aa 2))
 sPass)
noncomputable def Q0:SD:=w5 (kR (aa 1)) (gTup 2 (gCons (gName 2) (gCons (gName 3) gNil))) P9
noncomputable def G1:Fun:=fn 4 2
 (C9 Q0
 (I9 (eK .non)))
noncomputable def M5:Fun:=fn 3 3
 (C9 (sFld (aa 0) 6 (aa 1))
 (C9 (sFld (aa 0) 7 (mX (D3 (mV (aa 2))) (X9 aNil) (w4 (aa 2))))
 (C9 (sFld (aa 0) 11 (w9 (K8 (aa 0) 7)))
 (C9 (sFld (aa 0) 12 (eK (.int 1)))
 (C9 (sFld (aa 0) 13 eTNew)
 (C9 (sFld (aa 0) 14 eTNew)
 (sFld (aa 0) 15 eTNew)))))))
noncomputable def Ey:ED:=L5 (kT (aa 0) (gG (aa 0) (gs (eK (.int 1))) hU)) (bT [none,none]) (gTup 2 (gCons (gName 0) (gCons (gName 1) gNil))) S9 (C3 fK (aa 0) (aa 1))
noncomputable def V3:Fun:=fn 1 1
 (I9 (hY Ey))
noncomputable def Ez:ED:=L5 (V5 (aa 1)) (bT [none,some 0]) (gName 0) S9 (G3 K4 (ai (K8 (aa 1) 0) (ai (aa 0) aNil)))
noncomputable def Q1:Fun:=fn 2 2
 (C9 (bN (tOr (tNot (D3 (hX (aa 1) .list))) (D3 (C3 cO (aa 1) (X9 aNil))))
 (I9 (eK (.bl false)))
 sPass)
 (I9 (fc (hY Ez) (G3 V3 (ai (aa 1) aNil)))))
noncomputable def T9:Fun:=fn 1 1
 (I9 (fc (G3 M4 (ai (aa 0) aNil)) (C3 rR (aa 0) (eK (.int 0)))))
noncomputable def l5:SD:=
 (C9 (bN (tNot (D3 (G3 T9 (ai (nA (aa 3) (aa 5)) aNil))))
 sNever
 sPass)
 (jK (aa 4) (aa 5) (jc (aa 3) (aa 5))))
noncomputable def X6:SD:=w5 (V5 (K8 (aa 1) 1)) (gName 5) l5
noncomputable def O9:Fun:=fn 6 4
 (C9 (bN (tNot (D3 (G3 Q1 (ai (aa 1) (ai (aa 2) aNil)))))
 sNever
 sPass)
 (C9 (K0 eTNew (gName 4))
 (C9 X6
 (C9 (sFld (aa 0) 3 (aa 1))
 (C9 (sFld (aa 0) 4 (w4 (aa 2)))
 (C9 (sFld (aa 0) 5 (nE (aa 4)))
 (C9 (sFld (aa 0) 9 (w9 (aa 2)))
 (sFld (aa 0) 10 (aa 4)))))))))
noncomputable def P0:Fun:=fn 4 3
 (C9 (bN (tNot (D3 (G3 G6 (ai (aa 1) aNil))))
 sNever
 sPass)
 (C9 (K0 (G3 G1 (ai (aa 1) (ai (aa 2) aNil))) (gName 3))
 (C9 (bN (D3 (rT (aa 3)))
 sNever
 sPass)
 (C9 (sFld (aa 0) 0 (aa 1))
 (sFld (aa 0) 1 (kQ (aa 2)))))))
noncomputable def X7:ED:=L5 (V5 (K8 (aa 0) 1)) (bT [none,none,some 1]) (gTup 2 (gCons (gName 0) (gCons (gName 1) gNil))) (D3 (C3 cO (aa 0) (aa 2))) (aa 1)
noncomputable def H8:Fun:=fn 2 2
 (I9 X7)
noncomputable def ck:ED:=L5 (V5 (aa 2)) (bT [none,some 0]) (gName 0) S9 (G3 K4 (ai (K8 (aa 1) 0) (ai (aa 0) aNil)))
noncomputable def cn:ED:=L5 (kT (aa 2) (gG (aa 2) (gs (eK (.int 1))) hU)) (bT [none,some 0]) (gName 0) S9 (C3 eF (aa 0) (K8 (aa 1) 1))
noncomputable def U0:Fun:=fn 3 3
 (C9 (bN (tOr (D3 (C3 cO (aa 2) (c7 aNil))) (D3 (C3 R3 (C3 bh (aa 2) (eK (.int (-1)))) (aa 1))))
 (I9 (eK (.bl false)))
 sPass)
 (C9 (bN (tOr (D3 (C3 fK (ny (aa 2)) (v9 (aa 2)))) (tNot (D3 (hY ck))))
 (I9 (eK (.bl false)))
 sPass)
 (I9 (hY cn))))
noncomputable def R6:ED:=L5 (V5 (O2 0 H8 (aa 0) (ai (C3 bh (aa 1) (eK (.int (-1)))) aNil))) (bT [none,some 1]) (gName 0) (D3 (C3 R3 (aa 0) (aa 1))) (C3 U7 (aa 1) (c7 (ai (aa 0) aNil)))
noncomputable def K9:Fun:=fn 2 2
 (I9 R6)
noncomputable def Z8:SD:=
 (C9 (K0 (nu (aa 4)) (gName 5))
 (C9 (bN (D3 (C3 eF (C3 bh (aa 5) (eK (.int (-1)))) (aa 1)))
 (Q7 (m9 (aa 3) (aa 5)))
 sPass)
 (Q7 (nv (aa 4) (G3 K9 (ai (aa 0) (ai (aa 5) aNil)))))))
noncomputable def U1:SD:=jH (D3 (C3 dH (aa 4) (X9 aNil))) Z8
noncomputable def N6:Fun:=fn 6 3
 (C9 (K0 (X9 aNil) (gName 3))
 (C9 (K0 (X9 (ai (c7 (ai (aa 2) aNil)) aNil)) (gName 4))
 (C9 U1
 (I9 (aa 3)))))
noncomputable def Z9:Fun:=fn 2 2
 (I9 (fc (G3 L8 (ai (K8 (aa 0) 0) (ai (aa 1) aNil))) (C3 eF (aa 1) (K8 (aa 0) 1))))
noncomputable def b4:ED:=L5 (V5 (aa 1)) (bT [none,some 0]) (gName 0) S9 (G3 K4 (ai (K8 (K8 (aa 1) 3) 0) (ai (aa 0) aNil)))
noncomputable def N7:Fun:=fn 2 2
 (C9 (bN (tOr (tNot (D3 (hX (aa 1) .tuple))) (tNot (D3 (hY b4))))
 (I9 (eK (.bl false)))
 sPass)
 (I9 (G3 U0 (ai (K8 (aa 0) 3) (ai (K8 (aa 0) 9) (ai (aa 1) aNil))))))
noncomputable def Q8:Fun:=fn 2 2
 (C9 (bN (tOr (tNot (D3 (hX (aa 1) .tuple))) (tOr (D3 (C3 fK (v9 (aa 1)) (eK (.int 2)))) (tNot (D3 (G3 Z9 (ai (K8 (aa 0) 3) (ai (C3 bh (aa 1) (eK (.int 1))) aNil)))))))
 (I9 (eK (.bl false)))
 sPass)
 (C9 (bN (D3 (C3 cO (v9 (aa 1)) (eK (.int 2))))
 (I9 (C3 cO (C3 bh (aa 1) (eK (.int 0))) (eK (.str "lay"))))
 sPass)
 (C9 (bN (tOr (D3 (C3 dH (v9 (aa 1)) (eK (.int 3)))) (D3 (C3 dH (C3 bh (aa 1) (eK (.int 0))) (eK (.str "say")))))
 (I9 (eK (.bl false)))
 sPass)
 (I9 (fc (G3 N7 (ai (aa 0) (ai (C3 bh (aa 1) (eK (.int 2))) aNil))) (C3 cO (C3 bh (C3 bh (aa 1) (eK (.int 2))) (eK (.int 0))) (C3 bh (C3 bh (aa 1) (eK (.int 1))) (eK (.int 1)))))))))
noncomputable def N8:Fun:=fn 1 1
 (sFld (aa 0) 12 (C3 U7 (K8 (aa 0) 12) (eK (.int 1))))
noncomputable def J8:Fun:=fn 2 2
 (C9 (bN (gH (D3 (iF (C3 bh (aa 1) (eK (.int 1))) (K8 (aa 0) 13))))
 (i7 13 (ai (aa 1) aNil))
 (fg sPass))
 (fg (jK (K8 (aa 0) 13) (C3 bh (aa 1) (eK (.int 1))) (K8 (aa 0) 12))))
noncomputable def R7:Fun:=fn 2 2
 (I9 (jc (K8 (aa 0) 10) (aa 1)))
noncomputable def K5:Fun:=fn 3 3
 (I9 (C3 jD (K8 (aa 0) 12) (C3 U7 (O2 1 R7 (K8 (aa 0) 6) (ai (aa 1) aNil)) (v9 (aa 2)))))
noncomputable def E5:Fun:=fn 2 2
 (I9 (fc (iF (aa 1) (K8 (aa 0) 13)) (C3 fK (jc (K8 (aa 0) 13) (aa 1)) (K8 (aa 0) 12))))
noncomputable def E6:Fun:=fn 2 2
 (I9 (fc (iF (aa 1) (K8 (aa 0) 15)) (C3 fK (jc (K8 (aa 0) 15) (aa 1)) (K8 (aa 0) 12))))
noncomputable def R8:SD:=
 (K0 (gG (aa 2) (gs (eK (.int 1))) hU) (gName 2))
noncomputable def N3:SD:=jH (tAnd (D3 (C3 dH (aa 2) (c7 aNil))) (D3 (C3 eF (C3 bh (aa 2) (eK (.int 0))) (K8 (aa 0) 11)))) R8
noncomputable def D7:Fun:=fn 3 2
 (C9 (K0 (gG (aa 1) (gs (eK (.int 1))) hU) (gName 2))
 (C9 N3
 (I9 (mW (C3 cO (aa 2) (c7 aNil)) (O2 2 E6 (aa 0) (ai (aa 2) aNil))))))
noncomputable def J9:Fun:=fn 4 2
 (C9 (fg (K0 (C3 bh (aa 1) (eK (.int 1))) (gName 2)))
 (C9 (fg (K0 (C3 bh (aa 1) (eK (.int 2))) (gName 3)))
 (C9 (bN (gH (tNot (D3 (O2 2 E5 (aa 0) (ai (aa 2) aNil)))))
 (i7 14 (ai (aa 1) aNil))
 (fg sPass))
 (C9 (bN (gH (D3 (O2 2 K5 (aa 0) (ai (aa 2) (ai (aa 3) aNil)))))
 (i7 15 (ai (aa 1) aNil))
 (fg sPass))
 (C9 (bN (gH (tNot (D3 (O2 2 D7 (aa 0) (ai (aa 3) aNil)))))
 (i7 16 (ai (aa 1) aNil))
 (fg sPass))
 (C9 (fg (Q7 (m9 (jd (K8 (aa 0) 14) (aa 2) (X9 aNil)) (c7 (ai (K8 (aa 0) 12) (ai (aa 3) aNil))))))
 (fg (Q7 (jd (K8 (aa 0) 15) (aa 3) (K8 (aa 0) 12))))))))))
noncomputable def J4:Fun:=fn 2 2
 (C9 (bN (gH (tNot (D3 (G3 Q8 (ai (K8 (aa 0) 6) (ai (aa 1) aNil))))))
 (i7 12 (ai (aa 1) aNil))
 (fg sPass))
 (bN (gH (D3 (C3 cO (C3 bh (aa 1) (eK (.int 0))) (eK (.str "lay")))))
 (Q7 (r9 2 J8 (aa 0) (ai (aa 1) aNil)))
 (Q7 (r9 2 J9 (aa 0) (ai (aa 1) aNil)))))
noncomputable def K3:Fun:=fn 2 2
 (I9 (w4 (nB (K8 (aa 0) 14) (aa 1) (X9 aNil))))
noncomputable def L6:ED:=L5 (V5 (O2 2 K3 (aa 0) (ai (aa 1) aNil))) (bT [none,none]) (gTup 2 (gCons (gName 0) (gCons (gName 1) gNil))) S9 (C3 bh (aa 1) (eK (.int (-1))))
noncomputable def aV:ED:=L5 (V5 (K8 (K8 (aa 0) 6) 9)) (bT [none,some 2]) (gName 0) S9 (C3 eF (aa 0) (aa 1))
noncomputable def E7:Fun:=fn 3 2
 (C9 (K0 L6 (gName 2))
 (I9 (hY aV)))
noncomputable def J5:Fun:=fn 1 1
 (I9 (nF (K8 (aa 0) 13)))
noncomputable def X8:ED:=L5 (V5 (O2 2 J5 (aa 0) aNil)) (bT [none,some 0]) (gName 0) (D3 (O2 2 E7 (aa 1) (ai (aa 0) aNil))) (aa 0)
noncomputable def K1:Fun:=fn 1 1
 (I9 X8)
noncomputable def bj:ED:=L5 (V5 (aa 2)) (bT [none,some 0]) (gName 0) (D3 (O2 2 D7 (aa 1) (ai (aa 0) aNil))) (aa 0)
noncomputable def K6:Fun:=fn 3 2
 (C9 (K0 (G3 N6 (ai (K8 (K8 (aa 0) 6) 3) (ai (K8 (K8 (aa 0) 6) 9) (ai (aa 1) aNil)))) (gName 2))
 (I9 bj))
noncomputable def M6:Fun:=fn 2 2
 (C9 (bN (D3 (C3 fK (aa 1) (v9 (aa 0))))
 (I9 (C3 bh (aa 0) (aa 1)))
 sPass)
 (I9 (eK (.int 0))))
noncomputable def G0:Fun:=fn 3 2
 (C9 (bN (tAnd (D3 (C3 jD (aa 0) (C3 nz (eK (.int 10)) (eK (.int 60))))) (D3 (C3 cO (C3 f8 (aa 0) (eK (.int 2))) (eK (.int 1)))))
 (I9 (C3 kW (C3 kU (aa 0) (C3 U7 (eK (.int 1)) (C3 fJ (eK (.int 20)) (aa 1)))) (eK (.int 1048575))))
 sPass)
 (C9 (K0 (C3 f8 (C3 fJ (C3 U7 (C3 U7 (aa 0) (C3 fJ (eK (.int 7919)) (aa 1))) (eK (.int 1))) (eK (.int 48271))) (eK (.int 2147483647))) (gName 2))
 (C9 (K0 (C3 f8 (C3 fJ (aa 2) (C3 U7 (C3 v8 (aa 2) (eK (.int 1009))) (eK (.int 69621)))) (eK (.int 2147483647))) (gName 2))
 (I9 (C3 f8 (C3 fJ (aa 2) (C3 U7 (C3 v8 (aa 2) (eK (.int 4099))) (eK (.int 40014)))) (eK (.int 2147483647)))))))
noncomputable def R9:ED:=L5 (iRng1 (aa 1)) (bT [none,some 0]) (gName 0) S9 (c7 (ai (G3 G0 (ai (aa 1) (ai (C3 U7 (eK (.int 20)) (aa 0)) aNil))) (ai (aa 0) aNil)))
noncomputable def S0:ED:=L5 (iRng1 (aa 1)) (bT [none,some 2]) (gName 0) S9 (c7 (ai (C3 bh (C3 bh (aa 1) (C3 kM (aa 0) (eK (.int 1)))) (eK (.int 1))) (ai (C3 bh (C3 bh (aa 1) (aa 0)) (eK (.int 1))) aNil)))
noncomputable def bw:SD:=
 (C9 (K0 (G3 G0 (ai (aa 0) (ai (C3 U7 (C3 U7 (eK (.int 40)) (C3 fJ (eK (.int 6)) (aa 5))) (aa 6)) aNil))) (gName 7))
 (bN (tAnd (D3 (C3 dH (aa 5) (aa 6))) (tOr (D3 (C3 eF (c7 (ai (aa 5) (ai (aa 6) aNil))) (aa 3))) (D3 (C3 cO (C3 f8 (aa 7) (eK (.int 3))) (eK (.int 0))))))
 (Q7 (m9 (aa 4) (c7 (ai (aa 5) (ai (aa 6) aNil)))))
 sPass))
noncomputable def S3:SD:=w5 (iRng1 (aa 1)) (gName 6) bw
noncomputable def bx:SD:=
 S3
noncomputable def S4:SD:=w5 (iRng1 (aa 1)) (gName 5) bx
noncomputable def M9:Fun:=fn 8 2
 (C9 (K0 (kQ R9) (gName 2))
 (C9 (K0 S0 (gName 3))
 (C9 (K0 (X9 aNil) (gName 4))
 (C9 S4
 (I9 (aa 4))))))
noncomputable def o7:ED:=L5 (iRng1 (aa 1)) (bT [none,some 0]) (gName 0) (D3 (C3 cO (C3 kW (C3 kU (aa 1) (aa 0)) (eK (.int 1))) (eK (.int 1)))) (aa 0)
noncomputable def Q6:Fun:=fn 2 2
 (I9 o7)
noncomputable def Y8:ED:=L5 (V5 (aa 0)) (bT [none,none,some 4]) (gTup 2 (gCons (gName 0) (gCons (gName 1) gNil))) (tAnd (D3 (C3 cO (aa 0) (C3 bh (aa 2) (eK (.int (-1)))))) (D3 (C3 R3 (aa 1) (aa 2)))) (C3 U7 (aa 2) (c7 (ai (aa 1) aNil)))
noncomputable def cp:SD:=
 (K0 (C3 U7 (aa 3) Y8) (gName 3))
noncomputable def Y9:SD:=w5 (V5 (aa 1)) (gName 4) cp
noncomputable def o8:SD:=
 (C9 (K0 (C3 U7 (aa 2) (aa 1)) (gName 2))
 (C9 (K0 (X9 aNil) (gName 3))
 (C9 Y9
 (K0 (aa 3) (gName 1)))))
noncomputable def Z0:SD:=jH (D3 (C3 dH (aa 1) (X9 aNil))) o8
noncomputable def U2:Fun:=fn 5 2
 (C9 (K0 (X9 aNil) (gName 2))
 (C9 Z0
 (I9 (aa 2))))
noncomputable def d9:ED:=L5 (V5 (G3 U2 (ai (aa 0) (ai (X9 (ai (c7 (ai (aa 2) aNil)) aNil)) aNil)))) (bT [none,some 1]) (gName 0) (D3 (C3 eF (C3 bh (aa 0) (eK (.int (-1)))) (aa 1))) (aa 0)
noncomputable def P1:Fun:=fn 3 3
 (I9 d9)
noncomputable def J7:Fun:=fn 2 2
 (C9 (jJ [7,8,9,12,13,14,15,16] (Q7 (r9 2 J4 (aa 0) (ai (aa 1) aNil))) [(7,none,(I9 (eK (.bl false))))])
 (I9 (eK (.bl true))))
noncomputable def S5:ED:=L5 (V5 (O2 2 K3 (aa 0) (ai (aa 3) aNil))) (bT [none,none,some 3]) (gTup 2 (gCons (gName 0) (gCons (gName 1) gNil))) S9 (c7 (ai (aa 0) (ai (aa 1) (ai (aa 2) aNil))))
noncomputable def bz:SD:=
 (K0 (C3 U7 (aa 2) S5) (gName 2))
noncomputable def Y4:SD:=w5 (V5 (aa 1)) (gName 3) bz
noncomputable def N0:Fun:=fn 4 2
 (C9 (K0 (X9 aNil) (gName 2))
 (C9 Y4
 (I9 (aa 2))))
noncomputable def P2:ED:=L5 (V5 (aa 0)) (bT [none,some 3,some 5,some 2]) (gName 0) (tAnd (D3 (C3 cO (C3 bh (aa 0) (eK (.int 1))) (gG (aa 1) (gs (aa 2)) hU))) (D3 (C3 fK (C3 bh (aa 0) (eK (.int 0))) (aa 3)))) (aa 0)
noncomputable def P3:ED:=L5 (V5 (aa 6)) (bT [none,some 3,some 5]) (gName 0) S9 (C3 dH (C3 bh (C3 bh (aa 0) (eK (.int 2))) (eK (.int 1))) (C3 bh (aa 1) (aa 2)))
noncomputable def bo:SD:=
 (bN (D3 (C3 R3 (C3 bh (aa 3) (aa 5)) (aa 1)))
 (C9 (K0 P2 (gName 6))
 (bN (tOr (D3 (C3 cO (aa 6) (X9 aNil))) (D3 (gJ P3)))
 (I9 (eK (.bl false)))
 sPass))
 sPass)
noncomputable def P4:SD:=w5 (iRng2 (eK (.int 1)) (v9 (aa 3))) (gName 5) bo
noncomputable def bp:SD:=
 (C9 (bN (D3 (C3 dH (C3 bh (aa 3) (eK (.int 0))) (C3 bh (aa 4) (eK (.int 1)))))
 (I9 (eK (.bl false)))
 sPass)
 P4)
noncomputable def W3:SD:=w5 (V5 (aa 0)) (gTup 3 (gCons (gName 2) (gCons (gName 3) (gCons (gName 4) gNil)))) bp
noncomputable def K7:Fun:=fn 7 2
 (C9 W3
 (I9 (eK (.bl true))))
noncomputable def qa:ED:=L5 (kR (aa 3)) (bT [none,none,some 1]) (gTup 2 (gCons (gName 0) (gCons (gName 1) gNil))) S9 (c7 (ai (aa 1) (ai (C3 f8 (G3 G0 (ai (aa 2) (ai (C3 U7 (eK (.int 60)) (aa 0)) aNil))) (eK (.int 20))) aNil)))
noncomputable def df:ED:=L5 (V5 (aa 13)) (bT [none,some 14]) (gName 0) S9 (C3 R3 (aa 0) (aa 1))
noncomputable def dg:ED:=L5 (V5 (aa 8)) (bT [none,some 13]) (gName 0) S9 (C3 R3 (aa 0) (aa 1))
noncomputable def dh:ED:=L5 (V5 (aa 14)) (bT [none,some 3]) (gName 0) S9 (C3 R3 (aa 0) (aa 1))
noncomputable def qb:SD:=
 (C9 (K0 (G3 G0 (ai (aa 1) (ai (eK (.int 3)) aNil))) (gName 9))
 (C9 (K0 (C3 bh (aa 3) (C3 f8 (C3 v8 (aa 9) (eK (.int 4))) (v9 (aa 3)))) (gName 10))
 (C9 (K0 (G3 P1 (ai (aa 3) (ai (aa 4) (ai (C3 bh (aa 10) (eK (.int 1))) aNil)))) (gName 11))
 (C9 (bN (D3 (C3 cO (C3 f8 (aa 9) (eK (.int 4))) (eK (.int 0))))
 (Q7 (O2 2 N8 (aa 7) aNil))
 (bN (tOr (D3 (C3 cO (C3 f8 (aa 9) (eK (.int 4))) (eK (.int 1)))) (D3 (C3 cO (aa 11) (X9 aNil))))
 (Q7 (G3 J7 (ai (aa 7) (ai (c7 (ai (eK (.str "lay")) (ai (aa 10) aNil))) aNil))))
 (C9 (K0 (O2 2 K6 (aa 7) (ai (C3 bh (aa 10) (eK (.int 1))) aNil)) (gName 12))
 (C9 (bN (tAnd (D3 (C3 dH (aa 12) (X9 aNil))) (D3 (C3 jD (C3 f8 (C3 v8 (aa 9) (eK (.int 100))) (eK (.int 5))) (eK (.int 0)))))
 (K0 (aa 12) (gName 11))
 sPass)
 (Q7 (G3 J7 (ai (aa 7) (ai (c7 (ai (eK (.str "say")) (ai (aa 10) (ai (C3 bh (aa 11) (C3 f8 (C3 v8 (aa 9) (eK (.int 500))) (v9 (aa 11)))) aNil)))) aNil))))))))
 (C9 (K0 (O2 2 K1 (aa 7) aNil) (gName 13))
 (C9 (K0 (O2 2 J5 (aa 7) aNil) (gName 14))
 (C9 (bN (tOr (D3 (gJ dg)) (D3 (gJ df)))
 (I9 (eK (.bl false)))
 sPass)
 (C9 (bN (tOr (D3 (gJ dh)) (D3 (C3 fK (y0 (aa 14)) (v9 (aa 14)))))
 (I9 (eK (.bl false)))
 sPass)
 (K0 (aa 13) (gName 8))))))))))
noncomputable def vg:SD:=w5 (V5 (gG (aa 0) (gs (eK (.int 1))) (gs (eK (.int 41))))) (gName 1) qb
noncomputable def lZ:Fun:=fn 15 1
 (C9 (K0 (G3 M6 (ai (aa 0) (ai (eK (.int 0)) aNil))) (gName 1))
 (C9 (K0 (C3 U7 (eK (.int 2)) (C3 f8 (G3 G0 (ai (aa 1) (ai (eK (.int 0)) aNil))) (eK (.int 4)))) (gName 2))
 (C9 (K0 (G3 M9 (ai (aa 1) (ai (aa 2) aNil))) (gName 3))
 (C9 (K0 (G3 Q6 (ai (C3 U7 (eK (.int 1)) (C3 f8 (G3 G0 (ai (aa 1) (ai (eK (.int 1)) aNil))) (C3 kM (C3 nC (eK (.int 1)) (aa 2)) (eK (.int 1))))) (ai (aa 2) aNil))) (gName 4))
 (C9 (K0 (G3 Q6 (ai (G3 G0 (ai (aa 1) (ai (eK (.int 2)) aNil))) (ai (aa 2) aNil))) (gName 5))
 (C9 (K0 (nG qa) (gName 6))
 (C9 (K0 (iE 2 M5 (ai (iE 1 O9 (ai (iE 0 P0 (ai (aa 2) (ai (aa 3) aNil))) (ai (aa 4) (ai (aa 6) aNil)))) (ai (aa 5) aNil))) (gName 7))
 (C9 (K0 (X9 aNil) (gName 8))
 (C9 vg
 (I9 (G3 K7 (ai (G3 N0 (ai (aa 7) (ai (aa 3) aNil))) (ai (aa 5) aNil)))))))))))))
@[simp] theorem Ip(i:Int)(A:PHp):M4 [.int i] A=.ok (.bl true) A:=by simp[M4]
theorem bK(n h:Int)(A:PHp):K4 [.int n,.int h] A=.ok (.bl (decide (0<=h/\h<n))) A:=by
 by_cases a:0<=h<;>simp[K4,a]
theorem EA(n:Int)(A:PHp):G6 [.int n] A=.ok (.bl (decide (2<=n/\n<=6))) A:=by
 by_cases a:2<=n<;>simp[G6,a]
def good(n:Int)(p:Int×Int):Prop:=(0<=p.1/\p.1<n)/\(0<=p.2/\p.2<n)/\p.1≠p.2
instance (n:Int) (p:Int×Int):Decidable (good n p):=by unfold good;infer_instance
theorem o9(n:Int)(p:Int×Int)(A:PHp):L8 [.int n,pv p] A=.ok (.bl (decide (good n p))) A:=by
 by_cases a:0<=p.1/\p.1<n<;>by_cases b:0<=p.2/\p.2<n<;>simp[L8,pv,good,atI,ixN,bC,bK,a,b]
structure N1(n:Int)(ps:List (Int×Int)):Prop where
 lo:2<=n
 hi:n<=6
 good:∀p∈ps,good n p
 nd:ps.Nodup
 len:ps.length<64
theorem EB{b:Type}(a:List b)(i:Nat):cut a none (some (i:Int))=a.take i:=by
 unfold cut U8;simp only[List.drop_zero,Qq];rw[if_neg (by simp)];rw[List.take_eq_take_iff];omega
theorem EC{n:Int}{ps:List (Int×Int)}(W:N1 n ps){A:PHp}{r:Nat}(m:A[r]?=some (.lst (aJ ps))) :
 ∃A',G1 [.int n,.ref r] A=.ok .non A'/\A<+:A':=by
 have o:Comes (Q0 [some (.int n),some (.ref r),none,none] A) (λσ A'=>A<+:A') (λ_ _=>False):=by
  refine(zJ (l:=aJ ps) (a:=r) (by simp_all) (λi σ A'=>A<+:A'/\∃x y,σ=[some _,some _,x,y]) _ ⟨IU _,_,_,rfl⟩ ?_ ?_).mono (λ_ _ h=>h.1) (λ_ _ h=>h)
  .rintro i σ A' ⟨f,_⟩;simp[ah f m]
  .rintro i v σ A' q ⟨f,x,y,rfl⟩;have g:=ah f m;obtain⟨p,b,rfl⟩:∃p,ps[i]?=some p/\v=pv p:=by
    simp only[aJ,Ja]at q;cases e:ps[i]? with
    | none=>simp_all
    | some p=>simp_all
   have c:=Jn b;have s:=W.good p c;have d:p∉ps.take i:=by
    intro u;have k:=(IQ.mp b).1;obtain⟨j,w,e⟩:=Jk.mp u;rw[JD]at w;rw[LR]at e;have z:ps[i]=p:=(IQ.mp b).2;exact Jy.mp W.nd j i _ k (by omega) (e.trans z.symm)
   have B:cut (aJ ps) none (some (i:Int))=aJ (ps.take i):=by rw[EB];simp[aJ]
   refine dW.nx (σ:=[some _,some _,some (.int i),some (pv p)]) (A:=A'++[.lst (aJ (ps.take i))]) ?_ ⟨E4 f,_,_,rfl⟩;simp[P9,o9,s,g,B,Ee,pR,pS,d]
 obtain⟨σ,A',e,h⟩:=o.end;refine⟨A',?_,h⟩;simp[G1,e]
noncomputable def l2(p:Int×Int):List Int:=[p.1,p.2]
noncomputable def gQ(p q:Int×Int):Bool:=D0 (l2 p) (l2 q)
noncomputable def srt(ps:List (Int×Int)):List (Int×Int):=D8 gQ ps
theorem vh{c d:Type}(f:c->d)(lt:d->d->Bool)(a:c):∀l:List c,d8 lt (f a) (l.map f)=(d8 (λx y=>lt (f x) (f y)) a l).map f
 | []=>rfl
 | b::r=>by
   have ih:=vh f lt a r;simp only[Jb,d8];split
   .simp_all
   .rfl
theorem t6{c b:Type}(f:c->b)(lt:b->b->Bool):∀l:List c,D8 lt (l.map f)=(D8 (λx y=>lt (f x) (f y)) l).map f
 | []=>rfl
 | a::r=>by
   simp only[Jb,D8];rw[t6 f lt r,vh]
theorem ma(ps:List (Int×Int)):aJ ps=(ps.map l2).map λt=>PV.tup (t.map .int):=by
 simp[aJ,pv,l2]
theorem EE{ps:List (Int×Int)}{A:PHp}(h:ps.length<64):m8 (aJ ps) A=.ok (aJ (srt ps)) A:=by
 rw[ma,w6 (by simp_all) (by intro t a;obtain⟨p,_,rfl⟩:=IB.mp a;simp[l2]),t6,ma];rfl
theorem G4(ps:List (Int×Int)):(srt ps).Perm ps:=K2 _ _
structure bA(A:PHp)(w r:Nat)(n:Int)(ps:List (Int×Int)):Prop where
 ob:A[w]?=some (.ins 0 [(0,.int n),(1,.ref r)])
 ls:A[r]?=some (.lst (aJ (srt ps)))
theorem bA.mono{A B:PHp}{w r:Nat}{n:Int}{ps:List (Int×Int)}(h:bA A w r n ps)(e:A<+:B):bA B w r n ps:=⟨ah e h.ob,ah e h.ls⟩
theorem EF{n:Int}{ps:List (Int×Int)}(W:N1 n ps){A B:PHp}{w q:Nat}(p:A<+:B)(l:A.length<=w)(c:B[w]?=some (.ins 0 []))(d:B[q]?=some (.lst (aJ ps))) :
 ∃e r,P0 [.ref w,.int n,.ref q] B=.ok .non e/\A<+:e/\bA e w r n ps/\w<r:=by
 obtain⟨m,s,f⟩:=EC W d;have a:=ah f c;have g:=ah f d;have h:=G8 a;have i:q≠w:=by rintro rfl;rw[d]at c;cases c
 have j:(m.set w (.ins 0 [(0,.int n)]))[q]?=some (.lst (aJ ps)):=by rw[D9 i];exact g
 have k:(m.set w _)[w]?=some (.ins 0 [(0,.int n)]):=aP a;have b:=ao (o:=PO.lst (aJ (srt ps))) k;refine⟨(_++[PO.lst _]).set w _,_,?_,?_,⟨aP b,?_⟩,h⟩
 .simp[P0,EA,W.lo,W.hi,s,a,j,b,EE W.len]
 .exact Y2 (E4 (Y2 (p.trans f) l)) l
 .simp_all
theorem EH{n:Int}{ps:List (Int×Int)}(W:N1 n ps){A:PHp}{q:Nat}(b:A[q]?=some (.lst (aJ ps))) :
 ∃a r,P0 [.ref A.length,.int n,.ref q] (A++[.ins 0 []])=.ok .non a/\A<+:a/\bA a A.length r n ps/\A.length<r:=
 EF W (IJ _ _) (IC _) ax (ao b)
noncomputable def N4(ps:List (Int×Int))(h:Int):List Int:=(ps.filter λp=>decide (p.1=h)).map (·.2)
theorem EI(ps:List (Int×Int))(h:Int):((aJ ps).filter λv=>decide (ip v=h)).map (λv=>PV.int (gN v))=(N4 ps h).map .int:=by
 simp only[aJ,N4,My,J1];rfl
theorem vi{b:Type}{a:List b}{j:Nat}(h:j<a.length):atI a (j:Int)=some a[j]:=by
 unfold atI ixN;simp[h]
theorem qc{b:Type}(a:List b)(i:Nat):cut a (some (i:Int)) none=a.drop i:=by
 unfold cut U8;simp only;rw[if_neg (by simp)];rw[show(min (i:Int) _).toNat=min i a.length by omega];by_cases h:i<=a.length
 .rw[Nat.min_eq_left h,LA (by simp)]
 .rw[Nat.min_eq_right (by omega),List.drop_length,MF (by omega)];simp
theorem md{f:OD}{a b:ED}{σ:PSt}{A A1 A2 c:PHp}{x y z:PV}(d:a σ A=.ok x A1)(e:b σ A1=.ok y A2)(g:f x y A2=.ok z c):C3 f a b σ A=.ok z c:=by simp_all
theorem qd{e:ED}{σ:PSt}{A A1:PHp}{b:Bool}(h:e σ A=.ok (.bl b) A1):D3 e σ A=.ok b A1:=by simp_all
theorem vj(p q:Int×Int):gQ p q=true↔p.1<q.1\/(p.1=q.1/\p.2<q.2):=by
 unfold gQ l2 D0 D0;by_cases h:p.1=q.1
 .by_cases a:p.2=q.2<;>simp[h,a,D0]
 .simp[h]
theorem qe(p q:Int×Int):gQ p q=false↔¬(p.1<q.1\/(p.1=q.1/\p.2<q.2)):=by
 rw[<-vj];simp
theorem EJ(ps:List (Int×Int)):(srt ps).Pairwise (λp q=>gQ q p=false):=by
 refine U3 ?_ ?_ ps
 .intro a b h;rw[vj]at h;rw[qe];omega
 .intro a b c d e;rw[qe]at *;omega
theorem EK(ps:List (Int×Int))(h:Int):(N4 ps h).length<=ps.length:=by
 unfold N4;rw[Iz];exact JE _ _
theorem vk{a:ED}{σ:PSt}{A A1:PHp}{u:PV}(b:a σ A=.ok u A1):ai a aNil σ A=.ok [u] A1:=by simp_all
theorem EL{c:Nat}{f:Fun}{a:ED}{es:AD}{σ:PSt}{A A1 A2 b:PHp}{n:Nat}{fs:List (Nat×PV)}{vs:List PV}{v:PV}(d:a σ A=.ok (.ref n) A1)(e:A1[n]?=some (.ins c fs))(h:es σ A1=.ok vs A2)(g:f (.ref n::vs) A2=.ok v b):O2 c f a es σ A=.ok v b:=by simp_all
noncomputable def S6(N:Nat):List Int:=(Jj N).map λ(k:Nat)=>(k:Int)
theorem mem_hands{N:Nat}{x:Int}:x∈S6 N↔0<=x/\x<N:=by
 unfold S6;rw[IB];constructor
 .grind
 .rintro⟨a,b⟩;exact⟨x.toNat,JG.mpr (by omega),by omega⟩
theorem aT(N:Nat):(S6 N).length=N:=by simp[S6]
theorem l6(N:Nat):(S6 N).Pairwise (·< ·):=by
 unfold S6;rw[Kv];exact Pf.imp λh=>by omega
theorem EM(N:Nat):(S6 N).Nodup:=(l6 N).imp λh z=>by omega
theorem EN{e:ED}{σ:PSt}{A A1:PHp}{v:PV}(h:e σ A=.ok v A1):I9 e σ A=.ok (.rt v) A1:=by simp_all
theorem EO{ps:List (Int×Int)}{a b:Int}:b∈N4 (srt ps) a↔(a,b)∈ps:=by
 unfold N4;rw[IB];constructor
 .rintro⟨⟨x,y⟩,c,rfl⟩;rw[Ji]at c;obtain⟨e,d⟩:=c;simp at d;subst d;exact(G4 ps).mem_iff.mp e
 .intro h;exact⟨_,Ji.mpr ⟨(G4 ps).mem_iff.mpr h,by simp⟩,rfl⟩
theorem ES(x:Int)(M:List Int):eE (.int x) (M.map .int)=decide (x∈M):=by
 induction M with
 | nil=>rfl
 | cons y r ih=>
   show(bC _ _||eE _ _)=_;rw[ih];by_cases h:y=x
   .simp[bC,h]
   .have:x≠y:=λz=>h z.symm;simp[bC,h,this]
section
variable{A:PHp}{Q:PV->PHp->Prop}{E:XP}{σ:PSt}{i j:Int}{n k:Nat}{e e1 e2 e3 e4:ED}
theorem w_shr(h:0<=j)(q:Q (.int (i / 2 ^ j.toNat)) A):Wp (kU (.int i) (.int j)) A Q E:=C8 h q
theorem w_shl(h:0<=j/\j<=1000000/\i.natAbs<2 ^ 64)(q:Q (.int (i*2 ^ j.toNat)) A):Wp (nC (.int i) (.int j)) A Q E:=C8 h q
theorem ET(q:Q (.int (Kc i j)) A):Wp (kW (.int i) (.int j)) A Q E:=q
abbrev DT:=List (List Int×PV)
variable{m:DT}
theorem l7{a:DT->PHp->Prop}(h:A[n]?=some (.dT m))(q:a m A):Wp (V9 n) A a E:=w_eq (by unfold V9;rw[h]) q
theorem EU(q:Q (.ref A.length) (A++[.dT []])):Wp (eTNew σ) A Q E:=q
theorem EV(h:Wp (e1 σ) A (λk b=>Wp (e2 σ) b (λx a=>∃n i m,x=.ref n/\P5 k=some i/\a[n]?=some (.dT m)/\Q (.bl (L9 m i).isSome) a) E) E):Wp (iF e1 e2 σ) A Q E:=
 B9 (ae h λk b c=>B9 (ae c λx a ⟨n,i,m,d,f,g,q⟩=>by subst d;rw[f];exact B9 (l7 g q)))
theorem EW(h:Wp (e1 σ) A (λx b=>Wp (e2 σ) b (λk a=>∃n i m v,x=.ref n/\P5 k=some i/\a[n]?=some (.dT m)/\L9 m i=some v/\Q v a) E) E):Wp (jc e1 e2 σ) A Q E:=
 B9 (ae h λx b c=>B9 (ae c λk a ⟨n,i,m,v,d,f,g,l,q⟩=>by subst d;rw[f];exact B9 (l7 g (by rw[l];exact q))))
theorem EX(h:Wp (e1 σ) A (λx A1=>∃n b,x=.ref n/\A1[n]?=some (.dT b)/\Wp (e2 σ) A1 (λk a=>∃i m,P5 k=some i/\a[n]?=some (.dT m)/\Q ((L9 m i).getD .non) a) E) E):Wp (nA e1 e2 σ) A Q E:=
 B9 (ae h λx A1 c=>by
  obtain⟨n,b,d,f,g⟩:=c;subst d;exact B9 (l7 f (B9 (ae g λk a ⟨i,m,l,o,q⟩=>by rw[l];exact B9 (l7 o q)))))
theorem eX(h:Wp (e1 σ) A (λx A1=>∃n b,x=.ref n/\A1[n]?=some (.dT b)/\Wp (e2 σ) A1 (λk c=>Wp (e3 σ) c (λv a=>∃i m,P5 k=some i/\a[n]?=some (.dT m)/\Q ((L9 m i).getD v) a) E) E) E):Wp (nB e1 e2 e3 σ) A Q E:=
 B9 (ae h λx A1 d=>by
  obtain⟨n,b,f,g,l⟩:=d;subst f;exact B9 (l7 g (B9 (ae l λk c o=>B9 (ae o λv a ⟨i,m,p,r,q⟩=>by rw[p];exact B9 (l7 r q))))))
theorem EY{b:Fl->PHp->Prop}(h:Wp (e3 σ) A (λv c=>Wp (e1 σ) c (λx d=>Wp (e2 σ) d (λk a=>∃n i m,x=.ref n/\P5 k=some i/\a[n]?=some (.dT m)/\m.length<LIM/\b (.nx σ) (a.set n (.dT (Y6 m i v)))) E) E) E):Wp (jK e1 e2 e3 σ) A b E:=
 B9 (ae h λv c f=>B9 (ae f λx d g=>B9 (ae g λk a l=>by
  obtain⟨n,i,m,o,p,r,s,q⟩:=l;subst o;rw[p];exact B9 (l7 r (C8 s (B9 (w_eq rfl q)))))))
theorem EZ(h:Wp (e σ) A (λx a=>∃n m,x=.ref n/\a[n]?=some (.dT m)/\((m.map (·.1)).Nodup/\∀p∈m,p.1∈small)/\Q (.ref a.length) (a++[.dT m])) E):Wp (nE e σ) A Q E:=
 B9 (ae h λx a ⟨n,m,b,c,d,q⟩=>by subst b;exact B9 (l7 c (C8 d q)))
theorem E2{x y:PySem.Str}(q:Q (.bl (decide (x=y))) A):Wp (cO (.str x) (.str y)) A Q E:=DA rfl rfl q
theorem Fb{x y:PySem.Str}(q:Q (.bl (!decide (x=y))) A):Wp (dH (.str x) (.str y)) A Q E:=DB rfl rfl q
theorem Fc(h:Wp (e σ) A (λx a=>∃n l b,x=.ref n/\a[n]?=some (.lst l)/\m8 l a=.ok b a/\Q (.ref a.length) (a++[.lst b])) E):Wp (kQ e σ) A Q E:=B9 (ae h λx a ⟨n,l,b,c,d,f,q⟩=>by subst c;exact B9 (Q4 d (B9 (w_eq f q))))
end
theorem kl{m:DT}{i:List Int}{v:PV}(h:i∉m.map (·.1)):Y6 m i v=m++[(i,v)]:=by
 unfold Y6;rw[if_neg];rw[List.any_eq_true];rintro⟨p,a,b⟩;exact h (IB.mpr ⟨p,a,by simpa using b⟩)
theorem Fd{m:DT}{i:List Int}{v:PV}(b:(m.map (·.1)).Nodup)(h:(i,v)∈m):L9 m i=some v:=by
 induction m with
 | nil=>cases h
 | cons p r ih=>
   unfold L9;rcases IH.mp h with z | z
   .rw[<-z,if_pos rfl]
   .have a:=Ki.mp b;have:p.1≠i:=λe=>a.1 (IB.mpr ⟨_,z,e.symm⟩);rw[if_neg this];exact ih a.2 z
section
variable{α:Type}{m:M α}{A:PHp}{E:XP}{σ:PSt}
theorem km{Q:α->PHp->Prop}(h:Wp m A Q NoX):Wp (dX m) A Q E:=by
 obtain⟨a,b,e,q⟩:=kd h;exact w_eq (zP e) q
theorem me{s:SD}{Q:Fl->PHp->Prop}(h:Wp (s σ) A Q NoX):Wp (fg s σ) A Q E:=km h
theorem Fe{t:TD}{Q:Bool->PHp->Prop}(h:Wp (t σ) A Q NoX):Wp (gH t σ) A Q E:=km h
theorem Ff{c:Nat}{e:ED}{Q:Fl->PHp->Prop}(h:Wp (e σ) A (λv a=>E c v a) NoX):Wp (i7 c (ai e aNil) σ) A Q E:=by
 refine B9 (km (uS (ae h λv a b=>uR ?_)));exact b
end
section
variable{A:PHp}{E:XP}{n:Nat}{l:List PV}{m:DT}
theorem qf{R:Nat->DT->Prop}(h:A[n]?=some (.dT m))(q:R n m):∃a b,PV.ref n=.ref a/\A[a]?=some (.dT b)/\R a b:=⟨n,m,rfl,h,q⟩
theorem qg{k:PV}{i:List Int}{R:List Int->DT->Prop}(c:P5 k=some i)(h:A[n]?=some (.dT m))(q:R i m):∃a b,P5 k=some a/\A[n]?=some (.dT b)/\R a b:=⟨i,m,c,h,q⟩
theorem qh{k:PV}{i:List Int}{R:Nat->List Int->DT->Prop}(d:P5 k=some i)(h:A[n]?=some (.dT m))(q:R n i m):∃a b c,PV.ref n=.ref a/\P5 k=some b/\A[a]?=some (.dT c)/\R a b c:=⟨n,i,m,rfl,d,h,q⟩
theorem qi{k:PV}{i:List Int}{v:PV}{R:PV->Prop}(e:P5 k=some i)(h:A[n]?=some (.dT m))(f:L9 m i=some v)(q:R v):∃a b c d,PV.ref n=.ref a/\P5 k=some b/\A[a]?=some (.dT c)/\L9 c b=some d/\R d:=⟨n,i,m,v,rfl,e,h,f,q⟩
theorem gd{o:PO}{k:Nat}(h:A.length=k):(A++[o])[k]?=some o:=by subst h;exact ax
theorem Fg{c:Bool}{P R:Prop}(h:c=false)(q:R):(c=true->P)/\(c=false->R):=⟨λz=>(by simp_all),λ_=>q⟩
theorem Fh{c:Bool}{P R:Prop}(h:c=true)(q:P):(c=true->P)/\(c=false->R):=by simp_all
end
section
variable{A:PHp}{E:XP}{σ:PSt}{Q:PV->PHp->Prop}{QF:Fl->PHp->Prop}{g:GD}{s b:SD}{es:AD}{e:ED}
theorem Fi{d:List Nat}{hs:List Hd}(h:Wp (b σ) A QF (λc v a=>c∈d/\Wp (d3 hs c v σ) a QF E)):Wp (jJ d b hs σ) A QF E:=by
 unfold Wp at h ⊢;unfold jJ;cases e:b σ A with
 | ok f a=>simp_all
 | ex c v a=>
   rw[e]at h;dsimp only at h ⊢;rw[L7 h.1];exact h.2
 | no=>simp_all
theorem Fj{c k:Nat}{v:PV}{r:List Hd}(hs:gI c k=true)(h:Wp (b σ) A QF E):Wp (d3 ((k,none,b)::r) c v σ) A QF E:=by
 unfold d3;rw[if_pos hs];exact h
theorem Fk{c:Nat}{f:Fun}(h:Wp (e σ) A (λx A1=>∃n fs,x=.ref n/\A1[n]?=some (.ins c fs)/\Wp (es σ) A1 (λd i=>Wp (f (.ref n::d)) i Q E) NoX) NoX):Wp (r9 c f e es σ) A Q E:=
 B9 (km (ae h λx A1 j=>by
  obtain⟨n,fs,k,m,l⟩:=j;subst k;exact B9 (w_eq (a:=(c,fs)) (by simp_all) (C8 rfl (B9 (km l))))))
end
end Ws
local macro_rules | `(tactic| walk_at "s1")=>`(tactic| first
 | with_reducible first
   | refine Ws.w_makeX ?_
   | refine Ws.w_callX ?_
   | refine Ws.Fk ?_
   | refine Ws.w_at ?_
   | refine Ws.w_isE ?_
   | refine Ws.w_isV ?_)
local macro_rules | `(tactic| walk_at "s3")=>`(tactic| ((with_reducible apply Ws.exX);(·walk_at "st");(·decide)))
local macro_rules | `(tactic| walk_at "s1")=>`(tactic| first
 | with_reducible first
   | refine Ws.w_isStr ?_
   | refine Ws.EW ?_
   | refine Ws.EX ?_
   | refine Ws.eX ?_
   | refine Ws.EY ?_
   | refine Ws.EV ?_
   | refine Ws.w_lenT ?_
   | refine Ws.EZ ?_
   | refine Ws.w_tclear ?_
   | refine Ws.w_tvals ?_
   | refine Ws.w_tpop2 ?_
   | refine Ws.w_intB ?_
   | refine Ws.w_revL ?_
   | refine Ws.Fc ?_
   | refine Ws.w_max ?_
   | refine Ws.w_maxD ?_
   | refine Ws.me ?_
   | refine Ws.Fe ?_
   | refine Ws.w_iNoX ?_
   | refine Ws.w_gNoX ?_
   | refine Ws.Ff ?_)
local macro_rules | `(tactic| walk_at "s2")=>`(tactic| first
 | with_reducible first
   | refine Ws.ET ?_
   | refine Ws.EU ?_
   | refine Ws.E2 ?_
   | refine Ws.Fb ?_
 | ((with_reducible apply Ws.w_shr);(·omega))
 | ((with_reducible apply Ws.w_shl);(·omega))
 | ((with_reducible apply Ws.w_isTyT);(·walk_at "st")))
local macro_rules | `(tactic| walk_at "s3")=>`(tactic| first
 | ((with_reducible apply Ws.qf);(·walk_at "st"))
 | ((with_reducible apply Ws.qg);(·rfl);(·walk_at "st"))
 | ((with_reducible apply Ws.qh);(·rfl);(·walk_at "st"))
 | ((with_reducible apply Ws.qi);(·rfl);(·walk_at "st");(·first | assumption | rfl)))
local macro_rules | `(tactic| walk_at "pre")=>`(tactic| first
 | assumption
 | exact IU _
 | (refine Ws.E4 ?_;walk_at "pre")
 | ((refine Ws.Y2 ?pp ?nn);(case nn=>walk_at "ne");(case pp=>walk_at "pre"))
 | (refine List.IsPrefix.trans (by assumption) ?_;walk_at "pre"))
local macro_rules | `(tactic| walk_at "s3")=>`(tactic| ((with_reducible refine And.intro (a:=List.IsPrefix _ _) ?h1 ?_);(case h1=>walk_at "pre")))
local macro_rules | `(tactic| walk_at "s3")=>`(tactic| ((with_reducible refine And.intro (a:=_<900) ?h1 ?_);(case h1=>((simp only[J2,JN,Ws.putFld,Nat.reduceEqDiff,if_false]);(try omega)))))
local macro_rules | `(tactic| walk_at "ne")=>`(tactic| first
 | assumption
 | omega
 | ((simp only[MD,IT,J2,JN]);omega))
local macro_rules | `(tactic| walk_at "st")=>`(tactic| first
 | ((with_reducible refine Ws.gd ?_);(first | rfl | ((simp only[MD,IT,J2,JN]);done) | ((simp only[MD,IT,J2,JN]);omega)))
 | ((with_reducible apply Ws.aP);walk_at "st")
 | ((with_reducible apply Ws.ao);walk_at "st")
 | ((refine(Ws.D9 ?ne).trans ?_);(case ne=>walk_at "ne");walk_at "st"))
local macro_rules | `(tactic| walk_at "br")=>`(tactic| first
 | ((with_reducible refine Ws.Fg ?_ ?_);(·first | rfl | (simp;done) | decide))
 | ((with_reducible refine Ws.Fh ?_ ?_);(·first | rfl | (simp;done) | decide)))
local macro_rules | `(tactic| walk_at "gb")=>`(tactic| repeat (first | walk_at "s" | walk_at "br"))
namespace Ws
section
variable{A:PHp}{Q:PV->PHp->Prop}{E:XP}{σ:PSt}{e e1 e2 e3:ED}
theorem w_any(h:Wp (e σ) A (λx A1=>∃n bs,x=.ref n/\A1[n]?=some (.lst (NS .bl bs))/\Q (.bl (bs.any id)) A1) E):Wp (gJ e σ) A Q E:=
 B9 (ae h λx A1 a=>by
  obtain⟨n,bs,b,c,q⟩:=a;subst b;refine B9 (Q4 c ?_);rw[pI];exact q)
theorem dM(h:Wp (e1 σ) A (λx A1=>∃n f,x=.ref n/\A1[n]?=some (.dT f)/\Wp (e2 σ) A1 (λk g=>Wp (e3 σ) g (λv b=>∃i m,P5 k=some i/\b[n]?=some (.dT m)/\
 (∀w,L9 m i=some w->Q w b)/\(L9 m i=none->m.length<LIM/\Q v (b.set n (.dT (Y6 m i v))))) E) E) E):Wp (jd e1 e2 e3 σ) A Q E:=
 B9 (ae h λx A1 c=>by
  obtain⟨n,f,l,o,p⟩:=c;subst l;refine B9 (l7 o (B9 (ae p λk g q=>B9 (ae q λv b c=>?_))));obtain⟨i,m,r,s,u,j⟩:=c;rw[r];refine B9 (l7 s ?_);cases d:L9 m i with
  | some w=>exact u w d
  | none=>exact C8 (j d).1 (B9 (w_eq (a:=()) rfl (j d).2)))
theorem fz(h:Wp (e σ) A (λx A1=>∃n l m,x=.ref n/\A1[n]?=some (.lst l)/\gv l=some m/\m.length<LIM/\Q (.ref A1.length) (A1++[.dT (m.foldl (λa p=>Y6 a p.1 p.2) [])])) E):Wp (nG e σ) A Q E:=
 B9 (ae h λx A1 b=>by
  obtain⟨n,l,m,c,d,f,g,q⟩:=b;subst c;refine B9 (iM d ?_);rw[f];exact C8 g q)
end
end Ws
local macro_rules | `(tactic| walk_at "s1")=>`(tactic| first
 | with_reducible refine Ws.w_any ?_
 | with_reducible refine Ws.dM ?_
 | with_reducible refine Ws.fz ?_)
namespace Ws
section
theorem qj{a d:Type}(f:a->d)(b:List a)(lo c:Option Int):cut (b.map f) lo c=(cut b lo c).map f:=by
 unfold cut;rw[Iz,ON,Mz]
end
noncomputable def d5:List Int->Bool
 | a::b::r=>decide (a<b)&&d5 (b::r)
 | _=>true
noncomputable def l8(n:Int)(L:List Int):Bool:=!decide (L=[])&&(L.all λh=>decide (0<=h/\h<n))&&d5 L
theorem vl:∀L:List Int,(((g7 (L.map .int) ((L.drop 1).map .int)).map λv=>decide (ip v<gN v)).all id)=d5 L
 | []=>rfl
 | [a]=>rfl
 | a::b::r=>by
   have ih:=vl (b::r);rw[d5,<-ih];rfl
theorem Fm{L M:List Int}{v:PV}(h:v∈g7 (L.map .int) (M.map .int)):∃a b:Int,v=.tup [.int a,.int b]:=by
 induction L generalizing M with
 | nil=>cases h
 | cons a r ih=>
   cases M with
   | nil=>cases h
   | cons b s=>
     rcases IH.mp h with z | z
     .exact⟨a,b,z⟩
     .exact ih z
theorem dN{A:PHp}{l:Nat}{L:List Int}(f:A[l]?=some (.lst (L.map .int)))(j:L.length<=1000):Wp (V3 [.ref l]) A (λv A'=>A<+:A'/\v=.bl (d5 L)) NoX:=by
 walk_at "fn";walk_at "go";refine U6 (l:=g7 (L.map .int) ((L.drop 1).map .int)) (λe=>∃x y,e=[x,y]) (λ_=>true) (λv=>.bl (decide (ip v<gN v))) ?_;walk_at "go";have g:cut (L.map PV.int) (some 1) none=(L.drop 1).map .int:=by rw[qj];exact congrArg _ (qc L 1)
 rw[g];have d:(A++[PO.lst ((L.drop 1).map .int)])[l]?=some _:=ao f;have c:=vc (L.map .int) ((L.drop 1).map .int);rw[Iz]at c;walk_at "go";refine⟨L.length,?_,c,J6 (by omega),⟨_,_,rfl⟩,λi=>Ec d ax i,?_,?_⟩
 .simp_all
 .rintro v e h ⟨x,y,rfl⟩;obtain⟨a,b,rfl⟩:=Fm h;walk_at "go";refine⟨rfl,⟨_,_,rfl⟩,?_⟩;walk_at "go";refine⟨rfl,rfl,λ_=>?_⟩;walk_at "go";exact⟨rfl,rfl⟩
 .refine⟨_,(g7 (L.map .int) ((L.drop 1).map .int)).map λv=>decide (ip v<gN v),rfl,?_,?_⟩
  .rw[ax,JA.mpr (by simp),J1];rfl
  .rw[vl];exact⟨E4 (IJ _ _),rfl⟩
theorem di{A:PHp}{w r l:Nat}{n:Int}{ps:List (Int×Int)}(W:bA A w r n ps){L:List Int}(f:A[l]?=some (.lst (L.map .int)))(g:L.length<=1000):Wp (Q1 [.ref w,.ref l]) A (λv A'=>A<+:A'/\v=.bl (l8 n L)) NoX:=by
 walk_at "fn";walk_at "gb";refine⟨λc=>?_,λc=>?_⟩
 .walk_at "go";have:=of_decide_eq_true c;simp[l8,this]
 have d:=of_decide_eq_false c;walk_at "go";have j:=W.mono (IJ A [PO.lst []]);have k:=j.ob;have a:(A++[PO.lst []])[l]?=some _:=ao f;refine U6 (l:=L.map .int) (λe=>∃x,e=[x,some (.ref w)]) (λ_=>true) (λv=>match v with | .int h=>.bl (decide (0<=h/\h<n)) | _=>.non) ?_;walk_at "go";refine⟨L.length,by rw[P7 a];simp,by simp,by simp;exact J6 (by omega),⟨_,rfl⟩,λi=>P8 a i,?_,?_⟩
 .rintro v e m ⟨x,rfl⟩;obtain⟨h,q,rfl⟩:=IB.mp m;walk_at "go";refine⟨rfl,⟨_,rfl⟩,?_⟩;walk_at "go";refine⟨rfl,rfl,λ_=>?_⟩;walk_at "go";exact w_eq (bK _ _ _) ⟨rfl,rfl⟩
 .refine⟨_,L.map λh=>decide (0<=h/\h<n),rfl,?_,?_⟩
  .rw[ax,JA.mpr (by simp),J1,J1];rfl
  .refine⟨_,rfl,λb=>?_,λb=>?_⟩
   .walk_at "go";refine ae (dN (ao a) g) λv s ⟨o,p⟩=>⟨(E4 (IJ _ _)).trans o,?_⟩;rw[p];have:(L.all λh=>decide (0<=h/\h<n))=true:=by rw[List.all_map]at b;exact b
    simp only[l8,this,d];simp
   .refine⟨E4 (IJ _ _),?_⟩;have:(L.all λh=>decide (0<=h/\h<n))=false:=by rw[List.all_map]at b;exact b
    simp only[l8,this];simp
theorem vm:∀{L:List Int},d5 L=true->L.Pairwise (·< ·)
 | [],_=>.nil
 | [a],_=>by simp
 | a::b::r,h=>by
   rw[d5,Jc]at h;have ih:=vm h.2;have c:=of_decide_eq_true h.1;refine Jz.mpr ⟨λx d=>?_,ih⟩;rcases IH.mp d with z | z
   .simp_all
   .have:=(Jz.mp ih).1 x z;omega
theorem vn:∀{L:List Int},L.Pairwise (·< ·)->d5 L=true
 | [],_=>rfl
 | [a],_=>rfl
 | a::b::r,h=>by
   rw[d5,Jc];have c:=Jz.mp h;exact⟨decide_eq_true (c.1 b IE),vn c.2⟩
theorem qk:∀{L M:List Int},L.Pairwise (·< ·)->M.Pairwise (·< ·)->(∀x,x∈L↔x∈M)->L=M
 | [],[],_,_,_=>rfl
 | [],b::s,_,_,h=>by have:=(h b).mpr IE;cases this
 | a::r,[],_,_,h=>by have:=(h a).mp IE;cases this
 | a::r,b::s,g,i,h=>by
   have d:=Jz.mp g;have f:=Jz.mp i;have e:a=b:=by
    have j:=(h a).mp IE;have k:=(h b).mpr IE;rcases IH.mp j with z | z
    .omega
    .rcases IH.mp k with y | y
     .exact y.symm
     .have:=f.1 a z;have:=d.1 b y;omega
   subst e;rw[qk d.2 f.2 λx=>⟨λc=>?_,λc=>?_⟩]
   .rcases IH.mp ((h x).mp (IF _ c))with z | z
    .have:=d.1 x c;omega
    .omega
   .rcases IH.mp ((h x).mpr (IF _ c))with z | z
    .have:=f.1 x c;omega
    .omega
theorem lead_iff{N:Nat}{L:List Int}:l8 N L=true↔L=(S6 N).filter (λh=>decide (h∈L))/\L≠[]:=by
 unfold l8;constructor
 .intro h;rw[Jc,Jc]at h;refine⟨qk (vm h.2) ((l6 N).filter _) λx=>?_,by simpa using h.1.1⟩;have c:=Jg.mp h.1.2;rw[Ji,mem_hands];exact⟨λa=>⟨of_decide_eq_true (c x a),decide_eq_true a⟩,λa=>of_decide_eq_true a.2⟩
 .rintro⟨h,b⟩;have d:L.Pairwise (·< ·):=by rw[h];exact(l6 N).filter _
  rw[Jc,Jc];refine⟨⟨by simpa using b,Jg.mpr λx a=>?_⟩,vn d⟩;rw[h,Ji]at a;exact decide_eq_true (mem_hands.mp a.1)
theorem Fn{a b:Int}(c:0<=a/\a<10)(d:0<=b/\b<10):[a,b]∈small:=by
 unfold small;rw[List.mem_flatten];refine⟨_,IB.mpr ⟨a.toNat,JG.mpr (by omega),rfl⟩,IB.mpr ⟨b.toNat,JG.mpr (by omega),?_⟩⟩;rw[Mj c.1,Mj d.1]
theorem t7{p q:Int×Int}(h:l2 p=l2 q):p=q:=by
 obtain⟨a,b⟩:=p;simp[l2]at h;simp[h]
noncomputable def cS(m:DT)(p:Int×Int):Int:=match L9 m (l2 p)with
 | some (.int z)=>z
 | _=>0
noncomputable def limD(a:List (Int×Int))(f:Int×Int->Int):DT:=a.map λp=>(l2 p,PV.int (f p))
theorem vo(a:List (Int×Int))(f:Int×Int->Int):(limD a f).map (·.1)=a.map l2:=by unfold limD;rw[J1];rfl
theorem vp{d:List (Int×Int)}{f:Int×Int->Int}(h:d.Nodup):((limD d f).map (·.1)).Nodup:=by
 rw[vo];exact Ov _ (λa b c z=>c (t7 z)) h
theorem vq{a:List (Int×Int)}{f:Int×Int->Int}(h:a.Nodup){p:Int×Int}(b:p∈a):L9 (limD a f) (l2 p)=some (.int (f p)):=Fd (vp h) (IB.mpr ⟨p,b,rfl⟩)
theorem Fo{a:List (Int×Int)}{f:Int×Int->Int}{n:Int}(e:n<=6)(b:∀p∈a,good n p):∀p∈limD a f,p.1∈small:=λp c=>by
 obtain⟨q,d,rfl⟩:=IB.mp c;have:=b q d;exact Fn ⟨this.1.1,by have:=this.1.2;omega⟩ ⟨this.2.1.1,by have:=this.2.1.2;omega⟩
theorem Fp{a:List (Int×Int)}{f:Int×Int->Int}{p:Int×Int}(b:p∉a):Y6 (limD a f) (l2 p) (.int (f p))=limD (a++[p]) f:=by
 rw[kl]
 .simp[limD]
 .rw[vo];intro z;obtain⟨q,c,e⟩:=IB.mp z;rw[<-t7 e]at b;exact b c
structure cI(A:PHp)(P w r:Nat)(n:Int)(ps:List (Int×Int))(L:List Int)(f:Int×Int->Int)(ll dl dk:Nat):Prop where
 web:bA A w r n ps
 ob:A[P]?=some (.ins 1 [(3,.ref w),(4,.ref ll),(5,.ref dl),(9,.tup (L.map .int)),(10,.ref dk)])
 ls:A[ll]?=some (.lst (L.map .int))
 ld:A[dl]?=some (.dT (limD (srt ps) f))
 lk:A[dk]?=some (.dT (limD (srt ps) f))
theorem cI.mono{A B:PHp}{P w r:Nat}{n:Int}{ps:List (Int×Int)}{L:List Int}{f:Int×Int->Int}{a dl b:Nat}(h:cI A P w r n ps L f a dl b)(e:A<+:B):cI B P w r n ps L f a dl b:=
 ⟨h.web.mono e,ah e h.ob,ah e h.ls,ah e h.ld,ah e h.lk⟩
theorem Fq{z:Int}(h:0<=z)(A:PHp):T9 [.int z] A=.ok (.bl true) A:=by simp[T9,h]
section
variable{A:PHp}{w r l d:Nat}{n:Int}{ps:List (Int×Int)}{L:List Int}{m:DT}
theorem eO(h:ps.Nodup):(srt ps).Nodup:=(G4 ps).nodup_iff.mpr h
theorem gR{B:PHp}{P k:Nat}(W:bA A w r n ps)(Y:A[d]?=some (.dT m))(D:ps.Nodup)(N:ps.length<64)(hm:∀p∈ps,∃z,0<=z/\L9 m (l2 p)=some (.int z))
 (O:A<+:B) (hk:A.length<=k) (hB:B[k]?=some (.dT [])) (E:P≠k) {G:PO} (hP:B[P]?=some G) :
 Wp (X6 [some (.ref P),some (.ref w),some (.ref l),some (.ref d),some (.ref k),none]) B (λo a=>(∃x,o=.nx [some (.ref P),some (.ref w),some (.ref l),some (.ref d),some (.ref k),x])/\A<+:a/\a[P]?=some G/\a.length=B.length/\a[k]?=some (.dT (limD (srt ps) (cS m)))) NoX:=by
 unfold X6;have hs:∀p∈srt ps,p∈ps:=λp c=>(G4 ps).mem_iff.mp c;refine kj (λi C a=>(∃x,C=[some (.ref P),some (.ref w),some (.ref l),some (.ref d),some (.ref k),x])/\A<+:a/\a[P]?=some G/\a.length=B.length/\a[k]?=some (.dT (limD ((srt ps).take i) (cS m)))) ?_;have Q:=W.mono O;have a5:=Q.ob;have a6:=Q.ls;walk_at "go";refine⟨r,aJ (srt ps),rfl,⟨⟨_,rfl⟩,O,hP,rfl,hB⟩,λi C a ⟨_,h,_⟩=>J3 (W.mono h).ls,?_,?_⟩
 .rintro i v C B1 q ⟨⟨x,rfl⟩,p1,f,g,b⟩;simp only[aJ,Ja]at q;cases c:(srt ps)[i]? with
  | none=>rw[c]at q;cases q
  | some p=>
    rw[c]at q;cases q;have s:p∈srt ps:=Jn c;have a8:=ah p1 Y;have T:P5 (pv p)=some (l2 p):=rfl;have tk:(srt ps).take (i+1)=(srt ps).take i++[p]:=by rw[KC,c];rfl
    unfold l5;walk_at "go";obtain⟨z,hz,U⟩:=hm p (hs p s);have H:L9 m [p.1,p.2]=some (.int z):=U;rw[H];refine w_eq (Fq hz _) ?_;walk_at "gb";have u:p∉(srt ps).take i:=by
     intro I;have J:=(IQ.mp c).1;obtain⟨j,hj,e⟩:=Jk.mp I;rw[JD]at hj;rw[LR]at e;have e2:(srt ps)[i]=p:=(IQ.mp c).2;exact Jy.mp (eO D) j i (by omega) J (by omega) (e.trans e2.symm)
    have y:cS m p=z:=by unfold cS;rw[U]
    refine⟨?_,?_⟩
    .refine c5 ?_;rw[limD,Iz,JD];have:=(G4 ps).length_eq;omega
    .refine⟨⟨_,rfl⟩,Y2 p1 hk,by rw[D9 E];exact f,by simpa using g,?_⟩;rw[aP b,tk,<-Fp u,y];rfl
 .rintro C B1 ⟨⟨x,rfl⟩,p1,f,g,b⟩;rw[aJ,Iz,KO]at b;exact⟨⟨x,rfl⟩,p1,f,g,b⟩
theorem fA(W:bA A w r n ps)(f:A[l]?=some (.lst (L.map .int)))(D:L.length<=1000)(E:A[d]?=some (.dT m))(a:N1 n ps)(g:l8 n L=true)(G:∀p∈ps,∃z,0<=z/\L9 m (l2 p)=some (.int z)) :
 Wp (O9 [.ref A.length,.ref w,.ref l,.ref d]) (A++[.ins 1 []]) (λv A'=>v=.non/\A<+:A'/\∃q dl s,cI A' A.length w r n ps L (cS m) q dl s/\A.length<q/\A.length<dl/\A.length<s) NoX:=by
 unfold O9;walk_at "fn";have h:A<+:A++[PO.ins 1 []]:=IJ _ _;walk_at "go";refine ae (di (W.mono h) (ah h f) D) λv b H=>?_;obtain⟨p1,I⟩:=H;subst I;have c:b[A.length]?=some (.ins 1 []):=ah p1 ax;have i:A<+:b:=h.trans p1;have e:=G8 c;rw[g];walk_at "gb";refine ae (gR (l:=l) (P:=A.length) (k:=b.length) W E a.nd a.len G (E4 i) (by omega) ax (by omega) (ao c)) λo B ⟨⟨x,J⟩,u,N,j,O⟩=>?_;subst J;have y:B.length=b.length+1:=by rw[j];simp
 have Y:=W.mono u;have C:=ah u f;have Q:=G8 f;have T:((limD (srt ps) (cS m)).map (·.1)).Nodup/\∀p∈limD (srt ps) (cS m),p.1∈small:=⟨vp (eO a.nd),Fo a.hi λp U=>a.good p ((G4 ps).mem_iff.mp U)⟩;walk_at "go";simp only[putFld,Nat.reduceEqDiff,if_false,MD,IT,J2,JN,Pu];refine⟨trivial,?pre,B.length,B.length+1,b.length,⟨W.mono ?pre,?ob,?ls,?ld,?lk⟩,?_,?_,e⟩
 case pre=>walk_at "pre"
 case ob=>walk_at "st"
 case ls=>walk_at "st"
 case ld=>walk_at "st"
 case lk=>walk_at "st"
 .omega
 .omega
end
theorem ql{A:PHp}(o:PO):A<+:A++[o]:=IJ _ _
theorem vr{c:List Int}(h:c≠[]):atI (c.map PV.int) (-1)=some (.int (c.getLast h)):=by
 have a:0<c.length:=JV.mpr h;unfold atI ixN;rw[if_neg (by omega),Iz,if_pos (by omega)];show(c.map PV.int)[((-1:Int)+c.length).toNat]?=_;rw[show((-1:Int)+c.length).toNat=c.length - 1 by omega,Ja,<-Lj,Mn h];rfl
section
variable{A:PHp}{N:Nat}{ps:List (Int×Int)}
def iS(N:Nat)(ps:List (Int×Int))(ld c:List Int):Prop:=(∃h:c≠[],c.getLast h∈ld)/\c.Nodup/\(∀x∈c,0<=x/\x<N)/\∀(i:Nat) a b,c[i]?=some a->c[i+1]?=some b->(a,b)∈ps
theorem eP{c:List Int}(h:c≠[]):¬(U8 (c.map PV.int).length 0 (some 1)=0/\U8 (c.map PV.int).length (c.map PV.int).length none=(c.map PV.int).length):=by
 have:0<c.length:=JV.mpr h;unfold U8;rw[Iz];intro z;have:=z.1;simp at this;omega
theorem gf(c:List PV):cut c (some 1) none=c.drop 1:=by
 have:=qc c 1;exact this
theorem all_map{a:Type}(f:a->Bool)(l:List a):((l.map f).all id=true)↔∀x∈l,f x=true:=by simp
theorem vt:∀(c:List Int),g7 (c.map PV.int) ((c.map PV.int).drop 1)=(c.zip (c.drop 1)).map pv
 | []=>rfl
 | [a]=>rfl
 | a::b::r=>by
   have ih:=vt (b::r);simp only[Jb,List.drop_succ_cons,List.drop_zero,g7,List.zip_cons_cons,Jb]at ih ⊢;exact congrArg _ ih
theorem mem_steps{c:List Int}{a b:Int}:(a,b)∈c.zip (c.drop 1)↔∃i:Nat,c[i]?=some a/\c[i+1]?=some b:=by
 rw[PF];constructor
 .rintro⟨i,h⟩;rw[Li]at h;exact⟨i,h.1,by rw[<-h.2,ME,Nat.add_comm]⟩
 .rintro⟨i,d,e⟩;refine⟨i,?_⟩;rw[Li];exact⟨d,by rw[ME,Nat.add_comm];exact e⟩
theorem fB{w r:Nat}{ld c:List Int}(W:bA A w r N ps)(Y:c.length<100) :
 Wp (U0 [.ref w,.tup (ld.map .int),.tup (c.map .int)]) A (λv A'=>A<+:A'/\∃b,v=.bl b/\(b=true↔iS N ps ld c)) NoX:=by
 unfold U0;have G:=W.ob;have H:=W.ls;walk_at "fn";walk_at "go";refine⟨λj=>?_,λj=>?_⟩
 .walk_at "go";refine⟨λz=>(nomatch z),λz=>?_⟩;obtain⟨⟨h,_⟩,_⟩:=z;exact absurd (of_decide_eq_true j) h
 have e:c≠[]:=of_decide_eq_false j;have m:=vr e;walk_at "go";refine⟨λf=>?_,λf=>?_⟩
 .walk_at "go";refine⟨λz=>(nomatch z),λz=>?_⟩;obtain⟨⟨h,n⟩,_⟩:=z;simp[n]at f
 have o:c.getLast e∈ld:=by simpa using f
 walk_at "go";refine⟨λg=>?_,λg=>?_⟩
 .walk_at "go";refine⟨λz=>(nomatch z),λz=>?_⟩;have:=(sr c).mp (by have:=of_decide_eq_true g;omega);exact absurd z.2.1 this
 have q:c.Nodup:=by
  by_cases z:c.Nodup
  .exact z
  .have:=(sr c).mpr z;have:=of_decide_eq_false g;omega
 walk_at "go";unfold ck;refine U6 (l:=c.map .int) (λk=>∃x,k=[x,some (.ref w)]) (λ_=>true) (λv=>.bl (match v with | .int x=>decide (0<=x/\x<N) | _=>false)) ?_;walk_at "go";refine⟨⟨_,rfl⟩,λi=>rfl,?_,?_⟩
 .rintro v k s ⟨x,rfl⟩;obtain⟨y,I,rfl⟩:=IB.mp s;walk_at "go";refine⟨rfl,⟨_,rfl⟩,?_⟩;walk_at "go";refine⟨rfl,rfl,λ_=>?_⟩;walk_at "go";exact w_eq (bK N y A) ⟨rfl,rfl⟩
 have E:((c.map PV.int).filter λ_=>true).map (λv=>PV.bl (match v with | .int x=>decide (0<=x/\x<N) | _=>false))=(c.map λx=>decide (0<=x/\x<(N:Int))).map PV.bl:=by
  rw[JA.mpr (by simp),J1,J1];rfl
 refine⟨_,_,rfl,by rw[ax,E],?_⟩;walk_at "go";refine⟨λd=>?_,λd=>?_⟩
 .walk_at "go";refine⟨λz=>(nomatch z),λz=>?_⟩;have:((c.map λx=>decide (0<=x/\x<(N:Int))).all id)=true:=(all_map _ _).mpr λx u=>decide_eq_true (z.2.2.1 x u);rw[this]at d;cases d
 have B:∀x∈c,0<=x/\x<(N:Int):=by
  have:((c.map λx=>decide (0<=x/\x<(N:Int))).all id)=true:=by
   cases z:((c.map λx=>decide (0<=x/\x<(N:Int))).all id)with
   | true=>rfl
   | false=>rw[z]at d;cases d
  exact λx u=>of_decide_eq_true ((all_map _ _).mp this x u)
 rw[E];generalize C:A++[PO.lst ((c.map λx=>decide (0<=x/\x<(N:Int))).map PV.bl)]=J;have p1:A<+:J:=by rw[<-C];exact ql _
 have L:=ah p1 G;have O:=ah p1 H;walk_at "go";unfold cn;refine U6 (l:=(c.zip (c.drop 1)).map pv) (λk=>∃x,k=[x,some (.ref w)]) (λ_=>true) (λv=>.bl (decide ((ip v,gN v)∈srt ps))) ?_;walk_at "go";refine⟨eP e,?_⟩;walk_at "go";refine⟨by simp,J6 (by simp;omega),⟨_,rfl⟩,λi=>by rw[Eb,gf,vt],?_,?_⟩
 .rintro v k s ⟨x,rfl⟩;obtain⟨y,I,rfl⟩:=IB.mp s;walk_at "go";refine⟨rfl,⟨_,rfl⟩,?_⟩;walk_at "go";refine⟨rfl,rfl,λ_=>?_⟩;unfold pv;walk_at "go";exact⟨rfl,rfl⟩
 have Q:(((c.zip (c.drop 1)).map pv).filter λ_=>true).map (λv=>PV.bl (decide ((ip v,gN v)∈srt ps)))=((c.zip (c.drop 1)).map λp=>decide (p∈srt ps)).map PV.bl:=by
  rw[JA.mpr (by simp),J1,J1];rfl
 refine⟨_,_,rfl,by rw[ax,Q],?_⟩;refine⟨p1.trans (ql _),_,rfl,?_⟩;rw[all_map];constructor
 .intro h;refine⟨⟨e,o⟩,q,B,λi a b T j=>?_⟩;exact(G4 ps).mem_iff.mp (of_decide_eq_true (h (a,b) (mem_steps.mpr ⟨i,T,j⟩)))
 .rintro⟨_,_,_,h⟩ ⟨a,b⟩ D;obtain⟨i,n,U⟩:=mem_steps.mp D;exact decide_eq_true ((G4 ps).mem_iff.mpr (h i a b n U))
end
structure LS where
 now:Int
 lays:List ((Int×Int)×Int)
 says:List ((Int×Int)×Nat×List (Int×List Int))
 first:List (List Int×Int)
 m:Nat
structure bZ where
 N:Nat
 ps:List (Int×Int)
 L:List Int
 f:Int×Int->Int
 fr:List Int
 P:Nat
 w:Nat
 r:Nat
 ll:Nat
 dl:Nat
 dk:Nat
 G:Nat
noncomputable def rowS(q:Int×List Int):PV:=.tup [.int q.1,.tup (q.2.map .int)]
noncomputable def d6(S:LS):DT:=S.lays.map λp=>(l2 p.1,PV.int p.2)
noncomputable def V8(S:LS):DT:=S.says.map λp=>(l2 p.1,PV.ref p.2.1)
noncomputable def gB(S:LS):DT:=S.first.map λp=>(p.1,PV.int p.2)
noncomputable def sadr(S:LS):List Nat:=S.says.map λe=>e.2.1
noncomputable def own(c:bZ)(S:LS):List Nat:=c.G::(c.G+2)::(c.G+3)::(c.G+4)::sadr S
noncomputable def dom(c:bZ)(S:LS):List Nat:=c.P::c.w::c.r::c.ll::c.dl::c.dk::(c.G+1)::own c S
structure bq(A:PHp)(c:bZ)(S:LS):Prop where
 plan:cI A c.P c.w c.r c.N c.ps c.L c.f c.ll c.dl c.dk
 ob:A[c.G]?=some (.ins 2 [(6,.ref c.P),(7,.ref (c.G+1)),(11,.tup (c.fr.map .int)),(12,.int S.now),(13,.ref (c.G+2)),(14,.ref (c.G+3)),(15,.ref (c.G+4))])
 fl:A[c.G+1]?=some (.lst (c.fr.map .int))
 tl:A[c.G+2]?=some (.dT (d6 S))
 sl:A[c.G+3]?=some (.dT (V8 S))
 ul:A[c.G+4]?=some (.dT (gB S))
 rows:∀e∈S.says,A[e.2.1]?=some (.lst (e.2.2.map rowS))
 lt:c.P<c.G/\c.w<c.G/\c.r<c.G/\c.ll<c.G/\c.dl<c.G/\c.dk<c.G
 hi:∀a∈sadr S,c.G+4<a
 an:(sadr S).Nodup
 kn:(S.says.map (·.1)).Nodup
 ln:(S.lays.map (·.1)).Nodup
 lp:∀p∈S.lays.map (·.1),p∈c.ps
 pg:N1 c.N c.ps
 sz:S.m<=2000/\S.says.length<=S.m/\S.first.length<=S.m/\∀e∈S.says,e.2.2.length<=S.m
theorem bq.keep{A B:PHp}{c:bZ}{S:LS}(h:bq A c S)(k:∀a∈dom c S,∀o,A[a]?=some o->B[a]?=some o):bq B c S:=by
 have b:∀a,a∈[c.P,c.w,c.r,c.ll,c.dl,c.dk,c.G+1,c.G,c.G+2,c.G+3,c.G+4]->a∈dom c S:=λa d=>by
  simp only[IH,JO,or_false]at d;simp only[dom,own,IH];rcases d with z | z | z | z | z | z | z | z | z | z | z<;>simp[z]
 refine⟨⟨⟨k _ (b _ (by simp)) _ h.plan.web.ob,k _ (b _ (by simp)) _ h.plan.web.ls⟩,k _ (b _ (by simp)) _ h.plan.ob,k _ (b _ (by simp)) _ h.plan.ls,k _ (b _ (by simp)) _ h.plan.ld,k _ (b _ (by simp)) _ h.plan.lk⟩,k _ (b _ (by simp)) _ h.ob,k _ (b _ (by simp)) _ h.fl,k _ (b _ (by simp)) _ h.tl,k _ (b _ (by simp)) _ h.sl,k _ (b _ (by simp)) _ h.ul,λe f=>?_,h.lt,h.hi,h.an,h.kn,h.ln,h.lp,h.pg,h.sz⟩;refine k _ ?_ _ (h.rows e f);simp only[dom,own,IH];have:e.2.1∈sadr S:=IB.mpr ⟨e,f,rfl⟩;simp[this]
theorem bq.mono{A B:PHp}{c:bZ}{S:LS}(h:bq A c S)(e:A<+:B):bq B c S:=h.keep λa _ o q=>ah e q
theorem bq.dlt{A:PHp}{c:bZ}{S:LS}(h:bq A c S):∀a∈dom c S,a<A.length:=λa b=>by
 simp only[dom,own,IH]at b;have f:=G8 h.ul;have g:=h.lt;rcases b with z | z | z | z | z | z | z | z | z | z | z | z
 .omega
 .omega
 .omega
 .omega
 .omega
 .omega
 .omega
 .omega
 .omega
 .omega
 .omega
 .obtain⟨e,d,rfl⟩:=IB.mp z;exact G8 (h.rows e d)
structure cV(c:bZ)(S S':LS)(A A':PHp):Prop where
 len:A.length<=A'.length
 keep:∀a o,A[a]?=some o->a∉own c S->A'[a]?=some o
 new:∀a∈sadr S',a∈sadr S\/A.length<=a
theorem cV.pre{c:bZ}{S:LS}{A A':PHp}(h:A<+:A'):cV c S S A A':=⟨h.length_le,λa o q _=>ah h q,λa h=>.inl h⟩
theorem cV.refl{c:bZ}{S:LS}{A:PHp}:cV c S S A A:=.pre (IU _)
theorem Fs{c:bZ}{S b:LS}{A A':PHp}(h:cV c S b A A'){a:Nat}(e:a<A.length)(d:a∉own c S):a∉own c b:=λz=>d (by
 simp only[own,IH]at z ⊢;rcases z with z | z | z | z | z
 .simp[z]
 .simp[z]
 .simp[z]
 .simp[z]
 .rcases h.new a z with z | z
  .simp[z]
  .omega)
theorem cV.trans{c:bZ}{S e b:LS}{A A' d:PHp}(h:cV c S e A A')(h':cV c e b A' d):cV c S b A d:=
 ⟨Jd h.len h'.len,λa o q n=>h'.keep a o (h.keep a o q n) (Fs h (G8 q) n),λa f=>by
  rcases h'.new a f with z | z
  .exact h.new a z
  .exact .inr (Jd h.len z)⟩
section
variable{A:PHp}{c:bZ}{S:LS}
theorem gS(H:bq A c S):Wp (N8 [.ref c.G]) A (λv d=>v=.non/\bq d c { S with now:=S.now+1 }/\cV c S { S with now:=S.now+1 } A d) NoX:=by
 unfold N8;have g:=H.ob;walk_at "fn";walk_at "gb";have i:=H.lt;have k:∀a o,A[a]?=some o->a≠c.G->(A.set c.G (PO.ins 2 (putFld 12 (PV.int (S.now+1)) [(6,.ref c.P),(7,.ref (c.G+1)),(11,.tup (c.fr.map .int)),(12,.int S.now),(13,.ref (c.G+2)),(14,.ref (c.G+3)),(15,.ref (c.G+4))])))[a]?=some o:=λa o q n=>(D9 n).trans q;refine⟨trivial,⟨⟨⟨k _ _ H.plan.web.ob (by omega),k _ _ H.plan.web.ls (by omega)⟩,k _ _ H.plan.ob (by omega),k _ _ H.plan.ls (by omega),k _ _ H.plan.ld (by omega),k _ _ H.plan.lk (by omega)⟩,aP g,k _ _ H.fl (by omega),k _ _ H.tl (by omega),k _ _ H.sl (by omega),k _ _ H.ul (by omega),λe f=>k _ _ (H.rows e f) ?_,H.lt,H.hi,H.an,H.kn,H.ln,H.lp,H.pg,H.sz⟩,⟨by simp,λa o q n=>k a o q (λz=>n (by rw[z];exact IE)),λa h=>.inl h⟩⟩;have:=H.hi e.2.1 (IB.mpr ⟨e,f,rfl⟩);omega
theorem vu{w r:Nat}{N:Nat}{ps:List (Int×Int)}(W:bA A w r N ps)(b:N1 N ps)(p:Int×Int):Wp (Z9 [.ref w,pv p]) A (λv d=>v=.bl (decide (p∈ps))/\d=A) NoX:=by
 unfold Z9;have f:=W.ob;have e:=W.ls;walk_at "fn";walk_at "gb";refine w_eq (o9 _ _ _) ⟨_,rfl,λa=>?_,λa=>?_⟩
 .walk_at "gb";refine iq e ?_;exact⟨by simp[(G4 ps).mem_iff],rfl⟩
 .refine⟨?_,rfl⟩;have:p∉ps:=λz=>by have:=b.good p z;simp[this]at a
  simp[this]
noncomputable def gT(p:Int×Int):PV:=.tup [.str "lay",pv p]
noncomputable def gU(p:Int×Int)(ch:List Int):PV:=.tup [.str "say",pv p,.tup (ch.map .int)]
theorem Ft(H:bq A c S)(p:Int×Int):Wp (Q8 [.ref c.P,gT p]) A (λv b=>v=.bl (decide (p∈c.ps))/\b=A) NoX:=by
 unfold Q8 gT;have e:=H.plan.ob;walk_at "fn";walk_at "gb";refine ae (vu H.plan.web H.pg p) λv f d=>?_;obtain⟨rfl,rfl⟩:=d;walk_at "gb";refine⟨λa=>?_,λa=>?_⟩
 .walk_at "gb";have:p∉c.ps:=by simpa using a
  simp[this]
 .walk_at "gb";have:p∈c.ps:=by simpa using a
  simp[this]
theorem gg(H:bq A c S){ch:List Int}(h:ch.length<100):Wp (N7 [.ref c.P,.tup (ch.map .int)]) A (λv A'=>A<+:A'/\∃b,v=.bl b/\(b=true↔iS c.N c.ps c.L ch)) NoX:=by
 unfold N7;have e:=H.plan.ob;have p:=H.plan.web.ob;walk_at "fn";walk_at "gb";unfold b4;refine U6 (l:=ch.map .int) (λf=>∃x,f=[x,some (.ref c.P)]) (λ_=>true) (λv=>.bl (match v with | .int x=>decide (0<=x/\x<(c.N:Int)) | _=>false)) ?_;walk_at "go";refine⟨⟨_,rfl⟩,λi=>rfl,?_,?_⟩
 .rintro v f j ⟨x,rfl⟩;obtain⟨y,q,rfl⟩:=IB.mp j;walk_at "go";refine⟨rfl,⟨_,rfl⟩,?_⟩;walk_at "go";refine⟨rfl,rfl,λ_=>?_⟩;walk_at "go";exact w_eq (bK c.N y A) ⟨rfl,rfl⟩
 have g:((ch.map PV.int).filter λ_=>true).map (λv=>PV.bl (match v with | .int x=>decide (0<=x/\x<(c.N:Int)) | _=>false))=(ch.map λx=>decide (0<=x/\x<(c.N:Int))).map PV.bl:=by
  rw[JA.mpr (by simp),J1,J1];rfl
 refine⟨_,_,rfl,by rw[ax,g],?_⟩;walk_at "go";refine⟨λa=>?_,λa=>?_⟩
 .walk_at "gb";refine⟨λz=>(nomatch z),λz=>?_⟩;have:((ch.map λx=>decide (0<=x/\x<(c.N:Int))).all id)=true:=(all_map _ _).mpr λx k=>decide_eq_true (z.2.2.1 x k);rw[this]at a;cases a
 .rw[g];generalize d:A++[PO.lst ((ch.map λx=>decide (0<=x/\x<(c.N:Int))).map PV.bl)]=m;have p1:A<+:m:=by rw[<-d];exact ql _
  have e:=ah p1 e;walk_at "gb";refine ae (fB (H.plan.web.mono p1) h) λv r n=>?_;obtain⟨o,b,rfl,a⟩:=n;exact⟨p1.trans o,b,rfl,a⟩
theorem vv{ch:List Int}{x:Int}(h:ch.head?=some x):atI (ch.map PV.int) 0=some (.int x):=by
 cases ch with
 | nil=>cases h
 | cons a r=>cases h;unfold atI ixN;simp
theorem Fu(H:bq A c S)(p:Int×Int){ch:List Int}(k:ch.length<100):Wp (Q8 [.ref c.P,gU p ch]) A (λv A'=>A<+:A'/\∃b,v=.bl b/\(b=true↔p∈c.ps/\iS c.N c.ps c.L ch/\ch.head?=some p.2)) NoX:=by
 unfold Q8 gU;have n:=H.plan.ob;walk_at "fn";walk_at "gb";refine ae (vu H.plan.web H.pg p) λv o g=>?_;obtain⟨rfl,rfl⟩:=g;walk_at "gb";refine⟨λd=>?_,λd=>?_⟩
 .walk_at "gb";have:p∉c.ps:=by simpa using d
  simp[this]
 .have l:p∈c.ps:=by simpa using d
  walk_at "gb";refine ae (gg H k) λv q g=>?_;obtain⟨m,b,rfl,d⟩:=g;refine⟨b,rfl,λh=>?_,λe=>?_⟩
  .have f:=d.mp h;obtain⟨x,j⟩:∃x,ch.head?=some x:=by
    obtain⟨⟨i,_⟩,_⟩:=f;cases ch with
    | nil=>exact absurd rfl i
    | cons a r=>exact⟨a,rfl⟩
   have s:=vv j;unfold pv;walk_at "gb";rw[j];simp[l,f]
  .refine⟨m,false,rfl,λz=>(nomatch z),λz=>?_⟩;rw[d.mpr z.2.1]at e;cases e
end
noncomputable def look{a b:Type}[DecidableEq a]:List (a×b)->a->Option b
 | [],_=>none
 | e::r,k=>if e.1=k then some e.2 else look r k
noncomputable def f6(S:LS)(p:Int×Int):Option Int:=look S.lays p
noncomputable def Q9(S:LS)(ch:List Int):Option Int:=look S.first ch
noncomputable def R0(S:LS)(p:Int×Int):Option (Nat×List (Int×List Int)):=look S.says p
noncomputable def rowsAt(S:LS)(p:Int×Int):List (Int×List Int):=((R0 S p).map (·.2)).getD []
theorem qm{a:Type}(f:a->PV):∀(l:List ((Int×Int)×a))(p:Int×Int),L9 (l.map λe=>(l2 e.1,f e.2)) (l2 p)=(look l p).map f
 | [],_=>rfl
 | e::r,p=>by
   show(if l2 e.1=l2 p then some (f e.2) else L9 (r.map _) (l2 p))=(if e.1=p then some e.2 else look r p).map f;by_cases h:e.1=p
   .rw[if_pos (by rw[h]),if_pos h];rfl
   .rw[if_neg (λz=>h (t7 z)),if_neg h];exact qm f r p
theorem vw{a:Type}(f:a->PV):∀(l:List (List Int×a))(p:List Int),L9 (l.map λe=>(e.1,f e.2)) p=(look l p).map f
 | [],_=>rfl
 | e::r,p=>by
   show(if e.1=p then some (f e.2) else L9 (r.map _) p)=(if e.1=p then some e.2 else look r p).map f;by_cases h:e.1=p
   .rw[if_pos h,if_pos h];rfl
   .rw[if_neg h,if_neg h];exact vw f r p
theorem vy(S:LS)(p:Int×Int):L9 (d6 S) (l2 p)=(f6 S p).map .int:=qm _ _ _
theorem vz(S:LS)(ch:List Int):L9 (gB S) ch=(Q9 S ch).map .int:=vw _ _ _
theorem vA(S:LS)(p:Int×Int):L9 (V8 S) (l2 p)=(R0 S p).map λe=>.ref e.1:=qm (λe:Nat×List (Int×List Int)=>PV.ref e.1) _ _
section
variable{α β:Type}[DecidableEq α]
theorem l9:∀{l:List (α×β)}{k:α}{v:β},look l k=some v->(k,v)∈l
 | e::r,k,v,h=>by
   unfold look at h;by_cases c:e.1=k
   .rw[if_pos c]at h;cases h;rw[<-c];exact IE
   .rw[if_neg c]at h;exact IF _ (l9 h)
theorem vB:∀{l:List (α×β)}{k:α}{v:β},(l.map (·.1)).Nodup->(k,v)∈l->look l k=some v
 | e::r,k,v,b,h=>by
   have a:=Ki.mp b;unfold look;rcases IH.mp h with z | z
   .rw[<-z,if_pos rfl]
   .rw[if_neg (λq=>a.1 (by show e.1∈_;rw[q];exact IB.mpr ⟨_,z,rfl⟩)),vB a.2 z]
theorem look_none:∀{l:List (α×β)}{k:α},look l k=none↔k∉l.map (·.1)
 | [],k=>by simp[look]
 | e::r,k=>by
   unfold look;by_cases c:e.1=k
   .rw[if_pos c];simp[c]
   .rw[if_neg c,look_none];have:k≠e.1:=λz=>c z.symm;simp[this]
theorem vC{l m:List (α×β)}{k:α}:look (l++m) k=(look l k).or (look m k):=by
 induction l with
 | nil=>rfl
 | cons e r ih=>
   show(if e.1=k then some e.2 else look (r++m) k)=(if e.1=k then some e.2 else look r k).or _;by_cases c:e.1=k
   .rw[if_pos c,if_pos c];rfl
   .rw[if_neg c,if_neg c,ih]
theorem qp{k j:α}{v:β}:look [(k,v)] j=if k=j then some v else none:=rfl
end
noncomputable def bV(S:LS)(p:Int×Int):Bool:=match f6 S p with
 | some t=>decide (t<S.now)
 | none=>false
noncomputable def ko(c:bZ)(S:LS)(p:Int×Int)(ch:List Int):Bool:=decide (c.f p+ch.length<S.now)
noncomputable def Z1(a ch:List Int):List Int:=(ch.drop 1).dropWhile λh=>decide (h∈a)
noncomputable def dE(S:LS)(ch:List Int):Bool:=match Q9 S ch with
 | some t=>decide (t<S.now)
 | none=>false
noncomputable def fO(c:bZ)(S:LS)(ch:List Int):Bool:=decide (Z1 c.fr ch=[])||dE S (Z1 c.fr ch)
open Classical in
noncomputable def gh(c:bZ)(S:LS)(p:Int×Int):Nat:=if p∈c.ps then(if(f6 S p).isSome=true then 13 else 0) else 12
open Classical in
noncomputable def o5(c:bZ)(S:LS)(p:Int×Int)(ch:List Int):Nat:=
 if p∈c.ps/\iS c.N c.ps c.L ch/\ch.head?=some p.2 then(if bV S p=true then(if ko c S p ch=true then 15 else if fO c S ch=true then 0 else 16) else 14) else 12
noncomputable def fR(S:LS)(p:Int×Int):LS:={ S with lays:=S.lays++[(p,S.now)] }
noncomputable def O0(S:LS)(p:Int×Int)(ch:List Int):(Int×Int)×Nat×List (Int×List Int)->(Int×Int)×Nat×List (Int×List Int):=λe=>if e.1=p then(e.1,e.2.1,e.2.2++[(S.now,ch)]) else e
noncomputable def aY(S:LS)(p:Int×Int)(ch:List Int)(a:Nat):LS:=
 { S with says:=if(R0 S p).isSome=true then S.says.map (O0 S p ch) else S.says++[(p,a,[(S.now,ch)])],
          first:=if(Q9 S ch).isSome=true then S.first else S.first++[(ch,S.now)],m:=S.m+1 }
section
variable{A:PHp}{c:bZ}{S:LS}
theorem Fv(p:Int×Int):P5 (pv p)=some (l2 p):=rfl
theorem qr(ch:List Int):P5 (.tup (ch.map .int))=some ch:=W6 ch
theorem gi(H:bq A c S)(p:Int×Int):Wp (E5 [.ref c.G,pv p]) A (λv e=>v=.bl (bV S p)/\e=A) NoX:=by
 unfold E5;have g:=H.ob;have i:=H.tl;walk_at "fn";walk_at "gb";have b:L9 (d6 S) [p.1,p.2]=(f6 S p).map .int:=vy S p;refine⟨λa=>?_,λa=>?_⟩
 .rw[b]at a;obtain⟨t,d⟩:∃t,f6 S p=some t:=by
   cases h:f6 S p with
   | none=>rw[h]at a;cases a
   | some t=>exact⟨t,rfl⟩
  rw[d]at b;have f:L9 (d6 S) [p.1,p.2]=some (.int t):=b;walk_at "gb";exact⟨by unfold bV;rw[d],rfl⟩
 .rw[b]at a;refine⟨?_,rfl⟩;unfold bV;cases h:f6 S p with
  | none=>rfl
  | some t=>rw[h]at a;cases a
theorem gV(H:bq A c S){p:Int×Int}(a:p∈c.ps)(ch:List Int):Wp (K5 [.ref c.G,pv p,.tup (ch.map .int)]) A (λv b=>v=.bl (ko c S p ch)/\b=A) NoX:=by
 unfold K5;have e:=H.ob;have f:=H.plan.ob;walk_at "fn";walk_at "gb";unfold R7;walk_at "fn";walk_at "gb";have d:p∈srt c.ps:=(G4 c.ps).mem_iff.mpr a;refine⟨_,_,_,_,rfl,Fv p,H.plan.lk,vq (eO H.pg.nd) d,?_⟩;walk_at "gb";exact⟨rfl,rfl⟩
theorem eQ(H:bq A c S)(ch:List Int):Wp (E6 [.ref c.G,.tup (ch.map .int)]) A (λv f=>v=.bl (dE S ch)/\f=A) NoX:=by
 unfold E6;have g:=H.ob;have d:=H.ul;walk_at "fn";walk_at "gb";have b:=vz S ch;refine⟨_,_,_,rfl,qr ch,d,_,rfl,λa=>?_,λa=>?_⟩
 .rw[b]at a;obtain⟨t,e⟩:∃t,Q9 S ch=some t:=by
   cases h:Q9 S ch with
   | none=>rw[h]at a;cases a
   | some t=>exact⟨t,rfl⟩
  rw[e]at b;walk_at "gb";refine⟨_,_,_,_,rfl,qr ch,d,b,?_⟩;walk_at "gb";exact⟨by unfold dE;rw[e],rfl⟩
 .rw[b]at a;refine⟨?_,rfl⟩;unfold dE;cases h:Q9 S ch with
  | none=>rfl
  | some t=>rw[h]at a;cases a
theorem gj(H:bq A c S){ch:List Int}(g:ch≠[])(p:ch.length<100):Wp (D7 [.ref c.G,.tup (ch.map .int)]) A (λv i=>v=.bl (fO c S ch)/\i=A) NoX:=by
 unfold D7;have q:=H.ob;walk_at "fn";walk_at "gb";refine⟨eP g,?_⟩;walk_at "gb";rw[gf,<-Mz];have n:Wp (N3 [some (.ref c.G),some (.tup (ch.map .int)),some (.tup ((ch.drop 1).map .int))]) A (λo i=>o=.nx [some (.ref c.G),some (.tup (ch.map .int)),some (.tup ((Z1 c.fr ch).map .int))]/\i=A) NoX:=by
  unfold N3;refine pM (λm σ B=>B=A/\∃l:List Int,l.length<=m/\σ=[some (.ref c.G),some (.tup (ch.map .int)),some (.tup (l.map .int))]/\l.dropWhile (λh=>decide (h∈c.fr))=Z1 c.fr ch) (m:=100) (by decide) ⟨rfl,ch.drop 1,by rw[MY];omega,rfl,rfl⟩ ?_;rintro m σ B ⟨rfl,l,k,rfl,f⟩;walk_at "gb";refine⟨λd=>?_,λd=>?_⟩
  .cases l with
   | nil=>cases d
   | cons a l=>
     have r:atI ((a::l).map PV.int) 0=some (.int a):=vv rfl;walk_at "gb";refine⟨λe=>?_,λe=>?_⟩
     .unfold R8;walk_at "gb";refine⟨eP (by simp),?_⟩;walk_at "gb";rw[gf,<-Mz];have b:a∈c.fr:=of_decide_eq_true e;rw[NL (by simpa using b)]at f;exact⟨m - 1,by simp at k;omega,rfl,l,by simp at k;omega,rfl,f⟩
     .have b:a∉c.fr:=of_decide_eq_false e;rw[NM (by simpa using b)]at f;exact⟨by rw[<-f],rfl⟩
  .have:l=[]:=by simpa using d
   subst this;refine vf ⟨by rw[<-f];rfl,rfl⟩
 refine ae n λo s j=>?_;obtain⟨rfl,rfl⟩:=j;walk_at "gb";refine⟨λd=>?_,λd=>?_⟩
 .refine⟨?_,rfl⟩;unfold fO;rw[d];rfl
 .walk_at "gb";refine ae (eQ H _) λv u j=>?_;obtain⟨rfl,rfl⟩:=j;exact⟨by unfold fO;rw[d];rfl,rfl⟩
end
theorem Fw{S:LS}{p:Int×Int}(h:f6 S p=none):Y6 (d6 S) (l2 p) (.int S.now)=d6 (fR S p):=by
 rw[kl]
 .simp[d6,fR]
 .intro z;have e:(d6 S).map (·.1)=(S.lays.map (·.1)).map l2:=by unfold d6;simp[Lq]
  rw[e]at z;obtain⟨q,a,e⟩:=IB.mp z;rw[t7 e]at a;exact look_none.mp h a
theorem Fx{S:LS}{ch:List Int}{p:Int×Int}{a:Nat}(h:R0 S p=none):Y6 (V8 S) (l2 p) (.ref a)=V8 (aY S p ch a):=by
 rw[kl]
 .unfold V8 aY;simp only;rw[h];simp
 .intro z;have e:(V8 S).map (·.1)=(S.says.map (·.1)).map l2:=by unfold V8;simp[Lq]
  rw[e]at z;obtain⟨q,b,e⟩:=IB.mp z;rw[t7 e]at b;exact look_none.mp h b
theorem m3{S:LS}{p:Int×Int}{ch:List Int}(e:(Int×Int)×Nat×List (Int×List Int)):(O0 S p ch e).1=e.1/\(O0 S p ch e).2.1=e.2.1:=by
 unfold O0;by_cases h:e.1=p
 .rw[if_pos h];exact⟨rfl,rfl⟩
 .rw[if_neg h];exact⟨rfl,rfl⟩
theorem Fy{S:LS}{ch:List Int}{p:Int×Int}{a:Nat}(h:(R0 S p).isSome=true):V8 (aY S p ch a)=V8 S:=by
 unfold V8 aY;simp only;rw[if_pos h,J1];refine Kx λe _=>?_;show(l2 (O0 S p ch e).1,PV.ref (O0 S p ch e).2.1)=_;rw[(m3 e).1,(m3 e).2]
theorem FA{S:LS}{ch:List Int}{p:Int×Int}{a:Nat}(h:(R0 S p).isSome=true):sadr (aY S p ch a)=sadr S:=by
 unfold sadr aY;simp only;rw[if_pos h,J1];exact Kx λe _=>(m3 e).2
theorem FC{S:LS}{ch:List Int}{p:Int×Int}{a:Nat}(h:R0 S p=none):sadr (aY S p ch a)=sadr S++[a]:=by
 unfold sadr aY;simp only;rw[h];simp
theorem FD{d:Type}{l:List d}(a:l.Nodup){i j:Nat}(b:i<l.length)(c:j<l.length)(e:l[i]=l[j]):i=j:=by
 rcases Nat.lt_trichotomy i j with z | z | z
 .exact absurd e (Jy.mp a i j b c z)
 .exact z
 .exact absurd e.symm (Jy.mp a j i c b z)
section
variable{A:PHp}{c:bZ}{S:LS}
noncomputable def W4(S:LS)(p:Int×Int)(ch:List Int)(a:Nat):LS:=
 { S with says:=if(R0 S p).isSome=true then S.says.map (O0 S p ch) else S.says++[(p,a,[(S.now,ch)])],m:=S.m+1 }
noncomputable def gW(S:LS)(ch:List Int):LS:={ S with first:=if(Q9 S ch).isSome=true then S.first else S.first++[(ch,S.now)] }
theorem FE(p:Int×Int)(ch:List Int)(a:Nat):gW (W4 S p ch a) ch=aY S p ch a:=rfl
theorem vD{p:Int×Int}{ch:List Int}{a:Nat}:V8 (W4 S p ch a)=V8 (aY S p ch a):=rfl
theorem vE{p:Int×Int}{ch:List Int}{a:Nat}:sadr (W4 S p ch a)=sadr (aY S p ch a):=rfl
theorem FF(H:bq A c S){p:Int×Int}{ch:List Int}(hm:S.m<2000){d:PV}:Wp (Q7 (m9 (jd (K8 (aa 0) 14) (aa 2) (X9 aNil)) (c7 (ai (K8 (aa 0) 12) (ai (aa 3) aNil)))) [some (.ref c.G),some d,some (pv p),some (.tup (ch.map .int))]) A
 (λo A'=>o=.nx [some (.ref c.G),some d,some (pv p),some (.tup (ch.map .int))]/\∃a,bq A' c (W4 S p ch a)/\cV c S (W4 S p ch a) A A') NoX:=by
 have h1:=H.ob;have h2:=H.sl;have hl:=H.lt;have hv:L9 (V8 S) (l2 p)=(R0 S p).map λe=>.ref e.1:=vA S p;have hG:=G8 H.ul;have B:=H.sz;refine pJ (uZ (dM ?_));walk_at "gb";have h3:(A++[PO.lst []])[c.G+3]?=some (.dT (V8 S)):=ao h2;have a1:(A++[PO.lst []])[c.G]?=some _:=ao h1;have I:L9 (V8 S) [p.1,p.2]=(R0 S p).map λe=>.ref e.1:=hv;refine⟨λw J=>?_,λJ=>?_⟩
 .rw[I]at J;obtain⟨⟨g,b⟩,hs,rfl⟩:=Jh.mp J;have f:(p,g,b)∈S.says:=l9 hs;have hr:A[g]?=some (.lst (b.map rowS)):=H.rows _ f;have L:(A++[PO.lst []])[g]?=some (.lst (b.map rowS)):=ao hr;have l:(R0 S p).isSome=true:=by rw[hs];rfl
  refine⟨_,_,rfl,L,?_⟩;walk_at "gb";have N:(b.map rowS).length<LIM:=by
   refine c5 ?_;have:=B.2.2.2 _ f;rw[Iz];simp at this;omega
  refine⟨N,rfl,g,?_⟩;have c1:=H.hi g (IB.mpr ⟨_,f,rfl⟩);have a9:=G8 hr;have e1:b.map rowS++[PV.tup [.int S.now,.tup (ch.map .int)]]=(b++[(S.now,ch)]).map rowS:=by rw[Js];rfl
  rw[e1];have k:∀a o,A[a]?=some o->a≠g->((A++[PO.lst []]).set g (PO.lst ((b++[(S.now,ch)]).map rowS)))[a]?=some o:=λa o q n=>(D9 n).trans (ao q);have hD:V8 (W4 S p ch g)=V8 S:=by rw[vD];exact Fy l
  have C:sadr (W4 S p ch g)=sadr S:=by rw[vE];exact FA l
  have u:(W4 S p ch g).says=S.says.map (O0 S p ch):=by unfold W4;simp only;rw[if_pos l]
  refine⟨⟨⟨⟨k _ _ H.plan.web.ob (by omega),k _ _ H.plan.web.ls (by omega)⟩,k _ _ H.plan.ob (by omega),k _ _ H.plan.ls (by omega),k _ _ H.plan.ld (by omega),k _ _ H.plan.lk (by omega)⟩,k _ _ H.ob (by omega),k _ _ H.fl (by omega),k _ _ H.tl (by omega),(by rw[hD];exact k _ _ H.sl (by omega)),k _ _ H.ul (by omega),?_,H.lt,(by rw[C];exact H.hi),(by rw[C];exact H.an),?_,H.ln,H.lp,H.pg,?_⟩,?_⟩
  .rw[u];intro e r;obtain⟨v,s,rfl⟩:=IB.mp r;unfold O0;by_cases D:v.1=p
   .rw[if_pos D];have:look S.says v.1=some v.2:=vB H.kn s;rw[D]at this;have e2:v.2=(g,b):=Jo (this.symm.trans hs);rw[e2];exact aP L
   .rw[if_neg D];refine k _ _ (H.rows v s) λz=>D ?_;obtain⟨i,hi,e3⟩:=Jk.mp s;obtain⟨j,hj,e4⟩:=Jk.mp f;by_cases O:i=j
    .subst O;rw[e3]at e4;rw[e4]
    .exfalso;refine O (FD H.an (i:=i) (j:=j) (by unfold sadr;rw[Iz];exact hi) (by unfold sadr;rw[Iz];exact hj) ?_);unfold sadr;rw[Nh,Nh,e3,e4];exact z
  .rw[u,J1];have:S.says.map ((·.1) ∘ O0 S p ch)=S.says.map (·.1):=Kx λe _=>(m3 e).1;rw[this];exact H.kn
  .refine⟨show S.m+1<=2000 by omega,?_,show S.first.length<=S.m+1 by omega,?_⟩
   .rw[u,Iz];show S.says.length<=S.m+1;omega
   .rw[u];intro e r;obtain⟨v,s,rfl⟩:=IB.mp r;have:=B.2.2.2 v s;show(O0 S p ch v).2.2.length<=S.m+1;unfold O0;by_cases D:v.1=p
    .rw[if_pos D];simp;omega
    .rw[if_neg D];omega
  .refine⟨by simp,λa o q n=>k a o q λz=>n ?_,λa h=>.inl (by rw[C]at h;exact h)⟩;rw[z];refine .tail _ (.tail _ (.tail _ (.tail _ ?_)));exact IB.mpr ⟨_,f,rfl⟩
 .rw[I]at J;have U:R0 S p=none:=by simpa using J
  have E:(V8 S).length<LIM:=by
   refine c5 ?_;unfold V8;rw[Iz];omega
  refine⟨E,?_⟩;have Q:Y6 (V8 S) [p.1,p.2] (.ref A.length)=V8 (W4 S p ch A.length):=by rw[vD];exact Fx U
  rw[Q];have T:A.length≠c.G+3:=by omega
  have h4:((A++[PO.lst []]).set (c.G+3) (PO.dT (V8 (W4 S p ch A.length))))[A.length]?=some (.lst []):=(D9 T).trans ax;have h5:((A++[PO.lst []]).set (c.G+3) (PO.dT (V8 (W4 S p ch A.length))))[c.G]?=some _:=(D9 (by omega)).trans a1;refine⟨_,_,rfl,h4,?_⟩;walk_at "gb";refine⟨rfl,A.length,?_⟩;have k:∀a o,A[a]?=some o->a≠c.G+3->(((A++[PO.lst []]).set (c.G+3) (PO.dT (V8 (W4 S p ch A.length)))).set A.length (PO.lst ([]++[PV.tup [.int S.now,.tup (ch.map .int)]])))[a]?=some o:=λa o q n=>(D9 (by have:=G8 q;omega)).trans ((D9 n).trans (ao q));have C:sadr (W4 S p ch A.length)=sadr S++[A.length]:=by rw[vE];exact FC U
  have u:(W4 S p ch A.length).says=S.says++[(p,A.length,[(S.now,ch)])]:=by unfold W4;simp only;rw[U];rfl
  have a4:∀e∈S.says,e.2.1<A.length:=λe r=>G8 (H.rows e r);refine⟨⟨⟨⟨k _ _ H.plan.web.ob (by omega),k _ _ H.plan.web.ls (by omega)⟩,k _ _ H.plan.ob (by omega),k _ _ H.plan.ls (by omega),k _ _ H.plan.ld (by omega),k _ _ H.plan.lk (by omega)⟩,k _ _ H.ob (by omega),k _ _ H.fl (by omega),k _ _ H.tl (by omega),(D9 (KP T)).trans (aP h3),k _ _ H.ul (by omega),?_,H.lt,?_,?_,?_,H.ln,H.lp,H.pg,?_⟩,?_⟩
  .rw[u];intro e r;rcases Jm.mp r with z | z
   .have:=H.hi e.2.1 (IB.mpr ⟨e,z,rfl⟩);exact k _ _ (H.rows e z) (by omega)
   .rw[IK.mp z];exact aP h4
  .rw[C];intro a ha;rcases Jm.mp ha with z | z
   .exact H.hi a z
   .rw[IK.mp z];omega
  .rw[C,Ju];refine⟨H.an,by simp,λx Y y hy z=>?_⟩;rw[IK.mp hy]at z;obtain⟨e,r,rfl⟩:=IB.mp Y;have:=a4 e r;omega
  .rw[u,Js,Ju];refine⟨H.kn,by simp,λx Y y hy z=>?_⟩;have a6:y=p:=by simpa using hy
   rw[z,a6]at Y;exact look_none.mp U Y
  .refine⟨show S.m+1<=2000 by omega,?_,show S.first.length<=S.m+1 by omega,?_⟩
   .rw[u,IT];show S.says.length+1<=S.m+1;omega
   .rw[u];intro e r;show e.2.2.length<=S.m+1;rcases Jm.mp r with z | z
    .have:=B.2.2.2 e z;omega
    .rw[IK.mp z];simp
  .refine⟨by simp,λa o q n=>k a o q λz=>n ?_,λa h=>?_⟩
   .rw[z];exact .tail _ (.tail _ IE)
   .rw[C]at h;rcases Jm.mp h with z | z
    .exact .inl z
    .rw[IK.mp z];exact .inr (IC _)
theorem FG(H:bq A c S){ch:List Int}(v:S.first.length<S.m){d x:PV}:Wp (Q7 (jd (K8 (aa 0) 15) (aa 3) (K8 (aa 0) 12)) [some (.ref c.G),some d,some x,some (.tup (ch.map .int))]) A
 (λo i=>o=.nx [some (.ref c.G),some d,some x,some (.tup (ch.map .int))]/\bq i c (gW S ch)/\cV c S (gW S ch) A i) NoX:=by
 have y:=H.ob;have j:=H.ul;have B:=H.lt;have l:L9 (gB S) ch=(Q9 S ch).map .int:=vz S ch;have b:=H.sz;refine pJ (dM ?_);walk_at "gb";refine⟨_,_,qr ch,j,λw f=>?_,λf=>?_⟩
 .rw[l]at f;have s:(Q9 S ch).isSome=true:=by
   obtain⟨t,u,_⟩:=Jh.mp f;rw[u];rfl
  have e:gW S ch=S:=by unfold gW;rw[if_pos s]
  rw[e];exact⟨rfl,H,.refl⟩
 .rw[l]at f;have p:Q9 S ch=none:=by simpa using f
  refine⟨c5 (by unfold gB;rw[Iz];omega),rfl,?_⟩;have e:(gW S ch).first=S.first++[(ch,S.now)]:=by unfold gW;simp only;rw[p];rfl
  have g:Y6 (gB S) ch (.int S.now)=gB (gW S ch):=by
   rw[kl]
   .unfold gB;rw[e];simp
   .intro z;have e:(gB S).map (·.1)=S.first.map (·.1):=by unfold gB;simp[Lq]
    rw[e]at z;exact look_none.mp p z
  rw[g];have k:∀a o,A[a]?=some o->a≠c.G+4->(A.set (c.G+4) (PO.dT (gB (gW S ch))))[a]?=some o:=λa o q n=>(D9 n).trans q;refine⟨⟨⟨⟨k _ _ H.plan.web.ob (by omega),k _ _ H.plan.web.ls (by omega)⟩,k _ _ H.plan.ob (by omega),k _ _ H.plan.ls (by omega),k _ _ H.plan.ld (by omega),k _ _ H.plan.lk (by omega)⟩,k _ _ H.ob (by omega),k _ _ H.fl (by omega),k _ _ H.tl (by omega),k _ _ H.sl (by omega),aP j,λe r=>k _ _ (H.rows e r) ?_,H.lt,H.hi,H.an,H.kn,H.ln,H.lp,H.pg,⟨b.1,b.2.1,?_,b.2.2.2⟩⟩,⟨by simp,λa o q n=>k a o q λz=>n ?_,λa h=>.inl h⟩⟩
  .have:=H.hi e.2.1 (IB.mpr ⟨e,r,rfl⟩);omega
  .rw[e,IT];show S.first.length+1<=S.m;omega
  .rw[z];exact .tail _ (.tail _ (.tail _ IE))
end
theorem Y5{p:Type}{A:PHp}{Q:PV->PHp->Prop}{E:XP}{σ:PSt}{w:ID}{mk:PSt->PSt}{g:GD}{t:TD}{e:ED}(c:List p)(q r:p->PV)(k:p->Bool)(S:PSt->Prop)
 (h:Wp (w σ) A (λJ A1=>∃n,q9 J A1=.ok n A1/\c.length<=n/\c.length<=LIM/\S (mk σ)/\(∀i B,A1<+:B->item J i B=.ok (c.map q)[i]? B)/\
  (∀x σ B,x∈c->S σ->A1<+:B->Wp (g (q x) σ) B (λd z=>z=B/\S d/\Wp (t d) B (λb o=>b=k x/\B<+:o/\(b=true->Wp (e d) o (λy C=>y=r x/\o<+:C) E)) E) E)/\
  ∀B,A1<+:B->Q (.ref B.length) (B++[.lst ((c.filter k).map r)])) E):Wp (L5 w mk g t e σ) A Q E:=
 pO (ae h λJ A1 j=>by
  obtain⟨n,O,T,U,Y,s,hs,he⟩:=j;refine⟨c.map q,n,λi f σ B=>A1<+:B/\S σ/\f=((c.take i).filter k).map r,O,by simpa using T,⟨IU _,Y,by simp⟩,λi f σ B a=>s i B a.1,λi v f σ B D a=>?_,λf σ B a=>?_⟩
  .obtain⟨a,h2,l⟩:=a;rw[Ja]at D;obtain⟨x,G,rfl⟩:=Jh.mp D;refine ae (hs x σ B (Jn G) h2 a) λd z j=>?_;obtain⟨e1,H,h5⟩:=j;subst e1;refine ae h5 λb o j=>?_;obtain⟨I,L,h6⟩:=j;have N:c.take (i+1)=c.take i++[x]:=by rw[KC,G];rfl
   refine⟨λm=>ae (h6 m) λy C j=>?_,λu=>?_⟩
   .obtain⟨h7,p3⟩:=j;refine⟨a.trans (L.trans p3),H,?_⟩;rw[l,h7,N,LH,Js];have:k x=true:=by rw[<-I];exact m
    simp[this]
   .refine⟨a.trans L,H,?_⟩;rw[l,N,LH,Js];have:k x=false:=by rw[<-I];exact u
    simp[this]
  .obtain⟨a,_,l⟩:=a;rw[Iz,LA (IC _)]at l;subst l;refine⟨?_,he B a⟩;rw[Iz];exact Jd (JE _ _) U)
section
variable{A:PHp}{c:bZ}{S:LS}
noncomputable def gX(c:bZ)(S:LS)(p:Int×Int)(ch:List Int):Nat:=if bV S p=true then(if ko c S p ch=true then 15 else if fO c S ch=true then 0 else 16) else 14
theorem qs{p:Int×Int}{ch:List Int}(h:p∈c.ps/\iS c.N c.ps c.L ch/\ch.head?=some p.2):o5 c S p ch=gX c S p ch:=by
 unfold o5 gX;rw[if_pos h]
theorem eY(H:bq A c S)(p:Int×Int):Wp (K3 [.ref c.G,pv p]) A (λv A'=>∃n,v=.ref n/\A.length<=n/\A<+:A'/\A'[n]?=some (.lst ((rowsAt S p).map rowS))/\A'.length=n+1) NoX:=by
 unfold K3;have h:=H.ob;have i:=H.sl;walk_at "fn";refine dJ (ee (eX ?_));walk_at "gb";have d:L9 (V8 S) [p.1,p.2]=(R0 S p).map λe=>.ref e.1:=vA S p;rw[d];cases b:R0 S p with
 | none=>
   have e:rowsAt S p=[]:=by unfold rowsAt;rw[b];rfl
   rw[e];show Wp (O4 (.ref A.length)) _ _ _;refine eN ax ?_;exact⟨_,rfl,by simp,(IJ _ _).trans (IJ _ _),ax,by simp⟩
 | some e=>
   have a:(p,e)∈S.says:=l9 b;have f:=H.rows _ a;have g:rowsAt S p=e.2:=by unfold rowsAt;rw[b];rfl
   rw[g];show Wp (O4 (.ref e.1)) _ _ _;refine eN (ao f) ?_;exact⟨_,rfl,by simp,(IJ _ _).trans (IJ _ _),ax,by simp⟩
end
section
variable{A:PHp}{Q:PV->PHp->Prop}{E:XP}{σ:PSt}{e:ED}
theorem fC(h:Wp (e σ) A (λx a=>∃n m,x=.ref n/\a[n]?=some (.dT m)/\(m.length<64/\∀p∈m,p.1≠[])/\Q (.ref a.length) (a++[.lst ((D8 D0 (m.map (·.1))).map λt=>.tup (t.map .int))])) E):Wp (nF e σ) A Q E:=
 B9 (ae h λx a ⟨n,m,b,c,d,q⟩=>by subst b;exact B9 (l7 c (C8 d q)))
end
end Ws
local macro_rules | `(tactic| walk_at "s1")=>`(tactic| first
 | with_reducible refine Ws.fC ?_)
local macro_rules | `(tactic| walk_at "s2")=>`(tactic| with_reducible refine Ws.w_mk0 ?_)
namespace Ws
theorem kq{a:Type}{b:List a}{i:Nat}{x:a}(h:b[i]?=some x):atI b (i:Int)=some x:=by
 obtain⟨c,d⟩:=IQ.mp h;rw[vi c,d]
section
variable{A:PHp}{c:bZ}{S:LS}
theorem FH(H:bq A c S):(D8 D0 ((d6 S).map (·.1))).map (λt=>PV.tup (t.map .int))=aJ (srt (S.lays.map (·.1))):=by
 have e:(d6 S).map (·.1)=(S.lays.map (·.1)).map l2:=by unfold d6;simp[Lq]
 rw[e,t6,ma];rfl
theorem eZ(H:bq A c S):Wp (J5 [.ref c.G]) A (λv a=>v=.ref A.length/\a=A++[.lst (aJ (srt (S.lays.map (·.1))))]) NoX:=by
 unfold J5;have d:=H.ob;have f:=H.tl;walk_at "fn";walk_at "gb";refine⟨⟨?_,λq b=>?_⟩,?_⟩
 .have:=H.ln.length_le_of_subset (l₂:=c.ps) H.lp;rw[Iz]at this;have:=H.pg.len;unfold d6;rw[Iz];omega
 .obtain⟨e,_,rfl⟩:=IB.mp b;simp[l2]
 .rw[FH H];exact⟨rfl,rfl⟩
theorem FI(H:bq A c S){p:Int×Int}(u:p∈c.ps):Wp (J8 [.ref c.G,gT p]) A (λv f=>v=.non/\f6 S p=none/\bq f c (fR S p)/\cV c S (fR S p) A f) (λk v f=>k=13/\(f6 S p).isSome=true/\v=gT p/\f=A):=by
 unfold J8;have D:=H.ob;have w:=H.tl;walk_at "fn";have B:gT p=.tup [.str "lay",pv p]:=rfl;have j:L9 (d6 S) [p.1,p.2]=(f6 S p).map .int:=vy S p;rw[B];walk_at "gb";refine⟨λg=>?_,λg=>?_⟩
 .rw[j,ML]at g;walk_at "gb";exact⟨rfl,rfl⟩
 .rw[j,ML]at g;have i:f6 S p=none:=by simpa using g
  walk_at "gb";have b:(d6 S).length<LIM:=by
   refine c5 ?_;have:=H.ln.length_le_of_subset (l₂:=c.ps) H.lp;rw[Iz]at this;have:=H.pg.len;unfold d6;rw[Iz];omega
  refine⟨b,?_⟩;have d:Y6 (d6 S) [p.1,p.2] (.int S.now)=d6 (fR S p):=Fw i;rw[d];have E:=H.lt;have k:∀a o,A[a]?=some o->a≠c.G+2->(A.set (c.G+2) (PO.dT (d6 (fR S p))))[a]?=some o:=λa o q n=>(D9 n).trans q;refine⟨trivial,i,⟨⟨⟨k _ _ H.plan.web.ob (by omega),k _ _ H.plan.web.ls (by omega)⟩,k _ _ H.plan.ob (by omega),k _ _ H.plan.ls (by omega),k _ _ H.plan.ld (by omega),k _ _ H.plan.lk (by omega)⟩,k _ _ H.ob (by omega),k _ _ H.fl (by omega),aP w,k _ _ H.sl (by omega),k _ _ H.ul (by omega),λe l=>k _ _ (H.rows e l) ?_,H.lt,H.hi,H.an,H.kn,?_,?_,H.pg,H.sz⟩,⟨by simp,λa o q n=>k a o q (λz=>n (by rw[z];exact .tail _ IE)),λa h=>.inl h⟩⟩
  .have:=H.hi e.2.1 (IB.mpr ⟨e,l,rfl⟩);omega
  .show((S.lays++[(p,S.now)]).map (·.1)).Nodup;rw[Js,Ju];refine⟨H.ln,by simp,λx m y r=>?_⟩;rw[IB]at r;obtain⟨z,C,rfl⟩:=r;rw[IK.mp C];intro z;rw[z]at m;exact look_none.mp i m
  .show ∀q∈(S.lays++[(p,S.now)]).map (·.1),q∈c.ps;intro q s;rw[Js,Jm]at s;rcases s with z | z
   .exact H.lp q z
   .simp at z;rw[z];exact u
theorem FJ(H:bq A c S){p:Int×Int}{ch:List Int}(s:p∈c.ps)(h:ch≠[])(u:ch.length<100)(w:S.m<2000):Wp (J9 [.ref c.G,gU p ch]) A
 (λv g=>v=.non/\gX c S p ch=0/\∃a,bq g c (aY S p ch a)/\cV c S (aY S p ch a) A g) (λk v g=>k=gX c S p ch/\k≠0/\v=gU p ch/\g=A):=by
 unfold J9;have B:=H.ob;have x:gU p ch=.tup [.str "say",pv p,.tup (ch.map .int)]:=rfl;walk_at "fn";rw[x];walk_at "gb";refine ae (gi H p) λv i d=>?_;obtain⟨rfl,rfl⟩:=d;walk_at "gb";refine⟨λb=>?_,λb=>?_⟩
 .have j:bV S p=false:=by simpa using b
  walk_at "gb";refine⟨?_,by decide,rfl,rfl⟩;unfold gX;rw[j];rfl
 have l:bV S p=true:=by simpa using b
 walk_at "gb";refine ae (gV H s ch) λv i d=>?_;obtain⟨rfl,rfl⟩:=d;walk_at "gb";refine⟨λb=>?_,λb=>?_⟩
 .walk_at "gb";refine⟨?_,by decide,rfl,rfl⟩;unfold gX;rw[l,b];rfl
 rename_i y;have e:ko c S p ch=false:=b;walk_at "gb";refine ae (gj H h u) λv i d=>?_;obtain⟨rfl,rfl⟩:=d;walk_at "gb";refine⟨λb=>?_,λb=>?_⟩
 .have j:fO c S ch=false:=by simpa using b
  walk_at "gb";refine⟨?_,by decide,rfl,rfl⟩;unfold gX;rw[l,e,j];rfl
 have n:fO c S ch=true:=by simpa using b
 refine me (X4 ?_);refine cR (me (ae (FF H w) λo i d=>?_));obtain⟨rfl,a,z,q⟩:=d;refine me (ae (FG z (ch:=ch) (by show S.first.length<S.m+1;have:=H.sz;omega)) λo C d=>?_);obtain⟨rfl,r,f⟩:=d;rw[FE]at r f;refine⟨trivial,?_,a,r,q.trans f⟩;unfold gX;rw[l,e,n];rfl
theorem FK(H:bq A c S)(p:Int×Int):Wp (J4 [.ref c.G,gT p]) A
 (λv b=>v=.non/\gh c S p=0/\bq b c (fR S p)/\cV c S (fR S p) A b) (λk v b=>k=gh c S p/\k≠0/\v=gT p/\b=A):=by
 unfold J4;have l:=H.ob;walk_at "fn";walk_at "gb";refine uQ (Ft H p) λv g a=>?_;obtain⟨rfl,rfl⟩:=a;walk_at "gb";refine⟨λd=>?_,λd=>?_⟩
 .have i:p∉c.ps:=by simpa using d
  walk_at "gb";refine⟨?_,by decide,rfl,rfl⟩;unfold gh;rw[if_neg i]
 .have e:p∈c.ps:=by simpa using d
  have h:gT p=.tup [.str "lay",pv p]:=rfl;rw[h];walk_at "gb";rw[<-h];refine bJ (FI H e) (λv g a=>?_) λk v g a=>?_
  .obtain⟨rfl,f,j,st⟩:=a;refine⟨trivial,?_,j,st⟩;unfold gh;rw[if_pos e,f];rfl
  .obtain⟨rfl,f,rfl,rfl⟩:=a;refine⟨?_,by decide,rfl,rfl⟩;unfold gh;rw[if_pos e,if_pos f]
theorem FL(H:bq A c S)(p:Int×Int){ch:List Int}(j:ch.length<100)(q:S.m<2000):Wp (J4 [.ref c.G,gU p ch]) A
 (λv A'=>v=.non/\o5 c S p ch=0/\∃a,bq A' c (aY S p ch a)/\cV c S (aY S p ch a) A A') (λk v A'=>k=o5 c S p ch/\k≠0/\v=gU p ch/\A<+:A'):=by
 unfold J4;have y:=H.ob;walk_at "fn";walk_at "gb";refine uQ (Fu H p j) λv B e=>?_;obtain⟨p1,b,rfl,f⟩:=e;have l:=H.mono p1;have C:=l.ob;walk_at "gb";refine⟨λg=>?_,λg=>?_⟩
 .have n:b=false:=by simpa using g
  walk_at "gb";refine⟨?_,by decide,rfl,p1⟩;unfold o5;rw[if_neg (λz=>by rw[f.mpr z]at n;cases n)]
 .have r:b=true:=by simpa using g
  have d:=f.mp r;have o:gU p ch=.tup [.str "say",pv p,.tup (ch.map .int)]:=rfl;rw[o];walk_at "gb";rw[<-o];obtain⟨⟨h,_⟩,_⟩:=d.2.1;refine bJ (FJ l d.1 h j q) (λv s e=>?_) λk v s e=>?_
  .obtain⟨rfl,u,a,w,st⟩:=e;exact⟨trivial,by rw[qs d];exact u,a,w,(cV.pre p1).trans st⟩
  .obtain⟨x,i,rfl,rfl⟩:=e;exact⟨by rw[qs d];exact x,i,rfl,p1⟩
noncomputable def d7(S:LS)(p:Int×Int):List Int:=(rowsAt S p).map λq=>q.2.getLast?.getD 0
noncomputable def kr(c:bZ)(S:LS)(p:Int×Int):Bool:=c.L.all λl=>decide (l∈d7 S p)
theorem FN(H:bq A c S)(p:Int×Int):(rowsAt S p).length<=2000:=by
 unfold rowsAt;cases h:R0 S p with
 | none=>simp
 | some e=>
   have:=H.sz.2.2.2 _ (l9 h);have:=H.sz.1;simp at *;omega
theorem qt{ch:List Int}(h:ch≠[]):atI (ch.map PV.int) (-1)=some (.int (ch.getLast?.getD 0)):=by
 rw[vr h,Mn h];rfl
theorem gk(H:bq A c S)(p:Int×Int)(d:∀q∈rowsAt S p,q.2≠[])(u:c.L.length<=1000):Wp (E7 [.ref c.G,pv p]) A (λv A'=>v=.bl (kr c S p)/\A<+:A') NoX:=by
 unfold E7;have j:=H.ob;walk_at "fn";refine cR (ef ?_);have e:Wp (L6 [some (.ref c.G),some (pv p),none]) A (λv A'=>∃n,v=.ref n/\A<+:A'/\A'[n]?=some (.lst ((d7 S p).map .int))) NoX:=by
  unfold L6;refine Y5 (rowsAt S p) rowS (λq=>.int (q.2.getLast?.getD 0)) (λ_=>true) (λa=>∃x y,a=[x,y]) ?_;walk_at "gb";refine ae (eY H p) λv k f=>?_;obtain⟨n,rfl,w,p1,g,_⟩:=f;walk_at "gb";refine⟨_,P7 g,by simp,J6 (by have:=FN H p;omega),⟨_,_,rfl⟩,λi B b=>P8 (ah b g) i,?_,?_⟩
  .rintro q a B m ⟨x,y,rfl⟩ b;have o:=qt (d q m);unfold rowS;walk_at "go";refine⟨rfl,⟨_,_,rfl⟩,?_⟩;walk_at "go";refine⟨rfl,IU _,λ_=>?_⟩;walk_at "go";exact⟨rfl,IU _⟩
  .intro B b;refine⟨_,rfl,E4 (p1.trans b),?_⟩;rw[ax,JA.mpr (by simp)];unfold d7;rw[J1];rfl
 refine ae e λv k f=>?_;obtain⟨n,rfl,p1,g⟩:=f;have h:=H.mono p1;have j:=h.ob;have z:=h.plan.ob;walk_at "gb";unfold aV;refine U6 (l:=c.L.map .int) (λa=>∃x,a=[x,some (.ref n)]) (λ_=>true) (λv=>.bl (match v with | .int l=>decide (l∈d7 S p) | _=>false)) ?_;walk_at "go";refine⟨⟨_,rfl⟩,λi=>rfl,?_,?_⟩
 .rintro v a r ⟨x,rfl⟩;obtain⟨y,C,rfl⟩:=IB.mp r;walk_at "go";refine⟨rfl,⟨_,rfl⟩,?_⟩;walk_at "go";refine⟨rfl,rfl,λ_=>?_⟩;walk_at "go";exact⟨rfl,rfl⟩
 have s:((c.L.map PV.int).filter λ_=>true).map (λv=>PV.bl (match v with | .int l=>decide (l∈d7 S p) | _=>false))=(c.L.map λl=>decide (l∈d7 S p)).map PV.bl:=by
  rw[JA.mpr (by simp),J1,J1];rfl
 refine⟨_,_,rfl,by rw[ax,s],?_,E4 p1⟩;unfold kr;rw[List.all_map];rfl
noncomputable def openL(c:bZ)(S:LS):List (Int×Int):=(srt (S.lays.map (·.1))).filter (kr c S)
theorem fD(H:bq A c S)(b:∀p,∀q∈rowsAt S p,q.2≠[])(k:c.L.length<=1000):Wp (K1 [.ref c.G]) A (λv A'=>∃n,v=.ref n/\A.length<=n/\A<+:A'/\A'[n]?=some (.lst (aJ (openL c S)))) NoX:=by
 unfold K1;have l:=H.ob;walk_at "fn";refine dJ ?_;unfold X8;refine Y5 (srt (S.lays.map (·.1))) pv pv (kr c S) (λe=>∃x,e=[x,some (.ref c.G)]) ?_;walk_at "gb";refine ae (eZ H) λv m d=>?_;obtain⟨rfl,rfl⟩:=d;have f:(A++[PO.lst (aJ (srt (S.lays.map (·.1))))])[A.length]?=some (.lst (aJ (srt (S.lays.map (·.1))))):=ax;have g:(srt (S.lays.map (·.1))).length<64:=by
  rw[(G4 _).length_eq];have:=H.ln.length_le_of_subset (l₂:=c.ps) H.lp;have:=H.pg.len;omega
 have h:A<+:A++[PO.lst (aJ (srt (S.lays.map (·.1))))]:=IJ _ _;have o:A.length<(A++[PO.lst (aJ (srt (S.lays.map (·.1))))]).length:=by simp
 generalize A++[PO.lst (aJ (srt (S.lays.map (·.1))))]=m at *;walk_at "gb";refine⟨_,P7 f,by simp[aJ],J6 (by omega),⟨_,rfl⟩,λi B a=>P8 (ah a f) i,?_,?_⟩
 .rintro p e B s ⟨x,rfl⟩ a;have j:=H.mono (h.trans a);have l:=j.ob;walk_at "go";refine⟨rfl,⟨_,rfl⟩,?_⟩;walk_at "go";refine ae (gk j p (b p) k) λv u d=>?_;obtain⟨rfl,r⟩:=d;refine⟨_,rfl,rfl,r,λ_=>?_⟩;walk_at "go";exact⟨rfl,IU _⟩
 .intro B a;refine⟨_,rfl,by have:=a.length_le;omega,E4 (h.trans a),ax⟩
end
noncomputable def tv(w:List Int):PV:=.tup (w.map .int)
noncomputable def cT(W:List (List Int)):List PV:=W.map tv
noncomputable def T1(w:List Int):Int:=w.getLast?.getD 0
noncomputable def gm(ps:List (Int×Int))(w:List Int):List (List Int):=(ps.filter λp=>decide (p.1=T1 w)&&!decide (p.2∈w)).map λp=>w++[p.2]
noncomputable def bQ(ps:List (Int×Int)):Nat->List (List Int)->List (List Int)
 | 0,W=>W
 | k+1,W=>bQ ps k (W.flatMap (gm ps))
theorem m4(ps:List (Int×Int)):∀(k:Nat)(W:List (List Int)),bQ ps (k+1) W=(bQ ps k W).flatMap (gm ps)
 | 0,W=>rfl
 | k+1,W=>by
   show bQ ps (k+1) (W.flatMap (gm ps))=_;rw[m4 ps k];rfl
structure bW(N:Nat)(ps:List (Int×Int))(h:Int)(w:List Int):Prop where
 hd:w.head?=some h
 nd:w.Nodup
 inn:∀x∈w,0<=x/\x<N
 st:∀(i:Nat) a b,w[i]?=some a->w[i+1]?=some b->(a,b)∈ps
theorem bW.ne{N:Nat}{ps:List (Int×Int)}{h:Int}{w:List Int}(x:bW N ps h w):w≠[]:=λz=>by have:=x.hd;rw[z]at this;cases this
theorem bW.len{N:Nat}{ps:List (Int×Int)}{h:Int}{w:List Int}(x:bW N ps h w):w.length<=N:=by
 have:=x.nd.length_le_of_subset (l₂:=S6 N) λy a=>mem_hands.mpr (x.inn y a);rw[aT]at this;exact this
theorem vF{w:List Int}(h:w≠[]):w[w.length - 1]?=some (T1 w):=by
 unfold T1;rw[<-Lj,Mn h];rfl
section
variable{N:Nat}{ps:List (Int×Int)}{h:Int}
theorem FO(c:0<=h/\h<N):bW N ps h [h]:=⟨rfl,by simp,by simpa using c,λi a b e d=>by cases i<;>simp at d⟩
theorem FP(f:∀p∈ps,good N p){w:List Int}(x:bW N ps h w){y:Int}(e:(T1 w,y)∈ps)(g:y∉w):bW N ps h (w++[y]):=by
 refine⟨?_,?_,λz j=>?_,λi a b d c=>?_⟩
 .have:=x.hd;cases w with
  | nil=>cases this
  | cons a r=>exact this
 .rw[Ju];exact⟨x.nd,by simp,λa k b l=>by rw[IK.mp l];exact λz=>g (z ▸ k)⟩
 .rcases Jm.mp j with q | q
  .exact x.inn z q
  .rw[IK.mp q];exact(f _ e).2.1
 .by_cases m:i+1<w.length
  .rw[Jf (by omega)]at d;rw[Jf m]at c;exact x.st i a b d c
  .have n:i+1=w.length:=by
    have:=(IQ.mp c).1;simp at this;omega
   rw[n,Kb (IC _)]at c;simp at c;rw[Jf (by omega)]at d;have:i=w.length - 1:=by omega
   rw[this,vF x.ne]at d;cases d;rw[<-c];exact e
theorem mem_exts{w v:List Int}:v∈gm ps w↔∃y,v=w++[y]/\(T1 w,y)∈ps/\y∉w:=by
 unfold gm;rw[IB];constructor
 .rintro⟨p,a,rfl⟩;rw[Ji,Jc]at a;have b:p.1=T1 w:=of_decide_eq_true a.2.1;exact⟨p.2,rfl,by rw[<-b];exact a.1,by simpa using a.2.2⟩
 .rintro⟨y,rfl,b,c⟩;exact⟨(T1 w,y),by rw[Ji];exact⟨b,by simp[c]⟩,rfl⟩
theorem FQ{w:List Int}{y:Int}(x:bW N ps h (w++[y]))(c:w≠[]):bW N ps h w/\(T1 w,y)∈ps/\y∉w:=by
 have j:0<w.length:=JV.mpr c;refine⟨⟨?_,(Ju.mp x.nd).1,λz e=>x.inn z (JR _ e),λi a b f d=>?_⟩,?_,λg=>?_⟩
 .have:=x.hd;cases w with
  | nil=>exact absurd rfl c
  | cons a r=>exact this
 .have:=(IQ.mp d).1;exact x.st i a b (by rw[Jf (by omega)];exact f) (by rw[Jf this];exact d)
 .refine x.st (w.length - 1) _ _ (by rw[Jf (by omega)];exact vF c) ?_;rw[show w.length - 1+1=w.length by omega,Kb (IC _)];simp
 .exact(Ju.mp x.nd).2.2 y g y (by simp) rfl
theorem n9(c:∀p∈ps,good N p)(d:0<=h/\h<N):∀(k:Nat)(w:List Int),w∈bQ ps k [[h]]↔bW N ps h w/\w.length=k+1
 | 0,w=>by
   show w∈[[h]]↔_;rw[IK];constructor
   .rintro rfl;exact⟨FO d,rfl⟩
   .rintro⟨x,b⟩;have:=x.hd;match w,b,this with
    | [a],_,e=>cases e;rfl
 | k+1,w=>by
   rw[m4,Me];constructor
   .rintro⟨v,g,i⟩;obtain⟨x,b⟩:=(n9 c d k v).mp g;obtain⟨y,rfl,j,l⟩:=mem_exts.mp i;exact⟨FP c x j l,by simp[b]⟩
   .rintro⟨x,b⟩;have f:w≠[]:=x.ne;have e:=List.dropLast_concat_getLast f;have m:w.dropLast≠[]:=λz=>by
     have:=congrArg List.length z;rw[PX]at this;simp at this;omega
    rw[<-e]at x;obtain⟨n,o,q⟩:=FQ x m;refine⟨w.dropLast,(n9 c d k _).mpr ⟨n,by rw[PX];omega⟩,mem_exts.mpr ⟨_,e.symm,o,q⟩⟩
theorem FR(a:∀p∈ps,good N p)(b:0<=h/\h<N){k:Nat}(d:N<=k):bQ ps k [[h]]=[]:=by
 refine List.eq_nil_iff_forall_not_mem.mpr λw c=>?_;obtain⟨x,e⟩:=(n9 a b k w).mp c;have:=x.len;omega
theorem qu(f:∀p∈ps,good N p)(g:ps.Nodup)(w:List Int):(gm ps w).length<=N:=by
 have:((ps.filter λp=>decide (p.1=T1 w)&&!decide (p.2∈w)).map (·.2)).Nodup:=by
  rw[Jv,Kv];refine Ow (λ{a b} d e c=>?_) (g.filter _);rw[Ji,Jc]at d e;intro z;have i:a.1=T1 w:=of_decide_eq_true d.2.1;have j:b.1=T1 w:=of_decide_eq_true e.2.1;exact c (Prod.ext (i.trans j.symm) z)
 have:=this.length_le_of_subset (l₂:=S6 N) λy k=>by
  obtain⟨p,l,rfl⟩:=IB.mp k;exact mem_hands.mpr (f p (Ji.mp l).1).2.1
 rw[aT,Iz]at this;unfold gm;rw[Iz];exact this
theorem qv{b c:Type}{f:b->List c}{n:Nat}:∀(l:List b),(∀x∈l,(f x).length<=n)->(l.flatMap f).length<=l.length*n
 | [],_=>by simp
 | a::r,h=>by
   rw[Ox,IT,J2,PK];have:=h a IE;have:=qv r λx d=>h x (IF _ d);omega
theorem mf(a:∀p∈ps,good N p)(b:ps.Nodup)(c:N<=6):∀k,(bQ ps k [[h]]).length<=6 ^ k
 | 0=>by simp[bQ]
 | k+1=>by
   rw[m4];have:=qv (n:=N) (bQ ps k [[h]]) λw _=>qu a b w;have d:=mf a b c k
   calc _<=_:=this
    _<=6 ^ k*6:=MP d c
    _=6 ^ (k+1):=(Nat.pow_succ ..).symm
end
noncomputable def E8(ps:List (Int×Int))(h:Int)(j:Nat):List (List Int):=(Jj j).flatMap λk=>bQ ps k [[h]]
theorem m5(ps:List (Int×Int))(h:Int)(j:Nat):E8 ps h (j+1)=E8 ps h j++bQ ps j [[h]]:=by
 unfold E8;rw[List.range_succ,Ml];simp
section
variable{N:Nat}{ps:List (Int×Int)}{h:Int}
theorem vG(a:∀p∈ps,good N p)(b:0<=h/\h<N)(w:List Int):w∈E8 ps h N↔bW N ps h w:=by
 unfold E8;rw[Me];constructor
 .rintro⟨k,_,c⟩;exact((n9 a b k w).mp c).1
 .intro x;have d:=x.len;have e:0<w.length:=JV.mpr x.ne;exact⟨w.length - 1,JG.mpr (by omega),(n9 a b _ w).mpr ⟨x,by omega⟩⟩
theorem FT(b:∀p∈ps,good N p)(c:0<=h/\h<N){j:Nat}(f:j<=N)(e:bQ ps j [[h]]=[]):E8 ps h j=E8 ps h N:=by
 have a:∀d,bQ ps (j+d) [[h]]=[]/\E8 ps h (j+d)=E8 ps h j:=by
  intro d;induction d with
  | zero=>exact⟨e,rfl⟩
  | succ d ih=>
    refine⟨by rw[<-Nat.add_assoc,m4,ih.1];rfl,?_⟩;rw[<-Nat.add_assoc,m5,ih.1,ih.2,Kh]
 have:=(a (N - j)).2;rw[show j+(N - j)=N by omega]at this;exact this.symm
theorem vH(b:∀p∈ps,good N p)(c:ps.Nodup)(d:N<=6):∀j,j<=6->(E8 ps h j).length<=56000
 | j,e=>by
   have a:∀k,(bQ ps k [[h]]).length<=6 ^ k:=mf b c d;have s:∀j,(E8 ps h (j+1)).length=(E8 ps h j).length+(bQ ps j [[h]]).length:=λj=>by rw[m5,IT]
   have z:(E8 ps h 0).length=0:=rfl;have f:(E8 ps h 1).length=(E8 ps h 0).length+(bQ ps 0 [[h]]).length:=s 0;have g:(E8 ps h 2).length=(E8 ps h 1).length+(bQ ps 1 [[h]]).length:=s 1;have i:(E8 ps h 3).length=(E8 ps h 2).length+(bQ ps 2 [[h]]).length:=s 2;have l:(E8 ps h 4).length=(E8 ps h 3).length+(bQ ps 3 [[h]]).length:=s 3;have m:(E8 ps h 5).length=(E8 ps h 4).length+(bQ ps 4 [[h]]).length:=s 4;have n:(E8 ps h 6).length=(E8 ps h 5).length+(bQ ps 5 [[h]]).length:=s 5;have o:=a 0;have q:=a 1;have r:=a 2;have u:=a 3;have v:=a 4;have w:=a 5;match j,e with
   | 0,_=>omega
   | 1,_=>omega
   | 2,_=>omega
   | 3,_=>omega
   | 4,_=>omega
   | 5,_=>omega
   | 6,_=>omega
end
theorem FU:50000<=LIM:=by unfold LIM;omega
theorem FV:56000<=LIM:=by unfold LIM;omega
theorem FW:70000<=LIM:=by unfold LIM;omega
theorem FX(w:List Int):plain (tv w)=true:=X5 w
theorem cw(W:List (List Int)):H9 (cT W)=true:=by
 unfold H9 cT;rw[List.all_map,Jg];exact λw _=>FX w
section
variable{A:PHp}{N:Nat}{ps:List (Int×Int)}{h:Int}{q:Nat}
theorem gY{B:PHp}(b:B[q]?=some (.lst (aJ ps)))(n:ps.length<64){w:List Int}(c:w≠[])(e:w.length<=10){f g j:Option PV}:Wp (Y8 [some (.ref q),f,g,j,some (tv w)]) B (λv k=>v=.ref B.length/\k=B++[.lst (cT (gm ps w))]) NoX:=by
 unfold Y8;refine U6 (l:=aJ ps) (λd=>∃x y,d=[x,y,some (tv w)]) (λv=>decide (ip v=T1 w)&&!decide (gN v∈w)) (λv=>tv (w++[gN v])) ?_;walk_at "go";refine⟨_,P7 b,IC _,J6 (by rw[aJ,Iz];omega),⟨_,_,rfl⟩,λi=>P8 b i,?_,rfl,?_⟩
 .rintro v d m ⟨x,y,rfl⟩;obtain⟨p,o,rfl⟩:=vd m;have r:atI (w.map PV.int) (-1)=some (.int (T1 w)):=qt c;unfold pv tv;walk_at "go";refine⟨rfl,⟨_,_,rfl⟩,?_⟩;walk_at "go";refine⟨λa=>?_,λa=>?_⟩
  .walk_at "go";refine⟨rfl,?_,λ_=>?_⟩
   .show _=(decide (p.1=T1 w)&&_);rw[a];rfl
   .walk_at "go";refine iL ⟨by simpa using c,J6 (by simp;omega)⟩ ⟨rfl,?_⟩;show _=PV.tup ((w++[p.2]).map .int);rw[Js];rfl
  .refine⟨rfl,?_,λz=>(nomatch z)⟩;show _=(decide (p.1=T1 w)&&_);rw[a];rfl
 .congr 3;unfold aJ cT gm;rw[My,J1,J1];rfl
theorem gZ{B:PHp}(P:N1 N ps)(C:B[q]?=some (.lst (aJ ps))){k:Nat}{a m:Nat}(D:B[a]?=some (.lst (cT (bQ ps k [[h]]))))(L:k<N)(e:0<=h/\h<N)(E:B[m]?=some (.lst [])){l G:Option PV} :
 Wp (Y9 [some (.ref q),some (.ref a),l,some (.ref m),G]) B (λo c=>∃d f,o=.nx [some (.ref q),some (.ref a),l,some (.ref d),f]/\B<+:c/\c[d]?=some (.lst (cT (bQ ps (k+1) [[h]])))) NoX:=by
 have g:=P.good;have y:N<=6:=by have:=P.hi;omega
 unfold Y9;refine kj (λi j c=>∃d f,j=[some (.ref q),some (.ref a),l,some (.ref d),f]/\B<+:c/\c[d]?=some (.lst (cT (((bQ ps k [[h]]).take i).flatMap (gm ps))))) ?_;walk_at "go";refine⟨a,cT (bQ ps k [[h]]),rfl,⟨m,_,rfl,IU _,E⟩,λi j c e=>?_,λi v j c p r=>?_,λj c e=>?_⟩
 .obtain⟨_,_,_,p1,_⟩:=e;exact J3 (ah p1 D)
 .obtain⟨d,f,rfl,p1,b⟩:=r;unfold cT at p;rw[Ja]at p;obtain⟨w,z,rfl⟩:=Jh.mp p;obtain⟨x,H⟩:=(n9 g e k w).mp (Jn z);have s:=ah p1 C;walk_at "go";unfold cp;refine ef (lW ?_);walk_at "go";refine ae (gY s P.len x.ne (by omega)) λv O e=>?_;obtain⟨rfl,rfl⟩:=e;have I:(bQ ps k [[h]]).take (i+1)=(bQ ps k [[h]]).take i++[w]:=by rw[KC,z];rfl
  have Q:(((bQ ps k [[h]]).take i).flatMap (gm ps)).length<=(bQ ps k [[h]]).length*6:=by
   refine Jd (qv (n:=6) _ λu _=>Jd (qu g P.nd u) y) (PY _ ?_);rw[JD];omega
  have l2:(bQ ps k [[h]]).length<=6 ^ 5:=Jd (mf g P.nd y k) (Nn (by decide) (by omega));have T:=qu g P.nd w;have J:(bQ ps k [[h]]).length<=7776:=l2;refine pH (ao b) ax ?_ ?_
  .refine Jd ?_ (FU);unfold cT;rw[Iz,Iz];omega
  .walk_at "go";refine⟨_,_,rfl,E4 (E4 p1),?_⟩;rw[ax,I,Ml];unfold cT;simp
 .obtain⟨d,f,rfl,p1,b⟩:=e;unfold cT at b;rw[Iz,KO]at b;exact⟨d,f,rfl,p1,by rw[m4];exact b⟩
theorem hF(P:N1 N ps)(L:A[q]?=some (.lst (aJ ps)))(p:0<=h/\h<N){a:Nat}(O:A[a]?=some (.lst (cT [[h]]))):Wp (U2 [.ref q,.ref a]) A (λv A'=>∃n,v=.ref n/\A.length<=n/\A<+:A'/\A'[n]?=some (.lst (cT (E8 ps h N)))) NoX:=by
 have l:=P.good;have D:N<=6:=by have:=P.hi;omega
 unfold U2;walk_at "fn";walk_at "gb";have Q:Wp (Z0 [some (.ref q),some (.ref a),some (.ref A.length),none,none]) (A++[.lst []]) (λo A'=>∃c n f g,o=.nx [some (.ref q),some (.ref c),some (.ref n),f,g]/\A.length<=n/\A<+:A'/\A'[n]?=some (.lst (cT (E8 ps h N)))) NoX:=by
  unfold Z0;refine pM (λm E B=>∃j c n f g,m+j=N+1/\j<=N/\E=[some (.ref q),some (.ref c),some (.ref n),f,g]/\A<+:B/\A.length<=n/\B[c]?=some (.lst (cT (bQ ps j [[h]])))/\B[n]?=some (.lst (cT (E8 ps h j)))) (m:=N+1) (by omega) ⟨0,a,A.length,_,_,rfl,Kl _,rfl,IJ _ _,IC _,ao O,ax⟩ ?_;rintro m E B ⟨j,c,n,f,g,hm,T,rfl,p1,G,d,b⟩;refine uY (lW ?_);walk_at "go";refine il (ao d) ax ⟨cw _,rfl⟩ ⟨_,rfl,λi=>?_,λi=>?_⟩
  .have s:j<N:=by
    refine Nat.lt_of_not_le λz=>?_;rw[FR l p z]at i;cases i
   unfold o8;refine cR (ef (lW ?_));walk_at "go";have e1:=vH (h:=h) l P.nd D j (by omega);have U:(bQ ps j [[h]]).length<=6 ^ 5:=Jd (mf l P.nd D j) (Nn (by decide) (by omega));have e3:(bQ ps j [[h]]).length<=7776:=U;refine pH (ao b) (ao d) ?_ ?_
   .refine Jd ?_ (FW);unfold cT;rw[Iz,Iz];omega
   have Y:cT (E8 ps h j)++cT (bQ ps j [[h]])=cT (E8 ps h (j+1)):=by rw[m5];unfold cT;rw[Js]
   rw[Y];generalize H:B++[PO.lst []]++[PO.lst (cT (E8 ps h (j+1)))]=I;have u:B<+:I:=by rw[<-H];exact(IJ _ _).trans (IJ _ _)
   have w:I[(B++[PO.lst []]).length]?=some (.lst (cT (E8 ps h (j+1)))):=by rw[<-H];exact ax
   have y:A.length<=(B++[PO.lst []]).length:=by have:=p1.length_le;simp;omega
   generalize(B++[PO.lst []]).length=n1 at *;walk_at "go";refine ae (gZ (h:=h) (k:=j) P (ao (ah u (ah p1 L))) (ao (ah u d)) s p ax) λo B2 e=>?_;obtain⟨m',a2,rfl,J,C⟩:=e;walk_at "go";exact⟨m - 1,by omega,j+1,m',n1,_,_,by omega,by omega,rfl,p1.trans (u.trans ((IJ _ _).trans J)),y,C,ah J (ao w)⟩
  .have he:bQ ps j [[h]]=[]:=by
    cases hl:bQ ps j [[h]]with
    | nil=>rfl
    | cons x r=>rw[hl]at i;cases i
   exact⟨c,n,f,g,rfl,G,E4 p1,by rw[ao b,FT l p T he]⟩
 refine ae Q λo A1 e=>?_;obtain⟨c,n,f,g,rfl,G,p1,b⟩:=e;walk_at "go";exact b
noncomputable def chainsOf(ps:List (Int×Int))(L:List Int)(N:Nat)(h:Int):List (List Int):=(E8 ps h N).filter λw=>decide (T1 w∈L)
theorem fE(P:N1 N ps)(k:A[q]?=some (.lst (aJ ps)))(f:0<=h/\h<N){l:Nat}{L:List Int}(m:A[l]?=some (.lst (L.map .int))):Wp (P1 [.ref q,.ref l,.int h]) A (λv A'=>∃n,v=.ref n/\A.length<=n/\A<+:A'/\A'[n]?=some (.lst (cT (chainsOf ps L N h)))) NoX:=by
 have g:=P.good;have o:N<=6:=by have:=P.hi;omega
 unfold P1;walk_at "fn";refine dJ ?_;unfold d9;refine Y5 (E8 ps h N) tv tv (λw=>decide (T1 w∈L)) (λj=>∃x,j=[x,some (.ref l)]) ?_;walk_at "go";refine ae (hF (h:=h) P (ao k) f ax) λv p c=>?_;obtain⟨n,rfl,u,p1,b⟩:=c;have d:A<+:p:=(IJ _ _).trans p1;walk_at "go";refine⟨_,P7 b,by simp[cT],Jd (vH g P.nd o N (by omega)) FV,⟨_,rfl⟩,λi B a=>P8 (ah a b) i,?_,?_⟩
 .rintro w j B r ⟨x,rfl⟩ a;have s:=ah (d.trans a) m;have e:=((vG g f w).mp r).ne;have y:atI (w.map PV.int) (-1)=some (.int (T1 w)):=qt e;unfold tv;walk_at "go";refine⟨rfl,⟨_,rfl⟩,?_⟩;walk_at "go";refine⟨rfl,IU _,λ_=>?_⟩;walk_at "go";exact⟨rfl,IU _⟩
 .intro B a;exact⟨_,rfl,Jd d.length_le a.length_le,E4 (d.trans a),ax⟩
end
noncomputable def jx(x k:Int):Int:=((x+7919*k+1)*48271%2147483647)*((x+7919*k+1)*48271%2147483647 / 1009+69621)%2147483647
noncomputable def mx(x k:Int):Int:=if(10:Int) ^ 60<x/\x%2=1 then Kc (x / 2 ^ (1+20*k).toNat) 1048575 else jx x k*(jx x k / 4099+40014)%2147483647
theorem FY(x k:Int):0<=jx x k/\jx x k<2147483647:=by
 unfold jx;exact⟨LN _ (by decide),LI _ (by decide)⟩
theorem FZ{a:Int}(h:0<=a){m:Nat}:0<=Kc a m/\Kc a m<=m:=by
 unfold Kc;rw[decide_eq_true h,decide_eq_true (LC m)];have:a.toNat&&& m<=m:=Nat.and_le_right;simp only[LQ];omega
theorem qw(x k:Int):0<=mx x k/\mx x k<2147483647:=by
 unfold mx;split
 .rename_i h;have a:(0:Int)<=x:=Int.le_of_lt (Int.lt_trans (by decide) h.1);have:=FZ (m:=1048575) (Int.ediv_nonneg a (Int.le_of_lt (Int.pow_pos (by decide):(0:Int)<2 ^ (1+20*k).toNat)));have e:((1048575:Nat):Int)=1048575:=rfl;rw[e]at this;omega
 .exact⟨LN _ (by decide),LI _ (by decide)⟩
theorem Ga{A:PHp}{Q:PV->PHp->Prop}{E:XP}(q:Q (.int ((10:Int) ^ 60)) A):Wp (nz (.int 10) (.int 60)) A Q E:=C8 (by decide) q
theorem Gb(x:Int){k:Int}(l:0<=k)(A:PHp):Wp (G0 [.int x,.int k]) A (λv f=>v=.int (mx x k)/\f=A) NoX:=by
 unfold G0;have a:¬((10:Int) ^ 60<x/\x%2=1)->∀B,Wp (C9 (K0 (C3 f8 (C3 fJ (C3 U7 (C3 U7 (aa 0) (C3 fJ (eK (.int 7919)) (aa 1))) (eK (.int 1))) (eK (.int 48271))) (eK (.int 2147483647))) (gName 2))
  (C9 (K0 (C3 f8 (C3 fJ (aa 2) (C3 U7 (C3 v8 (aa 2) (eK (.int 1009))) (eK (.int 69621)))) (eK (.int 2147483647))) (gName 2))
  (I9 (C3 f8 (C3 fJ (aa 2) (C3 U7 (C3 v8 (aa 2) (eK (.int 4099))) (eK (.int 40014)))) (eK (.int 2147483647))))) [some (.int x),some (.int k),none]) B (λo g=>o=.rt (.int (mx x k))/\g=B) NoX:=λh B=>by
  walk_at "gb";refine w_mul (.inl (by decide)) ?_;walk_at "gb";refine w_mul (.inr (by decide)) ?_;walk_at "gb";refine w_mul (.inl ?_) ?_
  .have c:=LN ((x+7919*k+1)*48271) (by decide:(2147483647:Int)≠0);have d:=LI ((x+7919*k+1)*48271) (by decide:(0:Int)<2147483647);omega
  walk_at "gb";refine w_mul (.inl ?_) ?_
  .have:=FY x k;unfold jx at this;omega
  walk_at "gb";refine⟨?_,rfl⟩;unfold mx;rw[if_neg h];rfl
 walk_at "fn";walk_at "gb";refine Ga ?_;generalize i:(10:Int) ^ 60=T at *;walk_at "gb";refine⟨λb=>?_,λb=>?_⟩
 .have c:T<x:=by simpa using b
  walk_at "gb";refine⟨λb=>?_,λb=>?_⟩
  .have d:x%2=1:=by simpa using b
   walk_at "gb";refine w_mul (.inl (by decide)) ?_;walk_at "gb";refine⟨?_,rfl⟩;unfold mx;rw[i,if_pos ⟨c,d⟩]
  .have d:¬x%2=1:=by simpa using b
   refine X4 ?_;dsimp only;refine ae (a (λz=>d z.2) A) λo j e=>?_;obtain⟨rfl,rfl⟩:=e;exact⟨rfl,rfl⟩
 .have c:¬T<x:=by simpa using b
  refine⟨λz=>absurd z (by simp),λ_=>?_⟩;refine X4 ?_;dsimp only;refine ae (a (λz=>c z.1) A) λo j e=>?_;obtain⟨rfl,rfl⟩:=e;exact⟨rfl,rfl⟩
theorem br(x k:Int)(A:PHp)(a:0<=k:=by omega):G0 [.int x,.int k] A=.ok (.int (mx x k)) A:=by
 obtain⟨v,b,e,rfl,rfl⟩:=kd (Gb x a A);exact e
set_option maxHeartbeats 2000000 in
theorem gn{A:PHp}{P w r g dl h N l:Nat}{ps:List (Int×Int)}{L c:List Int}{f:Int×Int->Int}(b:cI A P w r N ps L f g dl h)(i:N1 N ps)(j:A[l]?=some (.lst (c.map .int)))(k:c.length<=1000) :
 Wp (M5 [.ref A.length,.ref P,.ref l]) (A++[.ins 2 []]) (λv A'=>v=.non/\A<+:A'/\bq A' ⟨N,ps,L,f,c,P,w,r,g,dl,h,A.length⟩ ⟨1,[],[],[],0⟩) NoX:=by
 unfold M5;have m:=G8 j;have n:=G8 b.web.ob;have o:=G8 b.web.ls;have p:=G8 b.ob;have q:=G8 b.ls;have s:=G8 b.ld;have u:=G8 b.lk;walk_at "fn";walk_at "gb";simp only[putFld,Nat.reduceEqDiff,if_false,MD,IT,J2,JN,Pu];refine⟨trivial,?pre,⟨b.mono (A:=A) ?pr2,?ob,?fl,?tl,?sl,?ul,λe x=>(nomatch x),⟨p,n,o,q,s,u⟩,λa d=>(nomatch d),.nil,.nil,.nil,λa d=>(nomatch d),i,by simp⟩⟩
 case pre=>walk_at "pre"
 case pr2=>walk_at "pre"
 case ob=>
  show _=some (PO.ins 2 [(6,.ref P),(7,.ref (A.length+1)),(11,.tup (c.map .int)),(12,.int 1),(13,.ref (A.length+1+1)),(14,.ref (A.length+1+1+1)),(15,.ref (A.length+1+1+1+1))]);walk_at "st"
 case fl=>walk_at "st"
 case tl=>show(_:PHp)[A.length+1+1]?=some (PO.dT []);walk_at "st"
 case sl=>show(_:PHp)[A.length+1+1+1]?=some (PO.dT []);walk_at "st"
 case ul=>show(_:PHp)[A.length+1+1+1+1]?=some (PO.dT []);walk_at "st"
theorem Gc(N:Nat)(i:Nat):((S6 N).map PV.int)[i]?=((Jj N).map λ(k:Nat)=>PV.int (k:Int))[i]?:=by unfold S6;rw[J1];rfl
theorem vI(f:Int×Int->PV):∀a:List (Int×Int),gv (a.map λp=>.tup [pv p,f p])=some (a.map λp=>(l2 p,f p))
 | []=>rfl
 | p::r=>by
   show(P5 _).bind _=_;rw[vI f r];rfl
theorem vJ:∀(m a:DT),(m.map (·.1)).Nodup->(∀k∈m.map (·.1),k∉a.map (·.1))->m.foldl (λa p=>Y6 a p.1 p.2) a=a++m
 | [],a,_,_=>by simp
 | p::r,a,d,h=>by
   have b:=Ki.mp d;show r.foldl _ (Y6 a p.1 p.2)=_;rw[kl (h p.1 (by simp)),vJ r _ b.2 λk c=>?_]
   .simp
   .rw[Js,Jm];rintro(z | z)
    .exact h k (IF _ c) z
    .have:k=p.1:=by simpa using z
     rw[this]at c;exact b.1 c
theorem Gd{ps:List (Int×Int)}(e:ps.Nodup)(f:Int×Int->PV):(ps.map λp=>(l2 p,f p)).foldl (λc p=>Y6 c p.1 p.2) []=ps.map λp=>(l2 p,f p):=by
 rw[vJ _ [] ?_ (λ_ _ z=>nomatch z)]
 .rfl
 .rw[J1];exact Ov _ (λa b d z=>d (t7 z)) e
theorem mh{S:LS}{p:Int×Int}{ch:List Int}{a:Nat}(h:(S.says.map (·.1)).Nodup)(q:Int×Int):rowsAt (aY S p ch a) q=if q=p then rowsAt S q++[(S.now,ch)] else rowsAt S q:=by
 unfold rowsAt R0;by_cases c:(R0 S p).isSome=true
 .have e:(aY S p ch a).says=S.says.map (O0 S p ch):=by unfold aY;simp only;rw[if_pos c]
  rw[e];have lk:∀(l:List ((Int×Int)×Nat×List (Int×List Int))),look (l.map (O0 S p ch)) q=(look l q).map λe=>if q=p then(e.1,e.2++[(S.now,ch)]) else e:=by
   intro l;induction l with
   | nil=>rfl
   | cons x r ih=>
     show(if(O0 S p ch x).1=q then some (O0 S p ch x).2 else look (r.map (O0 S p ch)) q)=(if x.1=q then some x.2 else look r q).map _;rw[(m3 x).1];by_cases d:x.1=q
     .rw[if_pos d,if_pos d];unfold O0;by_cases b:q=p
      .rw[if_pos (d.trans b),PB,if_pos b]
      .rw[if_neg (λz=>b (d.symm.trans z)),PB,if_neg b]
     .rw[if_neg d,if_neg d];exact ih
  rw[lk];by_cases b:q=p
  .subst b;rw[if_pos rfl];cases f:look S.says q with
   | none=>unfold R0 at c;rw[f]at c;cases c
   | some e=>simp
  .rw[if_neg b];cases look S.says q<;>simp[b]
 .have g:R0 S p=none:=by simpa using c
  have e:(aY S p ch a).says=S.says++[(p,a,[(S.now,ch)])]:=by unfold aY;simp only;rw[if_neg c]
  rw[e,vC];by_cases b:q=p
  .subst b;have:look S.says q=none:=g;rw[this,if_pos rfl,qp,if_pos rfl];rfl
  .rw[if_neg b,qp,if_neg (KP b)];cases look S.says q<;>rfl
theorem vK:∀{ps:List (Int×Int)},ps.Pairwise (λp q=>p.1<q.1\/(p.1=q.1/\p.2<q.2))->srt ps=ps
 | [],_=>rfl
 | p::r,h=>by
   have k:=Jz.mp h;show d8 gQ p (srt r)=p::r;rw[vK k.2];cases r with
   | nil=>rfl
   | cons q r=>
     have a:=k.1 q (by simp);have:gQ q p=false:=by
      unfold gQ l2;simp only[D0];have b:¬q.1<p.1:=by omega
      have c:¬(q.1=p.1/\q.2<p.2):=by omega
      by_cases e:q.1=p.1<;>simp_all<;>omega
     unfold d8;rw[this];rfl
noncomputable def ordT(c:Int)(N:Nat):List (List Int):=(Jj N).map λ(k:Nat)=>[mx c (20+k),(k:Int)]
noncomputable def m6(c:Int)(N:Nat):List Int:=(D8 D0 (ordT c N)).map λt=>t.getD 1 0
theorem Ge(c:Int)(N:Nat):(m6 c N).Perm (S6 N):=by
 unfold m6;refine((K2 _ _).map _).trans ?_;unfold ordT S6;rw[J1];exact List.Perm.refl _
noncomputable def ringL(c:Int)(N:Nat):List (Int×Int):=(Jj N).map λ(k:Nat)=>((m6 c N).getD (if k=0 then N - 1 else k - 1) 0,(m6 c N).getD k 0)
theorem Gf{c:Int}{N:Nat}:∀t∈ordT c N,t≠[]:=λt a=>by
 unfold ordT at a;obtain⟨k,_,rfl⟩:=IB.mp a;simp
theorem qx{c:Int}{N k:Nat}(b:k<N):∃u,atI ((D8 D0 (ordT c N)).map λt=>PV.tup (t.map .int)) (k:Int)=some (.tup [.int u,.int ((m6 c N).getD k 0)]):=by
 have d:(D8 D0 (ordT c N)).length=N:=by rw[(K2 _ _).length_eq];simp[ordT]
 have a:(D8 D0 (ordT c N))[k]'(by omega)∈ordT c N:=(K2 D0 (ordT c N)).mem_iff.mp (JM _);rw[Ed (by rw[Iz];omega)];unfold m6;have e:((D8 D0 (ordT c N)).map λt=>t.getD 1 0).getD k 0=((D8 D0 (ordT c N))[k]'(by omega)).getD 1 0:=by
  simp[show k<(D8 D0 (ordT c N)).length by omega]
 rw[e,Nh];generalize(D8 D0 (ordT c N))[k]'(by omega)=t at a;unfold ordT at a;obtain⟨j,_,rfl⟩:=IB.mp a;exact⟨_,rfl⟩
theorem Gg{c:Int}{N k:Nat}(d:2<=N)(e:k<N):∃u,atI ((D8 D0 (ordT c N)).map λt=>PV.tup (t.map .int)) ((k:Int) - 1)=some (.tup [.int u,.int ((m6 c N).getD (if k=0 then N - 1 else k - 1) 0)]):=by
 have b:(D8 D0 (ordT c N)).length=N:=by rw[(K2 _ _).length_eq];simp[ordT]
 by_cases h:k=0
 .subst h;obtain⟨u,a⟩:=qx (c:=c) (N:=N) (k:=N - 1) (by omega);refine⟨u,?_⟩;rw[if_pos rfl,<-a];unfold atI ixN;rw[if_neg (by omega),if_pos (by rw[Iz];omega),if_pos (by omega),if_pos (by rw[Iz];omega)];rw[Iz,b];congr 2;omega
 .obtain⟨u,a⟩:=qx (c:=c) (N:=N) (k:=k - 1) (by omega);refine⟨u,?_⟩;rw[if_neg h,<-a];congr 1;omega
theorem Gh{c:Int}{N:Nat}(m:2<=N){h:Int}(i:0<=h/\h<N):∃g,(g,h)∈ringL c N/\good N (g,h):=by
 have b:=Ge c N;have n:(m6 c N).length=N:=by rw[b.length_eq,aT]
 have l:(m6 c N).Nodup:=b.nodup_iff.mpr (EM N);have f:∀k (d:k<N),(m6 c N).getD k 0=(m6 c N)[k]'(by omega):=λk d=>by simp[show k<(m6 c N).length by omega]
 have g:∀k,k<N->0<=(m6 c N).getD k 0/\(m6 c N).getD k 0<N:=λk d=>by
  rw[f k d];exact mem_hands.mp (b.mem_iff.mp (JM _))
 obtain⟨k,d,e⟩:=Jk.mp (b.mem_iff.mpr (mem_hands.mpr i));have a:k<N:=by omega
 have j:(if k=0 then N - 1 else k - 1)<N:=by split<;>omega
 refine⟨(m6 c N).getD (if k=0 then N - 1 else k - 1) 0,IB.mpr ⟨k,JG.mpr a,by rw[f k a,e]⟩,g _ j,i,λz=>?_⟩;simp only at z;rw[f _ j,<-e]at z;have:=(Lu l).mp z;split at this<;>omega
theorem Gi{c:Int}{N:Nat}(e:N<=6){A:PHp}:Wp (R9 [some (.int c),some (.int N),none,none,none,none,none,none]) A (λv b=>v=.ref A.length/\b=A++[.lst ((ordT c N).map λt=>.tup (t.map .int))]) NoX:=by
 unfold R9;refine U6 (l:=(Jj N).map λ(k:Nat)=>PV.int (k:Int)) (λa=>∃x,a=[x,some (.int c)]) (λ_=>true) (λv=>match v with | .int k=>.tup [.int (mx c (20+k)),.int k] | _=>.non) ?_;walk_at "go";refine⟨by simp,by simp;exact J6 (by omega),⟨_,rfl⟩,λi=>pP _ _,?_,rfl,?_⟩
 .rintro v a d ⟨x,rfl⟩;obtain⟨k,f,rfl⟩:=IB.mp d;walk_at "go";refine⟨rfl,⟨_,rfl⟩,?_⟩;walk_at "go";refine⟨rfl,rfl,λ_=>?_⟩;walk_at "go";refine w_eq (br _ _ _) ?_;walk_at "go";exact⟨rfl,rfl⟩
 .rw[JA.mpr (by simp)];unfold ordT;simp[J1,Lq]
theorem ei{c:Int}{N q:Nat}(d:2<=N)(j:N<=6){A:PHp}(m:A[q]?=some (.lst ((D8 D0 (ordT c N)).map λt=>.tup (t.map .int)))) :
 Wp (S0 [some (.int c),some (.int N),some (.ref q),none,none,none,none,none]) A (λv e=>v=.ref A.length/\e=A++[.lst (aJ (ringL c N))]) NoX:=by
 unfold S0;refine U6 (l:=(Jj N).map λ(k:Nat)=>PV.int (k:Int)) (λb=>∃x,b=[x,some (.ref q)]) (λ_=>true) (λv=>match v with | .int k=>pv ((m6 c N).getD (if k=0 then N - 1 else k.toNat - 1) 0,(m6 c N).getD k.toNat 0) | _=>.non) ?_;walk_at "go";refine⟨by simp,by simp;exact J6 (by omega),⟨_,rfl⟩,λi=>pP _ _,?_,rfl,?_⟩
 .rintro v b f ⟨x,rfl⟩;obtain⟨k,a,rfl⟩:=IB.mp f;rw[JG]at a;obtain⟨u,n⟩:=qx (c:=c) a;obtain⟨o,g⟩:=Gg (c:=c) d a;walk_at "go";refine⟨rfl,⟨_,rfl⟩,?_⟩;walk_at "go";refine⟨rfl,rfl,λ_=>?_⟩;walk_at "go";refine⟨rfl,?_⟩;by_cases h:k=0
  .subst h;rfl
  .have:¬(k:Int)=0:=by omega
   simp[pv,h,this]
 .rw[JA.mpr (by simp)];unfold ringL;simp only[aJ,J1];congr 3;refine Kx λk a=>?_;by_cases h:k=0
  .subst h;rfl
  .have:¬(k:Int)=0:=by omega
   simp[pv,h,this]
structure PG(N:Nat)(ps:List (Int×Int)):Prop where
 good:∀p∈ps,good N p
 nd:ps.Nodup
theorem PG.put{N:Nat}{ps:List (Int×Int)}(h:PG N ps){a b:Int}(g:Ws.good N (a,b))(c:(a,b)∉ps):PG N (ps++[(a,b)]):=by
 refine⟨λp d=>?_,?_⟩
 .rcases Jm.mp d with z | z
  .exact h.good p z
  .simp_all
 .rw[Ju];exact⟨h.nd,by simp,λx f y i e=>c (by simp_all)⟩
theorem Gj(ps:List (Int×Int))(p:Int×Int):aJ ps++[pv p]=aJ (ps++[p]):=by simp[aJ]
theorem Gk(ps:List (Int×Int)):(aJ ps).length=ps.length:=by simp[aJ]
structure PD(c:Int)(N i j:Nat)(ps:List (Int×Int)):Prop extends PG N ps where
 len:ps.length<=i*N+j
 lt:∀p∈ps,p.1<i\/(p.1=i/\p.2<j)
 up:ps.Pairwise (λp q=>p.1<q.1\/(p.1=q.1/\p.2<q.2))
 has:∀p∈ringL c N,Ws.good N p->(p.1<i\/(p.1=i/\p.2<j))->p∈ps
abbrev hI(c:Int)(N o r f:Nat)(x y z:Option PV):PSt:=[some (.int c),some (.int N),some (.ref o),some (.ref r),some (.ref f),x,y,z]
theorem Gm{A B:PHp}{c:Int}{N o r f i:Nat}{ps:List (Int×Int)}(hN:N<=6)(hi:i<N)(pre:A<+:B)(hf:A.length<=f)(fr:r≠f)(hl:B[f]?=some (.lst (aJ ps)))(hr:B[r]?=some (.lst (aJ (ringL c N))))(D:PD c N i 0 ps)(x y:Option PV) :
 Wp (S3 (hI c N o r f (some (.int i)) x y)) B (λq C=>∃k E G,q=.nx (hI c N o r f (some (.int i)) E G)/\A<+:C/\C[f]?=some (.lst (aJ k))/\C[r]?=some (.lst (aJ (ringL c N)))/\PD c N (i+1) 0 k) NoX:=by
 unfold S3;refine pK (λj O C=>∃k E G,O=hI c N o r f (some (.int i)) E G/\A<+:C/\C[f]?=some (.lst (aJ k))/\C[r]?=some (.lst (aJ (ringL c N)))/\PD c N i j k) ?_;unfold hI;walk_at "go";refine⟨0,N,rfl,⟨ps,_,_,rfl,pre,hl,hr,D⟩,?_,?_⟩
 .rintro j O J hj ⟨k,E,G,rfl,p1,n,s,d⟩;have hb:i*N<=5*6:=MP (by omega) hN;have U:(aJ k).length<LIM:=by rw[Gk];exact c5 (by have:=d.len;omega)
  have app:PD c N i j k->(i:Int)≠j->PD c N i (j+1) (k++[((i:Int),(j:Int))]):=λd l=>by
   refine⟨d.toPG.put ⟨by omega,by omega,l⟩ (λz=>by rcases d.lt _ z with h | h<;>simp at h),by have:=d.len;rw[IT];simp;omega,λp m=>?_,?_,λp m w u=>?_⟩
   .rcases Jm.mp m with z | z
    .rcases d.lt p z with h | h
     .exact .inl h
     .exact .inr ⟨h.1,by have:=h.2;omega⟩
    .rw[IK]at z;subst z;exact .inr ⟨rfl,by simp;omega⟩
   .rw[LY];refine⟨d.up,by simp,λp m q Y=>?_⟩;rw[IK]at Y;subst Y;exact d.lt p m
   .by_cases e:p=((i:Int),(j:Int))
    .rw[e];simp
    .refine JR _ (d.has p m w ?_);obtain⟨a,b⟩:=p;simp at e u ⊢;omega
  have skip:PD c N i j k->(good N ((i:Int),(j:Int))->((i:Int),(j:Int))∉ringL c N)->PD c N i (j+1) k:=λd l=>by
   refine⟨d.toPG,by have:=d.len;omega,λp m=>?_,?_,λp m w u=>d.has p m w ?_⟩
   .rcases d.lt p m with h | h
    .exact .inl h
    .exact .inr ⟨h.1,by have:=h.2;omega⟩
   .exact d.up
   .have:p≠((i:Int),(j:Int)):=λz=>by subst z;exact l w m
    obtain⟨a,b⟩:=p;simp at this u ⊢;omega
  walk_at "go";unfold bw;walk_at "go";refine w_mul (.inl (by omega)) ?_;walk_at "go";refine w_eq (br _ _ _) ?_;walk_at "go";simp only[Int.zero_add];have nx:∀H v,A<+:H->H[f]?=some (.lst (aJ v))->H[r]?=some (.lst (aJ (ringL c N)))->PD c N i (j+1) v->∃k E G,[some (PV.int c),some (.int N),some (.ref o),some (.ref r),some (.ref f),some (.int i),some (.int j),some (.int (mx c (40+6*i+j)))]=[some (PV.int c),some (.int N),some (.ref o),some (.ref r),some (.ref f),some (.int i),E,G]/\A<+:H/\H[f]?=some (.lst (aJ k))/\H[r]?=some (.lst (aJ (ringL c N)))/\PD c N i (j+1) k:=λH v I L Q h4=>⟨v,_,_,rfl,I,L,Q,h4⟩;have T:((i:Int)≠j)->A<+:J.set f (.lst (aJ k++[PV.tup [.int i,.int j]]))/\(J.set f (.lst (aJ k++[PV.tup [.int i,.int j]])))[f]?=some (.lst (aJ (k++[((i:Int),(j:Int))])))/\(J.set f (.lst (aJ k++[PV.tup [.int i,.int j]])))[r]?=some (.lst (aJ (ringL c N))):=λ_=>⟨Y2 p1 hf,by rw[aP n,<-Gj];rfl,by rw[D9 fr];exact s⟩;refine⟨λI=>?_,λI=>?_⟩
  .have l:(i:Int)≠j:=by simpa using I
   obtain⟨s1,s2,s3⟩:=T l;walk_at "go";refine⟨λL=>?_,λL=>?_⟩
   .walk_at "go";exact nx _ _ s1 s2 s3 (app d l)
   .walk_at "go";refine⟨λQ=>?_,λQ=>?_⟩
    .walk_at "go";exact nx _ _ s1 s2 s3 (app d l)
    .walk_at "go";exact nx _ _ p1 n s (skip d λ_=>by simpa using L)
  .walk_at "go";exact nx _ _ p1 n s (skip d λg=>absurd (by simpa using I) g.2.2)
 .rintro O J ⟨k,E,G,rfl,p1,n,s,d⟩;refine⟨k,_,_,rfl,p1,n,s,d.toPG,by have:=d.len;rw[PK];omega,λp m=>?_,d.up,λp m w u=>d.has p m w ?_⟩
  .rcases d.lt p m with h | h
   .left;omega
   .left;omega
  .have:=w.2.1.2;have:=w.2.1.1;simp at u;omega
theorem Gn{A:PHp}{c:Int}{N:Nat}(U:2<=N)(u:N<=6):Wp (M9 [.int c,.int N]) A (λv A'=>A<+:A'/\∃s r,v=.ref r/\A'[r]?=some (.lst (aJ s))/\N1 N s/\srt s=s/\s.length<=36/\(∀h:Int,0<=h/\h<N->∃g,(g,h)∈s)/\A.length<=r) NoX:=by
 unfold M9;walk_at "fn";walk_at "go";refine ae (Gi u) λv A1 k=>?_;obtain⟨G,H⟩:=k;subst G;subst H;have Y:m8 ((ordT c N).map λt=>.tup (t.map .int)) (A++[.lst ((ordT c N).map λt=>.tup (t.map .int))])=.ok ((D8 D0 (ordT c N)).map λt=>.tup (t.map .int)) (A++[.lst ((ordT c N).map λt=>.tup (t.map .int))]):=w6 (by simp[ordT];omega) Gf;refine⟨_,_,_,rfl,ax,Y,?_⟩;have w:(A++[PO.lst ((ordT c N).map λt=>PV.tup (t.map .int))]++[.lst ((D8 D0 (ordT c N)).map λt=>.tup (t.map .int))])[(A++[PO.lst ((ordT c N).map λt=>PV.tup (t.map .int))]).length]?=some (.lst ((D8 D0 (ordT c N)).map λt=>.tup (t.map .int))):=ax;have a:A<+:A++[PO.lst ((ordT c N).map λt=>PV.tup (t.map .int))]++[.lst ((D8 D0 (ordT c N)).map λt=>.tup (t.map .int))]:=E4 (IJ _ _);generalize hB:A++[PO.lst ((ordT c N).map λt=>PV.tup (t.map .int))]++[.lst ((D8 D0 (ordT c N)).map λt=>.tup (t.map .int))]=B at w a ⊢;generalize(A++[PO.lst ((ordT c N).map λt=>PV.tup (t.map .int))]).length=o at w ⊢;clear hB Y;walk_at "go";refine ae (ei U u w) λv A1 k=>?_;obtain⟨G,H⟩:=k;subst G;subst H;walk_at "go";have I:(B++[PO.lst (aJ (ringL c N))]++[.lst []])[B.length]?=some (.lst (aJ (ringL c N))):=ao ax;have J:(B++[PO.lst (aJ (ringL c N))]++[.lst []])[(B++[PO.lst (aJ (ringL c N))]).length]?=some (.lst (aJ [])):=ax;have j:A<+:B++[PO.lst (aJ (ringL c N))]++[.lst []]:=E4 (E4 a);have l:A.length<=(B++[PO.lst (aJ (ringL c N))]).length:=by rw[IT];have:=zI a;omega
 have m:B.length≠(B++[PO.lst (aJ (ringL c N))]).length:=by simp
 generalize B++[PO.lst (aJ (ringL c N))]++[.lst []]=C at I J j ⊢;generalize(B++[PO.lst (aJ (ringL c N))]).length=f at J l m ⊢;generalize B.length=r at I m ⊢;have L:Wp (S4 (hI c N o r f none none none)) C (λq n=>∃b x y z,q=.nx (hI c N o r f x y z)/\A<+:n/\n[f]?=some (.lst (aJ b))/\PD c N N 0 b) NoX:=by
  unfold S4;refine pK (λi σ n=>∃b x y z,σ=hI c N o r f x y z/\A<+:n/\n[f]?=some (.lst (aJ b))/\n[r]?=some (.lst (aJ (ringL c N)))/\PD c N i 0 b) ?_;unfold hI;walk_at "go";refine⟨0,N,rfl,⟨[],_,_,_,rfl,j,J,I,⟨⟨by simp,by simp⟩,by simp,by simp,.nil,λp hp D h=>?_⟩⟩,?_,?_⟩
  .have:=D.1.1;have:=D.2.1.1;simp at h;omega
  .rintro i σ B1 hi ⟨b,x,y,z,rfl,p1,d,E,e⟩;walk_at "go";unfold bx;rw[show(0:Int)+i=i by omega];refine ae (Gm u hi p1 l m d E e y z) λo B2 k=>?_;obtain⟨rs,x',y',ho,p2,O,Q,D2⟩:=k;subst ho;exact⟨rs,_,_,_,rfl,p2,O,Q,D2⟩
  .rintro σ B1 ⟨b,x,y,z,rfl,p1,d,E,e⟩;exact⟨b,_,_,_,rfl,p1,d,e⟩
 refine ae L λq n k=>?_;obtain⟨b,x,y,z,w,p1,d,e⟩:=k;subst w;unfold hI;walk_at "go";have T:b.length<=36:=by
  have:=e.len;have:N*N<=6*6:=MP u u;omega
 refine⟨b,f,rfl,d,⟨by omega,by omega,e.good,e.nd,by omega⟩,vK e.up,T,λh hh=>?_,l⟩;obtain⟨g,hp,D⟩:=Gh (c:=c) U hh;exact⟨g,e.has _ hp D (.inl D.1.2)⟩
noncomputable def iv:PV->Int
 | .int i=>i
 | _=>0
noncomputable def R1(w:List Int):Int:=w.getLastD 0
@[simp] theorem Iq(w:List Int)(b:Int):R1 (w++[b])=b:=by simp[R1]
theorem Gp(p:PV->Bool)(a:List Int):(a.map PV.int).filter p=(a.filter λx=>p (.int x)).map .int:=by
 rw[My];rfl
theorem Gq{A:PHp}{w r:Nat}{n h:Int}{ps:List (Int×Int)}(W:bA A w r n ps)(e:ps.length<64) :
 H8 [.ref w,.int h] A=.ok (.ref A.length) (A++[.lst ((N4 (srt ps) h).map .int)]):=by
 have c:X7 [some (.ref w),some (.int h)] A=.ok (.ref A.length) (A++[.lst ((N4 (srt ps) h).map .int)]):=by
  rw[<-EI];refine sd (a:=r) (S:=λb=>∃x y,b=[x,y,some _]) (by simp[W.ob,W.ls]) (by simp[W.ls]) (J6 (by simp[aJ,(G4 ps).length_eq];omega)) ⟨_,_,rfl⟩ ?_;rintro v d b ⟨x,y,rfl⟩;obtain⟨p,f,rfl⟩:=vd d;refine⟨[some (.int p.1),some (.int p.2),some _],by simp[pv],⟨_,_,rfl⟩,by simp[bC]<;>exact decide_eq_decide.mpr Iff.rfl,by simp⟩
 simp[H8,c]
noncomputable def tupI(w:List Int):PV:=.tup (w.map .int)
theorem Gr(w:List Int):(w.map PV.int).all i3=true:=by
 rw[Jg];intro x a;obtain⟨i,_,rfl⟩:=IB.mp a;rfl
theorem Gs(w:List Int):plain (tupI w)=true:=Gr w
theorem Gu(ws:List (List Int)):H9 (ws.map tupI)=true:=by
 rw[d0];intro x a;obtain⟨w,_,rfl⟩:=IB.mp a;exact Gs w
theorem Gv{q:Nat}{ws:List (List Int)}{A:PHp}{e:ED}{σ:PSt}(he:e σ A=.ok (.ref q) A)(h:A[q]?=some (.lst (ws.map tupI))):D3 (C3 dH e (X9 aNil)) σ A=.ok (!ws.isEmpty) (A++[.lst []]):=by
 refine qd (md he (zL _ _) ?_);have a:jE (.ref q) (.ref A.length) (A++[.lst []])=.ok (eqvs (ws.map tupI) []) (A++[.lst []]):=by
  show av (G2 q) _ _=_;rw[aA (J3 (ao h)),aA r6,L7 ⟨Gu ws,rfl⟩];rfl
 have b:eqvs (ws.map tupI) []=ws.isEmpty:=by cases ws<;>rfl
 show av (jE (.ref q) (.ref A.length)) _ _=_;rw[aA a,b];rfl
theorem vL{w:List Int}(h:0<w.length):atI (w.map PV.int) (-1)=some (.int (R1 w)):=by
 unfold atI ixN;rw[if_neg (by omega),if_pos (by rw[Iz];omega)];have e:((-1:Int)+((w.map PV.int).length:Int)).toNat=w.length - 1:=by rw[Iz];omega
 rw[e];show(w.map PV.int)[w.length - 1]?=_;rw[Ja];unfold R1;rw[Ob,Lj];have:w[w.length - 1]?=some (w[w.length - 1]'(by omega)):=IM _;rw[this];rfl
theorem vM{e i:ED}{σ:PSt}{A:PHp}{w:List Int}{k:Int}{v:PV}(he:e σ A=.ok (tupI w) A)(a:i σ A=.ok (.int k) A)(b:atI (w.map PV.int) k=some v):C3 bh e i σ A=.ok v A:=by
 show av (e σ) _ A=_;rw[aA he,aA a];show(match atI (w.map PV.int) k with | some v=>ret v | none=>stuck) A=_;rw[b];rfl
theorem Gw{e:ED}{σ:PSt}{A:PHp}{n:Nat}{x:PV}{l:List PV}(h:e σ A=.ok (.ref n) A)(a:A[n]?=some (.lst (x::l))):nu e σ A=.ok x (A.set n (.lst l)):=by
 show av (e σ) _ A=_;rw[aA h];show av (S8 n) _ A=_;rw[aA (se a)];rfl
section
variable{A:PHp}{w r N:Nat}{ps:List (Int×Int)}{u:PV}{x j:Int}
noncomputable def longs(ps:List (Int×Int))(W:List Int):List Int:=(N4 (srt ps) (R1 W)).filter λt=>!decide (t∈W)
theorem Gx(g:bA A w r N ps)(P:N1 N ps){W:List Int}(d:0<W.length)(B:W.length<=100) :
 ∃e,K9 [.ref w,tupI W] A=.ok (.ref (A.length+1)) e/\A<+:e/\e[A.length+1]?=some (.lst (((longs ps W).map λt=>W++[t]).map tupI)):=by
 let b:PSt:=[some (.ref w),some (tupI W)]
 have i:C3 bh (aa 1) (eK (.int (-1))) b A=.ok (.int (R1 W)) A:=vM (w:=W) rfl rfl (vL d);have k:O2 0 H8 (aa 0) (ai (C3 bh (aa 1) (eK (.int (-1)))) aNil) b A=_:=EL (c:=0) (f:=H8) (a:=aa 0) (A:=A) (A1:=A) (A2:=A) (n:=w) rfl g.ob (vk i) (Gq g P.len (h:=R1 W));have m:(N4 (srt ps) (R1 W)).length<=64:=by have:=EK (srt ps) (R1 W);rw[(G4 ps).length_eq]at this;have:=P.len;omega
 have q:R6 b A=.ok (.ref (A.length+1)) (A++[.lst ((N4 (srt ps) (R1 W)).map .int)]++[.lst (((longs ps W).map λt=>W++[t]).map tupI)]):=by
  unfold R6;refine Eq.trans (sd (a:=A.length) (l:=(N4 (srt ps) (R1 W)).map .int) (A1:=A++[.lst ((N4 (srt ps) (R1 W)).map .int)]) (S:=λb=>∃y,b=[y,some (tupI W)]) (p:=λv=>!decide (iv v∈W)) (f:=λv=>tupI (W++[iv v])) (zM k r6) r6 (J6 (by rw[Iz];omega)) ⟨_,rfl⟩ ?_) ?_
  .rintro v s b ⟨y,rfl⟩;obtain⟨t,C,rfl⟩:=IB.mp s;refine⟨[some (.int t),some (tupI W)],rfl,⟨_,rfl⟩,?_,λ_=>?_⟩
   .refine qd (md (x:=.int t) (y:=tupI W) rfl rfl ?_);show E3 (plain (.int t)=true/\H9 (W.map .int)=true) _ _=_;rw[L7 ⟨rfl,O6 W⟩,ES];rfl
   .refine md (x:=tupI W) (y:=.tup [.int t]) (A1:=A++[.lst ((N4 (srt ps) (R1 W)).map .int)]) (A2:=A++[.lst ((N4 (srt ps) (R1 W)).map .int)]) rfl ?_ ?_
    .show av (ai (aa 0) aNil [some (.int t),some (tupI W)]) _ _=_;rw[aA (vk rfl),L7 (by simp)];rfl
    .show E3 (W.map PV.int≠[]/\(W.map PV.int).length+[PV.int t].length<=LIM) _ _=_;rw[L7 ⟨λz=>by rw[List.map_eq_nil_iff.mp z]at d;simp at d,J6 (by simp;omega)⟩];show R.ok (PV.tup (W.map PV.int++[PV.int t])) _=R.ok (PV.tup ((W++[t]).map PV.int)) _;rw[Js];rfl
  .rw[Gp,J1,longs,J1,IT];rfl
 refine⟨A++[.lst ((N4 (srt ps) (R1 W)).map .int)]++[.lst (((longs ps W).map λt=>W++[t]).map tupI)],?_,E4 (E4 (IU _)),?_⟩
 .unfold K9;exact zK rfl (EN q)
 .have:=ax (A:=A++[PO.lst ((N4 (srt ps) (R1 W)).map .int)]) (o:=.lst (((longs ps W).map λt=>W++[t]).map tupI))
  rwa [IT]at this
theorem Gy(ps:List (Int×Int))(m:ps.Nodup)(h:Int):(N4 (srt ps) h).Pairwise (·< ·):=by
 unfold N4;rw[Kv];have f:(srt ps).Nodup:=(G4 ps).nodup_iff.mpr m;have e:(srt ps).Pairwise (λp q=>gQ q p=false/\p≠q):=(EJ ps).and f;refine Ow ?_ (e.filter _);rintro⟨a,b⟩ ⟨c,d⟩ n o ⟨i,g⟩;have k:=(Ji.mp n).2;have l:=(Ji.mp o).2;simp at k l;rw[qe]at i;simp only at i ⊢;subst k;subst l;have:b≠d:=λz=>g (by rw[z]);omega
end
def Lx(w v:List Int):Prop:=∃k,k<w.length/\k<v.length/\(∀i,i<k->w.getD i 0=v.getD i 0)/\w.getD k 0<v.getD k 0
def RL(w v:List Int):Prop:=w.length<v.length\/(w.length=v.length/\Lx w v)
noncomputable def ej(ps:List (Int×Int))(W:List Int):List (List Int):=(longs ps W).map λt=>W++[t]
theorem Q3{w:List Int}{t:Int}{i:Nat}(h:i<w.length):(w++[t]).getD i 0=w.getD i 0:=by
 rw[IW,IW,Jf h]
theorem qy(w:List Int)(t:Int):(w++[t]).getD w.length 0=t:=by
 rw[IW,Kb (IC _)];simp
theorem Gz{w v:List Int}(h:RL w v)(s t:Int):RL (w++[s]) (v++[t]):=by
 rcases h with h | ⟨h,k,a,b,c,d⟩
 .exact .inl (by simp;omega)
 .refine .inr ⟨by simp[h],k,by simp;omega,by simp;omega,λi e=>?_,?_⟩
  .rw[Q3 (by omega),Q3 (by omega)];exact c i e
  .rw[Q3 a,Q3 b];exact d
theorem GA{w:List Int}{s t:Int}(h:s<t):RL (w++[s]) (w++[t]):=by
 refine .inr ⟨by simp,w.length,by simp,by simp,λi a=>?_,?_⟩
 .rw[Q3 a,Q3 a]
 .rw[qy,qy];exact h
structure AW(ps:List (Int×Int))(x:Int)(H:List (List Int))(p:Nat):Prop where
 ple:p<=H.length
 eq:H=[x]::(H.take p).flatMap (ej ps)
 ord:H.Pairwise RL
 pos:∀w∈H,0<w.length
section
variable{ps:List (Int×Int)}{x:Int}{H:List (List Int)}{p:Nat}
theorem AW.start:AW ps x [[x]] 0:=⟨by simp,by simp,by simp,by simp⟩
theorem vN(a:ps.Nodup)(W:List Int):(longs ps W).Pairwise (·< ·):=(Gy ps a _).filter _
theorem AW.next(f:ps.Nodup)(h:AW ps x H p)(e:p<H.length):AW ps x (H++ej ps H[p]) (p+1):=by
 have g:(H++ej ps H[p]).take (p+1)=H.take p++[H[p]]:=by
  rw[Lv (by omega),KC,IM e];rfl
 refine⟨by simp;omega,?_,?_,?_⟩
 .rw[g,Ml,Ox,List.flatMap_nil,Kh,<-List.cons_append,<-h.eq]
 .rw[LY];refine⟨h.ord,?_,λa d b i=>?_⟩
  .unfold ej;rw[Kv];exact(vN f _).imp λz=>GA z
  .obtain⟨t,_,rfl⟩:=IB.mp i;rw[h.eq]at d;rcases IH.mp d with rfl | d
   .have:=h.pos H[p] (JM e);exact .inl (by simp;omega)
   .obtain⟨w,c,j⟩:=Me.mp d;obtain⟨s,_,rfl⟩:=IB.mp j;obtain⟨q,k,rfl⟩:=Jk.mp c;rw[JD]at k;rw[LR];exact Gz (Jy.mp h.ord q p (by omega) e (by omega)) s t
 .intro w c;rcases Jm.mp c with c | c
  .exact h.pos w c
  .obtain⟨t,_,rfl⟩:=IB.mp c;simp
structure Wk(ps:List (Int×Int))(x:Int)(w:List Int):Prop where
 ne:0<w.length
 hd:w.getD 0 0=x
 nd:w.Nodup
 st:∀i,i+1<w.length->(w.getD i 0,w.getD (i+1) 0)∈ps
theorem GB{w:List Int}(h:0<w.length):R1 w=w.getD (w.length - 1) 0:=by
 unfold R1;rw[Ob,Lj,IW]
theorem mem_longs{W:List Int}{t:Int}:t∈longs ps W↔(R1 W,t)∈ps/\t∉W:=by
 unfold longs;rw[Ji,EO];simp
theorem Wk.app{w:List Int}{t:Int}(h:Wk ps x w)(g:t∈longs ps w):Wk ps x (w++[t]):=by
 obtain⟨c,j⟩:=mem_longs.mp g;have:=h.ne;refine⟨by simp,by rw[Q3 h.ne];exact h.hd,?_,λi k=>?_⟩
 .rw[Ju];exact⟨h.nd,by simp,λa l b d e=>by simp at d;subst d;subst e;exact j l⟩
 .rw[IT,Po]at k;by_cases e:i+1<w.length
  .rw[Q3 (by omega),Q3 e];exact h.st i e
  .have f:i+1=w.length:=by omega
   rw[Q3 (by omega),f,qy];rw[GB h.ne,<-f]at c;exact c
end
noncomputable def wt:Nat->Nat
 | 0=>1
 | r+1=>1+(r+1)*wt r
noncomputable def eH(N:Nat)(Q:List (List Int)):Nat:=(Q.map λw=>wt (N - w.length)).sum
theorem GC(N:Nat)(Q R:List (List Int)):eH N (Q++R)=eH N Q+eH N R:=by simp[eH]
theorem vO:∀r,1<=wt r
 | 0=>IC _
 | r+1=>by unfold wt;omega
theorem GF(N:Nat)(Q:List (List Int)):Q.length<=eH N Q:=by
 induction Q with
 | nil=>simp
 | cons w r ih=>
   have:=vO (N - w.length);simp[eH]at ih ⊢;omega
section
variable{ps:List (Int×Int)}{N:Nat}{x:Int}
theorem vP(b:∀p∈ps,good N p)(c:0<=x/\x<N){w:List Int}(k:Wk ps x w):∀y∈w,0<=y/\y<N:=by
 intro y d;obtain⟨i,a,rfl⟩:=Jk.mp d;cases i with
 | zero=>
   have:=k.hd;rw[IW,IM a]at this;simp at this;rw[this];exact c
 | succ i=>
   have:=k.st i a;rw[IW,IW,IM a]at this;exact(b _ this).2.1
theorem vQ(a:∀p∈ps,good N p)(b:0<=x/\x<N){w:List Int}(k:Wk ps x w):w.length<=N:=by
 have:=k.nd.length_le_of_subset (l₂:=S6 N) λy c=>mem_hands.mpr (vP a b k y c)
 rwa [aT]at this
theorem vR(d:ps.Nodup)(c:∀p∈ps,good N p)(f:0<=x/\x<N){w:List Int}(k:Wk ps x w):w.length+(longs ps w).length<=N:=by
 have g:(w++longs ps w).Nodup:=by
  rw[Ju];exact⟨k.nd,(vN d w).imp (λz=>Int.ne_of_lt z),λa h b i e=>(mem_longs.mp i).2 (e ▸ h)⟩
 have:=g.length_le_of_subset (l₂:=S6 N) λy j=>mem_hands.mpr (by
  rcases Jm.mp j with z | z
  .exact vP c f k y z
  .exact(c _ (mem_longs.mp z).1).2.1)
 rwa [aT,IT]at this
theorem GG(a:ps.Nodup)(b:∀p∈ps,good N p)(c:0<=x/\x<N){w:List Int}(k:Wk ps x w):eH N (ej ps w)+1<=wt (N - w.length):=by
 have h:=vR a b c k;have e:eH N (ej ps w)=(longs ps w).length*wt (N - (w.length+1)):=by
  unfold eH ej;rw[J1];generalize longs ps w=l;induction l with
  | nil=>simp
  | cons t r ih=>simp[Jb,PK]at ih ⊢;omega
 rw[e];rcases Nat.eq_zero_or_pos (longs ps w).length with z | z
 .rw[z];have:=vO (N - w.length);omega
 .obtain⟨r,d⟩:∃r,N - w.length=r+1:=⟨N - w.length - 1,by omega⟩;rw[d,show N - (w.length+1)=r by omega];show _<=1+(r+1)*wt r;have:(longs ps w).length*wt r<=(r+1)*wt r:=PY _ (by omega);omega
end
section
variable{A:PHp}{w r q:Nat}{N:Nat}{ps:List (Int×Int)}{x:Int}{ld:List Int}
noncomputable def gC(ld:List Int)(c:List Int):Bool:=decide (R1 c∈ld)
structure FS(A B:PHp)(ps:List (Int×Int))(x:Int)(ld:List Int)(N:Nat)(H:List (List Int))(p m:Nat):Prop where
 pre:A<+:B
 aw:AW ps x H p
 wk:∀c∈H,Wk ps x c
 sk:B[A.length]?=some (.lst (((H.take p).filter (gC ld)).map tupI))
 sq:B[A.length+1]?=some (.lst ((H.drop p).map tupI))
 mm:eH N (H.drop p)=m
 sum:p+m<=326
theorem vS{H:List (List Int)}{p:Nat}(h:p<H.length):H.take (p+1)=H.take p++[H[p]]:=by rw[KC,IM h];rfl
theorem GH{a b:ED}{x:Int}{M:List Int}{σ:PSt}{A:PHp}(d:a σ A=.ok (.int x) A)(f:b σ A=.ok (.tup (M.map .int)) A):C3 eF a b σ A=.ok (.bl (decide (x∈M))) A:=by
 refine md d f ?_;obtain⟨v,c,e,rfl,rfl⟩:=kd (gc (x:=x) (M:=M) (A:=A) (Q:=λv c=>v=.bl (decide (x∈M))/\c=A) (E:=NoX) ⟨rfl,rfl⟩);exact e
theorem GI(Wb:bA A w r N ps)(P:N1 N ps)(hx:0<=x/\x<N) :
 Wp (N6 [.ref w,.tup (ld.map .int),.int x]) A (λv A'=>A<+:A'/\∃(k:Nat)(H:List (List Int)),v=.ref k/\A.length<=k/\(∀c∈H,Wk ps x c)/\H.length<=400/\A'[k]?=some (.lst ((H.filter (gC ld)).map tupI))) NoX:=by
 have hN:N<=6:=by have:=P.hi;omega
 have c4:wt (N - 1)<=326:=by
  have:N=0\/N=1\/N=2\/N=3\/N=4\/N=5\/N=6:=by omega
  rcases this with h | h | h | h | h | h | h<;>subst h<;>decide
 unfold N6;walk_at "fn";walk_at "go";have F0:FS A (A++[PO.lst []]++[PO.lst [PV.tup [PV.int x]]]) ps x ld N [[x]] 0 (wt (N - 1)):=by
  refine⟨E4 (E4 (IU _)),AW.start,λc g=>?_,by simp,by simp[tupI],by simp[eH],by omega⟩;rw[IK]at g;subst g;exact⟨by simp,rfl,by simp,λi hi=>absurd hi (by simp)⟩
 have L:Wp (U1 [some (PV.ref w),some (PV.tup (ld.map .int)),some (PV.int x),some (PV.ref (List.length A)),some (PV.ref (List.length (A++[PO.lst []]))),none]) (A++[PO.lst []]++[PO.lst [PV.tup [PV.int x]]])
  (λo B=>∃H z,o=.nx [some (PV.ref w),some (PV.tup (ld.map .int)),some (PV.int x),some (PV.ref (List.length A)),some (PV.ref (List.length A+1)),z]/\FS A B ps x ld N H H.length 0) NoX:=by
  unfold U1;refine pM (λm σ B=>∃H p z,σ=[some (PV.ref w),some (PV.tup (ld.map .int)),some (PV.int x),some (PV.ref (List.length A)),some (PV.ref (List.length A+1)),z]/\FS A B ps x ld N H p m) (m:=wt (N - 1)) (by omega) ⟨[[x]],0,none,by simp,F0⟩ ?_;rintro m σ B ⟨H,p,z,rfl,F⟩;refine w_eq (Gv (q:=A.length+1) (ws:=H.drop p) rfl F.sq) ⟨λJ=>?_,λJ=>?_⟩
  .have l:p<H.length:=by
    rcases Nat.lt_or_ge p H.length with h | h
    .exact h
    .rw[MF h]at J;simp at J
   have O:H.drop p=H[p]::H.drop (p+1):=by rw[NX l]
   have I:=F.wk H[p] (JM l);have e0:=vQ P.good hx I;generalize hW:H[p]=W at *;have n:(B++[PO.lst []])[A.length+1]?=some (.lst (tupI W::(H.drop (p+1)).map tupI)):=by
    have:=ao (o:=PO.lst []) F.sq;rw[O]at this;exact this
   have T:=ao (o:=PO.lst []) F.sk;have j:A<+:B++[PO.lst []]:=E4 F.pre;generalize B++[PO.lst []]=B1 at n T j;have s:A.length≠A.length+1:=by omega
   unfold Z8;refine cR (ef (w_eq (Gw rfl n) (ki ?_)));have u:(B1.set (A.length+1) (.lst ((H.drop (p+1)).map tupI)))[A.length+1]?=some (.lst ((H.drop (p+1)).map tupI)):=aP n;have y:(B1.set (A.length+1) (.lst ((H.drop (p+1)).map tupI)))[A.length]?=some (.lst (((H.take p).filter (gC ld)).map tupI)):=by rw[D9 s];exact T
   have d:A<+:B1.set (A.length+1) (.lst ((H.drop (p+1)).map tupI)):=Y2 j (by omega);generalize B1.set (A.length+1) (PO.lst ((H.drop (p+1)).map tupI))=B2 at u y d;have e1:((H.take p).filter (gC ld)).length<=326:=by
    have:=JE (gC ld) (H.take p);rw[JD]at this;have:=F.sum;omega
   refine cR (ae (Q:=λo D=>o=.nx [some (PV.ref w),some (PV.tup (ld.map .int)),some (PV.int x),some (PV.ref (List.length A)),some (PV.ref (List.length A+1)),some (tupI W)]/\A<+:D/\D[A.length]?=some (.lst (((H.take (p+1)).filter (gC ld)).map tupI))/\D[A.length+1]?=some (.lst ((H.drop (p+1)).map tupI))) ?_ λo D ⟨ho,U,a9,Y⟩=>?_)
   .have b0:D3 (C3 eF (C3 bh (aa 5) (eK (.int (-1)))) (aa 1)) [some (PV.ref w),some (PV.tup (ld.map .int)),some (PV.int x),some (PV.ref (List.length A)),some (PV.ref (List.length A+1)),some (tupI W)] B2=.ok (gC ld W) B2:=qd (GH (vM (w:=W) rfl rfl (vL I.ne)) rfl);refine vb (w_eq b0 ⟨λh=>?_,λh=>?_⟩)
    .walk_at "go";refine⟨rfl,Y2 d (IC _),?_,by rw[D9 s.symm];exact u⟩;rw[aP y,vS l,hW,LH,List.filter_cons,h];simp
    .refine X4 ⟨rfl,d,?_,u⟩;rw[y,vS l,hW,LH,List.filter_cons,h];simp
   subst ho;obtain⟨D',e,C,b1⟩:=Gx (Wb.mono U) P I.ne (by omega);have a0:=ah C Y;have b2:=ah C a9;have e3:=GF N (H.drop (p+1));have e4:=vR P.nd P.good hx I;have a1:=F.mm;rw[O]at a1;have c0:eH N (H.drop (p+1))+wt (N - W.length)=m:=by
    rw[<-a1];simp[eH];omega
   have e5:=GG P.nd P.good hx I;have c1:=F.sum;have a2:Q7 (nv (aa 4) (G3 K9 (ai (aa 0) (ai (aa 5) aNil)))) [some (PV.ref w),some (PV.tup (ld.map .int)),some (PV.int x),some (PV.ref (List.length A)),some (PV.ref (List.length A+1)),some (tupI W)] D=.ok (.nx [some (PV.ref w),some (PV.tup (ld.map .int)),some (PV.int x),some (PV.ref (List.length A)),some (PV.ref (List.length A+1)),some (tupI W)]) (D'.set (A.length+1) (.lst ((H.drop (p+1)).map tupI++(ej ps W).map tupI))):=by
    have a3:((H.drop (p+1)).map tupI).length+((ej ps W).map tupI).length<=LIM:=J6 (by unfold ej;simp only[Iz];omega);have E:(H.length - (p+1))+(longs ps W).length<=LIM:=by simpa[ej]using a3
    simp[Y,e,a0,b1,ej,E,J1]
   refine w_eq a2 ?_;have a4:=F.aw.next P.nd l
   rw[hW]at a4;have f:(H++ej ps W).drop (p+1)=H.drop (p+1)++ej ps W:=List.drop_append_of_le_length (by omega);have G:(H++ej ps W).take (p+1)=H.take (p+1):=Lv (by omega);refine⟨eH N (H.drop (p+1))+eH N (ej ps W),by omega,H++ej ps W,p+1,_,rfl,Y2 (U.trans C) (by omega),a4,λc g=>?_,?_,?_,?_,by omega⟩
   .rcases Jm.mp g with g | g
    .exact F.wk c g
    .obtain⟨t,ht,rfl⟩:=IB.mp g;exact I.app ht
   .rw[D9 s,G];exact b2
   .rw[aP a0,f,Js]
   .rw[f,GC]
  .have l:p=H.length:=by
    have:H.drop p=[]:=by
     cases h:H.drop p with
     | nil=>rfl
     | cons a b=>rw[h]at J;simp at J
    have h1:=PZ.mp this;have:=F.aw.ple;omega
   subst l;have hm:m=0:=by have:=F.mm;rw[List.drop_length]at this;simpa[eH]using this.symm
   subst hm;exact⟨H,z,rfl,E4 F.pre,F.aw,F.wk,ao F.sk,ao F.sq,F.mm,F.sum⟩
 refine ae L λo B zq=>?_;obtain⟨H,z,ho,F⟩:=zq;subst ho;walk_at "go";have hs:=F.sum;have hk:=F.sk;rw[KO]at hk;exact⟨F.pre,_,H,rfl,IC _,F.wk,by omega,hk⟩
end
section
variable{A:PHp}{c:bZ}{S:LS}
theorem vT{d:PV}{fs:List (Nat×PV)}{R:PHp->Prop}{RX:PHp->Prop}(h:A[c.G]?=some (.ins 2 fs))
 (f:Wp (J4 [.ref c.G,d]) A (λv a=>v=.non/\R a) (λk v a=>(k=12\/k=13\/k=14\/k=15\/k=16)/\RX a)) :
 Wp (J7 [.ref c.G,d]) A (λv a=>(v=.bl true/\R a)\/(v=.bl false/\∃A1,RX A1/\A1<+:a)) NoX:=by
 unfold J7;walk_at "fn";walk_at "gb";refine Fi ?_;walk_at "gb";refine bJ f (λv A1 b=>?_) (λk v A1 b=>?_)
 .obtain⟨rfl,e⟩:=b;walk_at "gb";exact .inl ⟨rfl,e⟩
 .obtain⟨g,e⟩:=b;rcases g with rfl | rfl | rfl | rfl | rfl;all_goals
   refine⟨by decide,Fj rfl ?_⟩;walk_at "gb";exact .inr ⟨rfl,_,e,IU _⟩
theorem vSay_cases(p:Int×Int)(ch:List Int):o5 c S p ch=0\/o5 c S p ch=12\/o5 c S p ch=13\/o5 c S p ch=14\/o5 c S p ch=15\/o5 c S p ch=16:=by
 unfold o5;split
 .split
  .split
   .simp
   .split<;>simp
  .simp
 .simp
theorem vLay_cases(p:Int×Int):gh c S p=0\/gh c S p=12\/gh c S p=13:=by
 unfold gh;split
 .split<;>simp
 .simp
theorem GJ(H:bq A c S)(p:Int×Int):Wp (J7 [.ref c.G,gT p]) A
 (λv a=>∃d,bq a c d/\cV c S d A a/\(d=S\/(gh c S p=0/\d=fR S p))) NoX:=by
 refine ae (vT (R:=λa=>gh c S p=0/\bq a c (fR S p)/\cV c S (fR S p) A a) (RX:=λa=>a=A) H.ob (bJ (FK H p) (λv a b=>⟨b.1,b.2⟩) λk v a b=>?_)) λv a b=>?_
 .obtain⟨e,f,_,rfl⟩:=b;refine⟨?_,rfl⟩;rcases vLay_cases (c:=c) (S:=S) p with z | z | z
  .exact absurd (e.trans z) f
  .exact .inl (e.trans z)
  .exact .inr (.inl (e.trans z))
 .rcases b with⟨_,f,g,st⟩ | ⟨_,h,rfl,p1⟩
  .exact⟨_,g,st,.inr ⟨f,rfl⟩⟩
  .exact⟨S,H.mono p1,cV.pre p1,.inl rfl⟩
theorem GK(H:bq A c S)(p:Int×Int){ch:List Int}(i:ch.length<100)(j:S.m<2000):Wp (J7 [.ref c.G,gU p ch]) A
 (λv b=>∃f,bq b c f/\cV c S f A b/\(f=S\/(o5 c S p ch=0/\∃a,f=aY S p ch a))) NoX:=by
 refine ae (vT (R:=λb=>o5 c S p ch=0/\∃a,bq b c (aY S p ch a)/\cV c S (aY S p ch a) A b) (RX:=λb=>A<+:b) H.ob (bJ (FL H p i j) (λv b d=>⟨d.1,d.2⟩) λk v b d=>?_)) λv b d=>?_
 .obtain⟨e,g,_,p1⟩:=d;refine⟨?_,p1⟩;rcases vSay_cases (c:=c) (S:=S) p ch with z | z | z | z | z | z
  .exact absurd (e.trans z) g
  .exact .inl (e.trans z)
  .exact .inr (.inl (e.trans z))
  .exact .inr (.inr (.inl (e.trans z)))
  .exact .inr (.inr (.inr (.inl (e.trans z))))
  .exact .inr (.inr (.inr (.inr (e.trans z))))
 .rcases d with⟨_,g,a,l,st⟩ | ⟨_,n,h,p1⟩
  .exact⟨_,l,st,.inr ⟨g,a,rfl⟩⟩
  .exact⟨S,H.mono (h.trans p1),cV.pre (h.trans p1),.inl rfl⟩
theorem eR(H:bq A c S){h:Int}(g:0<=h/\h<c.N):Wp (K6 [.ref c.G,.int h]) A
 (λv A'=>A<+:A'/\∃(n:Nat)(W:List (List Int)),v=.ref n/\A'[n]?=some (.lst (W.map tupI))/\W.length<=400/\∀w∈W,w≠[]/\w.length<=6) NoX:=by
 unfold K6;have y:=H.ob;have z:=H.plan.ob;walk_at "fn";walk_at "gb";refine ae (GI H.plan.web H.pg g) λv B a=>?_;obtain⟨p1,k,G,rfl,C,q,r,i⟩:=a;have s:=H.mono p1;have D:=H.pg.hi;have e:∀w∈G.filter (gC c.L),w≠[]/\w.length<=6:=λw b=>by
  have l:=q w (Ji.mp b).1;have:=vQ H.pg.good g l;exact⟨JV.mp l.ne,by omega⟩
 have f:(G.filter (gC c.L)).length<=400:=Jd (JE _ _) r;generalize G.filter (gC c.L)=W at *;refine ki ?_;dsimp only[List.set];walk_at "gb";unfold bj;refine Y5 W tupI tupI (λw=>fO c S w) (λm=>∃x,m=[x,some (.ref c.G)]) ?_;walk_at "go";refine⟨_,P7 i,by rw[Iz];exact IC _,J6 (by omega),⟨_,rfl⟩,λj o d=>P8 (ah d i) j,?_,λo d=>?_⟩
 .rintro w m o b ⟨x,rfl⟩ d;have p:=s.mono d;have u:=p.ob;walk_at "go";refine⟨rfl,⟨_,rfl⟩,?_⟩;walk_at "go";refine ae (gj p (e w b).1 (by have:=(e w b).2;omega)) λv E a=>?_;obtain⟨rfl,rfl⟩:=a;refine⟨_,rfl,rfl,IU _,λ_=>?_⟩;walk_at "go";exact⟨rfl,IU _⟩
 .refine⟨E4 (p1.trans d),_,W.filter λw=>fO c S w,rfl,ax,Jd (JE _ _) f,λw b=>e w (Ji.mp b).1⟩
end
structure NK(c:bZ)(S:LS):Prop where
 hd:∀p,∀r∈rowsAt S p,r.2.head?=some p.2/\r.2.length<=6/\p∈c.ps
 fi:∀ch t,Q9 S ch=some t->∃p,(t,ch)∈rowsAt S p
 nm:∀p,∀r∈rowsAt S p,∀j,1<=j->∀h,r.2[j]?=some h->h∉c.fr->∃p',∃r'∈rowsAt S p',r'.2=r.2.drop j/\r'.1<r.1
section
variable{c:bZ}{S:LS}
theorem NK.lay(N:NK c S)(p:Int×Int):NK c (fR S p):=⟨N.hd,N.fi,N.nm⟩
theorem NK.move(N:NK c S):NK c { S with now:=S.now+1 }:=⟨N.hd,N.fi,N.nm⟩
theorem vU(b:List Int):∀l:List Int,∃m,l.dropWhile (λh=>decide (h∈b))=l.drop m/\∀j,j<m->∀h,l[j]?=some h->h∈b
 | []=>⟨0,rfl,λj d=>absurd d (MA _)⟩
 | a::l=>by
   by_cases f:a∈b
   .obtain⟨m,g,i⟩:=vU b l;refine⟨m+1,by rw[NL (by simpa using f),g];rfl,λj d h e=>?_⟩;cases j with
    | zero=>simp at e;rw[<-e];exact f
    | succ j=>exact i j (by omega) h (by simpa using e)
   .exact⟨0,by rw[NM (by simpa using f)];rfl,λj d=>absurd d (MA _)⟩
theorem NK.say(N:NK c S)(C:(S.says.map (·.1)).Nodup){p:Int×Int}{ch:List Int}(f:o5 c S p ch=0)(I:ch.length<=6)(a:Nat):NK c (aY S p ch a):=by
 have l:p∈c.ps/\iS c.N c.ps c.L ch/\ch.head?=some p.2:=by
  unfold o5 at f;by_cases h:p∈c.ps/\iS c.N c.ps c.L ch/\ch.head?=some p.2
  .exact h
  .rw[if_neg h]at f;cases f
 have g:fO c S ch=true:=by
  rw[qs l]at f;unfold gX at f;by_cases o:bV S p=true
  .rw[if_pos o]at f;by_cases s:ko c S p ch=true
   .rw[if_pos s]at f;cases f
   .rw[if_neg s]at f;by_cases u:fO c S ch=true
    .exact u
    .rw[if_neg u]at f;cases f
  .rw[if_neg o]at f;cases f
 have mono:∀q,∀r∈rowsAt S q,r∈rowsAt (aY S p ch a) q:=λq r i=>by
  rw[mh C];split
  .exact JR _ i
  .exact i
 have d:∀q,∀r∈rowsAt (aY S p ch a) q,r∈rowsAt S q\/(q=p/\r=(S.now,ch)):=λq r i=>by
  rw[mh C]at i;split at i
  .rename_i e;rcases Jm.mp i with z | z
   .exact .inl z
   .exact .inr ⟨e,IK.mp z⟩
  .exact .inl i
 have new:(S.now,ch)∈rowsAt (aY S p ch a) p:=by
  rw[mh C,if_pos rfl];exact Jp _ (IK.mpr rfl)
 refine⟨λq r i=>?_,λb t k=>?_,λq r i j J h v D=>?_⟩
 .rcases d q r i with z | ⟨rfl,rfl⟩
  .exact N.hd q r z
  .exact⟨l.2.2,I,l.1⟩
 .have e:Q9 (aY S p ch a) b=if(Q9 S ch).isSome=true then Q9 S b else(Q9 S b).or (if ch=b then some S.now else none):=by
   show look (if(Q9 S ch).isSome=true then S.first else S.first++[(ch,S.now)]) b=_;split
   .rfl
   .rw[vC,qp];rfl
  rw[e]at k;have old:Q9 S b=some t->∃q,(t,b)∈rowsAt (aY S p ch a) q:=λz=>by
   obtain⟨q,O⟩:=N.fi b t z;exact⟨q,mono q _ O⟩
  split at k
  .exact old k
  .cases z:Q9 S b with
   | some t'=>rw[z]at k;exact old (by rw[z];exact k)
   | none=>
     rw[z,Option.none_or]at k;split at k
     .rename_i E;cases k;exact⟨p,E ▸ new⟩
     .cases k
 .rcases d q r i with z | ⟨rfl,rfl⟩
  .obtain⟨H,w,o,s,u⟩:=N.nm q r z j J h v D;exact⟨H,w,mono H w o,s,u⟩
  .show ∃B,∃w∈rowsAt (aY S q ch a) B,w.2=ch.drop j/\w.1<S.now;have v:ch[j]?=some h:=v;obtain⟨m,Q,E⟩:=vU c.fr (ch.drop 1);have x:Z1 c.fr ch=ch.drop (1+m):=by unfold Z1;rw[Q,List.drop_drop]
   have T:1+m<=j:=Kj λz=>D (E (j - 1) (by omega) h (by rw[ME];rw[show 1+(j - 1)=j by omega];exact v));have U:j<ch.length:=(IQ.mp v).1;have G:Z1 c.fr ch≠[]:=λz=>by
    rw[x]at z;have:=PZ.mp z;omega
   have y:dE S (Z1 c.fr ch)=true:=by
    unfold fO at g;rw[decide_eq_false G]at g;simpa using g
   obtain⟨t,k,A⟩:∃t,Q9 S (Z1 c.fr ch)=some t/\t<S.now:=by
    unfold dE at y;cases z:Q9 S (Z1 c.fr ch)with
    | none=>rw[z]at y;cases y
    | some t=>rw[z]at y;exact⟨t,rfl,by simpa using y⟩
   obtain⟨B,n⟩:=N.fi _ t k;rw[x]at n;by_cases Y:j=1+m
   .subst Y;exact⟨B,_,mono _ _ n,rfl,A⟩
   .obtain⟨p2,r2,o,s,u⟩:=N.nm B _ n (j - (1+m)) (by omega) h (by show(ch.drop (1+m))[j - (1+m)]?=_;rw[ME];rw[show 1+m+(j - (1+m))=j by omega];exact v) D;refine⟨p2,r2,mono _ _ o,?_,Int.lt_trans u A⟩;rw[s];show(ch.drop (1+m)).drop (j - (1+m))=_;rw[List.drop_drop,show 1+m+(j - (1+m))=j by omega]
theorem qz{a:LS}(h:∀p∈S.lays.map (·.1),p∈a.lays.map (·.1))(i:∀p,∀r∈rowsAt S p,r∈rowsAt a p):∀p∈openL c S,p∈openL c a:=λp g=>by
 unfold openL at g ⊢;obtain⟨j,b⟩:=Ji.mp g;refine Ji.mpr ⟨(G4 _).mem_iff.mpr (h p ((G4 _).mem_iff.mp j)),?_⟩;unfold kr at b ⊢;rw[Jg]at b ⊢;intro l d;have:=b l d;simp only[decide_eq_true_eq]at this ⊢;unfold d7 at this ⊢;obtain⟨r,f,e⟩:=IB.mp this;exact IB.mpr ⟨r,i p r f,e⟩
end
noncomputable def dU(e:(Int×List Int)×(Int×Int)):PV:=.tup [.int e.1.1,.tup (e.1.2.map .int),pv e.2]
noncomputable def jy(S:LS)(p:Int×Int):List ((Int×List Int)×(Int×Int)):=(rowsAt S p).map λr=>(r,p)
noncomputable def bR(S:LS)(ps:List (Int×Int)):List ((Int×List Int)×(Int×Int)):=ps.flatMap (jy S)
theorem qA{A:PHp}{c:bZ}{S:LS}(H:bq A c S)(p:Int×Int):(rowsAt S p).length<=S.m:=by
 unfold rowsAt;cases h:R0 S p with
 | none=>simp
 | some e=>
   have:=H.sz.2.2.2 _ (l9 h);have:=H.sz.1;simp at *;omega
theorem qB{A:PHp}{c:bZ}{S:LS}(H:bq A c S):∀a:List (Int×Int),(bR S a).length<=a.length*S.m
 | []=>by simp[bR]
 | p::a=>by
   have b:=qB H a;have d:=qA H p;unfold bR jy at *;rw[Ox,IT,Iz,J2,PK];omega
section
variable{A:PHp}{c:bZ}{S:LS}
theorem ek(H:bq A c S)(p:Int×Int){f g:Option PV}(i:S.m<=1000):Wp (S5 [some (.ref c.G),f,g,some (pv p)]) A (λv A'=>∃n,v=.ref n/\A<+:A'/\A'[n]?=some (.lst ((jy S p).map dU))) NoX:=by
 unfold S5;have k:=H.ob;have l:=qA H p;refine Y5 (rowsAt S p) rowS (λr=>dU (r,p)) (λ_=>true) (λd=>∃x y,d=[x,y,some (pv p)]) ?_;walk_at "go";refine ae (eY H p) λv o h=>?_;obtain⟨n,rfl,q,p1,a,_⟩:=h;walk_at "go";refine⟨_,P7 a,by rw[Iz];exact IC _,J6 (by omega),⟨_,_,rfl⟩,λj e b=>P8 (ah b a) j,?_,λe b=>?_⟩
 .rintro r d e s ⟨x,y,rfl⟩ b;unfold rowS;walk_at "go";refine⟨rfl,⟨_,_,rfl⟩,?_⟩;walk_at "go";refine⟨rfl,IU _,λ_=>?_⟩;walk_at "go";exact⟨rfl,IU _⟩
 .refine⟨_,rfl,E4 (p1.trans b),?_⟩;rw[ax,JA.mpr (by simp)];unfold jy;rw[J1];rfl
theorem en(H:bq A c S){q:Nat}(j:A[q]?=some (.lst (aJ c.ps)))(k:S.m<=100):Wp (N0 [.ref c.G,.ref q]) A (λv A'=>∃n,v=.ref n/\A<+:A'/\A'[n]?=some (.lst ((bR S c.ps).map dU))) NoX:=by
 unfold N0;have l:=H.pg.len;walk_at "fn";walk_at "gb";unfold Y4;refine kj (λi e B=>∃f y,e=[some (.ref c.G),some (.ref q),some (.ref f),y]/\A<+:B/\B[f]?=some (.lst ((bR S (c.ps.take i)).map dU))) ?_;walk_at "go";refine⟨q,aJ c.ps,rfl,⟨_,_,rfl,IJ _ _,ax⟩,λi e B b=>?_,λi v e B g b=>?_,λe B b=>?_⟩
 .obtain⟨_,_,_,p1,_⟩:=b;exact J3 (ah p1 j)
 .obtain⟨f,y,rfl,p1,d⟩:=b;unfold aJ at g;rw[Ja]at g;obtain⟨p,o,rfl⟩:=Jh.mp g;have r:c.ps.take (i+1)=c.ps.take i++[p]:=by rw[KC,o];rfl
  have s:=H.mono p1;walk_at "go";unfold bz;walk_at "go";refine ae (ek s p (by omega)) λv w b=>?_;obtain⟨n,rfl,h,u⟩:=b;have x:=qB H (c.ps.take i);have z:=qA H p;have C:(c.ps.take i).length*S.m<=64*100:=MP (by rw[JD];omega) k;refine pH (ah h d) u (J6 (by unfold jy;simp only[Iz];omega)) ?_;walk_at "go";refine⟨_,_,rfl,E4 (p1.trans h),?_⟩;rw[ax,r];unfold bR;rw[Ml,Js];simp
 .obtain⟨f,y,rfl,p1,d⟩:=b;unfold aJ at d;rw[Iz,KO]at d;walk_at "gb";exact d
end
section
variable{A:PHp}{c:bZ}{S:LS}{n f:Nat}
theorem all3_mem{ps:List (Int×Int)}{e:(Int×List Int)×(Int×Int)}:e∈bR S ps↔e.2∈ps/\e.1∈rowsAt S e.2:=by
 unfold bR jy;rw[Me];constructor
 .rintro⟨p,a,d⟩;obtain⟨r,b,rfl⟩:=IB.mp d;exact⟨a,b⟩
 .rintro⟨a,b⟩;exact⟨e.2,a,IB.mpr ⟨e.1,b,rfl⟩⟩
noncomputable def hits(L:List ((Int×List Int)×(Int×Int)))(ch:List Int)(t:Int):List ((Int×List Int)×(Int×Int)):=L.filter λe=>decide (e.1.2=ch)&&decide (e.1.1<t)
theorem gp{L:List ((Int×List Int)×(Int×Int))}(h:A[n]?=some (.lst (L.map dU)))(o:L.length<=10000){t:Int}{ch:List Int}{j:Nat}(u:1<=j/\j<ch.length){p q r:Option PV} :
 Wp (P2 [some (.ref n),p,some (.int t),some (.tup (ch.map .int)),q,some (.int j),r]) A (λv A'=>∃m,v=.ref m/\A<+:A'/\A'[m]?=some (.lst ((hits L (ch.drop j) t).map dU))) NoX:=by
 have a:cut (ch.map PV.int) (some (j:Int)) none=(ch.drop j).map .int:=by rw[qj];exact congrArg _ (qc ch j)
 have s:U8 (ch.map PV.int).length 0 (some (j:Int))=j:=by
  rw[Iz];show(if(j:Int)<0 then(max ((j:Int)+(ch.length:Nat)) 0).toNat else(min (j:Int) (ch.length:Nat)).toNat)=j;rw[if_neg (by omega)];omega
 unfold P2;refine Y5 L dU dU (λe=>decide (e.1.2=ch.drop j)&&decide (e.1.1<t)) (λk=>∃x,k=[x,some (.tup (ch.map .int)),some (.int j),some (.int t)]) ?_;walk_at "go";refine⟨_,P7 h,by rw[Iz];exact IC _,J6 o,⟨_,rfl⟩,λi l b=>P8 (ah b h) i,?_,λl b=>?_⟩
 .rintro e k l w ⟨x,rfl⟩ b;walk_at "go";refine⟨rfl,⟨_,rfl⟩,?_⟩;have y:atI [PV.int e.1.1,.tup (e.1.2.map .int),pv e.2] 0=some (.int e.1.1):=rfl;have B:atI [PV.int e.1.1,.tup (e.1.2.map .int),pv e.2] 1=some (.tup (e.1.2.map .int)):=rfl;unfold dU;walk_at "go";rw[a];refine ve ⟨_,rfl,λd=>?_,λd=>?_⟩
  .have g:e.1.2=ch.drop j:=by simpa using d
   walk_at "go";rw[decide_eq_true g,Bool.true_and];exact⟨rfl,IU _,λ_=>by walk_at "go";exact⟨rfl,IU _⟩⟩
  .have g:¬e.1.2=ch.drop j:=by simpa using d
   exact⟨by rw[decide_eq_false g];rfl,IU _,λz=>by cases z⟩
 .exact⟨_,rfl,E4 b,ax⟩
theorem gq{M:List ((Int×List Int)×(Int×Int))}{m:Nat}(b:A[m]?=some (.lst (M.map dU)))(o:M.length<=10000){ch:List Int}{j:Nat}{h:Int}(p:ch[j]?=some h)(q:∀e∈M,e.2.2=h){r s u w:Option PV} :
 Wp (P3 [r,s,u,some (.tup (ch.map .int)),w,some (.int j),some (.ref m)]) A (λv A'=>∃k,v=.ref k/\A<+:A'/\A'[k]?=some (.lst ((M.map λ_=>false).map .bl))) NoX:=by
 have y:atI (ch.map PV.int) (j:Int)=some (.int h):=kq (by rw[Ja,p];rfl);unfold P3;refine Y5 M dU (λ_=>.bl false) (λ_=>true) (λd=>∃x,d=[x,some (.tup (ch.map .int)),some (.int j)]) ?_;walk_at "go";refine⟨_,P7 b,by rw[Iz];exact IC _,J6 o,⟨_,rfl⟩,λi g a=>P8 (ah a b) i,?_,λg a=>?_⟩
 .rintro e d g z ⟨x,rfl⟩ a;walk_at "go";refine⟨rfl,⟨_,rfl⟩,?_⟩;walk_at "go";refine⟨rfl,IU _,λ_=>?_⟩;have C:atI [PV.int e.1.1,.tup (e.1.2.map .int),pv e.2] 2=some (pv e.2):=rfl;have B:atI [PV.int e.2.1,.int e.2.2] 1=some (.int e.2.2):=rfl;unfold dU;walk_at "go";refine dZ (l:=[PV.int e.2.1,.int e.2.2]) B ?_;walk_at "go";rw[q e z];exact⟨by simp,IU _⟩
 .refine⟨_,rfl,E4 a,?_⟩;rw[ax,JA.mpr (by simp),J1];rfl
theorem eS(M:List ((Int×List Int)×(Int×Int))):H9 (M.map dU)=true:=by
 rw[d0];intro x a;obtain⟨e,_,rfl⟩:=IB.mp a;show([PV.int e.1.1,.tup (e.1.2.map .int),pv e.2].all i3)=true;have:i3 (.tup (e.1.2.map .int))=true:=by
  show(e.1.2.map PV.int).all iD=true;rw[List.all_map];simp[Lq,iD]
 simp[this,pv,i3,iD]
theorem GN(N:NK c S)(O:A[n]?=some (.lst ((bR S c.ps).map dU)))(D:(bR S c.ps).length<=10000)(Q:A[f]?=some (.lst (c.fr.map .int))){e:(Int×List Int)×(Int×Int)}(he:e∈bR S c.ps){T U:Option PV} :
 Wp (P4 [some (.ref n),some (.ref f),some (.int e.1.1),some (.tup (e.1.2.map .int)),some (pv e.2),T,U]) A
  (λo B=>∃j p,o=.nx [some (.ref n),some (.ref f),some (.int e.1.1),some (.tup (e.1.2.map .int)),some (pv e.2),j,p]/\A<+:B) NoX:=by
 obtain⟨hp,E⟩:=all3_mem.mp he;unfold P4;refine pK (λi q B=>∃j p,q=[some (.ref n),some (.ref f),some (.int e.1.1),some (.tup (e.1.2.map .int)),some (pv e.2),j,p]/\A<+:B) ?_;walk_at "go";obtain⟨Y,h6,_⟩:=N.hd _ _ E;refine⟨1,e.1.2.length,rfl,rfl,⟨by omega,by omega⟩,_,_,rfl,⟨_,_,rfl,IU _⟩,?_,?_⟩
 .rintro i q B hi ⟨j,p,rfl,p1⟩;have G:1+i<e.1.2.length:=by omega
  have g:((1:Nat):Int)+(i:Int)=((1+i:Nat):Int):=by omega
  have d:e.1.2[1+i]?=some e.1.2[1+i]:=IM G;have a0:atI (e.1.2.map PV.int) ((1+i:Nat):Int)=some (.int e.1.2[1+i]):=kq (by rw[Ja,d];rfl);have r:=ah p1 O;have a1:=ah p1 Q;rw[g];walk_at "go";unfold bo;walk_at "go";refine⟨λh=>?_,λh=>?_⟩
  .have s:e.1.2[1+i]∉c.fr:=by simpa using h
   obtain⟨H,I,J,h2,h3⟩:=N.nm _ _ E (1+i) (by omega) _ d s;have u:(I,H)∈hits (bR S c.ps) (e.1.2.drop (1+i)) e.1.1:=Ji.mpr ⟨all3_mem.mpr ⟨(N.hd H I J).2.2,J⟩,by simp[h2,h3]⟩;have hM:∀x∈hits (bR S c.ps) (e.1.2.drop (1+i)) e.1.1,x.2.2=e.1.2[1+i]:=λx hx=>by
    obtain⟨a,b⟩:=Ji.mp hx;have w:x.1.2=e.1.2.drop (1+i):=by
     rw[Jc]at b;simpa using b.1
    have:=(N.hd _ _ (all3_mem.mp a).2).1;rw[w,List.head?_drop,d]at this;exact(Jo this).symm
   have y:(hits (bR S c.ps) (e.1.2.drop (1+i)) e.1.1).length<=10000:=Jd (JE _ _) D;walk_at "go";refine ae (gp r D ⟨by omega,G⟩) λv B1 z=>?_;obtain⟨m,rfl,p2,L⟩:=z;generalize hits (bR S c.ps) (e.1.2.drop (1+i)) e.1.1=M at *;walk_at "go";refine fZ (ao L) ax ⟨eS _,rfl⟩ ?_;have C:eqvs (M.map dU) []=false:=by
    cases M with
    | nil=>cases u
    | cons a l=>rfl
   rw[C];refine⟨_,rfl,λh=>absurd h (by simp),λ_=>?_⟩;walk_at "go";refine ae (gq (ao L) y d hM) λv B2 z=>?_;obtain⟨k,rfl,p3,hk⟩:=z;refine⟨k,_,rfl,hk,false,?_,λh=>absurd h (by simp),λ_=>?_⟩
   .rw[show(M.map λ_=>false).any id=false by simp]
   refine X4 ?_;exact⟨_,_,rfl,p1.trans (p2.trans ((IJ _ _).trans p3))⟩
  .refine X4 ?_;exact⟨_,_,rfl,p1⟩
 .rintro q B ⟨j,p,rfl,p1⟩;exact⟨_,_,rfl,p1⟩
theorem GO(N:NK c S)(p:A[n]?=some (.lst ((bR S c.ps).map dU)))(s:(bR S c.ps).length<=10000)(u:A[f]?=some (.lst (c.fr.map .int))):Wp (K7 [.ref n,.ref f]) A (λv _=>v=.bl true) NoX:=by
 unfold K7;walk_at "fn";walk_at "gb";unfold W3;refine kj (λi b B=>∃d g h j k,b=[some (.ref n),some (.ref f),d,g,h,j,k]/\A<+:B) ?_;walk_at "go";refine⟨n,(bR S c.ps).map dU,rfl,⟨_,_,_,_,_,rfl,IU _⟩,λi b B a=>?_,λi v b B q a=>?_,λb B a=>?_⟩
 .obtain⟨_,_,_,_,_,_,p1⟩:=a;exact J3 (ah p1 p)
 .obtain⟨d,g,h,j,k,rfl,p1⟩:=a;rw[Ja]at q;obtain⟨e,w,rfl⟩:=Jh.mp q;have r:=Jn w;obtain⟨E,x⟩:=all3_mem.mp r;obtain⟨m,G,_⟩:=N.hd _ _ x;have y:atI (e.1.2.map PV.int) 0=some (.int e.2.2):=kq (i:=0) (by rw[Ja,<-List.head?_eq_getElem?,m];rfl);have z:atI [PV.int e.2.1,.int e.2.2] 1=some (.int e.2.2):=rfl;unfold dU;walk_at "go";unfold bp;walk_at "go";refine dZ (l:=[PV.int e.2.1,.int e.2.2]) z (uT ⟨_,rfl,λC=>absurd C (by simp),λ_=>X4 ?_⟩);dsimp only;refine ae (GN N (ah p1 p) s (ah p1 u) r) λo H a=>?_;obtain⟨I,J,rfl,D⟩:=a;exact⟨_,_,_,_,_,rfl,p1.trans D⟩
 .obtain⟨d,g,h,j,k,rfl,p1⟩:=a;walk_at "gb"
end
structure eT(B:PHp)(c:bZ)(S:LS)(q sc fa lv op:Nat)(cells:List Int)(i:Nat):Prop where
 led:bq B c S
 pq:B[q]?=some (.lst (aJ c.ps))
 cs:B[sc]?=some (.lst (cells.map .int))
 ff:B[fa]?=some (.lst (c.fr.map .int))
 ll:B[lv]?=some (.lst (c.L.map .int))
 nk:NK c S
 oq:∃O,B[op]?=some (.lst (aJ O))/\O.length<=100/\∀p∈O,p∈openL c S
 ms:S.m<=i
 fo:∀a,a=q\/a=sc\/a=fa\/a=lv\/a=op->a∉own c S
section
variable{B B':PHp}{c:bZ}{S S':LS}{q sc fa lv op:Nat}{cells:List Int}{i:Nat}
theorem eT.mono(H:eT B c S q sc fa lv op cells i)(p:B<+:B'):eT B' c S q sc fa lv op cells i:=
 ⟨H.led.mono p,ah p H.pq,ah p H.cs,ah p H.ff,ah p H.ll,H.nk,let⟨O,a,b⟩:=H.oq;⟨O,ah p a,b⟩,H.ms,H.fo⟩
theorem GP(st:cV c S S' B B'){a:Nat}(d:a<B.length)(b:a∉own c S):a∉own c S':=λz=>by
 unfold own at z b;simp only[IH]at z b;rcases z with z | z | z | z | z
 .exact b (.inl z)
 .exact b (.inr (.inl z))
 .exact b (.inr (.inr (.inl z)))
 .exact b (.inr (.inr (.inr (.inl z))))
 .rcases st.new a z with y | y
  .exact b (.inr (.inr (.inr (.inr y))))
  .omega
theorem eT.step(H:eT B c S q sc fa lv op cells i)(L:bq B' c S')(st:cV c S S' B B')(N:NK c S')(e:∀p∈openL c S,p∈openL c S')(f:S'.m<=i+1):eT B' c S' q sc fa lv op cells (i+1):=by
 obtain⟨O,b,g,h⟩:=H.oq;refine⟨L,st.keep _ _ H.pq (H.fo q (by simp)),st.keep _ _ H.cs (H.fo sc (by simp)),st.keep _ _ H.ff (H.fo fa (by simp)),st.keep _ _ H.ll (H.fo lv (by simp)),N,⟨O,st.keep _ _ b (H.fo op (by simp)),g,λp j=>e p (h p j)⟩,f,λa d=>GP st ?_ (H.fo a d)⟩;rcases d with rfl | rfl | rfl | rfl | rfl
 .exact G8 H.pq
 .exact G8 H.cs
 .exact G8 H.ff
 .exact G8 H.ll
 .exact G8 b
theorem GQ(d:c.ps≠[]){x:Int}(g:0<=x):∃p∈c.ps,atI (aJ c.ps) (x%((aJ c.ps).length:Nat))=some (pv p):=by
 have e:(aJ c.ps).length=c.ps.length:=by unfold aJ;simp
 have h:0<c.ps.length:=JV.mpr d;obtain⟨k,f⟩:∃k:Nat,x%((aJ c.ps).length:Nat)=k:=⟨(x%((aJ c.ps).length:Nat)).toNat,(Mj (LN _ (by rw[e];omega))).symm⟩;have a:k<c.ps.length:=by
  have:=LI x (b:=((aJ c.ps).length:Nat)) (by rw[e];omega);rw[f,e]at this;omega
 refine⟨c.ps[k],JM a,?_⟩;rw[f];exact kq (by unfold aJ;rw[Ja,IM a];rfl)
theorem GR{p:Int×Int}{n:Int}(h:good n p)(g:n<=6):l2 p∈prs:=by
 obtain⟨⟨a,b⟩,⟨d,f⟩,_⟩:=h;have e:∀z:Int,0<=z->z<n->z∈([0,1,2,3,4,5]:List Int):=λz j k=>by
  have:z=0\/z=1\/z=2\/z=3\/z=4\/z=5:=by omega
  rcases this with rfl | rfl | rfl | rfl | rfl | rfl<;>decide
 exact Me.mpr ⟨p.1,e _ a b,IB.mpr ⟨p.2,e _ d f,rfl⟩⟩
theorem GS{l:List (List Int)}(d:l.Nodup):hZ l=l:=by
 have b:∀(l T:List (List Int)),(T++l).Nodup->l.foldl je T=T++l:=by
  intro l;induction l with
  | nil=>intro T _;simp[List.foldl]
  | cons a r ih=>
    intro T h;have e:a∉T:=λz=>by rw[Ju]at h;exact h.2.2 a z a IE rfl
    rw[LK,show je T a=T++[a] by unfold je;rw[if_neg e],ih _ (by simpa using h)];simp
 exact b l [] (by simpa using d)
theorem fF{A:PHp}{Q:PV->PHp->Prop}{E:XP}{σ:PSt}{e:ED}(h:Wp (e σ) A (λx A1=>∃n a,x=.ref n/\A1[n]?=some (.lst (a.map λt=>.tup (t.map .int)))/\(∀t∈a,t≠[])/\(a.length<64/\∀t∈a,t∈prs)/\Q (.int (hZ a).length) A1) E):Wp (y0 e σ) A Q E:=
 B9 (ae h λx A1 b=>by
  obtain⟨n,a,d,f,g,j,q⟩:=b;subst d;refine B9 (iM f ?_);rw[r8 _ g];exact C8 j q)
theorem t8{A:PHp}{a b:Nat}{X Y:List (Int×Int)}(h:A[a]?=some (.lst (aJ X)))(m:A[b]?=some (.lst (aJ Y)))(n:X.length<=10000)(hs:∀p∈X,p∈Y){j:ID}{σ:PSt}{mk:PSt->PSt}(e:∀{Q:It->PHp->Prop},Q (.lst a) A->Wp (j σ) A Q NoX)(f:∃x,mk σ=[x,some (.ref b)]) :
 Wp (L5 j mk (gName 0) S9 (C3 R3 (aa 0) (aa 1)) σ) A (λv A'=>∃k,v=.ref k/\A<+:A'/\A'[k]?=some (.lst ((X.map λ_=>false).map .bl))) NoX:=by
 refine Y5 X pv (λ_=>.bl false) (λ_=>true) (λσ=>∃x,σ=[x,some (.ref b)]) (e ?_);refine⟨_,P7 h,by unfold aJ;rw[Iz];exact IC _,J6 n,f,λi l d=>P8 (ah d h) i,?_,λl d=>?_⟩
 .rintro p σ l o ⟨x,rfl⟩ d;have g:=ah d m;walk_at "go";refine⟨rfl,⟨_,rfl⟩,?_⟩;walk_at "go";refine⟨rfl,IU _,λ_=>?_⟩;walk_at "go";refine eh g ?_;exact⟨by rw[decide_eq_true (show(p.1,p.2)∈Y from hs p o)];rfl,IU _⟩
 .refine⟨_,rfl,E4 d,?_⟩;rw[ax,JA.mpr (by simp),J1];rfl
theorem GU:∀a∈own c S,a∈dom c S:=λa h=>by
 unfold dom;simp only[IH];simp[h]
theorem GV(H:eT B c S q sc fa lv op cells i)(A:c.L.length<=1000)(c2:c.ps.length<=36){x0 x1 x2 x6 x9 l m s C D:Option PV} :
 Wp ((C9 (K0 (O2 2 K1 (aa 7) aNil) (gName 13))
 (C9 (K0 (O2 2 J5 (aa 7) aNil) (gName 14))
 (C9 (bN (tOr (D3 (gJ dg)) (D3 (gJ df)))
 (I9 (eK (.bl false)))
 sPass)
 (C9 (bN (tOr (D3 (gJ dh)) (D3 (C3 fK (y0 (aa 14)) (v9 (aa 14)))))
 (I9 (eK (.bl false)))
 sPass)
 (K0 (aa 13) (gName 8)))))) [x0,x1,x2,some (.ref q),some (.ref lv),some (.ref fa),x6,some (.ref c.G),some (.ref op),x9,l,m,s,C,D]) B
      (λo B'=>∃u E I,o=.nx [x0,x1,x2,some (.ref q),some (.ref lv),some (.ref fa),x6,some (.ref c.G),some (.ref u),x9,l,m,s,E,I]/\eT B' c S q sc fa lv u cells i) NoX:=by
  have hG:=H.led.ob;have c3:(S.lays.map (·.1)).length<=c.ps.length:=H.led.ln.length_le_of_subset H.led.lp;walk_at "go";refine ae (fD H.led (λp r J z=>by have:=(H.nk.hd p r J).1;rw[z]at this;cases this) A) λv j e=>?_;obtain⟨n,rfl,hn,p1,h1⟩:=e;have N:=H.mono p1;have c4:=N.led.ob;walk_at "go";refine ae (eZ N.led) λv B2 e=>?_;obtain⟨rfl,rfl⟩:=e;have p2:j<+:j++[PO.lst (aJ (srt (S.lays.map (·.1))))]:=IJ _ _;have h2:(j++[PO.lst (aJ (srt (S.lays.map (·.1))))])[j.length]?=some (.lst (aJ (srt (S.lays.map (·.1))))):=ax;have H2:=N.mono p2;have w:=ah p2 h1;have e0:=G8 h1;generalize j++[PO.lst (aJ (srt (S.lays.map (·.1))))]=B2 at *;generalize e1:j.length=la at *;have e3:(openL c S).length<=36:=by
   unfold openL;refine Jd (JE _ _) ?_;rw[(G4 _).length_eq];omega
  have e4:(srt (S.lays.map (·.1))).length<=36:=by rw[(G4 _).length_eq];omega
  obtain⟨O,hO,e6,Q⟩:=H2.oq;walk_at "go";unfold dg;refine ae (t8 hO w (by omega) Q (λq=>by walk_at "go";exact q) ⟨_,rfl⟩) λv B3 e=>?_;obtain⟨k,rfl,T,hk⟩:=e;have U:∀X:List (Int×Int),PV.bl ((X.map λ_=>false).any id)=.bl false:=λX=>by simp
  refine⟨k,_,rfl,hk,false,U _,λh=>absurd h (by simp),λ_=>?_⟩;have f:=ah T w;have x:=ah T h2;walk_at "go";unfold df;refine ae (t8 f x (by omega) (λp y=>(Ji.mp y).1) (λq=>by walk_at "go";exact q) ⟨_,rfl⟩) λv B4 e=>?_;obtain⟨k4,rfl,Y,a0⟩:=e;refine⟨k4,_,rfl,a0,false,U _,λh=>absurd h (by simp),λ_=>X4 ?_⟩;dsimp only;have g:=ah Y x;have H4:=H2.mono (T.trans Y);have a1:=H4.pq;walk_at "go";unfold dh;refine ae (t8 g a1 (by omega) (λp y=>H.led.lp p ((G4 _).mem_iff.mp y)) (λq=>by walk_at "go";exact q) ⟨_,rfl⟩) λv B5 e=>?_;obtain⟨k5,rfl,p5,a3⟩:=e;refine⟨k5,_,rfl,a3,false,U _,λh=>absurd h (by simp),λ_=>?_⟩;have a4:=ah p5 g;walk_at "go";refine fF ?_;have a5:((srt (S.lays.map (·.1))).map l2).Nodup:=Ov _ (λa b a6 z=>a6 (t7 z)) ((G4 _).nodup_iff.mpr H.led.ln);walk_at "go";refine⟨la,(srt (S.lays.map (·.1))).map l2,rfl,by rw[a4,ma],λt ht=>?_,⟨by rw[Iz];omega,λt ht=>?_⟩,?_⟩
  .obtain⟨r,_,rfl⟩:=IB.mp ht;simp[l2]
  .obtain⟨r,J,rfl⟩:=IB.mp ht;exact GR (H.led.pg.good r (H.led.lp r ((G4 _).mem_iff.mp J))) H.led.pg.hi
  rw[GS a5,Iz];walk_at "go";refine⟨λh=>absurd h (by unfold aJ;simp),λ_=>X4 ?_⟩;dsimp only;walk_at "go";have d:=H4.mono p5;refine⟨n,_,_,rfl,⟨d.led,d.pq,d.cs,d.ff,d.ll,d.nk,⟨openL c S,ah (Y.trans p5) f,by omega,λp y=>y⟩,d.ms,λa ha=>?_⟩⟩;rcases ha with rfl | rfl | rfl | rfl | rfl
  .exact d.fo _ (by simp)
  .exact d.fo _ (by simp)
  .exact d.fo _ (by simp)
  .exact d.fo _ (by simp)
  .intro z;have:=H.led.dlt _ (GU _ z);omega
theorem GW{W:List (List Int)}(d:W≠[]){x:Int}(g:0<=x):∃w∈W,atI (W.map tupI) (x%((W.map tupI).length:Nat))=some (tupI w):=by
 have e:(W.map tupI).length=W.length:=by simp
 have h:0<W.length:=JV.mpr d;obtain⟨k,f⟩:∃k:Nat,x%((W.map tupI).length:Nat)=k:=⟨(x%((W.map tupI).length:Nat)).toNat,(Mj (LN _ (by rw[e];omega))).symm⟩;have a:k<W.length:=by
  have:=LI x (b:=((W.map tupI).length:Nat)) (by rw[e];omega);rw[f,e]at this;omega
 refine⟨W[k],JM a,?_⟩;rw[f];exact kq (by rw[Ja,IM a];rfl)
theorem ks(H:eT B c S q sc fa lv op cells i)(c0:c.L.length<=1000)(c1:c.ps.length<=36)(a1:c.ps≠[])(hi:i<1000){d:Int}{x0 x2 x6 x9 c2 c3 c4 O T:Option PV} :
 Wp (qb [x0,some (.int d),x2,some (.ref q),some (.ref lv),some (.ref fa),x6,some (.ref c.G),some (.ref op),x9,c2,c3,c4,O,T]) B
  (λo B'=>∃U y9 d1 s u a2 a3 S',o=.nx [x0,some (.int d),x2,some (.ref q),some (.ref lv),some (.ref fa),x6,some (.ref c.G),some (.ref U),y9,d1,s,u,a2,a3]/\eT B' c S' q sc fa lv U cells (i+1)) NoX:=by
 have hG:=H.led.ob;have hq:=H.pq;have d2:=H.ll;unfold qb;walk_at "go";refine w_eq (br _ _ _) ?_;have hm:=qw d 3;generalize mx d 3=x at *;obtain⟨p,Y,g1⟩:=GQ (c:=c) a1 (x:=x / 4) (by omega);have h0:(0:Int)<((aJ c.ps).length:Nat):=by unfold aJ;rw[Iz];exact Int.natCast_pos.mpr (JV.mpr a1)
 have a0:=H.led.pg.good p Y;walk_at "go";have e3:atI [PV.int p.1,.int p.2] 1=some (.int p.2):=rfl;refine dZ (l:=[PV.int p.1,.int p.2]) e3 ?_;walk_at "go";refine ae (fE H.led.pg hq a0.2.1 d2) λv B1 b=>?_;obtain⟨n,rfl,hn,p1,h1⟩:=b;have hC:∀w∈chainsOf c.ps c.L c.N p.2,w≠[]/\w.length<=6:=λw y=>by
  have k1:=(vG H.led.pg.good a0.2.1 w).mp (Ji.mp y).1;have:=k1.len;have:=H.led.pg.hi;exact⟨k1.ne,by omega⟩
 have e:=H.mono p1;have g2:=e.led.ob;generalize chainsOf c.ps c.L c.N p.2=C at *;have g3:=H.ms;have E:∀g,B1<+:g->Wp (J7 [.ref c.G,.tup [.str "lay",pv p]]) g (λv B'=>∃S',eT B' c S' q sc fa lv op cells (i+1)) NoX:=λg h=>ae (GJ (e.mono h).led p) λv A b=>by
  obtain⟨S',L',st,hc⟩:=b;rcases hc with rfl | ⟨_,rfl⟩
  .exact⟨_,(e.mono h).step L' st e.nk (λp Y=>Y) (by omega)⟩
  .exact⟨_,(e.mono h).step L' st (e.nk.lay p) (qz (λr k=>by show r∈(S.lays++[(p,S.now)]).map (·.1);rw[Js];exact JR _ k) λp r k=>k) (by show S.m<=i+1;omega)⟩
 have a6:∀g (ch:List Int),B1<+:g->ch.length<=6->Wp (J7 [.ref c.G,.tup [.str "say",pv p,.tup (ch.map .int)]]) g (λv B'=>∃S',eT B' c S' q sc fa lv op cells (i+1)) NoX:=λg ch h hl=>ae (GK (e.mono h).led p (ch:=ch) (by omega) (by omega)) λv A b=>by
  obtain⟨S',L',st,hc⟩:=b;rcases hc with rfl | ⟨hv,a,rfl⟩
  .exact⟨_,(e.mono h).step L' st e.nk (λp Y=>Y) (by omega)⟩
  .refine⟨_,(e.mono h).step L' st (e.nk.say e.led.kn hv hl a) (qz (λr k=>k) λq r k=>?_) (by show S.m+1<=i+1;omega)⟩;rw[mh e.led.kn];split
   .exact JR _ k
   .exact k
 refine ki ?_;dsimp only[List.set];refine cR (ae (Q:=λo B'=>∃s u S',o=.nx [x0,some (.int d),x2,some (.ref q),some (.ref lv),some (.ref fa),x6,some (.ref c.G),some (.ref op),some (.int x),some (pv p),s,u,O,T]/\eT B' c S' q sc fa lv op cells (i+1)) ?_ λo B2 b=>?_)
 .walk_at "go";refine⟨λf=>?_,λf=>?_⟩
  .walk_at "go";refine ae (gS e.led) λv B2 b=>?_;obtain⟨rfl,e1,e2⟩:=b;walk_at "go";exact⟨_,_,{ S with now:=S.now+1 },rfl,e.step e1 e2 e.nk.move (qz (λp Y=>Y) λp r k=>k) (by have:=e.ms;show S.m<=i+1;omega)⟩
  .walk_at "go";refine⟨λf=>⟨λ_=>?_,λz=>by cases z⟩,λf=>?_⟩
   .walk_at "go";refine ae (E _ (IU _)) λv B2 b=>?_;obtain⟨S',D⟩:=b;walk_at "go";exact⟨_,_,S',rfl,D⟩
   .walk_at "go";refine fZ (ao h1) ax ⟨cw C,rfl⟩ ⟨_,rfl,λf=>?_,λf=>?_⟩
    .walk_at "go";refine ae (E _ (IJ _ _)) λv B2 b=>?_;obtain⟨S',D⟩:=b;walk_at "go";exact⟨_,_,S',rfl,D⟩
    .have I:C≠[]:=λz=>by rw[z]at f;cases f
     have p2:B1<+:B1++[PO.lst []]:=IJ _ _;have D:=e.mono p2;have h2:=ah p2 h1;generalize B1++[PO.lst []]=B2 at *;have h6:=D.led.ob;walk_at "go";refine dZ (l:=[PV.int p.1,.int p.2]) e3 ?_;walk_at "go";refine ae (eR D.led a0.2.1) λv g b=>?_;obtain⟨h,m,W,rfl,a7,h7,hW⟩:=b;have H3:=D.mono h;have h3:=ah h h2;refine ki ?_;dsimp only[List.set];have j:∀A,g<+:A->A[n]?=some (.lst (C.map tupI)):=λA p4=>ah p4 h3;refine cR (ae (Q:=λo A=>∃n' W',o=.nx [x0,some (.int d),x2,some (.ref q),some (.ref lv),some (.ref fa),x6,some (.ref c.G),some (.ref op),some (.int x),some (pv p),some (.ref n'),some (.ref m),O,T]/\g<+:A/\A[n']?=some (.lst (W'.map tupI))/\W'≠[]/\∀w∈W',w.length<=6) ?_ λo A b=>?_)
     .walk_at "go";refine il (ao a7) ax ⟨cw W,rfl⟩ ⟨_,rfl,λf=>?_,λf=>?_⟩
      .have a9:W≠[]:=λz=>by rw[z]at f;cases f
       walk_at "go";refine⟨λf=>?_,λf=>?_⟩
       .walk_at "go";exact⟨m,W,rfl,IJ _ _,ao a7,a9,λw y=>(hW w y).2⟩
       .walk_at "go";exact⟨n,C,rfl,IJ _ _,j _ (IJ _ _),I,λw y=>(hC w y).2⟩
      .refine⟨λz=>absurd z (by simp),λ_=>?_⟩;refine X4 ?_;exact⟨n,C,rfl,IJ _ _,j _ (IJ _ _),I,λw y=>(hC w y).2⟩
     .obtain⟨n',W',rfl,p4,h4,J,e7⟩:=b;obtain⟨w,y,b0⟩:=GW J (x:=x / 500) (by omega);have e8:(0:Int)<((W'.map tupI).length:Nat):=by rw[Iz];exact Int.natCast_pos.mpr (JV.mpr J)
      rw[Iz]at b0 e8;walk_at "go";refine ae (a6 _ w (p2.trans (h.trans p4)) (e7 w y)) λv B5 b=>?_;obtain⟨S',H5⟩:=b;walk_at "go";exact⟨_,_,S',rfl,H5⟩
 .obtain⟨s,u,S',rfl,D⟩:=b;refine ae (GV D c0 c1) λo g b=>?_;obtain⟨U,a2,a3,rfl,H3⟩:=b;exact⟨_,_,_,_,_,_,_,_,rfl,H3⟩
end
theorem GX{A:PHp}{a:Nat}{ns:List Int}(h:A[a]?=some (.ro (ns.map .int)))(k:Nat):M6 [.ref a,.int k] A=.ok (.int (ns.getD k 0)) A:=by
 have e:Wp (M6 [.ref a,.int k]) A (λv d=>v=.int (ns.getD k 0)/\d=A) NoX:=by
  unfold M6;walk_at "fn";walk_at "gb";refine⟨λc=>?_,λc=>?_⟩
  .have b:k<ns.length:=by simpa using c
   have f:atI (ns.map PV.int) (k:Int)=some (.int (ns.getD k 0)):=by
    rw[vi (by rw[Iz];exact b),Nh];simp[b]
   walk_at "gb";exact⟨rfl,rfl⟩
  .have b:¬k<ns.length:=by simpa using c
   walk_at "gb";exact⟨by simp[b],rfl⟩
 obtain⟨v,d,e,rfl,rfl⟩:=kd e;exact e
theorem GY{ps:List (Int×Int)}(a:ps.Nodup){i:Nat}{p:Int×Int}(h:ps[i]?=some p):ps.idxOf p=i:=by
 obtain⟨b,rfl⟩:=IQ.mp h;exact a.idxOf_getElem i b
noncomputable def m7(a:Int)(ps:List (Int×Int))(p:Int×Int):Int:=mx a (60+ps.idxOf p)%20
theorem fG{A:PHp}{q:Nat}{ps:List (Int×Int)}{d:Int}(m:ps.Nodup)(k:A[q]?=some (.lst (aJ ps)))(w:ps.length<=100){n o:Option PV}{r:List (Option PV)}:Wp (qa (n::some (.int d)::o::some (.ref q)::r)) A
 (λv s=>v=.ref A.length/\s=A++[.lst (ps.map λp=>.tup [pv p,.int (m7 d ps p)])]) NoX:=by
 unfold qa;refine pO ?_;walk_at "go";refine⟨(Jj ps.length).zipWith (λi p=>PV.tup [.int (i:Nat),pv p]) ps,ps.length,λi a f B=>B=A/\(∃x y,f=[x,y,some (.int d)])/\a=(ps.take i).map λp=>PV.tup [pv p,.int (m7 d ps p)],?_,by simp,⟨rfl,⟨_,_,rfl⟩,rfl⟩,λi a f B b=>?_,λi v a f B c b=>?_,λa f B b=>?_⟩
 .show av (G2 q) _ A=_;rw[aA (J3 k)];simp[aJ,ret]
 .obtain⟨rfl,_,_⟩:=b;show av (G2 q) _ _=_;rw[aA (J3 k)];unfold aJ;simp only[ret];congr 1;rw[Ja,PL];by_cases h:i<ps.length
  .simp[h]
  .simp[h]
 .obtain⟨rfl,⟨x,y,rfl⟩,rfl⟩:=b;rw[PL]at c;have l:i<ps.length:=by
   by_cases h:i<ps.length
   .exact h
   .simp[h]at c
  obtain⟨p,g⟩:∃p,ps[i]?=some p:=⟨_,IM l⟩;have j:v=.tup [.int (i:Nat),pv p]:=by
   rw[g]at c;simp[l]at c;exact c.symm
  subst j;have u:ps.take (i+1)=ps.take i++[p]:=by rw[KC,g];rfl
  walk_at "go";refine w_eq (br _ _ _) ?_;walk_at "go";refine⟨rfl,⟨_,_,rfl⟩,?_⟩;rw[u,Js];unfold m7;simp[GY m g]
 .obtain⟨rfl,_,rfl⟩:=b;have e:((Jj ps.length).zipWith (λi p=>PV.tup [.int (i:Nat),pv p]) ps).length=ps.length:=by simp
  rw[e,KO];exact⟨J6 (by rw[Iz];omega),rfl,rfl⟩
noncomputable def bitsL(x:Int)(N:Nat):List Int:=(S6 N).filter λk=>decide (Kc (x / 2 ^ k.toNat) 1=1)
theorem dF{A:PHp}{x:Int}{N:Nat}(e:N<=6):Wp (Q6 [.int x,.int N]) A (λv b=>v=.ref A.length/\b=A++[.lst ((bitsL x N).map .int)]) NoX:=by
 unfold Q6;walk_at "fn";walk_at "go";unfold o7;refine U6 (l:=(S6 N).map .int) (λa=>∃y,a=[y,some (.int x)]) (λv=>match v with | .int k=>decide (Kc (x / 2 ^ k.toNat) 1=1) | _=>false) (λv=>v) ?_;walk_at "go";refine⟨by simp[aT],J6 (by simp[aT];omega),⟨_,rfl⟩,λi=>by rw[pP,Gc],?_,rfl,?_⟩
 .rintro v a c ⟨y,rfl⟩;obtain⟨k,d,rfl⟩:=IB.mp c;have:=mem_hands.mp d;walk_at "go";refine⟨rfl,⟨_,rfl⟩,?_⟩;walk_at "go";refine⟨rfl,rfl,λ_=>?_⟩;walk_at "go";exact⟨rfl,rfl⟩
 .congr 3;unfold bitsL;rw[My,J1];rfl
theorem GZ:∀N:Nat,2<=N->N<=5->∀v:Nat,1<=v->v<=2 ^ N - 1->bitsL (v:Int) N≠[]:=by
 have a:∀N:Fin 6,∀v:Fin 32,2<=N.val->1<=v.val->v.val<=2 ^ N.val - 1->(bitsL (v.val:Int) N.val).isEmpty=false:=by decide +kernel
 intro N b c v d e z;have f:2 ^ N<=2 ^ 5:=Nn (by decide) c;have:=a ⟨N,by omega⟩ ⟨v,by omega⟩ b d e;simp only at this;rw[z]at this;cases this
theorem Ha{x:Int}{N:Nat}(h:bitsL x N≠[]):l8 N (bitsL x N)=true/\(bitsL x N).Nodup/\(bitsL x N).length<=N:=by
 have e:(bitsL x N).Pairwise (·< ·):=(l6 N).filter _;have a:∀y∈bitsL x N,0<=y/\y<(N:Int):=λy d=>mem_hands.mp (Ji.mp d).1;have b:(bitsL x N).Nodup:=e.imp λh z=>by omega
 refine⟨lead_iff.mpr ⟨qk e ((l6 N).filter _) λy=>?_,h⟩,b,?_⟩
 .rw[Ji,mem_hands];exact⟨λc=>⟨a y c,decide_eq_true c⟩,λc=>of_decide_eq_true c.2⟩
 .have:=b.length_le_of_subset (l₂:=S6 N) λy d=>mem_hands.mpr (a y d)
  rwa [aT]at this
theorem law_pure:∀ns:List Int,∃A',lZ [.ref 0] [.ro (ns.map .int)]=.ok (.bl true) A':=by
 intro ns;have h:Wp (lZ [.ref 0]) [.ro (ns.map .int)] (λv _=>v=.bl true) NoX:=by
  generalize c1:[PO.ro (ns.map PV.int)]=A0;have hA:A0[0]?=some (.ro (ns.map .int)):=by rw[<-c1];rfl
  clear c1;unfold lZ;walk_at "fn";walk_at "gb";refine w_eq (GX hA 0) ?_;generalize ns.getD 0 0=b;walk_at "gb";refine w_eq (br _ _ _) ?_;have m0:=qw b 0;obtain⟨N,hN,Q⟩:∃N:Nat,2+mx b 0%4=N/\2<=N/\N<=5:=⟨(2+mx b 0%4).toNat,by omega,by omega,by omega⟩;walk_at "gb";rw[hN];refine ae (Gn Q.1 (by omega)) λv A1 j=>?_;obtain⟨p1,ps,q,rfl,hq,P,n3,c2,c3,_⟩:=j;have c4:=ah p1 hA;clear p1 hA;have i2:ps≠[]:=λz=>by
   obtain⟨g,hg⟩:=c3 0 ⟨Int.le_refl _,by omega⟩;rw[z]at hg;cases hg
  walk_at "gb";refine w_eq (br _ _ _) ?_;walk_at "gb";have m1:=qw b 1;obtain⟨x,hx,T⟩:∃x:Nat,1+mx b 1%(1*2 ^ (N:Int).toNat - 1)=(x:Int)/\1<=x/\x<=2 ^ N - 1:=by
   have U:N=2\/N=3\/N=4\/N=5:=by omega
   refine⟨(1+mx b 1%(1*2 ^ (N:Int).toNat - 1)).toNat,?_⟩;rcases U with rfl | rfl | rfl | rfl<;>simp<;>omega
  have d1:=GZ N Q.1 Q.2 x T.1 T.2;have O:(0:Int)<1*2 ^ (N:Int).toNat - 1:=by
   have U:N=2\/N=3\/N=4\/N=5:=by omega
   rcases U with rfl | rfl | rfl | rfl<;>decide
  refine w_mod O ?_;walk_at "gb";rw[hx];refine ae (dF (by omega)) λv Y j=>?_;obtain⟨rfl,rfl⟩:=j;obtain⟨a0,o2,j1⟩:=Ha d1;generalize bitsL (x:Int) N=L at *;clear hx T O d1 m1;have q2:A1<+:A1++[PO.lst (L.map .int)]:=IJ _ _;have d2:(A1++[PO.lst (L.map .int)])[A1.length]?=some (.lst (L.map .int)):=ax;generalize A1++[PO.lst (L.map .int)]=Y at *;generalize A1.length=l at *;have e0:=ah q2 hq;have e1:=ah q2 c4;clear q2 c4 hq;walk_at "gb";refine w_eq (br _ _ _) ?_;walk_at "gb";refine ae (dF (by omega)) λv A3 j=>?_;obtain⟨rfl,rfl⟩:=j;have o3:(bitsL (mx b 2) N).length<=6:=Jd (JE _ _) (by rw[aT];omega);generalize bitsL (mx b 2) N=fr at *;have q3:Y<+:Y++[PO.lst (fr.map .int)]:=IJ _ _;have e2:(Y++[PO.lst (fr.map .int)])[Y.length]?=some (.lst (fr.map .int)):=ax;generalize Y++[PO.lst (fr.map .int)]=A3 at *;generalize Y.length=fa at *;have a2:=ah q3 e0;have e3:=ah q3 e1;have e4:=ah q3 d2;clear q3 e1 e0 d2;walk_at "gb";refine ae (fG P.nd a2 (by omega)) λv A6 j=>?_;obtain⟨rfl,rfl⟩:=j;refine⟨_,_,_,rfl,ax,vI (λp=>.int (m7 b ps p)) _,c5 (by rw[Iz];omega),?_⟩;rw[Gd P.nd];have q6:A3<+:A3++[PO.lst (ps.map λp=>PV.tup [pv p,.int (m7 b ps p)])]++[PO.dT (ps.map λp=>(l2 p,PV.int (m7 b ps p)))]:=(IJ _ _).trans (IJ _ _);have e6:(A3++[PO.lst (ps.map λp=>PV.tup [pv p,.int (m7 b ps p)])]++[PO.dT (ps.map λp=>(l2 p,PV.int (m7 b ps p)))])[(A3++[PO.lst (ps.map λp=>PV.tup [pv p,.int (m7 b ps p)])]).length]?=some (.dT (ps.map λp=>(l2 p,PV.int (m7 b ps p)))):=ax;have hm:∀p∈ps,∃y:Int,0<=y/\L9 (ps.map λp=>(l2 p,PV.int (m7 b ps p))) (l2 p)=some (.int y):=λp hp=>⟨_,by unfold m7;exact LN _ (by decide),vq (f:=m7 b ps) P.nd hp⟩;generalize A3++[PO.lst (ps.map λp=>PV.tup [pv p,.int (m7 b ps p)])]++[PO.dT (ps.map λp=>(l2 p,PV.int (m7 b ps p)))]=A6 at *;generalize(A3++[PO.lst (ps.map λp=>PV.tup [pv p,.int (m7 b ps p)])]).length=d at *;generalize(ps.map λp=>(l2 p,PV.int (m7 b ps p)))=m at *;have a3:=ah q6 a2;have e8:=ah q6 e3;have a4:=ah q6 e4;have e9:=ah q6 e2;clear q6 a2 e3 e4 e2;walk_at "gb";obtain⟨A7,r,e7,p7,W7,k1⟩:=EH P (A:=A6) (q:=q) a3;refine w_eq e7 ?_;walk_at "gb";refine ae (fA W7 (ah p7 a4) (by omega) (ah p7 e6) P a0 hm) λv A8 j=>?_;obtain⟨_,p8,ll,dl,dk,HP,_⟩:=j;have q8:A6<+:A8:=p7.trans p8;have a5:=ah q8 a3;have f2:=ah q8 e8;have a6:=ah q8 a4;have J:=ah q8 e9;generalize A6.length=w at HP ⊢;generalize A7.length=Pn at HP ⊢;clear q8 p8 p7 W7 e7 k1 a4 e8 a3 e6 hm e9;walk_at "gb";refine ae (gn HP P J (by omega)) λv k j=>?_;obtain⟨_,D,HL⟩:=j;have r7:q<A8.length:=G8 a5;have s0:l<A8.length:=G8 a6;have s1:fa<A8.length:=G8 J;have f3:=ah D a5;have f4:=ah D f2;have f5:=ah D a6;have g0:=ah D J;generalize A8.length=G at *;generalize C:(⟨N,ps,L,cS m,fr,Pn,w,r,ll,dl,dk,G⟩:bZ)=c at HL;have cG:c.G=G:=by rw[<-C]
  have k3:c.ps=ps:=by rw[<-C]
  have cN:c.N=N:=by rw[<-C]
  have cL:c.L=L:=by rw[<-C]
  have k4:c.fr=fr:=by rw[<-C]
  clear C HP a5 f2 a6 J D;subst cG cN k3 cL k4;have s5:c.G+4<k.length:=G8 HL.ul;walk_at "gb";have E:k<+:k++[PO.lst []]:=IJ _ _;have hop:(k++[PO.lst []])[k.length]?=some (.lst []):=ax;have q0:=ah E f4;have g1:=ah E f3;have g2:=ah E f5;have g3:=ah E g0;have g4:=HL.mono E;have k5:k.length<(k++[PO.lst []]).length:=G8 hop;generalize k++[PO.lst []]=s at *;generalize k.length=op at *;unfold vg;refine kj (λi σ B=>∃y1 op y9 a8 a9 b0 b1 b2 S,σ=[some (.ref 0),y1,some (.int c.N),some (.ref q),some (.ref l),some (.ref fa),some (.ref d),some (.ref c.G),some (.ref op),y9,a8,a9,b0,b1,b2]/\eT B c S q s.length fa l op (cut ns (some 1) (some 41)) i) ?_;walk_at "gb";have g5:cut (ns.map PV.int) (some 1) (some 41)=(cut ns (some 1) (some 41)).map .int:=qj _ _ _ _;have s6:(cut ns (some 1) (some 41)).length<=40:=by
   unfold cut;rw[JD];have:U8 ns.length ns.length (some 41) - U8 ns.length 0 (some 1)<=40:=by unfold U8;simp;omega
   omega
  rw[g5];have H:s<+:s++[PO.lst ((cut ns (some 1) (some 41)).map .int)]:=IJ _ _;have l0:(s++[PO.lst ((cut ns (some 1) (some 41)).map .int)])[s.length]?=some (.lst ((cut ns (some 1) (some 41)).map .int)):=ax;generalize s++[PO.lst ((cut ns (some 1) (some 41)).map .int)]=l1 at *;generalize q1:s.length=sc at *;generalize cut ns (some 1) (some 41)=u at *;have l3:eT l1 c ⟨1,[],[],[],0⟩ q sc fa l op u 0:=by
   refine⟨g4.mono H,ah H g1,l0,ah H g3,ah H g2,⟨λp r hr=>(nomatch hr),λch t h=>(nomatch h),λp r hr=>(nomatch hr)⟩,⟨[],ah H hop,by simp,λp hp=>(nomatch hp)⟩,IC _,λa ha z=>?_⟩;unfold own sadr at z;simp only[Pp,IH,JO,or_false]at z;omega
  refine⟨sc,u.map .int,rfl,⟨_,op,_,_,_,_,_,_,_,rfl,l3⟩,λi σ B j=>?_,λi v σ B hv j=>?_,λσ B j=>?_⟩
  .obtain⟨_,_,_,_,_,_,_,_,_,_,I⟩:=j;exact J3 I.cs
  .obtain⟨y1,op,y9,a8,a9,b0,b1,b2,S,rfl,I⟩:=j;rw[Ja]at hv;obtain⟨q5,hc,rfl⟩:=Jh.mp hv;have hi:i<u.length:=(IQ.mp hc).1;walk_at "go";refine ae (ks I (by omega) c2 i2 (by omega)) λo B1 j=>?_;obtain⟨t2,z9,t3,u0,u1,u2,u3,S',rfl,n1⟩:=j;exact⟨_,_,_,_,_,_,_,_,_,rfl,n1⟩
  .obtain⟨y1,op,y9,a8,a9,b0,b1,b2,S,rfl,I⟩:=j;rw[Iz]at I;have u4:=I.ms;walk_at "gb";refine ae (en I.led I.pq (by omega)) λv B1 j=>?_;obtain⟨n,rfl,p2,hn⟩:=j;walk_at "gb";have h1:=qB I.led c.ps;have h2:c.ps.length*S.m<=36*40:=MP c2 (by omega);exact GO I.nk hn (by omega) (ah p2 I.ff)
 obtain⟨v,A',e,hv⟩:=kd h;exact⟨A',by rw[e,hv]⟩
end Ws
namespace Ws
open PySem L2
structure mi(mg:Str->Option Iv):Prop where
 g_FEWEST_HANDS:∃t,mg "FEWEST_HANDS" = some (.int 2 t)
 g_MOST_HANDS:∃t,mg "MOST_HANDS" = some (.int 6 t)
 g_LAY:∃t,mg "LAY" = some (.str "lay" t)
 g_SAY:∃t,mg "SAY" = some (.str "say" t)
section
set_option maxHeartbeats 4000000
variable{P:IV}{w:JB}{K:Iw}{mg:Str->Option Iv}{base:Heap}{cm:Nat->Addr}
noncomputable def top(i:Nat):Stmt:=PySem.Challenge.pw_wordswap_k27_whole_names_kept.main.body.getD i (.Pass ⟨0,0,0,0⟩)
structure vV(mg:Str->Option Iv)(cm:Nat->Addr):Prop where
 m_SwapError:mg "SwapError" = some (.ref (cm 7))
 m_NoWeb:mg "NoWeb" = some (.ref (cm 8))
 m_NoPlan:mg "NoPlan" = some (.ref (cm 9))
 m_NoDeed:mg "NoDeed" = some (.ref (cm 12))
 m_Laid:mg "Laid" = some (.ref (cm 13))
 m_NotLaid:mg "NotLaid" = some (.ref (cm 14))
 m_Late:mg "Late" = some (.ref (cm 15))
 m_Unknown:mg "Unknown" = some (.ref (cm 16))
 m_ValueError:mg "ValueError" = none
theorem Hb:C6 ["self","at"] ["self","at"] (B6 (C1 (top 2) 0)):=⟨rfl,rfl,rfl,by decide +kernel,rfl,by decide +kernel,by decide +kernel⟩
theorem Hc{b:Addr}{c:IY}(F:L2.Fun K "__init__" "SwapError.__init__" (C1 (top 2) 0) b c):aE P w K mg base aW 1 b c ["self","at"] (jt K):=
 BO F Hb rfl λd A a e H E f=>mr (BA (L2.pv 0) (L2.pv 1) rfl)
theorem He:C6 ["value"] ["value"] (B6 (top 13)):=by walk_at "sc"
theorem er{a:Addr}{b:IY}(B:L4 K mg cm)(F:L2.Fun K "is_whole" "is_whole" (top 13) a b):aE P w K mg base aW (1) a b ["value"] (ba K cm M4 1):=
 D5 F He λ_ _ _ _ _ _ d e c=>by
  exact(C4 (D4 (i9 (jm (t:=.int) B.kit (aj 0) rfl B.b_isinstance rfl B.b_int PyProof.Rows.boot_int) (Y7 (Ab (jm (t:=.bool) B.kit (aj 0) rfl B.b_isinstance rfl B.b_bool PyProof.Rows.boot_bool))))))
theorem Hf:C6 ["number","value"] ["number","value"] (B6 (top 14)):=by walk_at "sc"
theorem eU{b:Addr}{c:IY}(B:L4 K mg cm)(a:cj P w K mg base cm "is_whole" 1 ["value"] M4 1)(F:L2.Fun K "is_hand" "is_hand" (top 14) b c):aE P w K mg base aW (2) b c ["number","value"] (ba K cm K4 2):=
 D5 F Hf λ_ _ _ _ _ _ d f e=>by
  exact(C4 (D4 (i9 (az a (by decide) d rfl (af (aj 1) ak)) (Y7 (sF mB nJ cz cB au (aj 1) (aj 0))))))
theorem g8:C6 ["value"] ["value"] (B6 (top 15)):=by walk_at "sc"
theorem bS{b:Addr}{c:IY}(B:L4 K mg cm)(d:mi mg)(a:cj P w K mg base cm "is_whole" 1 ["value"] M4 1)(F:L2.Fun K "is_number_of_hands" "is_number_of_hands" (top 15) b c):aE P w K mg base aW (2) b c ["value"] (ba K cm G6 1):=
 D5 F g8 λ_ _ _ _ _ _ e g f=>by
  exact(C4 (D4 (i9 (az a (by decide) e rfl (af (aj 0) ak)) (Y7 (sF mB nJ mB nJ (sT rfl d.g_FEWEST_HANDS) (aj 0) (sT rfl d.g_MOST_HANDS))))))
theorem Hg:C6 ["number","value"] ["number","value"] (B6 (top 16)):=by walk_at "sc"
theorem dy{b:Addr}{c:IY}(B:L4 K mg cm)(a:cj P w K mg base cm "is_hand" 2 ["number","value"] K4 2)(F:L2.Fun K "is_passing" "is_passing" (top 16) b c):aE P w K mg base aW (3) b c ["number","value"] (ba K cm L8 2):=
 D5 F Hg λ_ _ _ _ _ _ d e f=>by
  exact(C2 (V7 (PW.pt (Y3 (R5 (M0 (jm (t:=.tuple) B.kit (aj 1) rfl B.b_isinstance rfl B.b_tuple KR))) (T6 (aF (X0 e) j5 (j3 (aj 1) rfl B.b_len) au (aD _)))))
 (C4 (D4 y7))
 J0)
 (C4 (D4 (i9 (az a (by decide) d rfl (af (aj 0) (af (aN (aj 1) au (λ_ _=>rfl)) ak))) (i9 (az a (by decide) d rfl (af (aj 0) (af (aN (aj 1) au (λ_ _=>rfl)) ak))) (Y7 (W0 (X0 e) j5 (aN (aj 1) au (λ_ _=>rfl)) (aN (aj 1) au (λ_ _=>rfl)) (aD _))))))))
theorem sc_first_wrong_passing:C6 ["number","passings","at","passing"] ["number","passings"] (B6 (top 17)):=by walk_at "sc"
theorem bL{b:Addr}{c:IY}(B:L4 K mg cm)(a:cj P w K mg base cm "is_passing" 3 ["number","value"] L8 2)(F:L2.Fun K "first_wrong_passing" "first_wrong_passing" (top 17) b c):aE P w K mg base aW (4) b c ["number","passings"] (ba K cm G1 2):=
 D5 F sc_first_wrong_passing λ_ _ _ _ _ _ d e f=>by
  exact(C2 (gL JW rfl (sS rfl B.b_enumerate (aj 1)) (ib rfl (aS (aC (ay (i:=2) sc_first_wrong_passing.nd rfl (.inl rfl))) (aS (aC (ay (i:=3) sc_first_wrong_passing.nd rfl (.inl rfl))) cQ)))
 (C4 (V7 (PW.pt (Y3 (R5 (M0 (az a (by decide) d rfl (af (aj 0) (af (aj 3) ak))))) (T6 (aF (j8 e) ie (aj 3) (iG (aj 1) dB (cP (aj 2))) (by rfl)))))
 (C4 (D4 (aj 2)))
 J0)))
 (C4 (D4 zT)))
theorem Hh:C6 ["self","plan","free"] ["self","plan","free"] (B6 (C1 (top 29) 0)):=by walk_at "sc"
theorem dj{a:Addr}{b:IY}(B:L4 K mg cm)(F:eL K "__init__" "Ledger.__init__" (C1 (top 29) 0) a b #[.none]):aE P w K mg base aW (1) a b ["self","plan","free"] (ba K cm M5 3):=
 CS F Hh λ_ _ _ _ _ _ d e c=>by
  exact(C2 (t5 6 B (aj 0) (aj 1))
 (C2 (t5 7 B (aj 0) (Ac (zY (aj 2)) (bc ak) (nM (aj 2) rfl B.b_list LB)))
 (C2 (t5 11 B (aj 0) (tH (aO 7 B (aj 0)) rfl B.b_tuple KR))
 (C2 (t5 12 B (aj 0) au)
 (C2 (t5 13 B (aj 0) lO)
 (C2 (t5 14 B (aj 0) lO)
 (C4 (t5 15 B (aj 0) lO))))))))
theorem Hi:C6 ["numbers"] ["numbers"] (B6 (top 31)):=by walk_at "sc"
theorem dO{a:Addr}{b:IY}(B:L4 K mg cm)(F:L2.Fun K "is_rising" "is_rising" (top 31) a b):aE P w K mg base aW (1) a b ["numbers"] (ba K cm V3 1):=
 D5 F Hi λ_ _ _ _ _ _ d e c=>by
  exact(C4 (D4 (jn rfl (M3 (N:=["low","high"]) [none,none] rfl (⟨rfl,rfl,by decide +kernel,by decide +kernel,aB,(ag (λh=>nomatch h) (ag (λh=>nomatch h) (ag (λh=>nomatch h) aB)))⟩) (.own (.own .nil)) (ik (λ_ _=>nofun) rfl B.b_zip (aj 0) (iG (aj 0) (cP au) dB)) (λ_ _ _ _=>(ib rfl (aS (aC (ay (i:=0) (show Jv (["low","high"]:List Str)from by decide +kernel) rfl (by walk_at "o2"))) (aS (aC (ay (i:=1) (show Jv (["low","high"]:List Str)from by decide +kernel) rfl (by walk_at "o2"))) cQ)))) (λ_ _ _ _=>Q5) (λ_ _ _ _=>(W0 cz cB (aj 0) (aj 1) (aD _)))) rfl B.b_all)))
theorem Hj:C6 ["web","leaders"] ["web","leaders"] (B6 (top 32)):=by walk_at "sc"
theorem dm{c:Addr}{d:IY}(B:L4 K mg cm)(a:cj P w K mg base cm "is_rising" 1 ["numbers"] V3 1)(b:cj P w K mg base cm "is_hand" 2 ["number","value"] K4 2)(F:L2.Fun K "are_leaders" "are_leaders" (top 32) c d):aE P w K mg base aW (3) c d ["web","leaders"] (ba K cm Q1 2):=
 D5 F Hj λ_ _ _ _ _ _ e f g=>by
  exact(C2 (V7 (PW.pt (Y3 (R5 (M0 (jm (t:=.list) B.kit (aj 1) rfl B.b_isinstance rfl B.b_list LB))) (T6 (aF (O7 f) V0 (aj 1) (bc ak) (aD _)))))
 (C4 (D4 y7))
 J0)
 (C4 (D4 (i9 (jn rfl (M3 (N:=["h","web"]) [none,some 0] rfl (⟨rfl,rfl,by decide +kernel,by decide +kernel,(ag rfl aB),(ag (by walk_at "fb") (ag (by walk_at "fb") (ag (by walk_at "fb") (ag (by walk_at "fb") aB))))⟩) (.own (.free rfl (by walk_at "o2") (by walk_at "o3") rfl (by walk_at "o2") .nil)) (aU (aj 1)) (λ_ _ _ _=>(aC (ay (i:=0) (show Jv (["h","web"]:List Str)from by decide +kernel) rfl (by walk_at "o2")))) (λ_ _ _ _=>Q5) (λ_ _ _ _=>(az b (by decide) e rfl (af (aO 0 B (aj 1)) (af (aj 0) ak))))) rfl B.b_all) (Y7 (az a (by decide) e rfl (af (aj 1) ak)))))))
theorem Hk:C6 ["value"] ["value"] (B6 (top 33)):=by walk_at "sc"
theorem et{b:Addr}{c:IY}(B:L4 K mg cm)(a:cj P w K mg base cm "is_whole" 1 ["value"] M4 1)(F:L2.Fun K "is_limit" "is_limit" (top 33) b c):aE P w K mg base aW (2) b c ["value"] (ba K cm T9 1):=
 D5 F Hk λ_ _ _ _ _ _ d f e=>by
  exact(C4 (D4 (i9 (az a (by decide) d rfl (af (aj 0) ak)) (Y7 (W0 xU zU (aj 0) au (aD _))))))
theorem sc_Plan_init:C6 ["self","web","leaders","limits","kept","passing"] ["self","web","leaders","limits"] (B6 (C1 (top 34) 0)):=by walk_at "sc"
theorem dP{d:Addr}{e:IY}(B:L4 K mg cm)(a:cj P w K mg base cm "are_leaders" 3 ["web","leaders"] Q1 2)(b:cj P w K mg base cm "is_limit" 2 ["value"] T9 1)(F:L2.Fun K "__init__" "Plan.__init__" (C1 (top 34) 0) d e):aE P w K mg base aW (4) d e ["self","web","leaders","limits"] (ba K cm O9 4):=
 D5 F sc_Plan_init λ_ _ _ _ _ _ f g c=>by
  exact(C2 (V7 (R5 (M0 (az a (by decide) f rfl (af (aj 1) (af (aj 2) ak)))))
 (C4 lg)
 J0)
 (C2 (G9 (i:=4) sc_Plan_init.nd rfl (.inl rfl) lO)
 (C2 (gL JW rfl (aU (aO 1 B (aj 1))) (aC (ay (i:=5) sc_Plan_init.nd rfl (.inl rfl)))
 (C2 (V7 (R5 (M0 (az b (by decide) f rfl (af (Cc c (aj 3) (aj 5)) ak))))
 (C4 lg)
 J0)
 (C4 (ub c (aj 4) (aj 5) (lN c (aj 3) (aj 5) (λ_ _=>rfl))))))
 (C2 (t5 3 B (aj 0) (aj 1))
 (C2 (t5 4 B (aj 0) (nM (aj 2) rfl B.b_list LB))
 (C2 (t5 5 B (aj 0) (Cr (aj 4) rfl B.b_dict))
 (C2 (t5 9 B (aj 0) (tH (aj 2) rfl B.b_tuple KR))
 (C4 (t5 10 B (aj 0) (aj 4))))))))))
theorem sc_Web_init:C6 ["self","number","passings","wrong"] ["self","number","passings"] (B6 (C1 (top 18) 0)):=by walk_at "sc"
theorem eu{c:Addr}{d:IY}(B:L4 K mg cm)(b:cj P w K mg base cm "is_number_of_hands" 2 ["value"] G6 1)(a:cj P w K mg base cm "first_wrong_passing" 4 ["number","passings"] G1 2)(F:L2.Fun K "__init__" "Web.__init__" (C1 (top 18) 0) c d):aE P w K mg base aW (5) c d ["self","number","passings"] (ba K cm P0 3):=
 D5 F sc_Web_init λ_ _ _ _ _ _ e f g=>by
  exact(C2 (V7 (R5 (M0 (az b (by decide) e rfl (af (aj 1) ak))))
 (C4 lg)
 J0)
 (C2 (G9 (i:=3) sc_Web_init.nd rfl (.inl rfl) (az a (by decide) e rfl (af (aj 1) (af (aj 2) ak))))
 (C2 (V7 (zZ (aj 3))
 (C4 lg)
 J0)
 (C2 (t5 0 B (aj 0) (aj 1))
 (C4 (t5 1 B (aj 0) (tE f (aj 2) rfl B.b_sorted)))))))
theorem Hl:C6 ["self","h"] ["self","h"] (B6 (C1 (top 18) 2)):=by walk_at "sc"
theorem cJ{a:Addr}{b:IY}(B:L4 K mg cm)(F:L2.Fun K "takers_of" "Web.takers_of" (C1 (top 18) 2) a b):aE P w K mg base aW (1) a b ["self","h"] (ba K cm H8 2):=
 D5 F Hl λ_ _ _ _ _ _ e c d=>by
  exact(C4 (D4 (M3 (N:=["giver","taker","h"]) [none,none,some 1] rfl (⟨rfl,rfl,by decide +kernel,by decide +kernel,(ag rfl aB),(ag (λh=>nomatch h) (ag (λh=>nomatch h) (ag (λh=>nomatch h) (ag (λ_=>rfl) aB))))⟩) (.own (.own (.free rfl (by walk_at "o2") (by walk_at "o3") rfl (by walk_at "o2") .nil))) (aU (aO 1 B (aj 0))) (λ_ _ _ _=>(ib rfl (aS (aC (ay (i:=0) (show Jv (["giver","taker","h"]:List Str)from by decide +kernel) rfl (by walk_at "o2"))) (aS (aC (ay (i:=1) (show Jv (["giver","taker","h"]:List Str)from by decide +kernel) rfl (by walk_at "o2"))) cQ)))) (λ_ _ _ _=>(j9 (aF (O7 c) V0 (aj 0) (aj 2) (aD _)))) (λ_ _ _ _=>(aj 1)))))
theorem Hm:C6 ["web","leaders","chain"] ["web","leaders","chain"] (B6 (top 20)):=by walk_at "sc"
theorem ez{c:Addr}{d:IY}(B:L4 K mg cm)(a:cj P w K mg base cm "is_hand" 2 ["number","value"] K4 2)(F:L2.Fun K "is_chain" "is_chain" (top 20) c d):aE P w K mg base aW (3) c d ["web","leaders","chain"] (ba K cm U0 3):=
 D5 F Hm λ_ _ _ _ _ _ e b f=>by
  exact(C2 (V7 (PW.pt (Y3 (aF (O7 b) V0 (aj 2) (W2 ak) (aD _)) (T6 (aF (T7 b) X1 (aN (aj 2) dC (λ_ _=>rfl)) (aj 1) (by rfl)))))
 (C4 (D4 y7))
 J0)
 (C2 (V7 (PW.pt (Y3 (aF cz cB (Bv rfl (aj 2) rfl B.b_len rfl B.b_set) (j3 (aj 2) rfl B.b_len) (aD _)) (T6 (R5 (M0 (jn rfl (M3 (N:=["h","web"]) [none,some 0] rfl (⟨rfl,rfl,by decide +kernel,by decide +kernel,(ag rfl aB),(ag (by walk_at "fb") (ag (by walk_at "fb") (ag (by walk_at "fb") (ag (by walk_at "fb") aB))))⟩) (.own (.free rfl (by walk_at "o2") (by walk_at "o3") rfl (by walk_at "o2") .nil)) (aU (aj 2)) (λ_ _ _ _=>(aC (ay (i:=0) (show Jv (["h","web"]:List Str)from by decide +kernel) rfl (by walk_at "o2")))) (λ_ _ _ _=>Q5) (λ_ _ _ _=>(az a (by decide) e rfl (af (aO 0 B (aj 1)) (af (aj 0) ak))))) rfl B.b_all))))))
 (C4 (D4 y7))
 J0)
 (C4 (D4 (jn rfl (M3 (N:=["step","web"]) [none,some 0] rfl (⟨rfl,rfl,by decide +kernel,by decide +kernel,(ag rfl aB),(ag (λh=>nomatch h) (ag (λh=>nomatch h) (ag (λ_=>rfl) aB)))⟩) (.own (.free rfl (by walk_at "o2") (by walk_at "o3") rfl (by walk_at "o2") .nil)) (ik (λ_ _=>nofun) rfl B.b_zip (aj 2) (iG (aj 2) (cP au) dB)) (λ_ _ _ _=>(aC (ay (i:=0) (show Jv (["step","web"]:List Str)from by decide +kernel) rfl (by walk_at "o2")))) (λ_ _ _ _=>Q5) (λ_ _ _ _=>(W0 (j8 b) ie (aj 0) (aO 1 B (aj 1)) (by rfl)))) rfl B.b_all)))))
theorem Hn:C6 ["web","walk"] ["web","walk"] (B6 (top 21)):=by walk_at "sc"
theorem cW{b:Addr}{c:IY}(B:L4 K mg cm)(a:f9 P w K mg base cm 0 "takers_of" 1 ["self","h"] H8 2)(F:L2.Fun K "longer_walks" "longer_walks" (top 21) b c):aE P w K mg base aW (2) b c ["web","walk"] (ba K cm K9 2):=
 D5 F Hn λ_ _ _ _ _ _ d e f=>by
  exact(C4 (D4 (M3 (N:=["taker","walk"]) [none,some 1] rfl (⟨rfl,rfl,by decide +kernel,by decide +kernel,(ag rfl aB),(ag (λh=>nomatch h) (ag (λh=>nomatch h) (ag (λ_=>rfl) aB)))⟩) (.own (.free rfl (by walk_at "o2") (by walk_at "o3") rfl (by walk_at "o2") .nil)) (aU (aZ a (by decide) d (B.cls _ (by decide)) (aj 0) (af (aN (aj 1) dC (λ_ _=>rfl)) ak) (by decide +kernel))) (λ_ _ _ _=>(aC (ay (i:=0) (show Jv (["taker","walk"]:List Str)from by decide +kernel) rfl (by walk_at "o2")))) (λ_ _ _ _=>(j9 (aF (T7 e) X1 (aj 0) (aj 1) (by rfl)))) (λ_ _ _ _=>(D6 L0 N9 (aj 1) (W2 (af (aj 0) ak)))))))
theorem sc_chains_from:C6 ["web","leaders","x","chains","walks","walk"] ["web","leaders","x"] (B6 (top 22)):=by walk_at "sc"
theorem dn{b:Addr}{c:IY}(B:L4 K mg cm)(a:cj P w K mg base cm "longer_walks" 2 ["web","walk"] K9 2)(F:L2.Fun K "chains_from" "chains_from" (top 22) b c):aE P w K mg base aW (3) b c ["web","leaders","x"] (ba K cm N6 3):=
 D5 F sc_chains_from λ_ _ _ _ _ _ e d f=>by
  refine@C2 _ _ _ _ _ _ ?_ ?_;exact(G9 (i:=3) sc_chains_from.nd rfl (.inl rfl) (bc ak));refine@C2 _ _ _ _ _ _ ?_ ?_;refine@G9 _ _ 4 _ _ _ _ _ ?_ ?_ ?_ ?_ ?_ ?_;exact sc_chains_from.nd;exact rfl;exact(.inl rfl);refine@bc _ _ _ _ _ ?_;refine@af _ _ _ _ _ _ ?_ ?_ (by exact E9 rfl);refine@W2 _ _ _ _ _ _ ?_;refine@af _ _ _ _ _ _ ?_ ?_ (by exact E9 rfl);exact(aj 2);exact ak;exact ak;rfl;first | exact .inl rfl | exact .inr rfl
  exact(C2 (nT JW (aF (X0 d) j5 (aj 4) (bc ak) (aD _))
 (C2 (G9 (i:=5) sc_chains_from.nd rfl (.inl rfl) (Be (aj 4) au))
 (C2 (V7 (aF (j8 d) ie (aN (aj 5) dC (λ_ _=>rfl)) (aj 1) (by rfl))
 (C4 (j4 (nN (aj 3) (aj 5))))
 J0)
 (C4 (j4 (Bh (aj 4) (az a (by decide) e rfl (af (aj 0) (af (aj 5) ak)))))))))
 (C4 (D4 (aj 3))))
theorem Ho:C6 ["web","value"] ["web","value"] (B6 (top 26)):=by walk_at "sc"
theorem fH{b:Addr}{c:IY}(B:L4 K mg cm)(a:cj P w K mg base cm "is_passing" 3 ["number","value"] L8 2)(F:L2.Fun K "is_box" "is_box" (top 26) b c):aE P w K mg base aW (4) b c ["web","value"] (ba K cm Z9 2):=
 D5 F Ho λ_ _ _ _ _ _ d e f=>by
  exact(C4 (D4 (i9 (az a (by decide) d rfl (af (aO 0 B (aj 0)) (af (aj 1) ak))) (Y7 (W0 (j8 e) ie (aj 1) (aO 1 B (aj 0)) (by rfl))))))
theorem Hq:C6 ["plan","value"] ["plan","value"] (B6 (top 27)):=by walk_at "sc"
theorem dq{c:Addr}{d:IY}(B:L4 K mg cm)(b:cj P w K mg base cm "is_hand" 2 ["number","value"] K4 2)(a:cj P w K mg base cm "is_chain" 3 ["web","leaders","chain"] U0 3)(F:L2.Fun K "is_chain_of" "is_chain_of" (top 27) c d):aE P w K mg base aW (4) c d ["plan","value"] (ba K cm N7 2):=
 D5 F Hq λ_ _ _ _ _ _ e g f=>by
  exact(C2 (V7 (PW.pt (Y3 (R5 (M0 (jm (t:=.tuple) B.kit (aj 1) rfl B.b_isinstance rfl B.b_tuple KR))) (T6 (R5 (M0 (jn rfl (M3 (N:=["h","plan"]) [none,some 0] rfl (⟨rfl,rfl,by decide +kernel,by decide +kernel,(ag rfl aB),(ag (by walk_at "fb") (ag (by walk_at "fb") (ag (by walk_at "fb") (ag (by walk_at "fb") aB))))⟩) (.own (.free rfl (by walk_at "o2") (by walk_at "o3") rfl (by walk_at "o2") .nil)) (aU (aj 1)) (λ_ _ _ _=>(aC (ay (i:=0) (show Jv (["h","plan"]:List Str)from by decide +kernel) rfl (by walk_at "o2")))) (λ_ _ _ _=>Q5) (λ_ _ _ _=>(az b (by decide) e rfl (af (aO 0 B (aO 3 B (aj 1))) (af (aj 0) ak))))) rfl B.b_all))))))
 (C4 (D4 y7))
 J0)
 (C4 (D4 (az a (by decide) e rfl (af (aO 3 B (aj 0)) (af (aO 9 B (aj 0)) (af (aj 1) ak)))))))
theorem Hr:C6 ["plan","value"] ["plan","value"] (B6 (top 28)):=by walk_at "sc"
theorem eV{d:Addr}{e:IY}(B:L4 K mg cm)(f:mi mg)(b:cj P w K mg base cm "is_box" 4 ["web","value"] Z9 2)(a:cj P w K mg base cm "is_chain_of" 4 ["plan","value"] N7 2)(F:L2.Fun K "is_deed" "is_deed" (top 28) d e):aE P w K mg base aW (5) d e ["plan","value"] (ba K cm Q8 2):=
 D5 F Hr λ_ _ _ _ _ _ g c h=>by
  exact(C2 (V7 (PW.pt (Y3 (R5 (M0 (jm (t:=.tuple) B.kit (aj 1) rfl B.b_isinstance rfl B.b_tuple KR))) (Y3 (aF cz cB (j3 (aj 1) rfl B.b_len) au (aD _)) (T6 (R5 (M0 (az b (by decide) g rfl (af (aO 3 B (aj 0)) (af (aN (aj 1) au (λ_ _=>rfl)) ak)))))))))
 (C4 (D4 y7))
 J0)
 (C2 (V7 (aF (O7 c) V0 (j3 (aj 1) rfl B.b_len) au (aD _))
 (C4 (D4 (W0 (O7 c) V0 (aN (aj 1) au (λ_ _=>rfl)) (pa rfl f.g_LAY) (aD _))))
 J0)
 (C2 (V7 (PW.pt (Y3 (aF (X0 c) j5 (j3 (aj 1) rfl B.b_len) au (aD _)) (T6 (aF (X0 c) j5 (aN (aj 1) au (λ_ _=>rfl)) (pa rfl f.g_SAY) (aD _)))))
 (C4 (D4 y7))
 J0)
 (C4 (D4 (i9 (az a (by decide) g rfl (af (aj 0) (af (aN (aj 1) au (λ_ _=>rfl)) ak))) (Y7 (W0 (O7 c) V0 (aN (aN (aj 1) au (λ_ _=>rfl)) au (λ_ _=>rfl)) (aN (aN (aj 1) au (λ_ _=>rfl)) au (λ_ _=>rfl)) (aD _)))))))))
theorem Hs:C6 ["self"] ["self"] (B6 (C1 (top 29) 2)):=by walk_at "sc"
theorem dr{a:Addr}{b:IY}(B:L4 K mg cm)(F:L2.Fun K "move" "Ledger.move" (C1 (top 29) 2) a b):aE P w K mg base aW (1) a b ["self"] (ba K cm N8 1):=
 D5 F Hs λ_ _ _ _ _ _ d e c=>by
  exact(C4 (t5 12 B (aj 0) (D6 L0 N9 (aO 12 B (aj 0)) au)))
theorem t9:C6 ["self","deed"] ["self","deed"] (B6 (C1 (top 29) 4)):=by walk_at "sc"
theorem cb{c:Addr}{d:IY}(B:L4 K mg cm)(a:iK P w K mg base cm 13 "Laid" 1)(F:L2.Fun K "take_lay" "Ledger.take_lay" (C1 (top 29) 4) c d):aE P w K mg base (ft P w) 3 c d ["self","deed"] (gM K cm J8 2):=
 pd F t9 λ_ _ _ _ _ _ e f b=>
  (V2 (jr (Cb b (aN (aj 1) au (λ_ _=>rfl)) (aO 13 B (aj 0)))
 (U5 (l4 t0 rfl a (by decide) e rfl (af (aj 1) ak)))
 (jZ J0))
 (U5 (jY (ub b (aO 13 B (aj 0)) (aN (aj 1) au (λ_ _=>rfl)) (aO 12 B (aj 0))))))
theorem Ht:C6 ["self","passing"] ["self","passing"] (B6 (C1 (top 34) 1)):=by walk_at "sc"
theorem dz{b:Addr}{c:IY}(B:L4 K mg cm)(F:L2.Fun K "limit" "Plan.limit" (C1 (top 34) 1) b c):aE P w K mg base aW (1) b c ["self","passing"] (ba K cm R7 2):=
 D5 F Ht λ_ _ _ _ _ _ d e a=>by
  exact(C4 (D4 (lN a (aO 10 B (aj 0)) (aj 1) (λ_ _=>rfl))))
theorem Hu:C6 ["self","passing","chain"] ["self","passing","chain"] (B6 (C1 (top 29) 8)):=by walk_at "sc"
theorem cD{b:Addr}{c:IY}(B:L4 K mg cm)(a:f9 P w K mg base cm 1 "limit" 1 ["self","passing"] R7 2)(F:L2.Fun K "is_late" "Ledger.is_late" (C1 (top 29) 8) b c):aE P w K mg base aW (2) b c ["self","passing","chain"] (ba K cm K5 3):=
 D5 F Hu λ_ _ _ _ _ _ d f e=>by
  exact(C4 (D4 (W0 mD nK (aO 12 B (aj 0)) (D6 L0 N9 (aZ a (by decide) d (B.cls _ (by decide)) (aO 6 B (aj 0)) (af (aj 1) ak) (by decide +kernel)) (j3 (aj 2) rfl B.b_len)) (aD _))))
theorem b6:C6 ["self","passing"] ["self","passing"] (B6 (C1 (top 29) 7)):=by walk_at "sc"
theorem bE{b:Addr}{c:IY}(B:L4 K mg cm)(F:L2.Fun K "is_laid_ahead" "Ledger.is_laid_ahead" (C1 (top 29) 7) b c):aE P w K mg base aW (1) b c ["self","passing"] (ba K cm E5 2):=
 D5 F b6 λ_ _ _ _ _ _ d e a=>by
  exact(C4 (D4 (i9 (ua a (aj 1) (aO 13 B (aj 0))) (Y7 (W0 cz cB (lN a (aO 13 B (aj 0)) (aj 1) (λ_ _=>rfl)) (aO 12 B (aj 0)) (aD _))))))
theorem b7:C6 ["self","chain"] ["self","chain"] (B6 (C1 (top 29) 10)):=by walk_at "sc"
theorem bF{b:Addr}{c:IY}(B:L4 K mg cm)(F:L2.Fun K "is_said_ahead" "Ledger.is_said_ahead" (C1 (top 29) 10) b c):aE P w K mg base aW (1) b c ["self","chain"] (ba K cm E6 2):=
 D5 F b7 λ_ _ _ _ _ _ d e a=>by
  exact(C4 (D4 (i9 (ua a (aj 1) (aO 15 B (aj 0))) (Y7 (W0 cz cB (lN a (aO 15 B (aj 0)) (aj 1) (λ_ _=>rfl)) (aO 12 B (aj 0)) (aD _))))))
theorem sc_Ledger_is_sayable:C6 ["self","chain","left"] ["self","chain"] (B6 (C1 (top 29) 9)):=by walk_at "sc"
theorem bX{c:Addr}{d:IY}(B:L4 K mg cm)(a:f9 P w K mg base cm 2 "is_said_ahead" 1 ["self","chain"] E6 2)(F:L2.Fun K "is_sayable" "Ledger.is_sayable" (C1 (top 29) 9) c d):aE P w K mg base aW (2) c d ["self","chain"] (ba K cm D7 2):=
 D5 F sc_Ledger_is_sayable λ_ _ _ _ _ _ e b f=>by
  exact(C2 (G9 (i:=2) sc_Ledger_is_sayable.nd rfl (.inl rfl) (iG (aj 1) (cP au) dB))
 (C2 (nT JW (PW.pt (jl (aF (X0 b) j5 (aj 2) (W2 ak) (aD _)) (bY (aF (j8 b) ie (aN (aj 2) au (λ_ _=>rfl)) (aO 11 B (aj 0)) (by rfl)))))
 (C4 (G9 (i:=2) sc_Ledger_is_sayable.nd rfl (.inl rfl) (iG (aj 2) (cP au) dB))))
 (C4 (D4 (Aa (W0 (O7 b) V0 (aj 2) (W2 ak) (aD _)) (z6 (aZ a (by decide) e (B.cls _ (by decide)) (aj 0) (af (aj 2) ak) (by decide +kernel))))))))
theorem sc_Ledger_take_say:C6 ["self","deed","passing","chain"] ["self","deed"] (B6 (C1 (top 29) 5)):=by walk_at "sc"
theorem cc{j:Addr}{k:IY}(B:L4 K mg cm)(a:f9 P w K mg base cm 2 "is_laid_ahead" 1 ["self","passing"] E5 2)(d:iK P w K mg base cm 14 "NotLaid" 1)(c:f9 P w K mg base cm 2 "is_late" 2 ["self","passing","chain"] K5 3)(f:iK P w K mg base cm 15 "Late" 1)(b:f9 P w K mg base cm 2 "is_sayable" 2 ["self","chain"] D7 2)(e:iK P w K mg base cm 16 "Unknown" 1)(F:L2.Fun K "take_say" "Ledger.take_say" (C1 (top 29) 5) j k):aE P w K mg base (ft P w) 3 j k ["self","deed"] (gM K cm J9 2):=
 pd F sc_Ledger_take_say λ_ _ _ _ _ _ g l h=>
  (V2 (jY (G9 (i:=2) sc_Ledger_take_say.nd rfl (.inl rfl) (aN (aj 1) au (λ_ _=>rfl))))
 (V2 (jY (G9 (i:=3) sc_Ledger_take_say.nd rfl (.inl rfl) (aN (aj 1) au (λ_ _=>rfl))))
 (V2 (jr (R5 (M0 (aZ a (by decide) g (B.cls _ (by decide)) (aj 0) (af (aj 2) ak) (by decide +kernel))))
 (U5 (l4 t0 rfl d (by decide) g rfl (af (aj 1) ak)))
 (jZ J0))
 (V2 (jr (M0 (aZ c (by decide) g (B.cls _ (by decide)) (aj 0) (af (aj 2) (af (aj 3) ak)) (by decide +kernel)))
 (U5 (l4 t0 rfl f (by decide) g rfl (af (aj 1) ak)))
 (jZ J0))
 (V2 (jr (R5 (M0 (aZ b (by decide) g (B.cls _ (by decide)) (aj 0) (af (aj 3) ak) (by decide +kernel))))
 (U5 (l4 t0 rfl e (by decide) g rfl (af (aj 1) ak)))
 (jZ J0))
 (V2 (jY (j4 (nN (ui h (aO 14 B (aj 0)) (aj 2) (bc ak)) (W2 (af (aO 12 B (aj 0)) (af (aj 3) ak))))))
 (U5 (jY (j4 (ui h (aO 15 B (aj 0)) (aj 3) (aO 12 B (aj 0))))))))))))
theorem Hv:C6 ["self","deed"] ["self","deed"] (B6 (C1 (top 29) 3)):=by walk_at "sc"
theorem cX{f:Addr}{g:IY}(B:L4 K mg cm)(h:mi mg)(c:cj P w K mg base cm "is_deed" 5 ["plan","value"] Q8 2)(d:iK P w K mg base cm 12 "NoDeed" 1)(a:ka P w K mg base cm 2 "take_lay" 3 ["self","deed"] J8 2)(b:ka P w K mg base cm 2 "take_say" 3 ["self","deed"] J9 2)(F:L2.Fun K "take" "Ledger.take" (C1 (top 29) 3) f g):aE P w K mg base (ft P w) 6 f g ["self","deed"] (gM K cm J4 2):=
 pd F Hv λ_ _ _ _ _ _ e i j=>
  (V2 (jr (R5 (M0 (az c (by decide) e rfl (af (aO 6 B (aj 0)) (af (aj 1) ak)))))
 (U5 (l4 t0 rfl d (by decide) e rfl (af (aj 1) ak)))
 (jZ J0))
 (U5 (jr (aF (O7 i) V0 (aN (aj 1) au (λ_ _=>rfl)) (pa rfl h.g_LAY) (aD _))
 (U5 (tT t0 (oX a (by decide) e (B.cls _ (by decide)) (aj 0) (af (aj 1) ak) (by decide +kernel))))
 (U5 (tT t0 (oX b (by decide) e (B.cls _ (by decide)) (aj 0) (af (aj 1) ak) (by decide +kernel)))))))
theorem Hw:C6 ["self","passing"] ["self","passing"] (B6 (C1 (top 29) 14)):=by walk_at "sc"
theorem dt{b:Addr}{c:IY}(B:L4 K mg cm)(F:L2.Fun K "said" "Ledger.said" (C1 (top 29) 14) b c):aE P w K mg base aW (1) b c ["self","passing"] (ba K cm K3 2):=
 D5 F Hw λ_ _ _ _ _ _ d e a=>by
  exact(C4 (D4 (nM (Cd a (aO 14 B (aj 0)) (aj 1) (bc ak)) rfl B.b_list LB)))
theorem sc_Ledger_has_all_words:C6 ["self","passing","words"] ["self","passing"] (B6 (C1 (top 29) 11)):=by walk_at "sc"
theorem bG{b:Addr}{c:IY}(B:L4 K mg cm)(a:f9 P w K mg base cm 2 "said" 1 ["self","passing"] K3 2)(F:L2.Fun K "has_all_words" "Ledger.has_all_words" (C1 (top 29) 11) b c):aE P w K mg base aW (2) b c ["self","passing"] (ba K cm E7 2):=
 D5 F sc_Ledger_has_all_words λ_ _ _ _ _ _ d e f=>by
  exact(C2 (G9 (i:=2) sc_Ledger_has_all_words.nd rfl (.inr rfl) (M3 (N:=["turn","chain"]) [none,none] rfl (⟨rfl,rfl,by decide +kernel,by decide +kernel,aB,(ag (λh=>nomatch h) (ag (λh=>nomatch h) (ag (λh=>nomatch h) aB)))⟩) (.own (.own .nil)) (aU (aZ a (by decide) d (B.cls _ (by decide)) (aj 0) (af (aj 1) ak) (by decide +kernel))) (λ_ _ _ _=>(ib rfl (aS (aC (ay (i:=0) (show Jv (["turn","chain"]:List Str)from by decide +kernel) rfl (by walk_at "o2"))) (aS (aC (ay (i:=1) (show Jv (["turn","chain"]:List Str)from by decide +kernel) rfl (by walk_at "o2"))) cQ)))) (λ_ _ _ _=>Q5) (λ_ _ _ _=>(aN (aj 1) dC (λ_ _=>rfl)))))
 (C4 (D4 (jn rfl (M3 (N:=["leader","words"]) [none,some 2] rfl (⟨rfl,rfl,by decide +kernel,by decide +kernel,(ag rfl aB),(ag (λh=>nomatch h) (ag (λh=>nomatch h) (ag (λ_=>rfl) aB)))⟩) (.own (.free rfl (by walk_at "o2") (by walk_at "o3") rfl (by walk_at "o2") .nil)) (aU (aO 9 B (aO 6 B (aj 0)))) (λ_ _ _ _=>(aC (ay (i:=0) (show Jv (["leader","words"]:List Str)from by decide +kernel) rfl (by walk_at "o2")))) (λ_ _ _ _=>Q5) (λ_ _ _ _=>(W0 (j8 e) ie (aj 0) (aj 1) (by rfl)))) rfl B.b_all))))
theorem Hx:C6 ["self"] ["self"] (B6 (C1 (top 29) 12)):=by walk_at "sc"
theorem du{a:Addr}{b:IY}(B:L4 K mg cm)(F:L2.Fun K "laid" "Ledger.laid" (C1 (top 29) 12) a b):aE P w K mg base aW (1) a b ["self"] (ba K cm J5 1):=
 D5 F Hx λ_ _ _ _ _ _ d e c=>by
  exact(C4 (D4 (CC rfl (aO 13 B (aj 0)) rfl B.b_sorted)))
theorem Hy:C6 ["self"] ["self"] (B6 (C1 (top 29) 13)):=by walk_at "sc"
theorem cK{c:Addr}{d:IY}(B:L4 K mg cm)(a:f9 P w K mg base cm 2 "has_all_words" 2 ["self","passing"] E7 2)(b:f9 P w K mg base cm 2 "laid" 1 ["self"] J5 1)(F:L2.Fun K "opened" "Ledger.opened" (C1 (top 29) 13) c d):aE P w K mg base aW (3) c d ["self"] (ba K cm K1 1):=
 D5 F Hy λ_ _ _ _ _ _ e g f=>by
  exact(C4 (D4 (M3 (N:=["passing","self"]) [none,some 0] rfl (⟨rfl,rfl,by decide +kernel,by decide +kernel,(ag rfl aB),(ag (λh=>nomatch h) (ag (λh=>nomatch h) (ag (λ_=>rfl) aB)))⟩) (.own (.free rfl (by walk_at "o2") (by walk_at "o3") rfl (by walk_at "o2") .nil)) (aU (cC b (by decide) e (B.cls _ (by decide)) (aj 0) (by decide +kernel))) (λ_ _ _ _=>(aC (ay (i:=0) (show Jv (["passing","self"]:List Str)from by decide +kernel) rfl (by walk_at "o2")))) (λ_ _ _ _=>(j9 (M0 (aZ a (by decide) e (B.cls _ (by decide)) (aj 1) (af (aj 0) ak) (by decide +kernel))))) (λ_ _ _ _=>(aj 0)))))
theorem sc_Ledger_can_say:C6 ["self","h","chains"] ["self","h"] (B6 (C1 (top 29) 15)):=by walk_at "sc"
theorem cE{c:Addr}{d:IY}(B:L4 K mg cm)(b:cj P w K mg base cm "chains_from" 3 ["web","leaders","x"] N6 3)(a:f9 P w K mg base cm 2 "is_sayable" 2 ["self","chain"] D7 2)(F:L2.Fun K "can_say" "Ledger.can_say" (C1 (top 29) 15) c d):aE P w K mg base aW (4) c d ["self","h"] (ba K cm K6 2):=
 D5 F sc_Ledger_can_say λ_ _ _ _ _ _ e g f=>by
  exact(C2 (G9 (i:=2) sc_Ledger_can_say.nd rfl (.inl rfl) (az b (by decide) e rfl (af (aO 3 B (aO 6 B (aj 0))) (af (aO 9 B (aO 6 B (aj 0))) (af (aj 1) ak)))))
 (C4 (D4 (M3 (N:=["chain","self"]) [none,some 0] rfl (⟨rfl,rfl,by decide +kernel,by decide +kernel,(ag rfl aB),(ag (λh=>nomatch h) (ag (λh=>nomatch h) (ag (λ_=>rfl) aB)))⟩) (.own (.free rfl (by walk_at "o2") (by walk_at "o3") rfl (by walk_at "o2") .nil)) (aU (aj 2)) (λ_ _ _ _=>(aC (ay (i:=0) (show Jv (["chain","self"]:List Str)from by decide +kernel) rfl (by walk_at "o2")))) (λ_ _ _ _=>(j9 (M0 (aZ a (by decide) e (B.cls _ (by decide)) (aj 1) (af (aj 0) ak) (by decide +kernel))))) (λ_ _ _ _=>(aj 0))))))
theorem Hz:C6 ["_law_script","_law_k"] ["_law_script","_law_k"] (B6 (top 36)):=by walk_at "sc"
theorem dv{a:Addr}{b:IY}(B:L4 K mg cm)(F:L2.Fun K "_law_cell_at" "_law_cell_at" (top 36) a b):aE P w K mg base aW (1) a b ["_law_script","_law_k"] (ba K cm M6 2):=
 D5 F Hz λ_ _ _ _ _ _ d e c=>by
  exact(C2 (V7 (aF cz cB (aj 1) (j3 (aj 0) rfl B.b_len) (aD _))
 (C4 (D4 (aN (aj 0) (aj 1) (λ_ _=>rfl))))
 J0)
 (C4 (D4 au)))
theorem sc_law_mixed:C6 ["_law_cell","_law_k","_law_number"] ["_law_cell","_law_k"] (B6 (top 37)):=by walk_at "sc"
theorem dQ{a:Addr}{b:IY}(B:L4 K mg cm)(F:L2.Fun K "_law_mixed" "_law_mixed" (top 37) a b):aE P w K mg base aW (1) a b ["_law_cell","_law_k"] (ba K cm G0 2):=
 D5 F sc_law_mixed λ_ _ _ _ _ _ e c d=>by
  exact(C2 (V7 (PW.pt (jl (aF mD nK (aj 0) (D6 xQ Ca au au) (aD _)) (bY (aF (O7 c) V0 (D6 T2 T5 (aj 0) au) au (aD _)))))
 (C4 (D4 (D6 qW ud (D6 qV uc (aj 0) (D6 L0 N9 au (D6 iZ jk au (aj 1)))) au)))
 J0)
 (C2 (G9 (i:=2) sc_law_mixed.nd rfl (.inl rfl) (D6 T2 T5 (D6 iZ jk (D6 L0 N9 (D6 L0 N9 (aj 0) (D6 iZ jk au (aj 1))) au) au) au))
 (C2 (G9 (i:=2) sc_law_mixed.nd rfl (.inl rfl) (D6 T2 T5 (D6 iZ jk (aj 2) (D6 L0 N9 (D6 u7 z0 (aj 2) au) au)) au))
 (C4 (D4 (D6 T2 T5 (D6 iZ jk (aj 2) (D6 L0 N9 (D6 u7 z0 (aj 2) au) au)) au))))))
theorem sc_law_passings:C6 ["_law_cell","_law_many","_law_order","_law_ring","_law_found","_law_giver","_law_taker","_law_x"] ["_law_cell","_law_many"] (B6 (top 38)):=by walk_at "sc"
theorem cY{c:Addr}{d:IY}(B:L4 K mg cm)(a:cj P w K mg base cm "_law_mixed" 1 ["_law_cell","_law_k"] G0 2)(F:L2.Fun K "_law_passings" "_law_passings" (top 38) c d):aE P w K mg base aW (2) c d ["_law_cell","_law_many"] (ba K cm M9 2):=
 D5 F sc_law_passings λ_ _ _ _ _ _ e b f=>by
  exact(C2 (G9 (i:=2) sc_law_passings.nd rfl (.inr rfl) (tE b (M3 (N:=["_law_hand","_law_cell"]) [none,some 0] rfl (⟨rfl,rfl,by decide +kernel,by decide +kernel,(ag rfl aB),(ag (by walk_at "fb") (ag (by walk_at "fb") (ag (by walk_at "fb") (ag (by walk_at "fb") aB))))⟩) (.own (.free rfl (by walk_at "o2") (by walk_at "o3") rfl (by walk_at "o2") .nil)) (dc rfl B.b_range (aj 1)) (λ_ _ _ _=>(aC (ay (i:=0) (show Jv (["_law_hand","_law_cell"]:List Str)from by decide +kernel) rfl (by walk_at "o2")))) (λ_ _ _ _=>Q5) (λ_ _ _ _=>(W2 (af (az a (by decide) e rfl (af (aj 1) (af (D6 L0 N9 au (aj 0)) ak))) (af (aj 0) ak))))) rfl B.b_sorted))
 (C2 (sZ (N:=["_law_k","_law_order"]) [none,some 2] rfl (⟨rfl,rfl,by decide +kernel,by decide +kernel,(ag rfl aB),(ag (λh=>nomatch h) (ag (λh=>nomatch h) (ag (λ_=>rfl) aB)))⟩) (.own (.free rfl (by walk_at "o2") (by walk_at "o3") rfl (by walk_at "o2") .nil)) (dc rfl B.b_range (aj 1)) (λ_ _ _ _=>(aC (ay (i:=0) (show Jv (["_law_k","_law_order"]:List Str)from by decide +kernel) rfl (by walk_at "o2")))) (λ_ _ _ _=>Q5) (λ_ _ _ _=>(W2 (af (aN (aN (aj 1) (D6 qU sA (aj 0) au) (λ_ _=>rfl)) au (λ_ _=>rfl)) (af (aN (aN (aj 1) (aj 0) (λ_ _=>rfl)) au (λ_ _=>rfl)) ak)))) (i:=3) sc_law_passings.nd rfl (.inl rfl))
 (C2 (G9 (i:=4) sc_law_passings.nd rfl (.inl rfl) (bc ak))
 (C2 (gL JW rfl (dc rfl B.b_range (aj 1)) (aC (ay (i:=5) sc_law_passings.nd rfl (.inl rfl)))
 (C4 (gL JW rfl (dc rfl B.b_range (aj 1)) (aC (ay (i:=6) sc_law_passings.nd rfl (.inl rfl)))
 (C2 (G9 (i:=7) sc_law_passings.nd rfl (.inl rfl) (az a (by decide) e rfl (af (aj 0) (af (D6 L0 N9 (D6 L0 N9 au (D6 iZ jk au (aj 5))) (aj 6)) ak))))
 (C4 (V7 (PW.pt (jl (aF (X0 b) j5 (aj 5) (aj 6) (aD _)) (bY (PW.pt (Y3 (aF (j8 b) ie (W2 (af (aj 5) (af (aj 6) ak))) (aj 3) (by rfl)) (T6 (aF (O7 b) V0 (D6 T2 T5 (aj 7) au) au (aD _))))))))
 (C4 (j4 (nN (aj 4) (W2 (af (aj 5) (af (aj 6) ak))))))
 J0))))))
 (C4 (D4 (aj 4)))))))
theorem HA:C6 ["_law_cell","_law_many"] ["_law_cell","_law_many"] (B6 (top 39)):=by walk_at "sc"
theorem eA{a:Addr}{b:IY}(B:L4 K mg cm)(F:L2.Fun K "_law_some" "_law_some" (top 39) a b):aE P w K mg base aW (1) a b ["_law_cell","_law_many"] (ba K cm Q6 2):=
 D5 F HA λ_ _ _ _ _ _ e c d=>by
  exact(C4 (D4 (M3 (N:=["_law_hand","_law_cell"]) [none,some 0] rfl (⟨rfl,rfl,by decide +kernel,by decide +kernel,(ag rfl aB),(ag (λh=>nomatch h) (ag (λh=>nomatch h) (ag (λ_=>rfl) aB)))⟩) (.own (.free rfl (by walk_at "o2") (by walk_at "o3") rfl (by walk_at "o2") .nil)) (dc rfl B.b_range (aj 1)) (λ_ _ _ _=>(aC (ay (i:=0) (show Jv (["_law_hand","_law_cell"]:List Str)from by decide +kernel) rfl (by walk_at "o2")))) (λ_ _ _ _=>(j9 (aF (O7 c) V0 (D6 qW ud (D6 qV uc (aj 1) (aj 0)) au) au (aD _)))) (λ_ _ _ _=>(aj 0)))))
theorem sc_law_ways:C6 ["_law_passings_here","_law_ways_here","_law_found","_law_more","_law_way"] ["_law_passings_here","_law_ways_here"] (B6 (top 40)):=by walk_at "sc"
theorem eB{b:Addr}{c:IY}(B:L4 K mg cm)(F:L2.Fun K "_law_ways" "_law_ways" (top 40) b c):aE P w K mg base aW (1) b c ["_law_passings_here","_law_ways_here"] (ba K cm U2 2):=
 D5 F sc_law_ways λ_ _ _ _ _ _ e a d=>by
  exact(C2 (G9 (i:=2) sc_law_ways.nd rfl (.inl rfl) (bc ak))
 (C2 (nT JW (aF (X0 a) j5 (aj 1) (bc ak) (aD _))
 (C2 (G9 (i:=2) sc_law_ways.nd rfl (.inl rfl) (D6 L0 N9 (aj 2) (aj 1)))
 (C2 (G9 (i:=3) sc_law_ways.nd rfl (.inl rfl) (bc ak))
 (C2 (gL JW rfl (aU (aj 1)) (aC (ay (i:=4) sc_law_ways.nd rfl (.inr rfl)))
 (C4 (G9 (i:=3) sc_law_ways.nd rfl (.inl rfl) (D6 L0 N9 (aj 3) (M3 (N:=["_law_giver","_law_taker","_law_way"]) [none,none,some 4] rfl (⟨rfl,rfl,by decide +kernel,by decide +kernel,(ag rfl aB),(ag (λh=>nomatch h) (ag (λh=>nomatch h) (ag (λh=>nomatch h) (ag (λ_=>rfl) aB))))⟩) (.own (.own (.free rfl (by walk_at "o2") (by walk_at "o3") rfl (by walk_at "o2") .nil))) (aU (aj 0)) (λ_ _ _ _=>(ib rfl (aS (aC (ay (i:=0) (show Jv (["_law_giver","_law_taker","_law_way"]:List Str)from by decide +kernel) rfl (by walk_at "o2"))) (aS (aC (ay (i:=1) (show Jv (["_law_giver","_law_taker","_law_way"]:List Str)from by decide +kernel) rfl (by walk_at "o2"))) cQ)))) (λ_ _ _ _=>(j9 (PW.pt (jl (aF (O7 a) V0 (aj 0) (aN (aj 2) dC (λ_ _=>rfl)) (aD _)) (bY (aF (T7 a) X1 (aj 1) (aj 2) (by rfl))))))) (λ_ _ _ _=>(D6 L0 N9 (aj 2) (W2 (af (aj 1) ak)))))))))
 (C4 (G9 (i:=1) sc_law_ways.nd rfl (.inl rfl) (aj 3)))))))
 (C4 (D4 (aj 2)))))
theorem HB:C6 ["_law_passings_here","_law_leaders","_law_hand"] ["_law_passings_here","_law_leaders","_law_hand"] (B6 (top 41)):=by walk_at "sc"
theorem dA{b:Addr}{c:IY}(B:L4 K mg cm)(a:cj P w K mg base cm "_law_ways" 1 ["_law_passings_here","_law_ways_here"] U2 2)(F:L2.Fun K "_law_chains" "_law_chains" (top 41) b c):aE P w K mg base aW (2) b c ["_law_passings_here","_law_leaders","_law_hand"] (ba K cm P1 3):=
 D5 F HB λ_ _ _ _ _ _ d e f=>by
  refine@C4 _ _ _ _ ?_;refine@D4 _ _ _ _ _ ?_;exact(M3 (N:=["_law_way","_law_leaders"]) [none,some 1] rfl (⟨rfl,rfl,by decide +kernel,by decide +kernel,(ag rfl aB),(ag (λh=>nomatch h) (ag (λh=>nomatch h) (ag (λ_=>rfl) aB)))⟩) (.own (.free rfl (by walk_at "o2") (by walk_at "o3") rfl (by walk_at "o2") .nil)) (aU (az a (by decide) d rfl (af (aj 0) (af (by refine@bc _ _ _ _ _ ?_;refine@af _ _ _ _ _ _ ?_ ?_ (by exact E9 rfl);refine@W2 _ _ _ _ _ _ ?_;refine@af _ _ _ _ _ _ ?_ ?_ (by exact E9 rfl);exact(aj 2);exact ak;exact ak) ak)))) (λ_ _ _ _=>(aC (ay (i:=0) (show Jv (["_law_way","_law_leaders"]:List Str)from by decide +kernel) rfl (by walk_at "o2")))) (λ_ _ _ _=>(j9 (aF (j8 e) ie (aN (aj 0) dC (λ_ _=>rfl)) (aj 1) (by rfl)))) (λ_ _ _ _=>(aj 0)))
theorem HC:C6 ["_law_ledger","_law_deed"] ["_law_ledger","_law_deed"] (B6 (top 42)):=by walk_at "sc"
theorem dR{b:Addr}{c:IY}(B:L4 K mg cm)(d:oY K cm [7,8,9,12,13,14,15,16])(e:vV mg cm)(a:ka P w K mg base cm 2 "take" 6 ["self","deed"] J4 2)(F:L2.Fun K "_law_tried" "_law_tried" (top 42) b c):aE P w K mg base aW (7) b c ["_law_ledger","_law_deed"] (ba K cm J7 2):=
 D5 F HC λ_ _ _ _ _ _ f h g=>by
  exact(C2 (BZ ⟨rfl,rfl⟩ (BY (oX a (by decide) f (B.cls _ (by decide)) (aj 0) (af (aj 1) ak) (by decide +kernel))) (BW d (by decide) rfl e.m_SwapError (λ_=>(C4 (D4 y7))) BV))
 (C4 (D4 y7)))
theorem sc_law_all_said:C6 ["_law_ledger","_law_passings_here","_law_found","_law_passing"] ["_law_ledger","_law_passings_here"] (B6 (top 43)):=by walk_at "sc"
theorem cZ{b:Addr}{c:IY}(B:L4 K mg cm)(a:f9 P w K mg base cm 2 "said" 1 ["self","passing"] K3 2)(F:L2.Fun K "_law_all_said" "_law_all_said" (top 43) b c):aE P w K mg base aW (2) b c ["_law_ledger","_law_passings_here"] (ba K cm N0 2):=
 D5 F sc_law_all_said λ_ _ _ _ _ _ d f e=>by
  exact(C2 (G9 (i:=2) sc_law_all_said.nd rfl (.inl rfl) (bc ak))
 (C2 (gL JW rfl (aU (aj 1)) (aC (ay (i:=3) sc_law_all_said.nd rfl (.inr rfl)))
 (C4 (G9 (i:=2) sc_law_all_said.nd rfl (.inl rfl) (D6 L0 N9 (aj 2) (M3 (N:=["_law_turn","_law_chain","_law_passing"]) [none,none,some 3] rfl (⟨rfl,rfl,by decide +kernel,by decide +kernel,(ag rfl aB),(ag (λh=>nomatch h) (ag (λh=>nomatch h) (ag (λh=>nomatch h) (ag (λ_=>rfl) aB))))⟩) (.own (.own (.free rfl (by walk_at "o2") (by walk_at "o3") rfl (by walk_at "o2") .nil))) (aU (aZ a (by decide) d (B.cls _ (by decide)) (aj 0) (af (aj 3) ak) (by decide +kernel))) (λ_ _ _ _=>(ib rfl (aS (aC (ay (i:=0) (show Jv (["_law_turn","_law_chain","_law_passing"]:List Str)from by decide +kernel) rfl (by walk_at "o2"))) (aS (aC (ay (i:=1) (show Jv (["_law_turn","_law_chain","_law_passing"]:List Str)from by decide +kernel) rfl (by walk_at "o2"))) cQ)))) (λ_ _ _ _=>Q5) (λ_ _ _ _=>(W2 (af (aj 0) (af (aj 1) (af (aj 2) ak))))))))))
 (C4 (D4 (aj 2)))))
theorem sc_law_names_kept:C6 ["_law_said","_law_free","_law_turn","_law_chain","_law_passing","_law_at","_law_ahead"] ["_law_said","_law_free"] (B6 (top 44)):=by walk_at "sc"
theorem cF{b:Addr}{c:IY}(B:L4 K mg cm)(F:L2.Fun K "_law_names_kept" "_law_names_kept" (top 44) b c):aE P w K mg base aW (1) b c ["_law_said","_law_free"] (ba K cm K7 2):=
 D5 F sc_law_names_kept λ_ _ _ _ _ _ e a d=>by
  exact(C2 (gL JW rfl (aU (aj 0)) (ib rfl (aS (aC (ay (i:=2) sc_law_names_kept.nd rfl (.inr rfl))) (aS (aC (ay (i:=3) sc_law_names_kept.nd rfl (.inr rfl))) (aS (aC (ay (i:=4) sc_law_names_kept.nd rfl (.inl rfl))) cQ))))
 (C2 (V7 (aF (X0 a) j5 (aN (aj 3) au (λ_ _=>rfl)) (aN (aj 4) au (λ_ _=>rfl)) (aD _))
 (C4 (D4 y7))
 J0)
 (C4 (gL JW rfl (Ao rfl B.b_range au (j3 (aj 3) rfl B.b_len)) (aC (ay (i:=5) sc_law_names_kept.nd rfl (.inr rfl)))
 (C4 (V7 (aF (T7 a) X1 (aN (aj 3) (aj 5) (λ_ _=>rfl)) (aj 1) (by rfl))
 (C2 (sZ (N:=["_law_one","_law_chain","_law_at","_law_turn"]) [none,some 3,some 5,some 2] rfl (⟨rfl,rfl,by decide +kernel,by decide +kernel,(ag rfl (ag rfl (ag rfl aB))),(ag (λh=>nomatch h) (ag (λh=>nomatch h) (ag (λ_=>rfl) (ag (λ_=>rfl) (ag (λ_=>rfl) aB)))))⟩) (.own (.free rfl (by walk_at "o2") (by walk_at "o3") rfl (by walk_at "o2") (.free rfl (by walk_at "o2") (by walk_at "o3") rfl (by walk_at "o2") (.free rfl (by walk_at "o2") (by walk_at "o3") rfl (by walk_at "o2") .nil)))) (aU (aj 0)) (λ_ _ _ _=>(aC (ay (i:=0) (show Jv (["_law_one","_law_chain","_law_at","_law_turn"]:List Str)from by decide +kernel) rfl (by walk_at "o2")))) (λ_ _ _ _=>(j9 (PW.pt (jl (aF (O7 a) V0 (aN (aj 0) au (λ_ _=>rfl)) (iG (aj 1) (cP (aj 2)) dB) (aD _)) (bY (aF cz cB (aN (aj 0) au (λ_ _=>rfl)) (aj 3) (aD _))))))) (λ_ _ _ _=>(aj 0)) (i:=6) sc_law_names_kept.nd rfl (.inl rfl))
 (C4 (V7 (PW.pt (Y3 (aF (O7 a) V0 (aj 6) (bc ak) (aD _)) (T6 (M0 (lP rfl (M3 (N:=["_law_one","_law_chain","_law_at"]) [none,some 3,some 5] rfl (⟨rfl,rfl,by decide +kernel,by decide +kernel,(ag rfl (ag rfl aB)),(ag (λh=>nomatch h) (ag (λh=>nomatch h) (ag (λ_=>rfl) (ag (λ_=>rfl) aB))))⟩) (.own (.free rfl (by walk_at "o2") (by walk_at "o3") rfl (by walk_at "o2") (.free rfl (by walk_at "o2") (by walk_at "o3") rfl (by walk_at "o2") .nil))) (aU (aj 6)) (λ_ _ _ _=>(aC (ay (i:=0) (show Jv (["_law_one","_law_chain","_law_at"]:List Str)from by decide +kernel) rfl (by walk_at "o2")))) (λ_ _ _ _=>Q5) (λ_ _ _ _=>(W0 (X0 a) j5 (aN (aN (aj 0) au (λ_ _=>rfl)) au (λ_ _=>rfl)) (aN (aj 1) (aj 2) (λ_ _=>rfl)) (aD _)))) rfl B.b_any)))))
 (C4 (D4 y7))
 J0)))
 J0))))))
 (C4 (D4 y7)))
theorem sc_law:C6 ["_law_script","_law_cell","_law_many","_law_passings_here","_law_leaders","_law_free","_law_limits","_law_ledger","_law_opened","_law_x","_law_passing","_law_chains_here","_law_can","_law_told","_law_laid"] ["_law_script"] (B6 (top 45)):=by walk_at "sc"
theorem iT{u:Addr}{v:IY}(B:L4 K mg cm)(k:cj P w K mg base cm "_law_cell_at" 1 ["_law_script","_law_k"] M6 2)(a:cj P w K mg base cm "_law_mixed" 1 ["_law_cell","_law_k"] G0 2)(g:cj P w K mg base cm "_law_passings" 2 ["_law_cell","_law_many"] M9 2)(f:cj P w K mg base cm "_law_some" 1 ["_law_cell","_law_many"] Q6 2)(l:jP P w K mg base cm 2 "Ledger" 1 ["self","plan","free"] M5 3)(q:jP P w K mg base cm 1 "Plan" 4 ["self","web","leaders","limits"] O9 4)(r:jP P w K mg base cm 0 "Web" 5 ["self","number","passings"] P0 3)(o:cj P w K mg base cm "_law_chains" 2 ["_law_passings_here","_law_leaders","_law_hand"] P1 3)(m:f9 P w K mg base cm 2 "move" 1 ["self"] N8 1)(b:cj P w K mg base cm "_law_tried" 7 ["_law_ledger","_law_deed"] J7 2)(c:f9 P w K mg base cm 2 "can_say" 4 ["self","h"] K6 2)(e:f9 P w K mg base cm 2 "opened" 3 ["self"] K1 1)(n:f9 P w K mg base cm 2 "laid" 1 ["self"] J5 1)(d:cj P w K mg base cm "_law_names_kept" 1 ["_law_said","_law_free"] K7 2)(j:cj P w K mg base cm "_law_all_said" 2 ["_law_ledger","_law_passings_here"] N0 2)(F:L2.Fun K "law" "law" (top 45) u v):aE P w K mg base aW (8) u v ["_law_script"] (ba K cm lZ 1):=
 D5 F sc_law λ_ _ _ _ _ _ p s x=>by
  exact(C2 (G9 (i:=1) sc_law.nd rfl (.inr rfl) (az k (by decide) p rfl (af (aj 0) (af au ak))))
 (C2 (G9 (i:=2) sc_law.nd rfl (.inl rfl) (D6 L0 N9 au (D6 T2 T5 (az a (by decide) p rfl (af (aj 1) (af au ak))) au)))
 (C2 (G9 (i:=3) sc_law.nd rfl (.inr rfl) (az g (by decide) p rfl (af (aj 1) (af (aj 2) ak))))
 (C2 (G9 (i:=4) sc_law.nd rfl (.inl rfl) (az f (by decide) p rfl (af (D6 L0 N9 au (D6 T2 T5 (az a (by decide) p rfl (af (aj 1) (af au ak))) (D6 qU sA (D6 xR Cf au (aj 2)) au))) (af (aj 2) ak))))
 (C2 (G9 (i:=5) sc_law.nd rfl (.inl rfl) (az f (by decide) p rfl (af (az a (by decide) p rfl (af (aj 1) (af au ak))) (af (aj 2) ak))))
 (C2 (G9 (i:=6) sc_law.nd rfl (.inl rfl) (CQ rfl s (M3 (N:=["_law_k","_law_passing","_law_cell"]) [none,none,some 1] rfl (⟨rfl,rfl,by decide +kernel,by decide +kernel,(ag rfl aB),(ag (by walk_at "fb") (ag (by walk_at "fb") (ag (by walk_at "fb") (ag (by walk_at "fb") (ag (by walk_at "fb") aB)))))⟩) (.own (.own (.free rfl (by walk_at "o2") (by walk_at "o3") rfl (by walk_at "o2") .nil))) (sS rfl B.b_enumerate (aj 3)) (λ_ _ _ _=>(ib rfl (aS (aC (ay (i:=0) (show Jv (["_law_k","_law_passing","_law_cell"]:List Str)from by decide +kernel) rfl (by walk_at "o2"))) (aS (aC (ay (i:=1) (show Jv (["_law_k","_law_passing","_law_cell"]:List Str)from by decide +kernel) rfl (by walk_at "o2"))) cQ)))) (λ_ _ _ _=>Q5) (λ_ _ _ _=>(W2 (af (aj 1) (af (D6 T2 T5 (az a (by decide) p rfl (af (aj 2) (af (D6 L0 N9 au (aj 0)) ak))) au) ak))))) rfl B.b_dict))
 (C2 (G9 (i:=7) sc_law.nd rfl (.inl rfl) (n2 l (by decide) p rfl (af (n2 q (by decide) p rfl (af (n2 r (by decide) p rfl (af (aj 2) (af (aj 3) ak))) (af (aj 4) (af (aj 6) ak)))) (af (aj 5) ak))))
 (C2 (G9 (i:=8) sc_law.nd rfl (.inl rfl) (bc ak))
 (C2 (gL JW rfl (aU (iG (aj 0) (cP au) (cP au))) (aC (ay (i:=1) sc_law.nd rfl (.inr rfl)))
 (C2 (G9 (i:=9) sc_law.nd rfl (.inl rfl) (az a (by decide) p rfl (af (aj 1) (af au ak))))
 (C2 (G9 (i:=10) sc_law.nd rfl (.inl rfl) (aN (aj 3) (D6 T2 T5 (D6 u7 z0 (aj 9) au) (j3 (aj 3) rfl B.b_len)) (λ_ _=>rfl)))
 (C2 (G9 (i:=11) sc_law.nd rfl (.inl rfl) (az o (by decide) p rfl (af (aj 3) (af (aj 4) (af (aN (aj 10) au (λ_ _=>rfl)) ak)))))
 (C2 (V7 (aF (O7 s) V0 (D6 T2 T5 (aj 9) au) au (aD _))
 (C4 (j4 (cC m (by decide) p (B.cls _ (by decide)) (aj 7) (by decide +kernel))))
 (C4 (V7 (PW.pt (Y3 (aF (O7 s) V0 (D6 T2 T5 (aj 9) au) au (aD _)) (T6 (aF (O7 s) V0 (aj 11) (bc ak) (aD _)))))
 (C4 (j4 (az b (by decide) p rfl (af (aj 7) (af (W2 (af uh (af (aj 10) ak))) ak)))))
 (C2 (G9 (i:=12) sc_law.nd rfl (.inl rfl) (aZ c (by decide) p (B.cls _ (by decide)) (aj 7) (af (aN (aj 10) au (λ_ _=>rfl)) ak) (by decide +kernel)))
 (C2 (V7 (PW.pt (jl (aF (X0 s) j5 (aj 12) (bc ak) (aD _)) (bY (aF mD nK (D6 T2 T5 (D6 u7 z0 (aj 9) au) au) au (aD _)))))
 (C4 (G9 (i:=11) sc_law.nd rfl (.inl rfl) (aj 12)))
 J0)
 (C4 (j4 (az b (by decide) p rfl (af (aj 7) (af (W2 (af uh (af (aj 10) (af (aN (aj 11) (D6 T2 T5 (D6 u7 z0 (aj 9) au) (j3 (aj 11) rfl B.b_len)) (λ_ _=>rfl)) ak)))) ak))))))))))
 (C2 (G9 (i:=13) sc_law.nd rfl (.inr rfl) (cC e (by decide) p (B.cls _ (by decide)) (aj 7) (by decide +kernel)))
 (C2 (G9 (i:=14) sc_law.nd rfl (.inr rfl) (cC n (by decide) p (B.cls _ (by decide)) (aj 7) (by decide +kernel)))
 (C2 (V7 (PW.pt (Y3 (M0 (lP rfl (M3 (N:=["_law_one","_law_told"]) [none,some 13] rfl (⟨rfl,rfl,by decide +kernel,by decide +kernel,(ag rfl aB),(ag (λh=>nomatch h) (ag (λh=>nomatch h) (ag (λ_=>rfl) aB)))⟩) (.own (.free rfl (by walk_at "o2") (by walk_at "o3") rfl (by walk_at "o2") .nil)) (aU (aj 8)) (λ_ _ _ _=>(aC (ay (i:=0) (show Jv (["_law_one","_law_told"]:List Str)from by decide +kernel) rfl (by walk_at "o2")))) (λ_ _ _ _=>Q5) (λ_ _ _ _=>(W0 (T7 s) X1 (aj 0) (aj 1) (by rfl)))) rfl B.b_any)) (T6 (M0 (lP rfl (M3 (N:=["_law_one","_law_laid"]) [none,some 14] rfl (⟨rfl,rfl,by decide +kernel,by decide +kernel,(ag rfl aB),(ag (λh=>nomatch h) (ag (λh=>nomatch h) (ag (λ_=>rfl) aB)))⟩) (.own (.free rfl (by walk_at "o2") (by walk_at "o3") rfl (by walk_at "o2") .nil)) (aU (aj 13)) (λ_ _ _ _=>(aC (ay (i:=0) (show Jv (["_law_one","_law_laid"]:List Str)from by decide +kernel) rfl (by walk_at "o2")))) (λ_ _ _ _=>Q5) (λ_ _ _ _=>(W0 (T7 s) X1 (aj 0) (aj 1) (by rfl)))) rfl B.b_any)))))
 (C4 (D4 y7))
 J0)
 (C2 (V7 (PW.pt (Y3 (M0 (lP rfl (M3 (N:=["_law_one","_law_passings_here"]) [none,some 3] rfl (⟨rfl,rfl,by decide +kernel,by decide +kernel,(ag rfl aB),(ag (λh=>nomatch h) (ag (λh=>nomatch h) (ag (λ_=>rfl) aB)))⟩) (.own (.free rfl (by walk_at "o2") (by walk_at "o3") rfl (by walk_at "o2") .nil)) (aU (aj 14)) (λ_ _ _ _=>(aC (ay (i:=0) (show Jv (["_law_one","_law_passings_here"]:List Str)from by decide +kernel) rfl (by walk_at "o2")))) (λ_ _ _ _=>Q5) (λ_ _ _ _=>(W0 (T7 s) X1 (aj 0) (aj 1) (by rfl)))) rfl B.b_any)) (T6 (aF cz cB (Dr rfl s (aj 14) rfl B.b_len rfl B.b_set) (j3 (aj 14) rfl B.b_len) (aD _)))))
 (C4 (D4 y7))
 J0)
 (C4 (G9 (i:=8) sc_law.nd rfl (.inl rfl) (aj 13))))))))))))
 (C4 (D4 (az d (by decide) p rfl (af (az j (by decide) p rfl (af (aj 7) (af (aj 3) ak))) (af (aj 5) ak))))))))))))))
end
end Ws
namespace Ws
open PySem PySem.W L2
theorem HD{l:List Bool}(h:l.all id=true)(i:Nat){b:Bool}(a:l[i]?=some b):b=true:=Jg.mp h b (Jn a)
theorem be{c:Type}{l m:List c}(h:l=m)(i:Nat){a b:c}(d:l[i]?=some a)(e:m[i]?=some b):a=b:=by rw[h,e]at d;exact(Jo d).symm
theorem iu{P:Nat->Prop}{a:Nat}{l:List Nat}(h:P a)(r:∀c∈l,P c):∀c∈a::l,P c:=λc b=>by
 rcases IH.mp b with z | z
 .rw[z];exact h
 .exact r c z
theorem HE{P:Nat->Prop}:∀c∈([]:List Nat),P c:=by simp
theorem cH{a b:Bool}(h:(a&&b)=true):a=true/\b=true:=Nj.mp h
structure En(P:IV)(w:JB)(K:Frag)(mg:Str->Option Iv)(base:Heap)(cm:Nat->Addr):Prop where
 ex:∃h:Heap,K.In h/\h.Ns mainGlobals mg
section
variable{P:IV}{w:JB}{K:Frag}{mg:Str->Option Iv}{base:Heap}{cm:Nat->Addr}{n q:Str}{st:Stmt}{fa T:Addr}{fd:IY}{k ar c:Nat}{ps:List Str}{f:Fun}{oc kV doc pm cdv ct tc:Iv}{od an td:Option Addr}{osl ts:Array (Option Iv)}{items:Array Iv}{tn:Nat}
theorem En.of(E:En P w K mg base cm){v:Iv}(h:ku K n v=true):mg n=some v:=by
 obtain⟨a,X,G⟩:=E.ex;exact mg_of X G (of_decide_eq_true h)
theorem En.ns(E:En P w K mg base cm){a:Addr}(h:bM K n a=true):mg n=some (.ref a):=E.of h
theorem En.no(E:En P w K mg base cm)(h:mj K n=true):mg n=none:=by
 obtain⟨a,X,G⟩:=E.ex;exact mg_none_of X G (of_decide_eq_true h)
theorem bD{x:Bool}(l:K.lookup fa=some ⟨oc,od,.func (fnOf n q (N2 st) (G7 st) (B6 st) .none kV doc pm an cdv ct),osl⟩)(b:(x&&bf K cdv q fa)=true):L2.Fun K n q st fa (fnOf n q (N2 st) (G7 st) (B6 st) .none kV doc pm an cdv ct):=
 zi l (cH (cH b).2).1 (cH (cH b).2).2
theorem HF{x:Bool}(l:K.lookup fa=some ⟨oc,od,.func (fnOf n q (N2 st) (G7 st) (B6 st) (.ref T) kV doc pm an cdv ct),osl⟩)(t:K.lookup T=some ⟨tc,td,.seq items tn,ts⟩)(b:(x&&bf K cdv q fa)=true):eL K n q st fa (fnOf n q (N2 st) (G7 st) (B6 st) (.ref T) kV doc pm an cdv ct) items:=
 AZ l (cH (cH b).2).1 (cH (cH b).2).2 t
theorem vY(a:(cM K (cm c) n fa&&bf K cdv q fa)=true):hJ K (cm c) n fa:=⟨of_decide_eq_true (cH (cH a).1).1,(cH (cH a).1).2,(cH (cH a).2).2⟩
theorem HG(a:(cM K (cm c) "__init__" fa&&bf K cdv q fa)=true)(b:ky K (cm c)=true):L2.Mk K (cm c) fa:=⟨(cH b).1,of_decide_eq_true (cH (cH a).1).1,(cH (cH a).1).2,(cH b).2⟩
variable(E:En P w K mg base cm)
include E
theorem dw(O:aE P w K mg base aW k fa fd ps (ba K cm f ar))(a:(bM K n fa&&bf K cdv q fa)=true)(b:L2.Binds K fd ps [])(e:∀d A v g,f d A=.ok v g->d.length=ar:=by exact λ_ _ _ _=>nO):cj P w K mg base cm n k ps f ar:=⟨⟨_,_,O,E.ns (cH a).1,(cH (cH a).2).2,b⟩,e⟩
theorem fS(O:aE P w K mg base aW k fa fd ps (ba K cm f ar))(d:(cM K (cm c) n fa&&bf K cdv q fa)=true)(b:L2.Binds K fd ps [])(e:∀a A v g,f a A=.ok v g->a.length=ar:=by exact λ_ _ _ _=>nO):f9 P w K mg base cm c n k ps f ar:=⟨⟨_,_,O,vY d,b⟩,e⟩
theorem qC(O:aE P w K mg base (ft P w) k fa fd ps (gM K cm f ar))(d:(cM K (cm c) n fa&&bf K cdv q fa)=true)(b:L2.Binds K fd ps [])(e:∀a A,f a A≠.no->a.length=ar:=by exact λ_ _=>BN):ka P w K mg base cm c n k ps f ar:=⟨⟨_,_,O,vY d,b⟩,e⟩
theorem qD(O:aE P w K mg base aW k fa fd ps (ba K cm f ar))(e:(cM K (cm c) "__init__" fa&&bf K cdv q fa)=true)(g:ky K (cm c)=true)(i:bM K n (cm c)=true)(b:L2.Binds K fd ps [])(j:∀a A v d,f a A=.ok v d->v=.non)(l:∀a A v d,f a A=.ok v d->a.length=ar:=by exact λ_ _ _ _=>nO):jP P w K mg base cm c n k ps f ar:=⟨⟨_,_,O,HG e g,E.ns i,b⟩,λa A v d h=>⟨l a A v d h,j a A v d h⟩⟩
theorem base_of(g:((Jj 7).all λc=>ml K (cm c))=true)(j:blts.all (mj K)=true):L4 K mg cm:=by
 have d:=λc d=>Jg.mp g c (JG.mpr d);have a:=λb l=>E.no (Jg.mp j b l);refine⟨AK K,λc e=>?_,λc i m e=>?_,a _ (by decide),a _ (by decide),a _ (by decide),a _ (by decide),a _ (by decide),a _ (by decide),a _ (by decide),a _ (by decide),a _ (by decide),a _ (by decide),a _ (by decide),a _ (by decide),a _ (by decide),a _ (by decide),a _ (by decide),a _ (by decide),a _ (by decide)⟩
 .have:=d c e;unfold ml at this;simp only[Jc]at this;exact⟨this.1.1.1.1,this.1.1.1.2,this.1.1.2,of_decide_eq_true this.1.2⟩
 .have:=d c e;unfold ml at this;simp only[Jc]at this;have h:=Jg.mp this.2 i (JG.mpr m);show findIn K _ _=some none;exact of_decide_eq_true h
omit E
def kz(K:Frag)(C:Addr):Prop:=∃e q N bs d a g sub h b i j l m o p,K.lookup C=some (excClassObj e q C N bs d a g sub h b i j l m o p "ValueError.__new__")/\U4 d=true/\a=true
theorem iw{C:Addr}{d q:Str}{N:Addr}{bs b:List Iv}{e:List Str}{sub:List Iv}{g:Bool}{a:Option Bool}{i:Option Addr}{j l m p r:Option Iv}(h:K.lookup C=some (excClassObj d q C N bs b true e sub g a i j l m p r "ValueError.__new__"))(o:U4 b=true):kz K C:=⟨_,_,_,_,_,_,_,_,_,_,_,_,_,_,_,_,h,o,rfl⟩
theorem vZ{a:Addr}{es:List Nat}(h:(es.all λc=>jz K (cm c) a)=true)(d:∀c∈es,kz K (cm c)):∀c∈es,XK K (cm c) a:=λc b=>by
 have:=Jg.mp h c b;unfold jz cM at this;simp only[Jc]at this;obtain⟨⟨⟨⟨⟨⟨⟨⟨⟨⟨e,g⟩,i⟩,j⟩,l⟩,p⟩,r⟩,s⟩,u⟩,m⟩,o⟩:=this;exact⟨d c b,of_decide_eq_true e,g,i,of_decide_eq_true j,of_decide_eq_true l⟩
theorem HH{i:Addr}{es:List Nat}(h:(es.all λc=>jz K (cm c) i)=true)(l:vX K cm es=true)(j:vW K=true)(m:∀c∈es,kz K (cm c)):oY K cm es/\BX K cm es:=by
 have b:∀c∈es,∀d∈es,ju K _ _=gI c d/\kitOne K _ _=some _:=λc a d o=>by
  have:=Jg.mp (Jg.mp l c a) d o;exact⟨of_decide_eq_true (cH this).1,of_decide_eq_true (cH this).2⟩
 refine⟨⟨λc a=>⟨i,vZ h m c a⟩,λc a k e=>(b c a k e).1⟩,⟨λc a=>?_,λc a k e=>(b c a k e).2,λc a=>?_⟩⟩
 .have:=Jg.mp h c a;unfold jz cM at this;simp only[Jc]at this;obtain⟨⟨⟨⟨⟨⟨⟨⟨⟨⟨x,y⟩,z⟩,A⟩,B⟩,p⟩,r⟩,s⟩,u⟩,g⟩,v⟩:=this;exact⟨of_decide_eq_true p,of_decide_eq_true r,s,of_decide_eq_true u,of_decide_eq_true (cH j).1,of_decide_eq_true (cH j).2,of_decide_eq_true g⟩
 .have:=Jg.mp h c a;exact of_decide_eq_true (cH this).2
theorem ix{a:Addr}{es:List Nat}(E:En P w K mg base cm)(O:aE P w K mg base aW k a fd ps (jt K))(h:(es.all λc=>jz K (cm c) a)=true)(d:∀c∈es,kz K (cm c))(b:L2.Binds K fd ps [])(e:c∈es)(g:bM K n (cm c)=true):iK P w K mg base cm c n k:=⟨⟨_,_,_,O,vZ h d c e,E.ns g,b⟩⟩
end
end Ws
namespace Ws
open PySem
theorem HI{vs:List PV}{A A':PHp}{v:PV}(h:M5 vs A=.ok v A'):v=.non:=oB (L3 O3 (L3 O3 (L3 O3 (L3 O3 (L3 O3 (L3 O3 O3)))))) h
theorem HJ{vs:List PV}{A A':PHp}{v:PV}(h:O9 vs A=.ok v A'):v=.non:=oB (L3 (lA n0 lB) (L3 tF (L3 (Cs (L3 (lA n0 lB) Ct)) (L3 O3 (L3 O3 (L3 O3 (L3 O3 O3))))))) h
theorem HK{vs:List PV}{A A':PHp}{v:PV}(h:P0 vs A=.ok v A'):v=.non:=oB (L3 (lA n0 lB) (L3 tF (L3 (lA n0 lB) (L3 O3 O3)))) h
end Ws
theorem HM{P:List Iv->Prop}(h:P [])(a:List Iv)(e:a.length=0):P a:=by
 cases a with
 | nil=>exact h
 | cons x a=>exact absurd e (Mf _)
theorem wa{P:List Iv->Prop}(h:∀x,P [x])(a:List Iv)(e:a.length=1):P a:=by
 cases a with
 | nil=>exact absurd e (Mf _).symm
 | cons x a=>exact HM (P:=λa=>P (x::a)) (h x) a (PM e)
theorem wb{P:List Iv->Prop}(h:∀x y,P [x,y])(a:List Iv)(e:a.length=2):P a:=by
 cases a with
 | nil=>exact absurd e (Mf _).symm
 | cons x a=>exact wa (P:=λa=>P (x::a)) (h x) a (PM e)
theorem wc{P:List Iv->Prop}(h:∀x y z,P [x,y,z])(a:List Iv)(e:a.length=3):P a:=by
 cases a with
 | nil=>exact absurd e (Mf _).symm
 | cons x a=>exact wb (P:=λa=>P (x::a)) (h x) a (PM e)
theorem HN{P:List Iv->Prop}(h:∀x y z u,P [x,y,z,u])(a:List Iv)(e:a.length=4):P a:=by
 cases a with
 | nil=>exact absurd e (Mf _).symm
 | cons x a=>exact wc (P:=λa=>P (x::a)) (h x) a (PM e)
local macro_rules | `(tactic| walk_at "b1")=>`(tactic| exact λ_ _ _ _ _ _=>wa λ_=>rfl)
local macro_rules | `(tactic| walk_at "b2")=>`(tactic| exact λ_ _ _ _ _ _=>wb λ_ _=>rfl)
local macro_rules | `(tactic| walk_at "b3")=>`(tactic| exact λ_ _ _ _ _ _=>wc λ_ _ _=>rfl)
local macro_rules | `(tactic| walk_at "b4")=>`(tactic| exact λ_ _ _ _ _ _=>HN λ_ _ _ _=>rfl)
namespace Ws
open PySem PySem.W L2
set_option Elab.async false
set_option maxHeartbeats 0
theorem hop:∀w:JB,(fencedOpening treeTable PySem.Challenge.pw_wordswap_k27_whole_names_kept w 8074).map (λs=>(s.heap,s.gens,s.drawn,s.toks))=some (Mu w.params,#[],Qm,Qz):=boot_open (by kernel_rfl) (by kernel_rfl) (λs=>by kernel_rfl)
theorem hdl:LeftO PySem.Challenge.pw_wordswap_k27_whole_names_kept (view PySem.Challenge.pw_wordswap_k27_whole_names_kept kA) qE (xt PySem.Challenge.pw_wordswap_k27_whole_names_kept) (λs=>ij s.heap) (Kw PySem.Challenge.pw_wordswap_k27_whole_names_kept 8074) 8074/\∀w,((bs (Kw PySem.Challenge.pw_wordswap_k27_whole_names_kept 8074 w)).all id,os (Kw PySem.Challenge.pw_wordswap_k27_whole_names_kept 8074 w))=(true,ov PySem.Challenge.pw_wordswap_k27_whole_names_kept):=AS (q:=λp=>view p kA) (Xt:=xt) (ob:=λK=>((bs K).all id,os K)) (va:=λp=>(true,ov p)) rfl PySem.W.Fast.te6613529449190102663 PySem.W.Fast.te10156331382660048174 PySem.W.Fast.te11892475500146522536 PySem.W.Fast.te14364793385576792824 PySem.W.Fast.te4187177175401517315 hop HR
theorem HS{w:JB}{h:Heap}{mg:Str->Option Iv}{fa:Addr}{K:Frag}(e:(bs K).all id=true/\os K=ov PySem.Challenge.pw_wordswap_k27_whole_names_kept)(X:K.In h)(G:h.Ns mainGlobals mg)(k2:mg "law" = some (.ref fa)):∃fd:IY,(∀(s:IA)(v:Iv),QJ s fd ⟨[v],[]⟩ [("_law_script",v)])/\∀base:Heap,K.In base->base.Ns mainGlobals mg->aE PySem.Challenge.rw_wordswap_k27_whole_names_kept.prog w K mg base aW 8 fa fd ["_law_script"] (oE K):=by
 have b:=λi {x}=>HD e.1 i (b:=x);have z:=k2.symm.trans (PySem.W.mg_of X G (of_decide_eq_true (cH (b 59 rfl)).1));cases z;refine⟨fnOf "law" "law" (N2 (top 45)) (G7 (top 45)) (B6 (top 45)) .none .none .none (.str "law_wordswap_k27_whole_names_kept" 753) none (.ref 500) .none,λs v=>.of_eq rfl,λbase _ _=>?_⟩;have E:En PySem.Challenge.rw_wordswap_k27_whole_names_kept.prog w K mg base cmA:=⟨⟨h,X,G⟩⟩;have B:=base_of E (b 0 rfl) (b 1 rfl);have GL:mi mg:=⟨⟨_,E.of (b 13 rfl)⟩,⟨_,E.of (b 14 rfl)⟩,⟨_,E.of (b 15 rfl)⟩,⟨_,E.of (b 16 rfl)⟩⟩;have F0:=bD (st:=(C1 (top 2) 0)) (be e.2 0 rfl rfl) (b 17 rfl);have F1:=bD (st:=(top 36)) (be e.2 1 rfl rfl) (b 18 rfl);have F2:=bD (st:=(top 37)) (be e.2 2 rfl rfl) (b 19 rfl);have F3:=bD (st:=(top 38)) (be e.2 3 rfl rfl) (b 20 rfl);have F4:=bD (st:=(top 39)) (be e.2 4 rfl rfl) (b 21 rfl);have F5:=HF (st:=(C1 (top 29) 0)) (be e.2 5 rfl rfl) (be e.2 6 rfl rfl) (b 22 rfl);have F6:=bD (st:=(top 31)) (be e.2 7 rfl rfl) (b 23 rfl);have F7:=bD (st:=(top 13)) (be e.2 8 rfl rfl) (b 24 rfl);have F8:=bD (st:=(top 14)) (be e.2 9 rfl rfl) (b 25 rfl);have F9:=bD (st:=(top 32)) (be e.2 10 rfl rfl) (b 26 rfl);have e6:=bD (st:=(top 33)) (be e.2 11 rfl rfl) (b 27 rfl);have e7:=bD (st:=(C1 (top 34) 0)) (be e.2 12 rfl rfl) (b 28 rfl);have e8:=bD (st:=(top 15)) (be e.2 13 rfl rfl) (b 29 rfl);have e9:=bD (st:=(top 16)) (be e.2 14 rfl rfl) (b 30 rfl);have f0:=bD (st:=(top 17)) (be e.2 15 rfl rfl) (b 31 rfl);have f1:=bD (st:=(C1 (top 18) 0)) (be e.2 16 rfl rfl) (b 32 rfl);have f2:=bD (st:=(top 40)) (be e.2 17 rfl rfl) (b 33 rfl);have f3:=bD (st:=(top 41)) (be e.2 18 rfl rfl) (b 34 rfl);have f4:=bD (st:=(C1 (top 29) 2)) (be e.2 19 rfl rfl) (b 35 rfl);have f5:=bD (st:=(top 26)) (be e.2 20 rfl rfl) (b 36 rfl);have g0:=bD (st:=(top 20)) (be e.2 21 rfl rfl) (b 37 rfl);have g1:=bD (st:=(top 27)) (be e.2 22 rfl rfl) (b 38 rfl);have g2:=bD (st:=(top 28)) (be e.2 23 rfl rfl) (b 39 rfl);have g3:=bD (st:=(C1 (top 29) 4)) (be e.2 24 rfl rfl) (b 40 rfl);have g4:=bD (st:=(C1 (top 29) 7)) (be e.2 25 rfl rfl) (b 41 rfl);have g5:=bD (st:=(C1 (top 34) 1)) (be e.2 26 rfl rfl) (b 42 rfl);have g6:=bD (st:=(C1 (top 29) 8)) (be e.2 27 rfl rfl) (b 43 rfl);have h0:=bD (st:=(C1 (top 29) 10)) (be e.2 28 rfl rfl) (b 44 rfl);have h1:=bD (st:=(C1 (top 29) 9)) (be e.2 29 rfl rfl) (b 45 rfl);have h2:=bD (st:=(C1 (top 29) 5)) (be e.2 30 rfl rfl) (b 46 rfl);have h3:=bD (st:=(C1 (top 29) 3)) (be e.2 31 rfl rfl) (b 47 rfl);have h4:=bD (st:=(top 42)) (be e.2 32 rfl rfl) (b 48 rfl);have h5:=bD (st:=(C1 (top 18) 2)) (be e.2 33 rfl rfl) (b 49 rfl);have h6:=bD (st:=(top 21)) (be e.2 34 rfl rfl) (b 50 rfl);have h7:=bD (st:=(top 22)) (be e.2 35 rfl rfl) (b 51 rfl);have h8:=bD (st:=(C1 (top 29) 15)) (be e.2 36 rfl rfl) (b 52 rfl);have i1:=bD (st:=(C1 (top 29) 14)) (be e.2 37 rfl rfl) (b 53 rfl);have i2:=bD (st:=(C1 (top 29) 11)) (be e.2 38 rfl rfl) (b 54 rfl);have j1:=bD (st:=(C1 (top 29) 12)) (be e.2 39 rfl rfl) (b 55 rfl);have j2:=bD (st:=(C1 (top 29) 13)) (be e.2 40 rfl rfl) (b 56 rfl);have k0:=bD (st:=(top 44)) (be e.2 41 rfl rfl) (b 57 rfl);have k1:=bD (st:=(top 43)) (be e.2 42 rfl rfl) (b 58 rfl);have k4:=bD (st:=(top 45)) (be e.2 43 rfl rfl) (b 59 rfl);have XO:∀c∈[7,8,9,12,13,14,15,16],kz K (cmA c):=(iu (iw (be e.2 44 rfl rfl) rfl) (iu (iw (be e.2 45 rfl rfl) rfl) (iu (iw (be e.2 46 rfl rfl) rfl) (iu (iw (be e.2 47 rfl rfl) rfl) (iu (iw (be e.2 48 rfl rfl) rfl) (iu (iw (be e.2 49 rfl rfl) rfl) (iu (iw (be e.2 50 rfl rfl) rfl) (iu (iw (be e.2 51 rfl rfl) rfl) HE))))))));obtain⟨ER,EG⟩:=HH (b 61 rfl) (b 62 rfl) (b 60 rfl) XO;have MC:vV mg cmA:=⟨E.ns (b 5 rfl),E.ns (b 6 rfl),E.ns (b 7 rfl),E.ns (b 8 rfl),E.ns (b 9 rfl),E.ns (b 10 rfl),E.ns (b 11 rfl),E.ns (b 12 rfl),E.no (b 63 rfl)⟩;have OE:=Hc (P:=PySem.Challenge.rw_wordswap_k27_whole_names_kept.prog) (w:=w) (base:=base) (mg:=mg) F0;have b0:=(F0.binds (ps:=["self","at"]) (by walk_at "b2"))
 have e1:=ix E OE (b 61 rfl) XO b0 (c:=7) (by decide) (b 5 rfl);have e5:=ix E OE (b 61 rfl) XO b0 (c:=8) (by decide) (b 6 rfl);have e4:=ix E OE (b 61 rfl) XO b0 (c:=9) (by decide) (b 7 rfl);have c3:=ix E OE (b 61 rfl) XO b0 (c:=12) (by decide) (b 8 rfl);have d2:=ix E OE (b 61 rfl) XO b0 (c:=13) (by decide) (b 9 rfl);have b1:=ix E OE (b 61 rfl) XO b0 (c:=14) (by decide) (b 10 rfl);have e0:=ix E OE (b 61 rfl) XO b0 (c:=15) (by decide) (b 11 rfl);have b2:=ix E OE (b 61 rfl) XO b0 (c:=16) (by decide) (b 12 rfl);have Y:=dw E (f:=M6) (dv B F1) (b 18 rfl) (F1.binds (by walk_at "b2"));have A:=dw E (f:=G0) (dQ B F2) (b 19 rfl) (F2.binds (by walk_at "b2"));have N:=dw E (f:=M9) (cY B A F3) (b 20 rfl) (F3.binds (by walk_at "b2"));have b3:=dw E (f:=Q6) (eA B F4) (b 21 rfl) (F4.binds (by walk_at "b2"));have a0:=qD E (f:=M5) (dj B F5) (b 22 rfl) (b 65 rfl) (b 3 rfl) (F5.binds 3 rfl λ_ _ _ _ _ _ _ us hl=>match us,hl with | [_,_,_],_=>⟨_,rfl,rfl⟩) λ_ _ _ _=>HI;have a7:=dw E (f:=V3) (dO B F6) (b 23 rfl) (F6.binds (by walk_at "b1"));have n:=dw E (f:=M4) (er B F7) (b 24 rfl) (F7.binds (by walk_at "b1"));have k:=dw E (f:=K4) (eU B n F8) (b 25 rfl) (F8.binds (by walk_at "b2"));have a1:=dw E (f:=Q1) (dm B a7 k F9) (b 26 rfl) (F9.binds (by walk_at "b2"));have b5:=dw E (f:=T9) (et B n e6) (b 27 rfl) (e6.binds (by walk_at "b1"));have a8:=qD E (f:=O9) (dP B a1 b5 e7) (b 28 rfl) (b 66 rfl) (b 4 rfl) (e7.binds (by walk_at "b4")) λ_ _ _ _=>HJ;have m:=dw E (f:=G6) (bS B GL n e8) (b 29 rfl) (e8.binds (by walk_at "b1"));have y:=dw E (f:=L8) (dy B k e9) (b 30 rfl) (e9.binds (by walk_at "b2"));have l:=dw E (f:=G1) (bL B y f0) (b 31 rfl) (f0.binds (by walk_at "b2"));have c0:=qD E (f:=P0) (eu B m l f1) (b 32 rfl) (b 64 rfl) (b 2 rfl) (f1.binds (by walk_at "b3")) λ_ _ _ _=>HK;have c1:=dw E (f:=U2) (eB B f2) (b 33 rfl) (f2.binds (by walk_at "b2"));have a5:=dw E (f:=P1) (dA B c1 f3) (b 34 rfl) (f3.binds (by walk_at "b3"));have a2:=fS E (f:=N8) (dr B f4) (b 35 rfl) (f4.binds (by walk_at "b1"));have d1:=dw E (f:=Z9) (fH B y f5) (b 36 rfl) (f5.binds (by walk_at "b2"));have c2:=dw E (f:=U0) (ez B k g0) (b 37 rfl) (g0.binds (by walk_at "b3"));have a3:=dw E (f:=N7) (dq B k c2 g1) (b 38 rfl) (g1.binds (by walk_at "b2"));have c4:=dw E (f:=Q8) (eV B GL d1 a3 g2) (b 39 rfl) (g2.binds (by walk_at "b2"));have r:=qC E (f:=J8) (cb B d2 g3) (b 40 rfl) (g3.binds (by walk_at "b2"));have d:=fS E (f:=E5) (bE B g4) (b 41 rfl) (g4.binds (by walk_at "b2"));have a6:=fS E (f:=R7) (dz B g5) (b 42 rfl) (g5.binds (by walk_at "b2"));have C:=fS E (f:=K5) (cD B a6 g6) (b 43 rfl) (g6.binds (by walk_at "b3"));have g:=fS E (f:=E6) (bF B h0) (b 44 rfl) (h0.binds (by walk_at "b2"));have a:=fS E (f:=D7) (bX B g h1) (b 45 rfl) (h1.binds (by walk_at "b2"));have u:=qC E (f:=J9) (cc B d b1 C e0 a b2 h2) (b 46 rfl) (h2.binds (by walk_at "b2"));have O:=qC E (f:=J4) (cX B GL c4 c3 r u h3) (b 47 rfl) (h3.binds (by walk_at "b2"))
 have a9:=dw E (f:=J7) (dR B ER MC O h4) (b 48 rfl) (h4.binds (by walk_at "b2"));have J:=fS E (f:=H8) (cJ B h5) (b 49 rfl) (h5.binds (by walk_at "b2"));have T:=dw E (f:=K9) (cW B J h6) (b 50 rfl) (h6.binds (by walk_at "b2"));have a4:=dw E (f:=N6) (dn B T h7) (b 51 rfl) (h7.binds (by walk_at "b3"));have D:=fS E (f:=K6) (cE B a4 a h8) (b 52 rfl) (h8.binds (by walk_at "b2"));have o:=fS E (f:=K3) (dt B i1) (b 53 rfl) (i1.binds (by walk_at "b2"));have j:=fS E (f:=E7) (bG B o i2) (b 54 rfl) (i2.binds (by walk_at "b2"));have p:=fS E (f:=J5) (du B j1) (b 55 rfl) (j1.binds (by walk_at "b1"));have L:=fS E (f:=K1) (cK B j p j2) (b 56 rfl) (j2.binds (by walk_at "b1"));have I:=dw E (f:=K7) (cF B k0) (b 57 rfl) (k0.binds (by walk_at "b2"));have U:=dw E (f:=N0) (cZ B o k1) (b 58 rfl) (k1.binds (by walk_at "b2"));exact(iT (P:=PySem.Challenge.rw_wordswap_k27_whole_names_kept.prog) (w:=w) (base:=base) B Y A N b3 a0 a8 c0 a5 a2 a9 D L p I U k4).imp λvs H Q E q=>AL law_pure vs H Q E q
end Ws
open PySem PySem.W PyProof.Rows
set_option Elab.async false
set_option maxRecDepth 100000 in
set_option maxHeartbeats 0 in
theorem PySem.Challenge.cw_wordswap_k27_whole_names_kept_holds : PySem.Challenge.rw_wordswap_k27_whole_names_kept.Holds := by
 w_on;refine holds_law Ws.HU λsaid=>?_
 refine Ws.AV (l:=PySem.Challenge.rw_wordswap_k27_whole_names_kept) (d:=⟨"law",L2.N2 (Ws.top 45),L2.G7 (Ws.top 45),L2.B6 (Ws.top 45),Ws.AU (Ws.top 45)⟩) Ws.hdl.1 (by kernel_rfl) (by kernel_rfl) (by kernel_rfl) (by first | rfl | kernel_rfl) (by assumption) (by decide +kernel) ⟨rfl,rfl,rfl,rfl,rfl,by decide +kernel⟩ ?hw ?hc
 case hw=>w_witness2
 case hc=>exact Ws.AX (l:=PySem.Challenge.rw_wordswap_k27_whole_names_kept) (k:=8) (x:="_law_script") rfl (by kernel_rfl) ⟨rfl,by decide,by decide⟩ (λw h Y=>Y) λw mg fa h KX G hmg=>Ws.HS (Prod.mk.inj (Ws.hdl.2 w)) KX G hmg
